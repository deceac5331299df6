/- Contracts of package word and of its reference: token, the place of a byte, fold and trim as the reference does them. -/
import Derived.Test.YtoppjfambomdmaaWordB
namespace Go.Proofs.Ytoppjfambomdmaa
open Go.RowKit
set_option linter.all false

theorem token_no (l : List UInt8) (k : Nat) (c : UInt8) (h : l[k]? = some c) (hc : tokU c = false) : tokenL l = false := by
  unfold tokenL
  have : l.all tokU = false := by
    rw [List.all_eq_false]
    exact ⟨c, List.mem_of_getElem? h, by simp [hc]⟩
  simp [this]
theorem token_all (l : List UInt8) (h : ∀ (j : Nat) c, l[j]? = some c → tokU c = true) : tokenL l = !l.isEmpty := by
  unfold tokenL
  have : l.all tokU = true := by
    rw [List.all_eq_true]
    intro c hc
    obtain ⟨k, hk⟩ := List.getElem?_of_mem hc
    exact h k c hk
  simp [this]

theorem place_no (l : List UInt8) (b : UInt8) (h : ∀ (j : Nat) c, l[j]? = some c → c ≠ b) : Lib.indexByte l b = -1 := by
  have hge := Lib.indexByte_ge l b
  by_cases hn : Lib.indexByte l b = -1
  · exact hn
  · obtain ⟨o, ho⟩ : ∃ o : Nat, Lib.indexByte l b = o := ⟨(Lib.indexByte l b).toNat, by omega⟩
    exact absurd rfl (h o b (Lib.indexByte_some ho).1)
theorem place_yes (l : List UInt8) (b : UInt8) (k : Nat) (hk : l[k]? = some b) (h : ∀ (j : Nat) c, l[j]? = some c → j < k → c ≠ b) : Lib.indexByte l b = k := by
  have hge := Lib.indexByte_ge l b
  by_cases hn : Lib.indexByte l b = -1
  · exact absurd hk (Lib.indexByte_none hn k)
  · obtain ⟨o, ho⟩ : ∃ o : Nat, Lib.indexByte l b = o := ⟨(Lib.indexByte l b).toNat, by omega⟩
    obtain ⟨h1, h2⟩ := Lib.indexByte_some ho
    rcases Nat.lt_trichotomy o k with hlt | he | hgt
    · exact absurd rfl (h o b h1 hlt)
    · rw [ho, he]
    · exact absurd hk (h2 k hgt)
set_option maxHeartbeats 1000000 in
theorem placeOf_any (s : ByteArray) (b : UInt8) (w : World) (hs : s.size ≤ maxLen) :
    Calls Try.prog 16 #[.string s, .int .u8 (b.toNat : Int)] w fun e w' => e = .returned (.int .i64 (Lib.indexByte s.data.toList b)) ∧ w' = w := by
  unfold maxLen at hs
  go_enter Try.func16, Try.ntmps16
  go_wp2
  go_loop [5] (fun i => ∃ k : Nat, k ≤ s.size ∧ i = .int .i64 k ∧ Hid (∀ (j : Nat) c, s.data.toList[j]? = some c → j < k → c ≠ b)) (fun i => s.size - (intOf i).toNat)
  case atStart => exact ⟨0, Nat.zero_le _, rfl, fun _ _ _ h => absurd h (by omega)⟩
  case round =>
    obtain ⟨k, hk, rfl, hb⟩ := hrel
    by_cases hlt : k < s.size
    · have HG : Hid (s.data.toList[k]? = some s[k]) := get_of s k hlt
      by_cases heq : s[k] = b
      · have HT : Hid (Lib.indexByte s.data.toList b = k) := place_yes _ _ k (by rw [HG.out, heq]) hb.out
        have hbq : ((s[k].toNat : Int) == (b.toNat : Int)) = true := by rw [heq]; simp
        clear heq
        go_wp2
        go_ret
        refine ⟨?_, rfl⟩
        rw [HT.out]; rfl
      · have hbq : ((s[k].toNat : Int) == (b.toNat : Int)) = false := by
          rw [beq_eq_false_iff_ne]
          intro h
          exact heq (UInt8.toNat_inj.1 (by omega))
        have HE : Hid (s[k] ≠ b) := heq
        clear heq
        go_wp2
        go_round
        case rel =>
          refine ⟨k + 1, by omega, by go_num, fun j c hj hlt2 => ?_⟩
          by_cases e : j = k
          · subst e
            rw [HG.out] at hj
            injection hj with hj
            rw [← hj]; exact HE.out
          · exact hb.out j c hj (by omega)
        case measure => simp [intOf]; omega
    · have HT : Hid (Lib.indexByte s.data.toList b = -1) := place_no _ _ (fun j c hj => hb.out j c hj (by have := (List.getElem?_eq_some_iff.1 hj).1; simp at this; omega))
      go_wp2
      go_ret
      refine ⟨?_, rfl⟩
      rw [HT.out]; rfl
end Go.Proofs.Ytoppjfambomdmaa
