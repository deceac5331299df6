/- Contracts of package word and of its reference: token, the place of a byte, fold and trim as the reference does them. -/
import Derived.Test.YtcfdajaideidkaaWordB
namespace Go.Proofs.Ytcfdajaideidkaa
open Go.RowKit
set_option linter.all false
set_option maxRecDepth 100000

theorem token_no (l : List UInt8) (k : Nat) (c : UInt8) (h : l[k]? = some c) (hc : tokU c = false) : tokenL l = false := by
  unfold tokenL
  have : l.all tokU = false := by
    rw [List.all_eq_false]
    exact ⟨c, List.mem_of_getElem? h, by simp [hc]⟩
  simp [this]
theorem token_all (l : List UInt8) (h : ∀ (j : Nat) c, l[j]? = some c → tokU c = true) : tokenL l = !l.isEmpty := by
  unfold tokenL
  have : l.all tokU = true := by
    rw [List.all_eq_true]
    intro c hc
    obtain ⟨k, hk⟩ := List.getElem?_of_mem hc
    exact h k c hk
  simp [this]

set_option maxHeartbeats 400000 in
theorem oneByte_any (c : UInt8) (n : Int) (hn : n = (c.toNat : Int)) (w : World) :
    Calls Try.prog 87 #[.int .i64 n] w fun e w' => e = .returned (.string (txt [c])) ∧ Below w.heap.size w w' := by
  have hc := u8_lt c
  subst hn
  have hcv := run_convert_bytes_back (P := Try.prog) (w.alloc (.cells #[.int .u8 (c.toNat : Int)] 5)) 115 9 5 ⟨w.heap.size, 0, none⟩ 1 [c] Try.underlying115 Try.underlying5 Try.underlying9 (fun j hj => by
    obtain rfl : j = 0 := by simp at hj; omega
    simp [Addr.add])
  simp only [List.length_cons, List.length_nil, Nat.zero_add] at hcv
  go_enter Try.func87, Try.ntmps87
  go_wp2
  go_ret
  exact ⟨rfl, (Below.refl _ _).alloc (Nat.le_refl _) _⟩
theorem place_no (l : List UInt8) (b : UInt8) (h : ∀ (j : Nat) c, l[j]? = some c → c ≠ b) : Lib.indexByte l b = -1 := by
  have hge := Lib.indexByte_ge l b
  by_cases hn : Lib.indexByte l b = -1
  · exact hn
  · obtain ⟨o, ho⟩ : ∃ o : Nat, Lib.indexByte l b = o := ⟨(Lib.indexByte l b).toNat, by omega⟩
    exact absurd rfl (h o b (Lib.indexByte_some ho).1)
theorem place_yes (l : List UInt8) (b : UInt8) (k : Nat) (hk : l[k]? = some b) (h : ∀ (j : Nat) c, l[j]? = some c → j < k → c ≠ b) : Lib.indexByte l b = k := by
  have hge := Lib.indexByte_ge l b
  by_cases hn : Lib.indexByte l b = -1
  · exact absurd hk (Lib.indexByte_none hn k)
  · obtain ⟨o, ho⟩ : ∃ o : Nat, Lib.indexByte l b = o := ⟨(Lib.indexByte l b).toNat, by omega⟩
    obtain ⟨h1, h2⟩ := Lib.indexByte_some ho
    rcases Nat.lt_trichotomy o k with hlt | he | hgt
    · exact absurd rfl (h o b h1 hlt)
    · rw [ho, he]
    · exact absurd hk (h2 k hgt)
end Go.Proofs.Ytcfdajaideidkaa
