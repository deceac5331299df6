/- Contracts of package word: the place of a byte, a token's byte, cut, trim, token. -/
import Derived.Test.YtgjjkieljdamfafDoorWordA
import Derived.Lib.Bytealg
import Derived.BigQuiet
import Derived.Deep.QuietTactic
namespace Go.Proofs.YtgjjkieljdamfafDoor
open Go.RowKit
set_option linter.all false
set_option maxRecDepth 100000

set_option maxHeartbeats 400000 in
theorem sidx_any (s : ByteArray) (c : UInt8) (w : World) :
    Calls Tryd.prog 76 #[.string s, .int .u8 (c.toNat : Int)] w fun e w' => e = .returned (.int .i64 (Lib.indexByte s.data.toList c)) ∧ w' = w := by
  go_enter Tryd.func76, Tryd.ntmps76
  go_wp2
  rw [run_callFunc_extern Tryd.func88 (by kernel_rfl) (by kernel_rfl) (by kernel_rfl) (e := Extern.BytealgIndexByte.indexByte) (by kernel_rfl), Lib.run_indexByteString]
  simp only [Result.andThen]
  rw [Oper.upon_value]
  go_wp2
  go_ret
  exact ⟨rfl, rfl⟩
set_option maxHeartbeats 400000 in
theorem idx_any (s : ByteArray) (c : UInt8) (w : World) :
    Calls Tryd.prog 56 #[.string s, .int .u8 (c.toNat : Int)] w fun e w' => e = .returned (.int .i64 (Lib.indexByte s.data.toList c)) ∧ w' = w := by
  go_enter Tryd.func56, Tryd.ntmps56
  go_wp2_with (go_at_call 76; refine (sidx_any _ _ _).mono ?_; rintro e w' ⟨rfl, rfl⟩)
  go_ret
  exact ⟨rfl, rfl⟩

theorem tokU_eq (c : UInt8) (h1 : (33 : Int) ≤ c.toNat) (h2 : (c.toNat : Int) ≤ 126) : decide (Lib.indexByte badT c < 0) = tokU c := by
  have h : (33 ≤ c.toNat ∧ c.toNat ≤ 126) := by omega
  unfold tokU
  rw [Lib.contains_iff_indexByte]
  simp only [h, and_self, decide_true, Bool.true_and]
  by_cases g : Lib.indexByte badT c < 0
  · rw [decide_eq_true g, decide_eq_false (by omega)]; rfl
  · rw [decide_eq_false g, decide_eq_true (by omega)]; rfl
theorem tokU_no (c : UInt8) (h : ¬ ((33 : Int) ≤ c.toNat ∧ (c.toNat : Int) ≤ 126)) : tokU c = false := by
  have h : ¬ (33 ≤ c.toNat ∧ c.toNat ≤ 126) := by omega
  unfold tokU
  simp [h]

set_option maxHeartbeats 400000 in
theorem cut_any (s : ByteArray) (b : UInt8) (w : World) (hs : s.size ≤ maxLen) :
    Calls Tryd.prog 75 #[.string s, .int .u8 (b.toNat : Int)] w fun e w' =>
      e = .returned (.tuple #[.string (txt (cutA s.data.toList b)), .string (txt (cutB s.data.toList b)), .bool (hasB s.data.toList b)]) ∧ ∃ n, w' = w.drewN n := by
  unfold maxLen at hs
  have hge := Lib.indexByte_ge s.data.toList b
  by_cases hn : Lib.indexByte s.data.toList b = -1
  · obtain ⟨e1, e2, e3⟩ := cut_none _ _ hn
    rw [e1, e2, e3]
    have HN : Hid (Lib.indexByte s.data.toList b = -1) := hn
    clear hn e1 e2 e3
    go_enter Tryd.func75, Tryd.ntmps75
    go_wp2_with (go_at_call 56; refine (idx_any _ _ _).mono ?_; rw [HN.out]; rintro e w' ⟨rfl, rfl⟩)
    go_ret3
    exact ⟨rfl, 0, rfl⟩
  · obtain ⟨o, ho⟩ : ∃ o : Nat, Lib.indexByte s.data.toList b = o := ⟨(Lib.indexByte s.data.toList b).toNat, by omega⟩
    obtain ⟨e1, e2, e3, e4⟩ := cut_some _ _ _ ho
    rw [e1, e2, e3]
    have e4' : o < s.size := e4
    have HN : Hid (Lib.indexByte s.data.toList b = o) := ho
    clear hn ho e1 e2 e3 e4 hge
    go_enter Tryd.func75, Tryd.ntmps75
    go_wp2_with (go_at_call 56; refine (idx_any _ _ _).mono ?_; rw [HN.out]; rintro e w' ⟨rfl, rfl⟩)
    go_quiet (fail)
    go_wp2
    go_ret3
    refine ⟨?_, _, rfl⟩
    rw [← ext_to, ← ext_from]; rfl

theorem get_of (s : ByteArray) (k : Nat) (h : k < s.size) : s.data.toList[k]? = some s[k] := by
  rw [List.getElem?_eq_getElem (by simpa using h)]; rfl
set_option maxHeartbeats 1000000 in
theorem trim_any (s : ByteArray) (w : World) (hs : s.size ≤ maxLen) :
    Calls Tryd.prog 49 #[.string s] w fun e w' => e = .returned (.string (txt (trimL s.data.toList))) ∧ w' = w := by
  unfold maxLen at hs
  go_enter Tryd.func49, Tryd.ntmps49
  go_wp2
  go_loop [3] (fun i => ∃ k : Nat, k ≤ s.size ∧ i = .int .i64 k ∧ Hid (∀ j c, s.data.toList[j]? = some c → j < k → blankU c = true)) (fun i => s.size - (intOf i).toNat)
  case atStart => exact ⟨0, Nat.zero_le _, rfl, fun _ _ _ h => absurd h (by omega)⟩
  case round =>
    obtain ⟨k, hk, rfl, hb⟩ := hrel
    by_cases hmore : ∃ h : k < s.size, blankB (s[k].toNat : Int) = true
    · obtain ⟨hlt, hbl⟩ := hmore
      go_wp2_with (go_at_call 73; refine (blank_any _ _).mono ?_; rintro e w' ⟨rfl, rfl⟩)
      go_round
      case rel =>
        refine ⟨k + 1, by omega, by go_num, fun j c hj hlt2 => ?_⟩
        by_cases e : j = k
        · subst e
          rw [get_of s j hlt] at hj
          injection hj with hj
          rw [← hj]; exact hbl
        · exact hb.out j c hj (by omega)
      case measure => simp [intOf]; omega
    · have hstop : Hid (k = s.size ∨ ∃ c, s.data.toList[k]? = some c ∧ blankU c = false) := by
        by_cases hlt : k < s.size
        · refine Or.inr ⟨s[k], get_of s k hlt, ?_⟩
          simp only [not_exists, Bool.not_eq_true] at hmore
          exact hmore hlt
        · exact Or.inl (by omega)
      have hfl : ∀ h : k < s.size, blankB (s[k].toNat : Int) = false := by
        intro h
        simp only [not_exists, Bool.not_eq_true] at hmore
        exact hmore h
      clear hmore
      by_cases hlt : k < s.size
      all_goals
        try have hfl2 := hfl hlt
        clear hfl
        go_wp2_with (go_at_call 73; refine (blank_any _ _).mono ?_; rintro e w' ⟨rfl, rfl⟩)
        go_loop [4] (fun i => ∃ m : Nat, k ≤ m ∧ m ≤ s.size ∧ i = .int .i64 m ∧ Hid (∀ j c, s.data.toList[j]? = some c → m ≤ j → blankU c = true)) (fun i => (intOf i).toNat)
        case atStart => exact ⟨s.size, hk, Nat.le_refl _, rfl, fun j c hj h => by have := (List.getElem?_eq_some_iff.1 hj).1; simp at this; omega⟩
        case round =>
          obtain ⟨m, hkm, hm, rfl, hb2⟩ := hrel
          by_cases hmore : ∃ h : m - 1 < s.size, k < m ∧ blankB (s[m - 1].toNat : Int) = true
          · obtain ⟨h1, hlt2, hbl⟩ := hmore
            have e1 : ((m : Int) - 1).toNat = m - 1 := by omega
            have e2 : Hid (∀ j c, s.data.toList[j]? = some c → m - 1 ≤ j → blankU c = true) := fun j c hj h => by
              by_cases e : j = m - 1
              · subst e
                rw [get_of s (m - 1) h1] at hj
                injection hj with hj
                rw [← hj]; exact hbl
              · exact hb2.out j c hj (by omega)
            first
            | (exfalso; omega)
            | (go_wp2_with (go_at_call 73; refine (blank_any _ _).mono ?_; rintro e w' ⟨rfl, rfl⟩)
               go_round
               case rel => exact ⟨m - 1, by omega, by omega, by go_num, e2⟩
               case measure => simp [intOf]; omega)
          · have hstop2 : k = m ∨ ∃ c, s.data.toList[m - 1]? = some c ∧ blankU c = false := by
              by_cases hlt2 : k < m
              · refine Or.inr ⟨s[m - 1], get_of s (m - 1) (by omega), ?_⟩
                simp only [not_exists, not_and, Bool.not_eq_true] at hmore
                exact hmore (by omega) hlt2
              · exact Or.inl (by omega)
            have hfl3 : ∀ h : m - 1 < s.size, k < m → blankB (s[m - 1].toNat : Int) = false := by
              intro h h2
              simp only [not_exists, not_and, Bool.not_eq_true] at hmore
              exact hmore h h2
            have HT : Hid (s.extract k m = txt (trimL s.data.toList)) := by
              show _ = _
              rw [ext_mid, trim_at s.data.toList k m hkm hm hb.out hb2.out ?_ hstop2]
              rcases hstop.out with h | h
              · exact Or.inl (by omega)
              · exact Or.inr h
            clear hmore hb hb2 hstop hstop2
            by_cases hlt2 : k < m
            · have h1 : m - 1 < s.size := by omega
              have e1 : ((m : Int) - 1).toNat = m - 1 := by omega
              have hfl4 := hfl3 h1 hlt2
              clear hfl3
              go_wp2_with (go_at_call 73; refine (blank_any _ _).mono ?_; rintro e w' ⟨rfl, rfl⟩)
              all_goals
                go_ret
                refine ⟨?_, rfl⟩
                rw [← HT.out]; rfl
            · clear hfl3
              go_wp2_with fail
              all_goals
                go_ret
                refine ⟨?_, rfl⟩
                rw [← HT.out]; rfl
end Go.Proofs.YtgjjkieljdamfafDoor
