/- Contracts of package word: the place of a byte, a token's byte, cut, trim, token. -/
import Derived.Test.YtcfdajaideidkaaWordA
import Derived.Lib.Bytealg
import Derived.BigQuiet
import Derived.Deep.QuietTactic
namespace Go.Proofs.Ytcfdajaideidkaa
open Go.RowKit
set_option linter.all false
set_option maxRecDepth 100000

set_option maxHeartbeats 400000 in
theorem sidx_any (s : ByteArray) (c : UInt8) (w : World) :
    Calls Try.prog 97 #[.string s, .int .u8 (c.toNat : Int)] w fun e w' => e = .returned (.int .i64 (Lib.indexByte s.data.toList c)) ∧ w' = w := by
  go_enter Try.func97, Try.ntmps97
  go_wp2
  rw [run_callFunc_extern Try.func98 (by kernel_rfl) (by kernel_rfl) (by kernel_rfl) (e := Extern.BytealgIndexByte.indexByte) (by kernel_rfl), Lib.run_indexByteString]
  simp only [Result.andThen]
  rw [Oper.upon_value]
  go_wp2
  go_ret
  exact ⟨rfl, rfl⟩
set_option maxHeartbeats 400000 in
theorem idx_any (s : ByteArray) (c : UInt8) (w : World) :
    Calls Try.prog 96 #[.string s, .int .u8 (c.toNat : Int)] w fun e w' => e = .returned (.int .i64 (Lib.indexByte s.data.toList c)) ∧ w' = w := by
  go_enter Try.func96, Try.ntmps96
  go_wp2_with (go_at_call 97; refine (sidx_any _ _ _).mono ?_; rintro e w' ⟨rfl, rfl⟩)
  go_ret
  exact ⟨rfl, rfl⟩

theorem tokU_eq (c : UInt8) (h1 : (33 : Int) ≤ c.toNat) (h2 : (c.toNat : Int) ≤ 126) : decide (Lib.indexByte badT c < 0) = tokU c := by
  have h : (33 ≤ c.toNat ∧ c.toNat ≤ 126) := by omega
  unfold tokU
  rw [Lib.contains_iff_indexByte]
  simp only [h, and_self, decide_true, Bool.true_and]
  by_cases g : Lib.indexByte badT c < 0
  · rw [decide_eq_true g, decide_eq_false (by omega)]; rfl
  · rw [decide_eq_false g, decide_eq_true (by omega)]; rfl
theorem tokU_no (c : UInt8) (h : ¬ ((33 : Int) ≤ c.toNat ∧ (c.toNat : Int) ≤ 126)) : tokU c = false := by
  have h : ¬ (33 ≤ c.toNat ∧ c.toNat ≤ 126) := by omega
  unfold tokU
  simp [h]

set_option maxHeartbeats 400000 in
theorem cut_any (s : ByteArray) (b : UInt8) (w : World) (hs : s.size ≤ maxLen) :
    Calls Try.prog 95 #[.string s, .int .u8 (b.toNat : Int)] w fun e w' =>
      e = .returned (.tuple #[.string (txt (cutA s.data.toList b)), .string (txt (cutB s.data.toList b)), .bool (hasB s.data.toList b)]) ∧ ∃ n, w' = w.drewN n := by
  unfold maxLen at hs
  have hge := Lib.indexByte_ge s.data.toList b
  by_cases hn : Lib.indexByte s.data.toList b = -1
  · obtain ⟨e1, e2, e3⟩ := cut_none _ _ hn
    rw [e1, e2, e3]
    have HN : Hid (Lib.indexByte s.data.toList b = -1) := hn
    clear hn e1 e2 e3
    go_enter Try.func95, Try.ntmps95
    go_wp2_with (go_at_call 96; refine (idx_any _ _ _).mono ?_; rw [HN.out]; rintro e w' ⟨rfl, rfl⟩)
    go_ret3
    exact ⟨rfl, 0, rfl⟩
  · obtain ⟨o, ho⟩ : ∃ o : Nat, Lib.indexByte s.data.toList b = o := ⟨(Lib.indexByte s.data.toList b).toNat, by omega⟩
    obtain ⟨e1, e2, e3, e4⟩ := cut_some _ _ _ ho
    rw [e1, e2, e3]
    have e4' : o < s.size := e4
    have HN : Hid (Lib.indexByte s.data.toList b = o) := ho
    clear hn ho e1 e2 e3 e4 hge
    go_enter Try.func95, Try.ntmps95
    go_wp2_with (go_at_call 96; refine (idx_any _ _ _).mono ?_; rw [HN.out]; rintro e w' ⟨rfl, rfl⟩)
    go_quiet (fail)
    go_wp2
    go_ret3
    refine ⟨?_, _, rfl⟩
    rw [← ext_to, ← ext_from]; rfl

theorem get_of (s : ByteArray) (k : Nat) (h : k < s.size) : s.data.toList[k]? = some s[k] := by
  rw [List.getElem?_eq_getElem (by simpa using h)]; rfl
end Go.Proofs.Ytcfdajaideidkaa
