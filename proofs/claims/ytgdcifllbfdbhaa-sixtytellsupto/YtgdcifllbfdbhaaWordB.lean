/- Contracts of package word: the place of a byte, a token's byte, cut, trim, token. -/
import Derived.Test.YtgdcifllbfdbhaaWordA
import Derived.Lib.Bytealg
import Derived.BigQuiet
import Derived.Deep.QuietTactic
namespace Go.Proofs.Ytgdcifllbfdbhaa
open Go.RowKit
set_option linter.all false

set_option maxHeartbeats 400000 in
theorem sidx_any (s : ByteArray) (c : UInt8) (w : World) :
    Calls Try.prog 62 #[.string s, .int .u8 (c.toNat : Int)] w fun e w' => e = .returned (.int .i64 (Lib.indexByte s.data.toList c)) ∧ w' = w := by
  go_enter Try.func62, Try.ntmps62
  go_wp2
  rw [run_callFunc_extern Try.func73 (by kernel_rfl) (by kernel_rfl) (by kernel_rfl) (e := Extern.BytealgIndexByte.indexByte) (by kernel_rfl), Lib.run_indexByteString]
  simp only [Result.andThen]
  rw [Oper.upon_value]
  go_wp2
  go_ret
  exact ⟨rfl, rfl⟩
set_option maxHeartbeats 400000 in
theorem idx_any (s : ByteArray) (c : UInt8) (w : World) :
    Calls Try.prog 46 #[.string s, .int .u8 (c.toNat : Int)] w fun e w' => e = .returned (.int .i64 (Lib.indexByte s.data.toList c)) ∧ w' = w := by
  go_enter Try.func46, Try.ntmps46
  go_wp2_with (go_at_call 62; refine (sidx_any _ _ _).mono ?_; rintro e w' ⟨rfl, rfl⟩)
  go_ret
  exact ⟨rfl, rfl⟩

theorem tokU_eq (c : UInt8) (h1 : (33 : Int) ≤ c.toNat) (h2 : (c.toNat : Int) ≤ 126) : decide (Lib.indexByte badT c < 0) = tokU c := by
  have h : (33 ≤ c.toNat ∧ c.toNat ≤ 126) := by omega
  unfold tokU
  rw [Lib.contains_iff_indexByte]
  simp only [h, and_self, decide_true, Bool.true_and]
  by_cases g : Lib.indexByte badT c < 0
  · rw [decide_eq_true g, decide_eq_false (by omega)]; rfl
  · rw [decide_eq_false g, decide_eq_true (by omega)]; rfl
theorem tokU_no (c : UInt8) (h : ¬ ((33 : Int) ≤ c.toNat ∧ (c.toNat : Int) ≤ 126)) : tokU c = false := by
  have h : ¬ (33 ≤ c.toNat ∧ c.toNat ≤ 126) := by omega
  unfold tokU
  simp [h]

theorem get_of (s : ByteArray) (k : Nat) (h : k < s.size) : s.data.toList[k]? = some s[k] := by
  rw [List.getElem?_eq_getElem (by simpa using h)]; rfl
end Go.Proofs.Ytgdcifllbfdbhaa
