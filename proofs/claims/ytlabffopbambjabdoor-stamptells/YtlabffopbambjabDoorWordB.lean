/- Contracts of package word: the place of a byte, a token's byte, cut, trim, token. -/
import Derived.Test.YtlabffopbambjabDoorWordA
import Derived.Lib.Bytealg
import Derived.BigQuiet
import Derived.Deep.QuietTactic
namespace Go.Proofs.YtlabffopbambjabDoor
open Go.RowKit
set_option linter.all false

theorem tokU_eq (c : UInt8) (h1 : (33 : Int) ≤ c.toNat) (h2 : (c.toNat : Int) ≤ 126) : decide (Lib.indexByte badT c < 0) = tokU c := by
  have h : (33 ≤ c.toNat ∧ c.toNat ≤ 126) := by omega
  unfold tokU
  rw [Lib.contains_iff_indexByte]
  simp only [h, and_self, decide_true, Bool.true_and]
  by_cases g : Lib.indexByte badT c < 0
  · rw [decide_eq_true g, decide_eq_false (by omega)]; rfl
  · rw [decide_eq_false g, decide_eq_true (by omega)]; rfl
theorem tokU_no (c : UInt8) (h : ¬ ((33 : Int) ≤ c.toNat ∧ (c.toNat : Int) ≤ 126)) : tokU c = false := by
  have h : ¬ (33 ≤ c.toNat ∧ c.toNat ≤ 126) := by omega
  unfold tokU
  simp [h]

theorem get_of (s : ByteArray) (k : Nat) (h : k < s.size) : s.data.toList[k]? = some s[k] := by
  rw [List.getElem?_eq_getElem (by simpa using h)]; rfl
end Go.Proofs.YtlabffopbambjabDoor
