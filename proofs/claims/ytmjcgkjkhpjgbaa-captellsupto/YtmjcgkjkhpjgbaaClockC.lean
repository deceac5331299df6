/- Contracts of package clock: the moment of a time, the time of a moment. -/
import Derived.Test.YtmjcgkjkhpjgbaaClockB
namespace Go.Proofs.Ytmjcgkjkhpjgbaa
open Go.RowKit
set_option linter.all false

def ofV (y m d h i s : Int) : Int := if vldB y m d h i s then momOf y m d h i s else 0
def ofE (y m d h i s : Int) : Int := if vldB y m d h i s then 0 else 3
theorem of_yes {y m d h i s : Int} (hv : vldB y m d h i s = true) : ofV y m d h i s = momOf y m d h i s ∧ ofE y m d h i s = 0 := by unfold ofV ofE; rw [hv]; exact ⟨rfl, rfl⟩
theorem of_no {y m d h i s : Int} (hv : vldB y m d h i s = false) : ofV y m d h i s = 0 ∧ ofE y m d h i s = 3 := by unfold ofV ofE; rw [hv]; exact ⟨rfl, rfl⟩
theorem vld_no {y m d h i s : Int} (hn : ¬ (1601 ≤ y ∧ y ≤ 9999 ∧ 1 ≤ m ∧ m ≤ 12 ∧ 1 ≤ d ∧ d ≤ dim y m ∧ 0 ≤ h ∧ h ≤ 23 ∧ 0 ≤ i ∧ i ≤ 59 ∧ 0 ≤ s ∧ s ≤ 59)) : vldB y m d h i s = false := by
  rw [← Bool.not_eq_true, vldB_iff]; exact hn
/-- the first k things of a time are within their bounds -/
def okTo (y m d h i s : Int) (k : Nat) : Prop :=
  (0 < k → 1601 ≤ y ∧ y ≤ 9999) ∧ (1 < k → 1 ≤ m ∧ m ≤ 12) ∧ (2 < k → 1 ≤ d ∧ d ≤ 31) ∧ (3 < k → 0 ≤ h ∧ h ≤ 23) ∧ (4 < k → 0 ≤ i ∧ i ≤ 59) ∧ (5 < k → 0 ≤ s ∧ s ≤ 59)

end Go.Proofs.Ytmjcgkjkhpjgbaa
