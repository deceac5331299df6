/- Contracts of package clock: moments, leap years, days of months, days ahead, weekdays, sums. -/
import Derived.Test.YtcfdajaideidkaaRows
import Derived.Test.YtcfdajaideidkaaClockM
import Derived.WalkKit
import Derived.WalkSpells
import Derived.WalkLawsBesides
import Derived.BigQuiet
import Derived.Deep.QuietTactic
namespace Go.Proofs.Ytcfdajaideidkaa
open Go.RowKit
set_option linter.all false
set_option maxRecDepth 100000

/-- what the program's tables hold -/
def bndL : List Int := [1601, 9999, 1, 12, 1, 31, 0, 23, 0, 59, 0, 59]
def mdL : List Int := [31, 28, 31, 30, 31, 30, 31, 31, 30, 31, 30, 31]
def spL : List Int := [400, 146097, 20, 100, 36524, 3, 4, 1461, 24, 1, 365, 3]
def TabAt (w : World) (g : Nat) (l : List Int) : Prop := ∀ k, k < l.length → w.cell? ⟨g, k, none⟩ = some (.int .i64 (l.getD k 0))
theorem TabAt.below {w w' : World} {B g : Nat} {l : List Int} (h : TabAt w g l) (hb : Below B w w') (hg : w.heap.size ≤ B) : TabAt w' g l := fun k hk =>
  (hb.cell (p := ⟨g, k, none⟩) (Nat.lt_of_lt_of_le (cell_in (h k hk)) hg)).trans (h k hk)

set_option maxHeartbeats 400000 in
theorem moment_any (n : Int) (w : World) : Calls Try.prog 65 #[.int .i64 n] w fun e w' => e = .returned (.bool (momB n)) ∧ w' = w := by
  by_cases h1 : -11644473600 ≤ n
  · by_cases h2 : n ≤ 253402300799
    · have e : momB n = true := (momB_iff n).2 ⟨h1, h2⟩
      rw [e]; clear e
      go_enter Try.func65, Try.ntmps65
      go_wp2
      go_ret
      exact ⟨rfl, rfl⟩
    · have e : momB n = false := by rw [← Bool.not_eq_true, momB_iff]; omega
      rw [e]; clear e
      go_enter Try.func65, Try.ntmps65
      go_wp2
      go_ret
      exact ⟨rfl, rfl⟩
  · have e : momB n = false := by rw [← Bool.not_eq_true, momB_iff]; omega
    rw [e]; clear e
    go_enter Try.func65, Try.ntmps65
    go_wp2
    go_ret
    exact ⟨rfl, rfl⟩
theorem md_get (k : Nat) (hk : k < 12) : mdL.getD k 0 = if (k : Int) + 1 = 2 then 28 else dim 1601 ((k : Int) + 1) := by
  have : k = 0 ∨ k = 1 ∨ k = 2 ∨ k = 3 ∨ k = 4 ∨ k = 5 ∨ k = 6 ∨ k = 7 ∨ k = 8 ∨ k = 9 ∨ k = 10 ∨ k = 11 := by omega
  rcases this with rfl | rfl | rfl | rfl | rfl | rfl | rfl | rfl | rfl | rfl | rfl | rfl <;> rfl
theorem dim_other (y m : Int) (h : m ≠ 2) : dim y m = dim 1601 m := by unfold dim; rw [if_neg h, if_neg h]
end Go.Proofs.Ytcfdajaideidkaa
