/- Contracts of package clock: moments, leap years, days of months, days ahead, weekdays, sums. -/
import Derived.Test.YtgjjkieljdamfafDoorRows
import Derived.Test.YtgjjkieljdamfafDoorClockM
import Derived.WalkKit
import Derived.WalkSpells
import Derived.WalkLawsBesides
import Derived.BigQuiet
import Derived.Deep.QuietTactic
namespace Go.Proofs.YtgjjkieljdamfafDoor
open Go.RowKit
set_option linter.all false
set_option maxRecDepth 100000

/-- what the program's tables hold -/
def bndL : List Int := [1601, 9999, 1, 12, 1, 31, 0, 23, 0, 59, 0, 59]
def mdL : List Int := [31, 28, 31, 30, 31, 30, 31, 31, 30, 31, 30, 31]
def spL : List Int := [400, 146097, 20, 100, 36524, 3, 4, 1461, 24, 1, 365, 3]
def TabAt (w : World) (g : Nat) (l : List Int) : Prop := ∀ k, k < l.length → w.cell? ⟨g, k, none⟩ = some (.int .i64 (l.getD k 0))
theorem TabAt.below {w w' : World} {B g : Nat} {l : List Int} (h : TabAt w g l) (hb : Below B w w') (hg : w.heap.size ≤ B) : TabAt w' g l := fun k hk =>
  (hb.cell (p := ⟨g, k, none⟩) (Nat.lt_of_lt_of_le (cell_in (h k hk)) hg)).trans (h k hk)
structure Tabs (w : World) : Prop where
  bnd : TabAt w 2 bndL
  md : TabAt w 4 mdL
theorem Tabs.below {w w' : World} {B : Nat} (h : Tabs w) (hb : Below B w w') (hg : w.heap.size ≤ B) : Tabs w' := ⟨h.bnd.below hb hg, h.md.below hb hg⟩
theorem Tabs.drewN {w : World} (h : Tabs w) (n : Nat) : Tabs (w.drewN n) := ⟨h.bnd, h.md⟩

set_option maxHeartbeats 400000 in
theorem moment_any (n : Int) (w : World) : Calls Tryd.prog 50 #[.int .i64 n] w fun e w' => e = .returned (.bool (momB n)) ∧ w' = w := by
  by_cases h1 : -11644473600 ≤ n
  · by_cases h2 : n ≤ 253402300799
    · have e : momB n = true := (momB_iff n).2 ⟨h1, h2⟩
      rw [e]; clear e
      go_enter Tryd.func50, Tryd.ntmps50
      go_wp2
      go_ret
      exact ⟨rfl, rfl⟩
    · have e : momB n = false := by rw [← Bool.not_eq_true, momB_iff]; omega
      rw [e]; clear e
      go_enter Tryd.func50, Tryd.ntmps50
      go_wp2
      go_ret
      exact ⟨rfl, rfl⟩
  · have e : momB n = false := by rw [← Bool.not_eq_true, momB_iff]; omega
    rw [e]; clear e
    go_enter Tryd.func50, Tryd.ntmps50
    go_wp2
    go_ret
    exact ⟨rfl, rfl⟩
set_option maxHeartbeats 400000 in
theorem leap_any (y : Int) (h0 : 0 ≤ y) (h1 : y ≤ 100000) (w : World) : Calls Tryd.prog 92 #[.int .i64 y] w fun e w' => e = .returned (.bool (lpB y)) ∧ w' = w := by
  have hl := lpB_iff y
  by_cases a : y % 4 = 0
  · by_cases b : y % 100 = 0
    · by_cases c : y % 400 = 0
      · have e : lpB y = true := hl.2 (by omega)
        rw [e]; clear e hl
        go_enter Tryd.func92, Tryd.ntmps92
        go_wp2
        go_ret
        exact ⟨rfl, rfl⟩
      · have e : lpB y = false := by rw [← Bool.not_eq_true, hl]; omega
        rw [e]; clear e hl
        go_enter Tryd.func92, Tryd.ntmps92
        go_wp2
        all_goals go_ret
        all_goals (refine ⟨?_, rfl⟩; first | rfl | (simp; omega))
    · have e : lpB y = true := hl.2 (by omega)
      rw [e]; clear e hl
      go_enter Tryd.func92, Tryd.ntmps92
      go_wp2
      all_goals go_ret
      all_goals (refine ⟨?_, rfl⟩; first | rfl | (simp; omega))
  · have e : lpB y = false := by rw [← Bool.not_eq_true, hl]; omega
    rw [e]; clear e hl
    go_enter Tryd.func92, Tryd.ntmps92
    go_wp2
    all_goals go_ret
    all_goals (refine ⟨?_, rfl⟩; first | rfl | (simp; omega))
theorem md_get (k : Nat) (hk : k < 12) : mdL.getD k 0 = if (k : Int) + 1 = 2 then 28 else dim 1601 ((k : Int) + 1) := by
  have : k = 0 ∨ k = 1 ∨ k = 2 ∨ k = 3 ∨ k = 4 ∨ k = 5 ∨ k = 6 ∨ k = 7 ∨ k = 8 ∨ k = 9 ∨ k = 10 ∨ k = 11 := by omega
  rcases this with rfl | rfl | rfl | rfl | rfl | rfl | rfl | rfl | rfl | rfl | rfl | rfl <;> rfl
theorem dim_other (y m : Int) (h : m ≠ 2) : dim y m = dim 1601 m := by unfold dim; rw [if_neg h, if_neg h]
set_option maxHeartbeats 400000 in
theorem dim_any (y m : Int) (h0 : 0 ≤ y) (h1 : y ≤ 100000) (hm1 : 1 ≤ m) (hm2 : m ≤ 12) (w : World) (T : Tabs w) : Calls Tryd.prog 79 #[.int .i64 y, .int .i64 m] w fun e w' => e = .returned (.int .i64 (dim y m)) ∧ w' = w := by
  obtain ⟨k, rfl⟩ : ∃ k : Nat, m = (k : Int) + 1 := ⟨(m - 1).toNat, by omega⟩
  have hk : k < 12 := by omega
  have hc := T.md k hk
  have hc1 := T.md 1 (by decide)
  rw [show mdL.getD 1 0 = 28 from rfl] at hc1
  by_cases h2 : k = 1
  · subst h2
    have ed : dim y (((1 : Nat) : Int) + 1) = 28 + lp y := by unfold dim; simp
    rw [ed]
    clear hc T ed
    cases e : lpB y
    · have el : lp y = 0 := by unfold lp; rw [e]; rfl
      rw [el]
      have E : Hid _ := e
      clear e el
      go_enter Tryd.func79, Tryd.ntmps79
      go_wp2_with (go_at_call 92; refine (leap_any _ h0 h1 _).mono ?_; rw [E.out]; rintro e w' ⟨rfl, rfl⟩)
      go_ret
      exact ⟨rfl, rfl⟩
    · have el : lp y = 1 := by unfold lp; rw [e]; rfl
      rw [el]
      have E : Hid _ := e
      clear e el
      go_enter Tryd.func79, Tryd.ntmps79
      go_wp2_with (go_at_call 92; refine (leap_any _ h0 h1 _).mono ?_; rw [E.out]; rintro e w' ⟨rfl, rfl⟩)
      go_ret
      exact ⟨rfl, rfl⟩
  · rw [md_get k hk, if_neg (by omega), ← dim_other y _ (by omega)] at hc
    have ht : (((k : Int) + 1) == 2) = false := by rw [beq_eq_false_iff_ne]; omega
    obtain ⟨v, hv⟩ : ∃ v, v = dim y ((k : Int) + 1) := ⟨_, rfl⟩
    rw [← hv] at hc ⊢
    clear T hc1 h2 hv
    have b1 : (0 : Int) ≤ (k : Int) := by omega
    have b2 : (k : Int) < 12 := by omega
    go_enter Tryd.func79, Tryd.ntmps79
    go_wp2_with fail
    go_ret
    exact ⟨rfl, rfl⟩
end Go.Proofs.YtgjjkieljdamfafDoor
