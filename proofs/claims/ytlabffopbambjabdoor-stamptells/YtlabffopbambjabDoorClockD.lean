/- What the statements on moments ask first: some calls at known times. -/
import Derived.Test.YtlabffopbambjabDoorClockC
namespace Go.Proofs.YtlabffopbambjabDoor
open Go.RowKit
set_option linter.all false

/-- block B holds a time -/
structure T6 (W : World) (B : Nat) (y m d h i s : Int) : Prop where
  cy : W.cell? ⟨B, 0, none⟩ = some (.int .i64 y)
  cm : W.cell? ⟨B, 1, none⟩ = some (.int .i64 m)
  cd : W.cell? ⟨B, 2, none⟩ = some (.int .i64 d)
  ch : W.cell? ⟨B, 3, none⟩ = some (.int .i64 h)
  ci : W.cell? ⟨B, 4, none⟩ = some (.int .i64 i)
  cs : W.cell? ⟨B, 5, none⟩ = some (.int .i64 s)
theorem T6.below {W W' : World} {A B : Nat} {y m d h i s : Int} (t : T6 W B y m d h i s) (hb : Below A W W') (hA : W.heap.size ≤ A) : T6 W' B y m d h i s :=
  have hB := Nat.lt_of_lt_of_le (cell_in t.cy) hA
  ⟨(hb.cell (p := ⟨B, 0, none⟩) hB).trans t.cy, (hb.cell (p := ⟨B, 1, none⟩) hB).trans t.cm, (hb.cell (p := ⟨B, 2, none⟩) hB).trans t.cd, (hb.cell (p := ⟨B, 3, none⟩) hB).trans t.ch, (hb.cell (p := ⟨B, 4, none⟩) hB).trans t.ci, (hb.cell (p := ⟨B, 5, none⟩) hB).trans t.cs⟩
theorem T6.new (w : World) (y m d h i s : Int) (t : TypeId) : T6 (w.alloc (.cells #[.int .i64 y, .int .i64 m, .int .i64 d, .int .i64 h, .int .i64 i, .int .i64 s] t)) w.heap.size y m d h i s :=
  ⟨by simp, by simp, by simp, by simp, by simp, by simp⟩
theorem T6.lt {W : World} {B : Nat} {y m d h i s : Int} (t : T6 W B y m d h i s) : B < W.heap.size := cell_in t.cy

theorem beg_of (w : World) (T : Tabs w) : Calls Tryd.prog 9 #[.agg #[.int .i64 1994, .int .i64 11, .int .i64 6, .int .i64 8, .int .i64 49, .int .i64 37]] w fun e w' =>
    e = .returned (.tuple #[.int .i64 784111777, .int .i64 0]) ∧ Below w.heap.size w w' :=
  (of_any 1994 11 6 8 49 37 w T).mono (fun e w' h => ⟨h.1.trans (by rw [show ofV 1994 11 6 8 49 37 = 784111777 from by decide +kernel, show ofE 1994 11 6 8 49 37 = 0 from by decide +kernel]), h.2⟩)
theorem beg_of2 (w : World) (T : Tabs w) : Calls Tryd.prog 9 #[.agg #[.int .i64 1900, .int .i64 2, .int .i64 29, .int .i64 0, .int .i64 0, .int .i64 0]] w fun e w' =>
    e = .returned (.tuple #[.int .i64 0, .int .i64 3]) ∧ Below w.heap.size w w' :=
  (of_any 1900 2 29 0 0 0 w T).mono (fun e w' h => ⟨h.1.trans (by rw [show ofV 1900 2 29 0 0 0 = 0 from by decide +kernel, show ofE 1900 2 29 0 0 0 = 3 from by decide +kernel]), h.2⟩)
theorem beg_time (w : World) (T : Tabs w) : Calls Tryd.prog 10 #[.int .i64 (-1)] w fun e w' =>
    e = .returned (.tuple #[.agg #[.int .i64 1969, .int .i64 12, .int .i64 31, .int .i64 23, .int .i64 59, .int .i64 59], .int .i64 0]) ∧ Below w.heap.size w w' :=
  (time_yes (-1) (by decide) w T).mono (fun e w' h => ⟨h.1.trans (by rw [show tY (-1) = 1969 from by decide +kernel, show tM (-1) = 12 from by decide +kernel, show tD (-1) = 31 from by decide +kernel, show tH (-1) = 23 from by decide +kernel, show tI (-1) = 59 from by decide +kernel, show tS (-1) = 59 from by decide +kernel]), h.2⟩)
theorem beg_wd (w : World) : Calls Tryd.prog 12 #[.int .i64 0] w fun e w' => e = .returned (.tuple #[.int .i64 4, .int .i64 0]) ∧ w' = w :=
  (weekday_yes 0 (by decide) w).mono (fun e w' h => ⟨h.1.trans (by rw [show wdN 0 = 4 from by decide +kernel]), h.2⟩)
theorem beg_add (w : World) : Calls Tryd.prog 13 #[.int .i64 784111777, .int .i64 4611686018427387904] w fun e w' => e = .returned (.tuple #[.int .i64 253402300799, .int .i64 0]) ∧ w' = w :=
  (add_yes 784111777 4611686018427387904 (by decide) (by decide) w).mono (fun e w' h => ⟨h.1.trans (by rw [show addN 784111777 4611686018427387904 = 253402300799 from by decide +kernel]), h.2⟩)

set_option maxHeartbeats 1000000 in
theorem clockBegun_any (w : World) (T : Tabs w) : Calls Tryd.prog 11 #[] w fun e w' => e = .returned (.bool true) ∧ Below w.heap.size w w' := by
  go_enter Tryd.func11, Tryd.ntmps11
  go_wp2_with fail
  refine (beg_of _ T).mono ?_
  rintro e w1 ⟨rfl, hb1⟩
  have T1 := T.below hb1 (Nat.le_refl _)
  go_wp2_with fail
  refine (beg_time _ T1).mono ?_
  rintro e w2 ⟨rfl, hb2⟩
  have T2 := T1.below hb2 (Nat.le_refl _)
  go_wp2_with fail
  refine (beg_wd _).mono ?_
  rintro e w3 ⟨rfl, rfl⟩
  go_wp2_with fail
  refine (beg_add _).mono ?_
  rintro e w3 ⟨rfl, rfl⟩
  go_wp2_with fail
  have bA : Below w2.heap.size w2 (w2.alloc (.cells #[.int .i64 1969, .int .i64 12, .int .i64 31, .int .i64 23, .int .i64 59, .int .i64 59] 23)) := (Below.refl _ _).alloc (Nat.le_refl _) _
  refine (beg_of2 _ (T2.below bA (Nat.le_refl _))).mono ?_
  rintro e w5 ⟨rfl, hb5⟩
  have c0 : w5.cell? ⟨w2.heap.size, 0, none⟩ = some (.int .i64 1969) := (hb5.cell (p := ⟨w2.heap.size, 0, none⟩) (by simp)).trans (by simp)
  have c1 : w5.cell? ⟨w2.heap.size, 1, none⟩ = some (.int .i64 12) := (hb5.cell (p := ⟨w2.heap.size, 1, none⟩) (by simp)).trans (by simp)
  have c2 : w5.cell? ⟨w2.heap.size, 2, none⟩ = some (.int .i64 31) := (hb5.cell (p := ⟨w2.heap.size, 2, none⟩) (by simp)).trans (by simp)
  have c3 : w5.cell? ⟨w2.heap.size, 3, none⟩ = some (.int .i64 23) := (hb5.cell (p := ⟨w2.heap.size, 3, none⟩) (by simp)).trans (by simp)
  have c4 : w5.cell? ⟨w2.heap.size, 4, none⟩ = some (.int .i64 59) := (hb5.cell (p := ⟨w2.heap.size, 4, none⟩) (by simp)).trans (by simp)
  have c5 : w5.cell? ⟨w2.heap.size, 5, none⟩ = some (.int .i64 59) := (hb5.cell (p := ⟨w2.heap.size, 5, none⟩) (by simp)).trans (by simp)
  go_wp2_with fail
  go_ret
  exact ⟨rfl, next (next hb1 hb2) (next bA hb5)⟩
end Go.Proofs.YtlabffopbambjabDoor
