/- What the statements on moments ask first: some calls at known times. -/
import Derived.Test.YtgjjkieljdamfafDoorClockC
namespace Go.Proofs.YtgjjkieljdamfafDoor
open Go.RowKit
set_option linter.all false
set_option maxRecDepth 100000

/-- block B holds a time -/
structure T6 (W : World) (B : Nat) (y m d h i s : Int) : Prop where
  cy : W.cell? ⟨B, 0, none⟩ = some (.int .i64 y)
  cm : W.cell? ⟨B, 1, none⟩ = some (.int .i64 m)
  cd : W.cell? ⟨B, 2, none⟩ = some (.int .i64 d)
  ch : W.cell? ⟨B, 3, none⟩ = some (.int .i64 h)
  ci : W.cell? ⟨B, 4, none⟩ = some (.int .i64 i)
  cs : W.cell? ⟨B, 5, none⟩ = some (.int .i64 s)
theorem T6.below {W W' : World} {A B : Nat} {y m d h i s : Int} (t : T6 W B y m d h i s) (hb : Below A W W') (hA : W.heap.size ≤ A) : T6 W' B y m d h i s :=
  have hB := Nat.lt_of_lt_of_le (cell_in t.cy) hA
  ⟨(hb.cell (p := ⟨B, 0, none⟩) hB).trans t.cy, (hb.cell (p := ⟨B, 1, none⟩) hB).trans t.cm, (hb.cell (p := ⟨B, 2, none⟩) hB).trans t.cd, (hb.cell (p := ⟨B, 3, none⟩) hB).trans t.ch, (hb.cell (p := ⟨B, 4, none⟩) hB).trans t.ci, (hb.cell (p := ⟨B, 5, none⟩) hB).trans t.cs⟩
theorem T6.new (w : World) (y m d h i s : Int) (t : TypeId) : T6 (w.alloc (.cells #[.int .i64 y, .int .i64 m, .int .i64 d, .int .i64 h, .int .i64 i, .int .i64 s] t)) w.heap.size y m d h i s :=
  ⟨by simp, by simp, by simp, by simp, by simp, by simp⟩
theorem T6.lt {W : World} {B : Nat} {y m d h i s : Int} (t : T6 W B y m d h i s) : B < W.heap.size := cell_in t.cy

end Go.Proofs.YtgjjkieljdamfafDoor
