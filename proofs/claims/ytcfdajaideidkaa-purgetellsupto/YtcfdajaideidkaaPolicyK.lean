/- Policies, cookies and rules in blocks. No walk. -/
import Derived.Test.YtcfdajaideidkaaPolicyD
import Derived.Test.YtcfdajaideidkaaGrantK
namespace Go.Proofs.Ytcfdajaideidkaa
open Go.RowKit
set_option linter.all false
set_option maxRecDepth 100000
set_option maxRecDepth 100000

def ckZ : Ck := ⟨[], [], [], [], false, false, false, false, 0, 0, 0, 0, 0⟩
theorem rowSet {W : World} {B O k : Nat} {l : List Value} {x : Value} (h : LRow W B l) (hne : B ≠ O) : LRow (W.setCell ⟨O, k, none⟩ x) B l :=
  ⟨fun j v hj => ⟨by rw [World.cell?_setCell_other _ _ _ _ (by intro e; injection e with e1 _; exact hne e1.symm)]; exact (h.all j v hj).1, by rw [World.frozen?_setCell]; exact (h.all j v hj).2⟩⟩
theorem below_new' (w : World) (o : Obj) : Below w.heap.size w (w.alloc o) := (Below.refl _ _).alloc (Nat.le_refl _) _
structure PB (W : World) (B : Nat) (p : Po) (v : Value) : Prop where
  row : LRow W B (poL p v)
  rows : Rows W v ruC p.rules
theorem PB.below {W W' : World} {B : Nat} {p : Po} {v : Value} (h : PB W B p v) (hb : Below W.heap.size W W') : PB W' B p v := ⟨h.row.below hb (by have h1 := h.row.cell 1 rfl; exact cell_in h1), Rows.below h.rows hb (Nat.le_refl _)⟩
theorem PB.new (w : World) (p : Po) (v : Value) (t : TypeId) (hr : Rows w v ruC p.rules) : PB (w.alloc (.cells (poL p v).toArray t)) w.heap.size p v :=
  ⟨LRow.new w _ t, Rows.below hr ((Below.refl _ _).alloc (Nat.le_refl _) _) (Nat.le_refl _)⟩
structure KB (W : World) (B : Nat) (c : Ck) : Prop where
  row : LRow W B (ckC c)
theorem KB.below {W W' : World} {B : Nat} {c : Ck} (h : KB W B c) (hb : Below W.heap.size W W') : KB W' B c := ⟨h.row.below hb (cell_in (h.row.cell 0 rfl))⟩
theorem KB.new (w : World) (c : Ck) (t : TypeId) : KB (w.alloc (.cells (ckC c).toArray t)) w.heap.size c := ⟨LRow.new w _ t⟩
structure RB (W : World) (B : Nat) (r : Ru) : Prop where
  row : LRow W B (ruC r)
theorem RB.below {W W' : World} {B : Nat} {r : Ru} (h : RB W B r) (hb : Below W.heap.size W W') : RB W' B r := ⟨h.row.below hb (cell_in (h.row.cell 0 rfl))⟩
theorem RB.new (w : World) (r : Ru) (t : TypeId) : RB (w.alloc (.cells (ruC r).toArray t)) w.heap.size r := ⟨LRow.new w _ t⟩
end Go.Proofs.Ytcfdajaideidkaa
