/- Eleven caps: how they come in, and in a block. No walk. -/
import Derived.Test.YtmjcgkjkhpjgbaaOpenP
import Derived.Test.YtmjcgkjkhpjgbaaPolicyK
namespace Go.Proofs.Ytmjcgkjkhpjgbaa
open Go.ChangeShapes Go.WideShapes Go.ChangeAt Go.RowKit
set_option linter.all false
set_option maxRecDepth 100000

structure Cp where
  c0 : Int
  c1 : Int
  c2 : Int
  c3 : Int
  c4 : Int
  c5 : Int
  c6 : Int
  c7 : Int
  c8 : Int
  c9 : Int
  c10 : Int
def cpL (o : Cp) : List Value := [.int .i64 o.c0, .int .i64 o.c1, .int .i64 o.c2, .int .i64 o.c3, .int .i64 o.c4, .int .i64 o.c5, .int .i64 o.c6, .int .i64 o.c7, .int .i64 o.c8, .int .i64 o.c9, .int .i64 o.c10]
def Cp.list (o : Cp) : List Int := [o.c0, o.c1, o.c2, o.c3, o.c4, o.c5, o.c6, o.c7, o.c8, o.c9, o.c10]
theorem array_cells {P : Program} {W : World} {t e : TypeId} {n base : Nat} {v : Value} (ht : P.underlying t = some (.array n e)) (hv : Value.okWide P W .any base t v) : v = .agg v.cells.toList.toArray := by
  simp only [Value.okWide, ht] at hv
  obtain ⟨cs, rfl, _⟩ := hv
  simp [Value.cells]
theorem open_cp {H : Type} {enc : TypeId × Value → H} {W : World} {base : Nat} {v : Value} {d : DataW H} {ps : List MemPlace} (hv : Value.okWide Try.prog W .any base 23 v)
    (h : DataW.Trod enc Try.prog W 0 (fun _ => true) true 23 v d ps) (m : Nat) (hf : Fits m (DataW.weights Try.prog 23 d)) :
    ∃ o : Cp, v = .agg #[.int .i64 o.c0, .int .i64 o.c1, .int .i64 o.c2, .int .i64 o.c3, .int .i64 o.c4, .int .i64 o.c5, .int .i64 o.c6, .int .i64 o.c7, .int .i64 o.c8, .int .i64 o.c9, .int .i64 o.c10] ∧ (∀ x ∈ o.list, i64B x) ∧ 11 ≤ Rows.uptoBulk d := by
  obtain ⟨e0, e1, e2, e3, e4, e5, e6, e7, e8, e9, e10, h1, h2, h3⟩ := open_caps hv h m hf
  have e := array_cells Try.underlying23 hv
  rw [h1] at e
  exact ⟨⟨e0, e1, e2, e3, e4, e5, e6, e7, e8, e9, e10⟩, e, h2, h3⟩
structure OB (W : World) (B : Nat) (o : Cp) : Prop where
  row : LRow W B (cpL o)
theorem OB.below {W W' : World} {B : Nat} {o : Cp} (h : OB W B o) (hb : Below W.heap.size W W') : OB W' B o := ⟨h.row.below hb (cell_in (h.row.cell 0 rfl))⟩
theorem OB.new (w : World) (o : Cp) (t : TypeId) : OB (w.alloc (.cells (cpL o).toArray t)) w.heap.size o := ⟨LRow.new w _ t⟩
theorem cp_get (o : Cp) (k : Nat) (hk : k < 11) : (cpL o)[k]? = some (.int .i64 (o.list[k]?.getD 0)) := by
  rcases eleven k hk with rfl | rfl | rfl | rfl | rfl | rfl | rfl | rfl | rfl | rfl | rfl <;> rfl
def withC (p : Po) (o : Cp) : Po := { p with c0 := o.c0, c1 := o.c1, c2 := o.c2, c3 := o.c3, c4 := o.c4, c5 := o.c5, c6 := o.c6, c7 := o.c7, c8 := o.c8, c9 := o.c9, c10 := o.c10 }
def mixP (p : Po) (o : Cp) (k : Nat) : Po := { p with c0 := if 0 < k then min p.c0 o.c0 else p.c0, c1 := if 1 < k then min p.c1 o.c1 else p.c1, c2 := if 2 < k then min p.c2 o.c2 else p.c2, c3 := if 3 < k then min p.c3 o.c3 else p.c3, c4 := if 4 < k then min p.c4 o.c4 else p.c4, c5 := if 5 < k then min p.c5 o.c5 else p.c5, c6 := if 6 < k then min p.c6 o.c6 else p.c6, c7 := if 7 < k then min p.c7 o.c7 else p.c7, c8 := if 8 < k then min p.c8 o.c8 else p.c8, c9 := if 9 < k then min p.c9 o.c9 else p.c9, c10 := if 10 < k then min p.c10 o.c10 else p.c10 }
theorem mixP_set (p : Po) (o : Cp) (v : Value) (k : Nat) (hk : k < 11) : (poL (mixP p o k) v).set (2 + k) (.int .i64 (min (p.caps[k]?.getD 0) (o.list[k]?.getD 0))) = poL (mixP p o (k + 1)) v := by
  rcases eleven k hk with rfl | rfl | rfl | rfl | rfl | rfl | rfl | rfl | rfl | rfl | rfl <;> rfl
theorem mixP_get (p : Po) (o : Cp) (v : Value) (k j : Nat) (hj : j < 11) : ∃ u, (poL (mixP p o k) v)[2 + j]? = some u := by
  rcases eleven j hj with rfl | rfl | rfl | rfl | rfl | rfl | rfl | rfl | rfl | rfl | rfl <;> exact ⟨_, rfl⟩
end Go.Proofs.Ytmjcgkjkhpjgbaa
