/- Contracts: readAttrs, Read. -/
import Derived.Test.YtgjjkieljdamfafDoorHeaderA
namespace Go.Proofs.YtgjjkieljdamfafDoor
open Go.RowKit
set_option linter.all false
set_option maxRecDepth 100000

/-- block B holds three cells -/
structure S3 (W : World) (B : Nat) (a b c : Value) : Prop where
  c0 : W.cell? ⟨B, 0, none⟩ = some a
  c1 : W.cell? ⟨B, 1, none⟩ = some b
  c2 : W.cell? ⟨B, 2, none⟩ = some c
  f0 : W.frozen? ⟨B, 0, none⟩ = false
  f1 : W.frozen? ⟨B, 1, none⟩ = false
  f2 : W.frozen? ⟨B, 2, none⟩ = false
theorem S3.below {W W' : World} {A B : Nat} {a b c : Value} (h : S3 W B a b c) (hb : Below A W W') (hA : B < A) : S3 W' B a b c :=
  ⟨(hb.cell (p := ⟨B, 0, none⟩) hA).trans h.c0, (hb.cell (p := ⟨B, 1, none⟩) hA).trans h.c1, (hb.cell (p := ⟨B, 2, none⟩) hA).trans h.c2,
    (hb.frozen (p := ⟨B, 0, none⟩) hA).trans h.f0, (hb.frozen (p := ⟨B, 1, none⟩) hA).trans h.f1, (hb.frozen (p := ⟨B, 2, none⟩) hA).trans h.f2⟩
theorem S3.new (w : World) (a b c : Value) (t : TypeId) : S3 (w.alloc (.cells #[a, b, c] t)) w.heap.size a b c := ⟨by simp, by simp, by simp, by simp, by simp, by simp⟩
theorem S3.lt {W : World} {B : Nat} {a b c : Value} (h : S3 W B a b c) : B < W.heap.size := cell_in h.c0
theorem S3.drewN {W : World} {B : Nat} {a b c : Value} (h : S3 W B a b c) (q : Nat) : S3 (W.drewN q) B a b c := ⟨h.c0, h.c1, h.c2, h.f0, h.f1, h.f2⟩
theorem S3.set3 {W : World} {B : Nat} {a b c : Value} (h : S3 W B a b c) (x y z : Value) : S3 (((W.setCell ⟨B, 0, none⟩ x).setCell ⟨B, 1, none⟩ y).setCell ⟨B, 2, none⟩ z) B x y z := by
  obtain ⟨h0, h1, h2, g0, g1, g2⟩ := h
  have k1 : (W.setCell ⟨B, 0, none⟩ x).cell? ⟨B, 1, none⟩ = some b := by rw [World.cell?_setCell_other _ _ _ _ (by intro e; injection e with _ e; cases e)]; exact h1
  have k2 : ((W.setCell ⟨B, 0, none⟩ x).setCell ⟨B, 1, none⟩ y).cell? ⟨B, 2, none⟩ = some c := by rw [World.cell?_setCell_other _ _ _ _ (by intro e; injection e with _ e; cases e), World.cell?_setCell_other _ _ _ _ (by intro e; injection e with _ e; cases e)]; exact h2
  refine ⟨?_, ?_, World.cell?_setCell_same _ _ _ k2, by simp only [World.frozen?_setCell]; exact g0, by simp only [World.frozen?_setCell]; exact g1, by simp only [World.frozen?_setCell]; exact g2⟩
  · rw [World.cell?_setCell_other _ _ _ _ (by intro e; injection e with _ e; cases e), World.cell?_setCell_other _ _ _ _ (by intro e; injection e with _ e; cases e)]
    exact World.cell?_setCell_same _ _ _ h0
  · rw [World.cell?_setCell_other _ _ _ _ (by intro e; injection e with _ e; cases e)]
    exact World.cell?_setCell_same _ _ _ k1
/-- block B holds two cells -/
structure P2c (W : World) (B : Nat) (a b : Value) : Prop where
  c0 : W.cell? ⟨B, 0, none⟩ = some a
  c1 : W.cell? ⟨B, 1, none⟩ = some b
  f0 : W.frozen? ⟨B, 0, none⟩ = false
  f1 : W.frozen? ⟨B, 1, none⟩ = false
theorem P2c.below {W W' : World} {A B : Nat} {a b : Value} (h : P2c W B a b) (hb : Below A W W') (hA : B < A) : P2c W' B a b :=
  ⟨(hb.cell (p := ⟨B, 0, none⟩) hA).trans h.c0, (hb.cell (p := ⟨B, 1, none⟩) hA).trans h.c1, (hb.frozen (p := ⟨B, 0, none⟩) hA).trans h.f0, (hb.frozen (p := ⟨B, 1, none⟩) hA).trans h.f1⟩
theorem P2c.new (w : World) (a b : Value) (t : TypeId) : P2c (w.alloc (.cells #[a, b] t)) w.heap.size a b := ⟨by simp, by simp, by simp, by simp⟩
theorem P2c.lt {W : World} {B : Nat} {a b : Value} (h : P2c W B a b) : B < W.heap.size := cell_in h.c0

theorem heap_setCell_ne {W : World} {B k g : Nat} {x : Value} (h : g ≠ B) : (W.setCell ⟨B, k, none⟩ x).heap[g]? = W.heap[g]? := by
  show (W.heap.modify B _)[g]? = _
  rw [Array.getElem?_modify, if_neg (fun e => h e.symm)]
theorem own_setCell {W : World} {base B k : Nat} {e : TypeId} {size : Nat} {v x : Value} {n : Nat} {cs : List Value} (h : W.ownsRow base e size v n cs) (hB : B < base) : (W.setCell ⟨B, k, none⟩ x).ownsRow base e size v n cs := by
  obtain ⟨hl, h⟩ := h
  refine ⟨hl, ?_⟩
  rcases h with h | ⟨g, cap, cur, rfl, hg, hcur, h⟩
  · exact .inl h
  · exact .inr ⟨g, cap, cur, rfl, hg, (heap_setCell_ne (by omega)).trans hcur, h⟩
theorem info_attr : (Tryd.prog.info? 29).map (fun i => (i.zero, i.size, i.bytes)) = some (some (.agg #[.string ⟨#[]⟩, .string ⟨#[]⟩]), 2, 32) := by kernel_rfl
theorem cell_two_new (w : World) (x y : Value) (t : TypeId) : ∀ j u, [x, y][j]? = some u → (w.alloc (.cells #[x, y] t)).cell? ((⟨w.heap.size, 0, none⟩ : Addr).add j) = some u := by
  intro j u hj
  match j, hj with
  | 0, hj => simp at hj; subst hj; simp [Addr.add]
  | 1, hj => simp at hj; subst hj; simp [Addr.add]
end Go.Proofs.YtgjjkieljdamfafDoor
