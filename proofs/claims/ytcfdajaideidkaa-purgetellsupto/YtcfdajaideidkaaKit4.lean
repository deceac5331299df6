/- Lists whose elements take several cells each: where each cell lies. No walk. -/
import Derived.Test.YtcfdajaideidkaaKit
namespace Go.Proofs.Ytcfdajaideidkaa
open Go.RowKit
set_option linter.all false
set_option maxRecDepth 100000

theorem flat_get {α : Type} (f : α → List Value) (n : Nat) (hf : ∀ a, (f a).length = n) (l : List α) (k i : Nat) (a : α) (h : l[k]? = some a) (hi : i < n) : (l.flatMap f)[k * n + i]? = (f a)[i]? := by
  induction l generalizing k with
  | nil => cases h
  | cons x l ih =>
    cases k with
    | zero =>
      have : x = a := by simpa using h
      subst this
      rw [List.flatMap_cons, Nat.zero_mul, Nat.zero_add, List.getElem?_append_left (by rw [hf]; exact hi)]
    | succ k =>
      rw [List.flatMap_cons, List.getElem?_append_right (by rw [hf, Nat.succ_mul]; omega), hf, show (k + 1) * n + i - n = k * n + i by rw [Nat.succ_mul]; omega]
      exact ih k (by simpa using h)
theorem flat_nil {α : Type} (f : α → List Value) (n : Nat) (hf : ∀ a, (f a).length = n + 1) (l : List α) (h : l.flatMap f = []) : l = [] := by
  cases l with
  | nil => rfl
  | cons x l =>
    have := congrArg List.length h
    rw [List.flatMap_cons, List.length_append, hf] at this
    simp at this
/-- a slice of l.length elements, each of the cells that f gives -/
def Rows (W : World) (v : Value) {α : Type} (f : α → List Value) (l : List α) : Prop := Reads W v l.length (l.flatMap f)
theorem Rows.below {W W' : World} {B : Nat} {v : Value} {α : Type} {f : α → List Value} {l : List α} (h : Rows W v f l) (hb : Below B W W') (hB : W.heap.size ≤ B) : Rows W' v f l := Reads.below h hb hB
/-- taken apart at one element -/
theorem Rows.at {W : World} {v : Value} {α : Type} {f : α → List Value} {l : List α} (h : Rows W v f l) {ad : Option Addr} {len cap : Nat} (hv : v = .slice ad len cap) (n : Nat) (hf : ∀ a, (f a).length = n + 1) (k : Nat) (a : α) (hk : l[k]? = some a) :
    ∃ b off, ad = some ⟨b, off, none⟩ ∧ b < W.heap.size ∧ ∀ i u, (f a)[i]? = some u → W.cell? ⟨b, off + k * (n + 1) + i, none⟩ = some u := by
  obtain ⟨ad', cap', hv', h⟩ := h
  rw [hv] at hv'
  injection hv' with e1 e2 e3
  subst e1
  have hlt := (List.getElem?_eq_some_iff.1 hk).1
  rcases h with h | ⟨b, off, rfl, h⟩
  · have := flat_nil f n hf l h
    subst this
    cases hk
  · have cell : ∀ i u, (f a)[i]? = some u → W.cell? ⟨b, off + k * (n + 1) + i, none⟩ = some u := fun i u hu => by
      have hi : i < n + 1 := by rw [← hf a]; exact (List.getElem?_eq_some_iff.1 hu).1
      have := h (k * (n + 1) + i) u (by rw [flat_get f (n + 1) hf l k i a hk hi]; exact hu)
      rw [← Nat.add_assoc] at this
      exact this
    have h0 : (f a)[0]? = some ((f a)[0]'(by rw [hf]; omega)) := List.getElem?_eq_getElem _
    exact ⟨b, off, rfl, cell_in (cell 0 _ h0), cell⟩
/-- a literal -/
theorem Rows.lit {α : Type} {f : α → List Value} (w : World) (l : List α) (t : TypeId) (B n cap : Nat) (cs : Array Value) (hB : B = w.heap.size) (hn : n = l.length) (h : cs.toList = l.flatMap f) : Rows (w.alloc (.cells cs t)) (.slice (some ⟨B, 0, none⟩) n cap) f l := by
  subst hB hn
  refine ⟨_, cap, rfl, .inr ⟨_, 0, rfl, fun j u hj => ?_⟩⟩
  rw [Nat.zero_add, World.cell?_alloc_new, ← Array.getElem?_toList, h, hj]
theorem Rows.shape {W : World} {v : Value} {α : Type} {f : α → List Value} {l : List α} (h : Rows W v f l) : ∃ ad cap, v = .slice ad l.length cap := by
  obtain ⟨ad, cap, hv, _⟩ := h
  exact ⟨ad, cap, hv⟩
end Go.Proofs.Ytcfdajaideidkaa
