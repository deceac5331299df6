/- Rows of cells in a block that the call made, told by a plain function; texts as lists of bytes; small facts. No walk. -/
import Derived.WalkKit
import Derived.Laws.IdiomStrings
import Derived.Lib.Strings
import Derived.Lib.IndexBytes
import Derived.Deep.Draws
import Derived.Lib.AppendStr
import Derived.Maps.AppendAt
namespace Go.Proofs.Ytcfdajaideidkaa
open Go.RowKit
set_option linter.all false
set_option maxRecDepth 100000

/-- a text of these bytes -/
def txt (l : List UInt8) : ByteArray := ⟨l.toArray⟩
theorem txt_toList (l : List UInt8) : (txt l).data.toList = l := rfl
theorem txt_of (s : ByteArray) : txt s.data.toList = s := rfl
theorem txt_size (l : List UInt8) : (txt l).size = l.length := rfl
theorem len_size (s : ByteArray) : s.data.toList.length = s.size := rfl
theorem ext_mid (s : ByteArray) (a b : Nat) : s.extract a b = txt ((s.data.toList.drop a).take (b - a)) := by
  rw [← Lib.extract_data]; rfl
theorem ext_to (s : ByteArray) (o : Nat) : s.extract 0 o = txt (s.data.toList.take o) := by
  rw [ext_mid]; simp
theorem ext_from (s : ByteArray) (a : Nat) : s.extract a s.size = txt (s.data.toList.drop a) := by
  rw [← Lib.extract_to_end]; rfl
theorem u8_lt (c : UInt8) : c.toNat < 256 := c.toNat_lt

/-- block B holds the cells f 0, .., f (n - 1), and none of them is frozen -/
def Row (W : World) (B n : Nat) (f : Nat → Value) : Prop :=
  ∀ j, j < n → W.cell? ⟨B, j, none⟩ = some (f j) ∧ W.frozen? ⟨B, j, none⟩ = false
theorem Row.cell {W : World} {B n : Nat} {f : Nat → Value} (h : Row W B n f) (j : Nat) (hj : j < n) : W.cell? ⟨B, j, none⟩ = some (f j) := (h j hj).1
theorem Row.frozen {W : World} {B n : Nat} {f : Nat → Value} (h : Row W B n f) (j : Nat) (hj : j < n) : W.frozen? ⟨B, j, none⟩ = false := (h j hj).2
theorem Row.drew {W : World} {B n : Nat} {f : Nat → Value} (h : Row W B n f) : Row W.drew B n f := h
theorem Row.of_eq {W : World} {B n : Nat} {f g : Nat → Value} (h : Row W B n f) (e : ∀ j, j < n → f j = g j) : Row W B n g :=
  fun j hj => ⟨(h j hj).1.trans (by rw [e j hj]), (h j hj).2⟩
theorem Row.set {W : World} {B n : Nat} {f : Nat → Value} (h : Row W B n f) (k : Nat) (hk : k < n) (v : Value) :
    Row (W.setCell ⟨B, k, none⟩ v) B n (fun j => if j = k then v else f j) := by
  intro j hj
  refine ⟨?_, by rw [World.frozen?_setCell]; exact (h j hj).2⟩
  show _ = some (if j = k then v else f j)
  by_cases e : j = k
  · subst e
    rw [if_pos rfl]
    exact World.cell?_setCell_same _ _ _ (h j hj).1
  · rw [if_neg e, World.cell?_setCell_other _ _ _ _ (by intro h'; injection h' with _ h2 _; exact e h2.symm)]
    exact (h j hj).1
theorem Row.below {W W' : World} {A B n : Nat} {f : Nat → Value} (h : Row W B n f) (hb : Below A W W') (hA : B < A) : Row W' B n f :=
  fun j hj => ⟨(hb.cell (p := ⟨B, j, none⟩) hA).trans (h j hj).1, (hb.frozen (p := ⟨B, j, none⟩) hA).trans (h j hj).2⟩

/-- the bytes of a text, laid as a row -/
theorem row_bytes (w : World) (s : ByteArray) (cap : Nat) (e : TypeId) :
    Row (w.alloc (.cells (bytesRow s cap) e ((bytesRow s cap).size, (bytesRow s cap).size + 1))).drew w.heap.size s.size (fun j => .int .u8 ((s.data[j]?.getD 0).toNat : Int)) := by
  intro j hj
  have hj' : j < s.data.size := hj
  refine ⟨?_, ?_⟩
  · show (w.alloc _).cell? _ = _
    rw [World.cell?_alloc_mark, bytesRow_at s _ j hj']
    simp only [Array.getElem?_eq_getElem hj', Option.getD_some]
  · show (w.alloc _).frozen? _ = _
    rw [World.frozen?_alloc_mark]
    have : (bytesRow s cap).size = s.size + (cap - s.size) := by simp [bytesRow]
    simp [this]
    omega

/-- 'string(b)' of a row of bytes -/
theorem run_row_string {P : Program} (src dst e : TypeId) (hs : P.underlying src = some (.slice e)) (he : P.underlying e = some (.int .u8)) (hd : P.underlying dst = some .string)
    {W : World} {B n cap : Nat} (l : List UInt8) (hn : l.length = n) {f : Nat → Value} (h : Row W B n f) (hf : ∀ j (hj : j < l.length), f j = .int .u8 (l[j].toNat : Int)) :
    (convert src dst (.slice (some ⟨B, 0, none⟩) n cap)).run P W = .ok (.string (txt l)) W := by
  subst hn
  exact run_convert_bytes_back W src dst e ⟨B, 0, none⟩ cap l hs he hd (fun j hj => by
    have e : (Addr.add ⟨B, 0, none⟩ j) = ⟨B, j, none⟩ := by
      unfold Addr.add
      by_cases h0 : j = 0
      · rw [if_pos h0, h0]
      · rw [if_neg h0]; simp
    rw [e, h.cell j hj, hf j hj])

/-- what lay in the heap lies there still -/
theorem cell_in {W : World} {b o : Nat} {v : Value} (h : W.cell? ⟨b, o, none⟩ = some v) : b < W.heap.size := by
  rcases Nat.lt_or_ge b W.heap.size with h' | h'
  · exact h'
  · have e : W.heap[b]? = none := Array.getElem?_eq_none h'
    unfold World.cell? at h
    simp only [e] at h
    cases h

theorem ret_int {k : IntKind} {a b : Int} (h : a = b) : Ending.returned (.int k a) = .returned (.int k b) := by rw [h]
theorem ret_two {k : IntKind} {a b : Int} {v : Value} (h : a = b) : Ending.returned (.tuple #[.int k a, v]) = .returned (.tuple #[.int k b, v]) := by rw [h]
theorem ret_bool {b : Bool} (h : b = true) : Ending.returned (.bool b) = .returned (.bool true) := by rw [h]
/-- one call behind another -/
theorem next {w0 w1 w2 : World} (h1 : Below w0.heap.size w0 w1) (h2 : Below w1.heap.size w1 w2) : Below w0.heap.size w0 w2 := h1.trans (h2.mono h1.size)
/-- a slice of n elements, whose cells are cs -/
def Reads (W : World) (v : Value) (n : Nat) (cs : List Value) : Prop :=
  ∃ ad cap, v = .slice ad n cap ∧ (cs = [] ∨ ∃ b off, ad = some ⟨b, off, none⟩ ∧ ∀ j u, cs[j]? = some u → W.cell? ⟨b, off + j, none⟩ = some u)
theorem Reads.below {W W' : World} {B : Nat} {v : Value} {n : Nat} {cs : List Value} (h : Reads W v n cs) (hb : Below B W W') (hB : W.heap.size ≤ B) : Reads W' v n cs := by
  obtain ⟨ad, cap, rfl, h⟩ := h
  refine ⟨ad, cap, rfl, ?_⟩
  rcases h with h | ⟨b, off, rfl, h⟩
  · exact .inl h
  · exact .inr ⟨b, off, rfl, fun j u hj => (hb.cell (p := ⟨b, off + j, none⟩) (Nat.lt_of_lt_of_le (cell_in (h j u hj)) hB)).trans (h j u hj)⟩
theorem Reads.drewN {W : World} {v : Value} {n : Nat} {cs : List Value} (h : Reads W v n cs) (k : Nat) : Reads (W.drewN k) v n cs := h
theorem Reads.of_own {W : World} {base : Nat} {e : TypeId} {size : Nat} {v : Value} {n : Nat} {cs : List Value} (h : W.ownsRow base e size v n cs) : Reads W v n cs := by
  obtain ⟨hl, h⟩ := h
  rcases h with ⟨rfl, rfl⟩ | ⟨g, cap, cur, rfl, hg, hcur, hn, hcap, hsz, htk⟩
  · exact ⟨none, 0, rfl, .inl (List.length_eq_zero_iff.1 (by simpa using hl))⟩
  · refine ⟨_, cap, rfl, .inr ⟨g, 0, rfl, fun j u hj => ?_⟩⟩
    have hown : W.ownsRow base e size (.slice (some ⟨g, 0, none⟩) n cap) n cs := ⟨hl, .inr ⟨g, cap, cur, rfl, hg, hcur, hn, hcap, hsz, htk⟩⟩
    have hj' := (List.getElem?_eq_some_iff.1 hj).1
    have := hown.cellAt j (by omega)
    simp only [Nat.zero_add]
    rw [this, hj]
/-- what a call made stays owned where nothing old turns -/
theorem own_below {W W' : World} {B base : Nat} {e : TypeId} {size : Nat} {v : Value} {n : Nat} {cs : List Value} (h : W.ownsRow base e size v n cs) (hb : Below B W W') (hB : W.heap.size ≤ B) : W'.ownsRow base e size v n cs := by
  obtain ⟨hl, h⟩ := h
  refine ⟨hl, ?_⟩
  rcases h with h | ⟨g, cap, cur, rfl, hg, hcur, h⟩
  · exact .inl h
  · have hlt : g < W.heap.size := by
      rcases Nat.lt_or_ge g W.heap.size with h' | h'
      · exact h'
      · rw [Array.getElem?_eq_none h'] at hcur; cases hcur
    exact .inr ⟨g, cap, cur, rfl, hg, (hb.block g (by omega)).trans hcur, h⟩
/-- bytes as cells -/
def bcells (l : List UInt8) : List Value := l.map fun b => .int .u8 (b.toNat : Int)
theorem bcells_length (l : List UInt8) : (bcells l).length = l.length := by simp [bcells]
theorem bcells_append (a b : List UInt8) : bcells (a ++ b) = bcells a ++ bcells b := by simp [bcells]
theorem strCells_txt (l : List UInt8) : Lib.strCells (txt l) = bcells l := rfl
/-- 'string(b)' of bytes that the call owns -/
theorem run_own_string {P : Program} (src dst e : TypeId) (hs : P.underlying src = some (.slice e)) (he : P.underlying e = some (.int .u8)) (hd : P.underlying dst = some .string)
    {W : World} {base : Nat} {v : Value} (l : List UInt8) (h : W.ownsRow base e 1 v l.length (bcells l)) :
    (convert src dst v).run P W = .ok (.string (txt l)) W := by
  have h' := h
  obtain ⟨hl, h⟩ := h
  rcases h with ⟨rfl, hn⟩ | ⟨g, cap, cur, rfl, hg, hcur, hn, hcap, hsz, htk⟩
  · have : l = [] := List.length_eq_zero_iff.1 hn
    subst this
    rw [run_convert_bytes_string W src dst e none 0 0 hs he hd]
    simp [Conv.bytesToString]
    rfl
  · exact run_convert_bytes_back W src dst e ⟨g, 0, none⟩ cap l hs he hd (fun j hj => by
      have e : (Addr.add ⟨g, 0, none⟩ j) = ⟨g, j, none⟩ := by
        unfold Addr.add
        by_cases h0 : j = 0
        · rw [if_pos h0, h0]
        · rw [if_neg h0]; simp
      rw [e, h'.cellAt j (by omega)]
      simp [bcells, hj])
/-- texts as values -/
def strs (l : List (List UInt8)) : List Value := l.map (fun p => .string (txt p))
theorem strs_length (l : List (List UInt8)) : (strs l).length = l.length := by simp [strs]
theorem strs_get {l : List (List UInt8)} {k : Nat} {p : List UInt8} (h : l[k]? = some p) : (strs l)[k]? = some (.string (txt p)) := by simp [strs, h]
theorem strs_append (a b : List (List UInt8)) : strs (a ++ b) = strs a ++ strs b := by simp [strs]
theorem below_drewN' (w : World) (B n : Nat) : Below B w (w.drewN n) := ⟨rfl, rfl, rfl, Nat.le_refl _, fun _ _ => rfl⟩
end Go.Proofs.Ytcfdajaideidkaa
