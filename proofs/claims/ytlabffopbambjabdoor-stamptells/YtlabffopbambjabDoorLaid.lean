/- How a listed package variable is read: arrays and structs of integers, cell by cell. No walk. -/
import Derived.Test.YtlabffopbambjabDoorKit
import Derived.Deep.DeepHandedRow
import Derived.Lib.LaidTab
namespace Go.Proofs.YtlabffopbambjabDoor
open Go.RowKit
set_option linter.all false

theorem arr_at {H : Type} {enc : TypeId × Value → H} {P : Program} {w : World} {base : Nat} {sp : Nat → Bool} {held : Bool} {fuel : Nat} {t e : TypeId} {n : Nat} {cs : List Value} {ds : List (DataW H)} {p : List MemPlace}
    (ht : P.underlying t = some (.array n e)) (h : DataW.trod enc P w base sp held fuel t cs = some (.agg ds, p)) (i : Nat) (hi : i < n) :
    ∃ fuel' di p', ds[i]? = some di ∧ DataW.trod enc P w base sp held fuel' e ((cs.drop (i * P.cellsOf e)).take (P.cellsOf e)) = some (di, p') := by
  cases fuel with
  | zero => simp [DataW.trod] at h
  | succ fuel =>
    simp only [DataW.trod, ht] at h
    split at h
    · obtain ⟨xs, hm, hx⟩ := Option.map_eq_some_iff.1 h
      obtain ⟨b, hb, hf⟩ := Lib.mapM_at hm i i (by simp [hi])
      have hds : ds = xs.map (·.1) := by have := congrArg Prod.fst hx; simpa using this.symm
      exact ⟨fuel, b.1, b.2, by rw [hds]; simp [hb], hf⟩
    · cases h
theorem str_at {H : Type} {enc : TypeId × Value → H} {P : Program} {w : World} {base : Nat} {sp : Nat → Bool} {held : Bool} {fuel : Nat} {t : TypeId} {fs : Array Field} {cs : List Value} {ds : List (DataW H)} {p : List MemPlace}
    (ht : P.underlying t = some (.struct fs)) (h : DataW.trod enc P w base sp held fuel t cs = some (.agg ds, p)) (i : Nat) (f : Field) (hf : fs.toList[i]? = some f) :
    ∃ fuel' di p', ds[i]? = some di ∧ DataW.trod enc P w base sp held fuel' f.type ((cs.drop f.offset).take (P.cellsOf f.type)) = some (di, p') := by
  cases fuel with
  | zero => simp [DataW.trod] at h
  | succ fuel =>
    simp only [DataW.trod, ht] at h
    split at h
    · obtain ⟨xs, hm, hx⟩ := Option.map_eq_some_iff.1 h
      obtain ⟨b, hb, hf'⟩ := Lib.mapM_at hm i f hf
      have hds : ds = xs.map (·.1) := by have := congrArg Prod.fst hx; simpa using this.symm
      exact ⟨fuel, b.1, b.2, by rw [hds]; simp [hb], hf'⟩
    · cases h
/-- one cell out of a piece -/
theorem piece {cs : List Value} {a n j : Nat} {v : Value} (h : (((cs.drop a).take n).drop j).take 1 = [v]) : cs[a + j]? = some v := by
  have h1 := congrArg (·[0]?) h
  simp only [List.getElem?_take, List.getElem?_drop, Nat.zero_lt_one, if_true, Nat.add_zero, List.getElem?_cons_zero] at h1
  split at h1
  · exact h1
  · cases h1
theorem piece1 {cs : List Value} {a : Nat} {v : Value} (h : (cs.drop a).take 1 = [v]) : cs[a]? = some v := by
  have h1 := congrArg (·[0]?) h
  simpa [List.getElem?_take, List.getElem?_drop] using h1
/-- an integer in an array -/
theorem arr_int {H : Type} {enc : TypeId × Value → H} {P : Program} {w : World} {base : Nat} {sp : Nat → Bool} {held : Bool} {fuel : Nat} {t e : TypeId} {n : Nat} {k : IntKind} {cs : List Value} {ds : List (DataW H)} {p : List MemPlace}
    (ht : P.underlying t = some (.array n e)) (he : P.underlying e = some (.int k)) (hce : P.cellsOf e = 1) (h : DataW.trod enc P w base sp held fuel t cs = some (.agg ds, p)) (i : Nat) (hi : i < n) (z : Int) (hz : ds[i]? = some (.lit (.int k z))) :
    (cs.drop i).take 1 = [.int k z] := by
  obtain ⟨f', di, p', hd, hr⟩ := arr_at ht h i hi
  rw [hz] at hd
  cases hd
  rw [hce, Nat.mul_one] at hr
  obtain ⟨z', hc, hy, _⟩ := DataW.trod_int he hr
  cases hy
  exact hc
/-- an integer in a struct -/
theorem str_int {H : Type} {enc : TypeId × Value → H} {P : Program} {w : World} {base : Nat} {sp : Nat → Bool} {held : Bool} {fuel : Nat} {t : TypeId} {fs : Array Field} {k : IntKind} {cs : List Value} {ds : List (DataW H)} {p : List MemPlace}
    (ht : P.underlying t = some (.struct fs)) (h : DataW.trod enc P w base sp held fuel t cs = some (.agg ds, p)) (i : Nat) (f : Field) (hf : fs.toList[i]? = some f) (he : P.underlying f.type = some (.int k)) (hce : P.cellsOf f.type = 1) (z : Int) (hz : ds[i]? = some (.lit (.int k z))) :
    (cs.drop f.offset).take 1 = [.int k z] := by
  obtain ⟨f', di, p', hd, hr⟩ := str_at ht h i f hf
  rw [hz] at hd
  cases hd
  rw [hce] at hr
  obtain ⟨z', hc, hy, _⟩ := DataW.trod_int he hr
  cases hy
  exact hc
/-- a listed variable's cells -/
theorem laid_head {P : Program} {W : World} {n : String} {d : DataW Unit} {rest : List (String × DataW Unit)} {ps : List MemPlace} (h : DataW.LaidVars P W ((n, d) :: rest) ps) {g : Nat} {t : TypeId} (hg : P.globalNamed n = some g) (ht : (P.globals[g]?).map (·.type) = some t) :
    (∃ (cs : List Value) (fuel : Nat) (p : List MemPlace), (∀ j, W.cell? ⟨g, j, none⟩ = cs[j]?) ∧ DataW.trod (fun _ => ()) P W 0 (fun _ => true) false fuel t cs = some (d, p)) ∧ ∃ q, DataW.LaidVars P W rest q := by
  obtain ⟨g', t', cs, fuel, p, q, hg', ht', hvar, hd, hr, _⟩ := h
  obtain rfl := Option.some.inj (hg.symm.trans hg')
  obtain rfl := Option.some.inj (ht.symm.trans ht')
  exact ⟨⟨cs.toList, fuel, p, fun j => by rw [World.var?_cell hg hvar j]; simp, hd⟩, q, hr⟩
/-- an array of arrays of integers -/
theorem tab_rows {H : Type} {enc : TypeId × Value → H} {P : Program} {w : World} {base : Nat} {sp : Nat → Bool} {held : Bool} {fuel : Nat} {t e ei : TypeId} {n m : Nat} {k : IntKind} {cs : List Value} {rows : List (List Int)} {p : List MemPlace}
    (ht : P.underlying t = some (.array n e)) (he : P.underlying e = some (.array m ei)) (hei : P.underlying ei = some (.int k)) (hc1 : P.cellsOf ei = 1) (hce : P.cellsOf e = m)
    (h : DataW.trod enc P w base sp held fuel t cs = some (.agg (rows.map fun r => .agg (r.map fun z => .lit (.int k z))), p)) (i j : Nat) (hi : i < n) (hj : j < m) (r : List Int) (hr : rows[i]? = some r) (z : Int) (hz : r[j]? = some z) :
    cs[i * m + j]? = some (.int k z) := by
  obtain ⟨f', di, p', hd, hr'⟩ := arr_at ht h i hi
  simp only [List.getElem?_map, hr, Option.map_some] at hd
  cases hd
  rw [hce] at hr'
  exact piece (arr_int he hei hc1 hr' j hj z (by simp [hz]))
/-- an array of structs of integers -/
theorem tab_structs {H : Type} {enc : TypeId × Value → H} {P : Program} {w : World} {base : Nat} {sp : Nat → Bool} {held : Bool} {fuel : Nat} {t e : TypeId} {n m : Nat} {fs : Array Field} {k : IntKind} {cs : List Value} {rows : List (List Int)} {p : List MemPlace}
    (ht : P.underlying t = some (.array n e)) (he : P.underlying e = some (.struct fs)) (hce : P.cellsOf e = m)
    (h : DataW.trod enc P w base sp held fuel t cs = some (.agg (rows.map fun r => .agg (r.map fun z => .lit (.int k z))), p)) (i j : Nat) (hi : i < n) (f : Field) (hf : fs.toList[j]? = some f) (ho : f.offset = j) (hei : P.underlying f.type = some (.int k)) (hc1 : P.cellsOf f.type = 1) (r : List Int) (hr : rows[i]? = some r) (z : Int) (hz : r[j]? = some z) :
    cs[i * m + j]? = some (.int k z) := by
  obtain ⟨f', di, p', hd, hr'⟩ := arr_at ht h i hi
  simp only [List.getElem?_map, hr, Option.map_some] at hd
  cases hd
  rw [hce] at hr'
  have := str_int he hr' j f hf hei hc1 z (by simp [hz])
  rw [ho] at this
  exact piece this
end Go.Proofs.YtlabffopbambjabDoor
