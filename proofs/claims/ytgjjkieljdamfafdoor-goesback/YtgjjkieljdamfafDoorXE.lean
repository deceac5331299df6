/- How a listed package variable is read: arrays and structs of integers, cell by cell. No walk. What the list of package variables gives: clock's three tables. What the list of package variables gives: clock's three tables and stamp's three. What the list of package variables gives: clock's, stamp's and cookie's tables. How those who ask, and cookies, come in. No walk. How attributes and cookies as headers tell them come in. No walk. How rules of public suffixes come in. No walk. How those who ask come in. No walk. -/
import Derived.Test.YtgjjkieljdamfafDoorKit
import Derived.Deep.DeepHandedRow
import Derived.Lib.LaidTab
import Derived.Test.YtgjjkieljdamfafDoorClockA
import Derived.Test.YtgjjkieljdamfafDoorStampD
import Derived.Test.YtgjjkieljdamfafDoorXA
import Derived.Test.YtgjjkieljdamfafDoorWays
import Derived.Test.YtgjjkieljdamfafDoorHeaderM
import Derived.Test.YtgjjkieljdamfafDoorSuffixM
namespace Go.Proofs.YtgjjkieljdamfafDoor
open Go.RowKit
set_option linter.all false
set_option maxRecDepth 100000

theorem arr_at {H : Type} {enc : TypeId × Value → H} {P : Program} {w : World} {base : Nat} {sp : Nat → Bool} {held : Bool} {fuel : Nat} {t e : TypeId} {n : Nat} {cs : List Value} {ds : List (DataW H)} {p : List MemPlace}
    (ht : P.underlying t = some (.array n e)) (h : DataW.trod enc P w base sp held fuel t cs = some (.agg ds, p)) (i : Nat) (hi : i < n) :
    ∃ fuel' di p', ds[i]? = some di ∧ DataW.trod enc P w base sp held fuel' e ((cs.drop (i * P.cellsOf e)).take (P.cellsOf e)) = some (di, p') := by
  cases fuel with
  | zero => simp [DataW.trod] at h
  | succ fuel =>
    simp only [DataW.trod, ht] at h
    split at h
    · obtain ⟨xs, hm, hx⟩ := Option.map_eq_some_iff.1 h
      obtain ⟨b, hb, hf⟩ := Lib.mapM_at hm i i (by simp [hi])
      have hds : ds = xs.map (·.1) := by have := congrArg Prod.fst hx; simpa using this.symm
      exact ⟨fuel, b.1, b.2, by rw [hds]; simp [hb], hf⟩
    · cases h
theorem str_at {H : Type} {enc : TypeId × Value → H} {P : Program} {w : World} {base : Nat} {sp : Nat → Bool} {held : Bool} {fuel : Nat} {t : TypeId} {fs : Array Field} {cs : List Value} {ds : List (DataW H)} {p : List MemPlace}
    (ht : P.underlying t = some (.struct fs)) (h : DataW.trod enc P w base sp held fuel t cs = some (.agg ds, p)) (i : Nat) (f : Field) (hf : fs.toList[i]? = some f) :
    ∃ fuel' di p', ds[i]? = some di ∧ DataW.trod enc P w base sp held fuel' f.type ((cs.drop f.offset).take (P.cellsOf f.type)) = some (di, p') := by
  cases fuel with
  | zero => simp [DataW.trod] at h
  | succ fuel =>
    simp only [DataW.trod, ht] at h
    split at h
    · obtain ⟨xs, hm, hx⟩ := Option.map_eq_some_iff.1 h
      obtain ⟨b, hb, hf'⟩ := Lib.mapM_at hm i f hf
      have hds : ds = xs.map (·.1) := by have := congrArg Prod.fst hx; simpa using this.symm
      exact ⟨fuel, b.1, b.2, by rw [hds]; simp [hb], hf'⟩
    · cases h
/-- one cell out of a piece -/
theorem piece {cs : List Value} {a n j : Nat} {v : Value} (h : (((cs.drop a).take n).drop j).take 1 = [v]) : cs[a + j]? = some v := by
  have h1 := congrArg (·[0]?) h
  simp only [List.getElem?_take, List.getElem?_drop, Nat.zero_lt_one, if_true, Nat.add_zero, List.getElem?_cons_zero] at h1
  split at h1
  · exact h1
  · cases h1
theorem piece1 {cs : List Value} {a : Nat} {v : Value} (h : (cs.drop a).take 1 = [v]) : cs[a]? = some v := by
  have h1 := congrArg (·[0]?) h
  simpa [List.getElem?_take, List.getElem?_drop] using h1
/-- an integer in an array -/
theorem arr_int {H : Type} {enc : TypeId × Value → H} {P : Program} {w : World} {base : Nat} {sp : Nat → Bool} {held : Bool} {fuel : Nat} {t e : TypeId} {n : Nat} {k : IntKind} {cs : List Value} {ds : List (DataW H)} {p : List MemPlace}
    (ht : P.underlying t = some (.array n e)) (he : P.underlying e = some (.int k)) (hce : P.cellsOf e = 1) (h : DataW.trod enc P w base sp held fuel t cs = some (.agg ds, p)) (i : Nat) (hi : i < n) (z : Int) (hz : ds[i]? = some (.lit (.int k z))) :
    (cs.drop i).take 1 = [.int k z] := by
  obtain ⟨f', di, p', hd, hr⟩ := arr_at ht h i hi
  rw [hz] at hd
  cases hd
  rw [hce, Nat.mul_one] at hr
  obtain ⟨z', hc, hy, _⟩ := DataW.trod_int he hr
  cases hy
  exact hc
/-- an integer in a struct -/
theorem str_int {H : Type} {enc : TypeId × Value → H} {P : Program} {w : World} {base : Nat} {sp : Nat → Bool} {held : Bool} {fuel : Nat} {t : TypeId} {fs : Array Field} {k : IntKind} {cs : List Value} {ds : List (DataW H)} {p : List MemPlace}
    (ht : P.underlying t = some (.struct fs)) (h : DataW.trod enc P w base sp held fuel t cs = some (.agg ds, p)) (i : Nat) (f : Field) (hf : fs.toList[i]? = some f) (he : P.underlying f.type = some (.int k)) (hce : P.cellsOf f.type = 1) (z : Int) (hz : ds[i]? = some (.lit (.int k z))) :
    (cs.drop f.offset).take 1 = [.int k z] := by
  obtain ⟨f', di, p', hd, hr⟩ := str_at ht h i f hf
  rw [hz] at hd
  cases hd
  rw [hce] at hr
  obtain ⟨z', hc, hy, _⟩ := DataW.trod_int he hr
  cases hy
  exact hc
/-- a listed variable's cells -/
theorem laid_head {P : Program} {W : World} {n : String} {d : DataW Unit} {rest : List (String × DataW Unit)} {ps : List MemPlace} (h : DataW.LaidVars P W ((n, d) :: rest) ps) {g : Nat} {t : TypeId} (hg : P.globalNamed n = some g) (ht : (P.globals[g]?).map (·.type) = some t) :
    (∃ (cs : List Value) (fuel : Nat) (p : List MemPlace), (∀ j, W.cell? ⟨g, j, none⟩ = cs[j]?) ∧ DataW.trod (fun _ => ()) P W 0 (fun _ => true) false fuel t cs = some (d, p)) ∧ ∃ q, DataW.LaidVars P W rest q := by
  obtain ⟨g', t', cs, fuel, p, q, hg', ht', hvar, hd, hr, _⟩ := h
  obtain rfl := Option.some.inj (hg.symm.trans hg')
  obtain rfl := Option.some.inj (ht.symm.trans ht')
  exact ⟨⟨cs.toList, fuel, p, fun j => by rw [World.var?_cell hg hvar j]; simp, hd⟩, q, hr⟩
/-- an array of arrays of integers -/
theorem tab_rows {H : Type} {enc : TypeId × Value → H} {P : Program} {w : World} {base : Nat} {sp : Nat → Bool} {held : Bool} {fuel : Nat} {t e ei : TypeId} {n m : Nat} {k : IntKind} {cs : List Value} {rows : List (List Int)} {p : List MemPlace}
    (ht : P.underlying t = some (.array n e)) (he : P.underlying e = some (.array m ei)) (hei : P.underlying ei = some (.int k)) (hc1 : P.cellsOf ei = 1) (hce : P.cellsOf e = m)
    (h : DataW.trod enc P w base sp held fuel t cs = some (.agg (rows.map fun r => .agg (r.map fun z => .lit (.int k z))), p)) (i j : Nat) (hi : i < n) (hj : j < m) (r : List Int) (hr : rows[i]? = some r) (z : Int) (hz : r[j]? = some z) :
    cs[i * m + j]? = some (.int k z) := by
  obtain ⟨f', di, p', hd, hr'⟩ := arr_at ht h i hi
  simp only [List.getElem?_map, hr, Option.map_some] at hd
  cases hd
  rw [hce] at hr'
  exact piece (arr_int he hei hc1 hr' j hj z (by simp [hz]))
/-- an array of structs of integers -/
theorem tab_structs {H : Type} {enc : TypeId × Value → H} {P : Program} {w : World} {base : Nat} {sp : Nat → Bool} {held : Bool} {fuel : Nat} {t e : TypeId} {n m : Nat} {fs : Array Field} {k : IntKind} {cs : List Value} {rows : List (List Int)} {p : List MemPlace}
    (ht : P.underlying t = some (.array n e)) (he : P.underlying e = some (.struct fs)) (hce : P.cellsOf e = m)
    (h : DataW.trod enc P w base sp held fuel t cs = some (.agg (rows.map fun r => .agg (r.map fun z => .lit (.int k z))), p)) (i j : Nat) (hi : i < n) (f : Field) (hf : fs.toList[j]? = some f) (ho : f.offset = j) (hei : P.underlying f.type = some (.int k)) (hc1 : P.cellsOf f.type = 1) (r : List Int) (hr : rows[i]? = some r) (z : Int) (hz : r[j]? = some z) :
    cs[i * m + j]? = some (.int k z) := by
  obtain ⟨f', di, p', hd, hr'⟩ := arr_at ht h i hi
  simp only [List.getElem?_map, hr, Option.map_some] at hd
  cases hd
  rw [hce] at hr'
  have := str_int he hr' j f hf hei hc1 z (by simp [hz])
  rw [ho] at this
  exact piece this
end Go.Proofs.YtgjjkieljdamfafDoor
namespace Go.Proofs.YtgjjkieljdamfafDoor
open Go.RowKit
set_option linter.all false
set_option maxRecDepth 100000

theorem below12 {q : Nat → Prop} (h : ∀ i j, i < 6 → j < 2 → q (i * 2 + j)) : ∀ k, k < 12 → q k := fun k hk => by
  have := h (k / 2) (k % 2) (by omega) (by omega)
  rwa [show k / 2 * 2 + k % 2 = k from by omega] at this
theorem below12' {q : Nat → Prop} (h : ∀ i j, i < 4 → j < 3 → q (i * 3 + j)) : ∀ k, k < 12 → q k := fun k hk => by
  have := h (k / 3) (k % 3) (by omega) (by omega)
  rwa [show k / 3 * 3 + k % 3 = k from by omega] at this
theorem two (j : Nat) (h : j < 2) : j = 0 ∨ j = 1 := by omega
theorem three (j : Nat) (h : j < 3) : j = 0 ∨ j = 1 ∨ j = 2 := by omega
theorem four (j : Nat) (h : j < 4) : j = 0 ∨ j = 1 ∨ j = 2 ∨ j = 3 := by omega
theorem six (j : Nat) (h : j < 6) : j = 0 ∨ j = 1 ∨ j = 2 ∨ j = 3 ∨ j = 4 ∨ j = 5 := by omega
theorem twelve (j : Nat) (h : j < 12) : j = 0 ∨ j = 1 ∨ j = 2 ∨ j = 3 ∨ j = 4 ∨ j = 5 ∨ j = 6 ∨ j = 7 ∨ j = 8 ∨ j = 9 ∨ j = 10 ∨ j = 11 := by omega

theorem c_int : Tryd.prog.cellsOf 3 = 1 := by kernel_rfl
theorem c_two : Tryd.prog.cellsOf 120 = 2 := by kernel_rfl

theorem bnd_of {W : World} {cs : List Value} {fuel : Nat} {p : List MemPlace} (hc : ∀ j, W.cell? ⟨2, j, none⟩ = cs[j]?)
    (h : DataW.trod (fun _ => ()) Tryd.prog W 0 (fun _ => true) false fuel 121 cs = some (Rows.laid_gingersnap_clock_bounds, p)) : TabAt W 2 bndL := by
  have h' : DataW.trod (fun _ => ()) Tryd.prog W 0 (fun _ => true) false fuel 121 cs = some (.agg ([[1601, 9999], [1, 12], [1, 31], [0, 23], [0, 59], [0, 59]].map fun r => .agg (r.map fun z => .lit (.int .i64 z))), p) := h
  have key := fun i j hi hj r hr z hz => tab_rows Tryd.underlying121 Tryd.underlying120 Tryd.underlying3 c_int c_two h' i j hi hj r hr z hz
  refine below12 (fun i j hi hj => ?_)
  rw [hc]
  rcases six i hi with rfl | rfl | rfl | rfl | rfl | rfl <;> rcases two j hj with rfl | rfl <;> exact key _ _ (by decide) (by decide) _ rfl _ rfl
theorem md_of {W : World} {cs : List Value} {fuel : Nat} {p : List MemPlace} (hc : ∀ j, W.cell? ⟨4, j, none⟩ = cs[j]?)
    (h : DataW.trod (fun _ => ()) Tryd.prog W 0 (fun _ => true) false fuel 130 cs = some (Rows.laid_gingersnap_clock_monthDays, p)) : TabAt W 4 mdL := by
  intro k hk
  rw [hc]
  have hk' : k < 12 := hk
  rcases twelve k hk' with rfl | rfl | rfl | rfl | rfl | rfl | rfl | rfl | rfl | rfl | rfl | rfl <;> exact piece1 (arr_int Tryd.underlying130 Tryd.underlying3 c_int h _ (by decide) _ rfl)
end Go.Proofs.YtgjjkieljdamfafDoor
namespace Go.Proofs.YtgjjkieljdamfafDoor
open Go.RowKit
set_option linter.all false
set_option maxRecDepth 100000

/-- a text in an array -/
theorem arr_str {H : Type} {enc : TypeId × Value → H} {P : Program} {w : World} {base : Nat} {sp : Nat → Bool} {held : Bool} {fuel : Nat} {t e : TypeId} {n : Nat} {cs : List Value} {ds : List (DataW H)} {p : List MemPlace}
    (ht : P.underlying t = some (.array n e)) (he : P.underlying e = some .string) (hce : P.cellsOf e = 1) (h : DataW.trod enc P w base sp held fuel t cs = some (.agg ds, p)) (i : Nat) (hi : i < n) (z : List UInt8) (hz : ds[i]? = some (.lit (.string z))) :
    (cs.drop i).take 1 = [.string (txt z)] := by
  obtain ⟨f', di, p', hd, hr⟩ := arr_at ht h i hi
  rw [hz] at hd
  cases hd
  rw [hce, Nat.mul_one] at hr
  obtain ⟨z', hc, hy, _⟩ := DataW.trod_string he hr
  cases hy
  exact hc
theorem c_string : Tryd.prog.cellsOf 9 = 1 := by kernel_rfl
theorem c_i32 : Tryd.prog.cellsOf 21 = 1 := by kernel_rfl
theorem c_two32 : Tryd.prog.cellsOf 114 = 2 := by kernel_rfl
theorem five (j : Nat) (h : j < 5) : j = 0 ∨ j = 1 ∨ j = 2 ∨ j = 3 ∨ j = 4 := by omega
theorem below10 {q : Nat → Prop} (h : ∀ i j, i < 5 → j < 2 → q (i * 2 + j)) : ∀ k, k < 10 → q k := fun k hk => by
  have := h (k / 2) (k % 2) (by omega) (by omega)
  rwa [show k / 2 * 2 + k % 2 = k from by omega] at this
theorem part_of {W : World} {cs : List Value} {fuel : Nat} {p : List MemPlace} (hc : ∀ j, W.cell? ⟨1, j, none⟩ = cs[j]?)
    (h : DataW.trod (fun _ => ()) Tryd.prog W 0 (fun _ => true) false fuel 115 cs = some (Rows.laid_gingersnap_stamp_parting, p)) :
    ∀ k, k < 10 → W.cell? ⟨1, k, none⟩ = some (.int .i32 ([9, 9, 32, 47, 59, 64, 91, 96, 123, 126].getD k 0)) := by
  have h' : DataW.trod (fun _ => ()) Tryd.prog W 0 (fun _ => true) false fuel 115 cs = some (.agg ([[9, 9], [32, 47], [59, 64], [91, 96], [123, 126]].map fun r => .agg (r.map fun z => .lit (.int .i32 z))), p) := h
  have key := fun i j hi hj r hr z hz => tab_rows Tryd.underlying115 Tryd.underlying114 Tryd.underlying21 c_i32 c_two32 h' i j hi hj r hr z hz
  refine below10 (fun i j hi hj => ?_)
  rw [hc]
  rcases five i hi with rfl | rfl | rfl | rfl | rfl <;> rcases two j hj with rfl | rfl <;> exact key _ _ (by decide) (by decide) _ rfl _ rfl
theorem mons_of {W : World} {cs : List Value} {fuel : Nat} {p : List MemPlace} (hc : ∀ j, W.cell? ⟨5, j, none⟩ = cs[j]?)
    (h : DataW.trod (fun _ => ()) Tryd.prog W 0 (fun _ => true) false fuel 131 cs = some (Rows.laid_gingersnap_stamp_months, p)) :
    ∀ (k : Nat) x, monGreat[k]? = some x → W.cell? ⟨5, k, none⟩ = some (.string (txt x)) := by
  intro k x hx
  rw [hc]
  have hk : k < 12 := (List.getElem?_eq_some_iff.1 hx).1
  have h' : DataW.trod (fun _ => ()) Tryd.prog W 0 (fun _ => true) false fuel 131 cs = some (.agg (monGreat.map fun z => .lit (.string z)), p) := h
  exact piece1 (arr_str Tryd.underlying131 Tryd.underlying9 c_string h' k hk x (by rw [List.getElem?_map, hx]; rfl))
end Go.Proofs.YtgjjkieljdamfafDoor
namespace Go.Proofs.YtgjjkieljdamfafDoor
open Go.RowKit
set_option linter.all false
set_option maxRecDepth 100000

theorem sites_of {W : World} {cs : List Value} {fuel : Nat} {p : List MemPlace} (hc : ∀ j, W.cell? ⟨0, j, none⟩ = cs[j]?)
    (h : DataW.trod (fun _ => ()) Tryd.prog W 0 (fun _ => true) false fuel 102 cs = some (Rows.laid_gingersnap_cookie_sites, p)) :
    ∀ (k : Nat) x, ([[], [110, 111, 110, 101], [108, 97, 120], [115, 116, 114, 105, 99, 116]] : List (List UInt8))[k]? = some x → W.cell? ⟨0, k, none⟩ = some (.string (txt x)) := by
  intro k x hx
  rw [hc]
  have hk : k < 4 := (List.getElem?_eq_some_iff.1 hx).1
  have h' : DataW.trod (fun _ => ()) Tryd.prog W 0 (fun _ => true) false fuel 102 cs = some (.agg (([[], [110, 111, 110, 101], [108, 97, 120], [115, 116, 114, 105, 99, 116]] : List (List UInt8)).map fun z => .lit (.string z)), p) := h
  exact piece1 (arr_str Tryd.underlying102 Tryd.underlying9 c_string h' k hk x (by rw [List.getElem?_map, hx]; rfl))
theorem ctabs_of {W : World} (h : laidMetH Tryd.prog [("gingersnap/clock.bounds", Rows.laid_gingersnap_clock_bounds), ("gingersnap/clock.monthDays", Rows.laid_gingersnap_clock_monthDays), ("gingersnap/stamp.parting", Rows.laid_gingersnap_stamp_parting), ("gingersnap/stamp.months", Rows.laid_gingersnap_stamp_months), ("gingersnap/cookie.sites", Rows.laid_gingersnap_cookie_sites)] W) : CTabs W := by
  obtain ⟨ps, hv, _⟩ := h
  obtain ⟨⟨cs1, f1, p1, c1, r1⟩, q1, hv⟩ := laid_head hv (g := 2) (t := 121) (by kernel_rfl) (by kernel_rfl)
  obtain ⟨⟨cs2, f2, p2, c2, r2⟩, q2, hv⟩ := laid_head hv (g := 4) (t := 130) (by kernel_rfl) (by kernel_rfl)
  obtain ⟨⟨cs4, f4, p4, c4, r4⟩, q4, hv⟩ := laid_head hv (g := 1) (t := 115) (by kernel_rfl) (by kernel_rfl)
  obtain ⟨⟨cs6, f6, p6, c6, r6⟩, q6, hv⟩ := laid_head hv (g := 5) (t := 131) (by kernel_rfl) (by kernel_rfl)
  obtain ⟨⟨cs7, f7, p7, c7, r7⟩, q7, hv⟩ := laid_head hv (g := 0) (t := 102) (by kernel_rfl) (by kernel_rfl)
  exact ⟨⟨⟨bnd_of c1 r1, md_of c2 r2⟩, part_of c4 r4, mons_of c6 r6⟩, sites_of c7 r7⟩
end Go.Proofs.YtgjjkieljdamfafDoor
namespace Go.Proofs.YtgjjkieljdamfafDoor
open Go.ChangeShapes Go.WideShapes Go.ChangeAt Go.RowKit
set_option linter.all false
set_option maxRecDepth 100000

def wFrom : Way (List UInt8 × List UInt8 × Bool × Bool × Bool) := wPair wStr (wPair wStr (wPair wBool (wPair wBool wBool)))
theorem opens_from : Opens Tryd.prog 27 wFrom :=
  opens_struct Tryd.underlying27 (by kernel_rfl) (opensF_cons rfl (opens_str Tryd.underlying9 (by kernel_rfl)) (opensF_cons rfl (opens_str Tryd.underlying9 (by kernel_rfl)) (opensF_cons rfl (opens_bool Tryd.underlying4 (by kernel_rfl)) (opensF_cons rfl (opens_bool Tryd.underlying4 (by kernel_rfl)) (opensF_one rfl (opens_bool Tryd.underlying4 (by kernel_rfl)))))))
theorem open_from {H : Type} {enc : TypeId × Value → H} {W : World} {base : Nat} {v : Value} {d : DataW H} {ps : List MemPlace} (hv : Value.okWide Tryd.prog W .any base 27 v)
    (h : DataW.Trod enc Tryd.prog W 0 (fun _ => true) true 27 v d ps) (m : Nat) (hf : Fits m (DataW.weights Tryd.prog 27 d)) :
    ∃ f : Fr, v = .agg (frL f).toArray ∧ (f.host.length ≤ m ∧ f.path.length ≤ m) ∧ wFrom.bulk (f.host, f.path, f.secure, f.script, f.abroad) ≤ Rows.uptoBulk d := by
  obtain ⟨⟨a, b, c, x, y⟩, hl, hb⟩ := open_way opens_from h
  have hl := hl m hf
  have e := struct_cells Tryd.underlying27 hv
  obtain ⟨c1, c2, h1, _, ⟨rfl, k1⟩, ⟨c3, c4, rfl, _, ⟨rfl, k2⟩, ⟨c5, c6, rfl, _, rfl, ⟨c7, c8, rfl, _, rfl, rfl⟩⟩⟩⟩ := hl
  rw [h1] at e
  exact ⟨⟨a, b, c, x, y⟩, e, ⟨k1, k2⟩, hb⟩
def wCk : Way (List UInt8 × List UInt8 × List UInt8 × List UInt8 × Bool × Bool × Bool × Bool × Int × Int × Int × Int × Int) :=
  wPair wStr (wPair wStr (wPair wStr (wPair wStr (wPair wBool (wPair wBool (wPair wBool (wPair wBool (wPair wInt (wPair wInt (wPair wInt (wPair wInt wInt)))))))))))
def ckT (c : Ck) : List UInt8 × List UInt8 × List UInt8 × List UInt8 × Bool × Bool × Bool × Bool × Int × Int × Int × Int × Int :=
  (c.name, c.value, c.domain, c.path, c.hostOnly, c.secure, c.httpOnly, c.lasting, c.site, c.expiry, c.created, c.used, c.no)
def wCookie : Way Ck := ⟨13, fun m W cs c => wCk.rel m W cs (ckT c), fun c => wCk.bulk (ckT c)⟩
theorem opens_ck : Opens Tryd.prog 32 wCk :=
  opens_struct Tryd.underlying32 (by kernel_rfl) (opensF_cons rfl (opens_str Tryd.underlying9 (by kernel_rfl)) (opensF_cons rfl (opens_str Tryd.underlying9 (by kernel_rfl)) (opensF_cons rfl (opens_str Tryd.underlying9 (by kernel_rfl)) (opensF_cons rfl (opens_str Tryd.underlying9 (by kernel_rfl))
    (opensF_cons rfl (opens_bool Tryd.underlying4 (by kernel_rfl)) (opensF_cons rfl (opens_bool Tryd.underlying4 (by kernel_rfl)) (opensF_cons rfl (opens_bool Tryd.underlying4 (by kernel_rfl)) (opensF_cons rfl (opens_bool Tryd.underlying4 (by kernel_rfl))
    (opensF_cons rfl (opens_int Tryd.underlying3 (by kernel_rfl)) (opensF_cons rfl (opens_int Tryd.underlying3 (by kernel_rfl)) (opensF_cons rfl (opens_int Tryd.underlying3 (by kernel_rfl)) (opensF_cons rfl (opens_int Tryd.underlying3 (by kernel_rfl)) (opensF_one rfl (opens_int Tryd.underlying3 (by kernel_rfl)))))))))))))))
theorem opens_cookie : Opens Tryd.prog 32 wCookie := by
  refine ⟨opens_ck.1, fun {H enc W fuel cs x} h => ?_⟩
  obtain ⟨h1, a, h2, h3⟩ := opens_ck.2 h
  obtain ⟨a1, a2, a3, a4, a5, a6, a7, a8, a9, a10, a11, a12, a13⟩ := a
  exact ⟨h1, ⟨a1, a2, a3, a4, a5, a6, a7, a8, a9, a10, a11, a12, a13⟩, h2, h3⟩
theorem wCookie_is (m : Nat) (W : World) (ds : List Value) (c : Ck) (h : wCookie.rel m W ds c) : ds = ckC c := by
  obtain ⟨_, _, rfl, _, ⟨rfl, _⟩, ⟨_, _, rfl, _, ⟨rfl, _⟩, ⟨_, _, rfl, _, ⟨rfl, _⟩, ⟨_, _, rfl, _, ⟨rfl, _⟩, ⟨_, _, rfl, _, rfl, ⟨_, _, rfl, _, rfl, ⟨_, _, rfl, _, rfl, ⟨_, _, rfl, _, rfl, ⟨_, _, rfl, _, ⟨rfl, _⟩, ⟨_, _, rfl, _, ⟨rfl, _⟩, ⟨_, _, rfl, _, ⟨rfl, _⟩, ⟨_, _, rfl, _, ⟨rfl, _⟩, ⟨rfl, _⟩⟩⟩⟩⟩⟩⟩⟩⟩⟩⟩⟩⟩ := h
  rfl
theorem wCookie_ok (m : Nat) (W : World) (ds : List Value) (c : Ck) (h : wCookie.rel m W ds c) : CkOk m c := by
  obtain ⟨_, _, rfl, _, ⟨rfl, h1⟩, ⟨_, _, rfl, _, ⟨rfl, h2⟩, ⟨_, _, rfl, _, ⟨rfl, h3⟩, ⟨_, _, rfl, _, ⟨rfl, h4⟩, ⟨_, _, rfl, _, rfl, ⟨_, _, rfl, _, rfl, ⟨_, _, rfl, _, rfl, ⟨_, _, rfl, _, rfl, ⟨_, _, rfl, _, ⟨rfl, h5⟩, ⟨_, _, rfl, _, ⟨rfl, h6⟩, ⟨_, _, rfl, _, ⟨rfl, h7⟩, ⟨_, _, rfl, _, ⟨rfl, h8⟩, ⟨rfl, h9⟩⟩⟩⟩⟩⟩⟩⟩⟩⟩⟩⟩⟩ := h
  exact ⟨h1, h2, h3, h4, h5, h6, h7, h8, h9⟩
theorem open_cookie {H : Type} {enc : TypeId × Value → H} {W : World} {base : Nat} {v : Value} {d : DataW H} {ps : List MemPlace} (hv : Value.okWide Tryd.prog W .any base 32 v)
    (h : DataW.Trod enc Tryd.prog W 0 (fun _ => true) true 32 v d ps) (m : Nat) (hf : Fits m (DataW.weights Tryd.prog 32 d)) :
    ∃ c : Ck, v = .agg (ckC c).toArray ∧ CkOk m c ∧ wCookie.bulk c ≤ Rows.uptoBulk d := by
  obtain ⟨c, hl, hb⟩ := open_way opens_cookie h
  have hl := hl m hf
  have e := struct_cells Tryd.underlying32 hv
  rw [wCookie_is _ _ _ _ hl] at e
  exact ⟨c, e, wCookie_ok _ _ _ _ hl, hb⟩
end Go.Proofs.YtgjjkieljdamfafDoor
namespace Go.Proofs.YtgjjkieljdamfafDoor
open Go.ChangeShapes Go.WideShapes Go.ChangeAt Go.RowKit
set_option linter.all false
set_option maxRecDepth 100000

def wAttr : Way Attr := wPair wStr wStr
def wRaw : Way Raw := wPair wStr (wPair wStr (wList wAttr))
theorem wAttr_is (m : Nat) (W : World) (ds : List Value) (r : Attr) (h : wAttr.rel m W ds r) : ds = attrF r := by
  obtain ⟨x, y, rfl, _, ⟨rfl, _⟩, ⟨rfl, _⟩⟩ := h
  rfl
theorem wAttr_ok (m : Nat) (W : World) (ds : List Value) (r : Attr) (h : wAttr.rel m W ds r) : r.1.length ≤ m ∧ r.2.length ≤ m := by
  obtain ⟨x, y, rfl, _, ⟨rfl, h1⟩, ⟨rfl, h2⟩⟩ := h
  exact ⟨h1, h2⟩
theorem opens_attr : Opens Tryd.prog 29 wAttr :=
  opens_struct Tryd.underlying29 (by kernel_rfl) (opensF_cons rfl (opens_str Tryd.underlying9 (by kernel_rfl)) (opensF_one rfl (opens_str Tryd.underlying9 (by kernel_rfl))))
theorem opens_attrs : Opens Tryd.prog 23 (wList wAttr) :=
  opens_list Tryd.underlying23 (by kernel_rfl) (by decide) (of_decide_eq_true (by kernel_rfl)) opens_attr
theorem opens_raw : Opens Tryd.prog 25 wRaw :=
  opens_struct Tryd.underlying25 (by kernel_rfl) (opensF_cons rfl (opens_str Tryd.underlying9 (by kernel_rfl)) (opensF_cons rfl (opens_str Tryd.underlying9 (by kernel_rfl)) (opensF_one rfl opens_attrs)))
theorem open_attr {H : Type} {enc : TypeId × Value → H} {W : World} {base : Nat} {v : Value} {d : DataW H} {ps : List MemPlace} (hv : Value.okWide Tryd.prog W .any base 29 v)
    (h : DataW.Trod enc Tryd.prog W 0 (fun _ => true) true 29 v d ps) (m : Nat) (hf : Fits m (DataW.weights Tryd.prog 29 d)) :
    ∃ a : Attr, v = .agg #[.string (txt a.1), .string (txt a.2)] ∧ (a.1.length ≤ m ∧ a.2.length ≤ m) ∧ wAttr.bulk a ≤ Rows.uptoBulk d := by
  obtain ⟨l, hl, hb⟩ := open_way opens_attr h
  have hl := hl m hf
  have e := struct_cells Tryd.underlying29 hv
  rw [wAttr_is _ _ _ _ hl] at e
  exact ⟨l, e, wAttr_ok _ _ _ _ hl, hb⟩
theorem open_raw {H : Type} {enc : TypeId × Value → H} {W : World} {base : Nat} {v : Value} {d : DataW H} {ps : List MemPlace} (hv : Value.okWide Tryd.prog W .any base 25 v)
    (h : DataW.Trod enc Tryd.prog W 0 (fun _ => true) true 25 v d ps) (m : Nat) (hf : Fits m (DataW.weights Tryd.prog 25 d)) :
    ∃ (va : Value) (r : Raw), v = .agg #[.string (txt r.1), .string (txt r.2.1), va] ∧ Rows W va attrF r.2.2 ∧ (r.2.2.length ≤ m ∧ r.1.length ≤ m ∧ r.2.1.length ≤ m ∧ ∀ a ∈ r.2.2, a.1.length ≤ m ∧ a.2.length ≤ m) ∧ wRaw.bulk r ≤ Rows.uptoBulk d := by
  obtain ⟨r, hl, hb⟩ := open_way opens_raw h
  have hl := hl m hf
  have e := struct_cells Tryd.underlying25 hv
  obtain ⟨x, y, hxy, _, ⟨rfl, h1⟩, ⟨x2, y2, rfl, _, ⟨rfl, h2⟩, h3⟩⟩ := hl
  rw [hxy] at e
  have h3' := h3
  obtain ⟨ad, cap, rfl, h4, h5⟩ := h3
  refine ⟨_, r, e, rows_of wAttr_is (fun _ => rfl) h3', ⟨h4, h1, h2, fun a ha => ?_⟩, hb⟩
  obtain ⟨ds, hd⟩ := list_all h3' a ha
  exact wAttr_ok m W ds a hd
end Go.Proofs.YtgjjkieljdamfafDoor
namespace Go.Proofs.YtgjjkieljdamfafDoor
open Go.ChangeShapes Go.WideShapes Go.ChangeAt Go.RowKit
set_option linter.all false
set_option maxRecDepth 100000

def wRule : Way (Int × List UInt8) := wPair wInt wStr
def ruleF (r : Int × List UInt8) : List Value := [.int .i64 r.1, .string (txt r.2)]
theorem wRule_is (m : Nat) (W : World) (ds : List Value) (r : Int × List UInt8) (h : wRule.rel m W ds r) : ds = ruleF r := by
  obtain ⟨x, y, rfl, _, ⟨rfl, _⟩, ⟨rfl, _⟩⟩ := h
  rfl
theorem wRule_ok (m : Nat) (W : World) (ds : List Value) (r : Int × List UInt8) (h : wRule.rel m W ds r) : (-9223372036854775808 ≤ r.1 ∧ r.1 ≤ 9223372036854775807) ∧ r.2.length ≤ m := by
  obtain ⟨x, y, rfl, _, ⟨rfl, h1⟩, ⟨rfl, h2⟩⟩ := h
  exact ⟨h1, h2⟩
theorem opens_rule : Opens Tryd.prog 63 wRule :=
  opens_struct Tryd.underlying63 (by kernel_rfl) (opensF_cons rfl (opens_int Tryd.underlying3 (by kernel_rfl)) (opensF_one rfl (opens_str Tryd.underlying9 (by kernel_rfl))))
theorem opens_rules : Opens Tryd.prog 22 (wList wRule) :=
  opens_list Tryd.underlying22 (by kernel_rfl) (by decide) (of_decide_eq_true (by kernel_rfl)) opens_rule
theorem open_rules {H : Type} {enc : TypeId × Value → H} {W : World} {base : Nat} {v : Value} {d : DataW H} {ps : List MemPlace} (hv : Value.okWide Tryd.prog W .any base 22 v)
    (h : DataW.Trod enc Tryd.prog W 0 (fun _ => true) true 22 v d ps) (m : Nat) (hf : Fits m (DataW.weights Tryd.prog 22 d)) :
    ∃ l : Rules, Rows W v ruleF l ∧ l.length ≤ m ∧ (∀ r ∈ l, (-9223372036854775808 ≤ r.1 ∧ r.1 ≤ 9223372036854775807) ∧ r.2.length ≤ m) ∧ (wList wRule).bulk l ≤ Rows.uptoBulk d := by
  obtain ⟨l, hl, hb⟩ := open_way opens_rules h
  have hl := hl m hf
  rw [slice_cells Tryd.underlying22 hv] at hl
  refine ⟨l, rows_of wRule_is (fun _ => rfl) hl, list_len hl, fun r hr => ?_, hb⟩
  obtain ⟨ds, hd⟩ := list_all hl r hr
  exact wRule_ok m W ds r hd
end Go.Proofs.YtgjjkieljdamfafDoor
namespace Go.Proofs.YtgjjkieljdamfafDoor
open Go.ChangeShapes Go.WideShapes Go.ChangeAt Go.RowKit
set_option linter.all false
set_option maxRecDepth 100000

end Go.Proofs.YtgjjkieljdamfafDoor
