/- What the list of package variables gives: clock's three tables and stamp's three. -/
import Derived.Test.YtlabffopbambjabDoorStampF
import Derived.Test.YtlabffopbambjabDoorClockL
namespace Go.Proofs.YtlabffopbambjabDoor
open Go.RowKit
set_option linter.all false

/-- a text in an array -/
theorem arr_str {H : Type} {enc : TypeId × Value → H} {P : Program} {w : World} {base : Nat} {sp : Nat → Bool} {held : Bool} {fuel : Nat} {t e : TypeId} {n : Nat} {cs : List Value} {ds : List (DataW H)} {p : List MemPlace}
    (ht : P.underlying t = some (.array n e)) (he : P.underlying e = some .string) (hce : P.cellsOf e = 1) (h : DataW.trod enc P w base sp held fuel t cs = some (.agg ds, p)) (i : Nat) (hi : i < n) (z : List UInt8) (hz : ds[i]? = some (.lit (.string z))) :
    (cs.drop i).take 1 = [.string (txt z)] := by
  obtain ⟨f', di, p', hd, hr⟩ := arr_at ht h i hi
  rw [hz] at hd
  cases hd
  rw [hce, Nat.mul_one] at hr
  obtain ⟨z', hc, hy, _⟩ := DataW.trod_string he hr
  cases hy
  exact hc
theorem c_string : Tryd.prog.cellsOf 9 = 1 := by kernel_rfl
theorem c_i32 : Tryd.prog.cellsOf 21 = 1 := by kernel_rfl
theorem c_two32 : Tryd.prog.cellsOf 76 = 2 := by kernel_rfl
theorem five (j : Nat) (h : j < 5) : j = 0 ∨ j = 1 ∨ j = 2 ∨ j = 3 ∨ j = 4 := by omega
theorem below10 {q : Nat → Prop} (h : ∀ i j, i < 5 → j < 2 → q (i * 2 + j)) : ∀ k, k < 10 → q k := fun k hk => by
  have := h (k / 2) (k % 2) (by omega) (by omega)
  rwa [show k / 2 * 2 + k % 2 = k from by omega] at this
theorem part_of {W : World} {cs : List Value} {fuel : Nat} {p : List MemPlace} (hc : ∀ j, W.cell? ⟨5, j, none⟩ = cs[j]?)
    (h : DataW.trod (fun _ => ()) Tryd.prog W 0 (fun _ => true) false fuel 77 cs = some (Rows.laid_gingersnap_stamp_parting, p)) :
    ∀ k, k < 10 → W.cell? ⟨5, k, none⟩ = some (.int .i32 ([9, 9, 32, 47, 59, 64, 91, 96, 123, 126].getD k 0)) := by
  have h' : DataW.trod (fun _ => ()) Tryd.prog W 0 (fun _ => true) false fuel 77 cs = some (.agg ([[9, 9], [32, 47], [59, 64], [91, 96], [123, 126]].map fun r => .agg (r.map fun z => .lit (.int .i32 z))), p) := h
  have key := fun i j hi hj r hr z hz => tab_rows Tryd.underlying77 Tryd.underlying76 Tryd.underlying21 c_i32 c_two32 h' i j hi hj r hr z hz
  refine below10 (fun i j hi hj => ?_)
  rw [hc]
  rcases five i hi with rfl | rfl | rfl | rfl | rfl <;> rcases two j hj with rfl | rfl <;> exact key _ _ (by decide) (by decide) _ rfl _ rfl
theorem mons_of {W : World} {cs : List Value} {fuel : Nat} {p : List MemPlace} (hc : ∀ j, W.cell? ⟨1, j, none⟩ = cs[j]?)
    (h : DataW.trod (fun _ => ()) Tryd.prog W 0 (fun _ => true) false fuel 60 cs = some (Rows.laid_gingersnap_stamp_months, p)) :
    ∀ (k : Nat) x, monGreat[k]? = some x → W.cell? ⟨1, k, none⟩ = some (.string (txt x)) := by
  intro k x hx
  rw [hc]
  have hk : k < 12 := (List.getElem?_eq_some_iff.1 hx).1
  have h' : DataW.trod (fun _ => ()) Tryd.prog W 0 (fun _ => true) false fuel 60 cs = some (.agg (monGreat.map fun z => .lit (.string z)), p) := h
  exact piece1 (arr_str Tryd.underlying60 Tryd.underlying9 c_string h' k hk x (by rw [List.getElem?_map, hx]; rfl))
theorem week_of {W : World} {cs : List Value} {fuel : Nat} {p : List MemPlace} (hc : ∀ j, W.cell? ⟨2, j, none⟩ = cs[j]?)
    (h : DataW.trod (fun _ => ()) Tryd.prog W 0 (fun _ => true) false fuel 61 cs = some (Rows.laid_gingersnap_stamp_weekdays, p)) :
    ∀ (k : Nat) x, weekNames[k]? = some x → W.cell? ⟨2, k, none⟩ = some (.string (txt x)) := by
  intro k x hx
  rw [hc]
  have hk : k < 7 := (List.getElem?_eq_some_iff.1 hx).1
  have h' : DataW.trod (fun _ => ()) Tryd.prog W 0 (fun _ => true) false fuel 61 cs = some (.agg (weekNames.map fun z => .lit (.string z)), p) := h
  exact piece1 (arr_str Tryd.underlying61 Tryd.underlying9 c_string h' k hk x (by rw [List.getElem?_map, hx]; rfl))
theorem stabs_of {W : World} (h : laidMetH Tryd.prog [("gingersnap/clock.bounds", Rows.laid_gingersnap_clock_bounds), ("gingersnap/clock.monthDays", Rows.laid_gingersnap_clock_monthDays), ("gingersnap/clock.spans", Rows.laid_gingersnap_clock_spans), ("gingersnap/stamp.parting", Rows.laid_gingersnap_stamp_parting), ("gingersnap/stamp.weekdays", Rows.laid_gingersnap_stamp_weekdays), ("gingersnap/stamp.months", Rows.laid_gingersnap_stamp_months)] W) : STabs W := by
  obtain ⟨ps, hv, _⟩ := h
  obtain ⟨⟨cs1, f1, p1, c1, r1⟩, q1, hv⟩ := laid_head hv (g := 0) (t := 43) (by kernel_rfl) (by kernel_rfl)
  obtain ⟨⟨cs2, f2, p2, c2, r2⟩, q2, hv⟩ := laid_head hv (g := 3) (t := 69) (by kernel_rfl) (by kernel_rfl)
  obtain ⟨⟨cs3, f3, p3, c3, r3⟩, q3, hv⟩ := laid_head hv (g := 4) (t := 72) (by kernel_rfl) (by kernel_rfl)
  obtain ⟨⟨cs4, f4, p4, c4, r4⟩, q4, hv⟩ := laid_head hv (g := 5) (t := 77) (by kernel_rfl) (by kernel_rfl)
  obtain ⟨⟨cs5, f5, p5, c5, r5⟩, q5, hv⟩ := laid_head hv (g := 2) (t := 61) (by kernel_rfl) (by kernel_rfl)
  obtain ⟨⟨cs6, f6, p6, c6, r6⟩, q6, hv⟩ := laid_head hv (g := 1) (t := 60) (by kernel_rfl) (by kernel_rfl)
  exact ⟨⟨bnd_of c1 r1, md_of c2 r2, sp_of c3 r3⟩, part_of c4 r4, mons_of c6 r6, week_of c5 r5⟩
end Go.Proofs.YtlabffopbambjabDoor
