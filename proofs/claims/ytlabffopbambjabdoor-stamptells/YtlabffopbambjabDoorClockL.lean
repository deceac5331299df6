/- What the list of package variables gives: clock's three tables. -/
import Derived.Test.YtlabffopbambjabDoorClockA
import Derived.Test.YtlabffopbambjabDoorLaid
namespace Go.Proofs.YtlabffopbambjabDoor
open Go.RowKit
set_option linter.all false

theorem below12 {q : Nat → Prop} (h : ∀ i j, i < 6 → j < 2 → q (i * 2 + j)) : ∀ k, k < 12 → q k := fun k hk => by
  have := h (k / 2) (k % 2) (by omega) (by omega)
  rwa [show k / 2 * 2 + k % 2 = k from by omega] at this
theorem below12' {q : Nat → Prop} (h : ∀ i j, i < 4 → j < 3 → q (i * 3 + j)) : ∀ k, k < 12 → q k := fun k hk => by
  have := h (k / 3) (k % 3) (by omega) (by omega)
  rwa [show k / 3 * 3 + k % 3 = k from by omega] at this
theorem two (j : Nat) (h : j < 2) : j = 0 ∨ j = 1 := by omega
theorem three (j : Nat) (h : j < 3) : j = 0 ∨ j = 1 ∨ j = 2 := by omega
theorem four (j : Nat) (h : j < 4) : j = 0 ∨ j = 1 ∨ j = 2 ∨ j = 3 := by omega
theorem six (j : Nat) (h : j < 6) : j = 0 ∨ j = 1 ∨ j = 2 ∨ j = 3 ∨ j = 4 ∨ j = 5 := by omega
theorem twelve (j : Nat) (h : j < 12) : j = 0 ∨ j = 1 ∨ j = 2 ∨ j = 3 ∨ j = 4 ∨ j = 5 ∨ j = 6 ∨ j = 7 ∨ j = 8 ∨ j = 9 ∨ j = 10 ∨ j = 11 := by omega

theorem c_int : Tryd.prog.cellsOf 3 = 1 := by kernel_rfl
theorem c_two : Tryd.prog.cellsOf 42 = 2 := by kernel_rfl
theorem c_span : Tryd.prog.cellsOf 71 = 3 := by kernel_rfl

theorem bnd_of {W : World} {cs : List Value} {fuel : Nat} {p : List MemPlace} (hc : ∀ j, W.cell? ⟨0, j, none⟩ = cs[j]?)
    (h : DataW.trod (fun _ => ()) Tryd.prog W 0 (fun _ => true) false fuel 43 cs = some (Rows.laid_gingersnap_clock_bounds, p)) : TabAt W 0 bndL := by
  have h' : DataW.trod (fun _ => ()) Tryd.prog W 0 (fun _ => true) false fuel 43 cs = some (.agg ([[1601, 9999], [1, 12], [1, 31], [0, 23], [0, 59], [0, 59]].map fun r => .agg (r.map fun z => .lit (.int .i64 z))), p) := h
  have key := fun i j hi hj r hr z hz => tab_rows Tryd.underlying43 Tryd.underlying42 Tryd.underlying3 c_int c_two h' i j hi hj r hr z hz
  refine below12 (fun i j hi hj => ?_)
  rw [hc]
  rcases six i hi with rfl | rfl | rfl | rfl | rfl | rfl <;> rcases two j hj with rfl | rfl <;> exact key _ _ (by decide) (by decide) _ rfl _ rfl
theorem md_of {W : World} {cs : List Value} {fuel : Nat} {p : List MemPlace} (hc : ∀ j, W.cell? ⟨3, j, none⟩ = cs[j]?)
    (h : DataW.trod (fun _ => ()) Tryd.prog W 0 (fun _ => true) false fuel 69 cs = some (Rows.laid_gingersnap_clock_monthDays, p)) : TabAt W 3 mdL := by
  intro k hk
  rw [hc]
  have hk' : k < 12 := hk
  rcases twelve k hk' with rfl | rfl | rfl | rfl | rfl | rfl | rfl | rfl | rfl | rfl | rfl | rfl <;> exact piece1 (arr_int Tryd.underlying69 Tryd.underlying3 c_int h _ (by decide) _ rfl)
theorem sp_of {W : World} {cs : List Value} {fuel : Nat} {p : List MemPlace} (hc : ∀ j, W.cell? ⟨4, j, none⟩ = cs[j]?)
    (h : DataW.trod (fun _ => ()) Tryd.prog W 0 (fun _ => true) false fuel 72 cs = some (Rows.laid_gingersnap_clock_spans, p)) : TabAt W 4 spL := by
  have h' : DataW.trod (fun _ => ()) Tryd.prog W 0 (fun _ => true) false fuel 72 cs = some (.agg ([[400, 146097, 20], [100, 36524, 3], [4, 1461, 24], [1, 365, 3]].map fun r => .agg (r.map fun z => .lit (.int .i64 z))), p) := h
  have key := fun i j hi f hf ho hei hc1 r hr z hz => tab_structs Tryd.underlying72 Tryd.underlying71 c_span h' i j hi f hf ho hei hc1 r hr z hz
  refine below12' (fun i j hi hj => ?_)
  rw [hc]
  rcases four i hi with rfl | rfl | rfl | rfl <;> rcases three j hj with rfl | rfl | rfl <;> first | exact key _ 0 hi _ rfl rfl Tryd.underlying3 c_int _ rfl _ rfl | exact key _ 1 hi _ rfl rfl Tryd.underlying3 c_int _ rfl _ rfl | exact key _ 2 hi _ rfl rfl Tryd.underlying3 c_int _ rfl _ rfl
theorem tabs_of {W : World} (h : laidMetH Tryd.prog [("gingersnap/clock.bounds", Rows.laid_gingersnap_clock_bounds), ("gingersnap/clock.monthDays", Rows.laid_gingersnap_clock_monthDays), ("gingersnap/clock.spans", Rows.laid_gingersnap_clock_spans)] W) : Tabs W := by
  obtain ⟨ps, hv, _⟩ := h
  obtain ⟨⟨cs1, f1, p1, c1, r1⟩, q1, hv⟩ := laid_head hv (g := 0) (t := 43) (by kernel_rfl) (by kernel_rfl)
  obtain ⟨⟨cs2, f2, p2, c2, r2⟩, q2, hv⟩ := laid_head hv (g := 3) (t := 69) (by kernel_rfl) (by kernel_rfl)
  obtain ⟨⟨cs3, f3, p3, c3, r3⟩, q3, hv⟩ := laid_head hv (g := 4) (t := 72) (by kernel_rfl) (by kernel_rfl)
  exact ⟨bnd_of c1 r1, md_of c2 r2, sp_of c3 r3⟩
end Go.Proofs.YtlabffopbambjabDoor
