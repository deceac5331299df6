/- The order in which cookies are sent, as the program compares. -/
import Derived.Test.YtoppjfambomdmaaSortS
import Derived.Test.YtoppjfambomdmaaShelf
import Derived.Test.YtoppjfambomdmaaOpenF
import Derived.Deep.RegionHeld3
namespace Go.Proofs.Ytoppjfambomdmaa
open Go.Shelf Go.RowKit Go.Lib Go.Sort
set_option linter.all false
set_option maxRecDepth 100000

def or3 (x y z : Int) : Int := if x = 0 then (if y = 0 then z else y) else x
set_option maxHeartbeats 2000000 in
theorem or_any (b : Nat) (x y z : Int) (w : World) (c0 : w.cell? ⟨b, 0, none⟩ = some (.int .i64 x)) (c1 : w.cell? ⟨b, 1, none⟩ = some (.int .i64 y)) (c2 : w.cell? ⟨b, 2, none⟩ = some (.int .i64 z)) :
    Calls Try.prog 24 #[.slice (some ⟨b, 0, none⟩) 3 3] w fun e w' => e = .returned (.int .i64 (or3 x y z)) ∧ w' = w := by
  obtain ⟨o, ho⟩ : ∃ o, o = or3 x y z := ⟨_, rfl⟩
  have HO : Hid _ := ho
  rw [← ho]
  clear ho
  go_enter Try.func24, Try.ntmps24
  go_wp2_with fail
  go_loopw [8] (fun i wr => ∃ (q : Nat) (v : Int), q ≤ 3 ∧ v = q ∧ i = .int .i64 v ∧ wr = w ∧ Hid (∀ (j : Nat) u, j < q → [x, y, z][j]? = some u → u = 0)) (fun i _ => 3 - (intOf i).toNat)
  case atStart => exact ⟨0, 0, by omega, rfl, rfl, rfl, fun j u hj => absurd hj (by omega)⟩
  case round =>
    obtain ⟨q, v, hq, hv, rfl, rfl, hz⟩ := hrel
    have h4 : q = 0 ∨ q = 1 ∨ q = 2 ∨ q = 3 := by omega
    rcases h4 with rfl | rfl | rfl | rfl
    · obtain rfl : v = 0 := hv
      by_cases h : x = 0
      · have hx : (x != 0) = false := by rw [h]; rfl
        have HX : Hid _ := h
        clear h
        go_wp2_with fail
        go_roundw
        case rel => exact ⟨1, 1, by omega, rfl, rfl, (by first | rfl | trivial), fun j u hj hu => by
          obtain rfl : j = 0 := by omega
          exact (Option.some.inj hu).symm.trans HX.out⟩
        case measure => simp [intOf]
      · have hx : (x != 0) = true := by rw [bne_iff_ne]; exact h
        have HX : Hid (o = x) := by show _ = _; rw [HO.out]; unfold or3; rw [if_neg h]
        clear h
        go_wp2_with fail
        go_ret
        exact ⟨by rw [HX.out]; rfl, rfl⟩
    · obtain rfl : v = 1 := hv
      have hx0 : x = 0 := hz.out 0 x (by omega) rfl
      have HX0 : Hid _ := hx0
      clear hx0
      by_cases h : y = 0
      · have hx : (y != 0) = false := by rw [h]; rfl
        have HX : Hid _ := h
        clear h
        go_wp2_with fail
        go_roundw
        case rel => exact ⟨2, 2, by omega, rfl, rfl, (by first | rfl | trivial), fun j u hj hu => by
          have h2 : j = 0 ∨ j = 1 := by omega
          rcases h2 with rfl | rfl
          · exact (Option.some.inj hu).symm.trans HX0.out
          · exact (Option.some.inj hu).symm.trans HX.out⟩
        case measure => simp [intOf]
      · have hx : (y != 0) = true := by rw [bne_iff_ne]; exact h
        have HX : Hid (o = y) := by show _ = _; rw [HO.out]; unfold or3; rw [if_pos HX0.out, if_neg h]
        clear h
        go_wp2_with fail
        go_ret
        exact ⟨by rw [HX.out]; rfl, rfl⟩
    · obtain rfl : v = 2 := hv
      have HX0 : Hid (x = 0) := hz.out 0 x (by omega) rfl
      have HX1 : Hid (y = 0) := hz.out 1 y (by omega) rfl
      by_cases h : z = 0
      · have hx : (z != 0) = false := by rw [h]; rfl
        have HX : Hid _ := h
        clear h
        go_wp2_with fail
        go_roundw
        case rel => exact ⟨3, 3, by omega, rfl, rfl, (by first | rfl | trivial), fun j u hj hu => by
          have h2 : j = 0 ∨ j = 1 ∨ j = 2 := by omega
          rcases h2 with rfl | rfl | rfl
          · exact (Option.some.inj hu).symm.trans HX0.out
          · exact (Option.some.inj hu).symm.trans HX1.out
          · exact (Option.some.inj hu).symm.trans HX.out⟩
        case measure => simp [intOf]
      · have hx : (z != 0) = true := by rw [bne_iff_ne]; exact h
        have HX : Hid (o = z) := by show _ = _; rw [HO.out]; unfold or3; rw [if_pos HX0.out, if_pos HX1.out]
        clear h
        go_wp2_with fail
        go_ret
        exact ⟨by rw [HX.out]; rfl, rfl⟩
    · obtain rfl : v = 3 := hv
      have HX : Hid (o = 0) := by show _ = _; rw [HO.out]; unfold or3; rw [if_pos (hz.out 0 x (by omega) rfl), if_pos (hz.out 1 y (by omega) rfl)]; exact hz.out 2 z (by omega) rfl
      go_wp2_with fail
      go_ret
      exact ⟨by rw [HX.out]; rfl, rfl⟩
theorem or_new (W : World) (b : Nat) (x y z : Int) (T : TypeId) (hb : b = W.heap.size) : Calls Try.prog 24 #[.slice (some ⟨b, 0, none⟩) 3 3] (W.alloc (.cells #[.int .i64 x, .int .i64 y, .int .i64 z] T)).drew
    fun e w' => e = .returned (.int .i64 (or3 x y z)) ∧ w' = (W.alloc (.cells #[.int .i64 x, .int .i64 y, .int .i64 z] T)).drew := by
  subst hb
  have h := LRow.new W [.int .i64 x, .int .i64 y, .int .i64 z] T
  exact or_any _ x y z _ (h.cell 0 rfl) (h.cell 1 rfl) (h.cell 2 rfl)
/-- what the program compares by -/
def cmpC (a b : Ck) : Int := or3 (Lib.compareInt (b.path.length : Int) (a.path.length : Int)) (Lib.compareInt a.created b.created) (Lib.compareInt a.no b.no)
def GrowsTo (w w' : World) : Prop := ∃ q os', w' = grow (w.drewN q) os'
theorem GrowsTo.refl (w : World) : GrowsTo w w := ⟨0, #[], by rw [grow_empty]; rfl⟩
theorem GrowsTo.alloc {w w' : World} (h : GrowsTo w w') (o : Obj) : GrowsTo w (w'.alloc o) := by
  obtain ⟨q, os, rfl⟩ := h
  exact ⟨q, os ++ #[o], by rw [alloc_eq_grow, grow_grow]⟩
theorem GrowsTo.drew {w w' : World} (h : GrowsTo w w') : GrowsTo w w'.drew := by
  obtain ⟨q, os, rfl⟩ := h
  exact ⟨q + 1, os, by rw [drew_grow]; rfl⟩
set_option maxHeartbeats 4000000 in
theorem cmp_any (a b : Ck) (w : World) : Calls Try.prog 23 #[.agg (ckC a).toArray, .agg (ckC b).toArray] w fun e w' => e = .returned (.int .i64 (cmpC a b)) ∧ GrowsTo w w' := by
  obtain ⟨c, hc⟩ : ∃ c, c = cmpC a b := ⟨_, rfl⟩
  have HCC : Hid _ := hc
  rw [← hc]
  clear hc
  obtain ⟨W, hW⟩ : ∃ W, W = ((w.alloc (.cells (ckC a).toArray 34)).alloc (.cells (ckC b).toArray 34)) := ⟨_, rfl⟩
  have GW : Hid (GrowsTo w W) := by rw [hW]; exact (((GrowsTo.refl w).alloc _).alloc _)
  have A0 : LRow W w.heap.size (ckC a) := by rw [hW]; exact (LRow.new w (ckC a) _).below ((Below.refl _ _).alloc (Nat.le_refl _) _) (by simp)
  have B0 : LRow W (w.heap.size + 1) (ckC b) := by
    rw [hW]
    have h := LRow.new (w.alloc (.cells (ckC a).toArray 34)) (ckC b) 34
    rw [show (w.alloc (.cells (ckC a).toArray 34)).heap.size = w.heap.size + 1 from by simp] at h
    exact h
  have x3 := A0.cell 3 rfl
  have x10 := A0.cell 10 rfl
  have x12 := A0.cell 12 rfl
  have y3 := B0.cell 3 rfl
  have y10 := B0.cell 10 rfl
  have y12 := B0.cell 12 rfl
  clear A0 B0
  simp only [ckC] at hW ⊢
  go_enter Try.func23, Try.ntmps23
  go_wp2_with fail
  rw [← hW]
  clear hW
  generalize w.heap.size = X at x3 x10 x12 y3 y10 y12 ⊢
  go_region_held3 (fun w' => w'.cell? ⟨X, 3, none⟩ = some (.string (txt a.path)) ∧ w'.cell? ⟨X, 10, none⟩ = some (.int .i64 a.created) ∧ w'.cell? ⟨X, 12, none⟩ = some (.int .i64 a.no) ∧ w'.cell? ⟨X + 1, 3, none⟩ = some (.string (txt b.path)) ∧ w'.cell? ⟨X + 1, 10, none⟩ = some (.int .i64 b.created) ∧ w'.cell? ⟨X + 1, 12, none⟩ = some (.int .i64 b.no)) (go_keep)
    (first
    | (go_at_call 25; refine (Try.cmp_Compare_int _ _ _).mono ?_; rintro e w' ⟨rfl, rfl⟩)
    | (go_at_call 24; refine (or_new _ _ _ _ _ _ (by simp)).mono ?_; rintro e w' ⟨rfl, rfl⟩))
  all_goals
    go_wp2_with fail
    go_ret
    exact ⟨by rw [HCC.out]; rfl, (GW.out.alloc _).drew⟩
end Go.Proofs.Ytoppjfambomdmaa
