/- Contracts of package clock: the moment of a time, the time of a moment. -/
import Derived.Test.YtgjjkieljdamfafDoorClockB
namespace Go.Proofs.YtgjjkieljdamfafDoor
open Go.RowKit
set_option linter.all false
set_option maxRecDepth 100000

def ofV (y m d h i s : Int) : Int := if vldB y m d h i s then momOf y m d h i s else 0
def ofE (y m d h i s : Int) : Int := if vldB y m d h i s then 0 else 3
theorem of_yes {y m d h i s : Int} (hv : vldB y m d h i s = true) : ofV y m d h i s = momOf y m d h i s ∧ ofE y m d h i s = 0 := by unfold ofV ofE; rw [hv]; exact ⟨rfl, rfl⟩
theorem of_no {y m d h i s : Int} (hv : vldB y m d h i s = false) : ofV y m d h i s = 0 ∧ ofE y m d h i s = 3 := by unfold ofV ofE; rw [hv]; exact ⟨rfl, rfl⟩
theorem vld_no {y m d h i s : Int} (hn : ¬ (1601 ≤ y ∧ y ≤ 9999 ∧ 1 ≤ m ∧ m ≤ 12 ∧ 1 ≤ d ∧ d ≤ dim y m ∧ 0 ≤ h ∧ h ≤ 23 ∧ 0 ≤ i ∧ i ≤ 59 ∧ 0 ≤ s ∧ s ≤ 59)) : vldB y m d h i s = false := by
  rw [← Bool.not_eq_true, vldB_iff]; exact hn
/-- the first k things of a time are within their bounds -/
def okTo (y m d h i s : Int) (k : Nat) : Prop :=
  (0 < k → 1601 ≤ y ∧ y ≤ 9999) ∧ (1 < k → 1 ≤ m ∧ m ≤ 12) ∧ (2 < k → 1 ≤ d ∧ d ≤ 31) ∧ (3 < k → 0 ≤ h ∧ h ≤ 23) ∧ (4 < k → 0 ≤ i ∧ i ≤ 59) ∧ (5 < k → 0 ≤ s ∧ s ≤ 59)

set_option maxHeartbeats 4000000 in
theorem of_any (y m d h i s : Int) (w : World) (T : Tabs w) : Calls Tryd.prog 61 #[.agg #[.int .i64 y, .int .i64 m, .int .i64 d, .int .i64 h, .int .i64 i, .int .i64 s]] w fun e w' =>
    e = .returned (.tuple #[.int .i64 (ofV y m d h i s), .int .i64 (ofE y m d h i s)]) ∧ Below w.heap.size w w' := by
  have T0 : Hid (Tabs w) := T
  have i0 : ∀ w, (Instr.index 119 (.agg #[.int .i64 y, .int .i64 m, .int .i64 d, .int .i64 h, .int .i64 i, .int .i64 s]) (.int .i64 0)).run Tryd.prog w = .ok (.int .i64 y) w := fun _ => by kernel_rfl
  have i1 : ∀ w, (Instr.index 119 (.agg #[.int .i64 y, .int .i64 m, .int .i64 d, .int .i64 h, .int .i64 i, .int .i64 s]) (.int .i64 1)).run Tryd.prog w = .ok (.int .i64 m) w := fun _ => by kernel_rfl
  have i2 : ∀ w, (Instr.index 119 (.agg #[.int .i64 y, .int .i64 m, .int .i64 d, .int .i64 h, .int .i64 i, .int .i64 s]) (.int .i64 2)).run Tryd.prog w = .ok (.int .i64 d) w := fun _ => by kernel_rfl
  have i3 : ∀ w, (Instr.index 119 (.agg #[.int .i64 y, .int .i64 m, .int .i64 d, .int .i64 h, .int .i64 i, .int .i64 s]) (.int .i64 3)).run Tryd.prog w = .ok (.int .i64 h) w := fun _ => by kernel_rfl
  have i4 : ∀ w, (Instr.index 119 (.agg #[.int .i64 y, .int .i64 m, .int .i64 d, .int .i64 h, .int .i64 i, .int .i64 s]) (.int .i64 4)).run Tryd.prog w = .ok (.int .i64 i) w := fun _ => by kernel_rfl
  have i5 : ∀ w, (Instr.index 119 (.agg #[.int .i64 y, .int .i64 m, .int .i64 d, .int .i64 h, .int .i64 i, .int .i64 s]) (.int .i64 5)).run Tryd.prog w = .ok (.int .i64 s) w := fun _ => by kernel_rfl
  clear T
  go_enter Tryd.func61, Tryd.ntmps61
  go_wp2
  obtain ⟨W, hW⟩ : ∃ W, W = (w.alloc (.cells #[.int .i64 y, .int .i64 m, .int .i64 d, .int .i64 h, .int .i64 i, .int .i64 s] 100)).alloc (.cells #[.int .i64 y, .int .i64 m, .int .i64 d, .int .i64 h, .int .i64 i, .int .i64 s] 119) := ⟨_, rfl⟩
  rw [← hW]
  have bW : Below w.heap.size w W := by rw [hW]; exact ((Below.refl _ _).alloc (Nat.le_refl _) _).alloc (by simp) _
  have TW : Tabs W := T0.out.below bW (Nat.le_refl _)
  have cY : W.cell? ⟨w.heap.size, 0, none⟩ = some (.int .i64 y) := by rw [hW]; simp
  have cM : W.cell? ⟨w.heap.size, 1, none⟩ = some (.int .i64 m) := by rw [hW]; simp
  have cD : W.cell? ⟨w.heap.size, 2, none⟩ = some (.int .i64 d) := by rw [hW]; simp
  have cH : W.cell? ⟨w.heap.size, 3, none⟩ = some (.int .i64 h) := by rw [hW]; simp
  have cI : W.cell? ⟨w.heap.size, 4, none⟩ = some (.int .i64 i) := by rw [hW]; simp
  have cS : W.cell? ⟨w.heap.size, 5, none⟩ = some (.int .i64 s) := by rw [hW]; simp
  have hsz : w.heap.size < W.heap.size := by rw [hW]; simp; omega
  clear hW
  have TWH : Hid (Tabs W) := TW
  have b0 := TW.bnd 0 (by decide)
  have b1 := TW.bnd 1 (by decide)
  have b2 := TW.bnd 2 (by decide)
  have b3 := TW.bnd 3 (by decide)
  have b4 := TW.bnd 4 (by decide)
  have b5 := TW.bnd 5 (by decide)
  have b6 := TW.bnd 6 (by decide)
  have b7 := TW.bnd 7 (by decide)
  have b8 := TW.bnd 8 (by decide)
  have b9 := TW.bnd 9 (by decide)
  have b10 := TW.bnd 10 (by decide)
  have b11 := TW.bnd 11 (by decide)
  simp only [bndL, List.getD_cons_zero, List.getD_cons_succ] at b0 b1 b2 b3 b4 b5 b6 b7 b8 b9 b10 b11
  clear TW
  go_loop [22] (fun iv => ∃ k : Nat, k ≤ 6 ∧ iv = .int .i64 k ∧ Hid (okTo y m d h i s k)) (fun iv => 6 - (intOf iv).toNat)
  case atStart => exact ⟨0, by omega, rfl, by unfold okTo; exact ⟨fun h => by omega, fun h => by omega, fun h => by omega, fun h => by omega, fun h => by omega, fun h => by omega⟩⟩
  case round =>
    obtain ⟨k, hk, rfl, hok⟩ := hrel
    have hcase : k = 0 ∨ k = 1 ∨ k = 2 ∨ k = 3 ∨ k = 4 ∨ k = 5 ∨ k = 6 := by omega
    rcases hcase with rfl | rfl | rfl | rfl | rfl | rfl | rfl
    · by_cases hlo : y < 1601
      · have HV : Hid (ofV y m d h i s = 0 ∧ ofE y m d h i s = 3) := of_no (vld_no (by omega))
        go_wp2
        go_ret2
        refine ⟨?_, bW⟩
        rw [HV.out.1, HV.out.2]; rfl
      · by_cases hhi : 9999 < y
        · have HV : Hid (ofV y m d h i s = 0 ∧ ofE y m d h i s = 3) := of_no (vld_no (by omega))
          go_wp2
          go_ret2
          refine ⟨?_, bW⟩
          rw [HV.out.1, HV.out.2]; rfl
        · have HO : Hid (okTo y m d h i s 1) := by have h0 := hok.out; unfold okTo at h0 ⊢; show _ ∧ _; omega
          go_wp2
          go_round
          case rel => exact ⟨1, by omega, rfl, HO⟩
          case measure => simp [intOf]
    · by_cases hlo : m < 1
      · have HV : Hid (ofV y m d h i s = 0 ∧ ofE y m d h i s = 3) := of_no (vld_no (by omega))
        go_wp2
        go_ret2
        refine ⟨?_, bW⟩
        rw [HV.out.1, HV.out.2]; rfl
      · by_cases hhi : 12 < m
        · have HV : Hid (ofV y m d h i s = 0 ∧ ofE y m d h i s = 3) := of_no (vld_no (by omega))
          go_wp2
          go_ret2
          refine ⟨?_, bW⟩
          rw [HV.out.1, HV.out.2]; rfl
        · have HO : Hid (okTo y m d h i s 2) := by have h0 := hok.out; unfold okTo at h0 ⊢; show _ ∧ _; omega
          go_wp2
          go_round
          case rel => exact ⟨2, by omega, rfl, HO⟩
          case measure => simp [intOf]
    · by_cases hlo : d < 1
      · have HV : Hid (ofV y m d h i s = 0 ∧ ofE y m d h i s = 3) := of_no (vld_no (by have := dim_bd y m; omega))
        go_wp2
        go_ret2
        refine ⟨?_, bW⟩
        rw [HV.out.1, HV.out.2]; rfl
      · by_cases hhi : 31 < d
        · have HV : Hid (ofV y m d h i s = 0 ∧ ofE y m d h i s = 3) := of_no (vld_no (by have := dim_bd y m; omega))
          go_wp2
          go_ret2
          refine ⟨?_, bW⟩
          rw [HV.out.1, HV.out.2]; rfl
        · have HO : Hid (okTo y m d h i s 3) := by have h0 := hok.out; unfold okTo at h0 ⊢; show _ ∧ _; omega
          go_wp2
          go_round
          case rel => exact ⟨3, by omega, rfl, HO⟩
          case measure => simp [intOf]
    · by_cases hlo : h < 0
      · have HV : Hid (ofV y m d h i s = 0 ∧ ofE y m d h i s = 3) := of_no (vld_no (by omega))
        go_wp2
        go_ret2
        refine ⟨?_, bW⟩
        rw [HV.out.1, HV.out.2]; rfl
      · by_cases hhi : 23 < h
        · have HV : Hid (ofV y m d h i s = 0 ∧ ofE y m d h i s = 3) := of_no (vld_no (by omega))
          go_wp2
          go_ret2
          refine ⟨?_, bW⟩
          rw [HV.out.1, HV.out.2]; rfl
        · have HO : Hid (okTo y m d h i s 4) := by have h0 := hok.out; unfold okTo at h0 ⊢; show _ ∧ _; omega
          go_wp2
          go_round
          case rel => exact ⟨4, by omega, rfl, HO⟩
          case measure => simp [intOf]
    · by_cases hlo : i < 0
      · have HV : Hid (ofV y m d h i s = 0 ∧ ofE y m d h i s = 3) := of_no (vld_no (by omega))
        go_wp2
        go_ret2
        refine ⟨?_, bW⟩
        rw [HV.out.1, HV.out.2]; rfl
      · by_cases hhi : 59 < i
        · have HV : Hid (ofV y m d h i s = 0 ∧ ofE y m d h i s = 3) := of_no (vld_no (by omega))
          go_wp2
          go_ret2
          refine ⟨?_, bW⟩
          rw [HV.out.1, HV.out.2]; rfl
        · have HO : Hid (okTo y m d h i s 5) := by have h0 := hok.out; unfold okTo at h0 ⊢; show _ ∧ _; omega
          go_wp2
          go_round
          case rel => exact ⟨5, by omega, rfl, HO⟩
          case measure => simp [intOf]
    · by_cases hlo : s < 0
      · have HV : Hid (ofV y m d h i s = 0 ∧ ofE y m d h i s = 3) := of_no (vld_no (by omega))
        go_wp2
        go_ret2
        refine ⟨?_, bW⟩
        rw [HV.out.1, HV.out.2]; rfl
      · by_cases hhi : 59 < s
        · have HV : Hid (ofV y m d h i s = 0 ∧ ofE y m d h i s = 3) := of_no (vld_no (by omega))
          go_wp2
          go_ret2
          refine ⟨?_, bW⟩
          rw [HV.out.1, HV.out.2]; rfl
        · have HO : Hid (okTo y m d h i s 6) := by have h0 := hok.out; unfold okTo at h0 ⊢; show _ ∧ _; omega
          go_wp2
          go_round
          case rel => exact ⟨6, by omega, rfl, HO⟩
          case measure => simp [intOf]
    · obtain ⟨hy, hm, hd, hh, hi, hs⟩ := hok.out
      have hy := hy (by omega)
      have hm := hm (by omega)
      have hd := hd (by omega)
      have hh := hh (by omega)
      have hi := hi (by omega)
      have hs := hs (by omega)
      have hdb := dim_bd y m
      clear hok i0 i1 i2 i3 i4 i5 b0 b1 b2 b3 b4 b5 b6 b7 b8 b9 b10 b11
      by_cases hgt : dim y m < d
      · have HV : Hid (ofV y m d h i s = 0 ∧ ofE y m d h i s = 3) := of_no (vld_no (by omega))
        go_wp2_with fail
        go_quiet ((go_at_call 79; exact Calls.quiet_of_same (dim_any _ _ (by omega) (by omega) (by omega) (by omega) _ (TWH.out.drewN _))))
        go_wp2_with fail
        go_ret2
        refine ⟨?_, bW.trans (below_drewN' _ _ _)⟩
        rw [HV.out.1, HV.out.2]; rfl
      · have HV : Hid (ofV y m d h i s = momOf y m d h i s ∧ ofE y m d h i s = 0) := of_yes ((vldB_iff _ _ _ _ _ _).2 (by omega))
        go_wp2_with fail
        go_quiet ((go_at_call 79; exact Calls.quiet_of_same (dim_any _ _ (by omega) (by omega) (by omega) (by omega) _ (TWH.out.drewN _))))
        go_wp2_with fail
        have hnb := num_bd y m d h i s ((vldB_iff _ _ _ _ _ _).2 (by omega))
        have hcb := cum_bd y m (by omega) (by omega)
        have hbb := dby_bd y (by omega) (by omega)
        have HN : Hid (num y m d = dby y + cum y m + d - 1) := rfl
        have HQ : Hid (momOf y m d h i s = -11644473600 + num y m d * 86400 + h * 3600 + i * 60 + s) := rfl
        go_quiet ((go_at_call 80; refine (ahead_any y m hy.1 hy.2 hm.1 hm.2 _ (TWH.out.drewN _)).mono ?_; rintro e w'' ⟨rfl, rfl⟩; exact ⟨rfl, _, rfl⟩))
        go_wp2_with fail
        go_ret2
        refine ⟨?_, ?_⟩
        · rw [HV.out.1, HV.out.2, HQ.out, HN.out]; rfl
        · exact bW.trans (below_drewN' _ _ _)
end Go.Proofs.YtgjjkieljdamfafDoor
