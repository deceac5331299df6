/- Contracts of the reference: the moment of a time, the time of a moment. -/
import Derived.Test.YtlabffopbambjabDoorClockR
import Derived.Test.YtlabffopbambjabDoorClockD
import Derived.Test.YtlabffopbambjabDoorKit3
namespace Go.Proofs.YtlabffopbambjabDoor
open Go.RowKit
set_option linter.all false

theorem mdV_in (y m : Int) (h1 : 1 ≤ m) (h2 : m ≤ 12) : mdV y m = dim y m := by unfold mdV; rw [if_neg (by omega)]
theorem mdV_out (y m : Int) (h : m < 1 ∨ 12 < m) : mdV y m = 0 := by unfold mdV; rw [if_pos h]
theorem below_drewN1 (w : World) (B : Nat) : Below B w w.drew := (Below.refl _ _).drew
theorem t6_next {W W0 w1 : World} {B : Nat} {y m d h i s : Int} (t : T6 W B y m d h i s) (hb : Below W0.heap.size W0 w1) (e : W0.heap = W.heap) : T6 w1 B y m d h i s := by
  have hlt : B < W0.heap.size := by rw [e]; exact t.lt
  have hc : ∀ o, W0.cell? ⟨B, o, none⟩ = W.cell? ⟨B, o, none⟩ := fun o => by unfold World.cell?; rw [e]
  exact ⟨(hb.cell (p := ⟨B, 0, none⟩) hlt).trans ((hc 0).trans t.cy), (hb.cell (p := ⟨B, 1, none⟩) hlt).trans ((hc 1).trans t.cm), (hb.cell (p := ⟨B, 2, none⟩) hlt).trans ((hc 2).trans t.cd), (hb.cell (p := ⟨B, 3, none⟩) hlt).trans ((hc 3).trans t.ch), (hb.cell (p := ⟨B, 4, none⟩) hlt).trans ((hc 4).trans t.ci), (hb.cell (p := ⟨B, 5, none⟩) hlt).trans ((hc 5).trans t.cs)⟩

set_option maxHeartbeats 4000000 in
theorem momentOf_any (y m d h i s : Int) (w : World) : Calls Tryd.prog 34 #[.agg #[.int .i64 y, .int .i64 m, .int .i64 d, .int .i64 h, .int .i64 i, .int .i64 s]] w fun e w' =>
    e = .returned (.tuple #[.int .i64 (ofV y m d h i s), .int .i64 (ofE y m d h i s)]) ∧ Below w.heap.size w w' := by
  go_enter Tryd.func34, Tryd.ntmps34
  go_wp2_with fail
  obtain ⟨W, hW⟩ : ∃ W, W = w.alloc (.cells #[.int .i64 y, .int .i64 m, .int .i64 d, .int .i64 h, .int .i64 i, .int .i64 s] 23) := ⟨_, rfl⟩
  rw [← hW]
  have bW : Below w.heap.size w W := by rw [hW]; exact (Below.refl _ _).alloc (Nat.le_refl _) _
  have t6 : T6 W w.heap.size y m d h i s := by rw [hW]; exact T6.new _ _ _ _ _ _ _ _
  have hsz : w.heap.size < W.heap.size := by rw [hW]; simp
  clear hW
  have c0 := t6.cy
  have c1 := t6.cm
  have c2 := t6.cd
  have c3 := t6.ch
  have c4 := t6.ci
  have c5 := t6.cs
  have ne : Nonempty (Ext W) := ⟨Ext.of W (Below.refl _ _)⟩
  have x0 := Ext.cell c0
  have x1 := Ext.cell c1
  have x2 := Ext.cell c2
  have x3 := Ext.cell c3
  have x4 := Ext.cell c4
  have x5 := Ext.cell c5
  by_cases hy1 : y < 1601
  · have HV : Hid (ofV y m d h i s = 0 ∧ ofE y m d h i s = 3) := of_no (vld_no (by first | omega | (intro hv; have hmd := mdV_in y m hv.2.2.1 hv.2.2.2.1; omega)))
    refine wp_region_ext (by kernel_rfl) (by kernel_rfl) ?_
    repeat (go_big_quiet_step ((go_at_call 44; exact ext_call (mdR_any y m (by omega) (by omega) _))))
    refine wpQuiet_nil ?_
    intro w1 hw1
    obtain ⟨x, rfl⟩ := hw1
    go_wp2_with fail
    go_ret2
    refine ⟨?_, next bW x.2⟩
    rw [HV.out.1, HV.out.2]; rfl
  ·
    by_cases hy2 : 9999 < y
    · have HV : Hid (ofV y m d h i s = 0 ∧ ofE y m d h i s = 3) := of_no (vld_no (by first | omega | (intro hv; have hmd := mdV_in y m hv.2.2.1 hv.2.2.2.1; omega)))
      refine wp_region_ext (by kernel_rfl) (by kernel_rfl) ?_
      repeat (go_big_quiet_step ((go_at_call 44; exact ext_call (mdR_any y m (by omega) (by omega) _))))
      refine wpQuiet_nil ?_
      intro w1 hw1
      obtain ⟨x, rfl⟩ := hw1
      go_wp2_with fail
      go_ret2
      refine ⟨?_, next bW x.2⟩
      rw [HV.out.1, HV.out.2]; rfl
    ·
      by_cases hd1 : d < 1
      · have HV : Hid (ofV y m d h i s = 0 ∧ ofE y m d h i s = 3) := of_no (vld_no (by first | omega | (intro hv; have hmd := mdV_in y m hv.2.2.1 hv.2.2.2.1; omega)))
        refine wp_region_ext (by kernel_rfl) (by kernel_rfl) ?_
        repeat (go_big_quiet_step ((go_at_call 44; exact ext_call (mdR_any y m (by omega) (by omega) _))))
        refine wpQuiet_nil ?_
        intro w1 hw1
        obtain ⟨x, rfl⟩ := hw1
        go_wp2_with fail
        go_ret2
        refine ⟨?_, next bW x.2⟩
        rw [HV.out.1, HV.out.2]; rfl
      ·
        by_cases hd2 : mdV y m < d
        · have HV : Hid (ofV y m d h i s = 0 ∧ ofE y m d h i s = 3) := of_no (vld_no (by first | omega | (intro hv; have hmd := mdV_in y m hv.2.2.1 hv.2.2.2.1; omega)))
          refine wp_region_ext (by kernel_rfl) (by kernel_rfl) ?_
          repeat (go_big_quiet_step ((go_at_call 44; exact ext_call (mdR_any y m (by omega) (by omega) _))))
          refine wpQuiet_nil ?_
          intro w1 hw1
          obtain ⟨x, rfl⟩ := hw1
          go_wp2_with fail
          go_ret2
          refine ⟨?_, next bW x.2⟩
          rw [HV.out.1, HV.out.2]; rfl
        ·
          by_cases hh1 : h < 0
          · have HV : Hid (ofV y m d h i s = 0 ∧ ofE y m d h i s = 3) := of_no (vld_no (by first | omega | (intro hv; have hmd := mdV_in y m hv.2.2.1 hv.2.2.2.1; omega)))
            refine wp_region_ext (by kernel_rfl) (by kernel_rfl) ?_
            repeat (go_big_quiet_step ((go_at_call 44; exact ext_call (mdR_any y m (by omega) (by omega) _))))
            refine wpQuiet_nil ?_
            intro w1 hw1
            obtain ⟨x, rfl⟩ := hw1
            go_wp2_with fail
            go_ret2
            refine ⟨?_, next bW x.2⟩
            rw [HV.out.1, HV.out.2]; rfl
          ·
            by_cases hh2 : 23 < h
            · have HV : Hid (ofV y m d h i s = 0 ∧ ofE y m d h i s = 3) := of_no (vld_no (by first | omega | (intro hv; have hmd := mdV_in y m hv.2.2.1 hv.2.2.2.1; omega)))
              refine wp_region_ext (by kernel_rfl) (by kernel_rfl) ?_
              repeat (go_big_quiet_step ((go_at_call 44; exact ext_call (mdR_any y m (by omega) (by omega) _))))
              refine wpQuiet_nil ?_
              intro w1 hw1
              obtain ⟨x, rfl⟩ := hw1
              go_wp2_with fail
              go_ret2
              refine ⟨?_, next bW x.2⟩
              rw [HV.out.1, HV.out.2]; rfl
            ·
              by_cases hi1 : i < 0
              · have HV : Hid (ofV y m d h i s = 0 ∧ ofE y m d h i s = 3) := of_no (vld_no (by first | omega | (intro hv; have hmd := mdV_in y m hv.2.2.1 hv.2.2.2.1; omega)))
                refine wp_region_ext (by kernel_rfl) (by kernel_rfl) ?_
                repeat (go_big_quiet_step ((go_at_call 44; exact ext_call (mdR_any y m (by omega) (by omega) _))))
                refine wpQuiet_nil ?_
                intro w1 hw1
                obtain ⟨x, rfl⟩ := hw1
                go_wp2_with fail
                go_ret2
                refine ⟨?_, next bW x.2⟩
                rw [HV.out.1, HV.out.2]; rfl
              ·
                by_cases hi2 : 59 < i
                · have HV : Hid (ofV y m d h i s = 0 ∧ ofE y m d h i s = 3) := of_no (vld_no (by first | omega | (intro hv; have hmd := mdV_in y m hv.2.2.1 hv.2.2.2.1; omega)))
                  refine wp_region_ext (by kernel_rfl) (by kernel_rfl) ?_
                  repeat (go_big_quiet_step ((go_at_call 44; exact ext_call (mdR_any y m (by omega) (by omega) _))))
                  refine wpQuiet_nil ?_
                  intro w1 hw1
                  obtain ⟨x, rfl⟩ := hw1
                  go_wp2_with fail
                  go_ret2
                  refine ⟨?_, next bW x.2⟩
                  rw [HV.out.1, HV.out.2]; rfl
                ·
                  by_cases hs1 : s < 0
                  · have HV : Hid (ofV y m d h i s = 0 ∧ ofE y m d h i s = 3) := of_no (vld_no (by first | omega | (intro hv; have hmd := mdV_in y m hv.2.2.1 hv.2.2.2.1; omega)))
                    refine wp_region_ext (by kernel_rfl) (by kernel_rfl) ?_
                    repeat (go_big_quiet_step ((go_at_call 44; exact ext_call (mdR_any y m (by omega) (by omega) _))))
                    refine wpQuiet_nil ?_
                    intro w1 hw1
                    obtain ⟨x, rfl⟩ := hw1
                    go_wp2_with fail
                    go_ret2
                    refine ⟨?_, next bW x.2⟩
                    rw [HV.out.1, HV.out.2]; rfl
                  ·
                    by_cases hs2 : 59 < s
                    · have HV : Hid (ofV y m d h i s = 0 ∧ ofE y m d h i s = 3) := of_no (vld_no (by first | omega | (intro hv; have hmd := mdV_in y m hv.2.2.1 hv.2.2.2.1; omega)))
                      refine wp_region_ext (by kernel_rfl) (by kernel_rfl) ?_
                      repeat (go_big_quiet_step ((go_at_call 44; exact ext_call (mdR_any y m (by omega) (by omega) _))))
                      refine wpQuiet_nil ?_
                      intro w1 hw1
                      obtain ⟨x, rfl⟩ := hw1
                      go_wp2_with fail
                      go_ret2
                      refine ⟨?_, next bW x.2⟩
                      rw [HV.out.1, HV.out.2]; rfl
                    · have hm : 1 ≤ m ∧ m ≤ 12 := by
                        rcases Int.lt_or_le m 1 with hq | hq
                        · have := mdV_out y m (.inl hq); omega
                        · rcases Int.lt_or_le 12 m with hr | hr
                          · have := mdV_out y m (.inr hr); omega
                          · exact ⟨hq, hr⟩
                      have hmd := mdV_in y m hm.1 hm.2
                      have hdim := dim_bd y m
                      have hvl : vldB y m d h i s = true := (vldB_iff _ _ _ _ _ _).2 (by omega)
                      have HV : Hid (ofV y m d h i s = momOf y m d h i s ∧ ofE y m d h i s = 0) := of_yes hvl
                      have hnb := num_bd y m d h i s hvl
                      have HQ : Hid (momOf y m d h i s = ((num y m d - 134774) * 24 + h) * 3600 + i * 60 + s) := by show _ = _; unfold momOf; omega
                      have hd31 : d ≤ 31 := by omega
                      have HMD : Hid _ := hmd
                      clear hmd hvl
                      refine wp_region_ext (by kernel_rfl) (by kernel_rfl) ?_
                      repeat (go_big_quiet_step ((go_at_call 44; exact ext_call (mdR_any y m (by omega) (by omega) _))))
                      refine wpQuiet_nil ?_
                      intro w1 hw1
                      obtain ⟨x, rfl⟩ := hw1
                      obtain ⟨W2, hb2⟩ := x
                      have t62 := t6.below hb2 (Nat.le_refl _)
                      clear x0 x1 x2 x3 x4 x5 ne c0 c1 c2 c3 c4 c5
                      have ne2 : Nonempty (Ext W2) := ⟨Ext.of W2 (Below.refl _ _)⟩
                      have x0 := Ext.cell t62.cy
                      have x1 := Ext.cell t62.cm
                      have x2 := Ext.cell t62.cd
                      have x3 := Ext.cell t62.ch
                      have x4 := Ext.cell t62.ci
                      have x5 := Ext.cell t62.cs
                      go_wp2_with fail
                      refine wp_region_ext (by kernel_rfl) (by kernel_rfl) ?_
                      repeat (go_big_quiet_step ((go_at_call 45; exact ext_same (dayNo_any y m d (by omega) (by omega) hm.1 hm.2 (by omega) hd31 _))))
                      refine wpQuiet_nil ?_
                      intro w1 hw1
                      obtain ⟨x, rfl⟩ := hw1
                      go_wp2_with fail
                      go_ret2
                      refine ⟨?_, next (next bW hb2) x.2⟩
                      rw [HV.out.1, HV.out.2, HQ.out]
                      exact ret_two (a := (((num y m d - 134774) * 24 + h) * 60 + i) * 60 + s) (by omega)
set_option maxHeartbeats 1000000 in
theorem timeOf_no (n : Int) (h : momB n = false) (w : World) : Calls Tryd.prog 35 #[.int .i64 n] w fun e w' =>
    e = .returned (.tuple #[.agg #[.int .i64 0, .int .i64 0, .int .i64 0, .int .i64 0, .int .i64 0, .int .i64 0], .int .i64 3]) ∧ Below w.heap.size w w' := by
  have H : Hid _ := h
  clear h
  go_enter Tryd.func35, Tryd.ntmps35
  go_wp2_with (go_at_call 46; refine (noMoment_any _ _).mono ?_; rw [H.out]; rintro e w' ⟨rfl, rfl⟩)
  exact bodyPost_ret (v := .tuple #[.agg #[.int .i64 0, .int .i64 0, .int .i64 0, .int .i64 0, .int .i64 0, .int .i64 0], .int .i64 3]) (by simp [results, Tryd.results35, go_sem]) rfl ⟨rfl, (Below.refl _ _).alloc (Nat.le_refl _) _⟩
end Go.Proofs.YtlabffopbambjabDoor
