/- ClockCycle: for every time 400 years are 146097 days and whole weeks, and a day later is the next weekday; the package's tables hold what their own text lays. No other condition. -/
import Derived.Test.YthdnlpojpbkpkabDoorCards
import Derived.Test.YthdnlpojpbkpkabDoorTie
import Derived.Test.YthdnlpojpbkpkabDoorClockD
import Derived.Test.YthdnlpojpbkpkabDoorClockL
import Derived.Test.YthdnlpojpbkpkabDoorOpen
namespace Go.Proofs.YthdnlpojpbkpkabDoor.clockCycle
open Go.ChangeShapes Go.WideShapes Go.ChangeAt Go.RowKit
open Go.ChangeMaps (open_string shut_string)
set_option linter.all false

theorem lp_400 (y : Int) : lp (y + 400) = lp y := by
  have : lpB (y + 400) = lpB y := by
    rw [Bool.eq_iff_iff, lpB_iff, lpB_iff]; omega
  unfold lp; rw [this]
theorem dim_400 (y m : Int) : dim (y + 400) m = dim y m := by unfold dim; rw [lp_400]
theorem vld_400 {y m d h i s : Int} (hv : vldB y m d h i s = true) (hy : y ≤ 9599) : vldB (y + 400) m d h i s = true := by
  rw [vldB_iff] at hv ⊢
  rw [dim_400]; omega
theorem num_400 (y m d : Int) (h1 : 1601 ≤ y) : num (y + 400) m d = num y m d + 146097 := by
  unfold num cum
  rw [lp_400]
  have : dby (y + 400) = dby y + 146097 := by unfold dby; omega
  omega
theorem mom_400 (y m d h i s : Int) (h1 : 1601 ≤ y) : momOf (y + 400) m d h i s = momOf y m d h i s + 12622780800 := by
  unfold momOf; rw [num_400 y m d h1]; omega
theorem wd_400 (n : Int) : wdN (n + 12622780800) = wdN n := by unfold wdN dayN; omega
theorem wd_day (n : Int) : wdN (n + 86400) = (wdN n + 1) % 7 := by unfold wdN dayN; omega
theorem wd_bd (n : Int) : 0 ≤ wdN n ∧ wdN n < 7 := by unfold wdN; omega
theorem mom_bd {y m d h i s : Int} (hv : vldB y m d h i s = true) (hy : y ≤ 9599) : momB (momOf y m d h i s + 86400) = true ∧ momB (momOf y m d h i s + 12622780800) = true := by
  have h2 := moment_ok _ _ _ _ _ _ (vld_400 hv hy)
  have hv' := (vldB_iff _ _ _ _ _ _).1 hv
  rw [mom_400 _ _ _ _ _ _ (by omega)] at h2
  have h1 := moment_ok _ _ _ _ _ _ hv
  rw [momB_iff] at h1 h2
  exact ⟨(momB_iff _).2 (by omega), (momB_iff _).2 (by omega)⟩

set_option maxHeartbeats 2000000 in
theorem walk (y m d h i s : Int) (w : World) (by_ : -9223372036854775808 ≤ y ∧ y ≤ 9223372036854775807) (bm : -9223372036854775808 ≤ m ∧ m ≤ 9223372036854775807) (bd : -9223372036854775808 ≤ d ∧ d ≤ 9223372036854775807)
    (bh : -9223372036854775808 ≤ h ∧ h ≤ 9223372036854775807) (bi : -9223372036854775808 ≤ i ∧ i ≤ 9223372036854775807) (bs : -9223372036854775808 ≤ s ∧ s ≤ 9223372036854775807) (T : Tabs w) :
    Calls Tryd.prog 4 #[.agg #[.int .i64 y, .int .i64 m, .int .i64 d, .int .i64 h, .int .i64 i, .int .i64 s]] w fun e w' => e = .returned (.bool true) ∧ Below w.heap.size w w' := by
  have bA : Below w.heap.size w (w.alloc (.cells #[.int .i64 y, .int .i64 m, .int .i64 d, .int .i64 h, .int .i64 i, .int .i64 s] 23)) := (Below.refl _ _).alloc (Nat.le_refl _) _
  have tA := T6.new w y m d h i s 23
  have TA : Hid _ := T.below bA (Nat.le_refl _)
  cases hv : vldB y m d h i s
  · obtain ⟨e1, e2⟩ := of_no hv
    have E1 : Hid _ := e1
    have E2 : Hid _ := e2
    clear e1 e2 hv
    have TA' : Hid _ := tA
    clear tA
    go_enter Tryd.func4, Tryd.ntmps4
    go_wp2_with fail
    refine (of_any _ _ _ _ _ _ _ TA.out).mono ?_
    rw [E1.out, E2.out]
    rintro e w1 ⟨rfl, hb1⟩
    go_wp2_with fail
    refine (clockBegun_any _ (TA.out.below hb1 (Nat.le_refl _))).mono ?_
    rintro e w2 ⟨rfl, hb2⟩
    go_wp2_with fail
    go_ret
    exact ⟨rfl, next (next bA hb1) hb2⟩
  · obtain ⟨e1, e2⟩ := of_yes hv
    have E1 : Hid _ := e1
    have E2 : Hid _ := e2
    have HV : Hid _ := hv
    have hy := ((vldB_iff _ _ _ _ _ _).1 hv).1
    clear e1 e2 hv
    have TA' : Hid _ := tA
    clear tA
    by_cases hgt : 9599 < y
    · go_enter Tryd.func4, Tryd.ntmps4
      go_wp2_with fail
      refine (of_any _ _ _ _ _ _ _ TA.out).mono ?_
      rw [E1.out, E2.out]
      rintro e w1 ⟨rfl, hb1⟩
      go_wp2_with fail
      refine (clockBegun_any _ (TA.out.below hb1 (Nat.le_refl _))).mono ?_
      rintro e w2 ⟨rfl, hb2⟩
      obtain ⟨c0, c1, c2, c3, c4, c5⟩ := (TA'.out.below hb1 (Nat.le_refl _)).below hb2 (Nat.le_refl _)
      go_wp2_with fail
      go_ret
      exact ⟨rfl, next (next bA hb1) hb2⟩
    · have hle : y ≤ 9599 := by omega
      obtain ⟨m1, m2⟩ := mom_bd HV.out hle
      have m0 := moment_ok _ _ _ _ _ _ HV.out
      obtain ⟨f1, f2⟩ := of_yes (vld_400 HV.out hle)
      rw [mom_400 _ _ _ _ _ _ hy] at f1
      obtain ⟨a, ha⟩ : ∃ a, a = momOf y m d h i s := ⟨_, rfl⟩
      rw [← ha] at E1 f1 m1 m2 m0
      have F1 : Hid _ := f1
      have F2 : Hid _ := f2
      have M0 : Hid _ := m0
      have M1 : Hid _ := m1
      have M2 : Hid _ := m2
      have hab := (momB_iff a).1 m0
      have hw := wd_bd a
      clear ha f1 f2 m0 m1 m2
      go_enter Tryd.func4, Tryd.ntmps4
      go_wp2_with fail
      refine (of_any _ _ _ _ _ _ _ TA.out).mono ?_
      rw [E1.out, E2.out]
      rintro e w1 ⟨rfl, hb1⟩
      go_wp2_with fail
      refine (clockBegun_any _ (TA.out.below hb1 (Nat.le_refl _))).mono ?_
      rintro e w2 ⟨rfl, hb2⟩
      obtain ⟨c0, c1, c2, c3, c4, c5⟩ := (TA'.out.below hb1 (Nat.le_refl _)).below hb2 (Nat.le_refl _)
      have T2 := (TA.out.below hb1 (Nat.le_refl _)).below hb2 (Nat.le_refl _)
      have g2 := next (next bA hb1) hb2
      go_wp2_with fail
      have bB : Below w2.heap.size w2 (w2.alloc (.cells #[.int .i64 (y + 400), .int .i64 m, .int .i64 d, .int .i64 h, .int .i64 i, .int .i64 s] 23)) := (Below.refl _ _).alloc (Nat.le_refl _) _
      refine (of_any _ _ _ _ _ _ _ (T2.below bB (Nat.le_refl _))).mono ?_
      rw [F1.out, F2.out]
      rintro e w3 ⟨rfl, hb3⟩
      have g3 := next (next g2 bB) hb3
      clear c0 c1 c2 c3 c4 c5 T2 bB
      have W0 : Hid _ := wd_400 a
      have W1 : Hid _ := wd_day a
      go_wp2_with fail
      refine (weekday_yes _ M0.out _).mono ?_
      rintro e w4 ⟨rfl, rfl⟩
      go_wp2_with fail
      refine (weekday_yes _ M2.out _).mono ?_
      rw [W0.out]
      rintro e w5 ⟨rfl, rfl⟩
      go_wp2_with fail
      refine (weekday_yes _ M1.out _).mono ?_
      rw [W1.out]
      rintro e w6 ⟨rfl, rfl⟩
      have ts : (a + 12622780800 - a == 12622780800) = true := by rw [beq_iff_eq]; omega
      go_wp2_with fail
      all_goals go_ret
      all_goals exact ⟨rfl, g3⟩

theorem laid_met (os : Os) : laidMet Tryd.prog Rows.clockCycleRow.laid (({ World.holding Tryd.prog os ⟨#[], #[], []⟩ with heap := ((((World.holding Tryd.prog os ⟨#[], #[], []⟩).heap.modify 0 fun | .cells _ t frozen => .cells #[.int .i64 1601, .int .i64 9999, .int .i64 1, .int .i64 12, .int .i64 1, .int .i64 31, .int .i64 0, .int .i64 23, .int .i64 0, .int .i64 59, .int .i64 0, .int .i64 59] t frozen | o => o).modify 1 fun | .cells _ t frozen => .cells #[.int .i64 31, .int .i64 28, .int .i64 31, .int .i64 30, .int .i64 31, .int .i64 30, .int .i64 31, .int .i64 31, .int .i64 30, .int .i64 31, .int .i64 30, .int .i64 31] t frozen | o => o).modify 2 fun | .cells _ t frozen => .cells #[.int .i64 400, .int .i64 146097, .int .i64 20, .int .i64 100, .int .i64 36524, .int .i64 3, .int .i64 4, .int .i64 1461, .int .i64 24, .int .i64 1, .int .i64 365, .int .i64 3] t frozen | o => o) } : World).forCall (fun _ _ => 0) ⟨#[], #[.agg #[.int .i64 0, .int .i64 0, .int .i64 0, .int .i64 0, .int .i64 0, .int .i64 0]], []⟩).memory :=
  laidMet_of_run' 8 (by kernel_rfl) (by kernel_rfl)
theorem reads (os : Os) {H : Type} (enc : TypeId × Value → H) : ∃ places, DataW.whole enc Tryd.prog (({ World.holding Tryd.prog os ⟨#[], #[], []⟩ with heap := ((((World.holding Tryd.prog os ⟨#[], #[], []⟩).heap.modify 0 fun | .cells _ t frozen => .cells #[.int .i64 1601, .int .i64 9999, .int .i64 1, .int .i64 12, .int .i64 1, .int .i64 31, .int .i64 0, .int .i64 23, .int .i64 0, .int .i64 59, .int .i64 0, .int .i64 59] t frozen | o => o).modify 1 fun | .cells _ t frozen => .cells #[.int .i64 31, .int .i64 28, .int .i64 31, .int .i64 30, .int .i64 31, .int .i64 30, .int .i64 31, .int .i64 31, .int .i64 30, .int .i64 31, .int .i64 30, .int .i64 31] t frozen | o => o).modify 2 fun | .cells _ t frozen => .cells #[.int .i64 400, .int .i64 146097, .int .i64 20, .int .i64 100, .int .i64 36524, .int .i64 3, .int .i64 4, .int .i64 1461, .int .i64 24, .int .i64 1, .int .i64 365, .int .i64 3] t frozen | o => o) } : World).forCall (fun _ _ => 0) ⟨#[], #[.agg #[.int .i64 0, .int .i64 0, .int .i64 0, .int .i64 0, .int .i64 0, .int .i64 0]], []⟩).memory Tryd.f4.params.toList Rows.clockCycleSpec.vars false (#[.agg #[.int .i64 0, .int .i64 0, .int .i64 0, .int .i64 0, .int .i64 0, .int .i64 0]] : Array Value).toList 8 = some ([.agg [.lit (.int .i64 0), .lit (.int .i64 0), .lit (.int .i64 0), .lit (.int .i64 0), .lit (.int .i64 0), .lit (.int .i64 0)]], [], places) :=
  ⟨[], by kernel_rfl⟩
set_option maxRecDepth 100000 in
theorem contract (H : Type) (enc : TypeId × Value → H) (W : World) (base : Nat) (args : Array Value) (ds gs : List (DataW H)) (before : List MemPlace)
    (hval0 : ∀ (j : Nat) t v, Tryd.f4.params[j]? = some t → args[j]? = some v → Value.okWide Tryd.prog W .any base t v)
    (hW : DataW.Whole enc Tryd.prog Tryd.f4.params.toList Rows.clockCycleSpec.vars false W args.toList ds gs before) (hL : laidMetH Tryd.prog Rows.clockCycleRow.laid W) :
    Calls Tryd.prog 4 args W fun e W' => ∃ v, e = .returned v ∧ Rows.clockCycleSpec.post enc Tryd.prog Tryd.f4 false true false false W args v W' := by
  have hval : ∀ (j : Nat) t v, Tryd.f4.params[j]? = some t → args[j]? = some v → Value.okWide Tryd.prog W .any base t v := hval0
  have hW' := hW
  obtain ⟨p, q, hA0, hV, rfl, hfz, hnd⟩ := hW
  have hA : DataW.TrodAll enc Tryd.prog W 0 (fun _ => true) true Tryd.f4.params.toList args.toList ds p := hA0
  rw [Tryd.params4] at hA hval
  obtain ⟨v0, vs0, d0, ds0, p0, q0, hargs, rfl, rfl, h0, r0⟩ := trodAll_cons hA
  obtain ⟨rfl, rfl, rfl⟩ := trodAll_nil r0
  obtain rfl : args = #[v0] := by cases args; simp_all
  obtain ⟨rfl, rfl⟩ := trodVars_none hV
  have k0 := h0
  have lt0 : ∀ x ∈ p0, x.block < W.heap.size := by obtain ⟨m, hm⟩ := k0; exact DataW.trod_lt m _ _ _ hm
  obtain ⟨zs0, hz0, hl0, hb0⟩ := open_struct_ints (fs := _) Tryd.underlying23 (fun i f h => by have hi := (Array.getElem?_eq_some_iff.1 h).1; have h6 : i < 6 := hi; rcases six i h6 with rfl | rfl | rfl | rfl | rfl | rfl <;> (cases h; exact ⟨rfl, rfl⟩)) Tryd.underlying3 (by kernel_rfl) (by kernel_rfl) (hval 0 23 v0 rfl rfl) k0
  obtain ⟨ty0, tm0, td0, th0, ti0, ts0, rfl⟩ := list6 hl0
  subst hz0
  clear hA0 hval0
  refine (walk ty0 tm0 td0 th0 ti0 ts0 W (hb0 _ (by simp)) (hb0 _ (by simp)) (hb0 _ (by simp)) (hb0 _ (by simp)) (hb0 _ (by simp)) (hb0 _ (by simp)) (tabs_of hL)).mono fun e W' ⟨he, bel⟩ => ?_
  subst he
  exact ⟨_, rfl, _, _, _, [], _, [], hW', trodAll_mk1 (shut_bool Tryd.underlying4 _), (trodAll_cons_mk (Below.trod laidOut (by kernel_rfl) (of_decide_eq_true (by kernel_rfl)) k0 bel lt0) trodAll_mk0), rfl, bel.frame _, fun h => by cases h⟩
set_option maxRecDepth 100000 in
theorem lifted (os : Os) (started : os.Started) (H : Type) (enc : TypeId × Value → H) (F : Stop.Interp) :
    ReturnsInHanded {} Tryd.checked os 4 .any ((OpenSpec.ofChange Rows.clockCycleSpec).preRow enc Tryd.prog Tryd.f4 Rows.clockCycleRow.domain false Rows.clockCycleRow.laid) (((OpenSpec.ofChange Rows.clockCycleSpec).at F).post enc Tryd.prog Tryd.f4 false true false false) := by
  obtain ⟨places, hx⟩ := reads os enc
  refine returnsInHanded_of_row (C := Tryd.checked) (s := (OpenSpec.ofChange Rows.clockCycleSpec)) own started (by kernel_rfl) Tryd.func4
    (witness_row_at (enc := enc) (C := Tryd.checked) false ({ World.holding Tryd.prog os ⟨#[], #[], []⟩ with heap := ((((World.holding Tryd.prog os ⟨#[], #[], []⟩).heap.modify 0 fun | .cells _ t frozen => .cells #[.int .i64 1601, .int .i64 9999, .int .i64 1, .int .i64 12, .int .i64 1, .int .i64 31, .int .i64 0, .int .i64 23, .int .i64 0, .int .i64 59, .int .i64 0, .int .i64 59] t frozen | o => o).modify 1 fun | .cells _ t frozen => .cells #[.int .i64 31, .int .i64 28, .int .i64 31, .int .i64 30, .int .i64 31, .int .i64 30, .int .i64 31, .int .i64 31, .int .i64 30, .int .i64 31, .int .i64 30, .int .i64 31] t frozen | o => o).modify 2 fun | .cells _ t frozen => .cells #[.int .i64 400, .int .i64 146097, .int .i64 20, .int .i64 100, .int .i64 36524, .int .i64 3, .int .i64 4, .int .i64 1461, .int .i64 24, .int .i64 1, .int .i64 365, .int .i64 3] t frozen | o => o) } : World) #[.agg #[.int .i64 0, .int .i64 0, .int .i64 0, .int .i64 0, .int .i64 0, .int .i64 0]] rfl (by kernel_rfl) (by kernel_rfl) (by kernel_rfl)
      (OpenSpec.preRow_of_cond 8 hx (by kernel_rfl) (fun k hk => by cases hk) (by kernel_rfl) (laid_met os))) ?_
  intro W base args ds gs before hval hW _ _ _ hL _ _
  exact contract H enc W base args ds gs before hval hW hL
theorem said : Rows.ClockCycleSaid :=
  OpenClaim.holds_of_cond 4 Tryd.f4 rfl rfl rfl rfl rfl rfl rfl ⟨rfl, rfl, rfl, rfl, rfl⟩ rfl rfl rfl rfl rfl (by kernel_rfl) Tryd.func4 (by kernel_rfl)
    (of_decide_eq_true (by kernel_rfl)) (by unfold Func.isWrapper; first | (rw [if_pos (by decide +kernel)]; kernel_rfl) | (rw [if_neg (by decide +kernel)]; exact ⟨rfl, rfl⟩))
    (fun os started H enc _ F => by rw [OpenClaim.pre_eq_preRow]; exact lifted os started H enc F)
theorem plain (f : FuncId) (fn : Func) (hf : Tryd.pinned.checked.prog.funcNamed "gingersnap/gingersnaplaw.ClockCycle" = some f) (hfn : Tryd.pinned.checked.prog.funcs[f]? = some fn) :
    false = Tryd.pinned.checked.prog.looks [] ∧ ∀ (j : Nat) t, fn.params[j]? = some t → Tryd.pinned.checked.prog.wantsStandIn t = false := by
  obtain rfl : f = 4 := Option.some.inj ((show Tryd.prog.funcNamed "gingersnap/gingersnaplaw.ClockCycle" = some 4 by kernel_rfl).symm.trans hf) |>.symm
  obtain rfl : fn = Tryd.f4 := (Option.some.inj (Tryd.func4.symm.trans hfn)).symm
  refine ⟨by kernel_rfl, fun j t ht => ?_⟩
  rw [Tryd.params4] at ht
  have ht2 := Array.mem_of_getElem? ht
  have ht3 : t = 23 := by simpa using ht2
  subst ht3
  · exact (show Tryd.prog.wantsStandIn 23 = false by kernel_rfl)
theorem card : Rows.ClockCycleCardSaid :=
  Claim7.holds_tied_plain_at .later [] _ _ _ _ said (fun _ h => by cases h) (by kernel_rfl) (fun _ h => by cases h) clockCycle_row_tie rfl ⟨rfl, rfl⟩ (by kernel_rfl) rfl plain (by kernel_rfl)
#print axioms card
end Go.Proofs.YthdnlpojpbkpkabDoor.clockCycle
