/- ClockTells: for every time, every number, every count of seconds, the program's clock answers what the document's does; the package's tables hold what their own text lays. No other condition. -/
import Derived.Test.YthdnlpojpbkpkaaDoorCards
import Derived.Test.YthdnlpojpbkpkaaDoorTie
import Derived.Test.YthdnlpojpbkpkaaDoorClockD
import Derived.Test.YthdnlpojpbkpkaaDoorClockL
import Derived.Test.YthdnlpojpbkpkaaDoorClockT
import Derived.Test.YthdnlpojpbkpkaaDoorOpen
namespace Go.Proofs.YthdnlpojpbkpkaaDoor.clockTells
open Go.ChangeShapes Go.WideShapes Go.ChangeAt Go.RowKit
open Go.ChangeMaps (open_string shut_string)
set_option linter.all false

set_option maxHeartbeats 4000000 in
theorem walk (y m d h i s n k : Int) (w : World) (by_ : -9223372036854775808 ≤ y ∧ y ≤ 9223372036854775807) (bm : -9223372036854775808 ≤ m ∧ m ≤ 9223372036854775807) (bd : -9223372036854775808 ≤ d ∧ d ≤ 9223372036854775807)
    (bh : -9223372036854775808 ≤ h ∧ h ≤ 9223372036854775807) (bi : -9223372036854775808 ≤ i ∧ i ≤ 9223372036854775807) (bs : -9223372036854775808 ≤ s ∧ s ≤ 9223372036854775807) (bn : -9223372036854775808 ≤ n ∧ n ≤ 9223372036854775807) (bk : -9223372036854775808 ≤ k ∧ k ≤ 9223372036854775807) (T : Tabs w) :
    Calls Tryd.prog 3 #[.agg #[.int .i64 y, .int .i64 m, .int .i64 d, .int .i64 h, .int .i64 i, .int .i64 s], .int .i64 n, .int .i64 k] w fun e w' => e = .returned (.bool true) ∧ Below w.heap.size w w' := by
  have bA : Below w.heap.size w (w.alloc (.cells #[.int .i64 y, .int .i64 m, .int .i64 d, .int .i64 h, .int .i64 i, .int .i64 s] 23)) := (Below.refl _ _).alloc (Nat.le_refl _) _
  have tA : Hid _ := T6.new w y m d h i s 23
  have TA : Hid _ := T.below bA (Nat.le_refl _)
  clear by_ bm bd bh bi bs
  cases hn : momB n
  · have HN : Hid _ := hn
    clear hn
    go_enter Tryd.func3, Tryd.ntmps3
    go_wp2_with fail
    refine (of_any _ _ _ _ _ _ _ TA.out).mono ?_
    rintro e w1 ⟨rfl, hb1⟩
    have T1 := TA.out.below hb1 (Nat.le_refl _)
    go_wp2_with fail
    refine (time_no _ HN.out _).mono ?_
    rintro e w2 ⟨rfl, hb2⟩
    have T2 := T1.below hb2 (Nat.le_refl _)
    go_wp2_with fail
    refine (weekday_no _ HN.out _).mono ?_
    rintro e w3 ⟨rfl, rfl⟩
    go_wp2_with fail
    refine (add_no _ _ HN.out _).mono ?_
    rintro e w3 ⟨rfl, rfl⟩
    have bB : Below w2.heap.size w2 (w2.alloc (.cells #[.int .i64 0, .int .i64 0, .int .i64 0, .int .i64 0, .int .i64 0, .int .i64 0] 23)) := (Below.refl _ _).alloc (Nat.le_refl _) _
    have tB : Hid _ := T6.new w2 0 0 0 0 0 0 23
    obtain ⟨a0, a1, a2, a3, a4, a5⟩ := (tA.out.below (next hb1 hb2) (Nat.le_refl _))
    have altA := (tA.out.below (next hb1 hb2) (Nat.le_refl _)).lt
    go_wp2_with fail
    refine (momentOf_any _ _ _ _ _ _ _).mono ?_
    rintro e w4 ⟨rfl, hb4⟩
    have T4 := (T2.below bB (Nat.le_refl _)).below hb4 (Nat.le_refl _)
    have tB4 : Hid _ := tB.out.below hb4 (Nat.le_refl _)
    clear a0 a1 a2 a3 a4 a5
    go_wp2_with fail
    refine (timeOf_no _ HN.out _).mono ?_
    rintro e w5 ⟨rfl, hb5⟩
    have T5 := T4.below hb5 (Nat.le_refl _)
    have tB5 : Hid _ := tB4.out.below hb5 (Nat.le_refl _)
    go_wp2_with fail
    refine (weekdayOf_no _ HN.out _).mono ?_
    rintro e w6 ⟨rfl, rfl⟩
    go_wp2_with fail
    refine (addOf_no _ _ HN.out _).mono ?_
    rintro e w6 ⟨rfl, rfl⟩
    have bC : Below w5.heap.size w5 (w5.alloc (.cells #[.int .i64 0, .int .i64 0, .int .i64 0, .int .i64 0, .int .i64 0, .int .i64 0] 23)) := (Below.refl _ _).alloc (Nat.le_refl _) _
    have tC : Hid _ := T6.new w5 0 0 0 0 0 0 23
    go_wp2_with fail
    refine (clockBegun_any _ (T5.below bC (Nat.le_refl _))).mono ?_
    rintro e w7 ⟨rfl, hb7⟩
    obtain ⟨q0, q1, q2, q3, q4, q5⟩ := (tB5.out.below bC (Nat.le_refl _)).below hb7 (Nat.le_refl _)
    obtain ⟨r0, r1, r2, r3, r4, r5⟩ := tC.out.below hb7 (Nat.le_refl _)
    have g : Below w.heap.size w w7 := next (next (next (next (next (next (next bA hb1) hb2) bB) hb4) hb5) bC) hb7
    clear T1 T2 T4 T5 hb1 hb2 hb4 hb5 bB bC hb7 bA
    go_wp2_with fail
    go_ret
    exact ⟨rfl, g⟩
  · have HN : Hid _ := hn
    clear hn
    go_enter Tryd.func3, Tryd.ntmps3
    go_wp2_with fail
    refine (of_any _ _ _ _ _ _ _ TA.out).mono ?_
    rintro e w1 ⟨rfl, hb1⟩
    have T1 := TA.out.below hb1 (Nat.le_refl _)
    go_wp2_with fail
    refine (time_yes _ HN.out _ T1).mono ?_
    rintro e w2 ⟨rfl, hb2⟩
    have T2 := T1.below hb2 (Nat.le_refl _)
    go_wp2_with fail
    refine (weekday_yes _ HN.out _).mono ?_
    rintro e w3 ⟨rfl, rfl⟩
    go_wp2_with fail
    refine (add_yes _ _ HN.out bk _).mono ?_
    rintro e w3 ⟨rfl, rfl⟩
    have bB : Below w2.heap.size w2 (w2.alloc (.cells #[.int .i64 (tY n), .int .i64 (tM n), .int .i64 (tD n), .int .i64 (tH n), .int .i64 (tI n), .int .i64 (tS n)] 23)) := (Below.refl _ _).alloc (Nat.le_refl _) _
    have tB : Hid _ := T6.new w2 (tY n) (tM n) (tD n) (tH n) (tI n) (tS n) 23
    obtain ⟨a0, a1, a2, a3, a4, a5⟩ := (tA.out.below (next hb1 hb2) (Nat.le_refl _))
    have altA := (tA.out.below (next hb1 hb2) (Nat.le_refl _)).lt
    go_wp2_with fail
    refine (momentOf_any _ _ _ _ _ _ _).mono ?_
    rintro e w4 ⟨rfl, hb4⟩
    have T4 := (T2.below bB (Nat.le_refl _)).below hb4 (Nat.le_refl _)
    have tB4 : Hid _ := tB.out.below hb4 (Nat.le_refl _)
    clear a0 a1 a2 a3 a4 a5
    go_wp2_with fail
    refine (timeOf_yes _ HN.out _).mono ?_
    rintro e w5 ⟨rfl, hb5⟩
    have T5 := T4.below hb5 (Nat.le_refl _)
    have tB5 : Hid _ := tB4.out.below hb5 (Nat.le_refl _)
    go_wp2_with fail
    refine (weekdayOf_yes _ HN.out _).mono ?_
    rintro e w6 ⟨rfl, rfl⟩
    go_wp2_with fail
    refine (addOf_yes _ _ HN.out bk _).mono ?_
    rintro e w6 ⟨rfl, rfl⟩
    have bC : Below w5.heap.size w5 (w5.alloc (.cells #[.int .i64 (tY n), .int .i64 (tM n), .int .i64 (tD n), .int .i64 (tH n), .int .i64 (tI n), .int .i64 (tS n)] 23)) := (Below.refl _ _).alloc (Nat.le_refl _) _
    have tC : Hid _ := T6.new w5 (tY n) (tM n) (tD n) (tH n) (tI n) (tS n) 23
    go_wp2_with fail
    refine (clockBegun_any _ (T5.below bC (Nat.le_refl _))).mono ?_
    rintro e w7 ⟨rfl, hb7⟩
    obtain ⟨q0, q1, q2, q3, q4, q5⟩ := (tB5.out.below bC (Nat.le_refl _)).below hb7 (Nat.le_refl _)
    obtain ⟨r0, r1, r2, r3, r4, r5⟩ := tC.out.below hb7 (Nat.le_refl _)
    have g : Below w.heap.size w w7 := next (next (next (next (next (next (next bA hb1) hb2) bB) hb4) hb5) bC) hb7
    clear T1 T2 T4 T5 hb1 hb2 hb4 hb5 bB bC hb7 bA
    go_wp2_with fail
    go_ret
    exact ⟨rfl, g⟩

theorem laid_met (os : Os) : laidMet Tryd.prog Rows.clockTellsRow.laid (({ World.holding Tryd.prog os ⟨#[], #[], []⟩ with heap := ((((World.holding Tryd.prog os ⟨#[], #[], []⟩).heap.modify 0 fun | .cells _ t frozen => .cells #[.int .i64 1601, .int .i64 9999, .int .i64 1, .int .i64 12, .int .i64 1, .int .i64 31, .int .i64 0, .int .i64 23, .int .i64 0, .int .i64 59, .int .i64 0, .int .i64 59] t frozen | o => o).modify 1 fun | .cells _ t frozen => .cells #[.int .i64 31, .int .i64 28, .int .i64 31, .int .i64 30, .int .i64 31, .int .i64 30, .int .i64 31, .int .i64 31, .int .i64 30, .int .i64 31, .int .i64 30, .int .i64 31] t frozen | o => o).modify 2 fun | .cells _ t frozen => .cells #[.int .i64 400, .int .i64 146097, .int .i64 20, .int .i64 100, .int .i64 36524, .int .i64 3, .int .i64 4, .int .i64 1461, .int .i64 24, .int .i64 1, .int .i64 365, .int .i64 3] t frozen | o => o) } : World).forCall (fun _ _ => 0) ⟨#[], #[.agg #[.int .i64 0, .int .i64 0, .int .i64 0, .int .i64 0, .int .i64 0, .int .i64 0], .int .i64 0, .int .i64 0], []⟩).memory :=
  laidMet_of_run' 8 (by kernel_rfl) (by kernel_rfl)
theorem reads (os : Os) {H : Type} (enc : TypeId × Value → H) : ∃ places, DataW.whole enc Tryd.prog (({ World.holding Tryd.prog os ⟨#[], #[], []⟩ with heap := ((((World.holding Tryd.prog os ⟨#[], #[], []⟩).heap.modify 0 fun | .cells _ t frozen => .cells #[.int .i64 1601, .int .i64 9999, .int .i64 1, .int .i64 12, .int .i64 1, .int .i64 31, .int .i64 0, .int .i64 23, .int .i64 0, .int .i64 59, .int .i64 0, .int .i64 59] t frozen | o => o).modify 1 fun | .cells _ t frozen => .cells #[.int .i64 31, .int .i64 28, .int .i64 31, .int .i64 30, .int .i64 31, .int .i64 30, .int .i64 31, .int .i64 31, .int .i64 30, .int .i64 31, .int .i64 30, .int .i64 31] t frozen | o => o).modify 2 fun | .cells _ t frozen => .cells #[.int .i64 400, .int .i64 146097, .int .i64 20, .int .i64 100, .int .i64 36524, .int .i64 3, .int .i64 4, .int .i64 1461, .int .i64 24, .int .i64 1, .int .i64 365, .int .i64 3] t frozen | o => o) } : World).forCall (fun _ _ => 0) ⟨#[], #[.agg #[.int .i64 0, .int .i64 0, .int .i64 0, .int .i64 0, .int .i64 0, .int .i64 0], .int .i64 0, .int .i64 0], []⟩).memory Tryd.f3.params.toList Rows.clockTellsSpec.vars false (#[.agg #[.int .i64 0, .int .i64 0, .int .i64 0, .int .i64 0, .int .i64 0, .int .i64 0], .int .i64 0, .int .i64 0] : Array Value).toList 8 = some ([.agg [.lit (.int .i64 0), .lit (.int .i64 0), .lit (.int .i64 0), .lit (.int .i64 0), .lit (.int .i64 0), .lit (.int .i64 0)], .lit (.int .i64 0), .lit (.int .i64 0)], [], places) :=
  ⟨[], by kernel_rfl⟩
set_option maxRecDepth 100000 in
theorem contract (H : Type) (enc : TypeId × Value → H) (W : World) (base : Nat) (args : Array Value) (ds gs : List (DataW H)) (before : List MemPlace)
    (hval0 : ∀ (j : Nat) t v, Tryd.f3.params[j]? = some t → args[j]? = some v → Value.okWide Tryd.prog W .any base t v)
    (hW : DataW.Whole enc Tryd.prog Tryd.f3.params.toList Rows.clockTellsSpec.vars false W args.toList ds gs before) (hL : laidMetH Tryd.prog Rows.clockTellsRow.laid W) :
    Calls Tryd.prog 3 args W fun e W' => ∃ v, e = .returned v ∧ Rows.clockTellsSpec.post enc Tryd.prog Tryd.f3 false true false false W args v W' := by
  have hval : ∀ (j : Nat) t v, Tryd.f3.params[j]? = some t → args[j]? = some v → Value.okWide Tryd.prog W .any base t v := hval0
  have hW' := hW
  obtain ⟨p, q, hA0, hV, rfl, hfz, hnd⟩ := hW
  have hA : DataW.TrodAll enc Tryd.prog W 0 (fun _ => true) true Tryd.f3.params.toList args.toList ds p := hA0
  rw [Tryd.params3] at hA hval
  obtain ⟨v0, vs0, d0, ds0, p0, q0, hargs, rfl, rfl, h0, r0⟩ := trodAll_cons hA
  obtain ⟨v1, vs1, d1, ds1, p1, q1, rfl, rfl, rfl, h1, r1⟩ := trodAll_cons r0
  obtain ⟨v2, vs2, d2, ds2, p2, q2, rfl, rfl, rfl, h2, r2⟩ := trodAll_cons r1
  obtain ⟨rfl, rfl, rfl⟩ := trodAll_nil r2
  obtain rfl : args = #[v0, v1, v2] := by cases args; simp_all
  obtain ⟨rfl, rfl⟩ := trodVars_none hV
  have k0 := h0
  have lt0 : ∀ x ∈ p0, x.block < W.heap.size := by obtain ⟨m, hm⟩ := k0; exact DataW.trod_lt m _ _ _ hm
  have k1 := h1
  have lt1 : ∀ x ∈ p1, x.block < W.heap.size := by obtain ⟨m, hm⟩ := k1; exact DataW.trod_lt m _ _ _ hm
  have k2 := h2
  have lt2 : ∀ x ∈ p2, x.block < W.heap.size := by obtain ⟨m, hm⟩ := k2; exact DataW.trod_lt m _ _ _ hm
  obtain ⟨zs0, hz0, hl0, hb0⟩ := open_struct_ints (fs := _) Tryd.underlying23 (fun i f h => by have hi := (Array.getElem?_eq_some_iff.1 h).1; have h6 : i < 6 := hi; rcases six i h6 with rfl | rfl | rfl | rfl | rfl | rfl <;> (cases h; exact ⟨rfl, rfl⟩)) Tryd.underlying3 (by kernel_rfl) (by kernel_rfl) (hval 0 23 v0 rfl rfl) k0
  obtain ⟨ty0, tm0, td0, th0, ti0, ts0, rfl⟩ := list6 hl0
  subst hz0
  obtain ⟨x1, rfl, rfl, hp1, w1⟩ := open_int Tryd.underlying3 (hval 1 3 v1 rfl rfl) h1
  have b1 := i64_of w1
  obtain ⟨x2, rfl, rfl, hp2, w2⟩ := open_int Tryd.underlying3 (hval 2 3 v2 rfl rfl) h2
  have b2 := i64_of w2
  clear hA0 hval0
  refine (walk ty0 tm0 td0 th0 ti0 ts0 x1 x2 W (hb0 _ (by simp)) (hb0 _ (by simp)) (hb0 _ (by simp)) (hb0 _ (by simp)) (hb0 _ (by simp)) (hb0 _ (by simp)) b1 b2 (tabs_of hL)).mono fun e W' ⟨he, bel⟩ => ?_
  subst he
  exact ⟨_, rfl, _, _, _, [], _, [], hW', trodAll_mk1 (shut_bool Tryd.underlying4 _), (trodAll_cons_mk (Below.trod laidOut (by kernel_rfl) (of_decide_eq_true (by kernel_rfl)) k0 bel lt0) (trodAll_cons_mk (Below.trod laidOut (by kernel_rfl) (of_decide_eq_true (by kernel_rfl)) k1 bel lt1) (trodAll_cons_mk (Below.trod laidOut (by kernel_rfl) (of_decide_eq_true (by kernel_rfl)) k2 bel lt2) trodAll_mk0))), rfl, bel.frame _, fun h => by cases h⟩
set_option maxRecDepth 100000 in
theorem lifted (os : Os) (started : os.Started) (H : Type) (enc : TypeId × Value → H) (F : Stop.Interp) :
    ReturnsInHanded {} Tryd.checked os 3 .any ((OpenSpec.ofChange Rows.clockTellsSpec).preRow enc Tryd.prog Tryd.f3 Rows.clockTellsRow.domain false Rows.clockTellsRow.laid) (((OpenSpec.ofChange Rows.clockTellsSpec).at F).post enc Tryd.prog Tryd.f3 false true false false) := by
  obtain ⟨places, hx⟩ := reads os enc
  refine returnsInHanded_of_row (C := Tryd.checked) (s := (OpenSpec.ofChange Rows.clockTellsSpec)) own started (by kernel_rfl) Tryd.func3
    (witness_row_at (enc := enc) (C := Tryd.checked) false ({ World.holding Tryd.prog os ⟨#[], #[], []⟩ with heap := ((((World.holding Tryd.prog os ⟨#[], #[], []⟩).heap.modify 0 fun | .cells _ t frozen => .cells #[.int .i64 1601, .int .i64 9999, .int .i64 1, .int .i64 12, .int .i64 1, .int .i64 31, .int .i64 0, .int .i64 23, .int .i64 0, .int .i64 59, .int .i64 0, .int .i64 59] t frozen | o => o).modify 1 fun | .cells _ t frozen => .cells #[.int .i64 31, .int .i64 28, .int .i64 31, .int .i64 30, .int .i64 31, .int .i64 30, .int .i64 31, .int .i64 31, .int .i64 30, .int .i64 31, .int .i64 30, .int .i64 31] t frozen | o => o).modify 2 fun | .cells _ t frozen => .cells #[.int .i64 400, .int .i64 146097, .int .i64 20, .int .i64 100, .int .i64 36524, .int .i64 3, .int .i64 4, .int .i64 1461, .int .i64 24, .int .i64 1, .int .i64 365, .int .i64 3] t frozen | o => o) } : World) #[.agg #[.int .i64 0, .int .i64 0, .int .i64 0, .int .i64 0, .int .i64 0, .int .i64 0], .int .i64 0, .int .i64 0] rfl (by kernel_rfl) (by kernel_rfl) (by kernel_rfl)
      (OpenSpec.preRow_of_cond 8 hx (by kernel_rfl) (fun k hk => by cases hk) (by kernel_rfl) (laid_met os))) ?_
  intro W base args ds gs before hval hW _ _ _ hL _ _
  exact contract H enc W base args ds gs before hval hW hL
theorem said : Rows.ClockTellsSaid :=
  OpenClaim.holds_of_cond 3 Tryd.f3 rfl rfl rfl rfl rfl rfl rfl ⟨rfl, rfl, rfl, rfl, rfl⟩ rfl rfl rfl rfl rfl (by kernel_rfl) Tryd.func3 (by kernel_rfl)
    (of_decide_eq_true (by kernel_rfl)) (by unfold Func.isWrapper; first | (rw [if_pos (by decide +kernel)]; kernel_rfl) | (rw [if_neg (by decide +kernel)]; exact ⟨rfl, rfl⟩))
    (fun os started H enc _ F => by rw [OpenClaim.pre_eq_preRow]; exact lifted os started H enc F)
theorem plain (f : FuncId) (fn : Func) (hf : Tryd.pinned.checked.prog.funcNamed "gingersnap/gingersnaplaw.ClockTells" = some f) (hfn : Tryd.pinned.checked.prog.funcs[f]? = some fn) :
    false = Tryd.pinned.checked.prog.looks [] ∧ ∀ (j : Nat) t, fn.params[j]? = some t → Tryd.pinned.checked.prog.wantsStandIn t = false := by
  obtain rfl : f = 3 := Option.some.inj ((show Tryd.prog.funcNamed "gingersnap/gingersnaplaw.ClockTells" = some 3 by kernel_rfl).symm.trans hf) |>.symm
  obtain rfl : fn = Tryd.f3 := (Option.some.inj (Tryd.func3.symm.trans hfn)).symm
  refine ⟨by kernel_rfl, fun j t ht => ?_⟩
  rw [Tryd.params3] at ht
  have ht2 := Array.mem_of_getElem? ht
  have ht3 : t = 3 ∨ t = 23 := by simp at ht2; first | exact ht2 | exact ht2.symm | (rcases ht2 with h | h <;> simp [h]) | (rcases ht2 with h | h | h <;> simp [h])
  rcases ht3 with rfl | rfl
  · exact (show Tryd.prog.wantsStandIn 3 = false by kernel_rfl)
  · exact (show Tryd.prog.wantsStandIn 23 = false by kernel_rfl)
theorem card : Rows.ClockTellsCardSaid :=
  Claim7.holds_tied_plain_at .later [] _ _ _ _ said (fun _ h => by cases h) (by kernel_rfl) (fun _ h => by cases h) clockTells_row_tie rfl ⟨rfl, rfl⟩ (by kernel_rfl) rfl plain (by kernel_rfl)
#print axioms card
end Go.Proofs.YthdnlpojpbkpkaaDoor.clockTells
