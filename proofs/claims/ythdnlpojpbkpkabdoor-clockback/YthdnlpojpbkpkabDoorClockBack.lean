/- ClockBack: for every time and every number times and moments go to and fro; the package's tables hold what their own text lays. No other condition. -/
import Derived.Test.YthdnlpojpbkpkabDoorCards
import Derived.Test.YthdnlpojpbkpkabDoorTie
import Derived.Test.YthdnlpojpbkpkabDoorClockD
import Derived.Test.YthdnlpojpbkpkabDoorClockL
import Derived.Test.YthdnlpojpbkpkabDoorOpen
namespace Go.Proofs.YthdnlpojpbkpkabDoor.clockBack
open Go.ChangeShapes Go.WideShapes Go.ChangeAt Go.RowKit
open Go.ChangeMaps (open_string shut_string)
set_option linter.all false

set_option maxHeartbeats 4000000 in
theorem walk (y m d h i s n : Int) (w : World) (by_ : -9223372036854775808 ≤ y ∧ y ≤ 9223372036854775807) (bm : -9223372036854775808 ≤ m ∧ m ≤ 9223372036854775807) (bd : -9223372036854775808 ≤ d ∧ d ≤ 9223372036854775807)
    (bh : -9223372036854775808 ≤ h ∧ h ≤ 9223372036854775807) (bi : -9223372036854775808 ≤ i ∧ i ≤ 9223372036854775807) (bs : -9223372036854775808 ≤ s ∧ s ≤ 9223372036854775807) (bn : -9223372036854775808 ≤ n ∧ n ≤ 9223372036854775807) (T : Tabs w) :
    Calls Tryd.prog 3 #[.agg #[.int .i64 y, .int .i64 m, .int .i64 d, .int .i64 h, .int .i64 i, .int .i64 s], .int .i64 n] w fun e w' => e = .returned (.bool true) ∧ Below w.heap.size w w' := by
  have bA : Below w.heap.size w (w.alloc (.cells #[.int .i64 y, .int .i64 m, .int .i64 d, .int .i64 h, .int .i64 i, .int .i64 s] 23)) := (Below.refl _ _).alloc (Nat.le_refl _) _
  have tA : Hid _ := T6.new w y m d h i s 23
  have TA : Hid _ := T.below bA (Nat.le_refl _)
  clear by_ bm bd bh bi bs
  cases hn : momB n
  · have HN : Hid _ := hn
    have hno : ¬ (-11644473600 ≤ n ∧ n ≤ 253402300799) := by rw [← momB_iff, hn]; simp
    clear hn
    cases hv : vldB y m d h i s
    · obtain ⟨e1, e2⟩ := of_no hv
      have E1 : Hid _ := e1
      have E2 : Hid _ := e2
      clear e1 e2 hv
      by_cases hlo : -11644473600 ≤ n
      all_goals
        first
        | have hhi : 253402300799 < n := by omega
        | skip
        clear hno
        go_enter Tryd.func3, Tryd.ntmps3
        go_wp2_with fail
        refine (of_any _ _ _ _ _ _ _ TA.out).mono ?_
        rw [E1.out, E2.out]
        rintro e w1 ⟨rfl, hb1⟩
        have T1 := TA.out.below hb1 (Nat.le_refl _)
        go_wp2_with fail
        refine (time_no _ HN.out _).mono ?_
        rintro e w2 ⟨rfl, hb2⟩
        have T2 := T1.below hb2 (Nat.le_refl _)
        go_wp2_with fail
        have bB : Below w2.heap.size w2 (w2.alloc (.cells #[.int .i64 0, .int .i64 0, .int .i64 0, .int .i64 0, .int .i64 0, .int .i64 0] 23)) := (Below.refl _ _).alloc (Nat.le_refl _) _
        have tB : Hid _ := T6.new w2 0 0 0 0 0 0 23
        refine (clockBegun_any _ (T2.below bB (Nat.le_refl _))).mono ?_
        rintro e w3 ⟨rfl, hb3⟩
        have T3 := (T2.below bB (Nat.le_refl _)).below hb3 (Nat.le_refl _)
        have tB3 : Hid _ := tB.out.below hb3 (Nat.le_refl _)
        have g3 := next (next (next (next bA hb1) hb2) bB) hb3
        have tA3 : Hid _ := tA.out.below (next (next (next hb1 hb2) bB) hb3) (Nat.le_refl _)
        clear T1 T2 hb1 hb2 hb3 bB tB
        obtain ⟨q0, q1, q2, q3, q4, q5⟩ := tB3.out
        go_wp2_with fail
        go_ret
        exact ⟨rfl, g3⟩
    · obtain ⟨e1, e2⟩ := of_yes hv
      have E1 : Hid _ := e1
      have E2 : Hid _ := e2
      have M0 : Hid _ := moment_ok _ _ _ _ _ _ hv
      have R : Hid _ := time_of _ _ _ _ _ _ hv
      have hm0 := (momB_iff _).1 M0.out
      clear e1 e2 hv
      by_cases hlo : -11644473600 ≤ n
      all_goals
        first
        | have hhi : 253402300799 < n := by omega
        | skip
        clear hno
        go_enter Tryd.func3, Tryd.ntmps3
        go_wp2_with fail
        refine (of_any _ _ _ _ _ _ _ TA.out).mono ?_
        rw [E1.out, E2.out]
        rintro e w1 ⟨rfl, hb1⟩
        have T1 := TA.out.below hb1 (Nat.le_refl _)
        go_wp2_with fail
        refine (time_no _ HN.out _).mono ?_
        rintro e w2 ⟨rfl, hb2⟩
        have T2 := T1.below hb2 (Nat.le_refl _)
        go_wp2_with fail
        have bB : Below w2.heap.size w2 (w2.alloc (.cells #[.int .i64 0, .int .i64 0, .int .i64 0, .int .i64 0, .int .i64 0, .int .i64 0] 23)) := (Below.refl _ _).alloc (Nat.le_refl _) _
        have tB : Hid _ := T6.new w2 0 0 0 0 0 0 23
        refine (clockBegun_any _ (T2.below bB (Nat.le_refl _))).mono ?_
        rintro e w3 ⟨rfl, hb3⟩
        have T3 := (T2.below bB (Nat.le_refl _)).below hb3 (Nat.le_refl _)
        have tB3 : Hid _ := tB.out.below hb3 (Nat.le_refl _)
        have g3 := next (next (next (next bA hb1) hb2) bB) hb3
        have tA3 : Hid _ := tA.out.below (next (next (next hb1 hb2) bB) hb3) (Nat.le_refl _)
        clear T1 T2 hb1 hb2 hb3 bB tB
        go_wp2_with fail
        refine (time_yes _ M0.out _ T3).mono ?_
        rw [R.out.1, R.out.2.1, R.out.2.2.1, R.out.2.2.2.1, R.out.2.2.2.2.1, R.out.2.2.2.2.2]
        rintro e w4 ⟨rfl, hb4⟩
        obtain ⟨a0, a1, a2, a3, a4, a5⟩ := tA3.out.below hb4 (Nat.le_refl _)
        have tB4 : Hid _ := tB3.out.below hb4 (Nat.le_refl _)
        have T4 := T3.below hb4 (Nat.le_refl _)
        have bC : Below w4.heap.size w4 (w4.alloc (.cells #[.int .i64 y, .int .i64 m, .int .i64 d, .int .i64 h, .int .i64 i, .int .i64 s] 23)) := (Below.refl _ _).alloc (Nat.le_refl _) _
        have hlt := (tA3.out.below hb4 (Nat.le_refl _)).lt
        have hltB := tB4.out.lt
        obtain ⟨q0, q1, q2, q3, q4, q5⟩ := tB4.out
        go_wp2_with fail
        go_ret
        exact ⟨rfl, next (next g3 hb4) bC⟩
  · have HN : Hid _ := hn
    have hin := (momB_iff n).1 hn
    have tok := time_ok n hn
    have Q : Hid (ofV (tY n) (tM n) (tD n) (tH n) (tI n) (tS n) = n ∧ ofE (tY n) (tM n) (tD n) (tH n) (tI n) (tS n) = 0) := ⟨(of_yes tok.1).1.trans tok.2, (of_yes tok.1).2⟩
    clear hn tok
    cases hv : vldB y m d h i s
    · obtain ⟨e1, e2⟩ := of_no hv
      have E1 : Hid _ := e1
      have E2 : Hid _ := e2
      clear e1 e2 hv
      go_enter Tryd.func3, Tryd.ntmps3
      go_wp2_with fail
      refine (of_any _ _ _ _ _ _ _ TA.out).mono ?_
      rw [E1.out, E2.out]
      rintro e w1 ⟨rfl, hb1⟩
      have T1 := TA.out.below hb1 (Nat.le_refl _)
      go_wp2_with fail
      refine (time_yes _ HN.out _ T1).mono ?_
      rintro e w2 ⟨rfl, hb2⟩
      have T2 := T1.below hb2 (Nat.le_refl _)
      go_wp2_with fail
      have bB : Below w2.heap.size w2 (w2.alloc (.cells #[.int .i64 (tY n), .int .i64 (tM n), .int .i64 (tD n), .int .i64 (tH n), .int .i64 (tI n), .int .i64 (tS n)] 23)) := (Below.refl _ _).alloc (Nat.le_refl _) _
      have tB : Hid _ := T6.new w2 (tY n) (tM n) (tD n) (tH n) (tI n) (tS n) 23
      refine (clockBegun_any _ (T2.below bB (Nat.le_refl _))).mono ?_
      rintro e w3 ⟨rfl, hb3⟩
      have T3 := (T2.below bB (Nat.le_refl _)).below hb3 (Nat.le_refl _)
      have tB3 : Hid _ := tB.out.below hb3 (Nat.le_refl _)
      have g3 := next (next (next (next bA hb1) hb2) bB) hb3
      have tA3 : Hid _ := tA.out.below (next (next (next hb1 hb2) bB) hb3) (Nat.le_refl _)
      clear T1 T2 hb1 hb2 hb3 bB tB
      obtain ⟨q0, q1, q2, q3, q4, q5⟩ := tB3.out
      go_wp2_with fail
      refine (of_any _ _ _ _ _ _ _ T3).mono ?_
      rw [Q.out.1, Q.out.2]
      rintro e w5 ⟨rfl, hb5⟩
      go_wp2_with fail
      go_ret
      exact ⟨rfl, next g3 hb5⟩
    · obtain ⟨e1, e2⟩ := of_yes hv
      have E1 : Hid _ := e1
      have E2 : Hid _ := e2
      have M0 : Hid _ := moment_ok _ _ _ _ _ _ hv
      have R : Hid _ := time_of _ _ _ _ _ _ hv
      have hm0 := (momB_iff _).1 M0.out
      clear e1 e2 hv
      go_enter Tryd.func3, Tryd.ntmps3
      go_wp2_with fail
      refine (of_any _ _ _ _ _ _ _ TA.out).mono ?_
      rw [E1.out, E2.out]
      rintro e w1 ⟨rfl, hb1⟩
      have T1 := TA.out.below hb1 (Nat.le_refl _)
      go_wp2_with fail
      refine (time_yes _ HN.out _ T1).mono ?_
      rintro e w2 ⟨rfl, hb2⟩
      have T2 := T1.below hb2 (Nat.le_refl _)
      go_wp2_with fail
      have bB : Below w2.heap.size w2 (w2.alloc (.cells #[.int .i64 (tY n), .int .i64 (tM n), .int .i64 (tD n), .int .i64 (tH n), .int .i64 (tI n), .int .i64 (tS n)] 23)) := (Below.refl _ _).alloc (Nat.le_refl _) _
      have tB : Hid _ := T6.new w2 (tY n) (tM n) (tD n) (tH n) (tI n) (tS n) 23
      refine (clockBegun_any _ (T2.below bB (Nat.le_refl _))).mono ?_
      rintro e w3 ⟨rfl, hb3⟩
      have T3 := (T2.below bB (Nat.le_refl _)).below hb3 (Nat.le_refl _)
      have tB3 : Hid _ := tB.out.below hb3 (Nat.le_refl _)
      have g3 := next (next (next (next bA hb1) hb2) bB) hb3
      have tA3 : Hid _ := tA.out.below (next (next (next hb1 hb2) bB) hb3) (Nat.le_refl _)
      clear T1 T2 hb1 hb2 hb3 bB tB
      go_wp2_with fail
      refine (time_yes _ M0.out _ T3).mono ?_
      rw [R.out.1, R.out.2.1, R.out.2.2.1, R.out.2.2.2.1, R.out.2.2.2.2.1, R.out.2.2.2.2.2]
      rintro e w4 ⟨rfl, hb4⟩
      obtain ⟨a0, a1, a2, a3, a4, a5⟩ := tA3.out.below hb4 (Nat.le_refl _)
      have tB4 : Hid _ := tB3.out.below hb4 (Nat.le_refl _)
      have T4 := T3.below hb4 (Nat.le_refl _)
      have bC : Below w4.heap.size w4 (w4.alloc (.cells #[.int .i64 y, .int .i64 m, .int .i64 d, .int .i64 h, .int .i64 i, .int .i64 s] 23)) := (Below.refl _ _).alloc (Nat.le_refl _) _
      have hlt := (tA3.out.below hb4 (Nat.le_refl _)).lt
      have hltB := tB4.out.lt
      obtain ⟨q0, q1, q2, q3, q4, q5⟩ := tB4.out
      go_wp2_with fail
      refine (of_any _ _ _ _ _ _ _ (T4.below bC (Nat.le_refl _))).mono ?_
      rw [Q.out.1, Q.out.2]
      rintro e w5 ⟨rfl, hb5⟩
      go_wp2_with fail
      go_ret
      exact ⟨rfl, next (next (next g3 hb4) bC) hb5⟩

theorem laid_met (os : Os) : laidMet Tryd.prog Rows.clockBackRow.laid (({ World.holding Tryd.prog os ⟨#[], #[], []⟩ with heap := ((((World.holding Tryd.prog os ⟨#[], #[], []⟩).heap.modify 0 fun | .cells _ t frozen => .cells #[.int .i64 1601, .int .i64 9999, .int .i64 1, .int .i64 12, .int .i64 1, .int .i64 31, .int .i64 0, .int .i64 23, .int .i64 0, .int .i64 59, .int .i64 0, .int .i64 59] t frozen | o => o).modify 1 fun | .cells _ t frozen => .cells #[.int .i64 31, .int .i64 28, .int .i64 31, .int .i64 30, .int .i64 31, .int .i64 30, .int .i64 31, .int .i64 31, .int .i64 30, .int .i64 31, .int .i64 30, .int .i64 31] t frozen | o => o).modify 2 fun | .cells _ t frozen => .cells #[.int .i64 400, .int .i64 146097, .int .i64 20, .int .i64 100, .int .i64 36524, .int .i64 3, .int .i64 4, .int .i64 1461, .int .i64 24, .int .i64 1, .int .i64 365, .int .i64 3] t frozen | o => o) } : World).forCall (fun _ _ => 0) ⟨#[], #[.agg #[.int .i64 0, .int .i64 0, .int .i64 0, .int .i64 0, .int .i64 0, .int .i64 0], .int .i64 0], []⟩).memory :=
  laidMet_of_run' 8 (by kernel_rfl) (by kernel_rfl)
theorem reads (os : Os) {H : Type} (enc : TypeId × Value → H) : ∃ places, DataW.whole enc Tryd.prog (({ World.holding Tryd.prog os ⟨#[], #[], []⟩ with heap := ((((World.holding Tryd.prog os ⟨#[], #[], []⟩).heap.modify 0 fun | .cells _ t frozen => .cells #[.int .i64 1601, .int .i64 9999, .int .i64 1, .int .i64 12, .int .i64 1, .int .i64 31, .int .i64 0, .int .i64 23, .int .i64 0, .int .i64 59, .int .i64 0, .int .i64 59] t frozen | o => o).modify 1 fun | .cells _ t frozen => .cells #[.int .i64 31, .int .i64 28, .int .i64 31, .int .i64 30, .int .i64 31, .int .i64 30, .int .i64 31, .int .i64 31, .int .i64 30, .int .i64 31, .int .i64 30, .int .i64 31] t frozen | o => o).modify 2 fun | .cells _ t frozen => .cells #[.int .i64 400, .int .i64 146097, .int .i64 20, .int .i64 100, .int .i64 36524, .int .i64 3, .int .i64 4, .int .i64 1461, .int .i64 24, .int .i64 1, .int .i64 365, .int .i64 3] t frozen | o => o) } : World).forCall (fun _ _ => 0) ⟨#[], #[.agg #[.int .i64 0, .int .i64 0, .int .i64 0, .int .i64 0, .int .i64 0, .int .i64 0], .int .i64 0], []⟩).memory Tryd.f3.params.toList Rows.clockBackSpec.vars false (#[.agg #[.int .i64 0, .int .i64 0, .int .i64 0, .int .i64 0, .int .i64 0, .int .i64 0], .int .i64 0] : Array Value).toList 8 = some ([.agg [.lit (.int .i64 0), .lit (.int .i64 0), .lit (.int .i64 0), .lit (.int .i64 0), .lit (.int .i64 0), .lit (.int .i64 0)], .lit (.int .i64 0)], [], places) :=
  ⟨[], by kernel_rfl⟩
set_option maxRecDepth 100000 in
theorem contract (H : Type) (enc : TypeId × Value → H) (W : World) (base : Nat) (args : Array Value) (ds gs : List (DataW H)) (before : List MemPlace)
    (hval0 : ∀ (j : Nat) t v, Tryd.f3.params[j]? = some t → args[j]? = some v → Value.okWide Tryd.prog W .any base t v)
    (hW : DataW.Whole enc Tryd.prog Tryd.f3.params.toList Rows.clockBackSpec.vars false W args.toList ds gs before) (hL : laidMetH Tryd.prog Rows.clockBackRow.laid W) :
    Calls Tryd.prog 3 args W fun e W' => ∃ v, e = .returned v ∧ Rows.clockBackSpec.post enc Tryd.prog Tryd.f3 false true false false W args v W' := by
  have hval : ∀ (j : Nat) t v, Tryd.f3.params[j]? = some t → args[j]? = some v → Value.okWide Tryd.prog W .any base t v := hval0
  have hW' := hW
  obtain ⟨p, q, hA0, hV, rfl, hfz, hnd⟩ := hW
  have hA : DataW.TrodAll enc Tryd.prog W 0 (fun _ => true) true Tryd.f3.params.toList args.toList ds p := hA0
  rw [Tryd.params3] at hA hval
  obtain ⟨v0, vs0, d0, ds0, p0, q0, hargs, rfl, rfl, h0, r0⟩ := trodAll_cons hA
  obtain ⟨v1, vs1, d1, ds1, p1, q1, rfl, rfl, rfl, h1, r1⟩ := trodAll_cons r0
  obtain ⟨rfl, rfl, rfl⟩ := trodAll_nil r1
  obtain rfl : args = #[v0, v1] := by cases args; simp_all
  obtain ⟨rfl, rfl⟩ := trodVars_none hV
  have k0 := h0
  have lt0 : ∀ x ∈ p0, x.block < W.heap.size := by obtain ⟨m, hm⟩ := k0; exact DataW.trod_lt m _ _ _ hm
  have k1 := h1
  have lt1 : ∀ x ∈ p1, x.block < W.heap.size := by obtain ⟨m, hm⟩ := k1; exact DataW.trod_lt m _ _ _ hm
  obtain ⟨zs0, hz0, hl0, hb0⟩ := open_struct_ints (fs := _) Tryd.underlying23 (fun i f h => by have hi := (Array.getElem?_eq_some_iff.1 h).1; have h6 : i < 6 := hi; rcases six i h6 with rfl | rfl | rfl | rfl | rfl | rfl <;> (cases h; exact ⟨rfl, rfl⟩)) Tryd.underlying3 (by kernel_rfl) (by kernel_rfl) (hval 0 23 v0 rfl rfl) k0
  obtain ⟨ty0, tm0, td0, th0, ti0, ts0, rfl⟩ := list6 hl0
  subst hz0
  obtain ⟨x1, rfl, rfl, hp1, w1⟩ := open_int Tryd.underlying3 (hval 1 3 v1 rfl rfl) h1
  have b1 := i64_of w1
  clear hA0 hval0
  refine (walk ty0 tm0 td0 th0 ti0 ts0 x1 W (hb0 _ (by simp)) (hb0 _ (by simp)) (hb0 _ (by simp)) (hb0 _ (by simp)) (hb0 _ (by simp)) (hb0 _ (by simp)) b1 (tabs_of hL)).mono fun e W' ⟨he, bel⟩ => ?_
  subst he
  exact ⟨_, rfl, _, _, _, [], _, [], hW', trodAll_mk1 (shut_bool Tryd.underlying4 _), (trodAll_cons_mk (Below.trod laidOut (by kernel_rfl) (of_decide_eq_true (by kernel_rfl)) k0 bel lt0) (trodAll_cons_mk (Below.trod laidOut (by kernel_rfl) (of_decide_eq_true (by kernel_rfl)) k1 bel lt1) trodAll_mk0)), rfl, bel.frame _, fun h => by cases h⟩
set_option maxRecDepth 100000 in
theorem lifted (os : Os) (started : os.Started) (H : Type) (enc : TypeId × Value → H) (F : Stop.Interp) :
    ReturnsInHanded {} Tryd.checked os 3 .any ((OpenSpec.ofChange Rows.clockBackSpec).preRow enc Tryd.prog Tryd.f3 Rows.clockBackRow.domain false Rows.clockBackRow.laid) (((OpenSpec.ofChange Rows.clockBackSpec).at F).post enc Tryd.prog Tryd.f3 false true false false) := by
  obtain ⟨places, hx⟩ := reads os enc
  refine returnsInHanded_of_row (C := Tryd.checked) (s := (OpenSpec.ofChange Rows.clockBackSpec)) own started (by kernel_rfl) Tryd.func3
    (witness_row_at (enc := enc) (C := Tryd.checked) false ({ World.holding Tryd.prog os ⟨#[], #[], []⟩ with heap := ((((World.holding Tryd.prog os ⟨#[], #[], []⟩).heap.modify 0 fun | .cells _ t frozen => .cells #[.int .i64 1601, .int .i64 9999, .int .i64 1, .int .i64 12, .int .i64 1, .int .i64 31, .int .i64 0, .int .i64 23, .int .i64 0, .int .i64 59, .int .i64 0, .int .i64 59] t frozen | o => o).modify 1 fun | .cells _ t frozen => .cells #[.int .i64 31, .int .i64 28, .int .i64 31, .int .i64 30, .int .i64 31, .int .i64 30, .int .i64 31, .int .i64 31, .int .i64 30, .int .i64 31, .int .i64 30, .int .i64 31] t frozen | o => o).modify 2 fun | .cells _ t frozen => .cells #[.int .i64 400, .int .i64 146097, .int .i64 20, .int .i64 100, .int .i64 36524, .int .i64 3, .int .i64 4, .int .i64 1461, .int .i64 24, .int .i64 1, .int .i64 365, .int .i64 3] t frozen | o => o) } : World) #[.agg #[.int .i64 0, .int .i64 0, .int .i64 0, .int .i64 0, .int .i64 0, .int .i64 0], .int .i64 0] rfl (by kernel_rfl) (by kernel_rfl) (by kernel_rfl)
      (OpenSpec.preRow_of_cond 8 hx (by kernel_rfl) (fun k hk => by cases hk) (by kernel_rfl) (laid_met os))) ?_
  intro W base args ds gs before hval hW _ _ _ hL _ _
  exact contract H enc W base args ds gs before hval hW hL
theorem said : Rows.ClockBackSaid :=
  OpenClaim.holds_of_cond 3 Tryd.f3 rfl rfl rfl rfl rfl rfl rfl ⟨rfl, rfl, rfl, rfl, rfl⟩ rfl rfl rfl rfl rfl (by kernel_rfl) Tryd.func3 (by kernel_rfl)
    (of_decide_eq_true (by kernel_rfl)) (by unfold Func.isWrapper; first | (rw [if_pos (by decide +kernel)]; kernel_rfl) | (rw [if_neg (by decide +kernel)]; exact ⟨rfl, rfl⟩))
    (fun os started H enc _ F => by rw [OpenClaim.pre_eq_preRow]; exact lifted os started H enc F)
theorem plain (f : FuncId) (fn : Func) (hf : Tryd.pinned.checked.prog.funcNamed "gingersnap/gingersnaplaw.ClockBack" = some f) (hfn : Tryd.pinned.checked.prog.funcs[f]? = some fn) :
    false = Tryd.pinned.checked.prog.looks [] ∧ ∀ (j : Nat) t, fn.params[j]? = some t → Tryd.pinned.checked.prog.wantsStandIn t = false := by
  obtain rfl : f = 3 := Option.some.inj ((show Tryd.prog.funcNamed "gingersnap/gingersnaplaw.ClockBack" = some 3 by kernel_rfl).symm.trans hf) |>.symm
  obtain rfl : fn = Tryd.f3 := (Option.some.inj (Tryd.func3.symm.trans hfn)).symm
  refine ⟨by kernel_rfl, fun j t ht => ?_⟩
  rw [Tryd.params3] at ht
  have ht2 := Array.mem_of_getElem? ht
  have ht3 : t = 3 ∨ t = 23 := by simp at ht2; first | exact ht2 | exact ht2.symm | (rcases ht2 with h | h <;> simp [h]) | (rcases ht2 with h | h | h <;> simp [h])
  rcases ht3 with rfl | rfl
  · exact (show Tryd.prog.wantsStandIn 3 = false by kernel_rfl)
  · exact (show Tryd.prog.wantsStandIn 23 = false by kernel_rfl)
theorem card : Rows.ClockBackCardSaid :=
  Claim7.holds_tied_plain_at .later [] _ _ _ _ said (fun _ h => by cases h) (by kernel_rfl) (fun _ h => by cases h) clockBack_row_tie rfl ⟨rfl, rfl⟩ (by kernel_rfl) rfl plain (by kernel_rfl)
#print axioms card
end Go.Proofs.YthdnlpojpbkpkabDoor.clockBack
