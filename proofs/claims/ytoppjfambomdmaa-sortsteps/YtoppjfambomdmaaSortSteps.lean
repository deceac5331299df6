/- SortSteps: of what Sort leaves no path is longer than the one before, of equally long ones none was created earlier, of those at one time none has a smaller No; what came in reads as it did. No condition. -/
import Derived.Test.YtoppjfambomdmaaLineG
import Derived.Test.YtoppjfambomdmaaOpenL
namespace Go.Proofs.Ytoppjfambomdmaa.sortSteps
open Go.ChangeShapes Go.WideShapes Go.ChangeAt Go.RowKit
open Go.ChangeMaps (open_string shut_string)
set_option linter.all false
set_option maxRecDepth 100000

theorem keep_drew {w w' : World} (h : Below w.heap.size w w') : Below w.heap.size w w'.drew := h.drew
/-- two cookies laid, one behind the other -/
theorem two_rows (wr : World) (a b : List Value) (t : TypeId) : LRow ((wr.alloc (.cells a.toArray t)).alloc (.cells b.toArray t)).drew wr.heap.size a ∧ LRow ((wr.alloc (.cells a.toArray t)).alloc (.cells b.toArray t)).drew (wr.heap.size + 1) b ∧ Below wr.heap.size wr ((wr.alloc (.cells a.toArray t)).alloc (.cells b.toArray t)).drew := by
  refine ⟨⟨fun j v hj => ?_⟩, ⟨fun j v hj => ?_⟩, (((Below.refl _ wr).alloc (Nat.le_refl _) _).alloc (by simp) _).drew⟩
  · exact ((LRow.new wr a t).below ((Below.refl (wr.heap.size + 1) _).alloc (by simp) _) (by omega)).all j v hj
  · have h := (LRow.new (wr.alloc (.cells a.toArray t)) b t).all j v hj
    rw [show (wr.alloc (.cells a.toArray t)).heap.size = wr.heap.size + 1 from by simp] at h
    exact h
theorem lt_parts {x y : Ck} (h : ltC y x = false) : y.path.length < x.path.length ∨ (y.path.length = x.path.length ∧ (x.created < y.created ∨ (x.created = y.created ∧ x.no ≤ y.no))) := by
  have h2 : ¬ ltC y x = true := by rw [h]; decide
  rw [ltC_iff] at h2
  omega
set_option maxHeartbeats 8000000 in
theorem walk (v0 : Value) (l : List Ck) (w : World) (hr : Rows w v0 ckC l) (hm : maxLen ≤ 140737488351232 ∨ l.length * 112 ≤ 140737488351232) (hok : ∀ c ∈ l, CkOk 140737488351232 c) :
    Calls Try.prog 5 #[v0] w fun e w' => e = .returned (.bool true) ∧ Below w.heap.size w w' := by
  have hm : l.length * 112 ≤ 140737488351232 := by
    rcases hm with h | h
    · unfold maxLen at h; omega
    · exact h
  have kS : Hid _ := sort_any v0 l w hr (by omega)
  clear hok
  obtain ⟨ad, cap, hv0⟩ := hr.shape
  subst hv0
  go_enter Try.func5, Try.ntmps5
  go_wp2_with fail
  refine Calls.mono kS.out ?_
  rintro e w1 ⟨v', s, rfl, hs, r1, hb1⟩
  have hsb : s.length ≤ 1256584717421 := by rw [hs.length]; omega
  obtain ⟨ad', cap', rfl⟩ := r1.shape
  have HS : Hid _ := hs
  have R1 : Hid _ := r1
  have HB1 : Hid _ := hb1
  clear hs r1 hb1
  go_wp2_with fail
  refine (lineBegun_any _).mono ?_
  rintro e w2 ⟨rfl, hb2⟩
  have R2 : Hid _ := Rows.below R1.out hb2 (Nat.le_refl _)
  have HB2 : Hid _ := next HB1.out hb2
  clear hb2
  go_wp2_with fail
  go_loopw [4, 5, 6] (fun i _ _ wr => ∃ k : Nat, 1 ≤ k ∧ k ≤ s.length + 1 ∧ i = .int .i64 k ∧ Hid (Below w2.heap.size w2 wr)) (fun i _ _ _ => s.length + 1 - (intOf i).toNat)
  case atStart => exact ⟨1, by omega, by omega, rfl, Below.refl _ _⟩
  case round =>
    obtain ⟨k, hk1, hk, rfl, hb⟩ := hrel
    by_cases hlt : k < s.length
    · have e1 := List.getElem?_eq_getElem hlt
      have e0 := List.getElem?_eq_getElem (show k - 1 < s.length by omega)
      obtain ⟨x, hx⟩ : ∃ x, x = s[k - 1]'(by omega) := ⟨_, rfl⟩
      obtain ⟨y, hy⟩ : ∃ y, y = s[k] := ⟨_, rfl⟩
      rw [← hx] at e0
      rw [← hy] at e1
      have HLT : Hid (ltC y x = false) := IsSort.le HS.out (k - 1) k x y (by omega) e0 e1
      obtain ⟨bl, ol, rfl, hbl, hcx⟩ := Rows.at R2.out rfl 12 (fun _ => rfl) (k - 1) x e0
      obtain ⟨bl', ol', hbe, hbl', hcy⟩ := Rows.at R2.out rfl 12 (fun _ => rfl) k y e1
      injection hbe with hbe
      injection hbe with e3 e4
      subst e3 e4
      have hX : ∀ (i : Nat) u, (ckC x)[i]? = some u → ∀ w', Below w2.heap.size w2 w' → w'.cell? ⟨bl, ol + (k - 1) * 13 + i, none⟩ = some u := fun i u hi w' hw' => (hw'.cell (p := ⟨bl, ol + (k - 1) * (12 + 1) + i, none⟩) hbl).trans (hcx i u hi)
      have hY : ∀ (i : Nat) u, (ckC y)[i]? = some u → ∀ w', Below w2.heap.size w2 w' → w'.cell? ⟨bl, ol + k * 13 + i, none⟩ = some u := fun i u hi w' hw' => (hw'.cell (p := ⟨bl, ol + k * (12 + 1) + i, none⟩) hbl).trans (hcy i u hi)
      obtain ⟨j, hj⟩ : ∃ j, j = k - 1 := ⟨_, rfl⟩
      rw [← hj] at hX
      clear hcx hcy hx hy e0 e1
      have p0 := hX 0 _ rfl
      have p1 := hX 1 _ rfl
      have p2 := hX 2 _ rfl
      have p3 := hX 3 _ rfl
      have p4 := hX 4 _ rfl
      have p5 := hX 5 _ rfl
      have p6 := hX 6 _ rfl
      have p7 := hX 7 _ rfl
      have p8 := hX 8 _ rfl
      have p9 := hX 9 _ rfl
      have p10 := hX 10 _ rfl
      have p11 := hX 11 _ rfl
      have p12 := hX 12 _ rfl
      rw [Nat.add_zero] at p0
      have y0 := hY 0 _ rfl
      have y1 := hY 1 _ rfl
      have y2 := hY 2 _ rfl
      have y3 := hY 3 _ rfl
      have y4 := hY 4 _ rfl
      have y5 := hY 5 _ rfl
      have y6 := hY 6 _ rfl
      have y7 := hY 7 _ rfl
      have y8 := hY 8 _ rfl
      have y9 := hY 9 _ rfl
      have y10 := hY 10 _ rfl
      have y11 := hY 11 _ rfl
      have y12 := hY 12 _ rfl
      rw [Nat.add_zero] at y0
      clear hX hY
      have q1 : ((k : Int) - 1) = (j : Int) := by omega
      have q2 : (0 : Int) ≤ (j : Int) := by omega
      have q3 : (j : Int) < (s.length : Int) := by omega
      have q4 : IntKind.i64.wrap (j : Int) = (j : Int) := IntWalk.i64_in _ (by omega)
      clear hj
      have hbw : Below w2.heap.size w2 wr := hb.out
      go_wp2_with fail
      go_region_held3 (fun w' => Below w2.heap.size w2 w') (first | assumption | (repeat (first | exact hbw | refine keep_drew ?_ | refine keep_alloc ?_ _))) (fail)
      all_goals
        clear p0 y0 p1 y1 p2 y2 p3 y3 p4 y4 p5 y5 p6 y6 p7 y7 p8 y8 p9 y9 p10 y10 p11 y11 p12 y12 q1 q2 q3 q4 hbw
        first
        |
        (obtain ⟨W3, hW3⟩ : ∃ W, W = ((wr.alloc (.cells #[.string (txt x.name), .string (txt x.value), .string (txt x.domain), .string (txt x.path), .bool x.hostOnly, .bool x.secure, .bool x.httpOnly, .bool x.lasting, .int .i64 x.site, .int .i64 x.expiry, .int .i64 x.created, .int .i64 x.used, .int .i64 x.no] 34)).alloc (.cells #[.string (txt y.name), .string (txt y.value), .string (txt y.domain), .string (txt y.path), .bool y.hostOnly, .bool y.secure, .bool y.httpOnly, .bool y.lasting, .int .i64 y.site, .int .i64 y.expiry, .int .i64 y.created, .int .i64 y.used, .int .i64 y.no] 34)).drew := ⟨_, rfl⟩
         rw [← hW3]
         obtain ⟨LX, LY, hb3⟩ := two_rows wr (ckC x) (ckC y) 34
         have HB3 : Hid (Below w2.heap.size w2 W3) := by rw [hW3]; exact hb.out.trans (hb3.mono hb.out.size)
         have a3 : W3.cell? ⟨wr.heap.size, 3, none⟩ = some (.string (txt x.path)) := by rw [hW3]; exact LX.cell 3 rfl
         have a10 : W3.cell? ⟨wr.heap.size, 10, none⟩ = some (.int .i64 x.created) := by rw [hW3]; exact LX.cell 10 rfl
         have a12 : W3.cell? ⟨wr.heap.size, 12, none⟩ = some (.int .i64 x.no) := by rw [hW3]; exact LX.cell 12 rfl
         have b3 : W3.cell? ⟨wr.heap.size + 1, 3, none⟩ = some (.string (txt y.path)) := by rw [hW3]; exact LY.cell 3 rfl
         have b10 : W3.cell? ⟨wr.heap.size + 1, 10, none⟩ = some (.int .i64 y.created) := by rw [hW3]; exact LY.cell 10 rfl
         have b12 : W3.cell? ⟨wr.heap.size + 1, 12, none⟩ = some (.int .i64 y.no) := by rw [hW3]; exact LY.cell 12 rfl
         clear hW3 LX LY hb3)
        |
        (obtain ⟨W3, hW3⟩ : ∃ W, W = ((wr.alloc (.cells #[.string (txt y.name), .string (txt y.value), .string (txt y.domain), .string (txt y.path), .bool y.hostOnly, .bool y.secure, .bool y.httpOnly, .bool y.lasting, .int .i64 y.site, .int .i64 y.expiry, .int .i64 y.created, .int .i64 y.used, .int .i64 y.no] 34)).alloc (.cells #[.string (txt x.name), .string (txt x.value), .string (txt x.domain), .string (txt x.path), .bool x.hostOnly, .bool x.secure, .bool x.httpOnly, .bool x.lasting, .int .i64 x.site, .int .i64 x.expiry, .int .i64 x.created, .int .i64 x.used, .int .i64 x.no] 34)).drew := ⟨_, rfl⟩
         rw [← hW3]
         obtain ⟨LY, LX, hb3⟩ := two_rows wr (ckC y) (ckC x) 34
         have HB3 : Hid (Below w2.heap.size w2 W3) := by rw [hW3]; exact hb.out.trans (hb3.mono hb.out.size)
         have a3 : W3.cell? ⟨wr.heap.size + 1, 3, none⟩ = some (.string (txt x.path)) := by rw [hW3]; exact LX.cell 3 rfl
         have a10 : W3.cell? ⟨wr.heap.size + 1, 10, none⟩ = some (.int .i64 x.created) := by rw [hW3]; exact LX.cell 10 rfl
         have a12 : W3.cell? ⟨wr.heap.size + 1, 12, none⟩ = some (.int .i64 x.no) := by rw [hW3]; exact LX.cell 12 rfl
         have b3 : W3.cell? ⟨wr.heap.size, 3, none⟩ = some (.string (txt y.path)) := by rw [hW3]; exact LY.cell 3 rfl
         have b10 : W3.cell? ⟨wr.heap.size, 10, none⟩ = some (.int .i64 y.created) := by rw [hW3]; exact LY.cell 10 rfl
         have b12 : W3.cell? ⟨wr.heap.size, 12, none⟩ = some (.int .i64 y.no) := by rw [hW3]; exact LY.cell 12 rfl
         clear hW3 LX LY hb3)
        | fail
      all_goals
        have hlp : ((txt x.path).size : Int) = (x.path.length : Int) := rfl
        have hlq : ((txt y.path).size : Int) = (y.path.length : Int) := rfl
        obtain ⟨xp, hxp⟩ : ∃ p : Nat, p = x.path.length := ⟨_, rfl⟩
        obtain ⟨yp, hyp⟩ : ∃ p : Nat, p = y.path.length := ⟨_, rfl⟩
        have hparts := lt_parts HLT.out
        rw [← hxp, ← hyp] at hparts
        rw [← hxp] at hlp
        rw [← hyp] at hlq
        clear hxp hyp
        rcases hparts with h1 | ⟨h1, h2 | ⟨h2, h3⟩⟩
      iterate 2
        · have g1 : ¬ (xp : Int) < (yp : Int) := by omega
          have g2 : ((xp : Int) == (yp : Int)) = false := by rw [beq_eq_false_iff_ne]; omega
          clear h1
          go_wp2_with fail
          go_roundw
          case rel => exact ⟨k + 1, by omega, by omega, by go_num, HB3⟩
          case measure => simp [intOf]; omega
        · have g1 : ¬ (xp : Int) < (yp : Int) := by omega
          have g2 : ((xp : Int) == (yp : Int)) = true := by rw [beq_iff_eq]; omega
          have g3 : ¬ y.created < x.created := by omega
          have g4 : (x.created == y.created) = false := by rw [beq_eq_false_iff_ne]; omega
          clear h1 h2
          go_wp2_with fail
          go_roundw
          case rel => exact ⟨k + 1, by omega, by omega, by go_num, HB3⟩
          case measure => simp [intOf]; omega
        · have g1 : ¬ (xp : Int) < (yp : Int) := by omega
          have g2 : ((xp : Int) == (yp : Int)) = true := by rw [beq_iff_eq]; omega
          have g3 : ¬ y.created < x.created := by omega
          have g4 : (x.created == y.created) = true := by rw [beq_iff_eq]; omega
          have g5 : ¬ y.no < x.no := by omega
          clear h1 h2 h3
          go_wp2_with fail
          go_roundw
          case rel => exact ⟨k + 1, by omega, by omega, by go_num, HB3⟩
          case measure => simp [intOf]; omega
    · have hlt' : ¬ (k : Int) < (s.length : Int) := by omega
      go_wp2_with fail
      go_ret
      exact ⟨rfl, next HB2.out hb.out⟩
set_option maxRecDepth 100000 in
theorem lifted (os : Os) (started : os.Started) (H : Type) (enc : TypeId × Value → H) :
    ReturnsInHanded {} Try.checked os 5 .any (Rows.sortStepsSpec.pre6 enc Try.prog Try.f5 Rows.sortStepsRow.domain false) (Rows.sortStepsSpec.post enc Try.prog Try.f5 false true false false) := by
  refine returnsInHanded_of_change_sized (C := Try.checked) own started (by kernel_rfl) Try.func5
    (ChangeSpec.witness6 (enc := enc) (C := Try.checked) false ⟨#[], #[.slice none 0 0], []⟩ 8 (by kernel_rfl) (by kernel_rfl) (by kernel_rfl) (by kernel_rfl)) ?_
  intro W base args ds gs before hval0 hW hcnd hsz0 _
  have hsz : (DataW.weightsEach Try.prog (Try.f5.params.toList ++ Rows.sortStepsSpec.plain.varTypes Try.prog) (ds ++ gs)).all (· ≤ reachBytes) = true := hsz0
  have hval : ∀ (j : Nat) t v, Try.f5.params[j]? = some t → args[j]? = some v → Value.okWide Try.prog W .any base t v := hval0
  have hW' := hW
  obtain ⟨p, q, hA0, hV, rfl, hfz, hnd⟩ := hW
  have hA : DataW.TrodAll enc Try.prog W 0 (fun _ => true) true Try.f5.params.toList args.toList ds p := hA0
  rw [Try.params5] at hA hval hsz
  obtain ⟨v0, vs0, d0, ds0, p0, q0, hargs, rfl, rfl, h0, r0⟩ := trodAll_cons hA
  obtain ⟨rfl, rfl, rfl⟩ := trodAll_nil r0
  obtain rfl : args = #[v0] := by cases args; simp_all
  obtain ⟨rfl, rfl⟩ := trodVars_none hV
  have k0 := h0
  have lt0 : ∀ x ∈ p0, x.block < W.heap.size := by obtain ⟨m, hm⟩ := k0; exact DataW.trod_lt m _ _ _ hm
  obtain ⟨l0, rd0, m0, ok0, bk0⟩ := open_cookies (hval 0 22 v0 rfl rfl) k0 140737488351232 (fits_each hsz (j := 0) (t := 22) rfl rfl)
  clear hA0 hval0
  refine (walk v0 l0 W rd0 m0 ok0).mono fun e W' ⟨he, bel⟩ => ?_
  subst he
  exact ⟨_, rfl, _, _, _, [], _, [], hW', trodAll_mk1 (shut_bool Try.underlying4 _), (trodAll_cons_mk (Below.trod laidOut (by kernel_rfl) (of_decide_eq_true (by kernel_rfl)) k0 bel lt0) trodAll_mk0), rfl, bel.frame _, fun h => by cases h⟩

theorem proved : Rows.SortStepsSaid :=
  OpenClaim.holds_of_wide 5 Try.f5 rfl rfl rfl rfl rfl rfl rfl ⟨rfl, rfl, rfl, rfl, rfl⟩ rfl rfl rfl rfl rfl (by kernel_rfl) Try.func5 (by kernel_rfl)
    (of_decide_eq_true (by kernel_rfl)) (by unfold Func.isWrapper; first | (rw [if_pos (by decide +kernel)]; kernel_rfl) | (rw [if_neg (by decide +kernel)]; exact ⟨rfl, rfl⟩))
    (fun os started H enc _ => lifted os started H enc)
#print axioms proved
end Go.Proofs.Ytoppjfambomdmaa.sortSteps
