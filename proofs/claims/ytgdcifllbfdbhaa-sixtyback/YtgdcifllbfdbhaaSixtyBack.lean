/- SixtyBack, for whatever texts: what is written as letters is read as it was, in as many letters as its bits take; what is read is written as it stood, and where it is not read nothing is told. -/
import Derived.Test.YtgdcifllbfdbhaaSixtyE
import Derived.Test.YtgdcifllbfdbhaaOpen
namespace Go.Proofs.Ytgdcifllbfdbhaa.sixtyBack
open Go.ChangeShapes Go.WideShapes Go.ChangeAt Go.RowKit Go.Lib
open Go.ChangeMaps (open_string shut_string)
set_option linter.all false
set_option maxRecDepth 100000

set_option maxHeartbeats 4000000 in
theorem walk (s t : ByteArray) (w : World) (hs : s.size ≤ 140737488351232) (ht : t.size ≤ 140737488351232) :
    Calls Try.prog 4 #[.string s, .string t] w fun e w' => e = .returned (.bool true) ∧ Below w.heap.size w w' := by
  obtain ⟨x, hx⟩ : ∃ x, x = s.data.toList := ⟨_, rfl⟩
  obtain ⟨y, hy⟩ : ∃ y, y = t.data.toList := ⟨_, rfl⟩
  have hsx : s = txt x := by rw [hx]; rfl
  have hty : t = txt y := by rw [hy]; rfl
  have hxl : x.length ≤ 140737488351232 := by rw [hx]; exact hs
  have hyl : y.length ≤ 140737488351232 := by rw [hy]; exact ht
  obtain ⟨a, ha⟩ : ∃ a, a = txt (wT x) := ⟨_, rfl⟩
  obtain ⟨e0, he0⟩ : ∃ e, e = wE x := ⟨_, rfl⟩
  obtain ⟨b, hb⟩ : ∃ b, b = txt (uT y) := ⟨_, rfl⟩
  obtain ⟨f0, hf0⟩ : ∃ f, f = uE y := ⟨_, rfl⟩
  have k1 : Hid (∀ w', Calls Try.prog 10 #[.string s] w' fun e w'' => e = .returned (.tuple #[.string a, .int .i64 e0]) ∧ Below w'.heap.size w' w'') := fun w' => by
    rw [ha, he0, hsx]; exact sixtyW_any x w' (by unfold maxLen; omega)
  have k2 : Hid (∀ w', Calls Try.prog 11 #[.string t] w' fun e w'' => e = .returned (.tuple #[.string b, .int .i64 f0]) ∧ Below w'.heap.size w' w'') := fun w' => by
    rw [hb, hf0, hty]; exact sixtyR_any y w' hyl
  have gs : (s.toList == s.toList) = true := beq_self_eq_true _
  have gt : (t.toList == t.toList) = true := beq_self_eq_true _
  have gbad : Hid (f0 ≠ 0 → (b.toList == []) = true) := fun h => by
    rw [hb, show uT y = [] by unfold uT; rw [if_neg (by rw [← hf0]; exact h)], Lib.toList_data]; rfl
  have k4 : Hid (f0 = 0 → ∀ w', Calls Try.prog 10 #[.string b] w' fun e w'' => e = .returned (.tuple #[.string t, .int .i64 0]) ∧ Below w'.heap.size w' w'') := fun h w' => by
    obtain ⟨q1, q2⟩ := wT_uT y (by rw [← hf0]; exact h)
    have := sixtyW_any (uT y) w' (by
      have h3 := (uE_ok y (by rw [← hf0]; exact h)).2.2.1
      rw [show uT y = uL y by unfold uT; rw [if_pos (by rw [← hf0]; exact h)], uL_length]; unfold maxLen; omega)
    rw [q1, q2, ← hb, ← hty] at this; exact this
  have hcase : (400 < x.length ∧ e0 = 2) ∨ (x.length ≤ 400 ∧ e0 = 0) := by
    rw [he0]; unfold wE; split
    · left; exact ⟨by omega, rfl⟩
    · right; exact ⟨by omega, rfl⟩
  have k3 : Hid (x.length ≤ 400 → ∀ w', Calls Try.prog 11 #[.string a] w' fun e w'' => e = .returned (.tuple #[.string s, .int .i64 0]) ∧ Below w'.heap.size w' w'') := fun h w' => by
    have e1 : wT x = wL x := by unfold wT; rw [if_neg (by omega)]
    have := sixtyR_any (wL x) w' (by rw [wL_length]; unfold wM; omega)
    rw [uT_wL x h, uE_wL x h, ← hsx, ← e1, ← ha] at this; exact this
  obtain ⟨n, hn⟩ : ∃ n, n = x.length := ⟨_, rfl⟩
  obtain ⟨m, hm⟩ : ∃ m, m = wM n := ⟨_, rfl⟩
  have hsz : s.size = n := by rw [hn, hx]; rfl
  have hasz : n ≤ 400 → a.size = m := fun h => by rw [ha, txt_size, show wT x = wL x by unfold wT; rw [if_neg (by omega)], wL_length, hm, hn]
  have hm6 : 8 * n ≤ 6 * m ∧ 6 * m ≤ 8 * n + 5 := by rw [hm]; unfold wM; omega
  rw [← hn] at hcase k3
  clear hx hy hsx hty hxl hyl ha he0 hb hf0 hs ht hn hm
  rcases hcase with ⟨hc, rfl⟩ | ⟨hc, rfl⟩
  · clear k3 hasz hm6 hsz
    by_cases hf : f0 = 0
    · have K4 : Hid _ := k4.out hf
      subst hf
      clear k4 gbad
      go_enter Try.func4, Try.ntmps4
      go_wp2_with fail
      refine (k1.out _).mono ?_
      rintro e w1 ⟨rfl, hb1⟩
      have B1 : Hid _ := hb1
      clear hb1
      go_wp2_with fail
      refine (k2.out _).mono ?_
      rintro e w2 ⟨rfl, hb2⟩
      have B2 : Hid _ := next B1.out hb2
      clear hb2
      go_wp2_with fail
      refine (sixtyBegun_any _).mono ?_
      rintro e w3 ⟨rfl, hb3⟩
      have B3 : Hid _ := next B2.out hb3
      clear hb3
      go_wp2_with fail
      refine (K4.out _).mono ?_
      rintro e w4 ⟨rfl, hb4⟩
      have B4 : Hid _ := next B3.out hb4
      clear hb4
      go_wp2_with fail
      go_ret
      exact ⟨rfl, B4.out⟩
    · have hne : (f0 != 0) = true := by rw [bne_iff_ne]; exact hf
      have gb := gbad.out hf
      clear k4 gbad hf
      go_enter Try.func4, Try.ntmps4
      go_wp2_with fail
      refine (k1.out _).mono ?_
      rintro e w1 ⟨rfl, hb1⟩
      have B1 : Hid _ := hb1
      clear hb1
      go_wp2_with fail
      refine (k2.out _).mono ?_
      rintro e w2 ⟨rfl, hb2⟩
      have B2 : Hid _ := next B1.out hb2
      clear hb2
      go_wp2_with fail
      refine (sixtyBegun_any _).mono ?_
      rintro e w3 ⟨rfl, hb3⟩
      have B3 : Hid _ := next B2.out hb3
      clear hb3
      go_wp2_with fail
      go_ret
      exact ⟨rfl, B3.out⟩
  · have hasz := hasz hc
    have K3 : Hid _ := k3.out hc
    have d1 : IntKind.i64.wrap (6 * (m : Int)) = 6 * (m : Int) := IntWalk.i64_in _ (by omega)
    have d2 : IntKind.i64.wrap (8 * (n : Int)) = 8 * (n : Int) := IntWalk.i64_in _ (by omega)
    have d3 : IntKind.i64.wrap (8 * (n : Int) + 5) = 8 * (n : Int) + 5 := IntWalk.i64_in _ (by omega)
    have d4 : ¬ 6 * (m : Int) < 8 * (n : Int) := by omega
    have d5 : ¬ 8 * (n : Int) + 5 < 6 * (m : Int) := by omega
    clear k3 hm6 hc
    by_cases hf : f0 = 0
    · have K4 : Hid _ := k4.out hf
      subst hf
      clear k4 gbad
      go_enter Try.func4, Try.ntmps4
      go_wp2_with fail
      refine (k1.out _).mono ?_
      rintro e w1 ⟨rfl, hb1⟩
      have B1 : Hid _ := hb1
      clear hb1
      go_wp2_with fail
      refine (k2.out _).mono ?_
      rintro e w2 ⟨rfl, hb2⟩
      have B2 : Hid _ := next B1.out hb2
      clear hb2
      go_wp2_with fail
      refine (sixtyBegun_any _).mono ?_
      rintro e w3 ⟨rfl, hb3⟩
      have B3 : Hid _ := next B2.out hb3
      clear hb3
      go_wp2_with fail
      refine (K3.out _).mono ?_
      rintro e w4 ⟨rfl, hb4⟩
      have B4 : Hid _ := next B3.out hb4
      clear hb4
      go_wp2_with fail
      refine (K4.out _).mono ?_
      rintro e w5 ⟨rfl, hb5⟩
      have B5 : Hid _ := next B4.out hb5
      clear hb5
      go_wp2_with fail
      go_ret
      exact ⟨rfl, B5.out⟩
    · have hne : (f0 != 0) = true := by rw [bne_iff_ne]; exact hf
      have gb := gbad.out hf
      clear k4 gbad hf
      go_enter Try.func4, Try.ntmps4
      go_wp2_with fail
      refine (k1.out _).mono ?_
      rintro e w1 ⟨rfl, hb1⟩
      have B1 : Hid _ := hb1
      clear hb1
      go_wp2_with fail
      refine (k2.out _).mono ?_
      rintro e w2 ⟨rfl, hb2⟩
      have B2 : Hid _ := next B1.out hb2
      clear hb2
      go_wp2_with fail
      refine (sixtyBegun_any _).mono ?_
      rintro e w3 ⟨rfl, hb3⟩
      have B3 : Hid _ := next B2.out hb3
      clear hb3
      go_wp2_with fail
      refine (K3.out _).mono ?_
      rintro e w4 ⟨rfl, hb4⟩
      have B4 : Hid _ := next B3.out hb4
      clear hb4
      go_wp2_with fail
      go_ret
      exact ⟨rfl, B4.out⟩
set_option maxRecDepth 100000 in
theorem lifted (os : Os) (started : os.Started) (H : Type) (enc : TypeId × Value → H) :
    ReturnsInHanded {} Try.checked os 4 .any (Rows.sixtyBackSpec.pre6 enc Try.prog Try.f4 Rows.sixtyBackRow.domain false) (Rows.sixtyBackSpec.post enc Try.prog Try.f4 false true false false) := by
  refine returnsInHanded_of_change_sized (C := Try.checked) own started (by kernel_rfl) Try.func4
    (ChangeSpec.witness6 (enc := enc) (C := Try.checked) false ⟨#[], #[.string ByteArray.empty, .string ByteArray.empty], []⟩ 8 (by kernel_rfl) (by kernel_rfl) (by kernel_rfl) (by kernel_rfl)) ?_
  intro W base args ds gs before hval0 hW hcnd hsz0 _
  have hsz : (DataW.weightsEach Try.prog (Try.f4.params.toList ++ Rows.sixtyBackSpec.plain.varTypes Try.prog) (ds ++ gs)).all (· ≤ reachBytes) = true := hsz0
  have hval : ∀ (j : Nat) t v, Try.f4.params[j]? = some t → args[j]? = some v → Value.okWide Try.prog W .any base t v := hval0
  have hW' := hW
  obtain ⟨p, q, hA0, hV, rfl, hfz, hnd⟩ := hW
  have hA : DataW.TrodAll enc Try.prog W 0 (fun _ => true) true Try.f4.params.toList args.toList ds p := hA0
  rw [Try.params4] at hA hval hsz
  obtain ⟨v0, vs0, d0, ds0, p0, q0, hargs, rfl, rfl, h0, r0⟩ := trodAll_cons hA
  obtain ⟨v1, vs1, d1, ds1, p1, q1, rfl, rfl, rfl, h1, r1⟩ := trodAll_cons r0
  obtain ⟨rfl, rfl, rfl⟩ := trodAll_nil r1
  obtain rfl : args = #[v0, v1] := by cases args; simp_all
  obtain ⟨rfl, rfl⟩ := trodVars_none hV
  have k0 := h0
  have lt0 : ∀ x ∈ p0, x.block < W.heap.size := by obtain ⟨m, hm⟩ := k0; exact DataW.trod_lt m _ _ _ hm
  have k1 := h1
  have lt1 : ∀ x ∈ p1, x.block < W.heap.size := by obtain ⟨m, hm⟩ := k1; exact DataW.trod_lt m _ _ _ hm
  obtain ⟨a0, rfl, rfl, hp0, w0⟩ := open_string Try.underlying9 (hval 0 9 v0 rfl rfl) h0
  have z0 : a0.size ≤ 140737488351232 := sized_string hsz (j := 0) (t := 9) rfl rfl
  obtain ⟨a1, rfl, rfl, hp1, w1⟩ := open_string Try.underlying9 (hval 1 9 v1 rfl rfl) h1
  have z1 : a1.size ≤ 140737488351232 := sized_string hsz (j := 1) (t := 9) rfl rfl
  clear hA0 hval0
  refine (walk a0 a1 W z0 z1).mono fun e W' ⟨he, bel⟩ => ?_
  subst he
  exact ⟨_, rfl, _, _, _, [], _, [], hW', trodAll_mk1 (shut_bool Try.underlying4 _), (trodAll_cons_mk (Below.trod laidOut (by kernel_rfl) (of_decide_eq_true (by kernel_rfl)) k0 bel lt0) (trodAll_cons_mk (Below.trod laidOut (by kernel_rfl) (of_decide_eq_true (by kernel_rfl)) k1 bel lt1) trodAll_mk0)), rfl, bel.frame _, fun h => by cases h⟩

theorem proved : Rows.SixtyBackSaid :=
  OpenClaim.holds_of_wide 4 Try.f4 rfl rfl rfl rfl rfl rfl rfl ⟨rfl, rfl, rfl, rfl, rfl⟩ rfl rfl rfl rfl rfl (by kernel_rfl) Try.func4 (by kernel_rfl)
    (of_decide_eq_true (by kernel_rfl)) (by unfold Func.isWrapper; first | (rw [if_pos (by decide +kernel)]; kernel_rfl) | (rw [if_neg (by decide +kernel)]; exact ⟨rfl, rfl⟩))
    (fun os started H enc _ => lifted os started H enc)
#print axioms proved
end Go.Proofs.Ytgdcifllbfdbhaa.sixtyBack
