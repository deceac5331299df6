/- SixtyJoins, for whatever texts: a text of whole threes with another one behind it is written as both. -/
import Derived.Test.YtgdcifllbfdbhaaSixtyE
import Derived.Test.YtgdcifllbfdbhaaOpen
namespace Go.Proofs.Ytgdcifllbfdbhaa.sixtyJoins
open Go.ChangeShapes Go.WideShapes Go.ChangeAt Go.RowKit Go.Lib
open Go.ChangeMaps (open_string shut_string)
set_option linter.all false
set_option maxRecDepth 100000

set_option maxHeartbeats 4000000 in
theorem walk (s t : ByteArray) (w : World) (hs : s.size ≤ 140737488351232) (ht : t.size ≤ 140737488351232) :
    Calls Try.prog 5 #[.string s, .string t] w fun e w' => e = .returned (.bool true) ∧ Below w.heap.size w w' := by
  obtain ⟨x, hx⟩ : ∃ x, x = s.data.toList := ⟨_, rfl⟩
  obtain ⟨y, hy⟩ : ∃ y, y = t.data.toList := ⟨_, rfl⟩
  have hsx : s = txt x := by rw [hx]; rfl
  have hty : t = txt y := by rw [hy]; rfl
  have hxl : x.length ≤ 140737488351232 := by rw [hx]; exact hs
  have hyl : y.length ≤ 140737488351232 := by rw [hy]; exact ht
  obtain ⟨n, hn⟩ : ∃ n, n = x.length := ⟨_, rfl⟩
  have hsz : s.size = n := by rw [hn, hx]; rfl
  obtain ⟨r, hr⟩ : ∃ r, r = n % 3 := ⟨_, rfl⟩
  have d2 : (n : Int).tmod 3 = (r : Int) := by rw [Int.tmod_eq_emod_of_nonneg (by omega)]; omega
  have d2' : (n : Int) % 3 = (r : Int) := by omega
  by_cases h3 : r = 0
  · obtain ⟨a, ha⟩ : ∃ a, a = txt (wT x) := ⟨_, rfl⟩
    obtain ⟨b, hb⟩ : ∃ b, b = txt (wT y) := ⟨_, rfl⟩
    obtain ⟨c, hc⟩ : ∃ c, c = txt (wT (x ++ y)) := ⟨_, rfl⟩
    obtain ⟨e0, he0⟩ : ∃ e, e = wE x := ⟨_, rfl⟩
    obtain ⟨f0, hf0⟩ : ∃ e, e = wE y := ⟨_, rfl⟩
    obtain ⟨g0, hg0⟩ : ∃ e, e = wE (x ++ y) := ⟨_, rfl⟩
    obtain ⟨st, hst⟩ : ∃ z, z = s ++ t := ⟨_, rfl⟩
    have hst' : s ++ t = st := hst.symm
    have k1 : Hid (∀ w', Calls Try.prog 10 #[.string s] w' fun e w'' => e = .returned (.tuple #[.string a, .int .i64 e0]) ∧ Below w'.heap.size w' w'') := fun w' => by
      rw [ha, he0, hsx]; exact sixtyW_any x w' (by unfold maxLen; omega)
    have k2 : Hid (∀ w', Calls Try.prog 10 #[.string t] w' fun e w'' => e = .returned (.tuple #[.string b, .int .i64 f0]) ∧ Below w'.heap.size w' w'') := fun w' => by
      rw [hb, hf0, hty]; exact sixtyW_any y w' (by unfold maxLen; omega)
    have k3 : Hid (∀ w', Calls Try.prog 10 #[.string st] w' fun e w'' => e = .returned (.tuple #[.string c, .int .i64 g0]) ∧ Below w'.heap.size w' w'') := fun w' => by
      rw [hc, hg0, hst, hsx, hty, txt_cat1]; exact sixtyW_any (x ++ y) w' (by rw [List.length_append]; unfold maxLen; omega)
    have hcs : s.size + t.size ≤ 9223372036854775807 := by omega
    have hcs2 : ¬ 9223372036854775807 < s.size + t.size := by omega
    have hcase : g0 = 2 ∨ (g0 = 0 ∧ e0 = 0 ∧ f0 = 0 ∧ a ++ b = c ∧ a.size + b.size ≤ 9223372036854775807) := by
      by_cases hl : 400 < (x ++ y).length
      · left; rw [hg0]; unfold wE; rw [if_pos hl]
      · right
        have hl2 := hl
        rw [List.length_append] at hl2
        have e1 : wT x = wL x := by unfold wT; rw [if_neg (by omega)]
        have e2 : wT y = wL y := by unfold wT; rw [if_neg (by omega)]
        have e3 : wT (x ++ y) = wL (x ++ y) := by unfold wT; rw [if_neg hl]
        refine ⟨by rw [hg0]; unfold wE; rw [if_neg hl], by rw [he0]; unfold wE; rw [if_neg (by omega)], by rw [hf0]; unfold wE; rw [if_neg (by omega)], ?_, ?_⟩
        · rw [ha, hb, hc, e1, e2, e3, txt_cat1, wL_append x y (by omega)]
        · rw [ha, hb, e1, e2, txt_size, txt_size, wL_length, wL_length]; unfold wM; omega
    subst h3
    clear hx hy hsx hty hxl hyl ha hb hc he0 hf0 hg0 hst hs ht hn hr
    rcases hcase with rfl | ⟨rfl, rfl, rfl, hab, hab2⟩
    · go_enter Try.func5, Try.ntmps5
      go_wp2_with fail
      refine (sixtyBegun_any _).mono ?_
      rintro e w0 ⟨rfl, hb0⟩
      have B0 : Hid _ := hb0
      clear hb0
      go_wp2_with fail
      refine (k1.out _).mono ?_
      rintro e w1 ⟨rfl, hb1⟩
      have B1 : Hid _ := next B0.out hb1
      clear hb1
      go_wp2_with fail
      refine (k2.out _).mono ?_
      rintro e w2 ⟨rfl, hb2⟩
      have B2 : Hid _ := next B1.out hb2
      clear hb2
      go_wp2_with fail
      refine (k3.out _).mono ?_
      rintro e w3 ⟨rfl, hb3⟩
      have B3 : Hid _ := next B2.out hb3
      clear hb3
      go_wp2_with fail
      go_ret
      exact ⟨rfl, B3.out⟩
    · have gc : (c.toList == c.toList) = true := beq_self_eq_true _
      have hab3 : ¬ 9223372036854775807 < a.size + b.size := by omega
      go_enter Try.func5, Try.ntmps5
      go_wp2_with fail
      refine (sixtyBegun_any _).mono ?_
      rintro e w0 ⟨rfl, hb0⟩
      have B0 : Hid _ := hb0
      clear hb0
      go_wp2_with fail
      refine (k1.out _).mono ?_
      rintro e w1 ⟨rfl, hb1⟩
      have B1 : Hid _ := next B0.out hb1
      clear hb1
      go_wp2_with fail
      refine (k2.out _).mono ?_
      rintro e w2 ⟨rfl, hb2⟩
      have B2 : Hid _ := next B1.out hb2
      clear hb2
      go_wp2_with fail
      refine (k3.out _).mono ?_
      rintro e w3 ⟨rfl, hb3⟩
      have B3 : Hid _ := next B2.out hb3
      clear hb3
      go_wp2_with fail
      go_ret
      exact ⟨rfl, B3.out⟩
  · have hne : ((r : Int) != 0) = true := by rw [bne_iff_ne]; omega
    clear hx hy hsx hty hxl hyl hs ht hn hr h3
    go_enter Try.func5, Try.ntmps5
    go_wp2_with fail
    refine (sixtyBegun_any _).mono ?_
    rintro e w0 ⟨rfl, hb0⟩
    have B0 : Hid _ := hb0
    clear hb0
    go_wp2_with fail
    go_ret
    exact ⟨rfl, B0.out⟩
set_option maxRecDepth 100000 in
theorem lifted (os : Os) (started : os.Started) (H : Type) (enc : TypeId × Value → H) :
    ReturnsInHanded {} Try.checked os 5 .any (Rows.sixtyJoinsSpec.pre6 enc Try.prog Try.f5 Rows.sixtyJoinsRow.domain false) (Rows.sixtyJoinsSpec.post enc Try.prog Try.f5 false true false false) := by
  refine returnsInHanded_of_change_sized (C := Try.checked) own started (by kernel_rfl) Try.func5
    (ChangeSpec.witness6 (enc := enc) (C := Try.checked) false ⟨#[], #[.string ByteArray.empty, .string ByteArray.empty], []⟩ 8 (by kernel_rfl) (by kernel_rfl) (by kernel_rfl) (by kernel_rfl)) ?_
  intro W base args ds gs before hval0 hW hcnd hsz0 _
  have hsz : (DataW.weightsEach Try.prog (Try.f5.params.toList ++ Rows.sixtyJoinsSpec.plain.varTypes Try.prog) (ds ++ gs)).all (· ≤ reachBytes) = true := hsz0
  have hval : ∀ (j : Nat) t v, Try.f5.params[j]? = some t → args[j]? = some v → Value.okWide Try.prog W .any base t v := hval0
  have hW' := hW
  obtain ⟨p, q, hA0, hV, rfl, hfz, hnd⟩ := hW
  have hA : DataW.TrodAll enc Try.prog W 0 (fun _ => true) true Try.f5.params.toList args.toList ds p := hA0
  rw [Try.params5] at hA hval hsz
  obtain ⟨v0, vs0, d0, ds0, p0, q0, hargs, rfl, rfl, h0, r0⟩ := trodAll_cons hA
  obtain ⟨v1, vs1, d1, ds1, p1, q1, rfl, rfl, rfl, h1, r1⟩ := trodAll_cons r0
  obtain ⟨rfl, rfl, rfl⟩ := trodAll_nil r1
  obtain rfl : args = #[v0, v1] := by cases args; simp_all
  obtain ⟨rfl, rfl⟩ := trodVars_none hV
  have k0 := h0
  have lt0 : ∀ x ∈ p0, x.block < W.heap.size := by obtain ⟨m, hm⟩ := k0; exact DataW.trod_lt m _ _ _ hm
  have k1 := h1
  have lt1 : ∀ x ∈ p1, x.block < W.heap.size := by obtain ⟨m, hm⟩ := k1; exact DataW.trod_lt m _ _ _ hm
  obtain ⟨a0, rfl, rfl, hp0, w0⟩ := open_string Try.underlying9 (hval 0 9 v0 rfl rfl) h0
  have z0 : a0.size ≤ 140737488351232 := sized_string hsz (j := 0) (t := 9) rfl rfl
  obtain ⟨a1, rfl, rfl, hp1, w1⟩ := open_string Try.underlying9 (hval 1 9 v1 rfl rfl) h1
  have z1 : a1.size ≤ 140737488351232 := sized_string hsz (j := 1) (t := 9) rfl rfl
  clear hA0 hval0
  refine (walk a0 a1 W z0 z1).mono fun e W' ⟨he, bel⟩ => ?_
  subst he
  exact ⟨_, rfl, _, _, _, [], _, [], hW', trodAll_mk1 (shut_bool Try.underlying4 _), (trodAll_cons_mk (Below.trod laidOut (by kernel_rfl) (of_decide_eq_true (by kernel_rfl)) k0 bel lt0) (trodAll_cons_mk (Below.trod laidOut (by kernel_rfl) (of_decide_eq_true (by kernel_rfl)) k1 bel lt1) trodAll_mk0)), rfl, bel.frame _, fun h => by cases h⟩

theorem proved : Rows.SixtyJoinsSaid :=
  OpenClaim.holds_of_wide 5 Try.f5 rfl rfl rfl rfl rfl rfl rfl ⟨rfl, rfl, rfl, rfl, rfl⟩ rfl rfl rfl rfl rfl (by kernel_rfl) Try.func5 (by kernel_rfl)
    (of_decide_eq_true (by kernel_rfl)) (by unfold Func.isWrapper; first | (rw [if_pos (by decide +kernel)]; kernel_rfl) | (rw [if_neg (by decide +kernel)]; exact ⟨rfl, rfl⟩))
    (fun os started H enc _ => lifted os started H enc)
#print axioms proved
end Go.Proofs.Ytgdcifllbfdbhaa.sixtyJoins
