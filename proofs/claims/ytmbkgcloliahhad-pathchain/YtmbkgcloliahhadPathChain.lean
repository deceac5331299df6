/- PathChain: for every three texts, of two that a path matches one matches the other; each that begins by a byte 47 matches its own default, and that its own; the texts read as they did. No condition. -/
import Derived.Test.YtmbkgcloliahhadPathB
import Derived.Test.YtmbkgcloliahhadOpen
namespace Go.Proofs.Ytmbkgcloliahhad.pathChain
open Go.ChangeShapes Go.WideShapes Go.ChangeAt Go.RowKit
open Go.ChangeMaps (open_string shut_string)
set_option linter.all false

set_option maxHeartbeats 2000000 in
theorem walk (p a b : ByteArray) (w : World) (hp : p.size ≤ 140737488351232) (ha : a.size ≤ 140737488351232) (hb : b.size ≤ 140737488351232) :
    Calls Try.prog 6 #[.string p, .string a, .string b] w fun e w' => e = .returned (.bool true) ∧ Below w.heap.size w w' := by
  have HP : Hid (p.size ≤ maxLen) := by unfold maxLen; show _ ≤ _; omega
  have HA : Hid (a.size ≤ maxLen) := by unfold maxLen; show _ ≤ _; omega
  have HB : Hid (b.size ≤ maxLen) := by unfold maxLen; show _ ≤ _; omega
  clear hp ha hb
  obtain ⟨x, hx⟩ : ∃ x, pmatchL p.data.toList a.data.toList = x := ⟨_, rfl⟩
  obtain ⟨y, hy⟩ : ∃ y, pmatchL p.data.toList b.data.toList = y := ⟨_, rfl⟩
  obtain ⟨z, hz⟩ : ∃ z, pmatchL a.data.toList b.data.toList = z := ⟨_, rfl⟩
  obtain ⟨v, hv⟩ : ∃ v, pmatchL b.data.toList a.data.toList = v := ⟨_, rfl⟩
  have XX : Hid _ := hx
  have YY : Hid _ := hy
  have ZZ : Hid _ := hz
  have VV : Hid _ := hv
  have HT : Hid (x = true → y = true → z = false → v = true) := fun h1 h2 h3 => by
    subst h1 h2 h3
    cases v
    · exact (pmatch_chain _ _ _ hx hy hz hv).elim
    · rfl
  clear hx hy hz hv
  by_cases h0 : 0 < p.size
  · have h0b : ((p.size : Int) == 0) = false := by rw [beq_eq_false_iff_ne]; omega
    by_cases h1 : ((p[0]'h0).toNat : Int) = 47
    · have h1b : (((p[0]'h0).toNat : Int) != 47) = false := by rw [h1]; rfl
      have hh := (head_47 p h0).2 h1
      have H1 : Hid (pmatchL p.data.toList (defaultL p.data.toList) = true) := default_match _ hh
      have H2 : Hid (pmatchL (defaultL p.data.toList) (defaultL (defaultL p.data.toList)) = true) := default_match _ (default_head _)
      have hl0 : (defaultL p.data.toList).length ≤ p.data.toList.length := default_len _ hh
      have hl : (txt (defaultL p.data.toList)).size ≤ p.size := hl0
      have HD : Hid ((txt (defaultL p.data.toList)).size ≤ maxLen) := Nat.le_trans hl HP.out
      have HE : Hid ((txt (defaultL (defaultL p.data.toList))).size ≤ maxLen) := Nat.le_trans (default_len _ (default_head _)) HD.out
      have HF : Hid ((.returned (.bool (decide (((txt (defaultL p.data.toList)).size : Int) ≤ (p.size : Int)))) : Ending) = .returned (.bool true)) := by show _ = _; rw [decide_eq_true (by omega)]
      clear h1 hh hl0
      go_enter Try.func6, Try.ntmps6
      go_wp2_with fail
      refine (pathBegun_any _).mono ?_
      rintro e w1 ⟨rfl, rfl⟩
      go_wp2_with fail
      refine (pmatch_any _ _ _ HP.out HA.out).mono ?_
      rw [XX.out]
      rintro e w1 ⟨rfl, rfl⟩
      cases x
      · go_wp2_with fail
        refine (default_any _ _ HP.out).mono ?_
        rintro e w1 ⟨rfl, rfl⟩
        go_wp2_with fail
        refine (pmatch_any _ _ _ HP.out HD.out).mono ?_
        rw [txt_toList, H1.out]
        rintro e w1 ⟨rfl, rfl⟩
        go_wp2_with fail
        refine (default_any _ _ HD.out).mono ?_
        rw [txt_toList]
        rintro e w1 ⟨rfl, rfl⟩
        go_wp2_with fail
        refine (pmatch_any _ _ _ HD.out HE.out).mono ?_
        rw [txt_toList, txt_toList, H2.out]
        rintro e w1 ⟨rfl, rfl⟩
        go_wp2_with fail
        go_ret
        exact ⟨by first | rfl | exact HF.out | simp [hl], Below.refl _ _⟩
      · go_wp2_with fail
        refine (pmatch_any _ _ _ HP.out HB.out).mono ?_
        rw [YY.out]
        rintro e w1 ⟨rfl, rfl⟩
        cases y
        · go_wp2_with fail
          refine (default_any _ _ HP.out).mono ?_
          rintro e w1 ⟨rfl, rfl⟩
          go_wp2_with fail
          refine (pmatch_any _ _ _ HP.out HD.out).mono ?_
          rw [txt_toList, H1.out]
          rintro e w1 ⟨rfl, rfl⟩
          go_wp2_with fail
          refine (default_any _ _ HD.out).mono ?_
          rw [txt_toList]
          rintro e w1 ⟨rfl, rfl⟩
          go_wp2_with fail
          refine (pmatch_any _ _ _ HD.out HE.out).mono ?_
          rw [txt_toList, txt_toList, H2.out]
          rintro e w1 ⟨rfl, rfl⟩
          go_wp2_with fail
          go_ret
          exact ⟨by first | rfl | exact HF.out | simp [hl], Below.refl _ _⟩
        · go_wp2_with fail
          refine (pmatch_any _ _ _ HA.out HB.out).mono ?_
          rw [ZZ.out]
          rintro e w1 ⟨rfl, rfl⟩
          cases z
          · have hv := HT.out (by trivial) (by trivial) (by trivial)
            subst hv
            go_wp2_with fail
            refine (pmatch_any _ _ _ HB.out HA.out).mono ?_
            rw [VV.out]
            rintro e w1 ⟨rfl, rfl⟩
            go_wp2_with fail
            refine (default_any _ _ HP.out).mono ?_
            rintro e w1 ⟨rfl, rfl⟩
            go_wp2_with fail
            refine (pmatch_any _ _ _ HP.out HD.out).mono ?_
            rw [txt_toList, H1.out]
            rintro e w1 ⟨rfl, rfl⟩
            go_wp2_with fail
            refine (default_any _ _ HD.out).mono ?_
            rw [txt_toList]
            rintro e w1 ⟨rfl, rfl⟩
            go_wp2_with fail
            refine (pmatch_any _ _ _ HD.out HE.out).mono ?_
            rw [txt_toList, txt_toList, H2.out]
            rintro e w1 ⟨rfl, rfl⟩
            go_wp2_with fail
            go_ret
            exact ⟨by first | rfl | exact HF.out | simp [hl], Below.refl _ _⟩
          · go_wp2_with fail
            refine (default_any _ _ HP.out).mono ?_
            rintro e w1 ⟨rfl, rfl⟩
            go_wp2_with fail
            refine (pmatch_any _ _ _ HP.out HD.out).mono ?_
            rw [txt_toList, H1.out]
            rintro e w1 ⟨rfl, rfl⟩
            go_wp2_with fail
            refine (default_any _ _ HD.out).mono ?_
            rw [txt_toList]
            rintro e w1 ⟨rfl, rfl⟩
            go_wp2_with fail
            refine (pmatch_any _ _ _ HD.out HE.out).mono ?_
            rw [txt_toList, txt_toList, H2.out]
            rintro e w1 ⟨rfl, rfl⟩
            go_wp2_with fail
            go_ret
            exact ⟨by first | rfl | exact HF.out | simp [hl], Below.refl _ _⟩
    · have h1b : (((p[0]'h0).toNat : Int) != 47) = true := by rw [bne_iff_ne]; exact h1
      clear h1
      go_enter Try.func6, Try.ntmps6
      go_wp2_with fail
      refine (pathBegun_any _).mono ?_
      rintro e w1 ⟨rfl, rfl⟩
      go_wp2_with fail
      refine (pmatch_any _ _ _ HP.out HA.out).mono ?_
      rw [XX.out]
      rintro e w1 ⟨rfl, rfl⟩
      cases x
      · go_wp2_with fail
        refine (default_any _ _ HP.out).mono ?_
        rintro e w1 ⟨rfl, rfl⟩
        go_wp2_with fail
        go_ret
        exact ⟨rfl, Below.refl _ _⟩
      · go_wp2_with fail
        refine (pmatch_any _ _ _ HP.out HB.out).mono ?_
        rw [YY.out]
        rintro e w1 ⟨rfl, rfl⟩
        cases y
        · go_wp2_with fail
          refine (default_any _ _ HP.out).mono ?_
          rintro e w1 ⟨rfl, rfl⟩
          go_wp2_with fail
          go_ret
          exact ⟨rfl, Below.refl _ _⟩
        · go_wp2_with fail
          refine (pmatch_any _ _ _ HA.out HB.out).mono ?_
          rw [ZZ.out]
          rintro e w1 ⟨rfl, rfl⟩
          cases z
          · have hv := HT.out (by trivial) (by trivial) (by trivial)
            subst hv
            go_wp2_with fail
            refine (pmatch_any _ _ _ HB.out HA.out).mono ?_
            rw [VV.out]
            rintro e w1 ⟨rfl, rfl⟩
            go_wp2_with fail
            refine (default_any _ _ HP.out).mono ?_
            rintro e w1 ⟨rfl, rfl⟩
            go_wp2_with fail
            go_ret
            exact ⟨rfl, Below.refl _ _⟩
          · go_wp2_with fail
            refine (default_any _ _ HP.out).mono ?_
            rintro e w1 ⟨rfl, rfl⟩
            go_wp2_with fail
            go_ret
            exact ⟨rfl, Below.refl _ _⟩
  · obtain rfl := nil_of p (by omega)
    clear h0
    go_enter Try.func6, Try.ntmps6
    go_wp2_with fail
    refine (pathBegun_any _).mono ?_
    rintro e w1 ⟨rfl, rfl⟩
    go_wp2_with fail
    refine (pmatch_any _ _ _ HP.out HA.out).mono ?_
    rw [XX.out]
    rintro e w1 ⟨rfl, rfl⟩
    cases x
    · go_wp2_with fail
      refine (default_any _ _ HP.out).mono ?_
      rintro e w1 ⟨rfl, rfl⟩
      go_wp2_with fail
      go_ret
      exact ⟨rfl, Below.refl _ _⟩
    · go_wp2_with fail
      refine (pmatch_any _ _ _ HP.out HB.out).mono ?_
      rw [YY.out]
      rintro e w1 ⟨rfl, rfl⟩
      cases y
      · go_wp2_with fail
        refine (default_any _ _ HP.out).mono ?_
        rintro e w1 ⟨rfl, rfl⟩
        go_wp2_with fail
        go_ret
        exact ⟨rfl, Below.refl _ _⟩
      · go_wp2_with fail
        refine (pmatch_any _ _ _ HA.out HB.out).mono ?_
        rw [ZZ.out]
        rintro e w1 ⟨rfl, rfl⟩
        cases z
        · have hv := HT.out (by trivial) (by trivial) (by trivial)
          subst hv
          go_wp2_with fail
          refine (pmatch_any _ _ _ HB.out HA.out).mono ?_
          rw [VV.out]
          rintro e w1 ⟨rfl, rfl⟩
          go_wp2_with fail
          refine (default_any _ _ HP.out).mono ?_
          rintro e w1 ⟨rfl, rfl⟩
          go_wp2_with fail
          go_ret
          exact ⟨rfl, Below.refl _ _⟩
        · go_wp2_with fail
          refine (default_any _ _ HP.out).mono ?_
          rintro e w1 ⟨rfl, rfl⟩
          go_wp2_with fail
          go_ret
          exact ⟨rfl, Below.refl _ _⟩

set_option maxRecDepth 100000 in
theorem lifted (os : Os) (started : os.Started) (H : Type) (enc : TypeId × Value → H) :
    ReturnsInHanded {} Try.checked os 6 .any (Rows.pathChainSpec.pre6 enc Try.prog Try.f6 Rows.pathChainRow.domain false) (Rows.pathChainSpec.post enc Try.prog Try.f6 false true false false) := by
  refine returnsInHanded_of_change_sized (C := Try.checked) own started (by kernel_rfl) Try.func6
    (ChangeSpec.witness6 (enc := enc) (C := Try.checked) false ⟨#[], #[.string ByteArray.empty, .string ByteArray.empty, .string ByteArray.empty], []⟩ 8 (by kernel_rfl) (by kernel_rfl) (by kernel_rfl) (by kernel_rfl)) ?_
  intro W base args ds gs before hval0 hW hcnd hsz0 _
  have hsz : (DataW.weightsEach Try.prog (Try.f6.params.toList ++ Rows.pathChainSpec.plain.varTypes Try.prog) (ds ++ gs)).all (· ≤ reachBytes) = true := hsz0
  have hval : ∀ (j : Nat) t v, Try.f6.params[j]? = some t → args[j]? = some v → Value.okWide Try.prog W .any base t v := hval0
  have hW' := hW
  obtain ⟨p, q, hA0, hV, rfl, hfz, hnd⟩ := hW
  have hA : DataW.TrodAll enc Try.prog W 0 (fun _ => true) true Try.f6.params.toList args.toList ds p := hA0
  rw [Try.params6] at hA hval hsz
  obtain ⟨v0, vs0, d0, ds0, p0, q0, hargs, rfl, rfl, h0, r0⟩ := trodAll_cons hA
  obtain ⟨v1, vs1, d1, ds1, p1, q1, rfl, rfl, rfl, h1, r1⟩ := trodAll_cons r0
  obtain ⟨v2, vs2, d2, ds2, p2, q2, rfl, rfl, rfl, h2, r2⟩ := trodAll_cons r1
  obtain ⟨rfl, rfl, rfl⟩ := trodAll_nil r2
  obtain rfl : args = #[v0, v1, v2] := by cases args; simp_all
  obtain ⟨rfl, rfl⟩ := trodVars_none hV
  have k0 := h0
  have lt0 : ∀ x ∈ p0, x.block < W.heap.size := by obtain ⟨m, hm⟩ := k0; exact DataW.trod_lt m _ _ _ hm
  have k1 := h1
  have lt1 : ∀ x ∈ p1, x.block < W.heap.size := by obtain ⟨m, hm⟩ := k1; exact DataW.trod_lt m _ _ _ hm
  have k2 := h2
  have lt2 : ∀ x ∈ p2, x.block < W.heap.size := by obtain ⟨m, hm⟩ := k2; exact DataW.trod_lt m _ _ _ hm
  obtain ⟨a0, rfl, rfl, hp0, w0⟩ := open_string Try.underlying9 (hval 0 9 v0 rfl rfl) h0
  have z0 : a0.size ≤ 140737488351232 := sized_string hsz (j := 0) (t := 9) rfl rfl
  obtain ⟨a1, rfl, rfl, hp1, w1⟩ := open_string Try.underlying9 (hval 1 9 v1 rfl rfl) h1
  have z1 : a1.size ≤ 140737488351232 := sized_string hsz (j := 1) (t := 9) rfl rfl
  obtain ⟨a2, rfl, rfl, hp2, w2⟩ := open_string Try.underlying9 (hval 2 9 v2 rfl rfl) h2
  have z2 : a2.size ≤ 140737488351232 := sized_string hsz (j := 2) (t := 9) rfl rfl
  clear hA0 hval0
  refine (walk a0 a1 a2 W z0 z1 z2).mono fun e W' ⟨he, bel⟩ => ?_
  subst he
  exact ⟨_, rfl, _, _, _, [], _, [], hW', trodAll_mk1 (shut_bool Try.underlying4 _), (trodAll_cons_mk (Below.trod laidOut (by kernel_rfl) (of_decide_eq_true (by kernel_rfl)) k0 bel lt0) (trodAll_cons_mk (Below.trod laidOut (by kernel_rfl) (of_decide_eq_true (by kernel_rfl)) k1 bel lt1) (trodAll_cons_mk (Below.trod laidOut (by kernel_rfl) (of_decide_eq_true (by kernel_rfl)) k2 bel lt2) trodAll_mk0))), rfl, bel.frame _, fun h => by cases h⟩

theorem proved : Rows.PathChainSaid :=
  OpenClaim.holds_of_wide 6 Try.f6 rfl rfl rfl rfl rfl rfl rfl ⟨rfl, rfl, rfl, rfl, rfl⟩ rfl rfl rfl rfl rfl (by kernel_rfl) Try.func6 (by kernel_rfl)
    (of_decide_eq_true (by kernel_rfl)) (by unfold Func.isWrapper; first | (rw [if_pos (by decide +kernel)]; kernel_rfl) | (rw [if_neg (by decide +kernel)]; exact ⟨rfl, rfl⟩))
    (fun os started H enc _ => lifted os started H enc)
#print axioms proved
end Go.Proofs.Ytmbkgcloliahhad.pathChain
