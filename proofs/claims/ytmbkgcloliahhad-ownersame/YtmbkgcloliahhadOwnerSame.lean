/- OwnerSame: for all rules and every two texts: who is below a host of the same public suffix has the same owner, if that has one; what came in reads as it did. No condition. -/
import Derived.Test.YtmbkgcloliahhadSuffixF
import Derived.Test.YtmbkgcloliahhadOpenS
import Derived.Test.YtmbkgcloliahhadHostN
namespace Go.Proofs.Ytmbkgcloliahhad.ownerSame
open Go.ChangeShapes Go.WideShapes Go.ChangeAt Go.RowKit
open Go.ChangeMaps (open_string shut_string)
set_option linter.all false

theorem ownE_ok (l : Rules) (h : List UInt8) (e : ownE l h = 0) : sufE l = 0 ∧ canB h = true := by
  by_cases hp : pubE l h = 0
  · exact (pubE_ok l h).1 hp
  · rw [(ownA_bad l h hp).2] at e; exact absurd e hp
theorem same (l : Rules) (h g : List UInt8) (h1 : ownE l h = 0) (h2 : ownE l g = 0) (hx : pubA l h = pubA l g) (hm : matchL h g = true) (hna : ¬ (addrL g = true ∧ addrL h = false)) : ownA l h = ownA l g := by
  obtain ⟨hl, hc⟩ := ownE_ok l h h1
  obtain ⟨_, hcg⟩ := ownE_ok l g h2
  cases ha : addrL h
  · have hga : addrL g = false := by
      cases hg : addrL g
      · rfl
      · exact absurd ⟨hg, ha⟩ hna
    rw [pubA_host l h hl hc ha, pubA_host l g hl hcg hga] at hx
    obtain ⟨o1, o2⟩ := own_host l h hl hc ha
    obtain ⟨p1, p2⟩ := own_host l g hl hcg hga
    rw [h1] at o2
    rw [h2] at p2
    cases ho : ownL l h with
    | none => rw [ho] at o2; cases o2
    | some o =>
      cases hp : ownL l g with
      | none => rw [hp] at p2; cases p2
      | some p =>
        rw [o1, p1, ho, hp]
        have hgu : g ∈ upsN h := (mt_ups h g ha).1 hm
        rw [own_same l h g o p hgu ho hp hx (pub_ne l h hl hc)]
  · have e : h = g := mt_addr h g hm ha
    rw [e]
theorem ne_bool (x y : List UInt8) (h : x ≠ y) : ((txt x).toList != (txt y).toList) = true := by
  rw [bne_iff_ne, Lib.toList_data, Lib.toList_data, txt_toList, txt_toList]; exact h
theorem eq_bool (x y : List UInt8) (h : x = y) : ((txt x).toList != (txt y).toList) = false := by
  rw [h]; simp
set_option maxHeartbeats 4000000 in
theorem walk (v : Value) (l : Rules) (h g : ByteArray) (w : World) (hr : Rows w v ruleF l) (hm : l.length ≤ 140737488351232) (hok : ∀ r ∈ l, (-9223372036854775808 ≤ r.1 ∧ r.1 ≤ 9223372036854775807) ∧ r.2.length ≤ 140737488351232) (hh : h.size ≤ 140737488351232) (hg : g.size ≤ 140737488351232) :
    Calls Try.prog 3 #[v, .string h, .string g] w fun e w' => e = .returned (.bool true) ∧ Below w.heap.size w w' := by
  have HH : Hid (h.size ≤ maxLen) := by unfold maxLen; show _ ≤ _; omega
  have HG : Hid (g.size ≤ maxLen) := by unfold maxLen; show _ ≤ _; omega
  have HM : Hid (l.length ≤ maxLen) := by unfold maxLen; show _ ≤ _; omega
  have HK : Hid (∀ r ∈ l, okR r) := fun r hr => ⟨(hok r hr).1, by have := (hok r hr).2; unfold maxLen; omega⟩
  have HR : Hid (Rows w v sufF l) := hr
  clear hr hm hok hh hg
  obtain ⟨o, ho⟩ : ∃ o, ownA l h.data.toList = o := ⟨_, rfl⟩
  obtain ⟨p, hp⟩ : ∃ p, ownA l g.data.toList = p := ⟨_, rfl⟩
  obtain ⟨x, hx⟩ : ∃ x, pubA l h.data.toList = x := ⟨_, rfl⟩
  obtain ⟨y, hy⟩ : ∃ y, pubA l g.data.toList = y := ⟨_, rfl⟩
  obtain ⟨e1, he1⟩ : ∃ e1, ownE l h.data.toList = e1 := ⟨_, rfl⟩
  obtain ⟨e2, he2⟩ : ∃ e2, ownE l g.data.toList = e2 := ⟨_, rfl⟩
  obtain ⟨e3, he3⟩ : ∃ e3, pubE l h.data.toList = e3 := ⟨_, rfl⟩
  obtain ⟨e4, he4⟩ : ∃ e4, pubE l g.data.toList = e4 := ⟨_, rfl⟩
  have HO : Hid _ := ho
  have HP : Hid _ := hp
  have HX : Hid _ := hx
  have HY : Hid _ := hy
  have E1 : Hid _ := he1
  have E2 : Hid _ := he2
  have E3 : Hid _ := he3
  have E4 : Hid _ := he4
  have Q1 : Hid (e1 = 0 → e3 = 0 ∧ canB h.data.toList = true) := fun h0 => by
    subst h0
    obtain ⟨a, b⟩ := ownE_ok l _ he1
    exact ⟨by rw [← he3]; exact (pubE_ok l _).2 ⟨a, b⟩, b⟩
  have Q2 : Hid (e2 = 0 → e4 = 0 ∧ canB g.data.toList = true) := fun h0 => by
    subst h0
    obtain ⟨a, b⟩ := ownE_ok l _ he2
    exact ⟨by rw [← he4]; exact (pubE_ok l _).2 ⟨a, b⟩, b⟩
  have Q3 : Hid (e1 = 0 → e2 = 0 → x = y → matchL h.data.toList g.data.toList = true → ¬ (addrL g.data.toList = true ∧ addrL h.data.toList = false) → o = p) := fun a b c d f => by
    subst a b
    rw [← ho, ← hp]
    exact same l _ _ he1 he2 (by rw [hx, hy]; exact c) d f
  clear ho hp hx hy he1 he2 he3 he4
  go_enter Try.func3, Try.ntmps3
  go_wp2_with fail
  refine (suffixBegun_any _).mono ?_
  rintro e w1 ⟨rfl, hb1⟩
  have R1 : Hid (Rows w1 v sufF l) := Rows.below HR.out hb1 (Nat.le_refl _)
  go_wp2_with fail
  refine (Owner_any v l h _ R1.out HM.out HK.out HH.out).mono ?_
  rw [HO.out, E1.out]
  rintro e w2 ⟨rfl, hb2⟩
  have R2 : Hid (Rows w2 v sufF l) := Rows.below R1.out hb2 (Nat.le_refl _)
  go_wp2_with fail
  refine (Owner_any v l g _ R2.out HM.out HK.out HG.out).mono ?_
  rw [HP.out, E2.out]
  rintro e w3 ⟨rfl, hb3⟩
  have R3 : Hid (Rows w3 v sufF l) := Rows.below R2.out hb3 (Nat.le_refl _)
  go_wp2_with fail
  refine (Public_any v l h _ R3.out HM.out HK.out HH.out).mono ?_
  rw [HX.out, E3.out]
  rintro e w4 ⟨rfl, hb4⟩
  have R4 : Hid (Rows w4 v sufF l) := Rows.below R3.out hb4 (Nat.le_refl _)
  go_wp2_with fail
  refine (Public_any v l g _ R4.out HM.out HK.out HG.out).mono ?_
  rw [HY.out, E4.out]
  rintro e w5 ⟨rfl, hb5⟩
  have g5 := next (next (next (next hb1 hb2) hb3) hb4) hb5
  clear hb1 hb2 hb3 hb4 hb5 R1 R2 R3 R4 HR
  by_cases h1 : e1 = 0
  · obtain ⟨h3, hc⟩ := Q1.out h1
    have HC : Hid _ := hc
    clear hc
    by_cases h2 : e2 = 0
    · obtain ⟨h4, hcg⟩ := Q2.out h2
      have HCG : Hid _ := hcg
      clear hcg
      have Q4 : Hid _ := Q3.out h1 h2
      subst h1 h2 h3 h4
      by_cases hxy : x = y
      · have exy := eq_bool x y hxy
        have hl : h.size ≤ 253 := can_len _ HC.out
        have HW : Hid ((h.size + 1) * 16 ≤ 140737488355328) := by show _ ≤ _; omega
        go_wp2_with fail
        refine (isMatch_any h g _ HW.out HG.out).mono ?_
        cases hmt : matchL h.data.toList g.data.toList
        · rintro e w6 ⟨rfl, hb6⟩
          go_wp2_with fail
          go_ret
          exact ⟨rfl, next g5 hb6⟩
        · rintro e w6 ⟨rfl, hb6⟩
          have gl : g.size ≤ 253 := can_len _ HCG.out
          have HV : Hid ((g.size + 1) * 16 ≤ 140737488355328) := by show _ ≤ _; omega
          have HMT : Hid _ := hmt
          clear hmt
          have g6 := next g5 hb6
          clear g5 hb6
          go_wp2_with fail
          refine (isAddress_any g _ HV.out).mono ?_
          cases hag : addrL g.data.toList
          · rintro e w7 ⟨rfl, hb7⟩
            have hop : o = p := Q4.out hxy HMT.out (fun a => by rw [hag] at a; cases a.1)
            subst hop
            go_wp2_with fail
            go_ret
            refine ⟨?_, next g6 hb7⟩
            first | rfl | simp
          · rintro e w7 ⟨rfl, hb7⟩
            have g7 := next g6 hb7
            clear g6 hb7
            go_wp2_with fail
            refine (isAddress_any h _ HW.out).mono ?_
            cases hah : addrL h.data.toList
            · rintro e w8 ⟨rfl, hb8⟩
              go_wp2_with fail
              go_ret
              exact ⟨rfl, next g7 hb8⟩
            · rintro e w8 ⟨rfl, hb8⟩
              have hop : o = p := Q4.out hxy HMT.out (fun a => by rw [hah] at a; cases a.2)
              subst hop
              go_wp2_with fail
              go_ret
              refine ⟨?_, next g7 hb8⟩
              first | rfl | simp
      · have exy := ne_bool x y hxy
        have exy2 : ((txt x).toList == (txt y).toList) = false := by rw [Lib.toList_data, Lib.toList_data, txt_toList, txt_toList, beq_eq_false_iff_ne]; exact hxy
        go_wp2_with fail
        go_ret
        exact ⟨rfl, g5⟩
    · have h2b : (e2 != 0) = true := by rw [bne_iff_ne]; exact h2
      subst h1 h3
      go_wp2_with fail
      go_ret
      exact ⟨rfl, g5⟩
  · have h1b : (e1 != 0) = true := by rw [bne_iff_ne]; exact h1
    go_wp2_with fail
    go_ret
    exact ⟨rfl, g5⟩

set_option maxRecDepth 100000 in
theorem lifted (os : Os) (started : os.Started) (H : Type) (enc : TypeId × Value → H) :
    ReturnsInHanded {} Try.checked os 3 .any (Rows.ownerSameSpec.pre6 enc Try.prog Try.f3 Rows.ownerSameRow.domain false) (Rows.ownerSameSpec.post enc Try.prog Try.f3 false true false false) := by
  refine returnsInHanded_of_change_sized (C := Try.checked) own started (by kernel_rfl) Try.func3
    (ChangeSpec.witness6 (enc := enc) (C := Try.checked) false ⟨#[], #[.slice none 0 0, .string ByteArray.empty, .string ByteArray.empty], []⟩ 8 (by kernel_rfl) (by kernel_rfl) (by kernel_rfl) (by kernel_rfl)) ?_
  intro W base args ds gs before hval0 hW hcnd hsz0 _
  have hsz : (DataW.weightsEach Try.prog (Try.f3.params.toList ++ Rows.ownerSameSpec.plain.varTypes Try.prog) (ds ++ gs)).all (· ≤ reachBytes) = true := hsz0
  have hval : ∀ (j : Nat) t v, Try.f3.params[j]? = some t → args[j]? = some v → Value.okWide Try.prog W .any base t v := hval0
  have hW' := hW
  obtain ⟨p, q, hA0, hV, rfl, hfz, hnd⟩ := hW
  have hA : DataW.TrodAll enc Try.prog W 0 (fun _ => true) true Try.f3.params.toList args.toList ds p := hA0
  rw [Try.params3] at hA hval hsz
  obtain ⟨v0, vs0, d0, ds0, p0, q0, hargs, rfl, rfl, h0, r0⟩ := trodAll_cons hA
  obtain ⟨v1, vs1, d1, ds1, p1, q1, rfl, rfl, rfl, h1, r1⟩ := trodAll_cons r0
  obtain ⟨v2, vs2, d2, ds2, p2, q2, rfl, rfl, rfl, h2, r2⟩ := trodAll_cons r1
  obtain ⟨rfl, rfl, rfl⟩ := trodAll_nil r2
  obtain rfl : args = #[v0, v1, v2] := by cases args; simp_all
  obtain ⟨rfl, rfl⟩ := trodVars_none hV
  have k0 := h0
  have lt0 : ∀ x ∈ p0, x.block < W.heap.size := by obtain ⟨m, hm⟩ := k0; exact DataW.trod_lt m _ _ _ hm
  have k1 := h1
  have lt1 : ∀ x ∈ p1, x.block < W.heap.size := by obtain ⟨m, hm⟩ := k1; exact DataW.trod_lt m _ _ _ hm
  have k2 := h2
  have lt2 : ∀ x ∈ p2, x.block < W.heap.size := by obtain ⟨m, hm⟩ := k2; exact DataW.trod_lt m _ _ _ hm
  obtain ⟨l0, rd0, m0, ok0, bk0⟩ := open_rules (hval 0 22 v0 rfl rfl) k0 140737488351232 (fits_each hsz (j := 0) (t := 22) rfl rfl)
  obtain ⟨a1, rfl, rfl, hp1, w1⟩ := open_string Try.underlying9 (hval 1 9 v1 rfl rfl) h1
  have z1 : a1.size ≤ 140737488351232 := sized_string hsz (j := 1) (t := 9) rfl rfl
  obtain ⟨a2, rfl, rfl, hp2, w2⟩ := open_string Try.underlying9 (hval 2 9 v2 rfl rfl) h2
  have z2 : a2.size ≤ 140737488351232 := sized_string hsz (j := 2) (t := 9) rfl rfl
  clear hA0 hval0
  refine (walk v0 l0 a1 a2 W rd0 m0 ok0 z1 z2).mono fun e W' ⟨he, bel⟩ => ?_
  subst he
  exact ⟨_, rfl, _, _, _, [], _, [], hW', trodAll_mk1 (shut_bool Try.underlying4 _), (trodAll_cons_mk (Below.trod laidOut (by kernel_rfl) (of_decide_eq_true (by kernel_rfl)) k0 bel lt0) (trodAll_cons_mk (Below.trod laidOut (by kernel_rfl) (of_decide_eq_true (by kernel_rfl)) k1 bel lt1) (trodAll_cons_mk (Below.trod laidOut (by kernel_rfl) (of_decide_eq_true (by kernel_rfl)) k2 bel lt2) trodAll_mk0))), rfl, bel.frame _, fun h => by cases h⟩

theorem proved : Rows.OwnerSameSaid :=
  OpenClaim.holds_of_wide 3 Try.f3 rfl rfl rfl rfl rfl rfl rfl ⟨rfl, rfl, rfl, rfl, rfl⟩ rfl rfl rfl rfl rfl (by kernel_rfl) Try.func3 (by kernel_rfl)
    (of_decide_eq_true (by kernel_rfl)) (by unfold Func.isWrapper; first | (rw [if_pos (by decide +kernel)]; kernel_rfl) | (rw [if_neg (by decide +kernel)]; exact ⟨rfl, rfl⟩))
    (fun os started H enc _ => lifted os started H enc)
#print axioms proved
end Go.Proofs.Ytmbkgcloliahhad.ownerSame
