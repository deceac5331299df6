/- SuffixTells: for all rules and every text: the program's Check, Public and Owner answer what the document's own answer, errors too; what came in reads as it did. No condition. -/
import Derived.Test.YtmbkgcloliahhacSuffixT
import Derived.Test.YtmbkgcloliahhacSuffixF
import Derived.Test.YtmbkgcloliahhacOpenS
namespace Go.Proofs.Ytmbkgcloliahhac.suffixTells
open Go.ChangeShapes Go.WideShapes Go.ChangeAt Go.RowKit
open Go.ChangeMaps (open_string shut_string)
set_option linter.all false

set_option maxHeartbeats 4000000 in
theorem walk (v : Value) (l : Rules) (h : ByteArray) (w : World) (hr : Rows w v ruleF l) (hm : l.length ≤ 140737488351232) (hok : ∀ r ∈ l, (-9223372036854775808 ≤ r.1 ∧ r.1 ≤ 9223372036854775807) ∧ r.2.length ≤ 140737488351232) (hh : h.size ≤ 140737488351232) :
    Calls Try.prog 7 #[v, .string h] w fun e w' => e = .returned (.bool true) ∧ Below w.heap.size w w' := by
  have HH : Hid (h.size ≤ maxLen) := by unfold maxLen; show _ ≤ _; omega
  have HM : Hid (l.length ≤ maxLen) := by unfold maxLen; show _ ≤ _; omega
  have HK : Hid (∀ r ∈ l, okR r) := fun r hr => ⟨(hok r hr).1, by have := (hok r hr).2; unfold maxLen; omega⟩
  have HR : Hid (Rows w v sufF l) := hr
  clear hr hm hok hh
  obtain ⟨o, ho⟩ : ∃ o, txt (ownA l h.data.toList) = o := ⟨_, rfl⟩
  obtain ⟨x, hx⟩ : ∃ x, txt (pubA l h.data.toList) = x := ⟨_, rfl⟩
  obtain ⟨e1, he1⟩ : ∃ e1, ownE l h.data.toList = e1 := ⟨_, rfl⟩
  obtain ⟨e3, he3⟩ : ∃ e3, pubE l h.data.toList = e3 := ⟨_, rfl⟩
  obtain ⟨e5, he5⟩ : ∃ e5, sufE l = e5 := ⟨_, rfl⟩
  have HO : Hid _ := ho
  have HX : Hid _ := hx
  have E1 : Hid _ := he1
  have E3 : Hid _ := he3
  have E5 : Hid _ := he5
  clear ho hx he1 he3 he5
  go_enter Try.func7, Try.ntmps7
  go_wp2_with fail
  refine (Public_any v l h _ HR.out HM.out HK.out HH.out).mono ?_
  rw [HX.out, E3.out]
  rintro e w1 ⟨rfl, hb1⟩
  have R1 : Hid (Rows w1 v sufF l) := Rows.below HR.out hb1 (Nat.le_refl _)
  go_wp2_with fail
  refine (Owner_any v l h _ R1.out HM.out HK.out HH.out).mono ?_
  rw [HO.out, E1.out]
  rintro e w2 ⟨rfl, hb2⟩
  have R2 : Hid (Rows w2 v sufF l) := Rows.below R1.out hb2 (Nat.le_refl _)
  go_wp2_with fail
  refine (publicNo_any v l h _ R2.out HM.out HK.out HH.out).mono ?_
  rw [HX.out, E3.out]
  rintro e w3 ⟨rfl, hb3⟩
  have R3 : Hid (Rows w3 v sufF l) := Rows.below R2.out hb3 (Nat.le_refl _)
  go_wp2_with fail
  refine (ownerOf_any v l h _ R3.out HM.out HK.out HH.out).mono ?_
  rw [HO.out, E1.out]
  rintro e w4 ⟨rfl, hb4⟩
  have R4 : Hid (Rows w4 v sufF l) := Rows.below R3.out hb4 (Nat.le_refl _)
  go_wp2_with fail
  refine (suffixBegun_any _).mono ?_
  rintro e w5 ⟨rfl, hb5⟩
  have R5 : Hid (Rows w5 v sufF l) := Rows.below R4.out hb5 (Nat.le_refl _)
  go_wp2_with fail
  refine (check_any v l _ R5.out HM.out HK.out).mono ?_
  rw [E5.out]
  rintro e w6 ⟨rfl, hb6⟩
  have R6 : Hid (Rows w6 v sufF l) := Rows.below R5.out hb6 (Nat.le_refl _)
  go_wp2_with fail
  refine (suffixCheck_any v l _ R6.out HM.out HK.out).mono ?_
  rw [E5.out]
  rintro e w7 ⟨rfl, hb7⟩
  go_wp2_with fail
  go_ret
  refine ⟨?_, next (next (next (next (next (next hb1 hb2) hb3) hb4) hb5) hb6) hb7⟩
  first | rfl | simp

set_option maxRecDepth 100000 in
theorem lifted (os : Os) (started : os.Started) (H : Type) (enc : TypeId × Value → H) :
    ReturnsInHanded {} Try.checked os 7 .any (Rows.suffixTellsSpec.pre6 enc Try.prog Try.f7 Rows.suffixTellsRow.domain false) (Rows.suffixTellsSpec.post enc Try.prog Try.f7 false true false false) := by
  refine returnsInHanded_of_change_sized (C := Try.checked) own started (by kernel_rfl) Try.func7
    (ChangeSpec.witness6 (enc := enc) (C := Try.checked) false ⟨#[], #[.slice none 0 0, .string ByteArray.empty], []⟩ 8 (by kernel_rfl) (by kernel_rfl) (by kernel_rfl) (by kernel_rfl)) ?_
  intro W base args ds gs before hval0 hW hcnd hsz0 _
  have hsz : (DataW.weightsEach Try.prog (Try.f7.params.toList ++ Rows.suffixTellsSpec.plain.varTypes Try.prog) (ds ++ gs)).all (· ≤ reachBytes) = true := hsz0
  have hval : ∀ (j : Nat) t v, Try.f7.params[j]? = some t → args[j]? = some v → Value.okWide Try.prog W .any base t v := hval0
  have hW' := hW
  obtain ⟨p, q, hA0, hV, rfl, hfz, hnd⟩ := hW
  have hA : DataW.TrodAll enc Try.prog W 0 (fun _ => true) true Try.f7.params.toList args.toList ds p := hA0
  rw [Try.params7] at hA hval hsz
  obtain ⟨v0, vs0, d0, ds0, p0, q0, hargs, rfl, rfl, h0, r0⟩ := trodAll_cons hA
  obtain ⟨v1, vs1, d1, ds1, p1, q1, rfl, rfl, rfl, h1, r1⟩ := trodAll_cons r0
  obtain ⟨rfl, rfl, rfl⟩ := trodAll_nil r1
  obtain rfl : args = #[v0, v1] := by cases args; simp_all
  obtain ⟨rfl, rfl⟩ := trodVars_none hV
  have k0 := h0
  have lt0 : ∀ x ∈ p0, x.block < W.heap.size := by obtain ⟨m, hm⟩ := k0; exact DataW.trod_lt m _ _ _ hm
  have k1 := h1
  have lt1 : ∀ x ∈ p1, x.block < W.heap.size := by obtain ⟨m, hm⟩ := k1; exact DataW.trod_lt m _ _ _ hm
  obtain ⟨l0, rd0, m0, ok0, bk0⟩ := open_rules (hval 0 33 v0 rfl rfl) k0 140737488351232 (fits_each hsz (j := 0) (t := 33) rfl rfl)
  obtain ⟨a1, rfl, rfl, hp1, w1⟩ := open_string Try.underlying9 (hval 1 9 v1 rfl rfl) h1
  have z1 : a1.size ≤ 140737488351232 := sized_string hsz (j := 1) (t := 9) rfl rfl
  clear hA0 hval0
  refine (walk v0 l0 a1 W rd0 m0 ok0 z1).mono fun e W' ⟨he, bel⟩ => ?_
  subst he
  exact ⟨_, rfl, _, _, _, [], _, [], hW', trodAll_mk1 (shut_bool Try.underlying4 _), (trodAll_cons_mk (Below.trod laidOut (by kernel_rfl) (of_decide_eq_true (by kernel_rfl)) k0 bel lt0) (trodAll_cons_mk (Below.trod laidOut (by kernel_rfl) (of_decide_eq_true (by kernel_rfl)) k1 bel lt1) trodAll_mk0)), rfl, bel.frame _, fun h => by cases h⟩

theorem proved : Rows.SuffixTellsSaid :=
  OpenClaim.holds_of_wide 7 Try.f7 rfl rfl rfl rfl rfl rfl rfl ⟨rfl, rfl, rfl, rfl, rfl⟩ rfl rfl rfl rfl rfl (by kernel_rfl) Try.func7 (by kernel_rfl)
    (of_decide_eq_true (by kernel_rfl)) (by unfold Func.isWrapper; first | (rw [if_pos (by decide +kernel)]; kernel_rfl) | (rw [if_neg (by decide +kernel)]; exact ⟨rfl, rfl⟩))
    (fun os started H enc _ => lifted os started H enc)
#print axioms proved
end Go.Proofs.Ytmbkgcloliahhac.suffixTells
