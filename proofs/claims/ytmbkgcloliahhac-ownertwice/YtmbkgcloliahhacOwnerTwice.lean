/- OwnerTwice: for all rules and every text: who owns an owner is that owner itself; a host matches its owner, which matches the public suffix that is behind its first label; what came in reads as it did. No condition. -/
import Derived.Test.YtmbkgcloliahhacSuffixF
import Derived.Test.YtmbkgcloliahhacHostN
import Derived.Test.YtmbkgcloliahhacOpenS
namespace Go.Proofs.Ytmbkgcloliahhac.ownerTwice
open Go.ChangeShapes Go.WideShapes Go.ChangeAt Go.RowKit
open Go.ChangeMaps (open_string shut_string)
set_option linter.all false

theorem ownE_ok (l : Rules) (h : List UInt8) (e : ownE l h = 0) : sufE l = 0 ∧ canB h = true := by
  by_cases hp : pubE l h = 0
  · exact (pubE_ok l h).1 hp
  · rw [(ownA_bad l h hp).2] at e; exact absurd e hp
theorem ownA_none (l : Rules) (h : List UInt8) (e : ownE l h ≠ 0) : ownA l h = [] := by
  by_cases hp : pubE l h = 0
  · obtain ⟨h0, hc⟩ := (pubE_ok l h).1 hp
    cases ha : addrL h
    · obtain ⟨o1, o2⟩ := own_host l h h0 hc ha
      cases ho : ownL l h with
      | none => rw [o1, ho]; rfl
      | some o => rw [o2, ho] at e; exact absurd rfl e
    · exact absurd (own_addr l h h0 hc ha).2 e
  · exact (ownA_bad l h hp).1
/-- the owner of a host that is no address -/
theorem host_owner (l : Rules) (h o : List UInt8) (e : ownE l h = 0) (ho : ownA l h = o) (ha : addrL h = false) :
    ownL l h = some o ∧ o ∈ upsN h ∧ behindL o = pubL l h ∧ hasB o 46 = true ∧ canB o = true ∧ pubL l h ≠ [] := by
  obtain ⟨h0, hc⟩ := ownE_ok l h e
  obtain ⟨o1, o2⟩ := own_host l h h0 hc ha
  rw [e] at o2
  cases hl : ownL l h with
  | none => rw [hl] at o2; cases o2
  | some q =>
    have : q = o := by rw [← ho, o1, hl]; rfl
    subst this
    obtain ⟨hm, hb, _⟩ := own_some l h q hl
    have hpn := pub_ne l h h0 hc
    exact ⟨rfl, hm, hb, dot_of q (by rw [hb]; exact hpn), can_up h q hc hm, hpn⟩
theorem again_owner (l : Rules) (h o : List UInt8) (e : ownE l h = 0) (ho : ownA l h = o) : ownA l o = o ∧ ownE l o = 0 := by
  obtain ⟨h0, hc⟩ := ownE_ok l h e
  cases ha : addrL h
  · obtain ⟨hl, hm, hb, hd, hco, hpn⟩ := host_owner l h o e ho ha
    cases hao : addrL o
    · obtain ⟨o1, o2⟩ := own_host l o h0 hco hao
      have ht := own_twice l h o hl hpn
      rw [o1, o2, ht]; exact ⟨rfl, rfl⟩
    · exact own_addr l o h0 hco hao
  · obtain ⟨o1, o2⟩ := own_addr l h h0 hc ha
    have : h = o := by rw [← ho, o1]
    subst this
    exact ⟨o1, o2⟩
theorem match_owner (l : Rules) (h o : List UInt8) (e : ownE l h = 0) (ho : ownA l h = o) : matchL h o = true := by
  obtain ⟨h0, hc⟩ := ownE_ok l h e
  cases ha : addrL h
  · obtain ⟨hl, hm, _⟩ := host_owner l h o e ho ha
    exact (mt_ups h o ha).2 hm
  · obtain ⟨o1, o2⟩ := own_addr l h h0 hc ha
    have : h = o := by rw [← ho, o1]
    subst this
    exact (mt_iff h h).2 (.inl rfl)
/-- where the public suffix lies in an owner -/
theorem split_owner (l : Rules) (h o : List UInt8) (e : ownE l h = 0) (ho : ownA l h = o) (ha : addrL h = false) :
    ∃ n : Nat, Lib.indexByte o 46 = n ∧ n < o.length ∧ (pubA l h).length + n + 1 = o.length ∧ (txt o).extract n (txt o).size = ⟨#[46]⟩ ++ txt (pubA l h) ∧ o.length ≤ 253 := by
  obtain ⟨h0, hc⟩ := ownE_ok l h e
  obtain ⟨hl, hm, hb, hd, hco, hpn⟩ := host_owner l h o e ho ha
  rw [pubA_host l h h0 hc ha]
  have hge := Lib.indexByte_ge o 46
  by_cases hn : Lib.indexByte o 46 = -1
  · rw [(cut_none _ _ hn).2.2] at hd; cases hd
  · obtain ⟨n, hn⟩ : ∃ n : Nat, Lib.indexByte o 46 = n := ⟨(Lib.indexByte o 46).toNat, by omega⟩
    obtain ⟨e1, e2, _, e4⟩ := cut_some _ _ _ hn
    have hp : pubL l h = o.drop (n + 1) := by rw [← hb]; exact e2
    obtain ⟨hg, _⟩ := Lib.indexByte_some hn
    have hg2 : o[n] = 46 := (List.getElem?_eq_some_iff.1 hg).2
    refine ⟨n, hn, e4, by rw [hp, List.length_drop]; omega, ?_, can_len o hco⟩
    rw [ext_from, txt_toList, hp, List.drop_eq_getElem_cons e4, hg2]
    apply ByteArray.ext
    apply Array.ext'
    simp [txt]
theorem tnil (a : List UInt8) (h : a = []) : ((txt a).toList == []) = true := by rw [Lib.toList_data, txt_toList, h]; rfl
set_option maxRecDepth 100000 in
set_option maxHeartbeats 4000000 in
theorem walk (v : Value) (l : Rules) (h : ByteArray) (w : World) (hr : Rows w v ruleF l) (hm : l.length ≤ 140737488351232) (hok : ∀ r ∈ l, (-9223372036854775808 ≤ r.1 ∧ r.1 ≤ 9223372036854775807) ∧ r.2.length ≤ 140737488351232) (hh : h.size ≤ 140737488351232) :
    Calls Try.prog 8 #[v, .string h] w fun e w' => e = .returned (.bool true) ∧ Below w.heap.size w w' := by
  have HH : Hid (h.size ≤ maxLen) := by unfold maxLen; show _ ≤ _; omega
  have HM : Hid (l.length ≤ maxLen) := by unfold maxLen; show _ ≤ _; omega
  have HK : Hid (∀ r ∈ l, okR r) := fun r hr => ⟨(hok r hr).1, by have := (hok r hr).2; unfold maxLen; omega⟩
  have HR : Hid (Rows w v sufF l) := hr
  clear hr hm hok hh
  obtain ⟨o, ho⟩ : ∃ o, ownA l h.data.toList = o := ⟨_, rfl⟩
  obtain ⟨p, hp⟩ : ∃ p, pubA l h.data.toList = p := ⟨_, rfl⟩
  obtain ⟨e1, he1⟩ : ∃ e1, ownE l h.data.toList = e1 := ⟨_, rfl⟩
  have HO : Hid _ := ho
  have HP : Hid _ := hp
  have E1 : Hid _ := he1
  by_cases h1 : e1 = 0
  · subst h1
    obtain ⟨h0, hc⟩ := ownE_ok l _ he1
    have E3 : Hid (pubE l h.data.toList = 0) := (pubE_ok l _).2 ⟨h0, hc⟩
    obtain ⟨a1, a2⟩ := again_owner l _ o he1 ho
    have HMT : Hid _ := match_owner l _ o he1 ho
    have A1 : Hid (ownA l (txt o).data.toList = o) := a1
    have A2 : Hid (ownE l (txt o).data.toList = 0) := a2
    have hl253 : h.size ≤ 253 := can_len _ hc
    have HW : Hid ((h.size + 1) * 16 ≤ 140737488355328) := by show _ ≤ _; omega
    cases ha : addrL h.data.toList
    · obtain ⟨n, s1, s2, s3, s4, s5⟩ := split_owner l _ o he1 ho ha
      rw [hp] at s3 s4
      have HD : Hid _ := ha
      have S1 : Hid _ := s1
      have HOL : Hid ((txt o).size ≤ maxLen) := Nat.le_trans s5 (by decide)
      have HOM : Hid ((txt o).size < maxLen) := Nat.lt_of_le_of_lt s5 (by decide)
      obtain ⟨ob, hob⟩ : ∃ ob, ob = txt o := ⟨_, rfl⟩
      obtain ⟨pb, hpb⟩ : ∃ pb, pb = txt p := ⟨_, rfl⟩
      have z1 : ob.size = o.length := by rw [hob]; rfl
      have z2 : pb.size = p.length := by rw [hpb]; rfl
      have q1 : ((ob.extract n ob.size).toList == ((⟨#[46]⟩ : ByteArray) ++ pb).toList) = true := by rw [hob, hpb, s4]; simp
      rw [← hob] at HOL HOM A1 A2
      rw [← z1] at s2 s3 s5
      rw [← z2] at s3
      have f1 : (ob.size : Int) - (pb.size : Int) = ((n + 1 : Nat) : Int) := by omega
      have f2 : ((n + 1 : Nat) : Int) - 1 = (n : Int) := by omega
      have f3 : pb.size < ob.size := by omega
      have HOB : Hid (txt o = ob) := hob.symm
      have HPB : Hid (txt p = pb) := hpb.symm
      have HMT2 : Hid (matchL h.data.toList ob.data.toList = true) := by rw [hob]; exact HMT.out
      have S1b : Hid (Lib.indexByte ob.data.toList 46 = n) := by rw [hob]; exact s1
      have q0 : (ob.toList != ob.toList) = false := by simp
      clear ho hp he1 h0 hc a1 a2 ha s1 s4 hob hpb z1 z2 HMT S1 s3
      go_enter Try.func8, Try.ntmps8
      go_wp2_with fail
      refine (Owner_any v l h _ HR.out HM.out HK.out HH.out).mono ?_
      rw [HO.out, E1.out, HOB.out]
      rintro e w1 ⟨rfl, hb1⟩
      have R1 : Hid (Rows w1 v sufF l) := Rows.below HR.out hb1 (Nat.le_refl _)
      go_wp2_with fail
      refine (suffixBegun_any _).mono ?_
      rintro e w2 ⟨rfl, hb2⟩
      have R2 : Hid (Rows w2 v sufF l) := Rows.below R1.out hb2 (Nat.le_refl _)
      go_wp2_with fail
      refine (Public_any v l h _ R2.out HM.out HK.out HH.out).mono ?_
      rw [HP.out, E3.out, HPB.out]
      rintro e w3 ⟨rfl, hb3⟩
      have R3 : Hid (Rows w3 v sufF l) := Rows.below R2.out hb3 (Nat.le_refl _)
      go_wp2_with fail
      refine (Owner_any v l ob _ R3.out HM.out HK.out HOL.out).mono ?_
      rw [A1.out, A2.out, HOB.out]
      rintro e w4 ⟨rfl, hb4⟩
      have g4 := next (next (next hb1 hb2) hb3) hb4
      clear hb1 hb2 hb3 hb4
      go_wp2_with fail
      refine (isMatch_any h ob _ HW.out HOL.out).mono ?_
      rw [HMT2.out]
      rintro e w5 ⟨rfl, hb5⟩
      have g5 := next g4 hb5
      clear g4 hb5
      go_wp2_with fail
      refine (isAddress_any h _ HW.out).mono ?_
      rw [HD.out]
      rintro e w6 ⟨rfl, hb6⟩
      have g6 := next g5 hb6
      clear g5 hb6
      go_wp2_with fail
      refine (isAddress_any h _ HW.out).mono ?_
      rw [HD.out]
      rintro e w7 ⟨rfl, hb7⟩
      have g7 := next g6 hb7
      clear g6 hb7
      go_wp2_with fail
      refine (placeOf_any ob 46 _ HOL.out).mono ?_
      rw [S1b.out]
      rintro e w8 ⟨rfl, rfl⟩
      go_wp2_with fail
      go_ret
      refine ⟨?_, g7⟩
      first | rfl | simp
    · obtain ⟨o1, o2⟩ := own_addr l _ h0 hc ha
      have hoh : txt o = h := by rw [← ho, o1]; exact txt_of h
      have hp0 : p = [] := by rw [← hp]; exact pubA_addr l _ h0 hc ha
      have qp := tnil p hp0
      have HD : Hid _ := ha
      have HOB : Hid (txt o = h) := hoh
      have HMT2 : Hid (matchL h.data.toList h.data.toList = true) := (mt_iff _ _).2 (.inl rfl)
      have A1b : Hid (txt (ownA l h.data.toList) = h) := by show _ = _; rw [ho]; exact hoh
      obtain ⟨pb, hpb⟩ : ∃ pb, pb = txt p := ⟨_, rfl⟩
      rw [← hpb] at qp
      have HPB : Hid (txt p = pb) := hpb.symm
      clear ho hp he1 h0 hc a1 a2 ha o1 o2 hoh hp0 hpb A1 A2 HMT
      go_enter Try.func8, Try.ntmps8
      go_wp2_with fail
      refine (Owner_any v l h _ HR.out HM.out HK.out HH.out).mono ?_
      rw [A1b.out, E1.out]
      rintro e w1 ⟨rfl, hb1⟩
      have R1 : Hid (Rows w1 v sufF l) := Rows.below HR.out hb1 (Nat.le_refl _)
      go_wp2_with fail
      refine (suffixBegun_any _).mono ?_
      rintro e w2 ⟨rfl, hb2⟩
      have R2 : Hid (Rows w2 v sufF l) := Rows.below R1.out hb2 (Nat.le_refl _)
      go_wp2_with fail
      refine (Public_any v l h _ R2.out HM.out HK.out HH.out).mono ?_
      rw [HP.out, E3.out, HPB.out]
      rintro e w3 ⟨rfl, hb3⟩
      have R3 : Hid (Rows w3 v sufF l) := Rows.below R2.out hb3 (Nat.le_refl _)
      go_wp2_with fail
      refine (Owner_any v l h _ R3.out HM.out HK.out HH.out).mono ?_
      rw [A1b.out, E1.out]
      rintro e w4 ⟨rfl, hb4⟩
      have g4 := next (next (next hb1 hb2) hb3) hb4
      clear hb1 hb2 hb3 hb4
      go_wp2_with fail
      refine (isMatch_any h h _ HW.out HH.out).mono ?_
      rw [HMT2.out]
      rintro e w5 ⟨rfl, hb5⟩
      have g5 := next g4 hb5
      clear g4 hb5
      go_wp2_with fail
      refine (isAddress_any h _ HW.out).mono ?_
      rw [HD.out]
      rintro e w6 ⟨rfl, hb6⟩
      have g6 := next g5 hb6
      clear g5 hb6
      go_wp2_with fail
      go_ret
      refine ⟨?_, g6⟩
      first | rfl | simp
  · have hn : o = [] := by rw [← ho]; exact ownA_none l _ (by rw [he1]; exact h1)
    have h1b : (e1 != 0) = true := by rw [bne_iff_ne]; exact h1
    have q1 := tnil o hn
    clear hn ho hp he1 h1
    go_enter Try.func8, Try.ntmps8
    go_wp2_with fail
    refine (Owner_any v l h _ HR.out HM.out HK.out HH.out).mono ?_
    rw [HO.out, E1.out]
    rintro e w1 ⟨rfl, hb1⟩
    go_wp2_with fail
    refine (suffixBegun_any _).mono ?_
    rintro e w2 ⟨rfl, hb2⟩
    go_wp2_with fail
    go_ret
    refine ⟨?_, next hb1 hb2⟩
    first | rfl | simp

set_option maxRecDepth 100000 in
theorem lifted (os : Os) (started : os.Started) (H : Type) (enc : TypeId × Value → H) :
    ReturnsInHanded {} Try.checked os 8 .any (Rows.ownerTwiceSpec.pre6 enc Try.prog Try.f8 Rows.ownerTwiceRow.domain false) (Rows.ownerTwiceSpec.post enc Try.prog Try.f8 false true false false) := by
  refine returnsInHanded_of_change_sized (C := Try.checked) own started (by kernel_rfl) Try.func8
    (ChangeSpec.witness6 (enc := enc) (C := Try.checked) false ⟨#[], #[.slice none 0 0, .string ByteArray.empty], []⟩ 8 (by kernel_rfl) (by kernel_rfl) (by kernel_rfl) (by kernel_rfl)) ?_
  intro W base args ds gs before hval0 hW hcnd hsz0 _
  have hsz : (DataW.weightsEach Try.prog (Try.f8.params.toList ++ Rows.ownerTwiceSpec.plain.varTypes Try.prog) (ds ++ gs)).all (· ≤ reachBytes) = true := hsz0
  have hval : ∀ (j : Nat) t v, Try.f8.params[j]? = some t → args[j]? = some v → Value.okWide Try.prog W .any base t v := hval0
  have hW' := hW
  obtain ⟨p, q, hA0, hV, rfl, hfz, hnd⟩ := hW
  have hA : DataW.TrodAll enc Try.prog W 0 (fun _ => true) true Try.f8.params.toList args.toList ds p := hA0
  rw [Try.params8] at hA hval hsz
  obtain ⟨v0, vs0, d0, ds0, p0, q0, hargs, rfl, rfl, h0, r0⟩ := trodAll_cons hA
  obtain ⟨v1, vs1, d1, ds1, p1, q1, rfl, rfl, rfl, h1, r1⟩ := trodAll_cons r0
  obtain ⟨rfl, rfl, rfl⟩ := trodAll_nil r1
  obtain rfl : args = #[v0, v1] := by cases args; simp_all
  obtain ⟨rfl, rfl⟩ := trodVars_none hV
  have k0 := h0
  have lt0 : ∀ x ∈ p0, x.block < W.heap.size := by obtain ⟨m, hm⟩ := k0; exact DataW.trod_lt m _ _ _ hm
  have k1 := h1
  have lt1 : ∀ x ∈ p1, x.block < W.heap.size := by obtain ⟨m, hm⟩ := k1; exact DataW.trod_lt m _ _ _ hm
  obtain ⟨l0, rd0, m0, ok0, bk0⟩ := open_rules (hval 0 33 v0 rfl rfl) k0 140737488351232 (fits_each hsz (j := 0) (t := 33) rfl rfl)
  obtain ⟨a1, rfl, rfl, hp1, w1⟩ := open_string Try.underlying9 (hval 1 9 v1 rfl rfl) h1
  have z1 : a1.size ≤ 140737488351232 := sized_string hsz (j := 1) (t := 9) rfl rfl
  clear hA0 hval0
  refine (walk v0 l0 a1 W rd0 m0 ok0 z1).mono fun e W' ⟨he, bel⟩ => ?_
  subst he
  exact ⟨_, rfl, _, _, _, [], _, [], hW', trodAll_mk1 (shut_bool Try.underlying4 _), (trodAll_cons_mk (Below.trod laidOut (by kernel_rfl) (of_decide_eq_true (by kernel_rfl)) k0 bel lt0) (trodAll_cons_mk (Below.trod laidOut (by kernel_rfl) (of_decide_eq_true (by kernel_rfl)) k1 bel lt1) trodAll_mk0)), rfl, bel.frame _, fun h => by cases h⟩

theorem proved : Rows.OwnerTwiceSaid :=
  OpenClaim.holds_of_wide 8 Try.f8 rfl rfl rfl rfl rfl rfl rfl ⟨rfl, rfl, rfl, rfl, rfl⟩ rfl rfl rfl rfl rfl (by kernel_rfl) Try.func8 (by kernel_rfl)
    (of_decide_eq_true (by kernel_rfl)) (by unfold Func.isWrapper; first | (rw [if_pos (by decide +kernel)]; kernel_rfl) | (rw [if_neg (by decide +kernel)]; exact ⟨rfl, rfl⟩))
    (fun os started H enc _ => lifted os started H enc)
#print axioms proved
end Go.Proofs.Ytmbkgcloliahhac.ownerTwice
