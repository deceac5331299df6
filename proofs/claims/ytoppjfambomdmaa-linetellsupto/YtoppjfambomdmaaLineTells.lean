/- LineTells, where what comes in is of bulk at most 1048576: cookies are sent in the order and as the text that the reference says, and a text that is read tells the pairs, and the errno, that it says. -/
import Derived.Test.YtoppjfambomdmaaLineK
import Derived.Test.YtoppjfambomdmaaOpenL
namespace Go.Proofs.Ytoppjfambomdmaa.lineTells
open Go.ChangeShapes Go.WideShapes Go.ChangeAt Go.RowKit
open Go.ChangeMaps (open_string shut_string)
set_option linter.all false
set_option maxRecDepth 100000

theorem ck_bulk (c : Ck) : c.name.length + c.value.length + 3 ≤ wCookie.bulk c := by
  show _ ≤ (c.name.length + 1) + ((c.value.length + 1) + (_ + (_ + (1 + (1 + (1 + (1 + (1 + (1 + (1 + (1 + 1)))))))))))
  omega
theorem wr_bulk : ∀ l : List Ck, (wrL l).length + l.length ≤ (l.map wCookie.bulk).sum + l.length
  | [] => Nat.le_refl _
  | [c] => by
    have := ck_bulk c
    show (oneL c).length + 1 ≤ wCookie.bulk c + 0 + 1
    unfold oneL
    simp only [List.length_append, List.length_cons]; omega
  | c :: d :: r => by
    have ih := wr_bulk (d :: r)
    have := ck_bulk c
    rw [List.map_cons, List.sum_cons]
    show (oneL c ++ 59 :: 32 :: wrL (d :: r)).length + _ ≤ _
    unfold oneL
    simp only [List.length_append, List.length_cons] at ih ⊢
    omega
theorem len_bulk (l : List Ck) : l.length ≤ (l.map wCookie.bulk).sum := by
  induction l with
  | nil => exact Nat.zero_le _
  | cons c l ih =>
    have := ck_bulk c
    rw [List.map_cons, List.sum_cons, List.length_cons]; omega
theorem reads_len (x : List UInt8) (h : x.length ≤ 1048576) : (readsL x).length ≤ maxLen := by
  have h1 := partsL_len x 59
  have h2 := lparts_length x
  unfold readsL maxLen
  split
  · exact Nat.zero_le _
  split
  · exact Nat.zero_le _
  split
  · rw [List.length_map]; omega
  · exact Nat.zero_le _
set_option maxHeartbeats 8000000 in
theorem walk (v0 : Value) (l : List Ck) (s : ByteArray) (w : World) (hr : Rows w v0 ckC l) (hm : maxLen ≤ maxLen ∨ l.length * 112 ≤ maxLen) (hok : ∀ c ∈ l, CkOk maxLen c) (hk : (wList wCookie).bulk l + s.size ≤ 1048576) :
    Calls Try.prog 3 #[v0, .string s] w fun e w' => e = .returned (.bool true) ∧ Below w.heap.size w w' := by
  have hk : 1 + (l.map wCookie.bulk).sum + s.size ≤ 1048576 := hk
  have hlb : l.length ≤ 1048576 := by have := len_bulk l; omega
  have hwb : (wrL l).length ≤ 1048576 := by have := wr_bulk l; omega
  obtain ⟨x, rfl⟩ : ∃ p, s = txt p := ⟨s.data.toList, rfl⟩
  have hxb : x.length ≤ 1048576 := by have : (txt x).size = x.length := rfl; omega
  obtain ⟨ad, cap, hv0⟩ := hr.shape
  subst hv0
  have HR : Hid _ := hr
  have HLB : Hid _ := hlb
  have HXB : Hid _ := hxb
  have HWB : Hid _ := hwb
  have HRL : Hid ((readsL x).length ≤ maxLen) := reads_len x hxb
  have HLM : Hid (l.length ≤ maxLen) := by show _ ≤ _; unfold maxLen; omega
  obtain ⟨t, ht⟩ : ∃ t, t = txt (wrL l) := ⟨_, rfl⟩
  have KW : Hid (∀ W v, Rows W v ckC l → Calls Try.prog 13 #[v] W fun e w' => e = .returned (.string t) ∧ Below W.heap.size W w') := fun W v h => by rw [ht]; exact write_any v l W h HLM.out (by omega)
  have KL : Hid (∀ W v, Rows W v ckC l → Calls Try.prog 14 #[v] W fun e w' => e = .returned (.string t) ∧ ∃ n, w' = W.drewN n) := fun W v h => by rw [ht]; exact lineOf_any v l W h hlb hwb
  clear hk hm hok hr hwb hlb hxb ht
  go_enter Try.func3, Try.ntmps3
  go_wp2_with fail
  refine (lread_any (txt x) _ (by have : (txt x).size = x.length := rfl; have := HXB.out; unfold maxLen; omega)).mono ?_
  rw [txt_toList]
  rintro e w1 ⟨v1, rfl, r1, hb1⟩
  obtain ⟨ze, hze⟩ : ∃ z, z = readsE x := ⟨_, rfl⟩
  rw [← hze]
  have HZ : Hid _ := hze
  have P1 : Hid (Rows w1 v1 prF (readsL x)) := r1
  have HB1 : Hid (Below w.heap.size w w1) := hb1
  clear hze r1 hb1
  go_wp2_with fail
  refine (pairsOf_any x _ (by have := HXB.out; omega)).mono ?_
  rw [← HZ.out]
  rintro e w2 ⟨v2, rfl, r2, hb2⟩
  have P2 : Hid (Rows w2 v1 prF (readsL x)) := Rows.below P1.out hb2 (Nat.le_refl _)
  have Q2 : Hid (Rows w2 v2 prF (readsL x)) := r2
  have HB2 : Hid _ := next HB1.out hb2
  clear r2 hb2
  go_wp2_with fail
  refine (lineBegun_any _).mono ?_
  rintro e w3 ⟨rfl, hb3⟩
  have P3 : Hid (Rows w3 v1 prF (readsL x)) := Rows.below P2.out hb3 (Nat.le_refl _)
  have Q3 : Hid (Rows w3 v2 prF (readsL x)) := Rows.below Q2.out hb3 (Nat.le_refl _)
  have HB3 : Hid (Below w.heap.size w w3) := next HB2.out hb3
  clear hb3
  go_wp2_with fail
  refine (sort_any _ l _ (Rows.below HR.out HB3.out (Nat.le_refl _)) (by have := HLB.out; omega)).mono ?_
  rintro e w4 ⟨v4, so, rfl, hs, r4, hb4⟩
  have S4 : Hid (Rows w4 v4 ckC so) := r4
  have HS : Hid (IsSort l so) := hs
  have P4 : Hid (Rows w4 v1 prF (readsL x)) := Rows.below P3.out hb4 (Nat.le_refl _)
  have Q4 : Hid (Rows w4 v2 prF (readsL x)) := Rows.below Q3.out hb4 (Nat.le_refl _)
  have HB4 : Hid (Below w.heap.size w w4) := next HB3.out hb4
  have HSM : Hid (so.length ≤ maxLen) := by show _ ≤ _; rw [hs.length]; exact HLM.out
  clear r4 hb4 hs
  go_wp2_with fail
  refine (sortOf_any _ l so _ (Rows.below HR.out HB4.out (Nat.le_refl _)) HS.out HLB.out).mono ?_
  rintro e w5 ⟨v5, rfl, r5, hb5⟩
  have S5 : Hid (Rows w5 v4 ckC so) := Rows.below S4.out hb5 (Nat.le_refl _)
  have T5 : Hid (Rows w5 v5 ckC so) := r5
  have P5 : Hid (Rows w5 v1 prF (readsL x)) := Rows.below P4.out hb5 (Nat.le_refl _)
  have Q5 : Hid (Rows w5 v2 prF (readsL x)) := Rows.below Q4.out hb5 (Nat.le_refl _)
  have HB5 : Hid (Below w.heap.size w w5) := next HB4.out hb5
  clear r5 hb5
  go_wp2_with fail
  refine (sameCk_any _ _ so so _ S5.out T5.out HSM.out HSM.out).mono ?_
  rw [(eqL_iff _ _).2 rfl]
  rintro e w6 ⟨rfl, n6, hw6⟩
  have P6 : Hid (Rows w6 v1 prF (readsL x)) := by rw [hw6]; exact P5.out.drewN n6
  have Q6 : Hid (Rows w6 v2 prF (readsL x)) := by rw [hw6]; exact Q5.out.drewN n6
  have HB6 : Hid (Below w.heap.size w w6) := by rw [hw6]; exact HB5.out.trans (below_drewN' _ _ _)
  clear hw6
  go_wp2_with fail
  refine (KW.out _ _ (Rows.below HR.out HB6.out (Nat.le_refl _))).mono ?_
  rintro e w7 ⟨rfl, hb7⟩
  have P7 : Hid (Rows w7 v1 prF (readsL x)) := Rows.below P6.out hb7 (Nat.le_refl _)
  have Q7 : Hid (Rows w7 v2 prF (readsL x)) := Rows.below Q6.out hb7 (Nat.le_refl _)
  have HB7 : Hid (Below w.heap.size w w7) := next HB6.out hb7
  clear hb7
  go_wp2_with fail
  refine (KL.out _ _ (Rows.below HR.out HB7.out (Nat.le_refl _))).mono ?_
  rintro e w8 ⟨rfl, n8, hw8⟩
  have P8 : Hid (Rows w8 v1 prF (readsL x)) := by rw [hw8]; exact P7.out.drewN n8
  have Q8 : Hid (Rows w8 v2 prF (readsL x)) := by rw [hw8]; exact Q7.out.drewN n8
  have HB8 : Hid (Below w.heap.size w w8) := by rw [hw8]; exact HB7.out.trans (below_drewN' _ _ _)
  clear hw8
  go_wp2_with fail
  refine (sameAt_any _ _ (readsL x) (readsL x) _ P8.out Q8.out HRL.out HRL.out).mono ?_
  rw [(eqP_iff _ _).2 rfl]
  rintro e w9 ⟨rfl, n9, hw9⟩
  have HB9 : Hid (Below w.heap.size w w9) := by rw [hw9]; exact HB8.out.trans (below_drewN' _ _ _)
  clear hw9
  go_wp2_with fail
  go_ret
  exact ⟨rfl, HB9.out⟩
set_option maxRecDepth 100000 in
theorem lifted (os : Os) (started : os.Started) (H : Type) (enc : TypeId × Value → H) (F : Stop.Interp) :
    ReturnsInHanded {} Try.checked os 3 .any ((Rows.OpenSpec.upto Rows.lineTellsSpec).pre6 enc Try.prog Try.f3 Rows.lineTellsUptoRow.domain false) (((Rows.OpenSpec.upto Rows.lineTellsSpec).at F).post enc Try.prog Try.f3 false true false false) := by
  refine returnsInHanded_of_cond (C := Try.checked) (s := (Rows.OpenSpec.upto Rows.lineTellsSpec)) (k := Rows.uptoSmall) rfl own started (by kernel_rfl) Try.func3
    (OpenSpec.witness (enc := enc) (C := Try.checked) (s := (Rows.OpenSpec.upto Rows.lineTellsSpec)) (k := Rows.uptoSmall) rfl false ⟨#[], #[.slice none 0 0, .string ByteArray.empty], []⟩ 8 (by kernel_rfl) (by kernel_rfl) (by kernel_rfl)
      (x := ([.nil, .lit (.string [])], [], [])) (by kernel_rfl) rfl (by kernel_rfl)) ?_
  intro W base args ds gs before hval0 hW hcnd hk _
  have hval : ∀ (j : Nat) t v, Try.f3.params[j]? = some t → args[j]? = some v → Value.okWide Try.prog W .any base t v := hval0
  have hW' := hW
  obtain ⟨p, q, hA0, hV, rfl, hfz, hnd⟩ := hW
  have hA : DataW.TrodAll enc Try.prog W 0 (fun _ => true) true Try.f3.params.toList args.toList ds p := hA0
  rw [Try.params3] at hA hval
  obtain ⟨v0, vs0, d0, ds0, p0, q0, hargs, rfl, rfl, h0, r0⟩ := trodAll_cons hA
  obtain ⟨v1, vs1, d1, ds1, p1, q1, rfl, rfl, rfl, h1, r1⟩ := trodAll_cons r0
  obtain ⟨rfl, rfl, rfl⟩ := trodAll_nil r1
  obtain rfl : args = #[v0, v1] := by cases args; simp_all
  obtain ⟨rfl, rfl⟩ := trodVars_none hV
  have k0 := h0
  have lt0 : ∀ x ∈ p0, x.block < W.heap.size := by obtain ⟨m, hm⟩ := k0; exact DataW.trod_lt m _ _ _ hm
  have k1 := h1
  have lt1 : ∀ x ∈ p1, x.block < W.heap.size := by obtain ⟨m, hm⟩ := k1; exact DataW.trod_lt m _ _ _ hm
  obtain ⟨l0, rd0, m0, ok0, bk0⟩ := open_cookies (hval 0 22 v0 rfl rfl) k0 maxLen (fits_max _)
  obtain ⟨a1, rfl, rfl, hp1, w1⟩ := open_string Try.underlying9 (hval 1 9 v1 rfl rfl) h1
  have hbulk := bulk_of hk
  simp only [List.cons_append, List.nil_append, List.append_nil, Rows.uptoBulkAll] at hbulk
  have hbk0 := bk0
  have hbk1 := bulk_str (H := H) a1
  clear hA0 hval0
  refine (walk v0 l0 a1 W rd0 m0 ok0 (by omega)).mono fun e W' ⟨he, bel⟩ => ?_
  subst he
  exact ⟨_, rfl, _, _, _, [], _, [], hW', trodAll_mk1 (shut_bool Try.underlying4 _), (trodAll_cons_mk (Below.trod laidOut (by kernel_rfl) (of_decide_eq_true (by kernel_rfl)) k0 bel lt0) (trodAll_cons_mk (Below.trod laidOut (by kernel_rfl) (of_decide_eq_true (by kernel_rfl)) k1 bel lt1) trodAll_mk0)), rfl, bel.frame _, fun h => by cases h⟩

theorem proved : Rows.LineTellsUptoSaid :=
  OpenClaim.holds_of_cond 3 Try.f3 rfl rfl rfl rfl rfl rfl rfl ⟨rfl, rfl, rfl, rfl, rfl⟩ rfl rfl rfl rfl rfl (by kernel_rfl) Try.func3 (by kernel_rfl)
    (of_decide_eq_true (by kernel_rfl)) (by unfold Func.isWrapper; first | (rw [if_pos (by decide +kernel)]; kernel_rfl) | (rw [if_neg (by decide +kernel)]; exact ⟨rfl, rfl⟩))
    (fun os started H enc _ F => lifted os started H enc F)
#print axioms proved
end Go.Proofs.Ytoppjfambomdmaa.lineTells
