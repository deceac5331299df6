/- BitsTells, where what comes in is of bulk at most 1048576: the program's Write and Read answer what the document's own answer; what came in reads as it did. (Beyond that bound the list of a text's bits, which the document's answer makes, may take more bytes than any slice.) -/
import Derived.Test.YtdcoiibakocbjaaBitsW
import Derived.Test.YtdcoiibakocbjaaOpenB
namespace Go.Proofs.Ytdcoiibakocbjaa.bitsTells
open Go.ChangeShapes Go.WideShapes Go.ChangeAt Go.RowKit Go.Lib
open Go.ChangeMaps (open_string shut_string)
set_option linter.all false
set_option maxRecDepth 100000

set_option maxHeartbeats 4000000 in
theorem walk (v0 : Value) (l : List Fd) (s : ByteArray) (v2 : Value) (ws : List Int) (w : World) (hr : Rows w v0 fdC l) (hm : l.length ≤ maxLen) (hok : ∀ f ∈ l, -9223372036854775808 ≤ f.w ∧ f.w ≤ 9223372036854775807)
    (hr2 : Rows w v2 intC ws) (hm2 : ws.length ≤ maxLen) (hok2 : ∀ z ∈ ws, -9223372036854775808 ≤ z ∧ z ≤ 9223372036854775807) (hk : s.size ≤ 1048576) :
    Calls Try.prog 3 #[v0, .string s, v2] w fun e w' => e = .returned (.bool true) ∧ Below w.heap.size w w' := by
  obtain ⟨x, rfl⟩ : ∃ x, s = txt x := ⟨s.data.toList, rfl⟩
  have hxl : x.length ≤ 1048576 := hk
  obtain ⟨ad, cap, rfl⟩ := hr.shape
  obtain ⟨ad2, cap2, rfl⟩ := hr2.shape
  have HR : Hid _ := hr
  have HR2 : Hid (Rows w (.slice ad2 ws.length cap2) intF ws) := hr2
  have HM : Hid _ := hm
  have HM2 : Hid _ := hm2
  obtain ⟨t, ht⟩ : ∃ t, t = wbT l := ⟨_, rfl⟩
  obtain ⟨z, hz⟩ : ∃ z, z = wbE l := ⟨_, rfl⟩
  obtain ⟨y, hy⟩ : ∃ y, y = rE x ws := ⟨_, rfl⟩
  obtain ⟨q, hq⟩ : ∃ q, q = rK x ws := ⟨_, rfl⟩
  have k1 : Hid (∀ w' v, Rows w' v fdC l → Calls Try.prog 9 #[v] w' fun e w'' => e = .returned (.tuple #[.string (txt t), .int .i64 z]) ∧ Below w'.heap.size w' w'') := fun w' v h => by rw [ht, hz]; exact bwrite_any v l w' h HM.out
  have k2 : Hid (∀ w' v, Rows w' v fdC l → Calls Try.prog 11 #[v] w' fun e w'' => e = .returned (.tuple #[.string (txt t), .int .i64 z]) ∧ Below w'.heap.size w' w'') := fun w' v h => by rw [ht, hz]; exact bitsOf_any v l w' h HM.out
  have k3 : Hid (∀ w' v, Rows w' v intF ws → Calls Try.prog 10 #[.string (txt x), v] w' fun e w'' => ∃ v', e = .returned (.tuple #[v', .int .i64 (q : Int), .int .i64 y]) ∧ Rows w'' v' natF (rL x ws) ∧ Below w'.heap.size w' w'') := fun w' v h => by rw [hq, hy]; exact bread_any x v ws w' h (by omega) HM2.out
  have k4 : Hid (∀ w' v, Rows w' v intF ws → Calls Try.prog 12 #[.string (txt x), v] w' fun e w'' => ∃ v', e = .returned (.tuple #[v', .int .i64 (q : Int), .int .i64 y]) ∧ Rows w'' v' natF (rL x ws) ∧ Below w'.heap.size w' w'') := fun w' v h => by rw [hq, hy]; exact unbitsOf_any x v ws w' h (by omega) HM2.out
  have HLL : Hid ((rL x ws).length ≤ maxLen) := by
    show _ ≤ _
    unfold rL
    split
    · rw [rbL_length]; exact HM2.out
    · exact Nat.zero_le _
  have g1 : ((txt t).toList == (txt t).toList) = true := beq_self_eq_true _
  clear ht hz hy hq hr hr2 hm hm2 hok hok2 hk hxl
  go_enter Try.func3, Try.ntmps3
  go_wp2_with fail
  refine (k1.out _ _ HR.out).mono ?_
  rintro e w1 ⟨rfl, hb1⟩
  have HB1 : Hid _ := hb1
  have R1 : Hid _ := Rows.below HR.out hb1 (Nat.le_refl _)
  have S1 : Hid _ := Rows.below HR2.out hb1 (Nat.le_refl _)
  clear hb1
  go_wp2_with fail
  refine (k3.out _ _ S1.out).mono ?_
  rintro e w2 ⟨vb, rfl, rb, hb2⟩
  have HB2 : Hid _ := next HB1.out hb2
  have R2 : Hid _ := Rows.below R1.out hb2 (Nat.le_refl _)
  have S2 : Hid _ := Rows.below S1.out hb2 (Nat.le_refl _)
  have T2 : Hid _ := rb
  clear hb2 rb
  go_wp2_with fail
  refine (k2.out _ _ R2.out).mono ?_
  rintro e w3 ⟨rfl, hb3⟩
  have HB3 : Hid _ := next HB2.out hb3
  have S3 : Hid _ := Rows.below S2.out hb3 (Nat.le_refl _)
  have T3 : Hid _ := Rows.below T2.out hb3 (Nat.le_refl _)
  clear hb3
  go_wp2_with fail
  refine (k4.out _ _ S3.out).mono ?_
  rintro e w4 ⟨vc, rfl, rc, hb4⟩
  have HB4 : Hid _ := next HB3.out hb4
  have T4 : Hid _ := Rows.below T3.out hb4 (Nat.le_refl _)
  have U4 : Hid _ := rc
  clear hb4 rc
  go_wp2_with fail
  refine (bitsBegun_any _).mono ?_
  rintro e w5 ⟨rfl, hb5⟩
  have HB5 : Hid _ := next HB4.out hb5
  have T5 : Hid _ := Rows.below T4.out hb5 (Nat.le_refl _)
  have U5 : Hid _ := Rows.below U4.out hb5 (Nat.le_refl _)
  clear hb5
  go_wp2_with fail
  refine (sameN_any _ _ _ _ _ T5.out U5.out HLL.out HLL.out).mono ?_
  rw [decide_eq_true rfl]
  rintro e w6 ⟨rfl, n, hw6⟩
  have HB6 : Hid (Below w.heap.size w w6) := by rw [hw6]; exact HB5.out.trans (below_drewN' _ _ _)
  clear hw6
  go_wp2_with fail
  go_ret
  exact ⟨rfl, HB6.out⟩
set_option maxRecDepth 100000 in
theorem lifted (os : Os) (started : os.Started) (H : Type) (enc : TypeId × Value → H) (F : Stop.Interp) :
    ReturnsInHanded {} Try.checked os 3 .any ((Rows.OpenSpec.upto Rows.bitsTellsSpec).pre6 enc Try.prog Try.f3 Rows.bitsTellsUptoRow.domain false) (((Rows.OpenSpec.upto Rows.bitsTellsSpec).at F).post enc Try.prog Try.f3 false true false false) := by
  refine returnsInHanded_of_cond (C := Try.checked) (s := (Rows.OpenSpec.upto Rows.bitsTellsSpec)) (k := Rows.uptoSmall) rfl own started (by kernel_rfl) Try.func3
    (OpenSpec.witness (enc := enc) (C := Try.checked) (s := (Rows.OpenSpec.upto Rows.bitsTellsSpec)) (k := Rows.uptoSmall) rfl false ⟨#[], #[.slice none 0 0, .string ByteArray.empty, .slice none 0 0], []⟩ 8 (by kernel_rfl) (by kernel_rfl) (by kernel_rfl)
      (x := ([.nil, .lit (.string []), .nil], [], [])) (by kernel_rfl) rfl (by kernel_rfl)) ?_
  intro W base args ds gs before hval0 hW hcnd hk _
  have hval : ∀ (j : Nat) t v, Try.f3.params[j]? = some t → args[j]? = some v → Value.okWide Try.prog W .any base t v := hval0
  have hW' := hW
  obtain ⟨p, q, hA0, hV, rfl, hfz, hnd⟩ := hW
  have hA : DataW.TrodAll enc Try.prog W 0 (fun _ => true) true Try.f3.params.toList args.toList ds p := hA0
  rw [Try.params3] at hA hval
  obtain ⟨v0, vs0, d0, ds0, p0, q0, hargs, rfl, rfl, h0, r0⟩ := trodAll_cons hA
  obtain ⟨v1, vs1, d1, ds1, p1, q1, rfl, rfl, rfl, h1, r1⟩ := trodAll_cons r0
  obtain ⟨v2, vs2, d2, ds2, p2, q2, rfl, rfl, rfl, h2, r2⟩ := trodAll_cons r1
  obtain ⟨rfl, rfl, rfl⟩ := trodAll_nil r2
  obtain rfl : args = #[v0, v1, v2] := by cases args; simp_all
  obtain ⟨rfl, rfl⟩ := trodVars_none hV
  have k0 := h0
  have lt0 : ∀ x ∈ p0, x.block < W.heap.size := by obtain ⟨m, hm⟩ := k0; exact DataW.trod_lt m _ _ _ hm
  have k1 := h1
  have lt1 : ∀ x ∈ p1, x.block < W.heap.size := by obtain ⟨m, hm⟩ := k1; exact DataW.trod_lt m _ _ _ hm
  have k2 := h2
  have lt2 : ∀ x ∈ p2, x.block < W.heap.size := by obtain ⟨m, hm⟩ := k2; exact DataW.trod_lt m _ _ _ hm
  obtain ⟨l0, rd0, m0, ok0, bk0⟩ := open_fields (hval 0 22 v0 rfl rfl) k0 maxLen (fits_max _)
  obtain ⟨a1, rfl, rfl, hp1, w1⟩ := open_string Try.underlying9 (hval 1 9 v1 rfl rfl) h1
  obtain ⟨l2, rd2, m2, ok2, bk2⟩ := open_intsW (hval 2 23 v2 rfl rfl) k2 maxLen (fits_max _)
  have hbulk := bulk_of hk
  simp only [List.cons_append, List.nil_append, List.append_nil, Rows.uptoBulkAll] at hbulk
  have hbk0 := bk0
  have hbk1 := bulk_str (H := H) a1
  have hbk2 := bk2
  clear hA0 hval0
  refine (walk v0 l0 a1 v2 l2 W rd0 m0 ok0 rd2 m2 ok2 (by omega)).mono fun e W' ⟨he, bel⟩ => ?_
  subst he
  exact ⟨_, rfl, _, _, _, [], _, [], hW', trodAll_mk1 (shut_bool Try.underlying4 _), (trodAll_cons_mk (Below.trod laidOut (by kernel_rfl) (of_decide_eq_true (by kernel_rfl)) k0 bel lt0) (trodAll_cons_mk (Below.trod laidOut (by kernel_rfl) (of_decide_eq_true (by kernel_rfl)) k1 bel lt1) (trodAll_cons_mk (Below.trod laidOut (by kernel_rfl) (of_decide_eq_true (by kernel_rfl)) k2 bel lt2) trodAll_mk0))), rfl, bel.frame _, fun h => by cases h⟩

theorem proved : Rows.BitsTellsUptoSaid :=
  OpenClaim.holds_of_cond 3 Try.f3 rfl rfl rfl rfl rfl rfl rfl ⟨rfl, rfl, rfl, rfl, rfl⟩ rfl rfl rfl rfl rfl (by kernel_rfl) Try.func3 (by kernel_rfl)
    (of_decide_eq_true (by kernel_rfl)) (by unfold Func.isWrapper; first | (rw [if_pos (by decide +kernel)]; kernel_rfl) | (rw [if_neg (by decide +kernel)]; exact ⟨rfl, rfl⟩))
    (fun os started H enc _ F => lifted os started H enc F)
#print axioms proved
end Go.Proofs.Ytdcoiibakocbjaa.bitsTells
