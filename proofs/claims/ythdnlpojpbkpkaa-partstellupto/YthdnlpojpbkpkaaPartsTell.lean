/- PartsTell, where what comes in is of bulk at most 1048576: the program's Cut, Parts and Join answer what the document's own answer; what came in reads as it did. (Beyond that bound a list of parts may take more bytes than any slice: the first form is false by size.) -/
import Derived.Test.YthdnlpojpbkpkaaWordI
import Derived.Test.YthdnlpojpbkpkaaOpen
namespace Go.Proofs.Ythdnlpojpbkpkaa.partsTell
open Go.ChangeShapes Go.WideShapes Go.ChangeAt Go.RowKit
open Go.ChangeMaps (open_string shut_string)
set_option linter.all false

theorem joinL_len (l : List (List UInt8)) (b : UInt8) : (joinL l b).length ≤ (l.map List.length).sum + l.length := by
  induction l with
  | nil => simp [joinL_nil]
  | cons x l ih =>
    cases l with
    | nil => simp [joinL_one]
    | cons y l =>
      rw [joinL_cons _ _ _ (by simp)]
      simp only [List.length_append, List.length_cons, List.map_cons, List.sum_cons] at ih ⊢
      omega

set_option maxHeartbeats 2000000 in
theorem walk (s : ByteArray) (b : UInt8) (vl : Value) (l : List (List UInt8)) (w : World) (rd : Reads w vl l.length (strs l)) (hm : l.length ≤ maxLen) (hmm : ∀ x ∈ l, x.length ≤ maxLen)
    (hk : s.size + ((l.map List.length).sum + l.length) ≤ 1048576) :
    Calls Try.prog 4 #[.string s, .int .u8 (b.toNat : Int), vl] w fun e w' => e = .returned (.bool true) ∧ Below w.heap.size w w' := by
  have hs : s.size ≤ maxLen := by unfold maxLen; omega
  have hs2 : (s.size + 1) * 16 ≤ 140737488355328 := by omega
  have hj := joinL_len l b
  have hj1 : (joinL l b).length ≤ 140737488355328 := by omega
  have hj2 : (joinL l b).length < 4611686018427387904 := by omega
  have hpl : (partsL s.data.toList b).length ≤ s.size + 1 := partsL_len _ _
  have hpm : (partsL s.data.toList b).length ≤ maxLen := by unfold maxLen; omega
  have hsame : (partsL s.data.toList b == partsL s.data.toList b) = true := by simp
  have HSM : Hid _ := hsame
  clear hsame hj
  have hge := Lib.indexByte_ge s.data.toList b
  by_cases hn : Lib.indexByte s.data.toList b = -1
  · obtain ⟨e1, e2, e3⟩ := cut_none _ _ hn
    have E1 : Hid (cutA s.data.toList b = s.data.toList) := e1
    have E2 : Hid (cutB s.data.toList b = []) := e2
    have E3 : Hid (hasB s.data.toList b = false) := e3
    have HN : Hid (Lib.indexByte s.data.toList b = -1) := hn
    clear hn e1 e2 e3 hge
    go_enter Try.func4, Try.ntmps4
    go_wp2_with fail
    refine (cut_any _ _ _ hs).mono ?_
    rw [E1.out, E2.out, E3.out, txt_of, show txt [] = (⟨#[]⟩ : ByteArray) from rfl]
    rintro e w1 ⟨rfl, n1, rfl⟩
    go_wp2_with fail
    refine (placeOf_any _ _ _ hs).mono ?_
    rw [HN.out]
    rintro e w2 ⟨rfl, rfl⟩
    go_wp2_with fail
    refine (wordBegun_any _).mono ?_
    rintro e w3 ⟨rfl, hb3⟩
    go_wp2_with fail
    refine (parts_any _ _ _ hs2).mono ?_
    rintro e w4 ⟨v4, rfl, hown4, hb4⟩
    go_wp2_with fail
    refine (partsOf_any _ _ _ hs2).mono ?_
    rintro e w5 ⟨v5, rfl, hown5, hb5⟩
    go_wp2_with fail
    refine (same_any _ _ _ _ _ (Reads.of_own (own_below hown4 hb5 (Nat.le_refl _))) (Reads.of_own hown5) hpm hpm).mono ?_
    rw [HSM.out]
    rintro e w6 ⟨rfl, n6, rfl⟩
    have g5 : Below w.heap.size w w5 := next (next (next (below_drewN' w _ n1) hb3) hb4) hb5
    have rd6 : Reads (w5.drewN n6) vl l.length (strs l) := (rd.below g5 (Nat.le_refl _)).drewN n6
    go_wp2_with fail
    refine (join_any _ _ _ _ rd6 hm hj1).mono ?_
    rintro e w7 ⟨rfl, hb7⟩
    have rd7 := rd6.below hb7 (Nat.le_refl _)
    go_wp2_with fail
    refine (joinOf_any _ _ _ _ rd7 hm hj2).mono ?_
    rintro e w8 ⟨rfl, hb8⟩
    go_wp2_with fail
    go_ret
    exact ⟨rfl, next (next (next g5 (below_drewN' _ _ n6)) hb7) hb8⟩
  · obtain ⟨o, ho⟩ : ∃ o : Nat, Lib.indexByte s.data.toList b = o := ⟨(Lib.indexByte s.data.toList b).toNat, by omega⟩
    obtain ⟨e1, e2, e3, e4⟩ := cut_some _ _ _ ho
    have e4' : o < s.size := e4
    have E1 : Hid (txt (cutA s.data.toList b) = s.extract 0 o) := by show _ = _; rw [ext_to, e1]
    have E2 : Hid (txt (cutB s.data.toList b) = s.extract (o + 1) s.size) := by show _ = _; rw [ext_from, e2]
    have E3 : Hid (hasB s.data.toList b = true) := e3
    have HN : Hid (Lib.indexByte s.data.toList b = o) := ho
    clear hn ho e1 e2 e3 e4 hge
    go_enter Try.func4, Try.ntmps4
    go_wp2_with fail
    refine (cut_any _ _ _ hs).mono ?_
    rw [E1.out, E2.out, E3.out]
    rintro e w1 ⟨rfl, n1, rfl⟩
    go_wp2_with fail
    refine (placeOf_any _ _ _ hs).mono ?_
    rw [HN.out]
    rintro e w2 ⟨rfl, rfl⟩
    go_wp2_with fail
    go_quiet (fail)
    go_wp2_with fail
    refine (wordBegun_any _).mono ?_
    rintro e w3 ⟨rfl, hb3⟩
    go_wp2_with fail
    refine (parts_any _ _ _ hs2).mono ?_
    rintro e w4 ⟨v4, rfl, hown4, hb4⟩
    go_wp2_with fail
    refine (partsOf_any _ _ _ hs2).mono ?_
    rintro e w5 ⟨v5, rfl, hown5, hb5⟩
    go_wp2_with fail
    refine (same_any _ _ _ _ _ (Reads.of_own (own_below hown4 hb5 (Nat.le_refl _))) (Reads.of_own hown5) hpm hpm).mono ?_
    rw [HSM.out]
    rintro e w6 ⟨rfl, n6, rfl⟩
    have g5 : Below w.heap.size w w5 := next (next (next (below_drewN' w _ _) hb3) hb4) hb5
    have rd6 : Reads (w5.drewN n6) vl l.length (strs l) := (rd.below g5 (Nat.le_refl _)).drewN n6
    go_wp2_with fail
    refine (join_any _ _ _ _ rd6 hm hj1).mono ?_
    rintro e w7 ⟨rfl, hb7⟩
    have rd7 := rd6.below hb7 (Nat.le_refl _)
    go_wp2_with fail
    refine (joinOf_any _ _ _ _ rd7 hm hj2).mono ?_
    rintro e w8 ⟨rfl, hb8⟩
    go_wp2_with fail
    go_ret
    exact ⟨rfl, next (next (next g5 (below_drewN' _ _ n6)) hb7) hb8⟩

set_option maxRecDepth 100000 in
theorem lifted (os : Os) (started : os.Started) (H : Type) (enc : TypeId × Value → H) (F : Stop.Interp) :
    ReturnsInHanded {} Try.checked os 4 .any ((Rows.OpenSpec.upto Rows.partsTellSpec).pre6 enc Try.prog Try.f4 Rows.partsTellUptoRow.domain false) (((Rows.OpenSpec.upto Rows.partsTellSpec).at F).post enc Try.prog Try.f4 false true false false) := by
  refine returnsInHanded_of_cond (C := Try.checked) (s := (Rows.OpenSpec.upto Rows.partsTellSpec)) (k := Rows.uptoSmall) rfl own started (by kernel_rfl) Try.func4
    (OpenSpec.witness (enc := enc) (C := Try.checked) (s := (Rows.OpenSpec.upto Rows.partsTellSpec)) (k := Rows.uptoSmall) rfl false ⟨#[], #[.string ByteArray.empty, .int .u8 0, .slice none 0 0], []⟩ 8 (by kernel_rfl) (by kernel_rfl) (by kernel_rfl)
      (x := ([.lit (.string []), .lit (.int .u8 0), .nil], [], [])) (by kernel_rfl) rfl (by kernel_rfl)) ?_
  intro W base args ds gs before hval0 hW hcnd hk _
  have hval : ∀ (j : Nat) t v, Try.f4.params[j]? = some t → args[j]? = some v → Value.okWide Try.prog W .any base t v := hval0
  have hW' := hW
  obtain ⟨p, q, hA0, hV, rfl, hfz, hnd⟩ := hW
  have hA : DataW.TrodAll enc Try.prog W 0 (fun _ => true) true Try.f4.params.toList args.toList ds p := hA0
  rw [Try.params4] at hA hval
  obtain ⟨v0, vs0, d0, ds0, p0, q0, hargs, rfl, rfl, h0, r0⟩ := trodAll_cons hA
  obtain ⟨v1, vs1, d1, ds1, p1, q1, rfl, rfl, rfl, h1, r1⟩ := trodAll_cons r0
  obtain ⟨v2, vs2, d2, ds2, p2, q2, rfl, rfl, rfl, h2, r2⟩ := trodAll_cons r1
  obtain ⟨rfl, rfl, rfl⟩ := trodAll_nil r2
  obtain rfl : args = #[v0, v1, v2] := by cases args; simp_all
  obtain ⟨rfl, rfl⟩ := trodVars_none hV
  have k0 := h0
  have lt0 : ∀ x ∈ p0, x.block < W.heap.size := by obtain ⟨m, hm⟩ := k0; exact DataW.trod_lt m _ _ _ hm
  have k1 := h1
  have lt1 : ∀ x ∈ p1, x.block < W.heap.size := by obtain ⟨m, hm⟩ := k1; exact DataW.trod_lt m _ _ _ hm
  have k2 := h2
  have lt2 : ∀ x ∈ p2, x.block < W.heap.size := by obtain ⟨m, hm⟩ := k2; exact DataW.trod_lt m _ _ _ hm
  obtain ⟨a0, rfl, rfl, hp0, w0⟩ := open_string Try.underlying9 (hval 0 9 v0 rfl rfl) h0
  obtain ⟨x1, rfl, rfl, hp1, w1⟩ := open_int Try.underlying5 (hval 1 5 v1 rfl rfl) h1
  obtain ⟨a1, rfl⟩ := u8_of w1
  obtain ⟨l2, rd2, m2, mm2, dd2⟩ := open_texts Try.underlying25 Try.underlying9 (by kernel_rfl) (hval 2 25 v2 rfl rfl) k2
  have hbulk := bulk_of hk
  simp only [List.cons_append, List.nil_append, List.append_nil, Rows.uptoBulkAll] at hbulk
  have hbk0 := bulk_str (H := H) a0
  have hbk1 := bulk_list dd2
  clear hA0 hval0
  refine (walk a0 a1 v2 l2 W rd2 m2 mm2 (by omega)).mono fun e W' ⟨he, bel⟩ => ?_
  subst he
  exact ⟨_, rfl, _, _, _, [], _, [], hW', trodAll_mk1 (shut_bool Try.underlying4 _), (trodAll_cons_mk (Below.trod laidOut (by kernel_rfl) (of_decide_eq_true (by kernel_rfl)) k0 bel lt0) (trodAll_cons_mk (Below.trod laidOut (by kernel_rfl) (of_decide_eq_true (by kernel_rfl)) k1 bel lt1) (trodAll_cons_mk (Below.trod laidOut (by kernel_rfl) (of_decide_eq_true (by kernel_rfl)) k2 bel lt2) trodAll_mk0))), rfl, bel.frame _, fun h => by cases h⟩

theorem proved : Rows.PartsTellUptoSaid :=
  OpenClaim.holds_of_cond 4 Try.f4 rfl rfl rfl rfl rfl rfl rfl ⟨rfl, rfl, rfl, rfl, rfl⟩ rfl rfl rfl rfl rfl (by kernel_rfl) Try.func4 (by kernel_rfl)
    (of_decide_eq_true (by kernel_rfl)) (by unfold Func.isWrapper; first | (rw [if_pos (by decide +kernel)]; kernel_rfl) | (rw [if_neg (by decide +kernel)]; exact ⟨rfl, rfl⟩))
    (fun os started H enc _ F => lifted os started H enc F)
#print axioms proved
end Go.Proofs.Ythdnlpojpbkpkaa.partsTell
