/- PartsBack, where what comes in is of bulk at most 1048576: what is parted is joined as it was, and what is joined, of texts without that byte, is parted as it was; what came in reads as it did. (Beyond that bound a list of parts may take more bytes than any slice: the first form is false by size.) -/
import Derived.Test.YthdnlpojpbkpkaaWordI
import Derived.Test.YthdnlpojpbkpkaaOpen
namespace Go.Proofs.Ythdnlpojpbkpkaa.partsBack
open Go.ChangeShapes Go.WideShapes Go.ChangeAt Go.RowKit
open Go.ChangeMaps (open_string shut_string)
set_option linter.all false

theorem joinL_len (l : List (List UInt8)) (b : UInt8) : (joinL l b).length ≤ (l.map List.length).sum + l.length := by
  induction l with
  | nil => simp [joinL_nil]
  | cons x l ih =>
    cases l with
    | nil => simp [joinL_one]
    | cons y l =>
      rw [joinL_cons _ _ _ (by simp)]
      simp only [List.length_append, List.length_cons, List.map_cons, List.sum_cons] at ih ⊢
      omega

set_option maxHeartbeats 2000000 in
theorem walk (s : ByteArray) (b : UInt8) (vl : Value) (l : List (List UInt8)) (w : World) (rd : Reads w vl l.length (strs l)) (hm : l.length ≤ maxLen) (hmm : ∀ x ∈ l, x.length ≤ maxLen)
    (hk : s.size + ((l.map List.length).sum + l.length) ≤ 1048576) :
    Calls Try.prog 5 #[.string s, .int .u8 (b.toNat : Int), vl] w fun e w' => e = .returned (.bool true) ∧ Below w.heap.size w w' := by
  have hs : s.size ≤ maxLen := by unfold maxLen; omega
  have hs2 : (s.size + 1) * 16 ≤ 140737488355328 := by omega
  have hj := joinL_len l b
  have hj1 : (joinL l b).length ≤ 140737488355328 := by omega
  have hj3 : ((txt (joinL l b)).size + 1) * 16 ≤ 140737488355328 := by rw [txt_size]; omega
  have hpl : (partsL s.data.toList b).length ≤ s.size + 1 := partsL_len _ _
  have hpm : (partsL s.data.toList b).length ≤ maxLen := by unfold maxLen; omega
  have hpj : (joinL (partsL s.data.toList b) b).length ≤ 140737488355328 := by rw [join_parts]; show s.size ≤ _; omega
  have hlm : (l.length : Int) ≤ 1048576 := by omega
  clear hj
  have MM : Hid (∀ x ∈ l, x.length ≤ maxLen) := hmm
  have RD : Hid (Reads w vl l.length (strs l)) := rd
  obtain ⟨ad, cap, hvl, hr⟩ := rd
  subst hvl
  clear hmm
  go_enter Try.func5, Try.ntmps5
  go_wp2_with fail
  refine (wordBegun_any _).mono ?_
  rintro e w1 ⟨rfl, hb1⟩
  go_wp2_with fail
  refine (parts_any _ _ _ hs2).mono ?_
  rintro e w2 ⟨v2, rfl, hown2, hb2⟩
  go_wp2_with fail
  refine (join_any _ _ _ _ (Reads.of_own hown2) hpm hpj).mono ?_
  rw [join_parts, txt_of]
  rintro e w3 ⟨rfl, hb3⟩
  have g3 : Below w.heap.size w w3 := next (next hb1 hb2) hb3
  clear hb1 hb2 hb3 hown2
  go_wp2_with fail
  go_loopw [7] (fun i wr => ∃ k : Nat, k ≤ l.length ∧ i = .int .i64 k ∧ wr = w3 ∧ Hid (∀ (j : Nat) x, l[j]? = some x → j < k → ∀ c ∈ x, c ≠ b)) (fun i _ => l.length - (intOf i).toNat)
  case atStart => exact ⟨0, Nat.zero_le _, rfl, rfl, fun _ _ _ h => absurd h (by omega)⟩
  case round =>
    obtain ⟨k, hk2, rfl, rfl, hno⟩ := hrel
    by_cases hlt : k < l.length
    · have e1 := List.getElem?_eq_getElem hlt
      obtain ⟨x, hx⟩ : ∃ x, x = l[k] := ⟨_, rfl⟩
      rw [← hx] at e1
      rcases hr with hr | ⟨bl, ol, rfl, hr⟩
      · have : (strs l).length = l.length := strs_length l
        rw [hr] at this; simp at this; omega
      have hc0 := hr k _ (strs_get e1)
      have hc := (g3.cell (p := ⟨bl, ol + k, none⟩) (cell_in hc0)).trans hc0
      have hxs : (txt x).size ≤ maxLen := MM.out x (List.mem_of_getElem? e1)
      have EX : Hid (l[k]? = some x) := e1
      clear hr hc0 hx e1
      have hge := Lib.indexByte_ge x b
      by_cases hn : Lib.indexByte x b = -1
      · have HN : Hid (Lib.indexByte x b = -1) := hn
        clear hn hge
        go_wp2_with fail
        refine (placeOf_any _ _ _ hxs).mono ?_
        rw [txt_toList, HN.out]
        rintro e w4 ⟨rfl, rfl⟩
        go_wp2_with fail
        go_roundw
        case rel =>
          refine ⟨k + 1, by omega, by go_num, by first | rfl | trivial, fun j y hj hlt2 => ?_⟩
          by_cases e : j = k
          · subst e
            rw [EX.out] at hj
            injection hj with hj
            subst hj
            intro c hc
            obtain ⟨q, hq⟩ := List.getElem?_of_mem hc
            intro e'; subst e'
            exact Lib.indexByte_none HN.out q hq
          · exact hno.out j y hj (by omega)
        case measure => simp [intOf]; omega
      · obtain ⟨o, ho⟩ : ∃ o : Nat, Lib.indexByte x b = o := ⟨(Lib.indexByte x b).toNat, by omega⟩
        have HN : Hid (Lib.indexByte x b = o) := ho
        clear hn ho hge
        go_wp2_with fail
        refine (placeOf_any _ _ _ hxs).mono ?_
        rw [txt_toList, HN.out]
        rintro e w4 ⟨rfl, rfl⟩
        go_wp2_with fail
        go_ret
        exact ⟨rfl, g3⟩
    · by_cases h0 : l.length = 0
      · have h00 : ((l.length : Int) == 0) = true := by simp [h0]
        have H0 : Hid _ := h0
        clear h0
        go_wp2_with fail
        go_ret
        exact ⟨rfl, g3⟩
      · have h00 : ((l.length : Int) == 0) = false := by rw [beq_eq_false_iff_ne]; omega
        have HP : Hid (partsL (joinL l b) b = l) := parts_join l b (by intro e; rw [e] at h0; exact h0 rfl) (fun x hx c hc => by
          obtain ⟨j, hj⟩ := List.getElem?_of_mem hx
          exact hno.out j x hj (by have := (List.getElem?_eq_some_iff.1 hj).1; omega) c hc)
        clear h0
        have rd3 := RD.out.below g3 (Nat.le_refl _)
        clear hr hno
        go_wp2_with fail
        refine (join_any _ _ _ _ rd3 hm hj1).mono ?_
        rintro e w4 ⟨rfl, hb4⟩
        go_wp2_with fail
        refine (parts_any _ _ _ hj3).mono ?_
        rw [txt_toList, HP.out]
        rintro e w5 ⟨v5, rfl, hown5, hb5⟩
        have rd5 := (rd3.below hb4 (Nat.le_refl _)).below hb5 (Nat.le_refl _)
        go_wp2_with fail
        refine (same_any _ _ _ _ _ (Reads.of_own hown5) rd5 hm hm).mono ?_
        rw [show (l == l) = true from by simp]
        rintro e w6 ⟨rfl, n6, rfl⟩
        go_wp2_with fail
        go_ret
        exact ⟨rfl, next (next (next g3 hb4) hb5) (below_drewN' _ _ _)⟩

set_option maxRecDepth 100000 in
theorem lifted (os : Os) (started : os.Started) (H : Type) (enc : TypeId × Value → H) (F : Stop.Interp) :
    ReturnsInHanded {} Try.checked os 5 .any ((Rows.OpenSpec.upto Rows.partsBackSpec).pre6 enc Try.prog Try.f5 Rows.partsBackUptoRow.domain false) (((Rows.OpenSpec.upto Rows.partsBackSpec).at F).post enc Try.prog Try.f5 false true false false) := by
  refine returnsInHanded_of_cond (C := Try.checked) (s := (Rows.OpenSpec.upto Rows.partsBackSpec)) (k := Rows.uptoSmall) rfl own started (by kernel_rfl) Try.func5
    (OpenSpec.witness (enc := enc) (C := Try.checked) (s := (Rows.OpenSpec.upto Rows.partsBackSpec)) (k := Rows.uptoSmall) rfl false ⟨#[], #[.string ByteArray.empty, .int .u8 0, .slice none 0 0], []⟩ 8 (by kernel_rfl) (by kernel_rfl) (by kernel_rfl)
      (x := ([.lit (.string []), .lit (.int .u8 0), .nil], [], [])) (by kernel_rfl) rfl (by kernel_rfl)) ?_
  intro W base args ds gs before hval0 hW hcnd hk _
  have hval : ∀ (j : Nat) t v, Try.f5.params[j]? = some t → args[j]? = some v → Value.okWide Try.prog W .any base t v := hval0
  have hW' := hW
  obtain ⟨p, q, hA0, hV, rfl, hfz, hnd⟩ := hW
  have hA : DataW.TrodAll enc Try.prog W 0 (fun _ => true) true Try.f5.params.toList args.toList ds p := hA0
  rw [Try.params5] at hA hval
  obtain ⟨v0, vs0, d0, ds0, p0, q0, hargs, rfl, rfl, h0, r0⟩ := trodAll_cons hA
  obtain ⟨v1, vs1, d1, ds1, p1, q1, rfl, rfl, rfl, h1, r1⟩ := trodAll_cons r0
  obtain ⟨v2, vs2, d2, ds2, p2, q2, rfl, rfl, rfl, h2, r2⟩ := trodAll_cons r1
  obtain ⟨rfl, rfl, rfl⟩ := trodAll_nil r2
  obtain rfl : args = #[v0, v1, v2] := by cases args; simp_all
  obtain ⟨rfl, rfl⟩ := trodVars_none hV
  have k0 := h0
  have lt0 : ∀ x ∈ p0, x.block < W.heap.size := by obtain ⟨m, hm⟩ := k0; exact DataW.trod_lt m _ _ _ hm
  have k1 := h1
  have lt1 : ∀ x ∈ p1, x.block < W.heap.size := by obtain ⟨m, hm⟩ := k1; exact DataW.trod_lt m _ _ _ hm
  have k2 := h2
  have lt2 : ∀ x ∈ p2, x.block < W.heap.size := by obtain ⟨m, hm⟩ := k2; exact DataW.trod_lt m _ _ _ hm
  obtain ⟨a0, rfl, rfl, hp0, w0⟩ := open_string Try.underlying9 (hval 0 9 v0 rfl rfl) h0
  obtain ⟨x1, rfl, rfl, hp1, w1⟩ := open_int Try.underlying5 (hval 1 5 v1 rfl rfl) h1
  obtain ⟨a1, rfl⟩ := u8_of w1
  obtain ⟨l2, rd2, m2, mm2, dd2⟩ := open_texts Try.underlying25 Try.underlying9 (by kernel_rfl) (hval 2 25 v2 rfl rfl) k2
  have hbulk := bulk_of hk
  simp only [List.cons_append, List.nil_append, List.append_nil, Rows.uptoBulkAll] at hbulk
  have hbk0 := bulk_str (H := H) a0
  have hbk1 := bulk_list dd2
  clear hA0 hval0
  refine (walk a0 a1 v2 l2 W rd2 m2 mm2 (by omega)).mono fun e W' ⟨he, bel⟩ => ?_
  subst he
  exact ⟨_, rfl, _, _, _, [], _, [], hW', trodAll_mk1 (shut_bool Try.underlying4 _), (trodAll_cons_mk (Below.trod laidOut (by kernel_rfl) (of_decide_eq_true (by kernel_rfl)) k0 bel lt0) (trodAll_cons_mk (Below.trod laidOut (by kernel_rfl) (of_decide_eq_true (by kernel_rfl)) k1 bel lt1) (trodAll_cons_mk (Below.trod laidOut (by kernel_rfl) (of_decide_eq_true (by kernel_rfl)) k2 bel lt2) trodAll_mk0))), rfl, bel.frame _, fun h => by cases h⟩

theorem proved : Rows.PartsBackUptoSaid :=
  OpenClaim.holds_of_cond 5 Try.f5 rfl rfl rfl rfl rfl rfl rfl ⟨rfl, rfl, rfl, rfl, rfl⟩ rfl rfl rfl rfl rfl (by kernel_rfl) Try.func5 (by kernel_rfl)
    (of_decide_eq_true (by kernel_rfl)) (by unfold Func.isWrapper; first | (rw [if_pos (by decide +kernel)]; kernel_rfl) | (rw [if_neg (by decide +kernel)]; exact ⟨rfl, rfl⟩))
    (fun os started H enc _ F => lifted os started H enc F)
#print axioms proved
end Go.Proofs.Ythdnlpojpbkpkaa.partsBack
