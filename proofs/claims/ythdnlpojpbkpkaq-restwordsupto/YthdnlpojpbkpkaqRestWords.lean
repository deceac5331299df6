/- RestWords, where what comes in is of bulk at most 1048576: texts that are handed in stay what they were, the room behind them too, and no answer shares anything with them; what came in reads as it did. (Beyond that bound a list of parts may take more bytes than any slice: the first form is false by size.) -/
import Derived.Test.YthdnlpojpbkpkaqWordI
import Derived.Test.YthdnlpojpbkpkaqOpen
import Derived.Test.YthdnlpojpbkpkaqKit2
namespace Go.Proofs.Ythdnlpojpbkpkaq.restWords
open Go.ChangeShapes Go.WideShapes Go.ChangeAt Go.RowKit
open Go.ChangeMaps (open_string shut_string)
set_option linter.all false

theorem joinL_len (l : List (List UInt8)) (b : UInt8) : (joinL l b).length ≤ (l.map List.length).sum + l.length := by
  induction l with
  | nil => simp [joinL_nil]
  | cons x l ih =>
    cases l with
    | nil => simp [joinL_one]
    | cons y l =>
      rw [joinL_cons _ _ _ (by simp)]
      simp only [List.length_append, List.length_cons, List.map_cons, List.sum_cons] at ih ⊢
      omega
theorem strs_one (l : List (List UInt8)) : ∀ u ∈ strs l, u.oneCell' = true := by
  intro u hu
  simp only [strs, List.mem_map] at hu
  obtain ⟨x, _, rfl⟩ := hu
  rfl

theorem own_cap {W : World} {base : Nat} {e : TypeId} {size g cap n : Nat} {xs : List Value} (h : W.ownsRow base e size (.slice (some ⟨g, 0, none⟩) n cap) n xs) : n ≤ cap := by
  rcases h.2 with ⟨h', _⟩ | ⟨g', cap', cur, h', _, _, hn, _⟩
  · cases h'
  · cases h'; exact hn

set_option maxHeartbeats 2000000 in
theorem walk (vl : Value) (l : List (List UInt8)) (b : UInt8) (w : World) (rd : Reads w vl l.length (strs l)) (hm : l.length ≤ maxLen) (hmm : ∀ x ∈ l, x.length ≤ maxLen)
    (hk : (l.map List.length).sum + l.length ≤ 1048576) :
    Calls Try.prog 3 #[vl, .int .u8 (b.toNat : Int)] w fun e w' => e = .returned (.bool true) ∧ Below w.heap.size w w' := by
  have hj := joinL_len l b
  have hj1 : (joinL l b).length ≤ 140737488355328 := by omega
  have hj3 : ((txt (joinL l b)).size + 1) * 16 ≤ 140737488355328 := by rw [txt_size]; omega
  have hpl : (partsL (joinL l b) b).length ≤ (joinL l b).length + 1 := partsL_len _ _
  obtain ⟨np, hnp⟩ : ∃ np, (partsL (joinL l b) b).length = np + 1 := by
    have := partsL_ne (joinL l b) b
    cases e : partsL (joinL l b) b with
    | nil => exact absurd e this
    | cons x y => exact ⟨y.length, rfl⟩
  have hlm : l.length ≤ 1048576 := by omega
  obtain ⟨i0, hi, hz0, hz1, hz2⟩ := info_parts info_str
  have RD : Hid (Reads w vl l.length (strs l)) := rd
  obtain ⟨ad, cap, hvl, hr⟩ := rd
  subst hvl
  clear hmm hr
  have NP : Hid ((partsL (joinL l b) b).length = np + 1) := hnp
  have hnp2 : np ≤ 1048576 := by omega
  clear hnp hpl hj
  go_enter Try.func3, Try.ntmps3
  go_wp2_with (first
    | (at_make; refine wpList_make_own _ rfl (.const (.int .i64 0)) (.tmp 11) 22 rfl w.heap.size 9 i0 (.string ⟨#[]⟩) 1 Try.underlying22 hi hz0 hz1 .i64 .i64 _ (l.length + 1) rfl rfl (by simp) (by rw [hz2]; omega) (by unfold maxLen; omega) (Nat.le_refl _) ?_; intro w1 hown1 hg1; have g1 : Below w.heap.size w w1 := (Below.refl _ w).grown hg1 (Nat.le_refl _) (fun q e => by cases e); have rd1 := RD.out.below g1 (Nat.le_refl _))
    | (at_builtin; refine wpList_append_reads _ rfl (.tmp 12) (.tmp 13) 22 rfl w.heap.size 9 i0 (.string ⟨#[]⟩) 1 16 Try.underlying22 hi hz0 hz1 hz2 rfl (by decide) _ _ _ rfl hown1 _ l.length (strs l) rfl rd1 (by rw [strs_length]; omega) (strs_one l) (by unfold maxLen; omega) (by omega) g1.size ?_; intro v2 w2 hown2 hg2; have g2 : Below w.heap.size w w2 := g1.grown hg2 g1.size (fun q e => (hown1.lt q e).1); simp only [List.nil_append, Nat.zero_add] at hown2)
    | (at_builtin; refine wpList_append_own _ rfl (.tmp 14) (.tmp 15) 22 rfl w.heap.size 9 i0 (.string ⟨#[]⟩) 1 16 Try.underlying22 hi hz0 hz1 hz2 rfl (by decide) _ _ _ rfl (hown2.alloc _) ⟨w2.heap.size, 0, none⟩ 1 1 [.string ⟨#[114, 111, 111, 109]⟩] rfl rfl (cell_one_new _ _ _) (by simp [Value.oneCell']) (by unfold maxLen; omega) (by omega) (by have := g2.size; simp; omega) ?_; intro v3 w3 hown3 hg3 _; have g3 : Below w.heap.size w w3 := (g2.alloc g2.size _).grown hg3 (g2.alloc g2.size _).size (fun q e => (hown2.lt q e).1); obtain ⟨gt, ct, rfl⟩ := ownsRow_succ hown3; have hct : l.length + 1 ≤ ct := own_cap hown3))
  have rdt : Reads w3 (.slice (some ⟨gt, 0, none⟩) l.length ct) l.length (strs l) := ⟨_, ct, rfl, .inr ⟨gt, 0, rfl, fun j u hj => by
    have hj' := (List.getElem?_eq_some_iff.1 hj).1
    have hj2 : j < l.length := by rw [strs_length] at hj'; exact hj'
    rw [Nat.zero_add, hown3.cellAt j (by omega), List.getElem?_append_left hj']
    exact hj⟩⟩
  have hroom : w3.cell? ⟨gt, l.length, none⟩ = some (.string ⟨#[114, 111, 111, 109]⟩) := by
    rw [hown3.cellAt l.length (by omega), List.getElem?_append_right (by rw [strs_length]; exact Nat.le_refl _), strs_length]
    simp
  have rd3 := RD.out.below g3 (Nat.le_refl _)
  clear hown1 hg1 g1 rd1 hown2 hg2 g2 hown3 hg3
  refine (join_any _ _ _ _ rdt hm hj1).mono ?_
  rintro e w4 ⟨rfl, hb4⟩
  go_wp2_with fail
  refine (parts_any _ _ _ hj3).mono ?_
  rw [txt_toList]
  rintro e w5 ⟨v5, rfl, hown5, hb5⟩
  rw [NP.out] at hown5
  obtain ⟨gp, cp, hv5⟩ := ownsRow_succ hown5
  subst hv5
  go_wp2_with fail
  refine (wordBegun_any _).mono ?_
  rintro e w6 ⟨rfl, hb6⟩
  have hown6 := own_below hown5 hb6 (Nat.le_refl _)
  have hgp : w4.heap.size ≤ gp := (hown5.lt gp rfl).1
  have g46 : Below w4.heap.size w4 w6 := next hb5 hb6
  clear hown5 hb5 hb6
  go_wp2_with fail
  go_loopw [8] (fun i wr => ∃ (k : Nat) (ys : List Value), k ≤ np + 1 ∧ i = .int .i64 k ∧ wr.ownsRow w4.heap.size 9 1 (.slice (some ⟨gp, 0, none⟩) (np + 1) cp) (np + 1) ys ∧ Below w4.heap.size w4 wr) (fun i _ => np + 1 - (intOf i).toNat)
  case atStart => exact ⟨0, _, Nat.zero_le _, rfl, hown6, g46⟩
  case round =>
    obtain ⟨k, ys, hk2, rfl, hown, hb⟩ := hrel
    by_cases hlt : k < np + 1
    · have hyl : k < ys.length := by have := hown.1; omega
      have hck : wr.cell? ⟨gp, k, none⟩ = some ys[k] := by rw [hown.cellAt k (by omega), List.getElem?_eq_getElem hyl]
      have hfk := hown.frozenAt k
      obtain ⟨y, hy⟩ : ∃ y, y = ys[k] := ⟨_, rfl⟩
      rw [← hy] at hck
      clear hy
      have hst := hown.stored k (.string ⟨#[122]⟩)
      have HST : Hid _ := hst
      clear hst
      go_wp2_with fail
      go_roundw
      case rel => exact ⟨k + 1, _, by omega, by go_num, HST.out.1, hb.setCell (by exact hgp) _⟩
      case measure => simp [intOf]; omega
    · have rdt4 := (rdt.below hb4 (Nat.le_refl _)).below hb (Nat.le_refl _)
      have rd4 := (rd3.below hb4 (Nat.le_refl _)).below hb (Nat.le_refl _)
      have hroom4 : wr.cell? ⟨gt, l.length, none⟩ = some (.string ⟨#[114, 111, 111, 109]⟩) := by
        have h1 := (hb4.cell (p := ⟨gt, l.length, none⟩) (cell_in hroom)).trans hroom
        exact (hb.cell (p := ⟨gt, l.length, none⟩) (cell_in h1)).trans h1
      have gwr : Below w.heap.size w wr := next (next g3 hb4) hb
      clear hown hb rdt rd3 hroom
      go_wp2_with fail
      refine (same_any _ _ _ _ _ rdt4 rd4 hm hm).mono ?_
      rw [show (l == l) = true from by simp]
      rintro e w7 ⟨rfl, n7, rfl⟩
      go_wp2_with fail
      refine (join_any _ _ _ _ (rdt4.drewN n7) hm hj1).mono ?_
      rintro e w8 ⟨rfl, hb8⟩
      go_wp2_with fail
      go_ret
      exact ⟨rfl, next (next gwr (below_drewN' _ _ n7)) hb8⟩

set_option maxRecDepth 100000 in
theorem lifted (os : Os) (started : os.Started) (H : Type) (enc : TypeId × Value → H) (F : Stop.Interp) :
    ReturnsInHanded {} Try.checked os 3 .any ((Rows.OpenSpec.upto Rows.restWordsSpec).pre6 enc Try.prog Try.f3 Rows.restWordsUptoRow.domain false) (((Rows.OpenSpec.upto Rows.restWordsSpec).at F).post enc Try.prog Try.f3 false true false false) := by
  refine returnsInHanded_of_cond (C := Try.checked) (s := (Rows.OpenSpec.upto Rows.restWordsSpec)) (k := Rows.uptoSmall) rfl own started (by kernel_rfl) Try.func3
    (OpenSpec.witness (enc := enc) (C := Try.checked) (s := (Rows.OpenSpec.upto Rows.restWordsSpec)) (k := Rows.uptoSmall) rfl false ⟨#[], #[.slice none 0 0, .int .u8 0], []⟩ 8 (by kernel_rfl) (by kernel_rfl) (by kernel_rfl)
      (x := ([.nil, .lit (.int .u8 0)], [], [])) (by kernel_rfl) rfl (by kernel_rfl)) ?_
  intro W base args ds gs before hval0 hW hcnd hk _
  have hval : ∀ (j : Nat) t v, Try.f3.params[j]? = some t → args[j]? = some v → Value.okWide Try.prog W .any base t v := hval0
  have hW' := hW
  obtain ⟨p, q, hA0, hV, rfl, hfz, hnd⟩ := hW
  have hA : DataW.TrodAll enc Try.prog W 0 (fun _ => true) true Try.f3.params.toList args.toList ds p := hA0
  rw [Try.params3] at hA hval
  obtain ⟨v0, vs0, d0, ds0, p0, q0, hargs, rfl, rfl, h0, r0⟩ := trodAll_cons hA
  obtain ⟨v1, vs1, d1, ds1, p1, q1, rfl, rfl, rfl, h1, r1⟩ := trodAll_cons r0
  obtain ⟨rfl, rfl, rfl⟩ := trodAll_nil r1
  obtain rfl : args = #[v0, v1] := by cases args; simp_all
  obtain ⟨rfl, rfl⟩ := trodVars_none hV
  have k0 := h0
  have lt0 : ∀ x ∈ p0, x.block < W.heap.size := by obtain ⟨m, hm⟩ := k0; exact DataW.trod_lt m _ _ _ hm
  have k1 := h1
  have lt1 : ∀ x ∈ p1, x.block < W.heap.size := by obtain ⟨m, hm⟩ := k1; exact DataW.trod_lt m _ _ _ hm
  obtain ⟨l0, rd0, m0, mm0, dd0⟩ := open_texts Try.underlying22 Try.underlying9 (by kernel_rfl) (hval 0 22 v0 rfl rfl) k0
  obtain ⟨x1, rfl, rfl, hp1, w1⟩ := open_int Try.underlying5 (hval 1 5 v1 rfl rfl) h1
  obtain ⟨a1, rfl⟩ := u8_of w1
  have hbulk := bulk_of hk
  simp only [List.cons_append, List.nil_append, List.append_nil, Rows.uptoBulkAll] at hbulk
  have hbk0 := bulk_list dd0
  clear hA0 hval0
  refine (walk v0 l0 a1 W rd0 m0 mm0 (by omega)).mono fun e W' ⟨he, bel⟩ => ?_
  subst he
  exact ⟨_, rfl, _, _, _, [], _, [], hW', trodAll_mk1 (shut_bool Try.underlying4 _), (trodAll_cons_mk (Below.trod laidOut (by kernel_rfl) (of_decide_eq_true (by kernel_rfl)) k0 bel lt0) (trodAll_cons_mk (Below.trod laidOut (by kernel_rfl) (of_decide_eq_true (by kernel_rfl)) k1 bel lt1) trodAll_mk0)), rfl, bel.frame _, fun h => by cases h⟩

theorem proved : Rows.RestWordsUptoSaid :=
  OpenClaim.holds_of_cond 3 Try.f3 rfl rfl rfl rfl rfl rfl rfl ⟨rfl, rfl, rfl, rfl, rfl⟩ rfl rfl rfl rfl rfl (by kernel_rfl) Try.func3 (by kernel_rfl)
    (of_decide_eq_true (by kernel_rfl)) (by unfold Func.isWrapper; first | (rw [if_pos (by decide +kernel)]; kernel_rfl) | (rw [if_neg (by decide +kernel)]; exact ⟨rfl, rfl⟩))
    (fun os started H enc _ F => lifted os started H enc F)
#print axioms proved
end Go.Proofs.Ythdnlpojpbkpkaq.restWords
