/- The contract of the document's moment of a text. -/
import Derived.Test.YtlabffopbambjabDoorStampR
import Derived.Test.YtlabffopbambjabDoorClockS
import Derived.Deep.RegionHeld3
namespace Go.Proofs.YtlabffopbambjabDoor
open Go.RowKit
set_option linter.all false

def yOf (d : DS) : Int := if d.f 3 then fullY (d.t 9) else 0
/-- the cells of the document's time -/
def timeC (d : DS) (j : Nat) : Value := .int .i64 (if j = 0 then yOf d else if j = 1 then d.t 6 else if j = 2 then d.t 3 else d.t (j - 3))
theorem timeC_put0 (d : DS) (a b c : Int) (j : Nat) (hj : j < 6) : timeC (d.put 0 (a, b, c)) j = if j = 5 then .int .i64 c else if j = 4 then .int .i64 b else if j = 3 then .int .i64 a else timeC d j := by
  have h6 : j = 0 ∨ j = 1 ∨ j = 2 ∨ j = 3 ∨ j = 4 ∨ j = 5 := by omega
  rcases h6 with rfl | rfl | rfl | rfl | rfl | rfl <;> rfl
theorem timeC_put1 (d : DS) (n : Int) (j : Nat) (hj : j < 6) : timeC (d.put 1 (n, 0, 0)) j = if j = 2 then .int .i64 n else timeC d j := by
  have h6 : j = 0 ∨ j = 1 ∨ j = 2 ∨ j = 3 ∨ j = 4 ∨ j = 5 := by omega
  rcases h6 with rfl | rfl | rfl | rfl | rfl | rfl <;> rfl
theorem timeC_put2 (d : DS) (n : Int) (j : Nat) (hj : j < 6) : timeC (d.put 2 (n, 0, 0)) j = if j = 1 then .int .i64 n else timeC d j := by
  have h6 : j = 0 ∨ j = 1 ∨ j = 2 ∨ j = 3 ∨ j = 4 ∨ j = 5 := by omega
  rcases h6 with rfl | rfl | rfl | rfl | rfl | rfl <;> rfl
theorem timeC_put3 (d : DS) (n : Int) (j : Nat) (hj : j < 6) : timeC (d.put 3 (n, 0, 0)) j = if j = 0 then .int .i64 (fullY n) else timeC d j := by
  have h6 : j = 0 ∨ j = 1 ∨ j = 2 ∨ j = 3 ∨ j = 4 ∨ j = 5 := by omega
  rcases h6 with rfl | rfl | rfl | rfl | rfl | rfl <;> rfl
theorem num_lead (x : List UInt8) (a b : Nat) (hb : b ≤ 4) : (if numB x a b then some (((numV x a b : Nat) : Int), (0 : Int), (0 : Int)) else none) = if a ≤ leadK x ∧ leadK x ≤ b then some ((leadN x : Int), (0 : Int), (0 : Int)) else none := by
  by_cases h : a ≤ leadK x ∧ leadK x ≤ b
  · obtain ⟨e1, e2, _⟩ := num_yes x a b h.1 h.2
    rw [if_pos h, e1, e2]
    have : (leadL x).take 5 = leadL x := List.take_of_length_le (by have : leadK x = (leadL x).length := rfl; omega)
    unfold leadN
    rw [this]; rfl
  · rw [if_neg h, (num_no x a b h).1]; rfl
theorem keep_set {W : World} {A B k j : Nat} {v u : Value} (h : A ≠ B) (hc : W.cell? ⟨A, j, none⟩ = some u) : (W.setCell ⟨B, k, none⟩ v).cell? ⟨A, j, none⟩ = some u :=
  (World.cell?_setCell_other _ _ _ _ (by intro e; injection e with e _ _; exact h e.symm)).trans hc
theorem size_set (W : World) (p : Addr) (v : Value) : (W.setCell p v).heap.size = W.heap.size := by simp [World.setCell]
set_option maxRecDepth 100000 in
set_option maxHeartbeats 16000000 in
theorem stampOf_any (s : ByteArray) (w : World) (hs : s.size ≤ maxLen) :
    Calls Tryd.prog 16 #[.string s] w fun e w' => e = .returned (.tuple #[.int .i64 (readV s.data.toList), .int .i64 (readE s.data.toList)]) ∧ Below w.heap.size w w' := by
  unfold maxLen at hs
  by_cases h4 : s.size ≤ 400
  · have HV : Hid (readV s.data.toList = momV (allD d0 (wordsL s.data.toList))) := if_pos h4
    have HE : Hid (readE s.data.toList = momE (allD d0 (wordsL s.data.toList))) := if_pos h4
    go_enter Tryd.func16, Tryd.ntmps16
    go_wp2_with fail
    refine (stampWords_any s _ h4).mono ?_
    rintro e w1 ⟨v, rfl, hown, hb1⟩
    have hwl := words_len s.data.toList
    have hwn : (wordsL s.data.toList).length ≤ 400 := Nat.le_trans hwl.1 h4
    have HWX : Hid (∀ x ∈ wordsL s.data.toList, x.length ≤ 400) := fun x hx => Nat.le_trans (hwl.2 x hx) h4
    obtain ⟨ws, hws⟩ : ∃ ws, ws = wordsL s.data.toList := ⟨_, rfl⟩
    rw [← hws] at HV HE hwn HWX hown
    obtain ⟨ad, cap, rfl, hr⟩ := Reads.of_own hown
    have hA : ∃ A, (ws ≠ [] → ad = some ⟨A, 0, none⟩) ∧ A ≠ w1.heap.size ∧ ∀ (j : Nat) u, (strs ws)[j]? = some u → w1.cell? ⟨A, j, none⟩ = some u := by
      rcases hr with hr | ⟨b, off, rfl, hr⟩
      · have e : ws = [] := by
          have : (strs ws).length = 0 := by rw [hr]; rfl
          rw [strs_length] at this
          exact List.length_eq_zero_iff.1 this
        exact ⟨w1.heap.size + 1, fun h => absurd e h, by omega, fun j u hj => by rw [hr] at hj; simp at hj⟩
      · have h0 : off = 0 := by
          rcases hown.2 with ⟨e, _⟩ | ⟨g', cap', cur, e, _⟩
          · cases e
          · injection e with e _ _; injection e with e; injection e with _ e _
        subst h0
        refine ⟨b, fun _ => rfl, ?_, fun j u hj => by have := hr j u hj; rwa [Nat.zero_add] at this⟩
        have := (hown.lt b rfl).2
        omega
    obtain ⟨A, hA0, hAB, hcs⟩ := hA
    obtain ⟨W0, hW0⟩ : ∃ W0, W0 = w1.alloc (.cells #[.int .i64 0, .int .i64 0, .int .i64 0, .int .i64 0, .int .i64 0, .int .i64 0] 23) := ⟨_, rfl⟩
    have R0 : Hid (Row W0 w1.heap.size 6 (timeC d0)) := by
      rw [hW0]
      intro j hj
      have h6 : j = 0 ∨ j = 1 ∨ j = 2 ∨ j = 3 ∨ j = 4 ∨ j = 5 := by omega
      rcases h6 with rfl | rfl | rfl | rfl | rfl | rfl <;> exact ⟨by simp [timeC, yOf, d0], by simp⟩
    have b0 : Below w.heap.size w W0 := by rw [hW0]; exact hb1.alloc hb1.size _
    have bW : Below w1.heap.size w1 W0 := by rw [hW0]; exact (Below.refl _ _).alloc (Nat.le_refl _) _
    have sz0 : w1.heap.size < W0.heap.size := by rw [hW0]; simp
    have C0 : Hid (∀ (j : Nat) u, (strs ws)[j]? = some u → W0.cell? ⟨A, j, none⟩ = some u) := fun j u hj => (bW.cell (p := ⟨A, j, none⟩) (cell_in (hcs j u hj))).trans (hcs j u hj)
    have hwB : w.heap.size ≤ w1.heap.size := hb1.size
    have HA0 : Hid _ := hA0
    go_wp2_with fail
    rw [← hws, ← hW0]
    clear hws hW0 hwl hown hr hcs hb1 bW hA0
    go_loopw [6, 7, 8, 9, 10] (fun tv dv mv yv iv wr => ∃ (k : Nat) (d : DS), k ≤ ws.length ∧ iv = .int .i64 k ∧ Hid (allD d0 (ws.take k) = d) ∧ tv = .bool (d.f 0) ∧ dv = .bool (d.f 1) ∧ mv = .bool (d.f 2) ∧ yv = .bool (d.f 3) ∧
      Hid (Row wr w1.heap.size 6 (timeC d)) ∧ Hid (∀ (j : Nat) u, (strs ws)[j]? = some u → wr.cell? ⟨A, j, none⟩ = some u) ∧ Below w.heap.size w wr ∧ w1.heap.size < wr.heap.size) (fun _ _ _ _ iv _ => ws.length - (intOf iv).toNat)
    case atStart => exact ⟨0, d0, Nat.zero_le _, rfl, rfl, rfl, rfl, rfl, rfl, R0, C0, b0, sz0⟩
    case round =>
      obtain ⟨k, d, hk, rfl, hd, rfl, rfl, rfl, rfl, hR, hC, hb, hsz⟩ := hrel
      by_cases hlt : k < ws.length
      · have e1 := List.getElem?_eq_getElem hlt
        obtain ⟨x, hx⟩ : ∃ x, x = ws[k] := ⟨_, rfl⟩
        rw [← hx] at e1
        have hne : ws ≠ [] := fun e => by rw [e] at hlt; simp at hlt
        obtain rfl := HA0.out hne
        have hxc := hC.out k _ (strs_get e1)
        have hxs : (txt x).size ≤ 400 := HWX.out x (List.mem_of_getElem? e1)
        have HX : Hid _ := e1
        have HS : Hid (allD d0 (ws.take (k + 1)) = stepD d x) := by rw [← hd.out]; exact allD_snoc ws k x e1
        obtain ⟨kk, hkk⟩ : ∃ z, leadK x = z := ⟨_, rfl⟩
        obtain ⟨nn, hnn⟩ : ∃ z, leadN x = z := ⟨_, rfl⟩
        obtain ⟨mm, hmm⟩ : ∃ z, monthL x = z := ⟨_, rfl⟩
        obtain ⟨ok, hok⟩ : ∃ z, (timeL x).isSome = z := ⟨_, rfl⟩
        have hnm := leadN_max x
        rw [hnn] at hnm
        have KK : Hid _ := hkk
        have NN : Hid _ := hnn
        have MM : Hid _ := hmm
        have OK : Hid _ := hok
        clear hx e1 hne hkk hnn hmm hok
        by_cases t0 : d.f 0 = false ∧ ok = true
        · obtain ⟨hf0, hok⟩ := t0
          subst hok
          obtain ⟨⟨ta, tb, tcc⟩, htm⟩ := Option.isSome_iff_exists.1 OK.out
          have HTM : Hid _ := htm
          clear htm
          rw [hf0]
          as_aux_lemma =>
            have HD : Hid (stepD d x = d.put 0 (ta, tb, tcc)) := step_found d x 0 (by omega) (fun j hj => absurd hj (by omega)) hf0 _ (by rw [readK0]; exact HTM.out)
            go_wp2_with fail
            refine (leadDigits_any (txt x) _ (by unfold maxLen; omega)).mono ?_
            rw [txt_toList, KK.out, NN.out]
            rintro e wq ⟨rfl, rfl⟩
            go_wp2_with fail
            refine (dayTime_any (txt x) _ hxs).mono ?_
            rw [txt_toList, OK.out]
            rintro e w2 ⟨v2, rfl, hv2, hb2⟩
            have hV2 : Hid _ := hv2
            clear hv2
            have HB2 : Hid (Below wq.heap.size wq w2) := hb2
            have HR2 : Hid (Row w2 w1.heap.size 6 (timeC d)) := hR.out.below hb2 hsz
            have HC2 : Hid (∀ (j : Nat) u, (strs ws)[j]? = some u → w2.cell? ⟨A, j, none⟩ = some u) := fun j u hj => (hb2.cell (p := ⟨A, j, none⟩) (cell_in (hC.out j u hj))).trans (hC.out j u hj)
            have hbw2 : Below w.heap.size w w2 := next hb hb2
            have hsz2 : w1.heap.size < w2.heap.size := Nat.lt_of_lt_of_le hsz hb2.size
            have hx2 := HC2.out k _ (strs_get HX.out)
            clear hb2 hxc
            obtain ⟨ad2, cap2, rfl, hr2⟩ := Reads.of_own (hV2.out ta tb tcc HTM.out)
            have hown2 := hV2.out ta tb tcc HTM.out
            rcases hr2 with hr2 | ⟨g, off, rfl, hr2⟩
            · cases hr2
            have hgB : g ≠ w1.heap.size := by
              have := (hown2.lt g rfl).1
              omega
            have hg0 : off = 0 := by
              rcases hown2.2 with ⟨e, _⟩ | ⟨g', cap', cur, e, _⟩
              · cases e
              · injection e with e _ _; injection e with e; injection e with _ e _
            subst hg0
            have l0 := hr2 0 _ rfl
            have l1 := hr2 1 _ rfl
            have l2 := hr2 2 _ rfl
            simp only [Nat.zero_add] at l0 l1 l2
            have hgB1 : ¬ g = w1.heap.size := hgB
            have hgB2 : ¬ w1.heap.size = g := fun e => hgB e.symm
            clear hown2 hr2
            have tc3 := HR2.out.cell 3 (by omega)
            have tf3 := HR2.out.frozen 3 (by omega)
            have tc4 := HR2.out.cell 4 (by omega)
            have tf4 := HR2.out.frozen 4 (by omega)
            have tc5 := HR2.out.cell 5 (by omega)
            have tf5 := HR2.out.frozen 5 (by omega)
            go_wp2_with fail
            go_region_held3 (fun w' => w'.cell? ⟨g, 0, none⟩ = some (.int .i64 ta) ∧ w'.cell? ⟨g, 1, none⟩ = some (.int .i64 tb) ∧ w'.cell? ⟨g, 2, none⟩ = some (.int .i64 tcc)) (go_keep) (fail)
            all_goals go_wp2_with fail
            all_goals
              go_roundw
              case rel => exact ⟨k + 1, d.put 0 (ta, tb, tcc), by omega, by go_num, HS.out.trans HD.out, by first | rfl | exact (congrArg Value.bool hf0).symm, by first | rfl | exact (congrArg Value.bool hf1).symm, by first | rfl | exact (congrArg Value.bool hf2).symm, by first | rfl | exact (congrArg Value.bool hf3).symm, ((((HR2.out.set 3 (by omega) (.int .i64 ta)).set 4 (by omega) (.int .i64 tb)).set 5 (by omega) (.int .i64 tcc)).of_eq (fun j hj => (timeC_put0 d ta tb tcc j hj).symm)).drew, fun j u hj => keep_set hAB (keep_set hAB (keep_set hAB (HC2.out j u hj))), ((((hbw2.setCell hwB _).setCell hwB _).setCell hwB _).drew), by show w1.heap.size < (World.setCell _ _ _).heap.size; rw [size_set, size_set, size_set]; exact hsz2⟩
              case measure => simp [intOf]; omega
        have R0 : Hid (d.f 0 = true ∨ (d.f 0 = false ∧ ok = false)) := by
          cases h : d.f 0
          · cases h' : ok
            · exact .inr ⟨rfl, rfl⟩
            · exact absurd ⟨h, h'⟩ t0
          · exact .inl rfl
        have D1 : Hid (dumb d x 1) := dumb_next _ _ 0 (fun j hj => absurd hj (by omega)) (by
          rcases R0.out with h | ⟨_, h⟩
          · exact .inl h
          · right
            rw [readK0]
            have := OK.out
            rw [h] at this
            cases e : timeL x with
            | none => rfl
            | some v => rw [e] at this; cases this)
        clear t0
        by_cases t1 : d.f 1 = false ∧ 1 ≤ kk ∧ kk ≤ 2
        · obtain ⟨hf1, hk1, hk2⟩ := t1
          have HD : Hid (stepD d x = d.put 1 ((nn : Int), 0, 0)) := step_found d x 1 (by omega) D1.out hf1 _ (by rw [readK1, num_lead x 1 2 (by omega), KK.out, NN.out, if_pos ⟨hk1, hk2⟩])
          rw [hf1]
          rcases R0.out with hf0 | ⟨hf0, hok⟩
          all_goals rw [hf0]
          all_goals try subst hok
          all_goals
            as_aux_lemma =>
              go_wp2_with fail
              refine (leadDigits_any (txt x) _ (by unfold maxLen; omega)).mono ?_
              rw [txt_toList, KK.out, NN.out]
              rintro e wq ⟨rfl, rfl⟩
              go_wp2_with fail
              refine (dayTime_any (txt x) _ hxs).mono ?_
              rw [txt_toList, OK.out]
              rintro e w2 ⟨v2, rfl, hv2, hb2⟩
              have hV2 : Hid _ := hv2
              clear hv2
              have HB2 : Hid (Below wq.heap.size wq w2) := hb2
              have HR2 : Hid (Row w2 w1.heap.size 6 (timeC d)) := hR.out.below hb2 hsz
              have HC2 : Hid (∀ (j : Nat) u, (strs ws)[j]? = some u → w2.cell? ⟨A, j, none⟩ = some u) := fun j u hj => (hb2.cell (p := ⟨A, j, none⟩) (cell_in (hC.out j u hj))).trans (hC.out j u hj)
              have hbw2 : Below w.heap.size w w2 := next hb hb2
              have hsz2 : w1.heap.size < w2.heap.size := Nat.lt_of_lt_of_le hsz hb2.size
              have hx2 := HC2.out k _ (strs_get HX.out)
              clear hb2 hxc
              have tc2 := HR2.out.cell 2 (by omega)
              have tf2 := HR2.out.frozen 2 (by omega)
              go_wp2_with fail
              go_roundw
              case rel => exact ⟨k + 1, d.put 1 ((nn : Int), 0, 0), by omega, by go_num, HS.out.trans HD.out, by first | rfl | exact (congrArg Value.bool hf0).symm, by first | rfl | exact (congrArg Value.bool hf1).symm, by first | rfl | exact (congrArg Value.bool hf2).symm, by first | rfl | exact (congrArg Value.bool hf3).symm, ((HR2.out.set 2 (by omega) (.int .i64 (nn : Int))).of_eq (fun j hj => (timeC_put1 d nn j hj).symm)), fun j u hj => keep_set hAB (HC2.out j u hj), (hbw2.setCell hwB _), by rw [size_set]; exact hsz2⟩
              case measure => simp [intOf]; omega
        have R1 : Hid (d.f 1 = true ∨ (d.f 1 = false ∧ (kk < 1 ∨ 2 < kk))) := by
          cases h : d.f 1
          · exact .inr ⟨rfl, by rcases Nat.lt_or_ge kk 1 with h1 | h1; exact .inl h1; rcases Nat.lt_or_ge 2 kk with h2 | h2; exact .inr h2; exact absurd ⟨h, h1, h2⟩ t1⟩
          · exact .inl rfl
        have D2 : Hid (dumb d x 2) := dumb_next _ _ 1 D1.out (by
          rcases R1.out with h | ⟨_, h⟩
          · exact .inl h
          · right
            rw [readK1, num_lead x 1 2 (by omega), KK.out, if_neg (by omega)])
        clear t1
        by_cases t2 : d.f 2 = false ∧ mm ≠ 0
        · obtain ⟨hf2, hm0⟩ := t2
          have hmi : (0 : Int) < (mm : Int) := by omega
          have HD : Hid (stepD d x = d.put 2 ((mm : Int), 0, 0)) := step_found d x 2 (by omega) D2.out hf2 _ (by rw [readK2, MM.out, if_neg (by omega)])
          rw [hf2]
          rcases R0.out with hf0 | ⟨hf0, hok⟩
          all_goals rw [hf0]
          all_goals try subst hok
          all_goals rcases R1.out with hf1 | ⟨hf1, hk1 | hk1⟩
          all_goals rw [hf1]
          all_goals
            as_aux_lemma =>
              go_wp2_with fail
              refine (leadDigits_any (txt x) _ (by unfold maxLen; omega)).mono ?_
              rw [txt_toList, KK.out, NN.out]
              rintro e wq ⟨rfl, rfl⟩
              go_wp2_with fail
              refine (dayTime_any (txt x) _ hxs).mono ?_
              rw [txt_toList, OK.out]
              rintro e w2 ⟨v2, rfl, hv2, hb2⟩
              have hV2 : Hid _ := hv2
              clear hv2
              have HB2 : Hid (Below wq.heap.size wq w2) := hb2
              have HR2 : Hid (Row w2 w1.heap.size 6 (timeC d)) := hR.out.below hb2 hsz
              have HC2 : Hid (∀ (j : Nat) u, (strs ws)[j]? = some u → w2.cell? ⟨A, j, none⟩ = some u) := fun j u hj => (hb2.cell (p := ⟨A, j, none⟩) (cell_in (hC.out j u hj))).trans (hC.out j u hj)
              have hbw2 : Below w.heap.size w w2 := next hb hb2
              have hsz2 : w1.heap.size < w2.heap.size := Nat.lt_of_lt_of_le hsz hb2.size
              have hx2 := HC2.out k _ (strs_get HX.out)
              clear hb2 hxc
              go_wp2_with fail
              refine (rmonthOf_any (txt x) _ hxs).mono ?_
              rw [txt_toList, MM.out]
              rintro e w3 ⟨rfl, hb3⟩
              have HR3 : Hid (Row w3 w1.heap.size 6 (timeC d)) := HR2.out.below hb3 hsz2
              have HC3 : Hid (∀ (j : Nat) u, (strs ws)[j]? = some u → w3.cell? ⟨A, j, none⟩ = some u) := fun j u hj => (hb3.cell (p := ⟨A, j, none⟩) (cell_in (HC2.out j u hj))).trans (HC2.out j u hj)
              have hbw3 : Below w.heap.size w w3 := next hbw2 hb3
              have hsz3 : w1.heap.size < w3.heap.size := Nat.lt_of_lt_of_le hsz2 hb3.size
              have hx3 := HC3.out k _ (strs_get HX.out)
              clear hb3
              go_wp2_with fail
              refine (rmonthOf_any (txt x) _ hxs).mono ?_
              rw [txt_toList, MM.out]
              rintro e w4 ⟨rfl, hb4⟩
              have HR4 : Hid (Row w4 w1.heap.size 6 (timeC d)) := HR3.out.below hb4 hsz3
              have HC4 : Hid (∀ (j : Nat) u, (strs ws)[j]? = some u → w4.cell? ⟨A, j, none⟩ = some u) := fun j u hj => (hb4.cell (p := ⟨A, j, none⟩) (cell_in (HC3.out j u hj))).trans (HC3.out j u hj)
              have hbw4 : Below w.heap.size w w4 := next hbw3 hb4
              have hsz4 : w1.heap.size < w4.heap.size := Nat.lt_of_lt_of_le hsz3 hb4.size
              have hx4 := HC4.out k _ (strs_get HX.out)
              clear hb4
              have tc1 := HR4.out.cell 1 (by omega)
              have tf1 := HR4.out.frozen 1 (by omega)
              go_wp2_with fail
              go_roundw
              case rel => exact ⟨k + 1, d.put 2 ((mm : Int), 0, 0), by omega, by go_num, HS.out.trans HD.out, by first | rfl | exact (congrArg Value.bool hf0).symm, by first | rfl | exact (congrArg Value.bool hf1).symm, by first | rfl | exact (congrArg Value.bool hf2).symm, by first | rfl | exact (congrArg Value.bool hf3).symm, ((HR4.out.set 1 (by omega) (.int .i64 (mm : Int))).of_eq (fun j hj => (timeC_put2 d mm j hj).symm)), fun j u hj => keep_set hAB (HC4.out j u hj), (hbw4.setCell hwB _), by rw [size_set]; exact hsz4⟩
              case measure => simp [intOf]; omega
        have R2 : Hid (d.f 2 = true ∨ (d.f 2 = false ∧ mm = 0)) := by
          cases h : d.f 2
          · exact .inr ⟨rfl, by rcases Nat.eq_zero_or_pos mm with h1 | h1; exact h1; exact absurd ⟨h, by omega⟩ t2⟩
          · exact .inl rfl
        have D3 : Hid (dumb d x 3) := dumb_next _ _ 2 D2.out (by
          rcases R2.out with h | ⟨_, h⟩
          · exact .inl h
          · right
            rw [readK2, MM.out, if_pos h])
        clear t2
        by_cases t3 : d.f 3 = false ∧ 2 ≤ kk ∧ kk ≤ 4
        · obtain ⟨hf3, hk3, hk4⟩ := t3
          have R1b : Hid (d.f 1 = true ∨ (d.f 1 = false ∧ 2 < kk)) := by
            rcases R1.out with h | ⟨h, h'⟩
            · exact .inl h
            · exact .inr ⟨h, by omega⟩
          have HD : Hid (stepD d x = d.put 3 ((nn : Int), 0, 0)) := step_found d x 3 (by omega) D3.out hf3 _ (by rw [readK3, num_lead x 2 4 (by omega), KK.out, NN.out, if_pos ⟨hk3, hk4⟩])
          by_cases n70 : nn < 70
          · skip
            have HFY : Hid (fullY (nn : Int) = (nn : Int) + 2000) := by show (if _ then _ else _) = _; rw [if_pos (by omega)]; omega
            rw [hf3]
            rcases R0.out with hf0 | ⟨hf0, hok⟩
            all_goals rw [hf0]
            all_goals try subst hok
            all_goals rcases R1b.out with hf1 | ⟨hf1, hk1⟩
            all_goals rw [hf1]
            all_goals rcases R2.out with hf2 | ⟨hf2, hm⟩
            all_goals rw [hf2]
            · skip
              as_aux_lemma =>
                go_wp2_with fail
                refine (leadDigits_any (txt x) _ (by unfold maxLen; omega)).mono ?_
                rw [txt_toList, KK.out, NN.out]
                rintro e wq ⟨rfl, rfl⟩
                go_wp2_with fail
                refine (dayTime_any (txt x) _ hxs).mono ?_
                rw [txt_toList, OK.out]
                rintro e w2 ⟨v2, rfl, hv2, hb2⟩
                have hV2 : Hid _ := hv2
                clear hv2
                have HB2 : Hid (Below wq.heap.size wq w2) := hb2
                have HR2 : Hid (Row w2 w1.heap.size 6 (timeC d)) := hR.out.below hb2 hsz
                have HC2 : Hid (∀ (j : Nat) u, (strs ws)[j]? = some u → w2.cell? ⟨A, j, none⟩ = some u) := fun j u hj => (hb2.cell (p := ⟨A, j, none⟩) (cell_in (hC.out j u hj))).trans (hC.out j u hj)
                have hbw2 : Below w.heap.size w w2 := next hb hb2
                have hsz2 : w1.heap.size < w2.heap.size := Nat.lt_of_lt_of_le hsz hb2.size
                have hx2 := HC2.out k _ (strs_get HX.out)
                clear hb2 hxc
                have tc0 := HR2.out.cell 0 (by omega)
                have tf0 := HR2.out.frozen 0 (by omega)
                go_wp2_with fail
                go_roundw
                case rel => exact ⟨k + 1, d.put 3 ((nn : Int), 0, 0), by omega, by go_num, HS.out.trans HD.out, by first | rfl | exact (congrArg Value.bool hf0).symm, by first | rfl | exact (congrArg Value.bool hf1).symm, by first | rfl | exact (congrArg Value.bool hf2).symm, by first | rfl | exact (congrArg Value.bool hf3).symm, (((HR2.out.set 0 (by omega) (.int .i64 (nn : Int))).set 0 (by omega) (.int .i64 ((nn : Int) + 2000))).of_eq (fun j hj => by rw [timeC_put3 d nn j hj, HFY.out]; by_cases h : j = 0 <;> simp [h])), fun j u hj => keep_set hAB (keep_set hAB (HC2.out j u hj)), ((hbw2.setCell hwB _).setCell hwB _), by rw [size_set, size_set]; exact hsz2⟩
                case measure => simp [intOf]; omega
            · subst hm
              as_aux_lemma =>
                go_wp2_with fail
                refine (leadDigits_any (txt x) _ (by unfold maxLen; omega)).mono ?_
                rw [txt_toList, KK.out, NN.out]
                rintro e wq ⟨rfl, rfl⟩
                go_wp2_with fail
                refine (dayTime_any (txt x) _ hxs).mono ?_
                rw [txt_toList, OK.out]
                rintro e w2 ⟨v2, rfl, hv2, hb2⟩
                have hV2 : Hid _ := hv2
                clear hv2
                have HB2 : Hid (Below wq.heap.size wq w2) := hb2
                have HR2 : Hid (Row w2 w1.heap.size 6 (timeC d)) := hR.out.below hb2 hsz
                have HC2 : Hid (∀ (j : Nat) u, (strs ws)[j]? = some u → w2.cell? ⟨A, j, none⟩ = some u) := fun j u hj => (hb2.cell (p := ⟨A, j, none⟩) (cell_in (hC.out j u hj))).trans (hC.out j u hj)
                have hbw2 : Below w.heap.size w w2 := next hb hb2
                have hsz2 : w1.heap.size < w2.heap.size := Nat.lt_of_lt_of_le hsz hb2.size
                have hx2 := HC2.out k _ (strs_get HX.out)
                clear hb2 hxc
                go_wp2_with fail
                refine (rmonthOf_any (txt x) _ hxs).mono ?_
                rw [txt_toList, MM.out]
                rintro e w3 ⟨rfl, hb3⟩
                have HR3 : Hid (Row w3 w1.heap.size 6 (timeC d)) := HR2.out.below hb3 hsz2
                have HC3 : Hid (∀ (j : Nat) u, (strs ws)[j]? = some u → w3.cell? ⟨A, j, none⟩ = some u) := fun j u hj => (hb3.cell (p := ⟨A, j, none⟩) (cell_in (HC2.out j u hj))).trans (HC2.out j u hj)
                have hbw3 : Below w.heap.size w w3 := next hbw2 hb3
                have hsz3 : w1.heap.size < w3.heap.size := Nat.lt_of_lt_of_le hsz2 hb3.size
                have hx3 := HC3.out k _ (strs_get HX.out)
                clear hb3
                have tc0 := HR3.out.cell 0 (by omega)
                have tf0 := HR3.out.frozen 0 (by omega)
                go_wp2_with fail
                go_roundw
                case rel => exact ⟨k + 1, d.put 3 ((nn : Int), 0, 0), by omega, by go_num, HS.out.trans HD.out, by first | rfl | exact (congrArg Value.bool hf0).symm, by first | rfl | exact (congrArg Value.bool hf1).symm, by first | rfl | exact (congrArg Value.bool hf2).symm, by first | rfl | exact (congrArg Value.bool hf3).symm, (((HR3.out.set 0 (by omega) (.int .i64 (nn : Int))).set 0 (by omega) (.int .i64 ((nn : Int) + 2000))).of_eq (fun j hj => by rw [timeC_put3 d nn j hj, HFY.out]; by_cases h : j = 0 <;> simp [h])), fun j u hj => keep_set hAB (keep_set hAB (HC3.out j u hj)), ((hbw3.setCell hwB _).setCell hwB _), by rw [size_set, size_set]; exact hsz3⟩
                case measure => simp [intOf]; omega
            · skip
              as_aux_lemma =>
                go_wp2_with fail
                refine (leadDigits_any (txt x) _ (by unfold maxLen; omega)).mono ?_
                rw [txt_toList, KK.out, NN.out]
                rintro e wq ⟨rfl, rfl⟩
                go_wp2_with fail
                refine (dayTime_any (txt x) _ hxs).mono ?_
                rw [txt_toList, OK.out]
                rintro e w2 ⟨v2, rfl, hv2, hb2⟩
                have hV2 : Hid _ := hv2
                clear hv2
                have HB2 : Hid (Below wq.heap.size wq w2) := hb2
                have HR2 : Hid (Row w2 w1.heap.size 6 (timeC d)) := hR.out.below hb2 hsz
                have HC2 : Hid (∀ (j : Nat) u, (strs ws)[j]? = some u → w2.cell? ⟨A, j, none⟩ = some u) := fun j u hj => (hb2.cell (p := ⟨A, j, none⟩) (cell_in (hC.out j u hj))).trans (hC.out j u hj)
                have hbw2 : Below w.heap.size w w2 := next hb hb2
                have hsz2 : w1.heap.size < w2.heap.size := Nat.lt_of_lt_of_le hsz hb2.size
                have hx2 := HC2.out k _ (strs_get HX.out)
                clear hb2 hxc
                have tc0 := HR2.out.cell 0 (by omega)
                have tf0 := HR2.out.frozen 0 (by omega)
                go_wp2_with fail
                go_roundw
                case rel => exact ⟨k + 1, d.put 3 ((nn : Int), 0, 0), by omega, by go_num, HS.out.trans HD.out, by first | rfl | exact (congrArg Value.bool hf0).symm, by first | rfl | exact (congrArg Value.bool hf1).symm, by first | rfl | exact (congrArg Value.bool hf2).symm, by first | rfl | exact (congrArg Value.bool hf3).symm, (((HR2.out.set 0 (by omega) (.int .i64 (nn : Int))).set 0 (by omega) (.int .i64 ((nn : Int) + 2000))).of_eq (fun j hj => by rw [timeC_put3 d nn j hj, HFY.out]; by_cases h : j = 0 <;> simp [h])), fun j u hj => keep_set hAB (keep_set hAB (HC2.out j u hj)), ((hbw2.setCell hwB _).setCell hwB _), by rw [size_set, size_set]; exact hsz2⟩
                case measure => simp [intOf]; omega
            · subst hm
              as_aux_lemma =>
                go_wp2_with fail
                refine (leadDigits_any (txt x) _ (by unfold maxLen; omega)).mono ?_
                rw [txt_toList, KK.out, NN.out]
                rintro e wq ⟨rfl, rfl⟩
                go_wp2_with fail
                refine (dayTime_any (txt x) _ hxs).mono ?_
                rw [txt_toList, OK.out]
                rintro e w2 ⟨v2, rfl, hv2, hb2⟩
                have hV2 : Hid _ := hv2
                clear hv2
                have HB2 : Hid (Below wq.heap.size wq w2) := hb2
                have HR2 : Hid (Row w2 w1.heap.size 6 (timeC d)) := hR.out.below hb2 hsz
                have HC2 : Hid (∀ (j : Nat) u, (strs ws)[j]? = some u → w2.cell? ⟨A, j, none⟩ = some u) := fun j u hj => (hb2.cell (p := ⟨A, j, none⟩) (cell_in (hC.out j u hj))).trans (hC.out j u hj)
                have hbw2 : Below w.heap.size w w2 := next hb hb2
                have hsz2 : w1.heap.size < w2.heap.size := Nat.lt_of_lt_of_le hsz hb2.size
                have hx2 := HC2.out k _ (strs_get HX.out)
                clear hb2 hxc
                go_wp2_with fail
                refine (rmonthOf_any (txt x) _ hxs).mono ?_
                rw [txt_toList, MM.out]
                rintro e w3 ⟨rfl, hb3⟩
                have HR3 : Hid (Row w3 w1.heap.size 6 (timeC d)) := HR2.out.below hb3 hsz2
                have HC3 : Hid (∀ (j : Nat) u, (strs ws)[j]? = some u → w3.cell? ⟨A, j, none⟩ = some u) := fun j u hj => (hb3.cell (p := ⟨A, j, none⟩) (cell_in (HC2.out j u hj))).trans (HC2.out j u hj)
                have hbw3 : Below w.heap.size w w3 := next hbw2 hb3
                have hsz3 : w1.heap.size < w3.heap.size := Nat.lt_of_lt_of_le hsz2 hb3.size
                have hx3 := HC3.out k _ (strs_get HX.out)
                clear hb3
                have tc0 := HR3.out.cell 0 (by omega)
                have tf0 := HR3.out.frozen 0 (by omega)
                go_wp2_with fail
                go_roundw
                case rel => exact ⟨k + 1, d.put 3 ((nn : Int), 0, 0), by omega, by go_num, HS.out.trans HD.out, by first | rfl | exact (congrArg Value.bool hf0).symm, by first | rfl | exact (congrArg Value.bool hf1).symm, by first | rfl | exact (congrArg Value.bool hf2).symm, by first | rfl | exact (congrArg Value.bool hf3).symm, (((HR3.out.set 0 (by omega) (.int .i64 (nn : Int))).set 0 (by omega) (.int .i64 ((nn : Int) + 2000))).of_eq (fun j hj => by rw [timeC_put3 d nn j hj, HFY.out]; by_cases h : j = 0 <;> simp [h])), fun j u hj => keep_set hAB (keep_set hAB (HC3.out j u hj)), ((hbw3.setCell hwB _).setCell hwB _), by rw [size_set, size_set]; exact hsz3⟩
                case measure => simp [intOf]; omega
            · skip
              as_aux_lemma =>
                go_wp2_with fail
                refine (leadDigits_any (txt x) _ (by unfold maxLen; omega)).mono ?_
                rw [txt_toList, KK.out, NN.out]
                rintro e wq ⟨rfl, rfl⟩
                go_wp2_with fail
                refine (dayTime_any (txt x) _ hxs).mono ?_
                rw [txt_toList, OK.out]
                rintro e w2 ⟨v2, rfl, hv2, hb2⟩
                have hV2 : Hid _ := hv2
                clear hv2
                have HB2 : Hid (Below wq.heap.size wq w2) := hb2
                have HR2 : Hid (Row w2 w1.heap.size 6 (timeC d)) := hR.out.below hb2 hsz
                have HC2 : Hid (∀ (j : Nat) u, (strs ws)[j]? = some u → w2.cell? ⟨A, j, none⟩ = some u) := fun j u hj => (hb2.cell (p := ⟨A, j, none⟩) (cell_in (hC.out j u hj))).trans (hC.out j u hj)
                have hbw2 : Below w.heap.size w w2 := next hb hb2
                have hsz2 : w1.heap.size < w2.heap.size := Nat.lt_of_lt_of_le hsz hb2.size
                have hx2 := HC2.out k _ (strs_get HX.out)
                clear hb2 hxc
                have tc0 := HR2.out.cell 0 (by omega)
                have tf0 := HR2.out.frozen 0 (by omega)
                go_wp2_with fail
                go_roundw
                case rel => exact ⟨k + 1, d.put 3 ((nn : Int), 0, 0), by omega, by go_num, HS.out.trans HD.out, by first | rfl | exact (congrArg Value.bool hf0).symm, by first | rfl | exact (congrArg Value.bool hf1).symm, by first | rfl | exact (congrArg Value.bool hf2).symm, by first | rfl | exact (congrArg Value.bool hf3).symm, (((HR2.out.set 0 (by omega) (.int .i64 (nn : Int))).set 0 (by omega) (.int .i64 ((nn : Int) + 2000))).of_eq (fun j hj => by rw [timeC_put3 d nn j hj, HFY.out]; by_cases h : j = 0 <;> simp [h])), fun j u hj => keep_set hAB (keep_set hAB (HC2.out j u hj)), ((hbw2.setCell hwB _).setCell hwB _), by rw [size_set, size_set]; exact hsz2⟩
                case measure => simp [intOf]; omega
            · subst hm
              as_aux_lemma =>
                go_wp2_with fail
                refine (leadDigits_any (txt x) _ (by unfold maxLen; omega)).mono ?_
                rw [txt_toList, KK.out, NN.out]
                rintro e wq ⟨rfl, rfl⟩
                go_wp2_with fail
                refine (dayTime_any (txt x) _ hxs).mono ?_
                rw [txt_toList, OK.out]
                rintro e w2 ⟨v2, rfl, hv2, hb2⟩
                have hV2 : Hid _ := hv2
                clear hv2
                have HB2 : Hid (Below wq.heap.size wq w2) := hb2
                have HR2 : Hid (Row w2 w1.heap.size 6 (timeC d)) := hR.out.below hb2 hsz
                have HC2 : Hid (∀ (j : Nat) u, (strs ws)[j]? = some u → w2.cell? ⟨A, j, none⟩ = some u) := fun j u hj => (hb2.cell (p := ⟨A, j, none⟩) (cell_in (hC.out j u hj))).trans (hC.out j u hj)
                have hbw2 : Below w.heap.size w w2 := next hb hb2
                have hsz2 : w1.heap.size < w2.heap.size := Nat.lt_of_lt_of_le hsz hb2.size
                have hx2 := HC2.out k _ (strs_get HX.out)
                clear hb2 hxc
                go_wp2_with fail
                refine (rmonthOf_any (txt x) _ hxs).mono ?_
                rw [txt_toList, MM.out]
                rintro e w3 ⟨rfl, hb3⟩
                have HR3 : Hid (Row w3 w1.heap.size 6 (timeC d)) := HR2.out.below hb3 hsz2
                have HC3 : Hid (∀ (j : Nat) u, (strs ws)[j]? = some u → w3.cell? ⟨A, j, none⟩ = some u) := fun j u hj => (hb3.cell (p := ⟨A, j, none⟩) (cell_in (HC2.out j u hj))).trans (HC2.out j u hj)
                have hbw3 : Below w.heap.size w w3 := next hbw2 hb3
                have hsz3 : w1.heap.size < w3.heap.size := Nat.lt_of_lt_of_le hsz2 hb3.size
                have hx3 := HC3.out k _ (strs_get HX.out)
                clear hb3
                have tc0 := HR3.out.cell 0 (by omega)
                have tf0 := HR3.out.frozen 0 (by omega)
                go_wp2_with fail
                go_roundw
                case rel => exact ⟨k + 1, d.put 3 ((nn : Int), 0, 0), by omega, by go_num, HS.out.trans HD.out, by first | rfl | exact (congrArg Value.bool hf0).symm, by first | rfl | exact (congrArg Value.bool hf1).symm, by first | rfl | exact (congrArg Value.bool hf2).symm, by first | rfl | exact (congrArg Value.bool hf3).symm, (((HR3.out.set 0 (by omega) (.int .i64 (nn : Int))).set 0 (by omega) (.int .i64 ((nn : Int) + 2000))).of_eq (fun j hj => by rw [timeC_put3 d nn j hj, HFY.out]; by_cases h : j = 0 <;> simp [h])), fun j u hj => keep_set hAB (keep_set hAB (HC3.out j u hj)), ((hbw3.setCell hwB _).setCell hwB _), by rw [size_set, size_set]; exact hsz3⟩
                case measure => simp [intOf]; omega
            · skip
              as_aux_lemma =>
                go_wp2_with fail
                refine (leadDigits_any (txt x) _ (by unfold maxLen; omega)).mono ?_
                rw [txt_toList, KK.out, NN.out]
                rintro e wq ⟨rfl, rfl⟩
                go_wp2_with fail
                refine (dayTime_any (txt x) _ hxs).mono ?_
                rw [txt_toList, OK.out]
                rintro e w2 ⟨v2, rfl, hv2, hb2⟩
                have hV2 : Hid _ := hv2
                clear hv2
                have HB2 : Hid (Below wq.heap.size wq w2) := hb2
                have HR2 : Hid (Row w2 w1.heap.size 6 (timeC d)) := hR.out.below hb2 hsz
                have HC2 : Hid (∀ (j : Nat) u, (strs ws)[j]? = some u → w2.cell? ⟨A, j, none⟩ = some u) := fun j u hj => (hb2.cell (p := ⟨A, j, none⟩) (cell_in (hC.out j u hj))).trans (hC.out j u hj)
                have hbw2 : Below w.heap.size w w2 := next hb hb2
                have hsz2 : w1.heap.size < w2.heap.size := Nat.lt_of_lt_of_le hsz hb2.size
                have hx2 := HC2.out k _ (strs_get HX.out)
                clear hb2 hxc
                have tc0 := HR2.out.cell 0 (by omega)
                have tf0 := HR2.out.frozen 0 (by omega)
                go_wp2_with fail
                go_roundw
                case rel => exact ⟨k + 1, d.put 3 ((nn : Int), 0, 0), by omega, by go_num, HS.out.trans HD.out, by first | rfl | exact (congrArg Value.bool hf0).symm, by first | rfl | exact (congrArg Value.bool hf1).symm, by first | rfl | exact (congrArg Value.bool hf2).symm, by first | rfl | exact (congrArg Value.bool hf3).symm, (((HR2.out.set 0 (by omega) (.int .i64 (nn : Int))).set 0 (by omega) (.int .i64 ((nn : Int) + 2000))).of_eq (fun j hj => by rw [timeC_put3 d nn j hj, HFY.out]; by_cases h : j = 0 <;> simp [h])), fun j u hj => keep_set hAB (keep_set hAB (HC2.out j u hj)), ((hbw2.setCell hwB _).setCell hwB _), by rw [size_set, size_set]; exact hsz2⟩
                case measure => simp [intOf]; omega
            · subst hm
              as_aux_lemma =>
                go_wp2_with fail
                refine (leadDigits_any (txt x) _ (by unfold maxLen; omega)).mono ?_
                rw [txt_toList, KK.out, NN.out]
                rintro e wq ⟨rfl, rfl⟩
                go_wp2_with fail
                refine (dayTime_any (txt x) _ hxs).mono ?_
                rw [txt_toList, OK.out]
                rintro e w2 ⟨v2, rfl, hv2, hb2⟩
                have hV2 : Hid _ := hv2
                clear hv2
                have HB2 : Hid (Below wq.heap.size wq w2) := hb2
                have HR2 : Hid (Row w2 w1.heap.size 6 (timeC d)) := hR.out.below hb2 hsz
                have HC2 : Hid (∀ (j : Nat) u, (strs ws)[j]? = some u → w2.cell? ⟨A, j, none⟩ = some u) := fun j u hj => (hb2.cell (p := ⟨A, j, none⟩) (cell_in (hC.out j u hj))).trans (hC.out j u hj)
                have hbw2 : Below w.heap.size w w2 := next hb hb2
                have hsz2 : w1.heap.size < w2.heap.size := Nat.lt_of_lt_of_le hsz hb2.size
                have hx2 := HC2.out k _ (strs_get HX.out)
                clear hb2 hxc
                go_wp2_with fail
                refine (rmonthOf_any (txt x) _ hxs).mono ?_
                rw [txt_toList, MM.out]
                rintro e w3 ⟨rfl, hb3⟩
                have HR3 : Hid (Row w3 w1.heap.size 6 (timeC d)) := HR2.out.below hb3 hsz2
                have HC3 : Hid (∀ (j : Nat) u, (strs ws)[j]? = some u → w3.cell? ⟨A, j, none⟩ = some u) := fun j u hj => (hb3.cell (p := ⟨A, j, none⟩) (cell_in (HC2.out j u hj))).trans (HC2.out j u hj)
                have hbw3 : Below w.heap.size w w3 := next hbw2 hb3
                have hsz3 : w1.heap.size < w3.heap.size := Nat.lt_of_lt_of_le hsz2 hb3.size
                have hx3 := HC3.out k _ (strs_get HX.out)
                clear hb3
                have tc0 := HR3.out.cell 0 (by omega)
                have tf0 := HR3.out.frozen 0 (by omega)
                go_wp2_with fail
                go_roundw
                case rel => exact ⟨k + 1, d.put 3 ((nn : Int), 0, 0), by omega, by go_num, HS.out.trans HD.out, by first | rfl | exact (congrArg Value.bool hf0).symm, by first | rfl | exact (congrArg Value.bool hf1).symm, by first | rfl | exact (congrArg Value.bool hf2).symm, by first | rfl | exact (congrArg Value.bool hf3).symm, (((HR3.out.set 0 (by omega) (.int .i64 (nn : Int))).set 0 (by omega) (.int .i64 ((nn : Int) + 2000))).of_eq (fun j hj => by rw [timeC_put3 d nn j hj, HFY.out]; by_cases h : j = 0 <;> simp [h])), fun j u hj => keep_set hAB (keep_set hAB (HC3.out j u hj)), ((hbw3.setCell hwB _).setCell hwB _), by rw [size_set, size_set]; exact hsz3⟩
                case measure => simp [intOf]; omega
          by_cases n100 : nn < 100
          · skip
            have HFY : Hid (fullY (nn : Int) = (nn : Int) + 1900) := by show (if _ then _ else _) = _; rw [if_neg (by omega), if_pos (by omega)]; omega
            rw [hf3]
            rcases R0.out with hf0 | ⟨hf0, hok⟩
            all_goals rw [hf0]
            all_goals try subst hok
            all_goals rcases R1b.out with hf1 | ⟨hf1, hk1⟩
            all_goals rw [hf1]
            all_goals rcases R2.out with hf2 | ⟨hf2, hm⟩
            all_goals rw [hf2]
            · skip
              as_aux_lemma =>
                go_wp2_with fail
                refine (leadDigits_any (txt x) _ (by unfold maxLen; omega)).mono ?_
                rw [txt_toList, KK.out, NN.out]
                rintro e wq ⟨rfl, rfl⟩
                go_wp2_with fail
                refine (dayTime_any (txt x) _ hxs).mono ?_
                rw [txt_toList, OK.out]
                rintro e w2 ⟨v2, rfl, hv2, hb2⟩
                have hV2 : Hid _ := hv2
                clear hv2
                have HB2 : Hid (Below wq.heap.size wq w2) := hb2
                have HR2 : Hid (Row w2 w1.heap.size 6 (timeC d)) := hR.out.below hb2 hsz
                have HC2 : Hid (∀ (j : Nat) u, (strs ws)[j]? = some u → w2.cell? ⟨A, j, none⟩ = some u) := fun j u hj => (hb2.cell (p := ⟨A, j, none⟩) (cell_in (hC.out j u hj))).trans (hC.out j u hj)
                have hbw2 : Below w.heap.size w w2 := next hb hb2
                have hsz2 : w1.heap.size < w2.heap.size := Nat.lt_of_lt_of_le hsz hb2.size
                have hx2 := HC2.out k _ (strs_get HX.out)
                clear hb2 hxc
                have tc0 := HR2.out.cell 0 (by omega)
                have tf0 := HR2.out.frozen 0 (by omega)
                go_wp2_with fail
                go_roundw
                case rel => exact ⟨k + 1, d.put 3 ((nn : Int), 0, 0), by omega, by go_num, HS.out.trans HD.out, by first | rfl | exact (congrArg Value.bool hf0).symm, by first | rfl | exact (congrArg Value.bool hf1).symm, by first | rfl | exact (congrArg Value.bool hf2).symm, by first | rfl | exact (congrArg Value.bool hf3).symm, (((HR2.out.set 0 (by omega) (.int .i64 (nn : Int))).set 0 (by omega) (.int .i64 ((nn : Int) + 1900))).of_eq (fun j hj => by rw [timeC_put3 d nn j hj, HFY.out]; by_cases h : j = 0 <;> simp [h])), fun j u hj => keep_set hAB (keep_set hAB (HC2.out j u hj)), ((hbw2.setCell hwB _).setCell hwB _), by rw [size_set, size_set]; exact hsz2⟩
                case measure => simp [intOf]; omega
            · subst hm
              as_aux_lemma =>
                go_wp2_with fail
                refine (leadDigits_any (txt x) _ (by unfold maxLen; omega)).mono ?_
                rw [txt_toList, KK.out, NN.out]
                rintro e wq ⟨rfl, rfl⟩
                go_wp2_with fail
                refine (dayTime_any (txt x) _ hxs).mono ?_
                rw [txt_toList, OK.out]
                rintro e w2 ⟨v2, rfl, hv2, hb2⟩
                have hV2 : Hid _ := hv2
                clear hv2
                have HB2 : Hid (Below wq.heap.size wq w2) := hb2
                have HR2 : Hid (Row w2 w1.heap.size 6 (timeC d)) := hR.out.below hb2 hsz
                have HC2 : Hid (∀ (j : Nat) u, (strs ws)[j]? = some u → w2.cell? ⟨A, j, none⟩ = some u) := fun j u hj => (hb2.cell (p := ⟨A, j, none⟩) (cell_in (hC.out j u hj))).trans (hC.out j u hj)
                have hbw2 : Below w.heap.size w w2 := next hb hb2
                have hsz2 : w1.heap.size < w2.heap.size := Nat.lt_of_lt_of_le hsz hb2.size
                have hx2 := HC2.out k _ (strs_get HX.out)
                clear hb2 hxc
                go_wp2_with fail
                refine (rmonthOf_any (txt x) _ hxs).mono ?_
                rw [txt_toList, MM.out]
                rintro e w3 ⟨rfl, hb3⟩
                have HR3 : Hid (Row w3 w1.heap.size 6 (timeC d)) := HR2.out.below hb3 hsz2
                have HC3 : Hid (∀ (j : Nat) u, (strs ws)[j]? = some u → w3.cell? ⟨A, j, none⟩ = some u) := fun j u hj => (hb3.cell (p := ⟨A, j, none⟩) (cell_in (HC2.out j u hj))).trans (HC2.out j u hj)
                have hbw3 : Below w.heap.size w w3 := next hbw2 hb3
                have hsz3 : w1.heap.size < w3.heap.size := Nat.lt_of_lt_of_le hsz2 hb3.size
                have hx3 := HC3.out k _ (strs_get HX.out)
                clear hb3
                have tc0 := HR3.out.cell 0 (by omega)
                have tf0 := HR3.out.frozen 0 (by omega)
                go_wp2_with fail
                go_roundw
                case rel => exact ⟨k + 1, d.put 3 ((nn : Int), 0, 0), by omega, by go_num, HS.out.trans HD.out, by first | rfl | exact (congrArg Value.bool hf0).symm, by first | rfl | exact (congrArg Value.bool hf1).symm, by first | rfl | exact (congrArg Value.bool hf2).symm, by first | rfl | exact (congrArg Value.bool hf3).symm, (((HR3.out.set 0 (by omega) (.int .i64 (nn : Int))).set 0 (by omega) (.int .i64 ((nn : Int) + 1900))).of_eq (fun j hj => by rw [timeC_put3 d nn j hj, HFY.out]; by_cases h : j = 0 <;> simp [h])), fun j u hj => keep_set hAB (keep_set hAB (HC3.out j u hj)), ((hbw3.setCell hwB _).setCell hwB _), by rw [size_set, size_set]; exact hsz3⟩
                case measure => simp [intOf]; omega
            · skip
              as_aux_lemma =>
                go_wp2_with fail
                refine (leadDigits_any (txt x) _ (by unfold maxLen; omega)).mono ?_
                rw [txt_toList, KK.out, NN.out]
                rintro e wq ⟨rfl, rfl⟩
                go_wp2_with fail
                refine (dayTime_any (txt x) _ hxs).mono ?_
                rw [txt_toList, OK.out]
                rintro e w2 ⟨v2, rfl, hv2, hb2⟩
                have hV2 : Hid _ := hv2
                clear hv2
                have HB2 : Hid (Below wq.heap.size wq w2) := hb2
                have HR2 : Hid (Row w2 w1.heap.size 6 (timeC d)) := hR.out.below hb2 hsz
                have HC2 : Hid (∀ (j : Nat) u, (strs ws)[j]? = some u → w2.cell? ⟨A, j, none⟩ = some u) := fun j u hj => (hb2.cell (p := ⟨A, j, none⟩) (cell_in (hC.out j u hj))).trans (hC.out j u hj)
                have hbw2 : Below w.heap.size w w2 := next hb hb2
                have hsz2 : w1.heap.size < w2.heap.size := Nat.lt_of_lt_of_le hsz hb2.size
                have hx2 := HC2.out k _ (strs_get HX.out)
                clear hb2 hxc
                have tc0 := HR2.out.cell 0 (by omega)
                have tf0 := HR2.out.frozen 0 (by omega)
                go_wp2_with fail
                go_roundw
                case rel => exact ⟨k + 1, d.put 3 ((nn : Int), 0, 0), by omega, by go_num, HS.out.trans HD.out, by first | rfl | exact (congrArg Value.bool hf0).symm, by first | rfl | exact (congrArg Value.bool hf1).symm, by first | rfl | exact (congrArg Value.bool hf2).symm, by first | rfl | exact (congrArg Value.bool hf3).symm, (((HR2.out.set 0 (by omega) (.int .i64 (nn : Int))).set 0 (by omega) (.int .i64 ((nn : Int) + 1900))).of_eq (fun j hj => by rw [timeC_put3 d nn j hj, HFY.out]; by_cases h : j = 0 <;> simp [h])), fun j u hj => keep_set hAB (keep_set hAB (HC2.out j u hj)), ((hbw2.setCell hwB _).setCell hwB _), by rw [size_set, size_set]; exact hsz2⟩
                case measure => simp [intOf]; omega
            · subst hm
              as_aux_lemma =>
                go_wp2_with fail
                refine (leadDigits_any (txt x) _ (by unfold maxLen; omega)).mono ?_
                rw [txt_toList, KK.out, NN.out]
                rintro e wq ⟨rfl, rfl⟩
                go_wp2_with fail
                refine (dayTime_any (txt x) _ hxs).mono ?_
                rw [txt_toList, OK.out]
                rintro e w2 ⟨v2, rfl, hv2, hb2⟩
                have hV2 : Hid _ := hv2
                clear hv2
                have HB2 : Hid (Below wq.heap.size wq w2) := hb2
                have HR2 : Hid (Row w2 w1.heap.size 6 (timeC d)) := hR.out.below hb2 hsz
                have HC2 : Hid (∀ (j : Nat) u, (strs ws)[j]? = some u → w2.cell? ⟨A, j, none⟩ = some u) := fun j u hj => (hb2.cell (p := ⟨A, j, none⟩) (cell_in (hC.out j u hj))).trans (hC.out j u hj)
                have hbw2 : Below w.heap.size w w2 := next hb hb2
                have hsz2 : w1.heap.size < w2.heap.size := Nat.lt_of_lt_of_le hsz hb2.size
                have hx2 := HC2.out k _ (strs_get HX.out)
                clear hb2 hxc
                go_wp2_with fail
                refine (rmonthOf_any (txt x) _ hxs).mono ?_
                rw [txt_toList, MM.out]
                rintro e w3 ⟨rfl, hb3⟩
                have HR3 : Hid (Row w3 w1.heap.size 6 (timeC d)) := HR2.out.below hb3 hsz2
                have HC3 : Hid (∀ (j : Nat) u, (strs ws)[j]? = some u → w3.cell? ⟨A, j, none⟩ = some u) := fun j u hj => (hb3.cell (p := ⟨A, j, none⟩) (cell_in (HC2.out j u hj))).trans (HC2.out j u hj)
                have hbw3 : Below w.heap.size w w3 := next hbw2 hb3
                have hsz3 : w1.heap.size < w3.heap.size := Nat.lt_of_lt_of_le hsz2 hb3.size
                have hx3 := HC3.out k _ (strs_get HX.out)
                clear hb3
                have tc0 := HR3.out.cell 0 (by omega)
                have tf0 := HR3.out.frozen 0 (by omega)
                go_wp2_with fail
                go_roundw
                case rel => exact ⟨k + 1, d.put 3 ((nn : Int), 0, 0), by omega, by go_num, HS.out.trans HD.out, by first | rfl | exact (congrArg Value.bool hf0).symm, by first | rfl | exact (congrArg Value.bool hf1).symm, by first | rfl | exact (congrArg Value.bool hf2).symm, by first | rfl | exact (congrArg Value.bool hf3).symm, (((HR3.out.set 0 (by omega) (.int .i64 (nn : Int))).set 0 (by omega) (.int .i64 ((nn : Int) + 1900))).of_eq (fun j hj => by rw [timeC_put3 d nn j hj, HFY.out]; by_cases h : j = 0 <;> simp [h])), fun j u hj => keep_set hAB (keep_set hAB (HC3.out j u hj)), ((hbw3.setCell hwB _).setCell hwB _), by rw [size_set, size_set]; exact hsz3⟩
                case measure => simp [intOf]; omega
            · skip
              as_aux_lemma =>
                go_wp2_with fail
                refine (leadDigits_any (txt x) _ (by unfold maxLen; omega)).mono ?_
                rw [txt_toList, KK.out, NN.out]
                rintro e wq ⟨rfl, rfl⟩
                go_wp2_with fail
                refine (dayTime_any (txt x) _ hxs).mono ?_
                rw [txt_toList, OK.out]
                rintro e w2 ⟨v2, rfl, hv2, hb2⟩
                have hV2 : Hid _ := hv2
                clear hv2
                have HB2 : Hid (Below wq.heap.size wq w2) := hb2
                have HR2 : Hid (Row w2 w1.heap.size 6 (timeC d)) := hR.out.below hb2 hsz
                have HC2 : Hid (∀ (j : Nat) u, (strs ws)[j]? = some u → w2.cell? ⟨A, j, none⟩ = some u) := fun j u hj => (hb2.cell (p := ⟨A, j, none⟩) (cell_in (hC.out j u hj))).trans (hC.out j u hj)
                have hbw2 : Below w.heap.size w w2 := next hb hb2
                have hsz2 : w1.heap.size < w2.heap.size := Nat.lt_of_lt_of_le hsz hb2.size
                have hx2 := HC2.out k _ (strs_get HX.out)
                clear hb2 hxc
                have tc0 := HR2.out.cell 0 (by omega)
                have tf0 := HR2.out.frozen 0 (by omega)
                go_wp2_with fail
                go_roundw
                case rel => exact ⟨k + 1, d.put 3 ((nn : Int), 0, 0), by omega, by go_num, HS.out.trans HD.out, by first | rfl | exact (congrArg Value.bool hf0).symm, by first | rfl | exact (congrArg Value.bool hf1).symm, by first | rfl | exact (congrArg Value.bool hf2).symm, by first | rfl | exact (congrArg Value.bool hf3).symm, (((HR2.out.set 0 (by omega) (.int .i64 (nn : Int))).set 0 (by omega) (.int .i64 ((nn : Int) + 1900))).of_eq (fun j hj => by rw [timeC_put3 d nn j hj, HFY.out]; by_cases h : j = 0 <;> simp [h])), fun j u hj => keep_set hAB (keep_set hAB (HC2.out j u hj)), ((hbw2.setCell hwB _).setCell hwB _), by rw [size_set, size_set]; exact hsz2⟩
                case measure => simp [intOf]; omega
            · subst hm
              as_aux_lemma =>
                go_wp2_with fail
                refine (leadDigits_any (txt x) _ (by unfold maxLen; omega)).mono ?_
                rw [txt_toList, KK.out, NN.out]
                rintro e wq ⟨rfl, rfl⟩
                go_wp2_with fail
                refine (dayTime_any (txt x) _ hxs).mono ?_
                rw [txt_toList, OK.out]
                rintro e w2 ⟨v2, rfl, hv2, hb2⟩
                have hV2 : Hid _ := hv2
                clear hv2
                have HB2 : Hid (Below wq.heap.size wq w2) := hb2
                have HR2 : Hid (Row w2 w1.heap.size 6 (timeC d)) := hR.out.below hb2 hsz
                have HC2 : Hid (∀ (j : Nat) u, (strs ws)[j]? = some u → w2.cell? ⟨A, j, none⟩ = some u) := fun j u hj => (hb2.cell (p := ⟨A, j, none⟩) (cell_in (hC.out j u hj))).trans (hC.out j u hj)
                have hbw2 : Below w.heap.size w w2 := next hb hb2
                have hsz2 : w1.heap.size < w2.heap.size := Nat.lt_of_lt_of_le hsz hb2.size
                have hx2 := HC2.out k _ (strs_get HX.out)
                clear hb2 hxc
                go_wp2_with fail
                refine (rmonthOf_any (txt x) _ hxs).mono ?_
                rw [txt_toList, MM.out]
                rintro e w3 ⟨rfl, hb3⟩
                have HR3 : Hid (Row w3 w1.heap.size 6 (timeC d)) := HR2.out.below hb3 hsz2
                have HC3 : Hid (∀ (j : Nat) u, (strs ws)[j]? = some u → w3.cell? ⟨A, j, none⟩ = some u) := fun j u hj => (hb3.cell (p := ⟨A, j, none⟩) (cell_in (HC2.out j u hj))).trans (HC2.out j u hj)
                have hbw3 : Below w.heap.size w w3 := next hbw2 hb3
                have hsz3 : w1.heap.size < w3.heap.size := Nat.lt_of_lt_of_le hsz2 hb3.size
                have hx3 := HC3.out k _ (strs_get HX.out)
                clear hb3
                have tc0 := HR3.out.cell 0 (by omega)
                have tf0 := HR3.out.frozen 0 (by omega)
                go_wp2_with fail
                go_roundw
                case rel => exact ⟨k + 1, d.put 3 ((nn : Int), 0, 0), by omega, by go_num, HS.out.trans HD.out, by first | rfl | exact (congrArg Value.bool hf0).symm, by first | rfl | exact (congrArg Value.bool hf1).symm, by first | rfl | exact (congrArg Value.bool hf2).symm, by first | rfl | exact (congrArg Value.bool hf3).symm, (((HR3.out.set 0 (by omega) (.int .i64 (nn : Int))).set 0 (by omega) (.int .i64 ((nn : Int) + 1900))).of_eq (fun j hj => by rw [timeC_put3 d nn j hj, HFY.out]; by_cases h : j = 0 <;> simp [h])), fun j u hj => keep_set hAB (keep_set hAB (HC3.out j u hj)), ((hbw3.setCell hwB _).setCell hwB _), by rw [size_set, size_set]; exact hsz3⟩
                case measure => simp [intOf]; omega
            · skip
              as_aux_lemma =>
                go_wp2_with fail
                refine (leadDigits_any (txt x) _ (by unfold maxLen; omega)).mono ?_
                rw [txt_toList, KK.out, NN.out]
                rintro e wq ⟨rfl, rfl⟩
                go_wp2_with fail
                refine (dayTime_any (txt x) _ hxs).mono ?_
                rw [txt_toList, OK.out]
                rintro e w2 ⟨v2, rfl, hv2, hb2⟩
                have hV2 : Hid _ := hv2
                clear hv2
                have HB2 : Hid (Below wq.heap.size wq w2) := hb2
                have HR2 : Hid (Row w2 w1.heap.size 6 (timeC d)) := hR.out.below hb2 hsz
                have HC2 : Hid (∀ (j : Nat) u, (strs ws)[j]? = some u → w2.cell? ⟨A, j, none⟩ = some u) := fun j u hj => (hb2.cell (p := ⟨A, j, none⟩) (cell_in (hC.out j u hj))).trans (hC.out j u hj)
                have hbw2 : Below w.heap.size w w2 := next hb hb2
                have hsz2 : w1.heap.size < w2.heap.size := Nat.lt_of_lt_of_le hsz hb2.size
                have hx2 := HC2.out k _ (strs_get HX.out)
                clear hb2 hxc
                have tc0 := HR2.out.cell 0 (by omega)
                have tf0 := HR2.out.frozen 0 (by omega)
                go_wp2_with fail
                go_roundw
                case rel => exact ⟨k + 1, d.put 3 ((nn : Int), 0, 0), by omega, by go_num, HS.out.trans HD.out, by first | rfl | exact (congrArg Value.bool hf0).symm, by first | rfl | exact (congrArg Value.bool hf1).symm, by first | rfl | exact (congrArg Value.bool hf2).symm, by first | rfl | exact (congrArg Value.bool hf3).symm, (((HR2.out.set 0 (by omega) (.int .i64 (nn : Int))).set 0 (by omega) (.int .i64 ((nn : Int) + 1900))).of_eq (fun j hj => by rw [timeC_put3 d nn j hj, HFY.out]; by_cases h : j = 0 <;> simp [h])), fun j u hj => keep_set hAB (keep_set hAB (HC2.out j u hj)), ((hbw2.setCell hwB _).setCell hwB _), by rw [size_set, size_set]; exact hsz2⟩
                case measure => simp [intOf]; omega
            · subst hm
              as_aux_lemma =>
                go_wp2_with fail
                refine (leadDigits_any (txt x) _ (by unfold maxLen; omega)).mono ?_
                rw [txt_toList, KK.out, NN.out]
                rintro e wq ⟨rfl, rfl⟩
                go_wp2_with fail
                refine (dayTime_any (txt x) _ hxs).mono ?_
                rw [txt_toList, OK.out]
                rintro e w2 ⟨v2, rfl, hv2, hb2⟩
                have hV2 : Hid _ := hv2
                clear hv2
                have HB2 : Hid (Below wq.heap.size wq w2) := hb2
                have HR2 : Hid (Row w2 w1.heap.size 6 (timeC d)) := hR.out.below hb2 hsz
                have HC2 : Hid (∀ (j : Nat) u, (strs ws)[j]? = some u → w2.cell? ⟨A, j, none⟩ = some u) := fun j u hj => (hb2.cell (p := ⟨A, j, none⟩) (cell_in (hC.out j u hj))).trans (hC.out j u hj)
                have hbw2 : Below w.heap.size w w2 := next hb hb2
                have hsz2 : w1.heap.size < w2.heap.size := Nat.lt_of_lt_of_le hsz hb2.size
                have hx2 := HC2.out k _ (strs_get HX.out)
                clear hb2 hxc
                go_wp2_with fail
                refine (rmonthOf_any (txt x) _ hxs).mono ?_
                rw [txt_toList, MM.out]
                rintro e w3 ⟨rfl, hb3⟩
                have HR3 : Hid (Row w3 w1.heap.size 6 (timeC d)) := HR2.out.below hb3 hsz2
                have HC3 : Hid (∀ (j : Nat) u, (strs ws)[j]? = some u → w3.cell? ⟨A, j, none⟩ = some u) := fun j u hj => (hb3.cell (p := ⟨A, j, none⟩) (cell_in (HC2.out j u hj))).trans (HC2.out j u hj)
                have hbw3 : Below w.heap.size w w3 := next hbw2 hb3
                have hsz3 : w1.heap.size < w3.heap.size := Nat.lt_of_lt_of_le hsz2 hb3.size
                have hx3 := HC3.out k _ (strs_get HX.out)
                clear hb3
                have tc0 := HR3.out.cell 0 (by omega)
                have tf0 := HR3.out.frozen 0 (by omega)
                go_wp2_with fail
                go_roundw
                case rel => exact ⟨k + 1, d.put 3 ((nn : Int), 0, 0), by omega, by go_num, HS.out.trans HD.out, by first | rfl | exact (congrArg Value.bool hf0).symm, by first | rfl | exact (congrArg Value.bool hf1).symm, by first | rfl | exact (congrArg Value.bool hf2).symm, by first | rfl | exact (congrArg Value.bool hf3).symm, (((HR3.out.set 0 (by omega) (.int .i64 (nn : Int))).set 0 (by omega) (.int .i64 ((nn : Int) + 1900))).of_eq (fun j hj => by rw [timeC_put3 d nn j hj, HFY.out]; by_cases h : j = 0 <;> simp [h])), fun j u hj => keep_set hAB (keep_set hAB (HC3.out j u hj)), ((hbw3.setCell hwB _).setCell hwB _), by rw [size_set, size_set]; exact hsz3⟩
                case measure => simp [intOf]; omega
          · skip
            have HFY : Hid (fullY (nn : Int) = (nn : Int)) := by show (if _ then _ else _) = _; rw [if_neg (by omega), if_neg (by omega)]
            rw [hf3]
            rcases R0.out with hf0 | ⟨hf0, hok⟩
            all_goals rw [hf0]
            all_goals try subst hok
            all_goals rcases R1b.out with hf1 | ⟨hf1, hk1⟩
            all_goals rw [hf1]
            all_goals rcases R2.out with hf2 | ⟨hf2, hm⟩
            all_goals rw [hf2]
            · skip
              as_aux_lemma =>
                go_wp2_with fail
                refine (leadDigits_any (txt x) _ (by unfold maxLen; omega)).mono ?_
                rw [txt_toList, KK.out, NN.out]
                rintro e wq ⟨rfl, rfl⟩
                go_wp2_with fail
                refine (dayTime_any (txt x) _ hxs).mono ?_
                rw [txt_toList, OK.out]
                rintro e w2 ⟨v2, rfl, hv2, hb2⟩
                have hV2 : Hid _ := hv2
                clear hv2
                have HB2 : Hid (Below wq.heap.size wq w2) := hb2
                have HR2 : Hid (Row w2 w1.heap.size 6 (timeC d)) := hR.out.below hb2 hsz
                have HC2 : Hid (∀ (j : Nat) u, (strs ws)[j]? = some u → w2.cell? ⟨A, j, none⟩ = some u) := fun j u hj => (hb2.cell (p := ⟨A, j, none⟩) (cell_in (hC.out j u hj))).trans (hC.out j u hj)
                have hbw2 : Below w.heap.size w w2 := next hb hb2
                have hsz2 : w1.heap.size < w2.heap.size := Nat.lt_of_lt_of_le hsz hb2.size
                have hx2 := HC2.out k _ (strs_get HX.out)
                clear hb2 hxc
                have tc0 := HR2.out.cell 0 (by omega)
                have tf0 := HR2.out.frozen 0 (by omega)
                go_wp2_with fail
                go_roundw
                case rel => exact ⟨k + 1, d.put 3 ((nn : Int), 0, 0), by omega, by go_num, HS.out.trans HD.out, by first | rfl | exact (congrArg Value.bool hf0).symm, by first | rfl | exact (congrArg Value.bool hf1).symm, by first | rfl | exact (congrArg Value.bool hf2).symm, by first | rfl | exact (congrArg Value.bool hf3).symm, ((HR2.out.set 0 (by omega) (.int .i64 (nn : Int))).of_eq (fun j hj => by rw [timeC_put3 d nn j hj, HFY.out])), fun j u hj => keep_set hAB (HC2.out j u hj), (hbw2.setCell hwB _), by rw [size_set]; exact hsz2⟩
                case measure => simp [intOf]; omega
            · subst hm
              as_aux_lemma =>
                go_wp2_with fail
                refine (leadDigits_any (txt x) _ (by unfold maxLen; omega)).mono ?_
                rw [txt_toList, KK.out, NN.out]
                rintro e wq ⟨rfl, rfl⟩
                go_wp2_with fail
                refine (dayTime_any (txt x) _ hxs).mono ?_
                rw [txt_toList, OK.out]
                rintro e w2 ⟨v2, rfl, hv2, hb2⟩
                have hV2 : Hid _ := hv2
                clear hv2
                have HB2 : Hid (Below wq.heap.size wq w2) := hb2
                have HR2 : Hid (Row w2 w1.heap.size 6 (timeC d)) := hR.out.below hb2 hsz
                have HC2 : Hid (∀ (j : Nat) u, (strs ws)[j]? = some u → w2.cell? ⟨A, j, none⟩ = some u) := fun j u hj => (hb2.cell (p := ⟨A, j, none⟩) (cell_in (hC.out j u hj))).trans (hC.out j u hj)
                have hbw2 : Below w.heap.size w w2 := next hb hb2
                have hsz2 : w1.heap.size < w2.heap.size := Nat.lt_of_lt_of_le hsz hb2.size
                have hx2 := HC2.out k _ (strs_get HX.out)
                clear hb2 hxc
                go_wp2_with fail
                refine (rmonthOf_any (txt x) _ hxs).mono ?_
                rw [txt_toList, MM.out]
                rintro e w3 ⟨rfl, hb3⟩
                have HR3 : Hid (Row w3 w1.heap.size 6 (timeC d)) := HR2.out.below hb3 hsz2
                have HC3 : Hid (∀ (j : Nat) u, (strs ws)[j]? = some u → w3.cell? ⟨A, j, none⟩ = some u) := fun j u hj => (hb3.cell (p := ⟨A, j, none⟩) (cell_in (HC2.out j u hj))).trans (HC2.out j u hj)
                have hbw3 : Below w.heap.size w w3 := next hbw2 hb3
                have hsz3 : w1.heap.size < w3.heap.size := Nat.lt_of_lt_of_le hsz2 hb3.size
                have hx3 := HC3.out k _ (strs_get HX.out)
                clear hb3
                have tc0 := HR3.out.cell 0 (by omega)
                have tf0 := HR3.out.frozen 0 (by omega)
                go_wp2_with fail
                go_roundw
                case rel => exact ⟨k + 1, d.put 3 ((nn : Int), 0, 0), by omega, by go_num, HS.out.trans HD.out, by first | rfl | exact (congrArg Value.bool hf0).symm, by first | rfl | exact (congrArg Value.bool hf1).symm, by first | rfl | exact (congrArg Value.bool hf2).symm, by first | rfl | exact (congrArg Value.bool hf3).symm, ((HR3.out.set 0 (by omega) (.int .i64 (nn : Int))).of_eq (fun j hj => by rw [timeC_put3 d nn j hj, HFY.out])), fun j u hj => keep_set hAB (HC3.out j u hj), (hbw3.setCell hwB _), by rw [size_set]; exact hsz3⟩
                case measure => simp [intOf]; omega
            · skip
              as_aux_lemma =>
                go_wp2_with fail
                refine (leadDigits_any (txt x) _ (by unfold maxLen; omega)).mono ?_
                rw [txt_toList, KK.out, NN.out]
                rintro e wq ⟨rfl, rfl⟩
                go_wp2_with fail
                refine (dayTime_any (txt x) _ hxs).mono ?_
                rw [txt_toList, OK.out]
                rintro e w2 ⟨v2, rfl, hv2, hb2⟩
                have hV2 : Hid _ := hv2
                clear hv2
                have HB2 : Hid (Below wq.heap.size wq w2) := hb2
                have HR2 : Hid (Row w2 w1.heap.size 6 (timeC d)) := hR.out.below hb2 hsz
                have HC2 : Hid (∀ (j : Nat) u, (strs ws)[j]? = some u → w2.cell? ⟨A, j, none⟩ = some u) := fun j u hj => (hb2.cell (p := ⟨A, j, none⟩) (cell_in (hC.out j u hj))).trans (hC.out j u hj)
                have hbw2 : Below w.heap.size w w2 := next hb hb2
                have hsz2 : w1.heap.size < w2.heap.size := Nat.lt_of_lt_of_le hsz hb2.size
                have hx2 := HC2.out k _ (strs_get HX.out)
                clear hb2 hxc
                have tc0 := HR2.out.cell 0 (by omega)
                have tf0 := HR2.out.frozen 0 (by omega)
                go_wp2_with fail
                go_roundw
                case rel => exact ⟨k + 1, d.put 3 ((nn : Int), 0, 0), by omega, by go_num, HS.out.trans HD.out, by first | rfl | exact (congrArg Value.bool hf0).symm, by first | rfl | exact (congrArg Value.bool hf1).symm, by first | rfl | exact (congrArg Value.bool hf2).symm, by first | rfl | exact (congrArg Value.bool hf3).symm, ((HR2.out.set 0 (by omega) (.int .i64 (nn : Int))).of_eq (fun j hj => by rw [timeC_put3 d nn j hj, HFY.out])), fun j u hj => keep_set hAB (HC2.out j u hj), (hbw2.setCell hwB _), by rw [size_set]; exact hsz2⟩
                case measure => simp [intOf]; omega
            · subst hm
              as_aux_lemma =>
                go_wp2_with fail
                refine (leadDigits_any (txt x) _ (by unfold maxLen; omega)).mono ?_
                rw [txt_toList, KK.out, NN.out]
                rintro e wq ⟨rfl, rfl⟩
                go_wp2_with fail
                refine (dayTime_any (txt x) _ hxs).mono ?_
                rw [txt_toList, OK.out]
                rintro e w2 ⟨v2, rfl, hv2, hb2⟩
                have hV2 : Hid _ := hv2
                clear hv2
                have HB2 : Hid (Below wq.heap.size wq w2) := hb2
                have HR2 : Hid (Row w2 w1.heap.size 6 (timeC d)) := hR.out.below hb2 hsz
                have HC2 : Hid (∀ (j : Nat) u, (strs ws)[j]? = some u → w2.cell? ⟨A, j, none⟩ = some u) := fun j u hj => (hb2.cell (p := ⟨A, j, none⟩) (cell_in (hC.out j u hj))).trans (hC.out j u hj)
                have hbw2 : Below w.heap.size w w2 := next hb hb2
                have hsz2 : w1.heap.size < w2.heap.size := Nat.lt_of_lt_of_le hsz hb2.size
                have hx2 := HC2.out k _ (strs_get HX.out)
                clear hb2 hxc
                go_wp2_with fail
                refine (rmonthOf_any (txt x) _ hxs).mono ?_
                rw [txt_toList, MM.out]
                rintro e w3 ⟨rfl, hb3⟩
                have HR3 : Hid (Row w3 w1.heap.size 6 (timeC d)) := HR2.out.below hb3 hsz2
                have HC3 : Hid (∀ (j : Nat) u, (strs ws)[j]? = some u → w3.cell? ⟨A, j, none⟩ = some u) := fun j u hj => (hb3.cell (p := ⟨A, j, none⟩) (cell_in (HC2.out j u hj))).trans (HC2.out j u hj)
                have hbw3 : Below w.heap.size w w3 := next hbw2 hb3
                have hsz3 : w1.heap.size < w3.heap.size := Nat.lt_of_lt_of_le hsz2 hb3.size
                have hx3 := HC3.out k _ (strs_get HX.out)
                clear hb3
                have tc0 := HR3.out.cell 0 (by omega)
                have tf0 := HR3.out.frozen 0 (by omega)
                go_wp2_with fail
                go_roundw
                case rel => exact ⟨k + 1, d.put 3 ((nn : Int), 0, 0), by omega, by go_num, HS.out.trans HD.out, by first | rfl | exact (congrArg Value.bool hf0).symm, by first | rfl | exact (congrArg Value.bool hf1).symm, by first | rfl | exact (congrArg Value.bool hf2).symm, by first | rfl | exact (congrArg Value.bool hf3).symm, ((HR3.out.set 0 (by omega) (.int .i64 (nn : Int))).of_eq (fun j hj => by rw [timeC_put3 d nn j hj, HFY.out])), fun j u hj => keep_set hAB (HC3.out j u hj), (hbw3.setCell hwB _), by rw [size_set]; exact hsz3⟩
                case measure => simp [intOf]; omega
            · skip
              as_aux_lemma =>
                go_wp2_with fail
                refine (leadDigits_any (txt x) _ (by unfold maxLen; omega)).mono ?_
                rw [txt_toList, KK.out, NN.out]
                rintro e wq ⟨rfl, rfl⟩
                go_wp2_with fail
                refine (dayTime_any (txt x) _ hxs).mono ?_
                rw [txt_toList, OK.out]
                rintro e w2 ⟨v2, rfl, hv2, hb2⟩
                have hV2 : Hid _ := hv2
                clear hv2
                have HB2 : Hid (Below wq.heap.size wq w2) := hb2
                have HR2 : Hid (Row w2 w1.heap.size 6 (timeC d)) := hR.out.below hb2 hsz
                have HC2 : Hid (∀ (j : Nat) u, (strs ws)[j]? = some u → w2.cell? ⟨A, j, none⟩ = some u) := fun j u hj => (hb2.cell (p := ⟨A, j, none⟩) (cell_in (hC.out j u hj))).trans (hC.out j u hj)
                have hbw2 : Below w.heap.size w w2 := next hb hb2
                have hsz2 : w1.heap.size < w2.heap.size := Nat.lt_of_lt_of_le hsz hb2.size
                have hx2 := HC2.out k _ (strs_get HX.out)
                clear hb2 hxc
                have tc0 := HR2.out.cell 0 (by omega)
                have tf0 := HR2.out.frozen 0 (by omega)
                go_wp2_with fail
                go_roundw
                case rel => exact ⟨k + 1, d.put 3 ((nn : Int), 0, 0), by omega, by go_num, HS.out.trans HD.out, by first | rfl | exact (congrArg Value.bool hf0).symm, by first | rfl | exact (congrArg Value.bool hf1).symm, by first | rfl | exact (congrArg Value.bool hf2).symm, by first | rfl | exact (congrArg Value.bool hf3).symm, ((HR2.out.set 0 (by omega) (.int .i64 (nn : Int))).of_eq (fun j hj => by rw [timeC_put3 d nn j hj, HFY.out])), fun j u hj => keep_set hAB (HC2.out j u hj), (hbw2.setCell hwB _), by rw [size_set]; exact hsz2⟩
                case measure => simp [intOf]; omega
            · subst hm
              as_aux_lemma =>
                go_wp2_with fail
                refine (leadDigits_any (txt x) _ (by unfold maxLen; omega)).mono ?_
                rw [txt_toList, KK.out, NN.out]
                rintro e wq ⟨rfl, rfl⟩
                go_wp2_with fail
                refine (dayTime_any (txt x) _ hxs).mono ?_
                rw [txt_toList, OK.out]
                rintro e w2 ⟨v2, rfl, hv2, hb2⟩
                have hV2 : Hid _ := hv2
                clear hv2
                have HB2 : Hid (Below wq.heap.size wq w2) := hb2
                have HR2 : Hid (Row w2 w1.heap.size 6 (timeC d)) := hR.out.below hb2 hsz
                have HC2 : Hid (∀ (j : Nat) u, (strs ws)[j]? = some u → w2.cell? ⟨A, j, none⟩ = some u) := fun j u hj => (hb2.cell (p := ⟨A, j, none⟩) (cell_in (hC.out j u hj))).trans (hC.out j u hj)
                have hbw2 : Below w.heap.size w w2 := next hb hb2
                have hsz2 : w1.heap.size < w2.heap.size := Nat.lt_of_lt_of_le hsz hb2.size
                have hx2 := HC2.out k _ (strs_get HX.out)
                clear hb2 hxc
                go_wp2_with fail
                refine (rmonthOf_any (txt x) _ hxs).mono ?_
                rw [txt_toList, MM.out]
                rintro e w3 ⟨rfl, hb3⟩
                have HR3 : Hid (Row w3 w1.heap.size 6 (timeC d)) := HR2.out.below hb3 hsz2
                have HC3 : Hid (∀ (j : Nat) u, (strs ws)[j]? = some u → w3.cell? ⟨A, j, none⟩ = some u) := fun j u hj => (hb3.cell (p := ⟨A, j, none⟩) (cell_in (HC2.out j u hj))).trans (HC2.out j u hj)
                have hbw3 : Below w.heap.size w w3 := next hbw2 hb3
                have hsz3 : w1.heap.size < w3.heap.size := Nat.lt_of_lt_of_le hsz2 hb3.size
                have hx3 := HC3.out k _ (strs_get HX.out)
                clear hb3
                have tc0 := HR3.out.cell 0 (by omega)
                have tf0 := HR3.out.frozen 0 (by omega)
                go_wp2_with fail
                go_roundw
                case rel => exact ⟨k + 1, d.put 3 ((nn : Int), 0, 0), by omega, by go_num, HS.out.trans HD.out, by first | rfl | exact (congrArg Value.bool hf0).symm, by first | rfl | exact (congrArg Value.bool hf1).symm, by first | rfl | exact (congrArg Value.bool hf2).symm, by first | rfl | exact (congrArg Value.bool hf3).symm, ((HR3.out.set 0 (by omega) (.int .i64 (nn : Int))).of_eq (fun j hj => by rw [timeC_put3 d nn j hj, HFY.out])), fun j u hj => keep_set hAB (HC3.out j u hj), (hbw3.setCell hwB _), by rw [size_set]; exact hsz3⟩
                case measure => simp [intOf]; omega
            · skip
              as_aux_lemma =>
                go_wp2_with fail
                refine (leadDigits_any (txt x) _ (by unfold maxLen; omega)).mono ?_
                rw [txt_toList, KK.out, NN.out]
                rintro e wq ⟨rfl, rfl⟩
                go_wp2_with fail
                refine (dayTime_any (txt x) _ hxs).mono ?_
                rw [txt_toList, OK.out]
                rintro e w2 ⟨v2, rfl, hv2, hb2⟩
                have hV2 : Hid _ := hv2
                clear hv2
                have HB2 : Hid (Below wq.heap.size wq w2) := hb2
                have HR2 : Hid (Row w2 w1.heap.size 6 (timeC d)) := hR.out.below hb2 hsz
                have HC2 : Hid (∀ (j : Nat) u, (strs ws)[j]? = some u → w2.cell? ⟨A, j, none⟩ = some u) := fun j u hj => (hb2.cell (p := ⟨A, j, none⟩) (cell_in (hC.out j u hj))).trans (hC.out j u hj)
                have hbw2 : Below w.heap.size w w2 := next hb hb2
                have hsz2 : w1.heap.size < w2.heap.size := Nat.lt_of_lt_of_le hsz hb2.size
                have hx2 := HC2.out k _ (strs_get HX.out)
                clear hb2 hxc
                have tc0 := HR2.out.cell 0 (by omega)
                have tf0 := HR2.out.frozen 0 (by omega)
                go_wp2_with fail
                go_roundw
                case rel => exact ⟨k + 1, d.put 3 ((nn : Int), 0, 0), by omega, by go_num, HS.out.trans HD.out, by first | rfl | exact (congrArg Value.bool hf0).symm, by first | rfl | exact (congrArg Value.bool hf1).symm, by first | rfl | exact (congrArg Value.bool hf2).symm, by first | rfl | exact (congrArg Value.bool hf3).symm, ((HR2.out.set 0 (by omega) (.int .i64 (nn : Int))).of_eq (fun j hj => by rw [timeC_put3 d nn j hj, HFY.out])), fun j u hj => keep_set hAB (HC2.out j u hj), (hbw2.setCell hwB _), by rw [size_set]; exact hsz2⟩
                case measure => simp [intOf]; omega
            · subst hm
              as_aux_lemma =>
                go_wp2_with fail
                refine (leadDigits_any (txt x) _ (by unfold maxLen; omega)).mono ?_
                rw [txt_toList, KK.out, NN.out]
                rintro e wq ⟨rfl, rfl⟩
                go_wp2_with fail
                refine (dayTime_any (txt x) _ hxs).mono ?_
                rw [txt_toList, OK.out]
                rintro e w2 ⟨v2, rfl, hv2, hb2⟩
                have hV2 : Hid _ := hv2
                clear hv2
                have HB2 : Hid (Below wq.heap.size wq w2) := hb2
                have HR2 : Hid (Row w2 w1.heap.size 6 (timeC d)) := hR.out.below hb2 hsz
                have HC2 : Hid (∀ (j : Nat) u, (strs ws)[j]? = some u → w2.cell? ⟨A, j, none⟩ = some u) := fun j u hj => (hb2.cell (p := ⟨A, j, none⟩) (cell_in (hC.out j u hj))).trans (hC.out j u hj)
                have hbw2 : Below w.heap.size w w2 := next hb hb2
                have hsz2 : w1.heap.size < w2.heap.size := Nat.lt_of_lt_of_le hsz hb2.size
                have hx2 := HC2.out k _ (strs_get HX.out)
                clear hb2 hxc
                go_wp2_with fail
                refine (rmonthOf_any (txt x) _ hxs).mono ?_
                rw [txt_toList, MM.out]
                rintro e w3 ⟨rfl, hb3⟩
                have HR3 : Hid (Row w3 w1.heap.size 6 (timeC d)) := HR2.out.below hb3 hsz2
                have HC3 : Hid (∀ (j : Nat) u, (strs ws)[j]? = some u → w3.cell? ⟨A, j, none⟩ = some u) := fun j u hj => (hb3.cell (p := ⟨A, j, none⟩) (cell_in (HC2.out j u hj))).trans (HC2.out j u hj)
                have hbw3 : Below w.heap.size w w3 := next hbw2 hb3
                have hsz3 : w1.heap.size < w3.heap.size := Nat.lt_of_lt_of_le hsz2 hb3.size
                have hx3 := HC3.out k _ (strs_get HX.out)
                clear hb3
                have tc0 := HR3.out.cell 0 (by omega)
                have tf0 := HR3.out.frozen 0 (by omega)
                go_wp2_with fail
                go_roundw
                case rel => exact ⟨k + 1, d.put 3 ((nn : Int), 0, 0), by omega, by go_num, HS.out.trans HD.out, by first | rfl | exact (congrArg Value.bool hf0).symm, by first | rfl | exact (congrArg Value.bool hf1).symm, by first | rfl | exact (congrArg Value.bool hf2).symm, by first | rfl | exact (congrArg Value.bool hf3).symm, ((HR3.out.set 0 (by omega) (.int .i64 (nn : Int))).of_eq (fun j hj => by rw [timeC_put3 d nn j hj, HFY.out])), fun j u hj => keep_set hAB (HC3.out j u hj), (hbw3.setCell hwB _), by rw [size_set]; exact hsz3⟩
                case measure => simp [intOf]; omega
        have R3 : Hid (d.f 3 = true ∨ (d.f 3 = false ∧ (kk < 2 ∨ 4 < kk))) := by
          cases h : d.f 3
          · exact .inr ⟨rfl, by rcases Nat.lt_or_ge kk 2 with h1 | h1; exact .inl h1; rcases Nat.lt_or_ge 4 kk with h2 | h2; exact .inr h2; exact absurd ⟨h, h1, h2⟩ t3⟩
          · exact .inl rfl
        have HD : Hid (stepD d x = d) := step_none d x (dumb_next _ _ 3 D3.out (by
          rcases R3.out with h | ⟨_, h⟩
          · exact .inl h
          · right
            rw [readK3, num_lead x 2 4 (by omega), KK.out, if_neg (by omega)]))
        clear t3
        rcases R0.out with hf0 | ⟨hf0, hok⟩
        all_goals rw [hf0]
        all_goals try subst hok
        all_goals rcases R1.out with hf1 | ⟨hf1, hk1 | hk1⟩
        all_goals rw [hf1]
        all_goals rcases R2.out with hf2 | ⟨hf2, hm⟩
        all_goals rw [hf2]
        all_goals rcases R3.out with hf3 | ⟨hf3, hk3 | hk3⟩
        all_goals rw [hf3]
        all_goals try (exfalso; omega)
        all_goals first
          | (have hf2' : d.f 2 = true := hf2; clear hf2'
             as_aux_lemma =>
               go_wp2_with fail
               refine (leadDigits_any (txt x) _ (by unfold maxLen; omega)).mono ?_
               rw [txt_toList, KK.out, NN.out]
               rintro e wq ⟨rfl, rfl⟩
               go_wp2_with fail
               refine (dayTime_any (txt x) _ hxs).mono ?_
               rw [txt_toList, OK.out]
               rintro e w2 ⟨v2, rfl, hv2, hb2⟩
               have hV2 : Hid _ := hv2
               clear hv2
               have HB2 : Hid (Below wq.heap.size wq w2) := hb2
               have HR2 : Hid (Row w2 w1.heap.size 6 (timeC d)) := hR.out.below hb2 hsz
               have HC2 : Hid (∀ (j : Nat) u, (strs ws)[j]? = some u → w2.cell? ⟨A, j, none⟩ = some u) := fun j u hj => (hb2.cell (p := ⟨A, j, none⟩) (cell_in (hC.out j u hj))).trans (hC.out j u hj)
               have hbw2 : Below w.heap.size w w2 := next hb hb2
               have hsz2 : w1.heap.size < w2.heap.size := Nat.lt_of_lt_of_le hsz hb2.size
               have hx2 := HC2.out k _ (strs_get HX.out)
               clear hb2 hxc
               go_wp2_with fail
               go_roundw
               case rel => exact ⟨k + 1, d, by omega, by go_num, HS.out.trans HD.out, by first | rfl | exact (congrArg Value.bool hf0).symm, by first | rfl | exact (congrArg Value.bool hf1).symm, by first | rfl | exact (congrArg Value.bool hf2).symm, by first | rfl | exact (congrArg Value.bool hf3).symm, HR2, HC2, hbw2, hsz2⟩
               case measure => simp [intOf]; omega
            )
          | (subst hm
             as_aux_lemma =>
               go_wp2_with fail
               refine (leadDigits_any (txt x) _ (by unfold maxLen; omega)).mono ?_
               rw [txt_toList, KK.out, NN.out]
               rintro e wq ⟨rfl, rfl⟩
               go_wp2_with fail
               refine (dayTime_any (txt x) _ hxs).mono ?_
               rw [txt_toList, OK.out]
               rintro e w2 ⟨v2, rfl, hv2, hb2⟩
               have hV2 : Hid _ := hv2
               clear hv2
               have HB2 : Hid (Below wq.heap.size wq w2) := hb2
               have HR2 : Hid (Row w2 w1.heap.size 6 (timeC d)) := hR.out.below hb2 hsz
               have HC2 : Hid (∀ (j : Nat) u, (strs ws)[j]? = some u → w2.cell? ⟨A, j, none⟩ = some u) := fun j u hj => (hb2.cell (p := ⟨A, j, none⟩) (cell_in (hC.out j u hj))).trans (hC.out j u hj)
               have hbw2 : Below w.heap.size w w2 := next hb hb2
               have hsz2 : w1.heap.size < w2.heap.size := Nat.lt_of_lt_of_le hsz hb2.size
               have hx2 := HC2.out k _ (strs_get HX.out)
               clear hb2 hxc
               go_wp2_with fail
               refine (rmonthOf_any (txt x) _ hxs).mono ?_
               rw [txt_toList, MM.out]
               rintro e w3 ⟨rfl, hb3⟩
               have HR3 : Hid (Row w3 w1.heap.size 6 (timeC d)) := HR2.out.below hb3 hsz2
               have HC3 : Hid (∀ (j : Nat) u, (strs ws)[j]? = some u → w3.cell? ⟨A, j, none⟩ = some u) := fun j u hj => (hb3.cell (p := ⟨A, j, none⟩) (cell_in (HC2.out j u hj))).trans (HC2.out j u hj)
               have hbw3 : Below w.heap.size w w3 := next hbw2 hb3
               have hsz3 : w1.heap.size < w3.heap.size := Nat.lt_of_lt_of_le hsz2 hb3.size
               have hx3 := HC3.out k _ (strs_get HX.out)
               clear hb3
               go_wp2_with fail
               go_roundw
               case rel => exact ⟨k + 1, d, by omega, by go_num, HS.out.trans HD.out, by first | rfl | exact (congrArg Value.bool hf0).symm, by first | rfl | exact (congrArg Value.bool hf1).symm, by first | rfl | exact (congrArg Value.bool hf2).symm, by first | rfl | exact (congrArg Value.bool hf3).symm, HR3, HC3, hbw3, hsz3⟩
               case measure => simp [intOf]; omega
            )
      · have HT : Hid (ws.take k = ws) := List.take_of_length_le (by omega)
        rw [HT.out] at hd
        rw [hd.out] at HV HE
        have c0 : wr.cell? ⟨w1.heap.size, 0, none⟩ = some (.int .i64 (yOf d)) := hR.out.cell 0 (by omega)
        have c1 : wr.cell? ⟨w1.heap.size, 1, none⟩ = some (.int .i64 (d.t 6)) := hR.out.cell 1 (by omega)
        have c2 : wr.cell? ⟨w1.heap.size, 2, none⟩ = some (.int .i64 (d.t 3)) := hR.out.cell 2 (by omega)
        have c3 : wr.cell? ⟨w1.heap.size, 3, none⟩ = some (.int .i64 (d.t 0)) := hR.out.cell 3 (by omega)
        have c4 : wr.cell? ⟨w1.heap.size, 4, none⟩ = some (.int .i64 (d.t 1)) := hR.out.cell 4 (by omega)
        have c5 : wr.cell? ⟨w1.heap.size, 5, none⟩ = some (.int .i64 (d.t 2)) := hR.out.cell 5 (by omega)
        cases hf0 : d.f 0
        · skip
          have HV2 : Hid (readV s.data.toList = 0 ∧ readE s.data.toList = 1) := by
            have hfd : foundD d = false := by unfold foundD; rw [hf0]; simp
            refine ⟨HV.out.trans ?_, HE.out.trans ?_⟩
            · unfold momV; rw [hfd]; rfl
            · unfold momE; rw [hfd]; rfl
          go_wp2_with fail
          go_ret2
          refine ⟨?_, hb⟩
          rw [HV2.out.1, HV2.out.2]; rfl
        cases hf1 : d.f 1
        · skip
          have HV2 : Hid (readV s.data.toList = 0 ∧ readE s.data.toList = 1) := by
            have hfd : foundD d = false := by unfold foundD; rw [hf0, hf1]; simp
            refine ⟨HV.out.trans ?_, HE.out.trans ?_⟩
            · unfold momV; rw [hfd]; rfl
            · unfold momE; rw [hfd]; rfl
          go_wp2_with fail
          go_ret2
          refine ⟨?_, hb⟩
          rw [HV2.out.1, HV2.out.2]; rfl
        cases hf2 : d.f 2
        · skip
          have HV2 : Hid (readV s.data.toList = 0 ∧ readE s.data.toList = 1) := by
            have hfd : foundD d = false := by unfold foundD; rw [hf0, hf1, hf2]; simp
            refine ⟨HV.out.trans ?_, HE.out.trans ?_⟩
            · unfold momV; rw [hfd]; rfl
            · unfold momE; rw [hfd]; rfl
          go_wp2_with fail
          go_ret2
          refine ⟨?_, hb⟩
          rw [HV2.out.1, HV2.out.2]; rfl
        cases hf3 : d.f 3
        · skip
          have HV2 : Hid (readV s.data.toList = 0 ∧ readE s.data.toList = 1) := by
            have hfd : foundD d = false := by unfold foundD; rw [hf0, hf1, hf2, hf3]; simp
            refine ⟨HV.out.trans ?_, HE.out.trans ?_⟩
            · unfold momV; rw [hfd]; rfl
            · unfold momE; rw [hfd]; rfl
          go_wp2_with fail
          go_ret2
          refine ⟨?_, hb⟩
          rw [HV2.out.1, HV2.out.2]; rfl
        have HY : Hid (yOf d = fullY (d.t 9)) := by show (if _ then _ else _) = _; rw [hf3]; rfl
        have HV2 : Hid (readV s.data.toList = ofV (yOf d) (d.t 6) (d.t 3) (d.t 0) (d.t 1) (d.t 2) ∧ readE s.data.toList = ofE (yOf d) (d.t 6) (d.t 3) (d.t 0) (d.t 1) (d.t 2)) := by
          have hfd : foundD d = true := by unfold foundD; rw [hf0, hf1, hf2, hf3]; rfl
          rw [HY.out]
          refine ⟨HV.out.trans ?_, HE.out.trans ?_⟩
          · unfold momV; rw [hfd]; rfl
          · unfold momE; rw [hfd]; rfl
        go_wp2_with fail
        refine (momentOf_any _ _ _ _ _ _ _).mono ?_
        rintro e w2 ⟨rfl, hb2⟩
        go_wp2_with fail
        go_ret2
        refine ⟨?_, next hb hb2⟩
        rw [HV2.out.1, HV2.out.2]; rfl
  · have HV : Hid (readV s.data.toList = 0) := if_neg h4
    have HE : Hid (readE s.data.toList = 2) := if_neg h4
    go_enter Tryd.func16, Tryd.ntmps16
    go_wp2_with fail
    go_ret2
    refine ⟨?_, Below.refl _ _⟩
    rw [HV.out, HE.out]; rfl
end Go.Proofs.YtlabffopbambjabDoor
