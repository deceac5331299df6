/- The contract of Read: the moment that a text tells. -/
import Derived.Test.YtgjjkieljdamfafDoorStampC
namespace Go.Proofs.YtgjjkieljdamfafDoor
open Go.RowKit
set_option linter.all false
set_option maxRecDepth 100000

theorem keep_cell {W W' : World} {B b j : Nat} {u : Value} (hg : W.grownBy W' (some B)) (hne : b ≠ B) (hc : W.cell? ⟨b, j, none⟩ = some u) : W'.cell? ⟨b, j, none⟩ = some u :=
  (World.cell?_of_block (w := W) (a := ⟨b, j, none⟩) (hg.block b (cell_in hc) (fun e => hne (by injection e)))).trans hc
theorem fields_at (s : ByteArray) (w : World) (hs : s.size ≤ 400) (T : STabs w) : Calls Tryd.prog 58 #[.string s, .func (.func 59) #[] #[]] w fun e w' => ∃ A, e = .returned (.slice (some ⟨A, 0, none⟩) (wordsL s.data.toList).length (wordsL s.data.toList).length) ∧ w.heap.size ≤ A ∧
    (∀ (j : Nat) u, (strs (wordsL s.data.toList))[j]? = some u → w'.cell? ⟨A, j, none⟩ = some u) ∧ Below w.heap.size w w' :=
  (Tryd.strings_FieldsFunc_runes 59 #[] (enters_of Tryd.func59 (by kernel_rfl) rfl) partR s w (by omega) (parts_pred w T)).mono fun e w' ⟨A, h1, h2, h3, h4⟩ => by
    have e1 : (Lib.goFieldsP partR s).length = (wordsL s.data.toList).length := by rw [fields_words, List.length_map]
    have e2 : (Lib.goFieldsP partR s).map Value.string = strs (wordsL s.data.toList) := by rw [fields_words, List.map_map]; rfl
    rw [e2, e1] at h3
    refine ⟨A, by rw [h1, e1], h2, fun j u hj => ?_, h4⟩
    have hj' := (List.getElem?_eq_some_iff.1 hj).1
    rw [strs_length] at hj'
    rw [h3.cellAt j (by omega), hj]
theorem year_in (d : DS) (w : List UInt8) (h : 0 ≤ d.t 9 ∧ d.t 9 ≤ 99999) : 0 ≤ (stepD d w).t 9 ∧ (stepD d w).t 9 ≤ 99999 := by
  have key : ∀ ks : List Nat, (∀ k ∈ ks, k ≤ 3) → 0 ≤ (takeD d w ks).t 9 ∧ (takeD d w ks).t 9 ≤ 99999 := by
    intro ks
    induction ks with
    | nil => intro _; exact h
    | cons k ks ih =>
      intro hks
      have ih' := ih (fun j hj => hks j (by simp [hj]))
      have hk := hks k (by simp)
      show 0 ≤ (if d.f k then _ else _ : DS).t 9 ∧ (if d.f k then _ else _ : DS).t 9 ≤ 99999
      by_cases hf : d.f k = true
      · rw [if_pos hf]; exact ih'
      · rw [if_neg hf]
        cases hr : readK k w with
        | none => exact ih'
        | some v =>
          show 0 ≤ (if 9 = 3 * k then v.1 else if 9 = 3 * k + 1 then v.2.1 else if 9 = 3 * k + 2 then v.2.2 else d.t 9) ∧ (if 9 = 3 * k then v.1 else if 9 = 3 * k + 1 then v.2.1 else if 9 = 3 * k + 2 then v.2.2 else d.t 9) ≤ 99999
          by_cases h3 : k = 3
          · subst h3
            rw [if_pos (by decide)]
            rw [readK3] at hr
            cases hn : numB w 2 4
            · rw [hn] at hr; cases hr
            · rw [hn] at hr
              simp only [if_true, Option.some.injEq] at hr
              rw [← hr]
              have := numV_max w 2 4 (by omega)
              simp only
              omega
          · rw [if_neg (by omega), if_neg (by omega), if_neg (by omega)]; exact h
  exact key [0, 1, 2, 3] (by decide)
theorem all_in (ws : List (List UInt8)) : 0 ≤ (allD d0 ws).t 9 ∧ (allD d0 ws).t 9 ≤ 99999 := by
  have : ∀ (ws : List (List UInt8)) (d : DS), (0 ≤ d.t 9 ∧ d.t 9 ≤ 99999) → 0 ≤ (allD d ws).t 9 ∧ (allD d ws).t 9 ≤ 99999 := by
    intro ws
    induction ws with
    | nil => intro d h; exact h
    | cons w ws ih => intro d h; exact ih _ (year_in d w h)
  exact this ws d0 (by unfold d0; simp)
theorem allD_snoc (ws : List (List UInt8)) (k : Nat) (x : List UInt8) (h : ws[k]? = some x) : allD d0 (ws.take (k + 1)) = stepD (allD d0 (ws.take k)) x := by
  obtain ⟨hl, hx⟩ := List.getElem?_eq_some_iff.1 h
  rw [List.take_succ_eq_append_getElem hl, hx]
  unfold allD
  rw [List.foldl_append]; rfl
theorem eq4 (a b c d : Bool) : ∀ w : World, (Op.equalIn 10000 91 (.agg #[.bool a, .bool b, .bool c, .bool d]) (.agg #[.bool true, .bool true, .bool true, .bool true])).run Tryd.prog w = .ok (a && b && c && d) w := fun w => by
  cases a <;> cases b <;> cases c <;> cases d <;> kernel_rfl
set_option maxRecDepth 100000 in
set_option maxHeartbeats 2000000 in
theorem sread_any (s : ByteArray) (w : World) (hs : s.size ≤ maxLen) (T : STabs w) :
    Calls Tryd.prog 33 #[.string s] w fun e w' => e = .returned (.tuple #[.int .i64 (readV s.data.toList), .int .i64 (readE s.data.toList)]) ∧ Below w.heap.size w w' := by
  unfold maxLen at hs
  have TH : Hid _ := T
  clear T
  by_cases h4 : s.size ≤ 400
  · have HV : Hid (readV s.data.toList = momV (allD d0 (wordsL s.data.toList))) := if_pos h4
    have HE : Hid (readE s.data.toList = momE (allD d0 (wordsL s.data.toList))) := if_pos h4
    go_enter Tryd.func33, Tryd.ntmps33
    go_wp2_with fail
    obtain ⟨W0, hW0⟩ : ∃ W0, W0 = w.alloc (.cells #[.bool false, .bool false, .bool false, .bool false, .int .i64 0, .int .i64 0, .int .i64 0, .int .i64 0, .int .i64 0, .int .i64 0, .int .i64 0, .int .i64 0, .int .i64 0, .int .i64 0, .int .i64 0, .int .i64 0] 95) := ⟨_, rfl⟩
    have b0 : Below w.heap.size w W0 := by rw [hW0]; exact (Below.refl _ _).alloc (Nat.le_refl _) _
    have R0 : Row W0 w.heap.size 16 (dateV d0) := by
      rw [hW0]
      intro j hj
      have h16 : j = 0 ∨ j = 1 ∨ j = 2 ∨ j = 3 ∨ j = 4 ∨ j = 5 ∨ j = 6 ∨ j = 7 ∨ j = 8 ∨ j = 9 ∨ j = 10 ∨ j = 11 ∨ j = 12 ∨ j = 13 ∨ j = 14 ∨ j = 15 := by omega
      rcases h16 with rfl | rfl | rfl | rfl | rfl | rfl | rfl | rfl | rfl | rfl | rfl | rfl | rfl | rfl | rfl | rfl <;> exact ⟨by simp [dateV, d0], by simp⟩
    have sz0 : W0.heap.size = w.heap.size + 1 := by rw [hW0]; simp
    rw [← hW0]
    clear hW0
    refine (fields_at s _ h4 (TH.out.below b0 (Nat.le_refl _))).mono ?_
    rintro e w1 ⟨A, rfl, hA, hcs, hb1⟩
    have hAB : A ≠ w.heap.size := by omega
    have R1 : Row w1 w.heap.size 16 (dateV d0) := R0.below hb1 (by omega)
    have g1 : Below w.heap.size w w1 := b0.trans (hb1.mono (by omega))
    have hwl := words_len s.data.toList
    have hwn : (wordsL s.data.toList).length ≤ 400 := Nat.le_trans hwl.1 h4
    have HWX : Hid (∀ x ∈ wordsL s.data.toList, x.length ≤ 400) := fun x hx => Nat.le_trans (hwl.2 x hx) h4
    obtain ⟨ws, hws⟩ : ∃ ws, ws = wordsL s.data.toList := ⟨_, rfl⟩
    rw [← hws] at HV HE hcs hwn HWX ⊢
    have HR1 : Hid (Row w1 w.heap.size 16 (dateV d0)) := R1
    have HCS : Hid (∀ (j : Nat) u, (strs ws)[j]? = some u → w1.cell? ⟨A, j, none⟩ = some u) := hcs
    clear hws hwl R0 b0 hb1 hA R1 hcs
    go_wp2_with fail
    go_loopw [13] (fun iv wr => ∃ k : Nat, k ≤ ws.length ∧ iv = .int .i64 k ∧ Hid (Row wr w.heap.size 16 (dateV (allD d0 (ws.take k)))) ∧ Hid (∀ (j : Nat) u, (strs ws)[j]? = some u → wr.cell? ⟨A, j, none⟩ = some u) ∧ Below w.heap.size w wr ∧ w.heap.size < wr.heap.size) (fun iv _ => ws.length - (intOf iv).toNat)
    case atStart => exact ⟨0, Nat.zero_le _, rfl, HR1, HCS, g1, cell_in (HR1.out.cell 0 (by omega))⟩
    case round =>
      obtain ⟨k, hk, rfl, hR, hC, hb, hsz⟩ := hrel
      by_cases hlt : k < ws.length
      · have e1 := List.getElem?_eq_getElem hlt
        obtain ⟨x, hx⟩ : ∃ x, x = ws[k] := ⟨_, rfl⟩
        rw [← hx] at e1
        have hc := hC.out k _ (strs_get e1)
        have HX : Hid ((txt x).size ≤ 400) := HWX.out x (List.mem_of_getElem? e1)
        have HS : Hid _ := allD_snoc ws k x e1
        clear hx e1
        go_wp2_with fail
        refine (take_any w.heap.size _ (txt x) _ HX.out (TH.out.below hb (Nat.le_refl _)) hR.out hsz).mono ?_
        rintro e w2 ⟨⟨v2, rfl⟩, hR2, hg2⟩
        have hb2 : Below w.heap.size w w2 := hb.grown hg2 hb.size (fun q e => by injection e with e; omega)
        have HR2 : Hid (Row w2 w.heap.size 16 (dateV (allD d0 (ws.take (k + 1))))) := by rw [HS.out]; exact hR2
        have HC2 : Hid (∀ (j : Nat) u, (strs ws)[j]? = some u → w2.cell? ⟨A, j, none⟩ = some u) := fun j u hj => keep_cell hg2 hAB (hC.out j u hj)
        have hs2 : w.heap.size < w2.heap.size := Nat.lt_of_lt_of_le hsz hg2.size
        clear hR2 hg2 hc
        go_wp2_with fail
        go_roundw
        case rel => exact ⟨k + 1, by omega, by go_num, HR2, HC2, hb2, hs2⟩
        case measure => simp [intOf]; omega
      · have HT : Hid (ws.take k = ws) := List.take_of_length_le (by omega)
        rw [HT.out] at hR
        have yin := all_in ws
        obtain ⟨d, hd⟩ : ∃ d, d = allD d0 ws := ⟨_, rfl⟩
        rw [← hd] at hR HV HE yin
        clear hd
        have c0 := hR.out.cell 0 (by omega)
        have c1 := hR.out.cell 1 (by omega)
        have c2 := hR.out.cell 2 (by omega)
        have c3 := hR.out.cell 3 (by omega)
        simp only [dateV, Nat.reduceLT, if_true] at c0 c1 c2 c3
        have hq := eq4 (d.f 0) (d.f 1) (d.f 2) (d.f 3)
        have HF : Hid (foundD d = (d.f 0 && d.f 1 && d.f 2 && d.f 3)) := rfl
        obtain ⟨ok, hok⟩ : ∃ b, (d.f 0 && d.f 1 && d.f 2 && d.f 3) = b := ⟨_, rfl⟩
        rw [hok] at hq HF
        clear hok
        cases ok
        · have HV2 : Hid (readV s.data.toList = 0 ∧ readE s.data.toList = 1) := by
            refine ⟨HV.out.trans ?_, HE.out.trans ?_⟩
            · unfold momV; rw [HF.out]; rfl
            · unfold momE; rw [HF.out]; rfl
          go_wp2_with fail
          go_ret2
          refine ⟨?_, hb⟩
          rw [HV2.out.1, HV2.out.2]; rfl
        · have HV2 : Hid (readV s.data.toList = ofV (fullY (d.t 9)) (d.t 6) (d.t 3) (d.t 0) (d.t 1) (d.t 2) ∧ readE s.data.toList = ofE (fullY (d.t 9)) (d.t 6) (d.t 3) (d.t 0) (d.t 1) (d.t 2)) := by
            refine ⟨HV.out.trans ?_, HE.out.trans ?_⟩
            · unfold momV; rw [HF.out]; rfl
            · unfold momE; rw [HF.out]; rfl
          go_wp2_with fail
          refine (dtime_any w.heap.size d _ hR.out hsz yin.1 yin.2).mono ?_
          rintro e w2 ⟨rfl, hb2⟩
          go_wp2_with fail
          refine (of_any _ _ _ _ _ _ _ (TH.out.clk.below (next hb hb2) (Nat.le_refl _))).mono ?_
          rintro e w3 ⟨rfl, hb3⟩
          go_wp2_with fail
          go_ret2
          refine ⟨?_, next (next hb hb2) hb3⟩
          rw [HV2.out.1, HV2.out.2]; rfl
  · have HV : Hid (readV s.data.toList = 0) := if_neg h4
    have HE : Hid (readE s.data.toList = 2) := if_neg h4
    go_enter Tryd.func33, Tryd.ntmps33
    go_wp2_with fail
    go_ret2
    refine ⟨?_, Below.refl _ _⟩
    rw [HV.out, HE.out]; rfl
end Go.Proofs.YtgjjkieljdamfafDoor
