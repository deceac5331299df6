/- What the document's answer says of what goes along. -/
import Derived.Test.YtgjjkieljdamfafGoesC
namespace Go.Proofs.Ytgjjkieljdamfaf
open Go.RowKit
set_option linter.all false
set_option maxRecDepth 100000

set_option maxHeartbeats 1000000 in
theorem isLive_any (c : Ck) (now : Int) (w : World) : Calls Try.prog 9 #[.agg (ckC c).toArray, .int .i64 now] w fun e w' => e = .returned (.bool (liveB c now)) ∧ Below w.heap.size w w' := by
  simp only [ckC]
  unfold liveB
  go_enter Try.func9, Try.ntmps9
  go_wp2_with fail
  go_ret
  exact ⟨rfl, (Below.refl _ _).alloc (Nat.le_refl _) _⟩
theorem goes_yes6 {c : Ck} {f : Fr} {now : Int} (h0 : true = liveB c now) (h1 : true = hostB c f) (h2 : true = pathB c f) (h3 : wayB c f = true) (h4 : handB c f = true) (h5 : siteB c f = true) : goesL c f now = true := by unfold goesL; rw [← h0, ← h1, ← h2, h3, h4, h5]; rfl
theorem LRow.lt0 {W : World} {B : Nat} {a : Value} {l : List Value} (h : LRow W B (a :: l)) : B < W.heap.size := cell_in (h.cell 0 rfl)
theorem ne_of_eq (a b : List UInt8) (q : Bool) (h : q = ((txt a).toList == (txt b).toList)) : ((txt a).toList != (txt b).toList) = !q := by rw [h]; rfl
set_option maxHeartbeats 8000000 in
theorem goesOf_any (c : Ck) (f : Fr) (now : Int) (w : World) (hh : (f.host.length + 1) * 16 ≤ 140737488355328) (hp : f.path.length ≤ maxLen) (hd : c.domain.length ≤ maxLen) (hc : c.path.length ≤ maxLen) :
    Calls Try.prog 11 #[.agg (ckC c).toArray, .agg (frL f).toArray, .int .i64 now] w fun e w' => e = .returned (.bool (goesL c f now)) ∧ Below w.heap.size w w' := by
  obtain ⟨n, v, d, p, ho, se, ht, la, si, ex, cr, us, no⟩ := c
  obtain ⟨h, pa, fs, fc, fa⟩ := f
  have HH : Hid (((txt h).size + 1) * 16 ≤ 140737488355328) := hh
  have HP : Hid ((txt pa).size ≤ maxLen) := hp
  have HD : Hid ((txt d).size ≤ maxLen) := hd
  have HC : Hid ((txt p).size ≤ maxLen) := hc
  clear hh hp hd hc
  obtain ⟨W0, hW0⟩ : ∃ W0, W0 = ((w.alloc (.cells (ckC ⟨n, v, d, p, ho, se, ht, la, si, ex, cr, us, no⟩).toArray 23)).alloc (.cells (frL ⟨h, pa, fs, fc, fa⟩).toArray 25)) := ⟨_, rfl⟩
  have B0 : Hid (Below w.heap.size w W0) := by
    rw [hW0]
    exact ((Below.refl _ _).alloc (Nat.le_refl _) _).alloc (by simp) _
  have C0 : Hid (LRow W0 w.heap.size (ckC ⟨n, v, d, p, ho, se, ht, la, si, ex, cr, us, no⟩)) := by
    rw [hW0]
    exact (LRow.new w (ckC ⟨n, v, d, p, ho, se, ht, la, si, ex, cr, us, no⟩) _).below ((Below.refl _ _).alloc (Nat.le_refl _) _) (by simp)
  have F0 : Hid (LRow W0 (w.heap.size + 1) (frL ⟨h, pa, fs, fc, fa⟩)) := by
    rw [hW0]
    have h := LRow.new (w.alloc (.cells (ckC ⟨n, v, d, p, ho, se, ht, la, si, ex, cr, us, no⟩).toArray 23)) (frL ⟨h, pa, fs, fc, fa⟩) 25
    rw [show (w.alloc (.cells (ckC ⟨n, v, d, p, ho, se, ht, la, si, ex, cr, us, no⟩).toArray 23)).heap.size = w.heap.size + 1 from by simp] at h
    exact h
  obtain ⟨g, hg⟩ : ∃ g, g = goesL ⟨n, v, d, p, ho, se, ht, la, si, ex, cr, us, no⟩ ⟨h, pa, fs, fc, fa⟩ now := ⟨_, rfl⟩
  have HG : Hid _ := hg
  rw [← hg]
  clear hg
  obtain ⟨q0, h0⟩ : ∃ q, q = liveB ⟨n, v, d, p, ho, se, ht, la, si, ex, cr, us, no⟩ now := ⟨_, rfl⟩
  obtain ⟨q2, h2⟩ : ∃ q, q = pmatchL pa p := ⟨_, rfl⟩
  have H0 : Hid _ := h0
  have H2 : Hid _ := h2
  clear h0 h2
  simp only [ckC, frL] at hW0 ⊢
  go_enter Try.func11, Try.ntmps11
  go_wp2_with fail
  rw [← hW0]
  clear hW0
  refine (isLive_any ⟨n, v, d, p, ho, se, ht, la, si, ex, cr, us, no⟩ now _).mono ?_
  rw [← H0.out]
  rintro e w1 ⟨rfl, hb1⟩
  have C1 : Hid _ := C0.out.below hb1 (LRow.lt0 C0.out)
  have F1 : Hid _ := F0.out.below hb1 (LRow.lt0 F0.out)
  have B1 : Hid _ := next B0.out hb1
  clear hb1 C0 F0 B0
  cases q0
  · have HN : Hid (g = false) := by show _ = _; rw [HG.out]; exact goes_no 0 (by show some (liveB _ _) = _; rw [← H0.out])
    go_wp2_with fail
    go_ret
    exact ⟨by rw [HN.out]; rfl, B1.out⟩
  have c3 := C1.out.cell 3 rfl
  have f1 := F1.out.cell 1 rfl
  go_wp2_with fail
  refine (pathMatch_any (txt pa) (txt p) _ HP.out HC.out).mono ?_
  rw [txt_toList, txt_toList, ← H2.out]
  rintro e w2 ⟨rfl, rfl⟩
  cases q2
  · have HN : Hid (g = false) := by show _ = _; rw [HG.out]; exact goes_no 2 (by show some (pmatchL _ _) = _; rw [← H2.out])
    go_wp2_with fail
    go_ret
    exact ⟨by rw [HN.out]; rfl, B1.out⟩
  clear c3 f1
  have c4 := C1.out.cell 4 rfl
  have c2 := C1.out.cell 2 rfl
  have f0 := F1.out.cell 0 rfl
  cases ho
  · obtain ⟨q1, h1⟩ : ∃ q, q = matchL h d := ⟨_, rfl⟩
    have H1 : Hid _ := h1
    clear h1
    go_wp2_with fail
    refine (isMatch_any (txt h) (txt d) _ HH.out HD.out).mono ?_
    rw [txt_toList, txt_toList, ← H1.out]
    rintro e w2 ⟨rfl, hb2⟩
    have C2 : Hid _ := C1.out.below hb2 (LRow.lt0 C1.out)
    have F2 : Hid _ := F1.out.below hb2 (LRow.lt0 F1.out)
    have B2 : Hid _ := next B1.out hb2
    clear hb2 C1 F1 B1 c4 c2 f0
    cases q1
    · have HN : Hid (g = false) := by show _ = _; rw [HG.out]; exact goes_no 1 (by show some (matchL _ _) = _; rw [← H1.out])
      go_wp2_with fail
      go_ret
      exact ⟨by rw [HN.out]; rfl, B2.out⟩
    have c5 := C2.out.cell 5 rfl
    have f2 := F2.out.cell 2 rfl
    have c6 := C2.out.cell 6 rfl
    have f3 := F2.out.cell 3 rfl
    have c8 := C2.out.cell 8 rfl
    have f4 := F2.out.cell 4 rfl
    cases se
    · skip
      cases ht
      · skip
        cases fa
        · skip
          have HN : Hid (g = true) := by show _ = _; rw [HG.out]; exact goes_yes6 H0.out H1.out H2.out (by unfold wayB; simp) (by unfold handB; simp) rfl
          go_wp2_with fail
          go_ret
          exact ⟨by rw [HN.out]; rfl, B2.out⟩
        · by_cases hs : si = 1
          · have HS : Hid _ := hs
            have s1 : (si == 1) = true := by rw [hs]; rfl
            clear hs
            have HN : Hid (g = true) := by show _ = _; rw [HG.out]; exact goes_yes6 H0.out H1.out H2.out (by unfold wayB; simp) (by unfold handB; simp) (by show (false || decide (si = 1)) = true; rw [decide_eq_true HS.out]; rfl)
            go_wp2_with fail
            go_ret
            exact ⟨by rw [HN.out]; rfl, B2.out⟩
          · have HS : Hid _ := hs
            have s1 : (si == 1) = false := by rw [beq_eq_false_iff_ne]; exact hs
            clear hs
            have HN : Hid (g = false) := by show _ = _; rw [HG.out]; exact goes_no 5 (by show some (false || decide (si = 1)) = _; rw [decide_eq_false HS.out]; rfl)
            go_wp2_with fail
            go_ret
            exact ⟨by rw [HN.out]; rfl, B2.out⟩
      · cases fc
        · skip
          cases fa
          · skip
            have HN : Hid (g = true) := by show _ = _; rw [HG.out]; exact goes_yes6 H0.out H1.out H2.out (by unfold wayB; simp) (by unfold handB; simp) rfl
            go_wp2_with fail
            go_ret
            exact ⟨by rw [HN.out]; rfl, B2.out⟩
          · by_cases hs : si = 1
            · have HS : Hid _ := hs
              have s1 : (si == 1) = true := by rw [hs]; rfl
              clear hs
              have HN : Hid (g = true) := by show _ = _; rw [HG.out]; exact goes_yes6 H0.out H1.out H2.out (by unfold wayB; simp) (by unfold handB; simp) (by show (false || decide (si = 1)) = true; rw [decide_eq_true HS.out]; rfl)
              go_wp2_with fail
              go_ret
              exact ⟨by rw [HN.out]; rfl, B2.out⟩
            · have HS : Hid _ := hs
              have s1 : (si == 1) = false := by rw [beq_eq_false_iff_ne]; exact hs
              clear hs
              have HN : Hid (g = false) := by show _ = _; rw [HG.out]; exact goes_no 5 (by show some (false || decide (si = 1)) = _; rw [decide_eq_false HS.out]; rfl)
              go_wp2_with fail
              go_ret
              exact ⟨by rw [HN.out]; rfl, B2.out⟩
        · skip
          have HN : Hid (g = false) := by show _ = _; rw [HG.out]; exact goes_no 4 rfl
          go_wp2_with fail
          go_ret
          exact ⟨by rw [HN.out]; rfl, B2.out⟩
    · cases fs
      · skip
        have HN : Hid (g = false) := by show _ = _; rw [HG.out]; exact goes_no 3 rfl
        go_wp2_with fail
        go_ret
        exact ⟨by rw [HN.out]; rfl, B2.out⟩
      · skip
        cases ht
        · skip
          cases fa
          · skip
            have HN : Hid (g = true) := by show _ = _; rw [HG.out]; exact goes_yes6 H0.out H1.out H2.out (by unfold wayB; simp) (by unfold handB; simp) rfl
            go_wp2_with fail
            go_ret
            exact ⟨by rw [HN.out]; rfl, B2.out⟩
          · by_cases hs : si = 1
            · have HS : Hid _ := hs
              have s1 : (si == 1) = true := by rw [hs]; rfl
              clear hs
              have HN : Hid (g = true) := by show _ = _; rw [HG.out]; exact goes_yes6 H0.out H1.out H2.out (by unfold wayB; simp) (by unfold handB; simp) (by show (false || decide (si = 1)) = true; rw [decide_eq_true HS.out]; rfl)
              go_wp2_with fail
              go_ret
              exact ⟨by rw [HN.out]; rfl, B2.out⟩
            · have HS : Hid _ := hs
              have s1 : (si == 1) = false := by rw [beq_eq_false_iff_ne]; exact hs
              clear hs
              have HN : Hid (g = false) := by show _ = _; rw [HG.out]; exact goes_no 5 (by show some (false || decide (si = 1)) = _; rw [decide_eq_false HS.out]; rfl)
              go_wp2_with fail
              go_ret
              exact ⟨by rw [HN.out]; rfl, B2.out⟩
        · cases fc
          · skip
            cases fa
            · skip
              have HN : Hid (g = true) := by show _ = _; rw [HG.out]; exact goes_yes6 H0.out H1.out H2.out (by unfold wayB; simp) (by unfold handB; simp) rfl
              go_wp2_with fail
              go_ret
              exact ⟨by rw [HN.out]; rfl, B2.out⟩
            · by_cases hs : si = 1
              · have HS : Hid _ := hs
                have s1 : (si == 1) = true := by rw [hs]; rfl
                clear hs
                have HN : Hid (g = true) := by show _ = _; rw [HG.out]; exact goes_yes6 H0.out H1.out H2.out (by unfold wayB; simp) (by unfold handB; simp) (by show (false || decide (si = 1)) = true; rw [decide_eq_true HS.out]; rfl)
                go_wp2_with fail
                go_ret
                exact ⟨by rw [HN.out]; rfl, B2.out⟩
              · have HS : Hid _ := hs
                have s1 : (si == 1) = false := by rw [beq_eq_false_iff_ne]; exact hs
                clear hs
                have HN : Hid (g = false) := by show _ = _; rw [HG.out]; exact goes_no 5 (by show some (false || decide (si = 1)) = _; rw [decide_eq_false HS.out]; rfl)
                go_wp2_with fail
                go_ret
                exact ⟨by rw [HN.out]; rfl, B2.out⟩
          · skip
            have HN : Hid (g = false) := by show _ = _; rw [HG.out]; exact goes_no 4 rfl
            go_wp2_with fail
            go_ret
            exact ⟨by rw [HN.out]; rfl, B2.out⟩
  · obtain ⟨q1, h1⟩ : ∃ q, q = ((txt h).toList == (txt d).toList) := ⟨_, rfl⟩
    have H1 : Hid (q1 = (h == d)) := by show _ = _; rw [h1, beq_txt]
    have e1 := h1.symm
    have e2 := ne_of_eq _ _ _ h1
    clear h1
    have B2 := B1
    have C2 := C1
    have F2 := F1
    clear B1 C1 F1
    cases q1
    · have HN : Hid (g = false) := by show _ = _; rw [HG.out]; exact goes_no 1 (by show some (h == d) = _; rw [← H1.out])
      go_wp2_with fail
      go_ret
      exact ⟨by rw [HN.out]; rfl, B2.out⟩
    have c5 := C2.out.cell 5 rfl
    have f2 := F2.out.cell 2 rfl
    have c6 := C2.out.cell 6 rfl
    have f3 := F2.out.cell 3 rfl
    have c8 := C2.out.cell 8 rfl
    have f4 := F2.out.cell 4 rfl
    cases se
    · skip
      cases ht
      · skip
        cases fa
        · skip
          have HN : Hid (g = true) := by show _ = _; rw [HG.out]; exact goes_yes6 H0.out H1.out H2.out (by unfold wayB; simp) (by unfold handB; simp) rfl
          go_wp2_with fail
          go_ret
          exact ⟨by rw [HN.out]; rfl, B2.out⟩
        · by_cases hs : si = 1
          · have HS : Hid _ := hs
            have s1 : (si == 1) = true := by rw [hs]; rfl
            clear hs
            have HN : Hid (g = true) := by show _ = _; rw [HG.out]; exact goes_yes6 H0.out H1.out H2.out (by unfold wayB; simp) (by unfold handB; simp) (by show (false || decide (si = 1)) = true; rw [decide_eq_true HS.out]; rfl)
            go_wp2_with fail
            go_ret
            exact ⟨by rw [HN.out]; rfl, B2.out⟩
          · have HS : Hid _ := hs
            have s1 : (si == 1) = false := by rw [beq_eq_false_iff_ne]; exact hs
            clear hs
            have HN : Hid (g = false) := by show _ = _; rw [HG.out]; exact goes_no 5 (by show some (false || decide (si = 1)) = _; rw [decide_eq_false HS.out]; rfl)
            go_wp2_with fail
            go_ret
            exact ⟨by rw [HN.out]; rfl, B2.out⟩
      · cases fc
        · skip
          cases fa
          · skip
            have HN : Hid (g = true) := by show _ = _; rw [HG.out]; exact goes_yes6 H0.out H1.out H2.out (by unfold wayB; simp) (by unfold handB; simp) rfl
            go_wp2_with fail
            go_ret
            exact ⟨by rw [HN.out]; rfl, B2.out⟩
          · by_cases hs : si = 1
            · have HS : Hid _ := hs
              have s1 : (si == 1) = true := by rw [hs]; rfl
              clear hs
              have HN : Hid (g = true) := by show _ = _; rw [HG.out]; exact goes_yes6 H0.out H1.out H2.out (by unfold wayB; simp) (by unfold handB; simp) (by show (false || decide (si = 1)) = true; rw [decide_eq_true HS.out]; rfl)
              go_wp2_with fail
              go_ret
              exact ⟨by rw [HN.out]; rfl, B2.out⟩
            · have HS : Hid _ := hs
              have s1 : (si == 1) = false := by rw [beq_eq_false_iff_ne]; exact hs
              clear hs
              have HN : Hid (g = false) := by show _ = _; rw [HG.out]; exact goes_no 5 (by show some (false || decide (si = 1)) = _; rw [decide_eq_false HS.out]; rfl)
              go_wp2_with fail
              go_ret
              exact ⟨by rw [HN.out]; rfl, B2.out⟩
        · skip
          have HN : Hid (g = false) := by show _ = _; rw [HG.out]; exact goes_no 4 rfl
          go_wp2_with fail
          go_ret
          exact ⟨by rw [HN.out]; rfl, B2.out⟩
    · cases fs
      · skip
        have HN : Hid (g = false) := by show _ = _; rw [HG.out]; exact goes_no 3 rfl
        go_wp2_with fail
        go_ret
        exact ⟨by rw [HN.out]; rfl, B2.out⟩
      · skip
        cases ht
        · skip
          cases fa
          · skip
            have HN : Hid (g = true) := by show _ = _; rw [HG.out]; exact goes_yes6 H0.out H1.out H2.out (by unfold wayB; simp) (by unfold handB; simp) rfl
            go_wp2_with fail
            go_ret
            exact ⟨by rw [HN.out]; rfl, B2.out⟩
          · by_cases hs : si = 1
            · have HS : Hid _ := hs
              have s1 : (si == 1) = true := by rw [hs]; rfl
              clear hs
              have HN : Hid (g = true) := by show _ = _; rw [HG.out]; exact goes_yes6 H0.out H1.out H2.out (by unfold wayB; simp) (by unfold handB; simp) (by show (false || decide (si = 1)) = true; rw [decide_eq_true HS.out]; rfl)
              go_wp2_with fail
              go_ret
              exact ⟨by rw [HN.out]; rfl, B2.out⟩
            · have HS : Hid _ := hs
              have s1 : (si == 1) = false := by rw [beq_eq_false_iff_ne]; exact hs
              clear hs
              have HN : Hid (g = false) := by show _ = _; rw [HG.out]; exact goes_no 5 (by show some (false || decide (si = 1)) = _; rw [decide_eq_false HS.out]; rfl)
              go_wp2_with fail
              go_ret
              exact ⟨by rw [HN.out]; rfl, B2.out⟩
        · cases fc
          · skip
            cases fa
            · skip
              have HN : Hid (g = true) := by show _ = _; rw [HG.out]; exact goes_yes6 H0.out H1.out H2.out (by unfold wayB; simp) (by unfold handB; simp) rfl
              go_wp2_with fail
              go_ret
              exact ⟨by rw [HN.out]; rfl, B2.out⟩
            · by_cases hs : si = 1
              · have HS : Hid _ := hs
                have s1 : (si == 1) = true := by rw [hs]; rfl
                clear hs
                have HN : Hid (g = true) := by show _ = _; rw [HG.out]; exact goes_yes6 H0.out H1.out H2.out (by unfold wayB; simp) (by unfold handB; simp) (by show (false || decide (si = 1)) = true; rw [decide_eq_true HS.out]; rfl)
                go_wp2_with fail
                go_ret
                exact ⟨by rw [HN.out]; rfl, B2.out⟩
              · have HS : Hid _ := hs
                have s1 : (si == 1) = false := by rw [beq_eq_false_iff_ne]; exact hs
                clear hs
                have HN : Hid (g = false) := by show _ = _; rw [HG.out]; exact goes_no 5 (by show some (false || decide (si = 1)) = _; rw [decide_eq_false HS.out]; rfl)
                go_wp2_with fail
                go_ret
                exact ⟨by rw [HN.out]; rfl, B2.out⟩
          · skip
            have HN : Hid (g = false) := by show _ = _; rw [HG.out]; exact goes_no 4 rfl
            go_wp2_with fail
            go_ret
            exact ⟨by rw [HN.out]; rfl, B2.out⟩
end Go.Proofs.Ytgjjkieljdamfaf
