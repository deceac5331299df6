/- The contract of take: what an attribute says of a cookie. Contracts: how long a cookie lasts; what is barred. The contract of setDomain: which hosts a cookie is for. The contract of what is barred. What the attributes leave as it was. No walk. -/
import Derived.Test.YtgjjkieljdamfafDoorXA
import Derived.Test.YtgjjkieljdamfafDoorHostC
namespace Go.Proofs.YtgjjkieljdamfafDoor
open Go.RowKit
set_option linter.all false
set_option maxRecDepth 100000

theorem lit_t (n l : List UInt8) (h : n = l) : ((txt n).toList == l) = true := by rw [Lib.toList_data, beq_iff_eq]; exact h
theorem lit_f (n l : List UInt8) (h : ¬ n = l) : ((txt n).toList == l) = false := by rw [Lib.toList_data, beq_eq_false_iff_ne]; exact h
set_option maxHeartbeats 1000000 in
theorem trimPl_any (s p : ByteArray) (w : World) (hs : s.size ≤ maxLen) :
    Calls Tryd.prog 63 #[.string s, .string p] w fun e w' => e = .returned (.string (txt (cutP s.data.toList p.data.toList))) ∧ w' = w := by
  have HS : Hid _ := hs
  unfold maxLen at hs
  cases h : Lib.hasPrefix s.data.toList p.data.toList
  · have HC : Hid (txt (cutP s.data.toList p.data.toList) = s) := by unfold cutP; rw [h]; exact txt_of s
    have H1 : Hid _ := h
    clear h
    go_enter Tryd.func63, Tryd.ntmps63
    go_wp2_with fail
    refine (prel_any _ _ _ HS.out).mono ?_
    rw [H1.out]
    rintro e w' ⟨rfl, rfl⟩
    go_wp2_with fail
    go_ret
    refine ⟨?_, rfl⟩
    rw [HC.out]; rfl
  · have hl : p.size ≤ s.size := pre_len h
    have HC : Hid (txt (cutP s.data.toList p.data.toList) = s.extract p.size s.size) := by unfold cutP; rw [h]; exact (ext_from s p.size).symm
    have H1 : Hid _ := h
    clear h
    go_enter Tryd.func63, Tryd.ntmps63
    go_wp2_with fail
    refine (prel_any _ _ _ HS.out).mono ?_
    rw [H1.out]
    rintro e w' ⟨rfl, rfl⟩
    go_wp2_with fail
    go_ret
    refine ⟨?_, rfl⟩
    rw [HC.out]; rfl
set_option maxHeartbeats 400000 in
theorem trimP_any (s p : ByteArray) (w : World) (hs : s.size ≤ maxLen) :
    Calls Tryd.prog 34 #[.string s, .string p] w fun e w' => e = .returned (.string (txt (cutP s.data.toList p.data.toList))) ∧ w' = w := by
  go_enter Tryd.func34, Tryd.ntmps34
  go_wp2_with fail
  refine (trimPl_any _ _ _ hs).mono ?_
  rintro e w' ⟨rfl, rfl⟩
  go_wp2_with fail
  go_ret
  exact ⟨rfl, rfl⟩
theorem back1 {w : World} {B i : Nat} {x : Value} {o : Obj} (h : B < w.heap.size) : (w.setCell ⟨B, i, none⟩ x).alloc o = (w.alloc o).setCell ⟨B, i, none⟩ x := (World.setCell_alloc_past o B i x h).symm
set_option maxHeartbeats 4000000 in
theorem ctake_any (m : Mk) (B : Nat) (a : Attr) (w : World) (hr : LRow w B (mkL m)) (T : CTabs w) (hv : a.2.length ≤ maxLen) (hf : m.fr.path.length ≤ maxLen) :
    Calls Tryd.prog 19 #[.pointer (some ⟨B, 0, none⟩), .agg #[.string (txt a.1), .string (txt a.2)]] w fun e w' => (∃ v, e = .returned v) ∧ LRow w' B (mkL (takeM m a)) ∧ Below B w w' := by
  obtain ⟨n, v⟩ := a
  have HVS : Hid ((txt v).size ≤ maxLen) := hv
  have HVL : Hid (v.length ≤ maxLen) := hv
  have HFP : Hid (m.fr.path.length ≤ maxLen) := hf
  have hB : B < w.heap.size := cell_in (hr.cell 0 rfl)
  have hx : Below w.heap.size w (w.alloc (.cells #[.string (txt n), .string (txt v)] 29)) := (Below.refl _ _).alloc (Nat.le_refl _) _
  have LA : Hid (LRow (w.alloc (.cells #[.string (txt n), .string (txt v)] 29)) B (mkL m)) := hr.below hx hB
  have TA : Hid (CTabs (w.alloc (.cells #[.string (txt n), .string (txt v)] 29))) := T.below hx (Nat.le_refl _)
  have HB0 : Hid (Below B w (w.alloc (.cells #[.string (txt n), .string (txt v)] 29))) := hx.mono (Nat.le_of_lt hB)
  have hBA : B < (w.alloc (.cells #[.string (txt n), .string (txt v)] 29)).heap.size := by simp; omega
  clear hr T hv hf hx
  simp only
  by_cases h0 : n = [101, 120, 112, 105, 114, 101, 115]
  · by_cases he : readE v = 0
    · have HM : Hid (takeM m (n, v) = { m with expN := readV v, expS := true }) := by show _ = _; unfold takeM; rw [if_pos h0, if_pos he]
      obtain ⟨ev, hev⟩ : ∃ x, x = readV v := ⟨_, rfl⟩
      have HV : Hid _ := hev
      have HE : Hid _ := he
      have y0 : ((txt n).toList == [101, 120, 112, 105, 114, 101, 115]) = true := lit_t n _ h0
      clear h0
      clear he hev
      go_enter Tryd.func19, Tryd.ntmps19
      go_wp2_with fail
      refine (sread_any _ _ HVS.out TA.out.st).mono ?_
      rw [txt_toList, HE.out, ← HV.out]
      rintro e w1 ⟨rfl, hb1⟩
      have L1 : Hid _ := LA.out.below hb1 hBA
      have B1 : Hid (Below B w w1) := HB0.out.trans (hb1.mono (Nat.le_of_lt hBA))
      have c20 := L1.out.cell 20 rfl
      have f20 := L1.out.frozen 20 rfl
      have c21 := L1.out.cell 21 rfl
      have f21 := L1.out.frozen 21 rfl
      go_wp2_with fail
      go_end0
      refine ⟨⟨_, rfl⟩, ?_, (B1.out.setCell (Nat.le_refl _) _).setCell (Nat.le_refl _) _⟩
      rw [HM.out, ← HV.out]
      exact (L1.out.set 20 _).set 21 _
    · have HM : Hid (takeM m (n, v) = m) := by show _ = _; unfold takeM; rw [if_pos h0, if_neg he]
      obtain ⟨ee, hee⟩ : ∃ x, x = readE v := ⟨_, rfl⟩
      have HE : Hid _ := hee
      have hne : (ee == 0) = false := by rw [beq_eq_false_iff_ne, hee]; exact he
      have y0 : ((txt n).toList == [101, 120, 112, 105, 114, 101, 115]) = true := lit_t n _ h0
      clear h0
      clear he hee
      go_enter Tryd.func19, Tryd.ntmps19
      go_wp2_with fail
      refine (sread_any _ _ HVS.out TA.out.st).mono ?_
      rw [txt_toList, ← HE.out]
      rintro e w1 ⟨rfl, hb1⟩
      go_wp2_with fail
      go_end0
      exact ⟨⟨_, rfl⟩, by rw [HM.out]; exact LA.out.below hb1 hBA, HB0.out.trans (hb1.mono (Nat.le_of_lt hBA))⟩
  · skip
    by_cases h1 : n = [109, 97, 120, 45, 97, 103, 101]
    · cases he : ageB v
      · have HM : Hid (takeM m (n, v) = m) := by show _ = _; unfold takeM; rw [if_neg h0, if_pos h1, he]; rfl
        have HE : Hid _ := he
        have y0 : ((txt n).toList == [101, 120, 112, 105, 114, 101, 115]) = false := lit_f n _ h0
        have y1 : ((txt n).toList == [109, 97, 120, 45, 97, 103, 101]) = true := lit_t n _ h1
        clear h0 h1
        clear he
        go_enter Tryd.func19, Tryd.ntmps19
        go_wp2_with fail
        refine (age_any _ _ HVS.out).mono ?_
        rw [txt_toList, HE.out]
        rintro e w1 ⟨rfl, hw1⟩
        have L1 : Hid (LRow w1 B (mkL m)) := by rw [hw1]; exact LA.out
        have B1 : Hid (Below B w w1) := by rw [hw1]; exact HB0.out
        clear hw1
        go_wp2_with fail
        go_end0
        exact ⟨⟨_, rfl⟩, by rw [HM.out]; exact L1.out, B1.out⟩
      · have HM : Hid (takeM m (n, v) = { m with ageN := ageV v, ageS := true }) := by show _ = _; unfold takeM; rw [if_neg h0, if_pos h1, he]; rfl
        obtain ⟨ev, hev⟩ : ∃ x, x = ageV v := ⟨_, rfl⟩
        have HV : Hid _ := hev
        have HE : Hid _ := he
        have y0 : ((txt n).toList == [101, 120, 112, 105, 114, 101, 115]) = false := lit_f n _ h0
        have y1 : ((txt n).toList == [109, 97, 120, 45, 97, 103, 101]) = true := lit_t n _ h1
        clear h0 h1
        clear he hev
        go_enter Tryd.func19, Tryd.ntmps19
        go_wp2_with fail
        refine (age_any _ _ HVS.out).mono ?_
        rw [txt_toList, HE.out, ← HV.out]
        rintro e w1 ⟨rfl, hw1⟩
        have L1 : Hid (LRow w1 B (mkL m)) := by rw [hw1]; exact LA.out
        have B1 : Hid (Below B w w1) := by rw [hw1]; exact HB0.out
        clear hw1
        have d18 := L1.out.cell 18 rfl
        have g18 := L1.out.frozen 18 rfl
        have d19 := L1.out.cell 19 rfl
        have g19 := L1.out.frozen 19 rfl
        go_wp2_with fail
        go_end0
        refine ⟨⟨_, rfl⟩, ?_, (B1.out.setCell (Nat.le_refl _) _).setCell (Nat.le_refl _) _⟩
        rw [HM.out, ← HV.out]
        exact (L1.out.set 18 _).set 19 _
    · skip
      by_cases h2 : n = [100, 111, 109, 97, 105, 110]
      · obtain ⟨d, hd⟩ : ∃ x, x = cutP v [46] := ⟨_, rfl⟩
        have HD : Hid (cutP (txt v).data.toList (⟨#[46]⟩ : ByteArray).data.toList = d) := hd.symm
        by_cases he : d = []
        · have HM : Hid (takeM m (n, v) = m) := by show _ = _; unfold takeM; rw [if_neg h0, if_neg h1, if_pos h2, ← hd, if_pos he]
          have z1 := nil_t d he
          have z2 : ((txt d).toList != []) = false := by simp only [bne, z1]; rfl
          have y0 : ((txt n).toList == [101, 120, 112, 105, 114, 101, 115]) = false := lit_f n _ h0
          have y1 : ((txt n).toList == [109, 97, 120, 45, 97, 103, 101]) = false := lit_f n _ h1
          have y2 : ((txt n).toList == [100, 111, 109, 97, 105, 110]) = true := lit_t n _ h2
          clear h0 h1 h2
          clear he hd
          go_enter Tryd.func19, Tryd.ntmps19
          go_wp2_with fail
          refine (trimP_any _ _ _ HVS.out).mono ?_
          rw [HD.out]
          rintro e w1 ⟨rfl, hw1⟩
          have L1 : Hid (LRow w1 B (mkL m)) := by rw [hw1]; exact LA.out
          have B1 : Hid (Below B w w1) := by rw [hw1]; exact HB0.out
          clear hw1
          go_wp2_with fail
          go_end0
          exact ⟨⟨_, rfl⟩, by rw [HM.out]; exact L1.out, B1.out⟩
        · have HM : Hid (takeM m (n, v) = { m with dom := d }) := by show _ = _; unfold takeM; rw [if_neg h0, if_neg h1, if_pos h2, ← hd, if_neg he]
          have z1 := nil_f d he
          have z2 : ((txt d).toList != []) = true := by simp only [bne, z1]; rfl
          have y0 : ((txt n).toList == [101, 120, 112, 105, 114, 101, 115]) = false := lit_f n _ h0
          have y1 : ((txt n).toList == [109, 97, 120, 45, 97, 103, 101]) = false := lit_f n _ h1
          have y2 : ((txt n).toList == [100, 111, 109, 97, 105, 110]) = true := lit_t n _ h2
          clear h0 h1 h2
          clear he hd
          go_enter Tryd.func19, Tryd.ntmps19
          go_wp2_with fail
          refine (trimP_any _ _ _ HVS.out).mono ?_
          rw [HD.out]
          rintro e w1 ⟨rfl, hw1⟩
          have L1 : Hid (LRow w1 B (mkL m)) := by rw [hw1]; exact LA.out
          have B1 : Hid (Below B w w1) := by rw [hw1]; exact HB0.out
          clear hw1
          have d22 := L1.out.cell 22 rfl
          have g22 := L1.out.frozen 22 rfl
          go_wp2_with fail
          go_end0
          refine ⟨⟨_, rfl⟩, ?_, B1.out.setCell (Nat.le_refl _) _⟩
          rw [HM.out]
          exact L1.out.set 22 _
      · skip
        by_cases h3 : n = [112, 97, 116, 104]
        · have HM : Hid (takeM m (n, v) = { m with path := if Lib.hasPrefix v [47] then v else defaultL m.fr.path, told := true }) := by show _ = _; unfold takeM; rw [if_neg h0, if_neg h1, if_neg h2, if_pos h3]
          have y0 : ((txt n).toList == [101, 120, 112, 105, 114, 101, 115]) = false := lit_f n _ h0
          have y1 : ((txt n).toList == [109, 97, 120, 45, 97, 103, 101]) = false := lit_f n _ h1
          have y2 : ((txt n).toList == [100, 111, 109, 97, 105, 110]) = false := lit_f n _ h2
          have y3 : ((txt n).toList == [112, 97, 116, 104]) = true := lit_t n _ h3
          clear h0 h1 h2 h3
          go_enter Tryd.func19, Tryd.ntmps19
          go_wp2_with fail
          refine (takePath_any m B v _ LA.out HVL.out HFP.out).mono ?_
          rintro e w1 ⟨⟨_, rfl⟩, L1, x, y, hw1⟩
          have B1 : Hid (Below B w w1) := by rw [hw1]; exact (HB0.out.setCell (Nat.le_refl _) _).setCell (Nat.le_refl _) _
          clear hw1
          go_wp2_with fail
          go_end0
          exact ⟨⟨_, rfl⟩, by rw [HM.out]; exact L1, B1.out⟩
        · skip
          by_cases h4 : n = [115, 101, 99, 117, 114, 101]
          · have HM : Hid (takeM m (n, v) = { m with secure := true }) := by show _ = _; unfold takeM; rw [if_neg h0, if_neg h1, if_neg h2, if_neg h3, if_pos h4]
            have y0 : ((txt n).toList == [101, 120, 112, 105, 114, 101, 115]) = false := lit_f n _ h0
            have y1 : ((txt n).toList == [109, 97, 120, 45, 97, 103, 101]) = false := lit_f n _ h1
            have y2 : ((txt n).toList == [100, 111, 109, 97, 105, 110]) = false := lit_f n _ h2
            have y3 : ((txt n).toList == [112, 97, 116, 104]) = false := lit_f n _ h3
            have y4 : ((txt n).toList == [115, 101, 99, 117, 114, 101]) = true := lit_t n _ h4
            clear h0 h1 h2 h3 h4
            have c := LA.out.cell 5 rfl
            have f := LA.out.frozen 5 rfl
            go_enter Tryd.func19, Tryd.ntmps19
            go_wp2_with fail
            go_end0
            rw [back1 hB]
            refine ⟨⟨_, rfl⟩, ?_, HB0.out.setCell (Nat.le_refl _) _⟩
            rw [HM.out]
            exact LA.out.set 5 _
          · skip
            by_cases h5 : n = [104, 116, 116, 112, 111, 110, 108, 121]
            · have HM : Hid (takeM m (n, v) = { m with httpOnly := true }) := by show _ = _; unfold takeM; rw [if_neg h0, if_neg h1, if_neg h2, if_neg h3, if_neg h4, if_pos h5]
              have y0 : ((txt n).toList == [101, 120, 112, 105, 114, 101, 115]) = false := lit_f n _ h0
              have y1 : ((txt n).toList == [109, 97, 120, 45, 97, 103, 101]) = false := lit_f n _ h1
              have y2 : ((txt n).toList == [100, 111, 109, 97, 105, 110]) = false := lit_f n _ h2
              have y3 : ((txt n).toList == [112, 97, 116, 104]) = false := lit_f n _ h3
              have y4 : ((txt n).toList == [115, 101, 99, 117, 114, 101]) = false := lit_f n _ h4
              have y5 : ((txt n).toList == [104, 116, 116, 112, 111, 110, 108, 121]) = true := lit_t n _ h5
              clear h0 h1 h2 h3 h4 h5
              have c := LA.out.cell 6 rfl
              have f := LA.out.frozen 6 rfl
              go_enter Tryd.func19, Tryd.ntmps19
              go_wp2_with fail
              go_end0
              rw [back1 hB]
              refine ⟨⟨_, rfl⟩, ?_, HB0.out.setCell (Nat.le_refl _) _⟩
              rw [HM.out]
              exact LA.out.set 6 _
            · skip
              by_cases h6 : n = [115, 97, 109, 101, 115, 105, 116, 101]
              · have HM : Hid (takeM m (n, v) = { m with site := siteL v }) := by show _ = _; unfold takeM; rw [if_neg h0, if_neg h1, if_neg h2, if_neg h3, if_neg h4, if_neg h5, if_pos h6]
                obtain ⟨sv, hsv⟩ : ∃ x, x = siteL v := ⟨_, rfl⟩
                have HV : Hid _ := hsv
                clear hsv
                have y0 : ((txt n).toList == [101, 120, 112, 105, 114, 101, 115]) = false := lit_f n _ h0
                have y1 : ((txt n).toList == [109, 97, 120, 45, 97, 103, 101]) = false := lit_f n _ h1
                have y2 : ((txt n).toList == [100, 111, 109, 97, 105, 110]) = false := lit_f n _ h2
                have y3 : ((txt n).toList == [112, 97, 116, 104]) = false := lit_f n _ h3
                have y4 : ((txt n).toList == [115, 101, 99, 117, 114, 101]) = false := lit_f n _ h4
                have y5 : ((txt n).toList == [104, 116, 116, 112, 111, 110, 108, 121]) = false := lit_f n _ h5
                have y6 : ((txt n).toList == [115, 97, 109, 101, 115, 105, 116, 101]) = true := lit_t n _ h6
                clear h0 h1 h2 h3 h4 h5 h6
                go_enter Tryd.func19, Tryd.ntmps19
                go_wp2_with fail
                refine (site_any _ _ HVS.out TA.out).mono ?_
                rw [txt_toList, ← HV.out]
                rintro e w1 ⟨rfl, hb1⟩
                have L1 : Hid _ := LA.out.below hb1 hBA
                have B1 : Hid (Below B w w1) := HB0.out.trans (hb1.mono (Nat.le_of_lt hBA))
                have c := L1.out.cell 8 rfl
                have f := L1.out.frozen 8 rfl
                go_wp2_with fail
                go_end0
                refine ⟨⟨_, rfl⟩, ?_, B1.out.setCell (Nat.le_refl _) _⟩
                rw [HM.out, ← HV.out]
                exact L1.out.set 8 _
              · skip
                have HM : Hid (takeM m (n, v) = m) := by show _ = _; unfold takeM; rw [if_neg h0, if_neg h1, if_neg h2, if_neg h3, if_neg h4, if_neg h5, if_neg h6]
                have y0 : ((txt n).toList == [101, 120, 112, 105, 114, 101, 115]) = false := lit_f n _ h0
                have y1 : ((txt n).toList == [109, 97, 120, 45, 97, 103, 101]) = false := lit_f n _ h1
                have y2 : ((txt n).toList == [100, 111, 109, 97, 105, 110]) = false := lit_f n _ h2
                have y3 : ((txt n).toList == [112, 97, 116, 104]) = false := lit_f n _ h3
                have y4 : ((txt n).toList == [115, 101, 99, 117, 114, 101]) = false := lit_f n _ h4
                have y5 : ((txt n).toList == [104, 116, 116, 112, 111, 110, 108, 121]) = false := lit_f n _ h5
                have y6 : ((txt n).toList == [115, 97, 109, 101, 115, 105, 116, 101]) = false := lit_f n _ h6
                clear h0 h1 h2 h3 h4 h5 h6
                go_enter Tryd.func19, Tryd.ntmps19
                go_wp2_with fail
                go_end0
                exact ⟨⟨_, rfl⟩, by rw [HM.out]; exact LA.out, HB0.out⟩
end Go.Proofs.YtgjjkieljdamfafDoor
namespace Go.Proofs.YtgjjkieljdamfafDoor
open Go.RowKit
set_option linter.all false
set_option maxRecDepth 100000

set_option maxHeartbeats 2000000 in
theorem setExpiry_any (m : Mk) (B : Nat) (w : World) (hr : LRow w B (mkL m)) (hm : momB m.created = true) (ha : -9223372036854775808 ≤ m.ageN ∧ m.ageN ≤ 9223372036854775807) :
    Calls Tryd.prog 20 #[.pointer (some ⟨B, 0, none⟩)] w fun e w' => (∃ v, e = .returned v) ∧ LRow w' B (mkL (expiryM m)) ∧ Below B w w' := by
  have HR : Hid _ := hr
  have HM : Hid _ := hm
  have HA : Hid _ := ha
  have c7 := hr.cell 7 rfl
  have f7 := hr.frozen 7 rfl
  have c9 := hr.cell 9 rfl
  have f9 := hr.frozen 9 rfl
  have c10 := hr.cell 10 rfl
  have c18 := hr.cell 18 rfl
  have c19 := hr.cell 19 rfl
  have c20 := hr.cell 20 rfl
  have c21 := hr.cell 21 rfl
  clear hr hm ha
  obtain ⟨a, hae⟩ : ∃ a, a = m.ageN := ⟨_, rfl⟩
  obtain ⟨cr, hcr⟩ : ∃ c, c = m.created := ⟨_, rfl⟩
  obtain ⟨ex, hex⟩ : ∃ c, c = m.expN := ⟨_, rfl⟩
  rw [← hae] at c18
  rw [← hcr] at c10
  rw [← hex] at c20
  have HAE : Hid _ := hae
  have HCR : Hid _ := hcr
  have HEX : Hid _ := hex
  clear hae hcr hex
  cases gs : m.ageS
  · rw [gs] at c19
    cases es : m.expS
    · rw [es] at c21
      have HQ : Hid (expiryM m = { m with lasting := false, expiry := 253402300799 }) := by show _ = _; unfold expiryM; rw [gs, es]; rfl
      clear gs es
      go_enter Tryd.func20, Tryd.ntmps20
      go_wp2_with fail
      go_end0
      exact ⟨⟨_, rfl⟩, by rw [HQ.out]; exact (HR.out.set 7 _).set 9 _, ((Below.refl B w).setCell (Nat.le_refl _) _).setCell (Nat.le_refl _) _⟩
    · rw [es] at c21
      have HQ : Hid (expiryM m = { m with lasting := true, expiry := ex }) := by show _ = _; unfold expiryM; rw [gs, es, HEX.out]; rfl
      clear gs es
      go_enter Tryd.func20, Tryd.ntmps20
      go_wp2_with fail
      go_end0
      exact ⟨⟨_, rfl⟩, by rw [HQ.out]; exact (HR.out.set 7 _).set 9 _, ((Below.refl B w).setCell (Nat.le_refl _) _).setCell (Nat.le_refl _) _⟩
  · rw [gs] at c19
    by_cases hp : 0 < a
    · have HQ : Hid (expiryM m = { m with lasting := true, expiry := addN cr a }) := by
        show _ = _; unfold expiryM; rw [gs, ← HAE.out, ← HCR.out, if_pos hp]; rfl
      have HAD : Hid (∀ W : World, Calls Tryd.prog 28 #[.int .i64 cr, .int .i64 a] W fun e w' => e = .returned (.tuple #[.int .i64 (addN cr a), .int .i64 0]) ∧ w' = W) := fun W => by rw [HCR.out, HAE.out]; exact add_yes _ _ HM.out HA.out W
      clear gs
      go_enter Tryd.func20, Tryd.ntmps20
      go_wp2_with fail
      obtain ⟨W1, hW1⟩ : ∃ W1, W1 = w.setCell ⟨B, 7, none⟩ (.bool true) := ⟨_, rfl⟩
      have L7 : LRow W1 B ((mkL m).set 7 (.bool true)) := by rw [hW1]; exact HR.out.set 7 _
      have B7 : Hid (Below B w W1) := by rw [hW1]; exact (Below.refl B w).setCell (Nat.le_refl _) _
      rw [← hW1]
      have L7' : Hid _ := L7
      have e10 : W1.cell? ⟨B, 10, none⟩ = some (.int .i64 cr) := by rw [HCR.out]; exact L7.cell 10 rfl
      have e18 : W1.cell? ⟨B, 18, none⟩ = some (.int .i64 a) := by rw [HAE.out]; exact L7.cell 18 rfl
      have e9 := L7.cell 9 rfl
      have h9 := L7.frozen 9 rfl
      have s10 : Hid (∀ x, (W1.setCell ⟨B, 9, none⟩ x).cell? ⟨B, 10, none⟩ = some (.int .i64 cr)) := fun x => (World.cell?_setCell_other _ _ _ _ (by intro e; injection e with _ e; cases e)).trans e10
      have s18 : Hid (∀ x, (W1.setCell ⟨B, 9, none⟩ x).cell? ⟨B, 18, none⟩ = some (.int .i64 a)) := fun x => (World.cell?_setCell_other _ _ _ _ (by intro e; injection e with _ e; cases e)).trans e18
      clear hW1 L7 c7 f7 c9 f9 c10 c18 c19 c20 c21
      go_region_held3 (fun w' => w'.cell? ⟨B, 10, none⟩ = some (.int .i64 cr) ∧ w'.cell? ⟨B, 18, none⟩ = some (.int .i64 a)) (first | exact ⟨s10.out _, s18.out _⟩ | exact ⟨e10, e18⟩ | exact s10.out _ | exact s18.out _ | go_keep) (first | (go_at_call 28; refine (HAD.out _).mono ?_; rintro e w1 ⟨rfl, rfl⟩))
      all_goals go_wp2_with fail
      all_goals go_end0
      all_goals exact ⟨⟨_, rfl⟩, by rw [HQ.out]; exact (L7'.out.drewN 1).set 9 _, (B7.out.drew).setCell (Nat.le_refl _) _⟩
    · have HQ : Hid (expiryM m = { m with lasting := true, expiry := -11644473600 }) := by
        show _ = _; unfold expiryM; rw [gs, ← HAE.out, if_neg hp]; rfl
      clear gs
      go_enter Tryd.func20, Tryd.ntmps20
      go_wp2_with fail
      go_end0
      exact ⟨⟨_, rfl⟩, by rw [HQ.out]; exact (HR.out.set 7 _).set 9 _, ((Below.refl B w).setCell (Nat.le_refl _) _).setCell (Nat.le_refl _) _⟩
end Go.Proofs.YtgjjkieljdamfafDoor
namespace Go.Proofs.YtgjjkieljdamfafDoor
open Go.RowKit
set_option linter.all false
set_option maxRecDepth 100000

theorem canon_len (s : List UInt8) : (canonL s).length ≤ 253 := by
  unfold canonL
  by_cases h : s.length ≤ 253
  · rw [if_pos h]
    by_cases h2 : hostL s = true
    · rw [if_pos h2, foldL_length]; exact h
    · rw [if_neg h2]; simp
  · rw [if_neg h]; simp
theorem rows_keep {w W' : World} {v : Value} {α : Type} {f : α → List Value} {l : List α} {B : Nat} (h : Rows w v f l) (hmem : ∀ b off n cap, v = .slice (some ⟨b, off, none⟩) n cap → l ≠ [] → b < B) (hb : Below B w W') : Rows W' v f l := by
  obtain ⟨ad, cap, rfl, h⟩ := h
  refine ⟨ad, cap, rfl, ?_⟩
  by_cases hl : l = []
  · subst hl; exact .inl rfl
  · rcases h with h | ⟨b, off, rfl, h⟩
    · exact .inl h
    · exact .inr ⟨b, off, rfl, fun j u hj => (hb.cell (p := ⟨b, off + j, none⟩) (hmem b off _ _ rfl hl)).trans (h j u hj)⟩
set_option maxHeartbeats 4000000 in
theorem setDomain_any (v : Value) (l : Rules) (m : Mk) (B : Nat) (w : World) (hl : Rows w v sufF l) (hlm : l.length ≤ maxLen) (hok : ∀ r ∈ l, okR r) (hmem : ∀ b off n cap, v = .slice (some ⟨b, off, none⟩) n cap → l ≠ [] → b < B) (hr : LRow w B (mkL m)) (hd : m.dom.length ≤ maxLen) (hh : m.fr.host.length ≤ maxLen) :
    Calls Tryd.prog 21 #[.pointer (some ⟨B, 0, none⟩), v] w fun e w' => e = .returned (.int .i64 (domE l m)) ∧ LRow w' B (mkL (domM l m)) ∧ Below B w w' := by
  have HD : Hid ((txt m.dom).size ≤ maxLen) := hd
  have HH : Hid ((txt m.fr.host).size ≤ maxLen) := hh
  have HR : Hid _ := hr
  have HOK : Hid _ := hok
  have HLM : Hid _ := hlm
  obtain ⟨W1, hW1⟩ : ∃ W1, W1 = (w.setCell ⟨B, 2, none⟩ (.string (txt m.fr.host))).setCell ⟨B, 4, none⟩ (.bool true) := ⟨_, rfl⟩
  have L1 : LRow W1 B (mkL { m with domain := m.fr.host, hostOnly := true }) := by rw [hW1]; exact (hr.set 2 _).set 4 _
  have B1 : Hid (Below B w W1) := by rw [hW1]; exact ((Below.refl B w).setCell (Nat.le_refl _) _).setCell (Nat.le_refl _) _
  have hB : B < W1.heap.size := cell_in (L1.cell 0 rfl)
  have HL1 : Hid _ := L1
  have c2 := hr.cell 2 rfl
  have f2 := hr.frozen 2 rfl
  have c4 := hr.cell 4 rfl
  have f4 := hr.frozen 4 rfl
  have c13 := hr.cell 13 rfl
  have c22 := hr.cell 22 rfl
  obtain ⟨dm, hdm⟩ : ∃ x, x = m.dom := ⟨_, rfl⟩
  have HDM : Hid _ := hdm
  by_cases h0 : dm = []
  · have y1 := nil_t dm h0
    have HE : Hid (domE l m = 0) := by show _ = _; unfold domE; rw [← hdm, if_pos h0]
    have HM : Hid (domM l m = { m with domain := m.fr.host, hostOnly := true }) := by show _ = _; unfold domM domOwn; rw [HE.out, if_pos rfl, ← hdm, decide_eq_true h0]; rfl
    rw [← hdm] at c22
    clear h0 hdm
    go_enter Tryd.func21, Tryd.ntmps21
    go_wp2_with fail
    go_ret
    refine ⟨?_, ?_, ((Below.refl B w).setCell (Nat.le_refl _) _).setCell (Nat.le_refl _) _⟩
    · rw [HE.out]; rfl
    · rw [HM.out]; exact (HR.out.set 2 _).set 4 _
  · have y1 := nil_f dm h0
    rw [← hdm] at c22
    have HDS : Hid ((txt dm).size ≤ maxLen) := by rw [hdm]; exact HD.out
    have HRW : Hid (Rows w v sufF l) := hl
    have HMEM : Hid _ := hmem
    obtain ⟨ce, hce⟩ : ∃ x, x = canonE dm := ⟨_, rfl⟩
    obtain ⟨d, hcl⟩ : ∃ x, x = canonL dm := ⟨_, rfl⟩
    obtain ⟨pb, hpb⟩ : ∃ x, x = pubA l d := ⟨_, rfl⟩
    obtain ⟨ho, hho⟩ : ∃ x, x = m.fr.host := ⟨_, rfl⟩
    obtain ⟨mt, hmt⟩ : ∃ x, x = matchL ho d := ⟨_, rfl⟩
    have HCE : Hid _ := hce
    have HCL : Hid _ := hcl
    have HPB : Hid _ := hpb
    have HHO : Hid _ := hho
    have HMT : Hid _ := hmt
    have HCS : Hid ((txt d).size ≤ maxLen) := by show d.length ≤ maxLen; rw [hcl]; have := canon_len dm; unfold maxLen; omega
    have HCT : Hid ((txt d).size < maxLen) := by show d.length < maxLen; rw [hcl]; have := canon_len dm; unfold maxLen; omega
    have HEE : Hid (domE l m = if ce = 0 then (if d = pb then (if d = ho then 0 else 8) else if mt then 0 else 8) else 1) := by
      show _ = _; unfold domE; rw [← hdm, if_neg h0, ← hce, ← hcl, ← hpb, ← hho, ← hmt]
    have HOW : Hid (domOwn l m = decide (d = pb)) := by show _ = _; unfold domOwn; rw [← hdm, decide_eq_false h0, ← hcl, ← hpb]; rfl
    have HMM : Hid (domM l m = if domE l m = 0 then (if domOwn l m then { m with domain := m.fr.host, hostOnly := true } else { m with domain := d, hostOnly := false }) else { m with domain := m.fr.host, hostOnly := true }) := by
      show _ = _; unfold domM; rw [← hdm, ← hcl]
    clear h0 hdm hce hcl hpb hho hmt hl hmem hr hd hh hok hlm
    by_cases e0 : ce = 0
    · subst e0
      by_cases e1 : d = pb
      · have z1 := same_t d pb e1
        by_cases e2 : d = ho
        · have z2 := same_t d ho e2
          have HE : Hid (domE l m = 0) := by show _ = _; rw [HEE.out, if_pos rfl, if_pos e1, if_pos e2]
          have HM : Hid (domM l m = { m with domain := m.fr.host, hostOnly := true }) := by show _ = _; rw [HMM.out, HE.out, if_pos rfl, HOW.out, decide_eq_true e1]; rfl
          clear e1 e2
          go_enter Tryd.func21, Tryd.ntmps21
          go_wp2_with fail
          rw [← hW1]
          clear hW1 c2 f2 c4 f4 c13 c22
          refine (canon_any _ _ HDS.out).mono ?_
          rw [txt_toList, ← HCE.out, ← HCL.out]
          rintro e w2 ⟨rfl, hb2⟩
          have L2 : Hid _ := HL1.out.below hb2 hB
          have B2 : Hid (Below B w w2) := B1.out.trans (hb2.mono (Nat.le_of_lt hB))
          have R2 : Hid (Rows w2 v sufF l) := rows_keep HRW.out HMEM.out B2.out
          have hB2 : B < w2.heap.size := Nat.lt_of_lt_of_le hB hb2.size
          go_wp2_with fail
          refine (Public_any v l _ _ R2.out HLM.out HOK.out HCS.out).mono ?_
          rw [txt_toList, ← HPB.out]
          rintro e w3 ⟨rfl, hb3⟩
          have L3 : Hid _ := L2.out.below hb3 hB2
          have B3 : Hid (Below B w w3) := B2.out.trans (hb3.mono (Nat.le_of_lt hB2))
          have hB3 : B < w3.heap.size := Nat.lt_of_lt_of_le hB2 hb3.size
          have d13 := L3.out.cell 13 rfl
          have d2 := L3.out.cell 2 rfl
          have g2 := L3.out.frozen 2 rfl
          have d4 := L3.out.cell 4 rfl
          have g4 := L3.out.frozen 4 rfl
          clear hb2 hb3
          rw [← HHO.out] at d13
          go_wp2_with fail
          go_ret
          refine ⟨?_, ?_, B3.out⟩
          · rw [HE.out]; rfl
          · rw [HM.out]; exact L3.out
        · have z2 := same_f d ho e2
          have HE : Hid (domE l m = 8) := by show _ = _; rw [HEE.out, if_pos rfl, if_pos e1, if_neg e2]
          have HM : Hid (domM l m = { m with domain := m.fr.host, hostOnly := true }) := by show _ = _; rw [HMM.out, HE.out, if_neg (by decide)]
          clear e1 e2
          go_enter Tryd.func21, Tryd.ntmps21
          go_wp2_with fail
          rw [← hW1]
          clear hW1 c2 f2 c4 f4 c13 c22
          refine (canon_any _ _ HDS.out).mono ?_
          rw [txt_toList, ← HCE.out, ← HCL.out]
          rintro e w2 ⟨rfl, hb2⟩
          have L2 : Hid _ := HL1.out.below hb2 hB
          have B2 : Hid (Below B w w2) := B1.out.trans (hb2.mono (Nat.le_of_lt hB))
          have R2 : Hid (Rows w2 v sufF l) := rows_keep HRW.out HMEM.out B2.out
          have hB2 : B < w2.heap.size := Nat.lt_of_lt_of_le hB hb2.size
          go_wp2_with fail
          refine (Public_any v l _ _ R2.out HLM.out HOK.out HCS.out).mono ?_
          rw [txt_toList, ← HPB.out]
          rintro e w3 ⟨rfl, hb3⟩
          have L3 : Hid _ := L2.out.below hb3 hB2
          have B3 : Hid (Below B w w3) := B2.out.trans (hb3.mono (Nat.le_of_lt hB2))
          have hB3 : B < w3.heap.size := Nat.lt_of_lt_of_le hB2 hb3.size
          have d13 := L3.out.cell 13 rfl
          have d2 := L3.out.cell 2 rfl
          have g2 := L3.out.frozen 2 rfl
          have d4 := L3.out.cell 4 rfl
          have g4 := L3.out.frozen 4 rfl
          clear hb2 hb3
          rw [← HHO.out] at d13
          go_wp2_with fail
          go_ret
          refine ⟨?_, ?_, B3.out⟩
          · rw [HE.out]; rfl
          · rw [HM.out]; exact L3.out
      · have z1 := same_f d pb e1
        have HHS : Hid ((txt ho).size ≤ maxLen) := by rw [HHO.out]; exact HH.out
        cases mt
        · have HE : Hid (domE l m = 8) := by show _ = _; rw [HEE.out, if_pos rfl, if_neg e1]; rfl
          have HM : Hid (domM l m = { m with domain := m.fr.host, hostOnly := true }) := by show _ = _; rw [HMM.out, HE.out, if_neg (by decide)]
          clear e1
          go_enter Tryd.func21, Tryd.ntmps21
          go_wp2_with fail
          rw [← hW1]
          clear hW1 c2 f2 c4 f4 c13 c22
          refine (canon_any _ _ HDS.out).mono ?_
          rw [txt_toList, ← HCE.out, ← HCL.out]
          rintro e w2 ⟨rfl, hb2⟩
          have L2 : Hid _ := HL1.out.below hb2 hB
          have B2 : Hid (Below B w w2) := B1.out.trans (hb2.mono (Nat.le_of_lt hB))
          have R2 : Hid (Rows w2 v sufF l) := rows_keep HRW.out HMEM.out B2.out
          have hB2 : B < w2.heap.size := Nat.lt_of_lt_of_le hB hb2.size
          go_wp2_with fail
          refine (Public_any v l _ _ R2.out HLM.out HOK.out HCS.out).mono ?_
          rw [txt_toList, ← HPB.out]
          rintro e w3 ⟨rfl, hb3⟩
          have L3 : Hid _ := L2.out.below hb3 hB2
          have B3 : Hid (Below B w w3) := B2.out.trans (hb3.mono (Nat.le_of_lt hB2))
          have hB3 : B < w3.heap.size := Nat.lt_of_lt_of_le hB2 hb3.size
          have d13 := L3.out.cell 13 rfl
          have d2 := L3.out.cell 2 rfl
          have g2 := L3.out.frozen 2 rfl
          have d4 := L3.out.cell 4 rfl
          have g4 := L3.out.frozen 4 rfl
          clear hb2 hb3
          rw [← HHO.out] at d13
          go_wp2_with fail
          refine (match_any _ _ _ HHS.out HCT.out).mono ?_
          rw [txt_toList, txt_toList, ← HMT.out]
          rintro e w4 ⟨rfl, hb4⟩
          go_wp2_with fail
          go_ret
          refine ⟨?_, ?_, B3.out.trans (hb4.mono (Nat.le_of_lt hB3))⟩
          · rw [HE.out]; rfl
          · rw [HM.out]; exact L3.out.below hb4 hB3
        · have HE : Hid (domE l m = 0) := by show _ = _; rw [HEE.out, if_pos rfl, if_neg e1]; rfl
          have HM : Hid (domM l m = { m with domain := d, hostOnly := false }) := by show _ = _; rw [HMM.out, HE.out, if_pos rfl, HOW.out, decide_eq_false e1]; rfl
          clear e1
          go_enter Tryd.func21, Tryd.ntmps21
          go_wp2_with fail
          rw [← hW1]
          clear hW1 c2 f2 c4 f4 c13 c22
          refine (canon_any _ _ HDS.out).mono ?_
          rw [txt_toList, ← HCE.out, ← HCL.out]
          rintro e w2 ⟨rfl, hb2⟩
          have L2 : Hid _ := HL1.out.below hb2 hB
          have B2 : Hid (Below B w w2) := B1.out.trans (hb2.mono (Nat.le_of_lt hB))
          have R2 : Hid (Rows w2 v sufF l) := rows_keep HRW.out HMEM.out B2.out
          have hB2 : B < w2.heap.size := Nat.lt_of_lt_of_le hB hb2.size
          go_wp2_with fail
          refine (Public_any v l _ _ R2.out HLM.out HOK.out HCS.out).mono ?_
          rw [txt_toList, ← HPB.out]
          rintro e w3 ⟨rfl, hb3⟩
          have L3 : Hid _ := L2.out.below hb3 hB2
          have B3 : Hid (Below B w w3) := B2.out.trans (hb3.mono (Nat.le_of_lt hB2))
          have hB3 : B < w3.heap.size := Nat.lt_of_lt_of_le hB2 hb3.size
          have d13 := L3.out.cell 13 rfl
          have d2 := L3.out.cell 2 rfl
          have g2 := L3.out.frozen 2 rfl
          have d4 := L3.out.cell 4 rfl
          have g4 := L3.out.frozen 4 rfl
          clear hb2 hb3
          rw [← HHO.out] at d13
          go_wp2_with fail
          refine (match_any _ _ _ HHS.out HCT.out).mono ?_
          rw [txt_toList, txt_toList, ← HMT.out]
          rintro e w4 ⟨rfl, hb4⟩
          have L4 : Hid _ := L3.out.below hb4 hB3
          have B4 : Hid (Below B w w4) := B3.out.trans (hb4.mono (Nat.le_of_lt hB3))
          clear d13 d2 g2 d4 g4 hb4
          have d2 := L4.out.cell 2 rfl
          have g2 := L4.out.frozen 2 rfl
          have d4 := L4.out.cell 4 rfl
          have g4 := L4.out.frozen 4 rfl
          go_wp2_with fail
          go_ret
          refine ⟨?_, ?_, (B4.out.setCell (Nat.le_refl _) _).setCell (Nat.le_refl _) _⟩
          · rw [HE.out]; rfl
          · rw [HM.out]; exact (L4.out.set 2 _).set 4 _
    · have hne : (ce != 0) = true := by rw [bne_iff_ne]; exact e0
      have HE : Hid (domE l m = 1) := by show _ = _; rw [HEE.out, if_neg e0]
      have HM : Hid (domM l m = { m with domain := m.fr.host, hostOnly := true }) := by show _ = _; rw [HMM.out, HE.out, if_neg (by decide)]
      clear e0
      go_enter Tryd.func21, Tryd.ntmps21
      go_wp2_with fail
      rw [← hW1]
      clear hW1 c2 f2 c4 f4 c13 c22
      refine (canon_any _ _ HDS.out).mono ?_
      rw [txt_toList, ← HCE.out, ← HCL.out]
      rintro e w2 ⟨rfl, hb2⟩
      have L2 : Hid _ := HL1.out.below hb2 hB
      have B2 : Hid (Below B w w2) := B1.out.trans (hb2.mono (Nat.le_of_lt hB))
      go_wp2_with fail
      go_ret
      refine ⟨?_, ?_, B2.out⟩
      · rw [HE.out]; rfl
      · rw [HM.out]; exact L2.out
end Go.Proofs.YtgjjkieljdamfafDoor
namespace Go.Proofs.YtgjjkieljdamfafDoor
open Go.RowKit
set_option linter.all false
set_option maxRecDepth 100000

set_option maxHeartbeats 2000000 in
theorem barred_m (m : Mk) (B : Nat) (w : World) (hr : LRow w B (mkL m)) (hn : m.name.length ≤ maxLen) :
    Calls Tryd.prog 22 #[.pointer (some ⟨B, 0, none⟩)] w fun e w' => e = .returned (.bool (barM m)) ∧ Below w.heap.size w w' := by
  have HN : Hid ((txt m.name).size ≤ maxLen) := hn
  have HR : Hid _ := hr
  have hB : B < w.heap.size := cell_in (hr.cell 0 rfl)
  have c0 := hr.cell 0 rfl
  have c5 := hr.cell 5 rfl
  have c6 := hr.cell 6 rfl
  have c15 := hr.cell 15 rfl
  have c16 := hr.cell 16 rfl
  obtain ⟨b, hb⟩ : ∃ b, b = barM m := ⟨_, rfl⟩
  obtain ⟨ho, hho⟩ : ∃ x, x = m.httpOnly := ⟨_, rfl⟩
  obtain ⟨se, hse⟩ : ∃ x, x = m.secure := ⟨_, rfl⟩
  obtain ⟨fs, hfs⟩ : ∃ x, x = m.fr.secure := ⟨_, rfl⟩
  obtain ⟨sc, hsc⟩ : ∃ x, x = m.fr.script := ⟨_, rfl⟩
  obtain ⟨td, htd⟩ : ∃ x, x = m.told := ⟨_, rfl⟩
  obtain ⟨nm, hnm⟩ : ∃ x, x = foldL m.name := ⟨_, rfl⟩
  obtain ⟨do', hdo⟩ : ∃ x, x = m.dom := ⟨_, rfl⟩
  obtain ⟨pa, hpa⟩ : ∃ x, x = m.path := ⟨_, rfl⟩
  obtain ⟨p1, hp1⟩ : ∃ x, x = Lib.hasPrefix nm [95, 95, 115, 101, 99, 117, 114, 101, 45] := ⟨_, rfl⟩
  obtain ⟨p2, hp2⟩ : ∃ x, x = Lib.hasPrefix nm [95, 95, 104, 111, 115, 116, 45] := ⟨_, rfl⟩
  have HB : Hid (b = ((ho && sc) || (se && !fs) || (if p1 then !se else (p2 && (!se || !(do' == []) || !(pa == [47]) || !td))))) := by
    show _ = _; rw [hb]; unfold barM; rw [← hho, ← hse, ← hfs, ← hsc, ← htd, ← hnm, ← hdo, ← hpa, ← hp1, ← hp2]
  have HNM : Hid _ := hnm
  have HNL : Hid ((txt nm).size ≤ maxLen) := by show nm.length ≤ maxLen; rw [hnm, foldL_length]; exact hn
  have HP1 : Hid (Lib.hasPrefix (txt nm).data.toList (⟨#[95, 95, 115, 101, 99, 117, 114, 101, 45]⟩ : ByteArray).data.toList = p1) := hp1.symm
  have HP2 : Hid (Lib.hasPrefix (txt nm).data.toList (⟨#[95, 95, 104, 111, 115, 116, 45]⟩ : ByteArray).data.toList = p2) := hp2.symm
  have HC : Hid (∀ W' : World, Below w.heap.size w W' → W'.cell? ⟨B, 5, none⟩ = some (.bool se) ∧ W'.cell? ⟨B, 22, none⟩ = some (.string (txt do')) ∧ W'.cell? ⟨B, 3, none⟩ = some (.string (txt pa)) ∧ W'.cell? ⟨B, 23, none⟩ = some (.bool td)) := fun W' h => by
    have L := hr.below h hB
    rw [hse, hdo, hpa, htd]
    exact ⟨L.cell 5 rfl, L.cell 22 rfl, L.cell 3 rfl, L.cell 23 rfl⟩
  rw [← hb]
  rw [← hse] at c5
  rw [← hho] at c6
  rw [← hfs] at c15
  rw [← hsc] at c16
  clear hb hho hse hfs hsc htd hnm hdo hpa hp1 hp2 hr hn
  by_cases g : ((ho && sc) || (se && !fs)) = true
  · have HT : Hid (b = true) := by show _ = _; rw [HB.out, g]; rfl
    cases ho <;> cases sc <;> cases se <;> cases fs <;> first
      | (exact absurd g (by decide))
      | (go_enter Tryd.func22, Tryd.ntmps22
         go_wp2_with fail
         go_ret
         refine ⟨?_, Below.refl _ _⟩
         rw [HT.out]; rfl)
  · rw [Bool.not_eq_true] at g
    have HB2 : Hid (b = (if p1 then !se else (p2 && (!se || !(do' == []) || !(pa == [47]) || !td)))) := by show _ = _; rw [HB.out, g]; rfl
    have go : Hid (∀ {Q : Exit → Act → World → Prop}, True) := fun {_} => trivial
    clear go
    cases ho <;> cases sc <;> cases se <;> cases fs <;> first
      | (exact absurd g (by decide))
      | (clear g
         go_enter Tryd.func22, Tryd.ntmps22
         go_wp2_with fail
         refine (fold_any _ _ HN.out).mono ?_
         rw [txt_toList, ← HNM.out]
         rintro e w1 ⟨rfl, hb1⟩
         obtain ⟨d5, d22, d3, d23⟩ := HC.out w1 hb1
         go_wp2_with fail
         refine (pre_any _ _ _ HNL.out).mono ?_
         rw [HP1.out]
         rintro e w2 ⟨rfl, rfl⟩
         cases p1
         · go_wp2_with fail
           refine (pre_any _ _ _ HNL.out).mono ?_
           rw [HP2.out]
           rintro e w2 ⟨rfl, rfl⟩
           cases p2
           · go_wp2_with fail
             go_ret
             refine ⟨?_, hb1⟩
             rw [HB2.out]; rfl
           · by_cases k1 : do' = []
             · by_cases k2 : pa = [47]
               · have y1 := nil_t do' k1
                 have y2 : ((txt do').toList != []) = false := by simp only [bne, y1]; rfl
                 have y3 := lit_t pa _ k2
                 have y4 : ((txt pa).toList != [47]) = false := by simp only [bne, y3]; rfl
                 have HB3 : Hid _ := HB2.out
                 rw [k1, k2] at HB3
                 clear k1 k2
                 cases td <;> (go_wp2_with fail; go_ret; refine ⟨?_, hb1⟩; rw [HB3.out]; rfl)
               · have y1 := nil_t do' k1
                 have y2 : ((txt do').toList != []) = false := by simp only [bne, y1]; rfl
                 have y3 := lit_f pa _ k2
                 have y4 : ((txt pa).toList != [47]) = true := by simp only [bne, y3]; rfl
                 have HB3 : Hid _ := HB2.out
                 rw [k1, beq_eq_false_iff_ne.2 k2] at HB3
                 clear k1 k2
                 (go_wp2_with fail; go_ret; refine ⟨?_, hb1⟩; rw [HB3.out]; rfl)
             · have y1 := nil_f do' k1
               have y2 : ((txt do').toList != []) = true := by simp only [bne, y1]; rfl
               have HB3 : Hid _ := HB2.out
               rw [beq_eq_false_iff_ne.2 k1] at HB3
               clear k1
               (go_wp2_with fail; go_ret; refine ⟨?_, hb1⟩; rw [HB3.out]; rfl)
         · go_wp2_with fail
           go_ret
           refine ⟨?_, hb1⟩
           rw [HB2.out]; rfl)
end Go.Proofs.YtgjjkieljdamfafDoor
namespace Go.Proofs.YtgjjkieljdamfafDoor
open Go.RowKit
set_option linter.all false
set_option maxRecDepth 100000

/-- what is not touched by attributes, and how great the rest may grow -/
structure Keeps (m0 m : Mk) : Prop where
  fr : m.fr = m0.fr
  name : m.name = m0.name
  value : m.value = m0.value
  created : m.created = m0.created
  used : m.used = m0.used
  age : -1000000000000 ≤ m.ageN ∧ m.ageN ≤ 1000000000000
  dom : m.dom.length ≤ maxLen
theorem ageV_bd (s : List UInt8) : -1000000000000 ≤ ageV s ∧ ageV s ≤ 1000000000000 := by
  unfold ageV
  have h := ageN_le (ageD s)
  by_cases h1 : (ageD s).all digU = true
  · rw [if_pos h1]
    by_cases h2 : Lib.hasPrefix s [45] = true
    · rw [if_pos h2]; omega
    · rw [if_neg h2]; omega
  · rw [if_neg h1]; omega
theorem cutP_len (s p : List UInt8) : (cutP s p).length ≤ s.length := by
  unfold cutP
  by_cases h : Lib.hasPrefix s p = true
  · rw [if_pos h, List.length_drop]; omega
  · rw [if_neg h]; exact Nat.le_refl _
theorem Keeps.take {m0 m : Mk} (h : Keeps m0 m) (a : Attr) (ha : a.2.length ≤ maxLen) : Keeps m0 (takeM m a) := by
  obtain ⟨h1, h2, h3, h4, h5, h6, h7⟩ := h
  unfold takeM
  by_cases k0 : a.1 = [101, 120, 112, 105, 114, 101, 115]
  · rw [if_pos k0]
    by_cases e : readE a.2 = 0
    · rw [if_pos e]; exact ⟨h1, h2, h3, h4, h5, h6, h7⟩
    · rw [if_neg e]; exact ⟨h1, h2, h3, h4, h5, h6, h7⟩
  rw [if_neg k0]
  by_cases k1 : a.1 = [109, 97, 120, 45, 97, 103, 101]
  · rw [if_pos k1]
    by_cases e : ageB a.2 = true
    · rw [if_pos e]; exact ⟨h1, h2, h3, h4, h5, ageV_bd _, h7⟩
    · rw [if_neg e]; exact ⟨h1, h2, h3, h4, h5, h6, h7⟩
  rw [if_neg k1]
  by_cases k2 : a.1 = [100, 111, 109, 97, 105, 110]
  · rw [if_pos k2]
    by_cases e : cutP a.2 [46] = []
    · rw [if_pos e]; exact ⟨h1, h2, h3, h4, h5, h6, h7⟩
    · rw [if_neg e]; exact ⟨h1, h2, h3, h4, h5, h6, Nat.le_trans (cutP_len _ _) ha⟩
  rw [if_neg k2]
  by_cases k3 : a.1 = [112, 97, 116, 104]
  · rw [if_pos k3]; exact ⟨h1, h2, h3, h4, h5, h6, h7⟩
  rw [if_neg k3]
  by_cases k4 : a.1 = [115, 101, 99, 117, 114, 101]
  · rw [if_pos k4]; exact ⟨h1, h2, h3, h4, h5, h6, h7⟩
  rw [if_neg k4]
  by_cases k5 : a.1 = [104, 116, 116, 112, 111, 110, 108, 121]
  · rw [if_pos k5]; exact ⟨h1, h2, h3, h4, h5, h6, h7⟩
  rw [if_neg k5]
  by_cases k6 : a.1 = [115, 97, 109, 101, 115, 105, 116, 101]
  · rw [if_pos k6]; exact ⟨h1, h2, h3, h4, h5, h6, h7⟩
  rw [if_neg k6]
  exact ⟨h1, h2, h3, h4, h5, h6, h7⟩
theorem Keeps.begin (r : Raw) (f : Fr) (now : Int) : Keeps (beginM r f now) (beginM r f now) := ⟨rfl, rfl, rfl, rfl, rfl, ⟨by show (-1000000000000 : Int) ≤ 0; decide, by show (0 : Int) ≤ 1000000000000; decide⟩, Nat.zero_le _⟩
theorem Keeps.all {m0 : Mk} : ∀ (l : List Attr) (m : Mk), Keeps m0 m → (∀ a ∈ l, a.2.length ≤ maxLen) → Keeps m0 (l.foldl takeM m)
  | [], _, h, _ => h
  | a :: l, m, h, hl => Keeps.all l _ (h.take a (hl a (by simp))) (fun b hb => hl b (by simp [hb]))
theorem takes_snoc (l : List Attr) (k : Nat) (a : Attr) (m : Mk) (h : l[k]? = some a) : (l.take (k + 1)).foldl takeM m = takeM ((l.take k).foldl takeM m) a := by
  obtain ⟨hk, rfl⟩ := List.getElem?_eq_some_iff.1 h
  rw [List.take_succ_eq_append_getElem hk, List.foldl_append]; rfl
theorem exp_keeps (m : Mk) : (expiryM m).fr = m.fr ∧ (expiryM m).name = m.name ∧ (expiryM m).dom = m.dom := ⟨rfl, rfl, rfl⟩
theorem dom_name (l : Rules) (m : Mk) : (domM l m).name = m.name := by
  unfold domM
  by_cases h : domE l m = 0
  · rw [if_pos h]
    cases domOwn l m <;> rfl
  · rw [if_neg h]
def ck0 : List Value := [.string ⟨#[]⟩, .string ⟨#[]⟩, .string ⟨#[]⟩, .string ⟨#[]⟩, .bool false, .bool false, .bool false, .bool false, .int .i64 0, .int .i64 0, .int .i64 0, .int .i64 0, .int .i64 0]
def outL (l : Rules) (r : Raw) (f : Fr) (now : Int) : List Value := if makeE l r f now = 0 then ckL (madeM l r f now) else ck0
end Go.Proofs.YtgjjkieljdamfafDoor
