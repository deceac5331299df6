/- The contract of Make. -/
import Derived.Test.YtgjjkieljdamfafDoorXB
namespace Go.Proofs.YtgjjkieljdamfafDoor
open Go.RowKit
set_option linter.all false
set_option maxRecDepth 100000

theorem LRow.lt5 {W : World} {B : Nat} {a : Value} {l : List Value} (h : LRow W B (a :: l)) : B < W.heap.size := cell_in (h.cell 0 rfl)
theorem LRow.lt13 {W : World} {B : Nat} {a : Value} {l : List Value} (h : LRow W B (a :: l)) : B < W.heap.size := cell_in (h.cell 0 rfl)
theorem rows_mem2 {W : World} {v : Value} {l : Rules} (h : Rows W v sufF l) (b off n cap : Nat) (hv : v = .slice (some ⟨b, off, none⟩) n cap) (hl : l ≠ []) : b < W.heap.size := by
  obtain ⟨a, t, rfl⟩ : ∃ a t, l = a :: t := by
    cases l with
    | nil => exact absurd rfl hl
    | cons a t => exact ⟨a, t, rfl⟩
  obtain ⟨b', off', e, hb, _⟩ := Rows.at h hv 1 sufF_len 0 a rfl
  injection e with e
  injection e with e1 e2 e3
  rw [e1]; exact hb
set_option maxHeartbeats 8000000 in
theorem make_any (v : Value) (l : Rules) (va : Value) (r : Raw) (f : Fr) (now : Int) (w : World) (T : CTabs w) (hl : Rows w v sufF l) (hlm : l.length ≤ maxLen) (hok : ∀ r ∈ l, okR r)
    (hr : Rows w va attrF r.2.2) (hm : r.2.2.length ≤ maxLen) (hn : r.1.length ≤ maxLen) (hv : r.2.1.length ≤ maxLen) (ha : ∀ a ∈ r.2.2, a.1.length ≤ maxLen ∧ a.2.length ≤ maxLen)
    (hh : f.host.length ≤ maxLen) (hp : f.path.length ≤ maxLen) (hnow : -9223372036854775808 ≤ now ∧ now ≤ 9223372036854775807) :
    Calls Tryd.prog 6 #[v, .agg #[.string (txt r.1), .string (txt r.2.1), va], .agg (frL f).toArray, .int .i64 now] w fun e w' => e = .returned (.tuple #[.agg (outL l r f now).toArray, .int .i64 (makeE l r f now)]) ∧ Below w.heap.size w w' := by
  have HT : Hid _ := T
  have HL : Hid (Rows w v sufF l) := hl
  have HLM : Hid _ := hlm
  have HOK : Hid _ := hok
  have HR : Hid (Rows w va attrF r.2.2) := hr
  have HM : Hid _ := hm
  have HN : Hid _ := hn
  have HV : Hid _ := hv
  have HA : Hid _ := ha
  have HH : Hid _ := hh
  have HP : Hid _ := hp
  have HNOW : Hid _ := hnow
  obtain ⟨ad, cap, rfl⟩ := hr.shape
  obtain ⟨adl, capl, rfl⟩ := hl.shape
  clear T hl hlm hok hr hm hn hv ha hh hp hnow
  obtain ⟨R, hR⟩ : ∃ R, R = w.heap.size + 1 + 1 := ⟨_, rfl⟩
  have HRB : Hid (w.heap.size ≤ R) := by show w.heap.size ≤ R; omega
  obtain ⟨W0, hW0⟩ : ∃ W0, W0 = (((w.alloc (.cells #[.string (txt r.1), .string (txt r.2.1), .slice ad r.2.2.length cap] 25)).alloc (.cells #[.string (txt f.host), .string (txt f.path), .bool f.secure, .bool f.script, .bool f.abroad] 27)).alloc (.cells #[.string ⟨#[]⟩, .string ⟨#[]⟩, .string ⟨#[]⟩, .string ⟨#[]⟩, .bool false, .bool false, .bool false, .bool false, .int .i64 0, .int .i64 0, .int .i64 0, .int .i64 0, .int .i64 0] 32)) := ⟨_, rfl⟩
  have X0 : Hid (S3 W0 w.heap.size (.string (txt r.1)) (.string (txt r.2.1)) (.slice ad r.2.2.length cap)) := by
    rw [hW0]
    exact ((S3.new w _ _ _ _).below (A := w.heap.size + 1) ((Below.refl _ _).alloc (by simp) _) (by omega)).below (A := w.heap.size + 1) ((Below.refl _ _).alloc (by simp) _) (by omega)
  have F0 : Hid (LRow W0 (w.heap.size + 1) (frL f)) := by
    rw [hW0]
    have h := LRow.new (w.alloc (.cells #[.string (txt r.1), .string (txt r.2.1), .slice ad r.2.2.length cap] 25)) (frL f) 27
    rw [show (w.alloc (.cells #[.string (txt r.1), .string (txt r.2.1), .slice ad r.2.2.length cap] 25)).heap.size = w.heap.size + 1 from by simp] at h
    exact h.below (A := w.heap.size + 1 + 1) ((Below.refl _ _).alloc (by simp) _) (by omega)
  have Z0 : Hid (LRow W0 R ck0) := by
    rw [hW0, hR]
    have h := LRow.new ((w.alloc (.cells #[.string (txt r.1), .string (txt r.2.1), .slice ad r.2.2.length cap] 25)).alloc (.cells #[.string (txt f.host), .string (txt f.path), .bool f.secure, .bool f.script, .bool f.abroad] 27)) ck0 32
    rw [show ((w.alloc (.cells #[.string (txt r.1), .string (txt r.2.1), .slice ad r.2.2.length cap] 25)).alloc (.cells #[.string (txt f.host), .string (txt f.path), .bool f.secure, .bool f.script, .bool f.abroad] 27)).heap.size = w.heap.size + 1 + 1 from by simp] at h
    exact h
  have B0 : Hid (Below w.heap.size w W0) := by
    rw [hW0]
    exact (((Below.refl _ _).alloc (Nat.le_refl _) _).alloc (by simp) _).alloc (by simp; omega) _
  have HOUT : Hid (∀ z, makeE l r f now = z → z ≠ 0 → outL l r f now = ck0) := fun z h hz => by unfold outL; rw [h, if_neg hz]
  simp only [frL]
  obtain ⟨ee, hee⟩ : ∃ x, x = makeE l r f now := ⟨_, rfl⟩
  obtain ⟨oo, hoo⟩ : ∃ x, x = outL l r f now := ⟨_, rfl⟩
  rw [← hee, ← hoo]
  have HEEQ : Hid _ := hee
  have HOOQ : Hid _ := hoo
  clear hee hoo
  obtain ⟨se, hse⟩ : ∃ x, x = sufE l := ⟨_, rfl⟩
  have HSE : Hid _ := hse
  by_cases k0 : se = 0
  · have HME : Hid (ee = if checkL r = 0 then (if readyE f now = 0 then (if domE l (expiryM (r.2.2.foldl takeM (beginM r f now))) = 0 then (if barM (madeM l r f now) then 8 else 0) else domE l (expiryM (r.2.2.foldl takeM (beginM r f now)))) else readyE f now) else checkL r) := by show _ = _; rw [HEEQ.out]; unfold makeE; rw [← hse, if_pos k0]
    subst k0
    clear hse
    obtain ⟨ce, hce⟩ : ∃ x, x = checkL r := ⟨_, rfl⟩
    have HCE : Hid _ := hce
    by_cases k1 : ce = 0
    · subst k1
      obtain ⟨re, hre⟩ : ∃ x, x = readyE f now := ⟨_, rfl⟩
      have HRE : Hid _ := hre
      by_cases k2 : re = 0
      · subst k2
        have HMOM : Hid (momB now = true) := by
          show _ = _
          have h := hre
          unfold readyE at h
          cases e : momB now
          · rw [e] at h
            by_cases h1 : canB f.host = true
            · rw [if_pos h1] at h
              by_cases h2 : goodP f.path = true
              · rw [if_pos h2] at h; cases h
              · rw [if_neg h2] at h; cases h
            · rw [if_neg h1] at h; cases h
          · rfl
        obtain ⟨de, hde⟩ : ∃ x, x = domE l (expiryM (r.2.2.foldl takeM (beginM r f now))) := ⟨_, rfl⟩
        obtain ⟨ba, hba'⟩ : ∃ x, x = barM (madeM l r f now) := ⟨_, rfl⟩
        have HMF : Hid (ee = if de = 0 then (if ba then 8 else 0) else de) := by show _ = _; rw [HME.out, ← hce, if_pos rfl, ← hre, if_pos rfl, ← hde, ← hba']
        have HDQ : Hid (∀ mm m0 : Mk, mm = r.2.2.foldl takeM m0 → m0 = beginM r f now → domE l (expiryM mm) = de) := fun mm m0 h1 h2 => by rw [h1, h2]; exact hde.symm
        have HBQ : Hid (∀ mm m0 : Mk, mm = r.2.2.foldl takeM m0 → m0 = beginM r f now → barM (domM l (expiryM mm)) = ba) := fun mm m0 h1 h2 => by rw [h1, h2]; exact hba'.symm
        have HOQ : Hid (∀ mm m0 : Mk, mm = r.2.2.foldl takeM m0 → m0 = beginM r f now → madeM l r f now = domM l (expiryM mm)) := fun mm m0 h1 h2 => by rw [h1, h2]; rfl
        clear hce hre hde hba'
        by_cases k3 : de = 0
        · subst k3
          cases ba
          · have HEE : Hid (ee = 0) := by show _ = _; rw [HMF.out, if_pos rfl]; rfl
            have HOO : Hid (oo = ckL (madeM l r f now)) := by show _ = _; rw [HOOQ.out]; unfold outL; rw [← HEEQ.out, HEE.out, if_pos rfl]
            go_enter Tryd.func6, Tryd.ntmps6
            go_wp2_with fail
            rw [← hW0, ← hR]
            clear hW0 hR
            refine (check_any _ l _ (Rows.below HL.out B0.out (Nat.le_refl _)) HLM.out HOK.out).mono ?_
            rw [← HSE.out]
            rintro e w1 ⟨rfl, hb1⟩
            have X1 : Hid _ := X0.out.below hb1 X0.out.lt
            have F1 : Hid _ := F0.out.below hb1 (LRow.lt5 F0.out)
            have Z1 : Hid _ := Z0.out.below hb1 (LRow.lt13 Z0.out)
            have B1 : Hid _ := next B0.out hb1
            have x0 := X1.out.c0
            have x1 := X1.out.c1
            have x2 := X1.out.c2
            go_wp2_with fail
            refine (hCheck_any _ r _ (Rows.below HR.out B1.out (Nat.le_refl _)) HM.out HN.out HV.out HA.out).mono ?_
            rw [← HCE.out]
            rintro e w2 ⟨rfl, hb2⟩
            have X2 : Hid _ := X1.out.below hb2 X1.out.lt
            have F2 : Hid _ := F1.out.below hb2 (LRow.lt5 F1.out)
            have Z2 : Hid _ := Z1.out.below hb2 (LRow.lt13 Z1.out)
            have B2 : Hid _ := next B1.out hb2
            clear x0 x1 x2
            have y0 := F2.out.cell 0 rfl
            have y1 := F2.out.cell 1 rfl
            have y2 := F2.out.cell 2 rfl
            have y3 := F2.out.cell 3 rfl
            have y4 := F2.out.cell 4 rfl
            go_wp2_with fail
            refine (ready_any f now _ HH.out HP.out HNOW.out).mono ?_
            rw [← HRE.out]
            rintro e w3 ⟨rfl, hb3⟩
            have X3 : Hid _ := X2.out.below hb3 X2.out.lt
            have F3 : Hid _ := F2.out.below hb3 (LRow.lt5 F2.out)
            have Z3 : Hid _ := Z2.out.below hb3 (LRow.lt13 Z2.out)
            have B3 : Hid _ := next B2.out hb3
            clear y0 y1 y2 y3 y4
            have y0 := F3.out.cell 0 rfl
            have y1 := F3.out.cell 1 rfl
            have y2 := F3.out.cell 2 rfl
            have y3 := F3.out.cell 3 rfl
            have y4 := F3.out.cell 4 rfl
            have x0 := X3.out.c0
            have x1 := X3.out.c1
            have x2 := X3.out.c2
            go_wp2_with fail
            refine (begin_any _ r f now _ HP.out ⟨_, _, _, rfl⟩).mono ?_
            rintro e w4 ⟨B, rfl, L4, hwB, hb4⟩
            have L4 : Hid _ := L4
            have X4 : Hid _ := X3.out.below hb4 X3.out.lt
            have F4 : Hid _ := F3.out.below hb4 (LRow.lt5 F3.out)
            have Z4 : Hid _ := Z3.out.below hb4 (LRow.lt13 Z3.out)
            have B4 : Hid _ := next B3.out hb4
            have hRB : R < B := Nat.lt_of_lt_of_le (LRow.lt13 Z3.out) hwB
            have hXB : w.heap.size < B := Nat.lt_of_lt_of_le X3.out.lt hwB
            have HXB : Hid _ := hXB
            have HRBB : Hid _ := hRB
            clear y0 y1 y2 y3 y4 x0 x1 x2 hb1 hb2 hb3 hb4
            obtain ⟨m, hmm⟩ : ∃ x, x = r.2.2.length := ⟨_, rfl⟩
            have HMM : Hid _ := hmm
            have hml : m ≤ 9223372036854775807 := by rw [hmm]; exact HM.out
            have x2 : w4.cell? ⟨w.heap.size, 2, none⟩ = some (.slice ad m cap) := by rw [hmm]; exact X4.out.c2
            have HRm : Hid (Rows w (.slice ad m cap) attrF r.2.2) := by rw [hmm]; exact HR.out
            clear hmm
            obtain ⟨m0, hm0⟩ : ∃ x, x = beginM r f now := ⟨_, rfl⟩
            have HM0 : Hid _ := hm0
            have L4 : Hid (LRow w4 B (mkL m0)) := by rw [hm0]; exact L4.out
            have HK0 : Hid (Keeps m0 m0) := by rw [hm0]; exact Keeps.begin r f now
            clear hm0
            go_wp2_with fail
            go_loopw [43] (fun i wr => ∃ k : Nat, k ≤ m ∧ i = .int .i64 k ∧ Below B w4 wr ∧ Hid (LRow wr B (mkL ((r.2.2.take k).foldl takeM m0)))) (fun i _ => m - (intOf i).toNat)
            case atStart => exact ⟨0, Nat.zero_le _, rfl, Below.refl _ _, by rw [List.take_zero]; exact L4.out⟩
            case round =>
              obtain ⟨k, hk, rfl, hb, LK⟩ := hrel
              have BK : Hid (Below w.heap.size w wr) := B4.out.trans (hb.mono (Nat.le_of_lt hXB))
              have hBl : B < wr.heap.size := cell_in (LK.out.cell 0 rfl)
              by_cases hlt : k < m
              · obtain ⟨⟨an, av⟩, hak⟩ : ∃ a, r.2.2[k]? = some a := ⟨_, List.getElem?_eq_getElem (by rw [← HMM.out]; exact hlt)⟩
                obtain ⟨b, off, rfl, hbl, hcl⟩ := Rows.at HRm.out rfl 1 attrF_len k _ hak
                have d0 := (BK.out.cell (p := ⟨b, off + k * 2 + 0, none⟩) hbl).trans (hcl 0 _ rfl)
                have d1 := (BK.out.cell (p := ⟨b, off + k * 2 + 1, none⟩) hbl).trans (hcl 1 _ rfl)
                rw [Nat.add_zero] at d0
                have HAV : Hid (av.length ≤ maxLen) := (HA.out _ (List.mem_of_getElem? hak)).2
                have HSN : Hid _ := takes_snoc _ _ _ m0 hak
                have HKK : Hid (Keeps m0 ((r.2.2.take k).foldl takeM m0)) := Keeps.all _ _ HK0.out (fun a ha => (HA.out a (List.mem_of_mem_take ha)).2)
                obtain ⟨mk, hmk⟩ : ∃ x, x = (r.2.2.take k).foldl takeM m0 := ⟨_, rfl⟩
                rw [← hmk] at LK HSN HKK
                have HFP : Hid (mk.fr.path.length ≤ maxLen) := by rw [HKK.out.fr, HM0.out]; exact HP.out
                have hxa : Below wr.heap.size wr (wr.alloc (.cells #[.string (txt an), .string (txt av)] 29)) := (Below.refl _ _).alloc (Nat.le_refl _) _
                have TK : Hid (CTabs (wr.alloc (.cells #[.string (txt an), .string (txt av)] 29))) := (HT.out.below BK.out (Nat.le_refl _)).below hxa (Nat.le_refl _)
                have LKa : Hid (LRow (wr.alloc (.cells #[.string (txt an), .string (txt av)] 29)) B (mkL mk)) := LK.out.below hxa hBl
                have hba : Below B w4 (wr.alloc (.cells #[.string (txt an), .string (txt av)] 29)) := hb.trans (hxa.mono (Nat.le_of_lt hBl))
                clear hak hcl hmk
                go_wp2_with fail
                refine (ctake_any mk B (an, av) _ LKa.out TK.out HAV.out HFP.out).mono ?_
                rintro e w5 ⟨⟨_, rfl⟩, L5, hb5⟩
                go_wp2_with fail
                go_roundw
                case rel => exact ⟨k + 1, by omega, by go_num, hba.trans hb5, by rw [HSN.out]; exact L5⟩
                case measure => simp [intOf]; omega
              · have HTK : Hid (r.2.2.take k = r.2.2) := List.take_of_length_le (by rw [← HMM.out]; omega)
                rw [HTK.out] at LK
                have HKK : Hid (Keeps m0 (r.2.2.foldl takeM m0)) := Keeps.all _ _ HK0.out (fun a ha => (HA.out a ha).2)
                obtain ⟨mm, hmk⟩ : ∃ x, x = r.2.2.foldl takeM m0 := ⟨_, rfl⟩
                rw [← hmk] at LK HKK
                have HMK : Hid _ := hmk
                have HCR : Hid (momB mm.created = true) := by rw [HKK.out.created, HM0.out]; exact HMOM.out
                have HAG : Hid (-9223372036854775808 ≤ mm.ageN ∧ mm.ageN ≤ 9223372036854775807) := by have := HKK.out.age; show _ ∧ _; omega
                have ZK : Hid (LRow wr R ck0) := Z4.out.below hb hRB
                clear hmk
                go_wp2_with fail
                refine (setExpiry_any mm B _ LK.out HCR.out HAG.out).mono ?_
                rintro e w5 ⟨⟨_, rfl⟩, L5, hb5⟩
                have L5 : Hid _ := L5
                have B5 : Hid (Below w.heap.size w w5) := BK.out.trans (hb5.mono (Nat.le_of_lt hXB))
                have Z5 : Hid (LRow w5 R ck0) := ZK.out.below hb5 hRB
                have HMEM : Hid (∀ b off n cap', Value.slice adl l.length capl = .slice (some ⟨b, off, none⟩) n cap' → l ≠ [] → b < B) := fun b off n cap' hv hne => Nat.lt_trans (rows_mem2 HL.out b off n cap' hv hne) hXB
                have HDL : Hid ((expiryM mm).dom.length ≤ maxLen) := HKK.out.dom
                have HHL : Hid ((expiryM mm).fr.host.length ≤ maxLen) := by show mm.fr.host.length ≤ maxLen; rw [HKK.out.fr, HM0.out]; exact HH.out
                clear hb hb5
                go_wp2_with fail
                refine (setDomain_any _ l (expiryM mm) B _ (Rows.below HL.out B5.out (Nat.le_refl _)) HLM.out HOK.out HMEM.out L5.out HDL.out HHL.out).mono ?_
                rw [HDQ.out mm _ HMK.out HM0.out]
                rintro e w6 ⟨rfl, L6, hb6⟩
                have L6 : Hid _ := L6
                have B6 : Hid (Below w.heap.size w w6) := B5.out.trans (hb6.mono (Nat.le_of_lt hXB))
                have Z6 : Hid (LRow w6 R ck0) := Z5.out.below hb6 hRB
                have hBl6 : B < w6.heap.size := cell_in (L6.out.cell 0 rfl)
                have HNL : Hid ((domM l (expiryM mm)).name.length ≤ maxLen) := by rw [dom_name]; show mm.name.length ≤ maxLen; rw [HKK.out.name, HM0.out]; exact HN.out
                clear hb6
                go_wp2_with fail
                refine (barred_m (domM l (expiryM mm)) B _ L6.out HNL.out).mono ?_
                rw [HBQ.out mm _ HMK.out HM0.out]
                rintro e w7 ⟨rfl, hb7⟩
                have B7 : Hid (Below w.heap.size w w7) := next B6.out hb7
                have Z7 : Hid (LRow w7 R ck0) := Z6.out.below hb7 (LRow.lt13 Z6.out)
                have L7 : Hid _ := L6.out.below hb7 hBl6
                clear hb7
                have c0 := Z7.out.cell 0 rfl
                have g0 := Z7.out.frozen 0 rfl
                have c1 := Z7.out.cell 1 rfl
                have g1 := Z7.out.frozen 1 rfl
                have c2 := Z7.out.cell 2 rfl
                have g2 := Z7.out.frozen 2 rfl
                have c3 := Z7.out.cell 3 rfl
                have g3 := Z7.out.frozen 3 rfl
                have c4 := Z7.out.cell 4 rfl
                have g4 := Z7.out.frozen 4 rfl
                have c5 := Z7.out.cell 5 rfl
                have g5 := Z7.out.frozen 5 rfl
                have c6 := Z7.out.cell 6 rfl
                have g6 := Z7.out.frozen 6 rfl
                have c7 := Z7.out.cell 7 rfl
                have g7 := Z7.out.frozen 7 rfl
                have c8 := Z7.out.cell 8 rfl
                have g8 := Z7.out.frozen 8 rfl
                have c9 := Z7.out.cell 9 rfl
                have g9 := Z7.out.frozen 9 rfl
                have c10 := Z7.out.cell 10 rfl
                have g10 := Z7.out.frozen 10 rfl
                have c11 := Z7.out.cell 11 rfl
                have g11 := Z7.out.frozen 11 rfl
                have c12 := Z7.out.cell 12 rfl
                have g12 := Z7.out.frozen 12 rfl
                have p0 := L7.out.cell 0 rfl
                have q0 := L7.out.frozen 0 rfl
                have p1 := L7.out.cell 1 rfl
                have q1 := L7.out.frozen 1 rfl
                have p2 := L7.out.cell 2 rfl
                have q2 := L7.out.frozen 2 rfl
                have p3 := L7.out.cell 3 rfl
                have q3 := L7.out.frozen 3 rfl
                have p4 := L7.out.cell 4 rfl
                have q4 := L7.out.frozen 4 rfl
                have p5 := L7.out.cell 5 rfl
                have q5 := L7.out.frozen 5 rfl
                have p6 := L7.out.cell 6 rfl
                have q6 := L7.out.frozen 6 rfl
                have p7 := L7.out.cell 7 rfl
                have q7 := L7.out.frozen 7 rfl
                have p8 := L7.out.cell 8 rfl
                have q8 := L7.out.frozen 8 rfl
                have p9 := L7.out.cell 9 rfl
                have q9 := L7.out.frozen 9 rfl
                have p10 := L7.out.cell 10 rfl
                have q10 := L7.out.frozen 10 rfl
                have p11 := L7.out.cell 11 rfl
                have q11 := L7.out.frozen 11 rfl
                have p12 := L7.out.cell 12 rfl
                have q12 := L7.out.frozen 12 rfl
                go_wp2_with fail
                have RR : LRow _ R (ckL (domM l (expiryM mm))) := (((((((((((((Z7.out.set 0 _).set 1 _).set 2 _).set 3 _).set 4 _).set 5 _).set 6 _).set 7 _).set 8 _).set 9 _).set 10 _).set 11 _).set 12 _)
                exact bodyPost_ret (v := .tuple #[.agg (ckL (domM l (expiryM mm))).toArray, .int .i64 0]) (by simp [results, Tryd.results6, go_sem, RR.cell 0 rfl, RR.cell 1 rfl, RR.cell 2 rfl, RR.cell 3 rfl, RR.cell 4 rfl, RR.cell 5 rfl, RR.cell 6 rfl, RR.cell 7 rfl, RR.cell 8 rfl, RR.cell 9 rfl, RR.cell 10 rfl, RR.cell 11 rfl, RR.cell 12 rfl]; rfl) rfl ⟨by rw [HOO.out, HEE.out, HOQ.out mm _ HMK.out HM0.out], (((((((((((((B7.out.setCell HRB.out _).setCell HRB.out _).setCell HRB.out _).setCell HRB.out _).setCell HRB.out _).setCell HRB.out _).setCell HRB.out _).setCell HRB.out _).setCell HRB.out _).setCell HRB.out _).setCell HRB.out _).setCell HRB.out _).setCell HRB.out _)⟩
          · have HEE : Hid (ee = 8) := by show _ = _; rw [HMF.out, if_pos rfl]; rfl
            have HOO : Hid (oo = ck0) := by show _ = _; rw [HOOQ.out]; exact HOUT.out 8 (by rw [← HEEQ.out, HEE.out]) (by decide)
            go_enter Tryd.func6, Tryd.ntmps6
            go_wp2_with fail
            rw [← hW0, ← hR]
            clear hW0 hR
            refine (check_any _ l _ (Rows.below HL.out B0.out (Nat.le_refl _)) HLM.out HOK.out).mono ?_
            rw [← HSE.out]
            rintro e w1 ⟨rfl, hb1⟩
            have X1 : Hid _ := X0.out.below hb1 X0.out.lt
            have F1 : Hid _ := F0.out.below hb1 (LRow.lt5 F0.out)
            have Z1 : Hid _ := Z0.out.below hb1 (LRow.lt13 Z0.out)
            have B1 : Hid _ := next B0.out hb1
            have x0 := X1.out.c0
            have x1 := X1.out.c1
            have x2 := X1.out.c2
            go_wp2_with fail
            refine (hCheck_any _ r _ (Rows.below HR.out B1.out (Nat.le_refl _)) HM.out HN.out HV.out HA.out).mono ?_
            rw [← HCE.out]
            rintro e w2 ⟨rfl, hb2⟩
            have X2 : Hid _ := X1.out.below hb2 X1.out.lt
            have F2 : Hid _ := F1.out.below hb2 (LRow.lt5 F1.out)
            have Z2 : Hid _ := Z1.out.below hb2 (LRow.lt13 Z1.out)
            have B2 : Hid _ := next B1.out hb2
            clear x0 x1 x2
            have y0 := F2.out.cell 0 rfl
            have y1 := F2.out.cell 1 rfl
            have y2 := F2.out.cell 2 rfl
            have y3 := F2.out.cell 3 rfl
            have y4 := F2.out.cell 4 rfl
            go_wp2_with fail
            refine (ready_any f now _ HH.out HP.out HNOW.out).mono ?_
            rw [← HRE.out]
            rintro e w3 ⟨rfl, hb3⟩
            have X3 : Hid _ := X2.out.below hb3 X2.out.lt
            have F3 : Hid _ := F2.out.below hb3 (LRow.lt5 F2.out)
            have Z3 : Hid _ := Z2.out.below hb3 (LRow.lt13 Z2.out)
            have B3 : Hid _ := next B2.out hb3
            clear y0 y1 y2 y3 y4
            have y0 := F3.out.cell 0 rfl
            have y1 := F3.out.cell 1 rfl
            have y2 := F3.out.cell 2 rfl
            have y3 := F3.out.cell 3 rfl
            have y4 := F3.out.cell 4 rfl
            have x0 := X3.out.c0
            have x1 := X3.out.c1
            have x2 := X3.out.c2
            go_wp2_with fail
            refine (begin_any _ r f now _ HP.out ⟨_, _, _, rfl⟩).mono ?_
            rintro e w4 ⟨B, rfl, L4, hwB, hb4⟩
            have L4 : Hid _ := L4
            have X4 : Hid _ := X3.out.below hb4 X3.out.lt
            have F4 : Hid _ := F3.out.below hb4 (LRow.lt5 F3.out)
            have Z4 : Hid _ := Z3.out.below hb4 (LRow.lt13 Z3.out)
            have B4 : Hid _ := next B3.out hb4
            have hRB : R < B := Nat.lt_of_lt_of_le (LRow.lt13 Z3.out) hwB
            have hXB : w.heap.size < B := Nat.lt_of_lt_of_le X3.out.lt hwB
            have HXB : Hid _ := hXB
            have HRBB : Hid _ := hRB
            clear y0 y1 y2 y3 y4 x0 x1 x2 hb1 hb2 hb3 hb4
            obtain ⟨m, hmm⟩ : ∃ x, x = r.2.2.length := ⟨_, rfl⟩
            have HMM : Hid _ := hmm
            have hml : m ≤ 9223372036854775807 := by rw [hmm]; exact HM.out
            have x2 : w4.cell? ⟨w.heap.size, 2, none⟩ = some (.slice ad m cap) := by rw [hmm]; exact X4.out.c2
            have HRm : Hid (Rows w (.slice ad m cap) attrF r.2.2) := by rw [hmm]; exact HR.out
            clear hmm
            obtain ⟨m0, hm0⟩ : ∃ x, x = beginM r f now := ⟨_, rfl⟩
            have HM0 : Hid _ := hm0
            have L4 : Hid (LRow w4 B (mkL m0)) := by rw [hm0]; exact L4.out
            have HK0 : Hid (Keeps m0 m0) := by rw [hm0]; exact Keeps.begin r f now
            clear hm0
            go_wp2_with fail
            go_loopw [43] (fun i wr => ∃ k : Nat, k ≤ m ∧ i = .int .i64 k ∧ Below B w4 wr ∧ Hid (LRow wr B (mkL ((r.2.2.take k).foldl takeM m0)))) (fun i _ => m - (intOf i).toNat)
            case atStart => exact ⟨0, Nat.zero_le _, rfl, Below.refl _ _, by rw [List.take_zero]; exact L4.out⟩
            case round =>
              obtain ⟨k, hk, rfl, hb, LK⟩ := hrel
              have BK : Hid (Below w.heap.size w wr) := B4.out.trans (hb.mono (Nat.le_of_lt hXB))
              have hBl : B < wr.heap.size := cell_in (LK.out.cell 0 rfl)
              by_cases hlt : k < m
              · obtain ⟨⟨an, av⟩, hak⟩ : ∃ a, r.2.2[k]? = some a := ⟨_, List.getElem?_eq_getElem (by rw [← HMM.out]; exact hlt)⟩
                obtain ⟨b, off, rfl, hbl, hcl⟩ := Rows.at HRm.out rfl 1 attrF_len k _ hak
                have d0 := (BK.out.cell (p := ⟨b, off + k * 2 + 0, none⟩) hbl).trans (hcl 0 _ rfl)
                have d1 := (BK.out.cell (p := ⟨b, off + k * 2 + 1, none⟩) hbl).trans (hcl 1 _ rfl)
                rw [Nat.add_zero] at d0
                have HAV : Hid (av.length ≤ maxLen) := (HA.out _ (List.mem_of_getElem? hak)).2
                have HSN : Hid _ := takes_snoc _ _ _ m0 hak
                have HKK : Hid (Keeps m0 ((r.2.2.take k).foldl takeM m0)) := Keeps.all _ _ HK0.out (fun a ha => (HA.out a (List.mem_of_mem_take ha)).2)
                obtain ⟨mk, hmk⟩ : ∃ x, x = (r.2.2.take k).foldl takeM m0 := ⟨_, rfl⟩
                rw [← hmk] at LK HSN HKK
                have HFP : Hid (mk.fr.path.length ≤ maxLen) := by rw [HKK.out.fr, HM0.out]; exact HP.out
                have hxa : Below wr.heap.size wr (wr.alloc (.cells #[.string (txt an), .string (txt av)] 29)) := (Below.refl _ _).alloc (Nat.le_refl _) _
                have TK : Hid (CTabs (wr.alloc (.cells #[.string (txt an), .string (txt av)] 29))) := (HT.out.below BK.out (Nat.le_refl _)).below hxa (Nat.le_refl _)
                have LKa : Hid (LRow (wr.alloc (.cells #[.string (txt an), .string (txt av)] 29)) B (mkL mk)) := LK.out.below hxa hBl
                have hba : Below B w4 (wr.alloc (.cells #[.string (txt an), .string (txt av)] 29)) := hb.trans (hxa.mono (Nat.le_of_lt hBl))
                clear hak hcl hmk
                go_wp2_with fail
                refine (ctake_any mk B (an, av) _ LKa.out TK.out HAV.out HFP.out).mono ?_
                rintro e w5 ⟨⟨_, rfl⟩, L5, hb5⟩
                go_wp2_with fail
                go_roundw
                case rel => exact ⟨k + 1, by omega, by go_num, hba.trans hb5, by rw [HSN.out]; exact L5⟩
                case measure => simp [intOf]; omega
              · have HTK : Hid (r.2.2.take k = r.2.2) := List.take_of_length_le (by rw [← HMM.out]; omega)
                rw [HTK.out] at LK
                have HKK : Hid (Keeps m0 (r.2.2.foldl takeM m0)) := Keeps.all _ _ HK0.out (fun a ha => (HA.out a ha).2)
                obtain ⟨mm, hmk⟩ : ∃ x, x = r.2.2.foldl takeM m0 := ⟨_, rfl⟩
                rw [← hmk] at LK HKK
                have HMK : Hid _ := hmk
                have HCR : Hid (momB mm.created = true) := by rw [HKK.out.created, HM0.out]; exact HMOM.out
                have HAG : Hid (-9223372036854775808 ≤ mm.ageN ∧ mm.ageN ≤ 9223372036854775807) := by have := HKK.out.age; show _ ∧ _; omega
                have ZK : Hid (LRow wr R ck0) := Z4.out.below hb hRB
                clear hmk
                go_wp2_with fail
                refine (setExpiry_any mm B _ LK.out HCR.out HAG.out).mono ?_
                rintro e w5 ⟨⟨_, rfl⟩, L5, hb5⟩
                have L5 : Hid _ := L5
                have B5 : Hid (Below w.heap.size w w5) := BK.out.trans (hb5.mono (Nat.le_of_lt hXB))
                have Z5 : Hid (LRow w5 R ck0) := ZK.out.below hb5 hRB
                have HMEM : Hid (∀ b off n cap', Value.slice adl l.length capl = .slice (some ⟨b, off, none⟩) n cap' → l ≠ [] → b < B) := fun b off n cap' hv hne => Nat.lt_trans (rows_mem2 HL.out b off n cap' hv hne) hXB
                have HDL : Hid ((expiryM mm).dom.length ≤ maxLen) := HKK.out.dom
                have HHL : Hid ((expiryM mm).fr.host.length ≤ maxLen) := by show mm.fr.host.length ≤ maxLen; rw [HKK.out.fr, HM0.out]; exact HH.out
                clear hb hb5
                go_wp2_with fail
                refine (setDomain_any _ l (expiryM mm) B _ (Rows.below HL.out B5.out (Nat.le_refl _)) HLM.out HOK.out HMEM.out L5.out HDL.out HHL.out).mono ?_
                rw [HDQ.out mm _ HMK.out HM0.out]
                rintro e w6 ⟨rfl, L6, hb6⟩
                have L6 : Hid _ := L6
                have B6 : Hid (Below w.heap.size w w6) := B5.out.trans (hb6.mono (Nat.le_of_lt hXB))
                have Z6 : Hid (LRow w6 R ck0) := Z5.out.below hb6 hRB
                have hBl6 : B < w6.heap.size := cell_in (L6.out.cell 0 rfl)
                have HNL : Hid ((domM l (expiryM mm)).name.length ≤ maxLen) := by rw [dom_name]; show mm.name.length ≤ maxLen; rw [HKK.out.name, HM0.out]; exact HN.out
                clear hb6
                go_wp2_with fail
                refine (barred_m (domM l (expiryM mm)) B _ L6.out HNL.out).mono ?_
                rw [HBQ.out mm _ HMK.out HM0.out]
                rintro e w7 ⟨rfl, hb7⟩
                have B7 : Hid (Below w.heap.size w w7) := next B6.out hb7
                have Z7 : Hid (LRow w7 R ck0) := Z6.out.below hb7 (LRow.lt13 Z6.out)
                have L7 : Hid _ := L6.out.below hb7 hBl6
                clear hb7
                have c0 := Z7.out.cell 0 rfl
                have g0 := Z7.out.frozen 0 rfl
                have c1 := Z7.out.cell 1 rfl
                have g1 := Z7.out.frozen 1 rfl
                have c2 := Z7.out.cell 2 rfl
                have g2 := Z7.out.frozen 2 rfl
                have c3 := Z7.out.cell 3 rfl
                have g3 := Z7.out.frozen 3 rfl
                have c4 := Z7.out.cell 4 rfl
                have g4 := Z7.out.frozen 4 rfl
                have c5 := Z7.out.cell 5 rfl
                have g5 := Z7.out.frozen 5 rfl
                have c6 := Z7.out.cell 6 rfl
                have g6 := Z7.out.frozen 6 rfl
                have c7 := Z7.out.cell 7 rfl
                have g7 := Z7.out.frozen 7 rfl
                have c8 := Z7.out.cell 8 rfl
                have g8 := Z7.out.frozen 8 rfl
                have c9 := Z7.out.cell 9 rfl
                have g9 := Z7.out.frozen 9 rfl
                have c10 := Z7.out.cell 10 rfl
                have g10 := Z7.out.frozen 10 rfl
                have c11 := Z7.out.cell 11 rfl
                have g11 := Z7.out.frozen 11 rfl
                have c12 := Z7.out.cell 12 rfl
                have g12 := Z7.out.frozen 12 rfl
                go_wp2_with fail
                have RR : LRow _ R ck0 := (((((((((((((Z7.out.set 0 _).set 1 _).set 2 _).set 3 _).set 4 _).set 5 _).set 6 _).set 7 _).set 8 _).set 9 _).set 10 _).set 11 _).set 12 _)
                exact bodyPost_ret (v := .tuple #[.agg ck0.toArray, .int .i64 8]) (by simp [results, Tryd.results6, go_sem, RR.cell 0 rfl, RR.cell 1 rfl, RR.cell 2 rfl, RR.cell 3 rfl, RR.cell 4 rfl, RR.cell 5 rfl, RR.cell 6 rfl, RR.cell 7 rfl, RR.cell 8 rfl, RR.cell 9 rfl, RR.cell 10 rfl, RR.cell 11 rfl, RR.cell 12 rfl]; rfl) rfl ⟨by rw [HOO.out, HEE.out], (((((((((((((B7.out.setCell HRB.out _).setCell HRB.out _).setCell HRB.out _).setCell HRB.out _).setCell HRB.out _).setCell HRB.out _).setCell HRB.out _).setCell HRB.out _).setCell HRB.out _).setCell HRB.out _).setCell HRB.out _).setCell HRB.out _).setCell HRB.out _)⟩
        · have HEE : Hid (ee = de) := by show _ = _; rw [HMF.out, if_neg k3]
          have HOO : Hid (oo = ck0) := by show _ = _; rw [HOOQ.out]; exact HOUT.out de (by rw [← HEEQ.out, HEE.out]) k3
          have hne : (de != 0) = true := by rw [bne_iff_ne]; exact k3
          clear k3
          go_enter Tryd.func6, Tryd.ntmps6
          go_wp2_with fail
          rw [← hW0, ← hR]
          clear hW0 hR
          refine (check_any _ l _ (Rows.below HL.out B0.out (Nat.le_refl _)) HLM.out HOK.out).mono ?_
          rw [← HSE.out]
          rintro e w1 ⟨rfl, hb1⟩
          have X1 : Hid _ := X0.out.below hb1 X0.out.lt
          have F1 : Hid _ := F0.out.below hb1 (LRow.lt5 F0.out)
          have Z1 : Hid _ := Z0.out.below hb1 (LRow.lt13 Z0.out)
          have B1 : Hid _ := next B0.out hb1
          have x0 := X1.out.c0
          have x1 := X1.out.c1
          have x2 := X1.out.c2
          go_wp2_with fail
          refine (hCheck_any _ r _ (Rows.below HR.out B1.out (Nat.le_refl _)) HM.out HN.out HV.out HA.out).mono ?_
          rw [← HCE.out]
          rintro e w2 ⟨rfl, hb2⟩
          have X2 : Hid _ := X1.out.below hb2 X1.out.lt
          have F2 : Hid _ := F1.out.below hb2 (LRow.lt5 F1.out)
          have Z2 : Hid _ := Z1.out.below hb2 (LRow.lt13 Z1.out)
          have B2 : Hid _ := next B1.out hb2
          clear x0 x1 x2
          have y0 := F2.out.cell 0 rfl
          have y1 := F2.out.cell 1 rfl
          have y2 := F2.out.cell 2 rfl
          have y3 := F2.out.cell 3 rfl
          have y4 := F2.out.cell 4 rfl
          go_wp2_with fail
          refine (ready_any f now _ HH.out HP.out HNOW.out).mono ?_
          rw [← HRE.out]
          rintro e w3 ⟨rfl, hb3⟩
          have X3 : Hid _ := X2.out.below hb3 X2.out.lt
          have F3 : Hid _ := F2.out.below hb3 (LRow.lt5 F2.out)
          have Z3 : Hid _ := Z2.out.below hb3 (LRow.lt13 Z2.out)
          have B3 : Hid _ := next B2.out hb3
          clear y0 y1 y2 y3 y4
          have y0 := F3.out.cell 0 rfl
          have y1 := F3.out.cell 1 rfl
          have y2 := F3.out.cell 2 rfl
          have y3 := F3.out.cell 3 rfl
          have y4 := F3.out.cell 4 rfl
          have x0 := X3.out.c0
          have x1 := X3.out.c1
          have x2 := X3.out.c2
          go_wp2_with fail
          refine (begin_any _ r f now _ HP.out ⟨_, _, _, rfl⟩).mono ?_
          rintro e w4 ⟨B, rfl, L4, hwB, hb4⟩
          have L4 : Hid _ := L4
          have X4 : Hid _ := X3.out.below hb4 X3.out.lt
          have F4 : Hid _ := F3.out.below hb4 (LRow.lt5 F3.out)
          have Z4 : Hid _ := Z3.out.below hb4 (LRow.lt13 Z3.out)
          have B4 : Hid _ := next B3.out hb4
          have hRB : R < B := Nat.lt_of_lt_of_le (LRow.lt13 Z3.out) hwB
          have hXB : w.heap.size < B := Nat.lt_of_lt_of_le X3.out.lt hwB
          have HXB : Hid _ := hXB
          have HRBB : Hid _ := hRB
          clear y0 y1 y2 y3 y4 x0 x1 x2 hb1 hb2 hb3 hb4
          obtain ⟨m, hmm⟩ : ∃ x, x = r.2.2.length := ⟨_, rfl⟩
          have HMM : Hid _ := hmm
          have hml : m ≤ 9223372036854775807 := by rw [hmm]; exact HM.out
          have x2 : w4.cell? ⟨w.heap.size, 2, none⟩ = some (.slice ad m cap) := by rw [hmm]; exact X4.out.c2
          have HRm : Hid (Rows w (.slice ad m cap) attrF r.2.2) := by rw [hmm]; exact HR.out
          clear hmm
          obtain ⟨m0, hm0⟩ : ∃ x, x = beginM r f now := ⟨_, rfl⟩
          have HM0 : Hid _ := hm0
          have L4 : Hid (LRow w4 B (mkL m0)) := by rw [hm0]; exact L4.out
          have HK0 : Hid (Keeps m0 m0) := by rw [hm0]; exact Keeps.begin r f now
          clear hm0
          go_wp2_with fail
          go_loopw [43] (fun i wr => ∃ k : Nat, k ≤ m ∧ i = .int .i64 k ∧ Below B w4 wr ∧ Hid (LRow wr B (mkL ((r.2.2.take k).foldl takeM m0)))) (fun i _ => m - (intOf i).toNat)
          case atStart => exact ⟨0, Nat.zero_le _, rfl, Below.refl _ _, by rw [List.take_zero]; exact L4.out⟩
          case round =>
            obtain ⟨k, hk, rfl, hb, LK⟩ := hrel
            have BK : Hid (Below w.heap.size w wr) := B4.out.trans (hb.mono (Nat.le_of_lt hXB))
            have hBl : B < wr.heap.size := cell_in (LK.out.cell 0 rfl)
            by_cases hlt : k < m
            · obtain ⟨⟨an, av⟩, hak⟩ : ∃ a, r.2.2[k]? = some a := ⟨_, List.getElem?_eq_getElem (by rw [← HMM.out]; exact hlt)⟩
              obtain ⟨b, off, rfl, hbl, hcl⟩ := Rows.at HRm.out rfl 1 attrF_len k _ hak
              have d0 := (BK.out.cell (p := ⟨b, off + k * 2 + 0, none⟩) hbl).trans (hcl 0 _ rfl)
              have d1 := (BK.out.cell (p := ⟨b, off + k * 2 + 1, none⟩) hbl).trans (hcl 1 _ rfl)
              rw [Nat.add_zero] at d0
              have HAV : Hid (av.length ≤ maxLen) := (HA.out _ (List.mem_of_getElem? hak)).2
              have HSN : Hid _ := takes_snoc _ _ _ m0 hak
              have HKK : Hid (Keeps m0 ((r.2.2.take k).foldl takeM m0)) := Keeps.all _ _ HK0.out (fun a ha => (HA.out a (List.mem_of_mem_take ha)).2)
              obtain ⟨mk, hmk⟩ : ∃ x, x = (r.2.2.take k).foldl takeM m0 := ⟨_, rfl⟩
              rw [← hmk] at LK HSN HKK
              have HFP : Hid (mk.fr.path.length ≤ maxLen) := by rw [HKK.out.fr, HM0.out]; exact HP.out
              have hxa : Below wr.heap.size wr (wr.alloc (.cells #[.string (txt an), .string (txt av)] 29)) := (Below.refl _ _).alloc (Nat.le_refl _) _
              have TK : Hid (CTabs (wr.alloc (.cells #[.string (txt an), .string (txt av)] 29))) := (HT.out.below BK.out (Nat.le_refl _)).below hxa (Nat.le_refl _)
              have LKa : Hid (LRow (wr.alloc (.cells #[.string (txt an), .string (txt av)] 29)) B (mkL mk)) := LK.out.below hxa hBl
              have hba : Below B w4 (wr.alloc (.cells #[.string (txt an), .string (txt av)] 29)) := hb.trans (hxa.mono (Nat.le_of_lt hBl))
              clear hak hcl hmk
              go_wp2_with fail
              refine (ctake_any mk B (an, av) _ LKa.out TK.out HAV.out HFP.out).mono ?_
              rintro e w5 ⟨⟨_, rfl⟩, L5, hb5⟩
              go_wp2_with fail
              go_roundw
              case rel => exact ⟨k + 1, by omega, by go_num, hba.trans hb5, by rw [HSN.out]; exact L5⟩
              case measure => simp [intOf]; omega
            · have HTK : Hid (r.2.2.take k = r.2.2) := List.take_of_length_le (by rw [← HMM.out]; omega)
              rw [HTK.out] at LK
              have HKK : Hid (Keeps m0 (r.2.2.foldl takeM m0)) := Keeps.all _ _ HK0.out (fun a ha => (HA.out a ha).2)
              obtain ⟨mm, hmk⟩ : ∃ x, x = r.2.2.foldl takeM m0 := ⟨_, rfl⟩
              rw [← hmk] at LK HKK
              have HMK : Hid _ := hmk
              have HCR : Hid (momB mm.created = true) := by rw [HKK.out.created, HM0.out]; exact HMOM.out
              have HAG : Hid (-9223372036854775808 ≤ mm.ageN ∧ mm.ageN ≤ 9223372036854775807) := by have := HKK.out.age; show _ ∧ _; omega
              have ZK : Hid (LRow wr R ck0) := Z4.out.below hb hRB
              clear hmk
              go_wp2_with fail
              refine (setExpiry_any mm B _ LK.out HCR.out HAG.out).mono ?_
              rintro e w5 ⟨⟨_, rfl⟩, L5, hb5⟩
              have L5 : Hid _ := L5
              have B5 : Hid (Below w.heap.size w w5) := BK.out.trans (hb5.mono (Nat.le_of_lt hXB))
              have Z5 : Hid (LRow w5 R ck0) := ZK.out.below hb5 hRB
              have HMEM : Hid (∀ b off n cap', Value.slice adl l.length capl = .slice (some ⟨b, off, none⟩) n cap' → l ≠ [] → b < B) := fun b off n cap' hv hne => Nat.lt_trans (rows_mem2 HL.out b off n cap' hv hne) hXB
              have HDL : Hid ((expiryM mm).dom.length ≤ maxLen) := HKK.out.dom
              have HHL : Hid ((expiryM mm).fr.host.length ≤ maxLen) := by show mm.fr.host.length ≤ maxLen; rw [HKK.out.fr, HM0.out]; exact HH.out
              clear hb hb5
              go_wp2_with fail
              refine (setDomain_any _ l (expiryM mm) B _ (Rows.below HL.out B5.out (Nat.le_refl _)) HLM.out HOK.out HMEM.out L5.out HDL.out HHL.out).mono ?_
              rw [HDQ.out mm _ HMK.out HM0.out]
              rintro e w6 ⟨rfl, L6, hb6⟩
              have L6 : Hid _ := L6
              have B6 : Hid (Below w.heap.size w w6) := B5.out.trans (hb6.mono (Nat.le_of_lt hXB))
              have Z6 : Hid (LRow w6 R ck0) := Z5.out.below hb6 hRB
              have hBl6 : B < w6.heap.size := cell_in (L6.out.cell 0 rfl)
              have HNL : Hid ((domM l (expiryM mm)).name.length ≤ maxLen) := by rw [dom_name]; show mm.name.length ≤ maxLen; rw [HKK.out.name, HM0.out]; exact HN.out
              clear hb6
              have c0 := Z6.out.cell 0 rfl
              have g0 := Z6.out.frozen 0 rfl
              have c1 := Z6.out.cell 1 rfl
              have g1 := Z6.out.frozen 1 rfl
              have c2 := Z6.out.cell 2 rfl
              have g2 := Z6.out.frozen 2 rfl
              have c3 := Z6.out.cell 3 rfl
              have g3 := Z6.out.frozen 3 rfl
              have c4 := Z6.out.cell 4 rfl
              have g4 := Z6.out.frozen 4 rfl
              have c5 := Z6.out.cell 5 rfl
              have g5 := Z6.out.frozen 5 rfl
              have c6 := Z6.out.cell 6 rfl
              have g6 := Z6.out.frozen 6 rfl
              have c7 := Z6.out.cell 7 rfl
              have g7 := Z6.out.frozen 7 rfl
              have c8 := Z6.out.cell 8 rfl
              have g8 := Z6.out.frozen 8 rfl
              have c9 := Z6.out.cell 9 rfl
              have g9 := Z6.out.frozen 9 rfl
              have c10 := Z6.out.cell 10 rfl
              have g10 := Z6.out.frozen 10 rfl
              have c11 := Z6.out.cell 11 rfl
              have g11 := Z6.out.frozen 11 rfl
              have c12 := Z6.out.cell 12 rfl
              have g12 := Z6.out.frozen 12 rfl
              go_wp2_with fail
              have RR : LRow _ R ck0 := (((((((((((((Z6.out.set 0 _).set 1 _).set 2 _).set 3 _).set 4 _).set 5 _).set 6 _).set 7 _).set 8 _).set 9 _).set 10 _).set 11 _).set 12 _)
              exact bodyPost_ret (v := .tuple #[.agg ck0.toArray, .int .i64 de]) (by simp [results, Tryd.results6, go_sem, RR.cell 0 rfl, RR.cell 1 rfl, RR.cell 2 rfl, RR.cell 3 rfl, RR.cell 4 rfl, RR.cell 5 rfl, RR.cell 6 rfl, RR.cell 7 rfl, RR.cell 8 rfl, RR.cell 9 rfl, RR.cell 10 rfl, RR.cell 11 rfl, RR.cell 12 rfl]; rfl) rfl ⟨by rw [HOO.out, HEE.out], (((((((((((((B6.out.setCell HRB.out _).setCell HRB.out _).setCell HRB.out _).setCell HRB.out _).setCell HRB.out _).setCell HRB.out _).setCell HRB.out _).setCell HRB.out _).setCell HRB.out _).setCell HRB.out _).setCell HRB.out _).setCell HRB.out _).setCell HRB.out _)⟩
      · have HEE : Hid (ee = re) := by show _ = _; rw [HME.out, ← hce, if_pos rfl, ← hre, if_neg k2]
        have HOO : Hid (oo = ck0) := by show _ = _; rw [HOOQ.out]; exact HOUT.out re (by rw [← HEEQ.out, HEE.out]) k2
        have hne : (re != 0) = true := by rw [bne_iff_ne]; exact k2
        clear hce hre k2
        go_enter Tryd.func6, Tryd.ntmps6
        go_wp2_with fail
        rw [← hW0, ← hR]
        clear hW0 hR
        refine (check_any _ l _ (Rows.below HL.out B0.out (Nat.le_refl _)) HLM.out HOK.out).mono ?_
        rw [← HSE.out]
        rintro e w1 ⟨rfl, hb1⟩
        have X1 : Hid _ := X0.out.below hb1 X0.out.lt
        have F1 : Hid _ := F0.out.below hb1 (LRow.lt5 F0.out)
        have Z1 : Hid _ := Z0.out.below hb1 (LRow.lt13 Z0.out)
        have B1 : Hid _ := next B0.out hb1
        have x0 := X1.out.c0
        have x1 := X1.out.c1
        have x2 := X1.out.c2
        go_wp2_with fail
        refine (hCheck_any _ r _ (Rows.below HR.out B1.out (Nat.le_refl _)) HM.out HN.out HV.out HA.out).mono ?_
        rw [← HCE.out]
        rintro e w2 ⟨rfl, hb2⟩
        have X2 : Hid _ := X1.out.below hb2 X1.out.lt
        have F2 : Hid _ := F1.out.below hb2 (LRow.lt5 F1.out)
        have Z2 : Hid _ := Z1.out.below hb2 (LRow.lt13 Z1.out)
        have B2 : Hid _ := next B1.out hb2
        clear x0 x1 x2
        have y0 := F2.out.cell 0 rfl
        have y1 := F2.out.cell 1 rfl
        have y2 := F2.out.cell 2 rfl
        have y3 := F2.out.cell 3 rfl
        have y4 := F2.out.cell 4 rfl
        go_wp2_with fail
        refine (ready_any f now _ HH.out HP.out HNOW.out).mono ?_
        rw [← HRE.out]
        rintro e w3 ⟨rfl, hb3⟩
        have X3 : Hid _ := X2.out.below hb3 X2.out.lt
        have F3 : Hid _ := F2.out.below hb3 (LRow.lt5 F2.out)
        have Z3 : Hid _ := Z2.out.below hb3 (LRow.lt13 Z2.out)
        have B3 : Hid _ := next B2.out hb3
        clear y0 y1 y2 y3 y4
        have c0 := Z3.out.cell 0 rfl
        have g0 := Z3.out.frozen 0 rfl
        have c1 := Z3.out.cell 1 rfl
        have g1 := Z3.out.frozen 1 rfl
        have c2 := Z3.out.cell 2 rfl
        have g2 := Z3.out.frozen 2 rfl
        have c3 := Z3.out.cell 3 rfl
        have g3 := Z3.out.frozen 3 rfl
        have c4 := Z3.out.cell 4 rfl
        have g4 := Z3.out.frozen 4 rfl
        have c5 := Z3.out.cell 5 rfl
        have g5 := Z3.out.frozen 5 rfl
        have c6 := Z3.out.cell 6 rfl
        have g6 := Z3.out.frozen 6 rfl
        have c7 := Z3.out.cell 7 rfl
        have g7 := Z3.out.frozen 7 rfl
        have c8 := Z3.out.cell 8 rfl
        have g8 := Z3.out.frozen 8 rfl
        have c9 := Z3.out.cell 9 rfl
        have g9 := Z3.out.frozen 9 rfl
        have c10 := Z3.out.cell 10 rfl
        have g10 := Z3.out.frozen 10 rfl
        have c11 := Z3.out.cell 11 rfl
        have g11 := Z3.out.frozen 11 rfl
        have c12 := Z3.out.cell 12 rfl
        have g12 := Z3.out.frozen 12 rfl
        go_wp2_with fail
        have RR : LRow _ R ck0 := (((((((((((((Z3.out.set 0 _).set 1 _).set 2 _).set 3 _).set 4 _).set 5 _).set 6 _).set 7 _).set 8 _).set 9 _).set 10 _).set 11 _).set 12 _)
        exact bodyPost_ret (v := .tuple #[.agg ck0.toArray, .int .i64 re]) (by simp [results, Tryd.results6, go_sem, RR.cell 0 rfl, RR.cell 1 rfl, RR.cell 2 rfl, RR.cell 3 rfl, RR.cell 4 rfl, RR.cell 5 rfl, RR.cell 6 rfl, RR.cell 7 rfl, RR.cell 8 rfl, RR.cell 9 rfl, RR.cell 10 rfl, RR.cell 11 rfl, RR.cell 12 rfl]; rfl) rfl ⟨by rw [HOO.out, HEE.out], (((((((((((((B3.out.setCell HRB.out _).setCell HRB.out _).setCell HRB.out _).setCell HRB.out _).setCell HRB.out _).setCell HRB.out _).setCell HRB.out _).setCell HRB.out _).setCell HRB.out _).setCell HRB.out _).setCell HRB.out _).setCell HRB.out _).setCell HRB.out _)⟩
    · have HEE : Hid (ee = ce) := by show _ = _; rw [HME.out, ← hce, if_neg k1]
      have HOO : Hid (oo = ck0) := by show _ = _; rw [HOOQ.out]; exact HOUT.out ce (by rw [← HEEQ.out, HEE.out]) k1
      have hne : (ce != 0) = true := by rw [bne_iff_ne]; exact k1
      clear hce k1
      go_enter Tryd.func6, Tryd.ntmps6
      go_wp2_with fail
      rw [← hW0, ← hR]
      clear hW0 hR
      refine (check_any _ l _ (Rows.below HL.out B0.out (Nat.le_refl _)) HLM.out HOK.out).mono ?_
      rw [← HSE.out]
      rintro e w1 ⟨rfl, hb1⟩
      have X1 : Hid _ := X0.out.below hb1 X0.out.lt
      have F1 : Hid _ := F0.out.below hb1 (LRow.lt5 F0.out)
      have Z1 : Hid _ := Z0.out.below hb1 (LRow.lt13 Z0.out)
      have B1 : Hid _ := next B0.out hb1
      have x0 := X1.out.c0
      have x1 := X1.out.c1
      have x2 := X1.out.c2
      go_wp2_with fail
      refine (hCheck_any _ r _ (Rows.below HR.out B1.out (Nat.le_refl _)) HM.out HN.out HV.out HA.out).mono ?_
      rw [← HCE.out]
      rintro e w2 ⟨rfl, hb2⟩
      have X2 : Hid _ := X1.out.below hb2 X1.out.lt
      have F2 : Hid _ := F1.out.below hb2 (LRow.lt5 F1.out)
      have Z2 : Hid _ := Z1.out.below hb2 (LRow.lt13 Z1.out)
      have B2 : Hid _ := next B1.out hb2
      clear x0 x1 x2
      have c0 := Z2.out.cell 0 rfl
      have g0 := Z2.out.frozen 0 rfl
      have c1 := Z2.out.cell 1 rfl
      have g1 := Z2.out.frozen 1 rfl
      have c2 := Z2.out.cell 2 rfl
      have g2 := Z2.out.frozen 2 rfl
      have c3 := Z2.out.cell 3 rfl
      have g3 := Z2.out.frozen 3 rfl
      have c4 := Z2.out.cell 4 rfl
      have g4 := Z2.out.frozen 4 rfl
      have c5 := Z2.out.cell 5 rfl
      have g5 := Z2.out.frozen 5 rfl
      have c6 := Z2.out.cell 6 rfl
      have g6 := Z2.out.frozen 6 rfl
      have c7 := Z2.out.cell 7 rfl
      have g7 := Z2.out.frozen 7 rfl
      have c8 := Z2.out.cell 8 rfl
      have g8 := Z2.out.frozen 8 rfl
      have c9 := Z2.out.cell 9 rfl
      have g9 := Z2.out.frozen 9 rfl
      have c10 := Z2.out.cell 10 rfl
      have g10 := Z2.out.frozen 10 rfl
      have c11 := Z2.out.cell 11 rfl
      have g11 := Z2.out.frozen 11 rfl
      have c12 := Z2.out.cell 12 rfl
      have g12 := Z2.out.frozen 12 rfl
      go_wp2_with fail
      have RR : LRow _ R ck0 := (((((((((((((Z2.out.set 0 _).set 1 _).set 2 _).set 3 _).set 4 _).set 5 _).set 6 _).set 7 _).set 8 _).set 9 _).set 10 _).set 11 _).set 12 _)
      exact bodyPost_ret (v := .tuple #[.agg ck0.toArray, .int .i64 ce]) (by simp [results, Tryd.results6, go_sem, RR.cell 0 rfl, RR.cell 1 rfl, RR.cell 2 rfl, RR.cell 3 rfl, RR.cell 4 rfl, RR.cell 5 rfl, RR.cell 6 rfl, RR.cell 7 rfl, RR.cell 8 rfl, RR.cell 9 rfl, RR.cell 10 rfl, RR.cell 11 rfl, RR.cell 12 rfl]; rfl) rfl ⟨by rw [HOO.out, HEE.out], (((((((((((((B2.out.setCell HRB.out _).setCell HRB.out _).setCell HRB.out _).setCell HRB.out _).setCell HRB.out _).setCell HRB.out _).setCell HRB.out _).setCell HRB.out _).setCell HRB.out _).setCell HRB.out _).setCell HRB.out _).setCell HRB.out _).setCell HRB.out _)⟩
  · have HEE : Hid (ee = se) := by show _ = _; rw [HEEQ.out]; unfold makeE; rw [← hse, if_neg k0]
    have HOO : Hid (oo = ck0) := by show _ = _; rw [HOOQ.out]; exact HOUT.out se (by rw [← HEEQ.out, HEE.out]) k0
    have hne : (se != 0) = true := by rw [bne_iff_ne]; exact k0
    clear hse k0
    go_enter Tryd.func6, Tryd.ntmps6
    go_wp2_with fail
    rw [← hW0, ← hR]
    clear hW0 hR
    refine (check_any _ l _ (Rows.below HL.out B0.out (Nat.le_refl _)) HLM.out HOK.out).mono ?_
    rw [← HSE.out]
    rintro e w1 ⟨rfl, hb1⟩
    have Z1 : Hid _ := Z0.out.below hb1 (LRow.lt13 Z0.out)
    have B1 : Hid _ := next B0.out hb1
    have c0 := Z1.out.cell 0 rfl
    have g0 := Z1.out.frozen 0 rfl
    have c1 := Z1.out.cell 1 rfl
    have g1 := Z1.out.frozen 1 rfl
    have c2 := Z1.out.cell 2 rfl
    have g2 := Z1.out.frozen 2 rfl
    have c3 := Z1.out.cell 3 rfl
    have g3 := Z1.out.frozen 3 rfl
    have c4 := Z1.out.cell 4 rfl
    have g4 := Z1.out.frozen 4 rfl
    have c5 := Z1.out.cell 5 rfl
    have g5 := Z1.out.frozen 5 rfl
    have c6 := Z1.out.cell 6 rfl
    have g6 := Z1.out.frozen 6 rfl
    have c7 := Z1.out.cell 7 rfl
    have g7 := Z1.out.frozen 7 rfl
    have c8 := Z1.out.cell 8 rfl
    have g8 := Z1.out.frozen 8 rfl
    have c9 := Z1.out.cell 9 rfl
    have g9 := Z1.out.frozen 9 rfl
    have c10 := Z1.out.cell 10 rfl
    have g10 := Z1.out.frozen 10 rfl
    have c11 := Z1.out.cell 11 rfl
    have g11 := Z1.out.frozen 11 rfl
    have c12 := Z1.out.cell 12 rfl
    have g12 := Z1.out.frozen 12 rfl
    go_wp2_with fail
    have RR : LRow _ R ck0 := (((((((((((((Z1.out.set 0 _).set 1 _).set 2 _).set 3 _).set 4 _).set 5 _).set 6 _).set 7 _).set 8 _).set 9 _).set 10 _).set 11 _).set 12 _)
    exact bodyPost_ret (v := .tuple #[.agg ck0.toArray, .int .i64 se]) (by simp [results, Tryd.results6, go_sem, RR.cell 0 rfl, RR.cell 1 rfl, RR.cell 2 rfl, RR.cell 3 rfl, RR.cell 4 rfl, RR.cell 5 rfl, RR.cell 6 rfl, RR.cell 7 rfl, RR.cell 8 rfl, RR.cell 9 rfl, RR.cell 10 rfl, RR.cell 11 rfl, RR.cell 12 rfl]; rfl) rfl ⟨by rw [HOO.out, HEE.out], (((((((((((((B1.out.setCell HRB.out _).setCell HRB.out _).setCell HRB.out _).setCell HRB.out _).setCell HRB.out _).setCell HRB.out _).setCell HRB.out _).setCell HRB.out _).setCell HRB.out _).setCell HRB.out _).setCell HRB.out _).setCell HRB.out _).setCell HRB.out _)⟩
end Go.Proofs.YtgjjkieljdamfafDoor
