/- The contract of the reference's RawOf. -/
import Derived.Test.YtjoailjedfbnbadHeaderT
import Derived.Deep.AppendLies
import Derived.Deep.RegionHeld3
import Derived.Deep.RegionLaw
namespace Go.Proofs.Ytjoailjedfbnbad
open Go.RowKit
set_option linter.all false

theorem S3.set2 {W : World} {B : Nat} {a b c : Value} (h : S3 W B a b c) (z : Value) : S3 (W.setCell ⟨B, 2, none⟩ z) B a b z :=
  ⟨(World.cell?_setCell_other _ _ _ _ (by intro e; injection e with _ e; cases e)).trans h.c0, (World.cell?_setCell_other _ _ _ _ (by intro e; injection e with _ e; cases e)).trans h.c1, World.cell?_setCell_same _ _ _ h.c2,
    (World.frozen?_setCell _ _ _ _).trans h.f0, (World.frozen?_setCell _ _ _ _).trans h.f1, (World.frozen?_setCell _ _ _ _).trans h.f2⟩
set_option maxRecDepth 100000 in
set_option maxHeartbeats 4000000 in
theorem RawOf_any (s : ByteArray) (w : World) (hs : s.size ≤ maxLen) :
    Calls Try.prog 21 #[.string s] w fun e w' => ∃ v, e = .returned (.tuple #[.agg #[.string (txt (rdR s.data.toList).1), .string (txt (rdR s.data.toList).2.1), v], .int .i64 (rdE s.data.toList)]) ∧
      Rows w' v attrF (rdR s.data.toList).2.2 ∧ Below w.heap.size w w' := by
  have HS : Hid _ := hs
  unfold maxLen at hs
  obtain ⟨i0, hi, hz0, hz1, hz2⟩ := info_parts info_attr
  have hb0 : Below w.heap.size w (w.alloc (.cells #[.string ⟨#[]⟩, .string ⟨#[]⟩, .slice none 0 0] 34)) := (Below.refl _ _).alloc (Nat.le_refl _) _
  have R0 : Hid (S3 (w.alloc (.cells #[.string ⟨#[]⟩, .string ⟨#[]⟩, .slice none 0 0] 34)) w.heap.size (.string ⟨#[]⟩) (.string ⟨#[]⟩) (.slice none 0 0)) := S3.new _ _ _ _ _
  by_cases h4 : 400 < s.size
  · have HE : Hid _ := rdE_long s.data.toList h4
    have HR : Hid _ := rdR_bad s.data.toList (by rw [HE.out]; decide)
    rw [HE.out, HR.out]
    go_enter Try.func21, Try.ntmps21
    go_wp2_with fail
    exact bodyPost_ret (v := .tuple #[.agg #[.string (txt []), .string (txt []), .slice none 0 0], .int .i64 2]) (by simp [results, Try.results21, go_sem]; rfl) rfl ⟨_, rfl, rows_nil _ _, hb0⟩
  · have HL : Hid (¬ 400 < s.data.toList.length) := h4
    cases hb : hasP barU s.data.toList
    · have HB : Hid _ := hb
      have hp16 : (s.size + 1) * 16 ≤ 140737488355328 := by omega
      obtain ⟨hp, hhp⟩ : ∃ x, x = headP s.data.toList := ⟨_, rfl⟩
      obtain ⟨tp, htp⟩ : ∃ x, x = tailP s.data.toList := ⟨_, rfl⟩
      obtain ⟨n, hn⟩ : ∃ x, x = nameL hp := ⟨_, rfl⟩
      obtain ⟨z, hz⟩ : ∃ x, x = hasB hp 61 := ⟨_, rfl⟩
      obtain ⟨vl, hvl⟩ : ∃ x, x = valueL hp := ⟨_, rfl⟩
      have HHP : Hid _ := hhp
      have HTP : Hid _ := htp
      have HN : Hid _ := hn
      have HZ : Hid _ := hz
      have HV : Hid _ := hvl
      have HPL : Hid ((txt hp).size ≤ maxLen) := Nat.le_trans (by rw [hhp]; exact headP_len s.data.toList) HS.out
      have HTL : Hid (∀ p ∈ tp, p.length ≤ maxLen) := fun p hp => Nat.le_trans (tailP_len s.data.toList p (by rw [← htp]; exact hp)) HS.out
      have htf : tp.length ≤ 400 := Nat.le_trans (by rw [htp]; exact tailP_few s.data.toList) (show s.size ≤ 400 by omega)
      have HPA : Hid (partsL s.data.toList 59 = hp :: tp) := by show _ = _; rw [hhp, htp]; exact parts_ht _
      clear hb hhp htp hn hz hvl
      go_enter Try.func21, Try.ntmps21
      go_wp2_with (go_at_call 44; refine (letOf_any _ _ HS.out).mono ?_; rw [HB.out]; rintro e w' ⟨rfl, rfl⟩)
      refine (partsOf_any s 59 _ hp16).mono ?_
      rw [HPA.out]
      rintro e w1 ⟨v, rfl, hown, hb1⟩
      have R1 : Hid _ := R0.out.below hb1 (by simp)
      obtain ⟨hlen, (⟨_, hbad⟩ | ⟨g, cap, cur, rfl, hg, hcur, hn1, hcap, hcs, htk⟩)⟩ := hown
      · cases hbad
      have hn2 : tp.length + 1 ≤ cap := hn1
      have hown : w1.ownsRow (w.alloc (.cells #[.string ⟨#[]⟩, .string ⟨#[]⟩, .slice none 0 0] 34)).heap.size 9 1 (.slice (some ⟨g, 0, none⟩) (tp.length + 1) cap) (tp.length + 1) (strs (hp :: tp)) := ⟨hlen, .inr ⟨g, cap, cur, rfl, hg, hcur, hn1, hcap, hcs, htk⟩⟩
      have HO : Hid (∀ (j : Nat) x, (strs (hp :: tp))[j]? = some x → w1.cell? ⟨g, j, none⟩ = some x) := fun j x hj => by
        have hlt := (List.getElem?_eq_some_iff.1 hj).1
        rw [strs_length] at hlt
        rw [hown.cellAt j (by simp at hlt; omega), hj]
      have hc0 : w1.cell? ⟨g, 0, none⟩ = some (.string (txt hp)) := HO.out 0 _ rfl
      have hgl : g < w1.heap.size := cell_in hc0
      have hB1 : Hid (Below w.heap.size w w1) := next hb0 hb1
      clear hown hlen hcur hcs htk hn1 hg hb0 hb1 R0
      rw [show (hp :: tp).length = tp.length + 1 from rfl]
      go_wp2_with fail
      refine (pairOf_any _ _ HPL.out).mono ?_
      rw [txt_toList, ← HN.out, ← HZ.out, ← HV.out]
      rintro e w2 ⟨rfl, hb2⟩
      have R2 : Hid _ := R1.out.below hb2 R1.out.lt
      have HO2 : Hid (∀ (j : Nat) x, (strs (hp :: tp))[j]? = some x → w2.cell? ⟨g, j, none⟩ = some x) := fun j x hj => (hb2.cell (p := ⟨g, j, none⟩) hgl).trans (HO.out j x hj)
      have B2 : Hid (Below w.heap.size w w2) := next hB1.out hb2
      have hgl2 : g < w2.heap.size := Nat.lt_of_lt_of_le hgl hb2.size
      have hlt0 : w.heap.size < w2.heap.size := R2.out.lt
      clear hc0 hb2 R1 HO hB1 hgl
      obtain ⟨c0, c1, c2, f0, f1, f2⟩ := R2.out
      by_cases hbad : (!z || (n == [])) = true
      · have HE : Hid (rdE s.data.toList = 1) := rdE_head _ HL.out HB.out (by rw [← HHP.out, ← HN.out, ← HZ.out]; exact hbad)
        have HR : Hid _ := rdR_bad s.data.toList (by rw [HE.out]; decide)
        have RR := S3.set3 R2.out (.string ⟨#[]⟩) (.string ⟨#[]⟩) (.slice none 0 0)
        cases z
        · clear hbad
          go_wp2_with fail
          exact bodyPost_ret (v := .tuple #[.agg #[.string (txt []), .string (txt []), .slice none 0 0], .int .i64 1]) (by simp [results, Try.results21, go_sem, RR.c0, RR.c1, RR.c2]; rfl) rfl ⟨_, by rw [HE.out, HR.out], by rw [HR.out]; exact rows_nil _ _, ((B2.out.setCell (Nat.le_refl _) _).setCell (Nat.le_refl _) _).setCell (Nat.le_refl _) _⟩
        · have hne : ((txt n).toList == []) = true := nil_t n (by simpa using hbad)
          clear hbad
          go_wp2_with fail
          exact bodyPost_ret (v := .tuple #[.agg #[.string (txt []), .string (txt []), .slice none 0 0], .int .i64 1]) (by simp [results, Try.results21, go_sem, RR.c0, RR.c1, RR.c2]; rfl) rfl ⟨_, by rw [HE.out, HR.out], by rw [HR.out]; exact rows_nil _ _, ((B2.out.setCell (Nat.le_refl _) _).setCell (Nat.le_refl _) _).setCell (Nat.le_refl _) _⟩
      · have HE : Hid _ := rdE_tail s.data.toList HL.out HB.out (by rw [← HHP.out, ← HN.out, ← HZ.out]; simpa using hbad)
        rw [← HTP.out] at HE
        simp only [Bool.or_eq_true, Bool.not_eq_true', beq_iff_eq, not_or, Bool.not_eq_false] at hbad
        obtain ⟨rfl, hnn⟩ := hbad
        have hne : ((txt n).toList == []) = false := nil_f n hnn
        clear hnn
        have hx2 : Below w2.heap.size w2 (w2.alloc (.cells #[.string (txt n), .string (txt vl), .slice none 0 0] 34)) := (Below.refl _ _).alloc (Nat.le_refl _) _
        have X2 : Hid (S3 (w2.alloc (.cells #[.string (txt n), .string (txt vl), .slice none 0 0] 34)) w2.heap.size (.string (txt n)) (.string (txt vl)) (.slice none 0 0)) := S3.new _ _ _ _ _
        have h31 : (w2.alloc (.cells #[.string (txt n), .string (txt vl), .slice none 0 0] 34)).heap.size = w2.heap.size + 1 := by simp
        obtain ⟨w3, hw3⟩ : ∃ w3, w3 = (w2.alloc (.cells #[.string (txt n), .string (txt vl), .slice none 0 0] 34)) := ⟨_, rfl⟩
        obtain ⟨X, hX⟩ : ∃ X, X = w2.heap.size := ⟨_, rfl⟩
        rw [← hw3] at hx2 X2 h31
        clear c0 c1 c2 f0 f1 f2
        go_wp2_with fail
        rw [← hw3, ← hX]
        rw [← hX] at hx2 X2 h31 hgl2 hlt0
        have HX : Hid _ := hX
        clear hw3 hX
        go_loopw [9] (fun i wr => ∃ (j : Nat) (va : Value), 1 ≤ j ∧ j ≤ tp.length + 1 ∧ i = .int .i64 j ∧ wr.ownsRow (X + 1) 66 2 va (attrsL (tp.take (j - 1))).length ((attrsL (tp.take (j - 1))).flatMap attrF) ∧ Hid (S3 wr X (.string (txt n)) (.string (txt vl)) va) ∧ Below X w2 wr ∧ X < wr.heap.size) (fun i _ => (tp.length + 1) - (intOf i).toNat)
        case atStart => exact ⟨1, _, by omega, by omega, rfl, by rw [Nat.sub_self, List.take_zero]; exact World.ownsRow_nil _ _ _ _, X2.out, hx2, by omega⟩
        case round =>
          obtain ⟨j, va, hj1, hj2, rfl, hown, hX3, hb3, hXl⟩ := hrel
          obtain ⟨k, rfl⟩ : ∃ k, j = k + 1 := ⟨j - 1, by omega⟩
          rw [Nat.add_sub_cancel] at hown
          have hk : k ≤ tp.length := by omega
          clear hj1 hj2
          have R3 : Hid _ := R2.out.below hb3 hlt0
          obtain ⟨ad3, cap3, rfl⟩ := own_slice hown
          by_cases hlt : k < tp.length
          · have e1 := List.getElem?_eq_getElem hlt
            obtain ⟨p, hpk⟩ : ∃ p, p = tp[k] := ⟨_, rfl⟩
            rw [← hpk] at e1
            have hc := (hb3.cell (p := ⟨g, k + 1, none⟩) hgl2).trans (HO2.out (k + 1) (.string (txt p)) (by show (strs (hp :: tp))[k + 1]? = _; simp [strs, e1]))
            have HPS : Hid ((txt p).size ≤ maxLen) := HTL.out p (List.mem_of_getElem? e1)
            have HJ : Hid _ := attrsL_take tp k p e1
            have hle := attrsL_len (tp.take k)
            rw [List.length_take] at hle
            obtain ⟨acc, hacc⟩ : ∃ acc, acc = attrsL (tp.take k) := ⟨_, rfl⟩
            rw [← hacc] at HJ hown hle hX3
            obtain ⟨an, han⟩ : ∃ x, x = nameL p := ⟨_, rfl⟩
            obtain ⟨av, hav⟩ : ∃ x, x = valueL p := ⟨_, rfl⟩
            obtain ⟨bb, hbb⟩ : ∃ x, x = hasB p 61 := ⟨_, rfl⟩
            have HAN : Hid _ := han
            have HAV : Hid _ := hav
            have HBB : Hid _ := hbb
            have HNS : Hid ((txt an).size ≤ maxLen) := by rw [han]; exact Nat.le_trans (nameL_len p) HPS.out
            clear hpk e1 hacc hav hbb
            go_wp2_with fail
            refine (pairOf_any _ _ HPS.out).mono ?_
            rw [txt_toList, ← HAN.out, ← HAV.out, ← HBB.out]
            rintro e w4 ⟨rfl, hb4⟩
            have X4 : Hid (S3 w4 X _ _ _) := hX3.out.below hb4 hXl
            have hown4 := own_below hown hb4 (Nat.le_refl _)
            have hb5 : Below X w2 w4 := hb3.trans (hb4.mono (Nat.le_of_lt hXl))
            have hXl4 : X < w4.heap.size := Nat.lt_of_lt_of_le hXl hb4.size
            clear hX3 hown hb3 hb4 R3 hc hXl
            obtain ⟨c0, c1, c2, f0, f1, f2⟩ := X4.out
            by_cases h0 : an = []
            · have z1 := nil_t an h0
              have z2 : ((txt an).toList != []) = false := by simp only [bne, z1]; rfl
              have HA : Hid (attrsL (tp.take (k + 1)) = acc) := by
                show _ = _
                rw [HJ.out]; unfold attrL; rw [← han, if_pos h0]; simp
              clear h0 han
              go_wp2_with fail
              go_roundw
              case rel => exact ⟨k + 1 + 1, _, by omega, by omega, by go_num, by rw [Nat.add_sub_cancel, HA.out]; exact hown4, X4.out, hb5, hXl4⟩
              case measure => simp [intOf]; omega
            · have z1 := nil_f an h0
              have z2 : ((txt an).toList != []) = true := by simp only [bne, z1]; rfl
              have HA : Hid (attrsL (tp.take (k + 1)) = acc ++ [(foldL an, av)]) := by
                show _ = _
                rw [HJ.out]; unfold attrL; rw [← han, if_neg h0, HAV.out]; rfl
              clear h0 han
              go_wp2_with fail
              have keep6 : Hid (∀ w6 : World, Below w4.drew.heap.size w4.drew w6 → w6.cell? ⟨X, 2, none⟩ = some (.slice ad3 acc.length cap3) ∧ w6.ownsRow (X + 1) 66 2 (.slice ad3 acc.length cap3) acc.length (acc.flatMap attrF) ∧ X + 1 ≤ w6.heap.size ∧ Below w4.heap.size w4 w6 ∧ w6.frozen? ⟨X, 2, none⟩ = false) := fun w6 h' => by
                have h : Below w4.heap.size w4 w6 := ((Below.refl w4.heap.size w4).drew).trans h'
                exact ⟨(h.cell (p := ⟨X, 2, none⟩) hXl4).trans c2, own_below hown4 h (Nat.le_refl _), Nat.le_trans hXl4 h.size, h, (h.frozen (p := ⟨X, 2, none⟩) hXl4).trans f2⟩
              have keep7 : Hid (∀ (w6 w7 : World) (o : Obj), w6.cell? ⟨X, 2, none⟩ = some (.slice ad3 acc.length cap3) → w6.ownsRow (X + 1) 66 2 (.slice ad3 acc.length cap3) acc.length (acc.flatMap attrF) → X + 1 ≤ w6.heap.size → (w6.alloc o).grownBy w7 (Value.slice ad3 acc.length cap3).ownBlock → w6.frozen? ⟨X, 2, none⟩ = false → w7.cell? ⟨X, 2, none⟩ = some (.slice ad3 acc.length cap3) ∧ Below (X + 1) (w6.alloc o) w7 ∧ w7.frozen? ⟨X, 2, none⟩ = false) := fun w6 w7 o hc ho hx hg hf => by
                have hb7 : Below (X + 1) (w6.alloc o) w7 := (Below.refl (X + 1) _).grown hg (Nat.le_trans hx (by simp)) (fun q e => (ho.lt q e).1)
                exact ⟨(hb7.cell (p := ⟨X, 2, none⟩) (Nat.lt_succ_self X)).trans ((((Below.refl w6.heap.size w6).alloc (Nat.le_refl _) o).cell (p := ⟨X, 2, none⟩) hx).trans hc), hb7, (hb7.frozen (p := ⟨X, 2, none⟩) (Nat.lt_succ_self X)).trans ((((Below.refl w6.heap.size w6).alloc (Nat.le_refl _) o).frozen (p := ⟨X, 2, none⟩) hx).trans hf)⟩
              have m1 : acc.length + 1 ≤ maxLen := by unfold maxLen; omega
              have m2 : (acc.length + 1) * 32 ≤ 140737488355328 := by omega
              have M1 : Hid _ := m1
              have M2 : Hid _ := m2
              have M3 : Hid (∀ (w6 : World) (o : Obj), X + 1 ≤ w6.heap.size → X + 1 ≤ (w6.alloc o).heap.size) := fun w6 o h => Nat.le_trans h (by simp)
              have M4 : Hid (∀ u ∈ attrF (foldL an, av), u.oneCell' = true) := by intro u hu; simp [attrF] at hu; rcases hu with rfl | rfl <;> rfl
              clear m1 m2
              go_region_law (first
                  | (go_simp; go_at_call 46; refine (foldOf_any _ _ HNS.out).mono ?_; rw [txt_toList]; rintro e w6 ⟨rfl, hb6⟩; obtain ⟨c6, hown6, hx6, hb6', f6⟩ := keep6.out w6 hb6; have hX6 : X < w6.heap.size := hx6)
                  | (refine step_append_lies _ (by rfl) (.tmp 59) (.tmp 64) 32 (by rfl) (X + 1) 66 i0 (.agg #[.string ⟨#[]⟩, .string ⟨#[]⟩]) 2 32 Try.underlying32 hi hz0 hz1 hz2 rfl (by decide) _ _ _ (by rfl) (hown6.alloc _) ⟨w6.heap.size, 0, none⟩ 1 1 (attrF (foldL an, av)) (by rfl) rfl (cell_two_new _ _ _ _) M4.out (by decide) M1.out M2.out (M3.out _ _ hx6) _ rfl ?_; intro gg cap7 w7 hown7 hg7 _ _; obtain ⟨c7, hb7, f7⟩ := keep7.out w6 w7 _ c6 hown6 hx6 hg7 f6))
              all_goals
                have hxx := (Below.refl w6.heap.size w6).alloc (Nat.le_refl _) (.cells #[.string (txt (foldL an)), .string (txt av)] 66)
                have X7 : Hid (S3 w7 X (.string (txt n)) (.string (txt vl)) (.slice ad3 acc.length cap3)) := ((X4.out.below hb6' hXl4).below hxx hx6).below hb7 (Nat.lt_succ_self X)
                have hb8 : Below X w2 w7 := ((hb5.trans (hb6'.mono (Nat.le_of_lt hXl4))).trans (hxx.mono (Nat.le_of_succ_le hx6))).trans (hb7.mono (Nat.le_succ X))
                have hl7 : X < w7.heap.size := X7.out.lt
                have hown8 : w7.ownsRow (X + 1) 66 2 (.slice (some ⟨gg, 0, none⟩) (acc.length + 1) cap7) (attrsL (tp.take (k + 1))).length ((attrsL (tp.take (k + 1))).flatMap attrF) := by
                  rw [HA.out, List.length_append, List.flatMap_append]; exact hown7
                clear hown7 hg7 hx6 hX6 hxx hb7 hb6 hb6' hown6 c0 c1 c2 f0 f1 f2
                go_wp2_with fail
                go_roundw
                case rel => exact ⟨k + 1 + 1, _, by omega, by omega, by go_num, by rw [Nat.add_sub_cancel]; exact own_setCell hown8 (Nat.lt_succ_self X), X7.out.set2 _, hb8.setCell (Nat.le_refl _) _, by simpa [World.setCell] using hl7⟩
                case measure => simp [intOf]; omega
          · have HT : Hid (tp.take k = tp) := List.take_of_length_le (by omega)
            rw [HT.out] at hown
            have B3 : Hid (Below w.heap.size w wr) := B2.out.trans (hb3.mono (Nat.le_of_lt hlt0))
            have HO3 : Hid (World.ownsRow wr (X + 1) _ _ _ _ _) := hown
            obtain ⟨c0, c1, c2, f0, f1, f2⟩ := hX3.out
            obtain ⟨d0, d1, d2, g0, g1, g2⟩ := R3.out
            have hlen : (attrsL (tp.take k)).length = (attrsL tp).length := by rw [HT.out]
            rw [hlen] at c2 hX3
            clear hown hb3 hlen
            by_cases h12 : 12 < (attrsL tp).length
            · have HE2 : Hid (rdE s.data.toList = 2) := by show _ = _; rw [HE.out, if_pos h12]
              have HR : Hid _ := rdR_bad s.data.toList (by rw [HE2.out]; decide)
              have RR := S3.set3 R3.out (.string ⟨#[]⟩) (.string ⟨#[]⟩) (.slice none 0 0)
              go_wp2_with fail
              exact bodyPost_ret (v := .tuple #[.agg #[.string (txt []), .string (txt []), .slice none 0 0], .int .i64 2]) (by simp [results, Try.results21, go_sem, RR.c0, RR.c1, RR.c2]; rfl) rfl ⟨_, by rw [HE2.out, HR.out], by rw [HR.out]; exact rows_nil _ _, ((B3.out.setCell (Nat.le_refl _) _).setCell (Nat.le_refl _) _).setCell (Nat.le_refl _) _⟩
            · have HE2 : Hid (rdE s.data.toList = 0) := by show _ = _; rw [HE.out, if_neg h12]
              have HR : Hid _ := rdR_ok s.data.toList HE2.out
              have RR := S3.set3 R3.out (.string (txt n)) (.string (txt vl)) (.slice ad3 (attrsL tp).length cap3)
              have hl1 : w.heap.size < X + 1 := by omega
              go_wp2_with fail
              exact bodyPost_ret (v := .tuple #[.agg #[.string (txt n), .string (txt vl), .slice ad3 (attrsL tp).length cap3], .int .i64 0]) (by simp [results, Try.results21, go_sem, RR.c0, RR.c1, RR.c2]) rfl ⟨_, by rw [HE2.out, HR.out, HN.out, HV.out, HHP.out], by rw [HR.out, ← HTP.out]; exact Reads.of_own (own_setCell (own_setCell (own_setCell HO3.out hl1) hl1) hl1), ((B3.out.setCell (Nat.le_refl _) _).setCell (Nat.le_refl _) _).setCell (Nat.le_refl _) _⟩
    · have HB : Hid _ := hb
      have HE : Hid _ := rdE_bar s.data.toList h4 hb
      have HR : Hid _ := rdR_bad s.data.toList (by rw [HE.out]; decide)
      rw [HE.out, HR.out]
      clear hb
      go_enter Try.func21, Try.ntmps21
      go_wp2_with (go_at_call 44; refine (letOf_any _ _ HS.out).mono ?_; rw [HB.out]; rintro e w' ⟨rfl, rfl⟩)
      exact bodyPost_ret (v := .tuple #[.agg #[.string (txt []), .string (txt []), .slice none 0 0], .int .i64 1]) (by simp [results, Try.results21, go_sem]; rfl) rfl ⟨_, rfl, rows_nil _ _, hb0⟩
end Go.Proofs.Ytjoailjedfbnbad
