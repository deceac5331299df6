/- The contract of Read. -/
import Derived.Test.YtjoailjedfbnbaeHeaderB
namespace Go.Proofs.Ytjoailjedfbnbae
open Go.RowKit
set_option linter.all false

theorem rdE_long (s : List UInt8) (h : 400 < s.length) : rdE s = 2 := by unfold rdE; rw [if_pos h]
theorem rdE_bar (s : List UInt8) (h : ¬ 400 < s.length) (hb : hasP barU s = true) : rdE s = 1 := by unfold rdE; rw [if_neg h, if_pos hb]
theorem rdE_head (s : List UInt8) (h : ¬ 400 < s.length) (hb : hasP barU s = false) (hp : (!hasB (headP s) 61 || (nameL (headP s) == [])) = true) : rdE s = 1 := by unfold rdE; rw [if_neg h, hb, if_neg (by decide), if_pos hp]
theorem rdE_tail (s : List UInt8) (h : ¬ 400 < s.length) (hb : hasP barU s = false) (hp : (!hasB (headP s) 61 || (nameL (headP s) == [])) = false) : rdE s = if 12 < (attrsL (tailP s)).length then 2 else 0 := by
  unfold rdE; rw [if_neg h, hb, if_neg (by decide), hp, if_neg (by decide)]
theorem rdR_bad (s : List UInt8) (h : rdE s ≠ 0) : rdR s = ([], [], []) := by unfold rdR; rw [if_neg h]
theorem rdR_ok (s : List UInt8) (h : rdE s = 0) : rdR s = (nameL (headP s), valueL (headP s), attrsL (tailP s)) := by unfold rdR; rw [if_pos h]
theorem rows_nil {α : Type} (W : World) (f : α → List Value) : Rows W (.slice none 0 0) f [] := ⟨none, 0, rfl, .inl rfl⟩
set_option maxHeartbeats 2000000 in
theorem hRead_any (s : ByteArray) (w : World) (hs : s.size ≤ maxLen) :
    Calls Try.prog 5 #[.string s] w fun e w' => ∃ v, e = .returned (.tuple #[.agg #[.string (txt (rdR s.data.toList).1), .string (txt (rdR s.data.toList).2.1), v], .int .i64 (rdE s.data.toList)]) ∧
      Rows w' v attrF (rdR s.data.toList).2.2 ∧ Below w.heap.size w w' := by
  have HS : Hid _ := hs
  unfold maxLen at hs
  have hb0 : Below w.heap.size w (w.alloc (.cells #[.string ⟨#[]⟩, .string ⟨#[]⟩, .slice none 0 0] 24)) := (Below.refl _ _).alloc (Nat.le_refl _) _
  have R0 : Hid (S3 (w.alloc (.cells #[.string ⟨#[]⟩, .string ⟨#[]⟩, .slice none 0 0] 24)) w.heap.size (.string ⟨#[]⟩) (.string ⟨#[]⟩) (.slice none 0 0)) := S3.new _ _ _ _ _
  by_cases h4 : 400 < s.size
  · have HE : Hid _ := rdE_long s.data.toList h4
    have HR : Hid _ := rdR_bad s.data.toList (by rw [HE.out]; decide)
    rw [HE.out, HR.out]
    go_enter Try.func5, Try.ntmps5
    go_wp2_with fail
    exact bodyPost_ret (v := .tuple #[.agg #[.string (txt []), .string (txt []), .slice none 0 0], .int .i64 2]) (by simp [results, Try.results5, go_sem]; rfl) rfl ⟨_, rfl, rows_nil _ _, hb0⟩
  · have HL : Hid (¬ 400 < s.data.toList.length) := h4
    cases hb : hasP barU s.data.toList
    · have HB : Hid _ := hb
      have hp16 : (s.size + 1) * 16 ≤ 140737488355328 := by omega
      obtain ⟨hp, hhp⟩ : ∃ x, x = headP s.data.toList := ⟨_, rfl⟩
      obtain ⟨tp, htp⟩ : ∃ x, x = tailP s.data.toList := ⟨_, rfl⟩
      obtain ⟨n, hn⟩ : ∃ x, x = nameL hp := ⟨_, rfl⟩
      obtain ⟨z, hz⟩ : ∃ x, x = hasB hp 61 := ⟨_, rfl⟩
      have HHP : Hid _ := hhp
      have HTP : Hid _ := htp
      have HN : Hid _ := hn
      have HZ : Hid _ := hz
      have HPL : Hid ((txt hp).size ≤ maxLen) := Nat.le_trans (by rw [hhp]; exact headP_len s.data.toList) HS.out
      have HTL : Hid (∀ p ∈ tp, p.length ≤ maxLen) := fun p hp => Nat.le_trans (tailP_len s.data.toList p (by rw [← htp]; exact hp)) HS.out
      have htf : tp.length ≤ 400 := Nat.le_trans (by rw [htp]; exact tailP_few s.data.toList) (show s.size ≤ 400 by omega)
      have HPA : Hid (partsL s.data.toList 59 = hp :: tp) := by show _ = _; rw [hhp, htp]; exact parts_ht _
      clear hb hhp htp hn hz
      go_enter Try.func5, Try.ntmps5
      go_wp2_with (go_at_call 10; refine (has_barred _ _ HS.out).mono ?_; rw [HB.out]; rintro e w' ⟨rfl, rfl⟩)
      refine (parts_any s 59 _ hp16).mono ?_
      rw [HPA.out]
      rintro e w1 ⟨v, rfl, hown, hb1⟩
      have R1 : Hid _ := R0.out.below hb1 (by simp)
      obtain ⟨hlen, (⟨_, hbad⟩ | ⟨g, cap, cur, rfl, hg, hcur, hn1, hcap, hcs, htk⟩)⟩ := hown
      · cases hbad
      have hn2 : tp.length + 1 ≤ cap := hn1
      have hown : w1.ownsRow (w.alloc (.cells #[.string ⟨#[]⟩, .string ⟨#[]⟩, .slice none 0 0] 24)).heap.size 9 1 (.slice (some ⟨g, 0, none⟩) (tp.length + 1) cap) (tp.length + 1) (strs (hp :: tp)) := ⟨hlen, .inr ⟨g, cap, cur, rfl, hg, hcur, hn1, hcap, hcs, htk⟩⟩
      have HO : Hid (∀ (j : Nat) x, (strs (hp :: tp))[j]? = some x → w1.cell? ⟨g, j, none⟩ = some x) := fun j x hj => by
        have hlt := (List.getElem?_eq_some_iff.1 hj).1
        rw [strs_length] at hlt
        rw [hown.cellAt j (by simp at hlt; omega), hj]
      have hc0 : w1.cell? ⟨g, 0, none⟩ = some (.string (txt hp)) := by rw [hown.cellAt 0 (by omega)]; rfl
      have hgl : g < w1.heap.size := cell_in hc0
      clear hown hlen hcur hcs htk hn1
      rw [show (hp :: tp).length = tp.length + 1 from rfl]
      go_wp2_with fail
      refine (pair_any _ _ HPL.out).mono ?_
      rw [txt_toList, ← HN.out, ← HZ.out]
      rintro e w2 ⟨rfl, q, rfl⟩
      obtain ⟨c0, c1, c2, f0, f1, f2⟩ := R1.out
      have hb2 : Below w.heap.size w (w1.drewN q) := (hb0.trans (hb1.mono (by simp))).trans (below_drewN' _ _ q)
      by_cases hbad : (!z || (n == [])) = true
      · have HE : Hid (rdE s.data.toList = 1) := rdE_head _ HL.out HB.out (by rw [← HHP.out, ← HN.out, ← HZ.out]; exact hbad)
        have HR : Hid _ := rdR_bad s.data.toList (by rw [HE.out]; decide)
        have RR := S3.set3 (R1.out.drewN q) (.string ⟨#[]⟩) (.string ⟨#[]⟩) (.slice none 0 0)
        cases z
        · clear hbad
          go_wp2_with fail
          exact bodyPost_ret (v := .tuple #[.agg #[.string (txt []), .string (txt []), .slice none 0 0], .int .i64 1]) (by simp [results, Try.results5, go_sem, RR.c0, RR.c1, RR.c2]; rfl) rfl ⟨_, by rw [HE.out, HR.out], by rw [HR.out]; exact rows_nil _ _, ((hb2.setCell (Nat.le_refl _) _).setCell (Nat.le_refl _) _).setCell (Nat.le_refl _) _⟩
        · have hne : ((txt n).toList == []) = true := nil_t n (by simpa using hbad)
          clear hbad
          go_wp2_with fail
          exact bodyPost_ret (v := .tuple #[.agg #[.string (txt []), .string (txt []), .slice none 0 0], .int .i64 1]) (by simp [results, Try.results5, go_sem, RR.c0, RR.c1, RR.c2]; rfl) rfl ⟨_, by rw [HE.out, HR.out], by rw [HR.out]; exact rows_nil _ _, ((hb2.setCell (Nat.le_refl _) _).setCell (Nat.le_refl _) _).setCell (Nat.le_refl _) _⟩
      · have HE : Hid _ := rdE_tail s.data.toList HL.out HB.out (by rw [← HHP.out, ← HN.out, ← HZ.out]; simpa using hbad)
        rw [← HTP.out] at HE
        simp only [Bool.or_eq_true, Bool.not_eq_true', beq_iff_eq, not_or, Bool.not_eq_false] at hbad
        obtain ⟨rfl, hnn⟩ := hbad
        have hne : ((txt n).toList == []) = false := nil_f n hnn
        clear hnn
        have hrd : Hid (∀ cp, Reads (w1.drewN q) (.slice (some ⟨g, 1, none⟩) tp.length cp) tp.length (strs tp)) := fun cp => ⟨_, _, rfl, .inr ⟨g, 1, rfl, fun j x hj => HO.out (1 + j) x (by
          rw [Nat.add_comm]; simpa [strs] using hj)⟩⟩
        have hrn : Hid (cap ≤ 1 → ∀ ad cp, Reads (w1.drewN q) (.slice ad 0 cp) tp.length (strs tp)) := fun h ad cp => by
          have : tp = [] := List.length_eq_zero_iff.1 (by omega)
          rw [this]; exact ⟨_, _, rfl, .inl rfl⟩
        clear hc0 c0 c1 c2 f0 f1 f2
        rcases Nat.lt_or_ge 1 cap with hc1 | hc1
        · go_wp2_with fail
          refine (readAttrs_any _ tp _ (hrd.out _) (by omega) HTL.out).mono ?_
          rintro e w3 ⟨v3, rfl, hown3, hb3⟩
          have R3' : Hid (S3 w3 w.heap.size _ _ _) := S3.below (R1.out.drewN q) hb3 R1.out.lt
          have hb4 : Below w.heap.size w w3 := next hb2 hb3
          have hlt0 : w.heap.size < (w1.drewN q).heap.size := R1.out.lt
          have H4 : Hid (Below w.heap.size w w3) := hb4
          obtain ⟨ad3, cap3, hv3⟩ := Rows.shape (f := attrF) (l := attrsL tp) (Reads.of_own hown3)
          subst hv3
          have HO3 : Hid (World.ownsRow w3 _ _ _ _ _ _) := hown3
          obtain ⟨c0, c1, c2, f0, f1, f2⟩ := R3'.out
          clear hown3 hb3 hb4 hb1 hb0
          by_cases h12 : 12 < (attrsL tp).length
          · have HE2 : Hid (rdE s.data.toList = 2) := by show _ = _; rw [HE.out, if_pos h12]
            have HR : Hid _ := rdR_bad s.data.toList (by rw [HE2.out]; decide)
            have RR := S3.set3 R3'.out (.string ⟨#[]⟩) (.string ⟨#[]⟩) (.slice none 0 0)
            go_wp2_with fail
            exact bodyPost_ret (v := .tuple #[.agg #[.string (txt []), .string (txt []), .slice none 0 0], .int .i64 2]) (by simp [results, Try.results5, go_sem, RR.c0, RR.c1, RR.c2]; rfl) rfl ⟨_, by rw [HE2.out, HR.out], by rw [HR.out]; exact rows_nil _ _, ((H4.out.setCell (Nat.le_refl _) _).setCell (Nat.le_refl _) _).setCell (Nat.le_refl _) _⟩
          · have HE2 : Hid (rdE s.data.toList = 0) := by show _ = _; rw [HE.out, if_neg h12]
            have HR : Hid _ := rdR_ok s.data.toList HE2.out
            have RR := S3.set3 R3'.out (.string (txt n)) (.string (txt (valueL hp))) (.slice ad3 (attrsL tp).length cap3)
            go_wp2_with fail
            exact bodyPost_ret (v := .tuple #[.agg #[.string (txt n), .string (txt (valueL hp)), .slice ad3 (attrsL tp).length cap3], .int .i64 0]) (by simp [results, Try.results5, go_sem, RR.c0, RR.c1, RR.c2]) rfl ⟨_, by rw [HE2.out, HR.out, HN.out, HHP.out], by rw [HR.out, ← HTP.out]; exact Reads.of_own (own_setCell (own_setCell (own_setCell HO3.out hlt0) hlt0) hlt0), ((H4.out.setCell (Nat.le_refl _) _).setCell (Nat.le_refl _) _).setCell (Nat.le_refl _) _⟩
        · obtain rfl : cap = 1 := by omega
          go_wp2_with fail
          refine (readAttrs_any _ tp _ (hrn.out (by omega) _ _) (by omega) HTL.out).mono ?_
          rintro e w3 ⟨v3, rfl, hown3, hb3⟩
          have R3' : Hid (S3 w3 w.heap.size _ _ _) := S3.below (R1.out.drewN q) hb3 R1.out.lt
          have hb4 : Below w.heap.size w w3 := next hb2 hb3
          have hlt0 : w.heap.size < (w1.drewN q).heap.size := R1.out.lt
          have H4 : Hid (Below w.heap.size w w3) := hb4
          obtain ⟨ad3, cap3, hv3⟩ := Rows.shape (f := attrF) (l := attrsL tp) (Reads.of_own hown3)
          subst hv3
          have HO3 : Hid (World.ownsRow w3 _ _ _ _ _ _) := hown3
          obtain ⟨c0, c1, c2, f0, f1, f2⟩ := R3'.out
          clear hown3 hb3 hb4 hb1 hb0
          by_cases h12 : 12 < (attrsL tp).length
          · have HE2 : Hid (rdE s.data.toList = 2) := by show _ = _; rw [HE.out, if_pos h12]
            have HR : Hid _ := rdR_bad s.data.toList (by rw [HE2.out]; decide)
            have RR := S3.set3 R3'.out (.string ⟨#[]⟩) (.string ⟨#[]⟩) (.slice none 0 0)
            go_wp2_with fail
            exact bodyPost_ret (v := .tuple #[.agg #[.string (txt []), .string (txt []), .slice none 0 0], .int .i64 2]) (by simp [results, Try.results5, go_sem, RR.c0, RR.c1, RR.c2]; rfl) rfl ⟨_, by rw [HE2.out, HR.out], by rw [HR.out]; exact rows_nil _ _, ((H4.out.setCell (Nat.le_refl _) _).setCell (Nat.le_refl _) _).setCell (Nat.le_refl _) _⟩
          · have HE2 : Hid (rdE s.data.toList = 0) := by show _ = _; rw [HE.out, if_neg h12]
            have HR : Hid _ := rdR_ok s.data.toList HE2.out
            have RR := S3.set3 R3'.out (.string (txt n)) (.string (txt (valueL hp))) (.slice ad3 (attrsL tp).length cap3)
            go_wp2_with fail
            exact bodyPost_ret (v := .tuple #[.agg #[.string (txt n), .string (txt (valueL hp)), .slice ad3 (attrsL tp).length cap3], .int .i64 0]) (by simp [results, Try.results5, go_sem, RR.c0, RR.c1, RR.c2]) rfl ⟨_, by rw [HE2.out, HR.out, HN.out, HHP.out], by rw [HR.out, ← HTP.out]; exact Reads.of_own (own_setCell (own_setCell (own_setCell HO3.out hlt0) hlt0) hlt0), ((H4.out.setCell (Nat.le_refl _) _).setCell (Nat.le_refl _) _).setCell (Nat.le_refl _) _⟩
    · have HB : Hid _ := hb
      have HE : Hid _ := rdE_bar s.data.toList h4 hb
      have HR : Hid _ := rdR_bad s.data.toList (by rw [HE.out]; decide)
      rw [HE.out, HR.out]
      clear hb
      go_enter Try.func5, Try.ntmps5
      go_wp2_with (go_at_call 10; refine (has_barred _ _ HS.out).mono ?_; rw [HB.out]; rintro e w' ⟨rfl, rfl⟩)
      exact bodyPost_ret (v := .tuple #[.agg #[.string (txt []), .string (txt []), .slice none 0 0], .int .i64 1]) (by simp [results, Try.results5, go_sem]; rfl) rfl ⟨_, rfl, rows_nil _ _, hb0⟩
end Go.Proofs.Ytjoailjedfbnbae
