/- The contract: are two cookies as headers tell them one? -/
import Derived.Test.YtjoailjedfbnbaeHeaderF
namespace Go.Proofs.Ytjoailjedfbnbae
open Go.RowKit
set_option linter.all false

theorem raw_ne0 {a b : Raw} (h : ¬ a.1 = b.1) : decide (a = b) = false := decide_eq_false (fun e => h (by rw [e]))
theorem raw_ne1 {a b : Raw} (h : ¬ a.2.1 = b.2.1) : decide (a = b) = false := decide_eq_false (fun e => h (by rw [e]))
theorem raw_ne2 {a b : Raw} (h : ¬ a.2.2.length = b.2.2.length) : decide (a = b) = false := decide_eq_false (fun e => h (by rw [e]))
theorem raw_ne3 {a b : Raw} (k : Nat) (x y : Attr) (hx : a.2.2[k]? = some x) (hy : b.2.2[k]? = some y) (h : ¬ x = y) : decide (a = b) = false :=
  decide_eq_false (fun e => h (by subst e; rw [hx] at hy; injection hy))
theorem raw_eq {a b : Raw} (h0 : a.1 = b.1) (h1 : a.2.1 = b.2.1) (hl : a.2.2.length = b.2.2.length) (h : ∀ (j : Nat) x y, a.2.2[j]? = some x → b.2.2[j]? = some y → x = y) : decide (a = b) = true := by
  refine decide_eq_true (Prod.ext h0 (Prod.ext h1 ?_))
  apply List.ext_getElem?
  intro j
  rcases Nat.lt_or_ge j a.2.2.length with hj | hj
  · have e1 := List.getElem?_eq_getElem hj
    have e2 := List.getElem?_eq_getElem (l := b.2.2) (i := j) (by omega)
    rw [e1, e2, h j _ _ e1 e2]
  · rw [List.getElem?_eq_none hj, List.getElem?_eq_none (by omega)]
set_option maxHeartbeats 2000000 in
theorem sameRaw_any (va vb : Value) (a b : Raw) (w : World) (ha : Rows w va attrF a.2.2) (hb : Rows w vb attrF b.2.2) (hma : a.2.2.length ≤ maxLen) (hmb : b.2.2.length ≤ maxLen) :
    Calls Try.prog 7 #[.agg #[.string (txt a.1), .string (txt a.2.1), va], .agg #[.string (txt b.1), .string (txt b.2.1), vb]] w fun e w' => e = .returned (.bool (decide (a = b))) ∧ Below w.heap.size w w' := by
  have HRA : Hid (Rows w va attrF a.2.2) := ha
  have HRB : Hid (Rows w vb attrF b.2.2) := hb
  obtain ⟨ada, capa, rfl⟩ := ha.shape
  obtain ⟨adb, capb, rfl⟩ := hb.shape
  unfold maxLen at hma hmb
  clear ha hb
  obtain ⟨an, han⟩ : ∃ x, x = a.1 := ⟨_, rfl⟩
  obtain ⟨av, hav⟩ : ∃ x, x = a.2.1 := ⟨_, rfl⟩
  obtain ⟨bn, hbn⟩ : ∃ x, x = b.1 := ⟨_, rfl⟩
  obtain ⟨bv, hbv⟩ : ∃ x, x = b.2.1 := ⟨_, rfl⟩
  obtain ⟨ma, hmma⟩ : ∃ x, x = a.2.2.length := ⟨_, rfl⟩
  obtain ⟨mb, hmmb⟩ : ∃ x, x = b.2.2.length := ⟨_, rfl⟩
  rw [← han, ← hav, ← hbn, ← hbv, ← hmma, ← hmmb]
  rw [← hmma] at hma
  rw [← hmmb] at hmb
  have HRA : Hid (Rows w (.slice ada ma capa) attrF a.2.2) := by rw [hmma]; exact HRA.out
  have HRB : Hid (Rows w (.slice adb mb capb) attrF b.2.2) := by rw [hmmb]; exact HRB.out
  obtain ⟨W0, hW0⟩ : ∃ W, W = (w.alloc (.cells #[.string (txt an), .string (txt av), .slice ada ma capa] 24)) := ⟨_, rfl⟩
  have hb0 : Below w.heap.size w W0 := by rw [hW0]; exact (Below.refl _ _).alloc (Nat.le_refl _) _
  have hb1 : Below w.heap.size w (W0.alloc (.cells #[.string (txt bn), .string (txt bv), .slice adb mb capb] 24)) := hb0.alloc hb0.size _
  have A0 : S3 W0 w.heap.size (.string (txt an)) (.string (txt av)) (.slice ada ma capa) := by rw [hW0]; exact S3.new _ _ _ _ _
  have A1 : Hid (S3 (W0.alloc (.cells #[.string (txt bn), .string (txt bv), .slice adb mb capb] 24)) w.heap.size (.string (txt an)) (.string (txt av)) (.slice ada ma capa)) := A0.below ((Below.refl W0.heap.size W0).alloc (Nat.le_refl _) _) A0.lt
  have B1 : Hid (S3 (W0.alloc (.cells #[.string (txt bn), .string (txt bv), .slice adb mb capb] 24)) W0.heap.size (.string (txt bn)) (.string (txt bv)) (.slice adb mb capb)) := S3.new _ _ _ _ _
  subst hW0
  clear A0 hb0
  obtain ⟨q, hq⟩ : ∃ q, q = decide (a = b) := ⟨_, rfl⟩
  rw [← hq]
  have HQ : Hid _ := hq
  clear hq
  by_cases h0 : an = bn
  · have z0 := same_t an bn h0
    have z0' : ((txt an).toList != (txt bn).toList) = false := by simp only [bne, z0]; rfl
    by_cases h1 : av = bv
    · have z1 := same_t av bv h1
      have z1' : ((txt av).toList != (txt bv).toList) = false := by simp only [bne, z1]; rfl
      by_cases h2 : ma = mb
      · have z2 : ((ma : Int) != (mb : Int)) = false := by rw [h2]; simp
        have z2' : ((ma : Int) == (mb : Int)) = true := by rw [h2]; simp
        have HL : Hid (ma = mb) := h2
        have HE0 : Hid (a.1 = b.1) := by rw [← han, ← hbn]; exact h0
        have HE1 : Hid (a.2.1 = b.2.1) := by rw [← hav, ← hbv]; exact h1
        have HA2 : Hid _ := hmma
        have HB2 : Hid _ := hmmb
        clear h0 h1 h2 han hav hbn hbv hmma hmmb
        go_enter Try.func7, Try.ntmps7
        go_wp2_with fail
        go_loopw [5] (fun i wr => ∃ k n : Nat, k ≤ ma ∧ i = .int .i64 k ∧ wr = ((w.alloc (.cells #[.string (txt an), .string (txt av), .slice ada ma capa] 24)).alloc (.cells #[.string (txt bn), .string (txt bv), .slice adb mb capb] 24)).drewN n ∧ Hid (∀ (j : Nat) x y, a.2.2[j]? = some x → b.2.2[j]? = some y → j < k → x = y)) (fun i _ => ma - (intOf i).toNat)
        case atStart => exact ⟨0, 0, Nat.zero_le _, rfl, rfl, fun _ _ _ _ _ h => absurd h (by omega)⟩
        case round =>
          obtain ⟨k, n, hk, rfl, rfl, hall⟩ := hrel
          by_cases hlt : k < ma
          · have hltb : k < mb := by have := HL.out; omega
            obtain ⟨⟨xn, xv⟩, hx⟩ : ∃ x, a.2.2[k]? = some x := ⟨_, List.getElem?_eq_getElem (by rw [← HA2.out]; exact hlt)⟩
            obtain ⟨⟨yn, yv⟩, hy⟩ : ∃ y, b.2.2[k]? = some y := ⟨_, List.getElem?_eq_getElem (by rw [← HB2.out]; exact hltb)⟩
            obtain ⟨ba, oa, rfl, hbla, hcla⟩ := Rows.at HRA.out rfl 1 attrF_len k _ hx
            obtain ⟨bb, ob, rfl, hblb, hclb⟩ := Rows.at HRB.out rfl 1 attrF_len k _ hy
            have d0 := (hb1.cell (p := ⟨ba, oa + k * 2 + 0, none⟩) hbla).trans (hcla 0 _ rfl)
            have d1 := (hb1.cell (p := ⟨ba, oa + k * 2 + 1, none⟩) hbla).trans (hcla 1 _ rfl)
            have e0 := (hb1.cell (p := ⟨bb, ob + k * 2 + 0, none⟩) hblb).trans (hclb 0 _ rfl)
            have e1 := (hb1.cell (p := ⟨bb, ob + k * 2 + 1, none⟩) hblb).trans (hclb 1 _ rfl)
            rw [Nat.add_zero] at d0 e0
            have HX : Hid _ := hx
            have HY : Hid _ := hy
            obtain ⟨c0, c1, c2, f0, f1, f2⟩ := A1.out
            obtain ⟨k0, k1, k2, l0, l1, l2⟩ := B1.out
            clear hx hy hcla hclb
            by_cases g0 : xn = yn
            · by_cases g1 : xv = yv
              · subst g0 g1
                go_wp2_with fail
                go_quiet (fail)
                go_wp2_with fail
                go_roundw
                case rel =>
                  refine ⟨k + 1, _, by omega, by go_num, by first | rfl | exact World.drewN_drewN _ _ _, fun j x y hj hj2 hlt2 => ?_⟩
                  by_cases e : j = k
                  · subst e
                    rw [HX.out] at hj
                    rw [HY.out] at hj2
                    injection hj with hj
                    injection hj2 with hj2
                    rw [← hj, ← hj2]
                  · exact hall.out j x y hj hj2 (by omega)
                case measure => simp [intOf]; omega
              · have HT : Hid (q = false) := HQ.out.trans (raw_ne3 k _ _ HX.out HY.out (fun e => g1 (by injection e)))
                have y0 := same_t xn yn g0
                have y1 := same_f xv yv g1
                clear g0 g1
                go_wp2_with fail
                go_quiet (fail)
                go_wp2_with fail
                go_ret
                refine ⟨?_, by first | exact hb1.trans (below_drewN' _ _ _) | exact (hb1.trans (below_drewN' _ _ _)).trans (below_drewN' _ _ _)⟩
                rw [HT.out]; rfl
            · have HT : Hid (q = false) := HQ.out.trans (raw_ne3 k _ _ HX.out HY.out (fun e => g0 (by injection e)))
              have y0 := same_f xn yn g0
              clear g0
              go_wp2_with fail
              go_quiet (fail)
              go_wp2_with fail
              go_ret
              refine ⟨?_, by first | exact hb1.trans (below_drewN' _ _ _) | exact (hb1.trans (below_drewN' _ _ _)).trans (below_drewN' _ _ _)⟩
              rw [HT.out]; rfl
          · have HT : Hid (q = true) := HQ.out.trans (raw_eq HE0.out HE1.out (by rw [← HA2.out, ← HB2.out]; exact HL.out) (fun j x y hj hj2 => hall.out j x y hj hj2 (by have := (List.getElem?_eq_some_iff.1 hj).1; rw [← HA2.out] at this; omega)))
            obtain ⟨c0, c1, c2, f0, f1, f2⟩ := A1.out
            go_wp2_with fail
            go_ret
            refine ⟨?_, by first | exact hb1.trans (below_drewN' _ _ _) | exact (hb1.trans (below_drewN' _ _ _)).trans (below_drewN' _ _ _)⟩
            rw [HT.out]; rfl
      · have HT : Hid (q = false) := HQ.out.trans (raw_ne2 (by rw [← hmma, ← hmmb]; exact h2))
        have z2 : ((ma : Int) != (mb : Int)) = true := by rw [bne_iff_ne]; omega
        have z2' : ((ma : Int) == (mb : Int)) = false := by rw [beq_eq_false_iff_ne]; omega
        obtain ⟨c0, c1, c2, f0, f1, f2⟩ := A1.out
        clear h0 h1 h2 han hav hbn hbv hmma hmmb
        go_enter Try.func7, Try.ntmps7
        go_wp2_with fail
        go_ret
        refine ⟨?_, hb1⟩
        rw [HT.out]; rfl
    · have HT : Hid (q = false) := HQ.out.trans (raw_ne1 (by rw [← hav, ← hbv]; exact h1))
      have z1 := same_f av bv h1
      have z1' : ((txt av).toList != (txt bv).toList) = true := by simp only [bne, z1]; rfl
      obtain ⟨c0, c1, c2, f0, f1, f2⟩ := A1.out
      clear h0 h1 han hav hbn hbv hmma hmmb
      go_enter Try.func7, Try.ntmps7
      go_wp2_with fail
      go_ret
      refine ⟨?_, hb1⟩
      rw [HT.out]; rfl
  · have HT : Hid (q = false) := HQ.out.trans (raw_ne0 (by rw [← han, ← hbn]; exact h0))
    have z0 := same_f an bn h0
    have z0' : ((txt an).toList != (txt bn).toList) = true := by simp only [bne, z0]; rfl
    obtain ⟨c0, c1, c2, f0, f1, f2⟩ := A1.out
    clear h0 han hav hbn hbv hmma hmmb
    go_enter Try.func7, Try.ntmps7
    go_wp2_with fail
    go_ret
    refine ⟨?_, hb1⟩
    rw [HT.out]; rfl
end Go.Proofs.Ytjoailjedfbnbae
