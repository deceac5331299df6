/- The contract of Check. -/
import Derived.Test.YtgjjkieljdamfafDoorHeaderC
namespace Go.Proofs.YtgjjkieljdamfafDoor
open Go.RowKit
set_option linter.all false
set_option maxRecDepth 100000

theorem check_attr (r : Raw) (k : Nat) (a : Attr) (h : r.2.2[k]? = some a) (ha : attrOk a = false) : checkL r = 1 := by
  unfold checkL rawOk
  rw [show r.2.2.all attrOk = false from by rw [List.all_eq_false]; exact ⟨a, List.mem_of_getElem? h, by simp [ha]⟩]
  simp
theorem check_head (r : Raw) (h : headOk r = false) : checkL r = 1 := by
  unfold checkL rawOk; rw [h]; simp
theorem check_rest (r : Raw) (h : headOk r = true) (ha : ∀ (j : Nat) a, r.2.2[j]? = some a → attrOk a = true) : checkL r = if 12 < r.2.2.length then 2 else 0 := by
  unfold checkL rawOk
  rw [h, show r.2.2.all attrOk = true from by rw [List.all_eq_true]; intro a h; obtain ⟨j, hj⟩ := List.getElem?_of_mem h; exact ha j a hj]
  simp
theorem whole_as {s ends : ByteArray} {b : Bool} {w : World} (h : wholeL ends.data.toList s.data.toList = b) (hs : s.size ≤ maxLen) (he : ends.size ≤ 9) :
    Calls Tryd.prog 30 #[.string s, .string ends] w fun e w' => e = .returned (.bool b) ∧ Below w.heap.size w w' := by
  subst h; exact whole_any s ends w hs he
theorem fold_as (n f : List UInt8) (h : f = foldL n) (hs : (txt n).size ≤ maxLen) (w : World) :
    Calls Tryd.prog 31 #[.string (txt n)] w fun e w' => e = .returned (.string (txt f)) ∧ Below w.heap.size w w' := by
  subst h; exact fold_any (txt n) w hs
set_option maxHeartbeats 4000000 in
theorem hCheck_any (va : Value) (r : Raw) (w : World) (hr : Rows w va attrF r.2.2) (hm : r.2.2.length ≤ maxLen) (hn : r.1.length ≤ maxLen) (hv : r.2.1.length ≤ maxLen) (ha : ∀ a ∈ r.2.2, a.1.length ≤ maxLen ∧ a.2.length ≤ maxLen) :
    Calls Tryd.prog 17 #[.agg #[.string (txt r.1), .string (txt r.2.1), va]] w fun e w' => e = .returned (.int .i64 (checkL r)) ∧ Below w.heap.size w w' := by
  have HM : Hid _ := hm
  have HA : Hid _ := ha
  have HR : Hid _ := hr
  have HHm : Hid ((txt r.1).size ≤ maxLen) := hn
  have HHv : Hid ((txt r.2.1).size ≤ maxLen) := hv
  obtain ⟨ad, cap, rfl⟩ := hr.shape
  unfold maxLen at hm
  clear ha hr hn hv
  obtain ⟨n, hnn⟩ : ∃ x, x = r.1 := ⟨_, rfl⟩
  obtain ⟨v, hvv⟩ : ∃ x, x = r.2.1 := ⟨_, rfl⟩
  obtain ⟨m, hmm⟩ : ∃ x, x = r.2.2.length := ⟨_, rfl⟩
  rw [← hnn, ← hvv, ← hmm]
  rw [← hnn] at HHm
  rw [← hvv] at HHv
  rw [← hmm] at hm
  have HHH : Hid (headOk r = (!(n == []) && wholeL [61, 59] n && wholeL [59] v)) := by show _ = _; unfold headOk; rw [← hnn, ← hvv]
  have HMM : Hid _ := hmm
  clear hnn hvv hmm
  have hb0 : Below w.heap.size w (w.alloc (.cells #[.string (txt n), .string (txt v), .slice ad m cap] 25)) := (Below.refl _ _).alloc (Nat.le_refl _) _
  have R0 : Hid (S3 (w.alloc (.cells #[.string (txt n), .string (txt v), .slice ad m cap] 25)) w.heap.size (.string (txt n)) (.string (txt v)) (.slice ad m cap)) := S3.new _ _ _ _ _
  by_cases h1 : n = []
  · have hne := nil_t n h1
    have HT : Hid (checkL r = 1) := check_head r (by rw [HHH.out, h1]; rfl)
    clear h1
    go_enter Tryd.func17, Tryd.ntmps17
    go_wp2_with fail
    go_ret
    refine ⟨?_, hb0⟩
    rw [HT.out]; rfl
  · have hne := nil_f n h1
    cases h2 : wholeL [61, 59] n
    · have H2 : Hid (wholeL (⟨#[61, 59]⟩ : ByteArray).data.toList (txt n).data.toList = false) := h2
      have HT : Hid (checkL r = 1) := check_head r (by rw [HHH.out, h2]; simp)
      clear h1 h2
      go_enter Tryd.func17, Tryd.ntmps17
      go_wp2_with fail
      refine (whole_as H2.out HHm.out (by decide)).mono ?_
      rintro e w1 ⟨rfl, hb1⟩
      go_wp2_with fail
      go_ret
      refine ⟨?_, next hb0 hb1⟩
      rw [HT.out]; rfl
    · have H2 : Hid (wholeL (⟨#[61, 59]⟩ : ByteArray).data.toList (txt n).data.toList = true) := h2
      cases h3 : wholeL [59] v
      · have H3 : Hid (wholeL (⟨#[59]⟩ : ByteArray).data.toList (txt v).data.toList = false) := h3
        have HT : Hid (checkL r = 1) := check_head r (by rw [HHH.out, h3]; simp)
        clear h1 h2 h3
        go_enter Tryd.func17, Tryd.ntmps17
        go_wp2_with fail
        refine (whole_as H2.out HHm.out (by decide)).mono ?_
        rintro e w1 ⟨rfl, hb1⟩
        have R1 : Hid _ := R0.out.below hb1 (by simp)
        obtain ⟨c0, c1, c2, f0, f1, f2⟩ := R1.out
        go_wp2_with fail
        refine (whole_as H3.out HHv.out (by decide)).mono ?_
        rintro e w2 ⟨rfl, hb2⟩
        go_wp2_with fail
        go_ret
        refine ⟨?_, next (next hb0 hb1) hb2⟩
        rw [HT.out]; rfl
      · have H3 : Hid (wholeL (⟨#[59]⟩ : ByteArray).data.toList (txt v).data.toList = true) := h3
        have HOK : Hid (headOk r = true) := by show _ = _; rw [HHH.out, h2, h3]; simp [h1]
        clear h1 h2 h3
        go_enter Tryd.func17, Tryd.ntmps17
        go_wp2_with fail
        refine (whole_as H2.out HHm.out (by decide)).mono ?_
        rintro e w1 ⟨rfl, hb1⟩
        have R1 : Hid _ := R0.out.below hb1 (by simp)
        obtain ⟨c0, c1, c2, f0, f1, f2⟩ := R1.out
        go_wp2_with fail
        refine (whole_as H3.out HHv.out (by decide)).mono ?_
        rintro e w2 ⟨rfl, hb2⟩
        have R2 : Hid (S3 w2 w.heap.size (.string (txt n)) (.string (txt v)) (.slice ad m cap)) := R1.out.below hb2 R1.out.lt
        have B2 : Hid (Below w.heap.size w w2) := next (next hb0 hb1) hb2
        have HR2 : Hid (Rows w2 (.slice ad m cap) attrF r.2.2) := by rw [HMM.out]; exact Rows.below HR.out B2.out (Nat.le_refl _)
        clear c0 c1 c2 f0 f1 f2 hb0 hb1 hb2 R0 R1 HR
        obtain ⟨c0, c1, c2, f0, f1, f2⟩ := R2.out
        go_wp2_with fail
        go_loopw [23] (fun i wr => ∃ k : Nat, k ≤ m ∧ i = .int .i64 k ∧ Below w2.heap.size w2 wr ∧ Hid (∀ (j : Nat) a, r.2.2[j]? = some a → j < k → attrOk a = true)) (fun i _ => m - (intOf i).toNat)
        case atStart => exact ⟨0, Nat.zero_le _, rfl, Below.refl _ _, fun _ _ _ h => absurd h (by omega)⟩
        case round =>
          clear c0 c1 c2 f0 f1 f2
          obtain ⟨k, hk, rfl, hb, hall⟩ := hrel
          have R3 : Hid (S3 wr w.heap.size (.string (txt n)) (.string (txt v)) (.slice ad m cap)) := R2.out.below hb R2.out.lt
          obtain ⟨c0, c1, c2, f0, f1, f2⟩ := R3.out
          by_cases hlt : k < m
          · skip
            obtain ⟨⟨an, av⟩, hak⟩ : ∃ a, r.2.2[k]? = some a := ⟨_, List.getElem?_eq_getElem (by rw [← HMM.out]; exact hlt)⟩
            have HK : Hid _ := hak
            obtain ⟨b, off, rfl, hbl, hcl⟩ := Rows.at HR2.out rfl 1 attrF_len k _ hak
            have d0 := (hb.cell (p := ⟨b, off + k * 2 + 0, none⟩) hbl).trans (hcl 0 _ rfl)
            have d1 := (hb.cell (p := ⟨b, off + k * 2 + 1, none⟩) hbl).trans (hcl 1 _ rfl)
            rw [Nat.add_zero] at d0
            have HAN : Hid ((txt an).size ≤ maxLen) := (HA.out _ (List.mem_of_getElem? hak)).1
            have HAV : Hid ((txt av).size ≤ maxLen) := (HA.out _ (List.mem_of_getElem? hak)).2
            have y0 : ∀ x : Ext (wr.alloc (.cells #[.string (txt an), .string (txt av)] 29)), x.1.cell? ⟨wr.heap.size, 0, none⟩ = some (.string (txt an)) := Ext.cell (by simp)
            have y1 : ∀ x : Ext (wr.alloc (.cells #[.string (txt an), .string (txt av)] 29)), x.1.cell? ⟨wr.heap.size, 1, none⟩ = some (.string (txt av)) := Ext.cell (by simp)
            have hb3 : Below w.heap.size w (wr.alloc (.cells #[.string (txt an), .string (txt av)] 29)) := (next B2.out hb).alloc (Nat.le_trans B2.out.size hb.size) _
            obtain ⟨fn, hfn⟩ : ∃ x, x = foldL an := ⟨_, rfl⟩
            have KF : Hid (∀ W : World, Calls Tryd.prog 31 #[.string (txt an)] W fun e w' => e = .returned (.string (txt fn)) ∧ Below W.heap.size W w') := fun W => fold_as an fn hfn HAN.out W
            clear hak hcl
            have HQ : Hid (attrOk (an, av) = (!(an == []) && (an == fn) && wholeL [61, 59] an && wholeL [59] av)) := by show _ = _; unfold attrOk; rw [hfn]
            clear hfn
            by_cases g1 : an = []
            · have z1 := nil_t an g1
              have HT : Hid (checkL r = 1) := check_attr r k _ HK.out (by rw [HQ.out, g1]; rfl)
              clear g1
              go_wp2_with fail
              refine wp_region_ext (by kernel_rfl) (by kernel_rfl) ?_
              repeat (go_big_quiet_step (first | rfl | (go_at_call 31; exact ext_call (KF.out _)) | (go_at_call 30; exact ext_call (whole_as (by assumption) (by assumption) (by decide)))))
              refine wpQuiet_nil ?_
              intro wx hwx
              obtain ⟨x, rfl⟩ := hwx
              go_wp2_with fail
              go_ret
              refine ⟨?_, hb3.trans (x.2.mono hb3.size)⟩
              rw [HT.out]; rfl
            · have z1 := nil_f an g1
              by_cases g2 : an = fn
              · have z2 := same_t an fn g2
                have z2' : ((txt an).toList != (txt fn).toList) = false := by simp only [bne, z2]; rfl
                cases g3 : wholeL [61, 59] an
                · have q3 : Hid (wholeL (⟨#[61, 59]⟩ : ByteArray).data.toList (txt an).data.toList = false) := g3
                  have HT : Hid (checkL r = 1) := check_attr r k _ HK.out (by rw [HQ.out, g3]; simp)
                  clear g1 g2 g3
                  go_wp2_with fail
                  refine wp_region_ext (by kernel_rfl) (by kernel_rfl) ?_
                  repeat (go_big_quiet_step (first | rfl | (go_at_call 31; exact ext_call (KF.out _)) | (go_at_call 30; exact ext_call (whole_as (by assumption) (by assumption) (by decide)))))
                  refine wpQuiet_nil ?_
                  intro wx hwx
                  obtain ⟨x, rfl⟩ := hwx
                  go_wp2_with fail
                  go_ret
                  refine ⟨?_, hb3.trans (x.2.mono hb3.size)⟩
                  rw [HT.out]; rfl
                · have q3 : Hid (wholeL (⟨#[61, 59]⟩ : ByteArray).data.toList (txt an).data.toList = true) := g3
                  cases g4 : wholeL [59] av
                  · have q4 : Hid (wholeL (⟨#[59]⟩ : ByteArray).data.toList (txt av).data.toList = false) := g4
                    have HT : Hid (checkL r = 1) := check_attr r k _ HK.out (by rw [HQ.out, g4]; simp)
                    clear g1 g2 g3 g4
                    go_wp2_with fail
                    refine wp_region_ext (by kernel_rfl) (by kernel_rfl) ?_
                    repeat (go_big_quiet_step (first | rfl | (go_at_call 31; exact ext_call (KF.out _)) | (go_at_call 30; exact ext_call (whole_as (by assumption) (by assumption) (by decide)))))
                    refine wpQuiet_nil ?_
                    intro wx hwx
                    obtain ⟨x, rfl⟩ := hwx
                    go_wp2_with fail
                    go_ret
                    refine ⟨?_, hb3.trans (x.2.mono hb3.size)⟩
                    rw [HT.out]; rfl
                  · have q4 : Hid (wholeL (⟨#[59]⟩ : ByteArray).data.toList (txt av).data.toList = true) := g4
                    have HT : Hid (attrOk (an, av) = true) := by show _ = _; rw [HQ.out, g3, g4, ← g2]; simp [g1]
                    clear g1 g2 g3 g4
                    go_wp2_with fail
                    refine wp_region_ext (by kernel_rfl) (by kernel_rfl) ?_
                    repeat (go_big_quiet_step (first | rfl | (go_at_call 31; exact ext_call (KF.out _)) | (go_at_call 30; exact ext_call (whole_as (by assumption) (by assumption) (by decide)))))
                    refine wpQuiet_nil ?_
                    intro wx hwx
                    obtain ⟨x, rfl⟩ := hwx
                    go_wp2_with fail
                    go_roundw
                    case rel =>
                      refine ⟨k + 1, by omega, by go_num, ?_, fun j a hj hlt2 => ?_⟩
                      · exact (hb.alloc hb.size _).trans (x.2.mono (Nat.le_trans hb.size (by simp)))
                      · by_cases e : j = k
                        · subst e
                          rw [HK.out] at hj
                          injection hj with hj
                          rw [← hj]; exact HT.out
                        · exact hall.out j a hj (by omega)
                    case measure => simp [intOf]; omega
              · have z2 := same_f an fn g2
                have z2' : ((txt an).toList != (txt fn).toList) = true := by simp only [bne, z2]; rfl
                have HT : Hid (checkL r = 1) := check_attr r k _ HK.out (by rw [HQ.out, beq_eq_false_iff_ne.2 g2]; simp)
                clear g1 g2
                go_wp2_with fail
                refine wp_region_ext (by kernel_rfl) (by kernel_rfl) ?_
                repeat (go_big_quiet_step (first | rfl | (go_at_call 31; exact ext_call (KF.out _)) | (go_at_call 30; exact ext_call (whole_as (by assumption) (by assumption) (by decide)))))
                refine wpQuiet_nil ?_
                intro wx hwx
                obtain ⟨x, rfl⟩ := hwx
                go_wp2_with fail
                go_ret
                refine ⟨?_, hb3.trans (x.2.mono hb3.size)⟩
                rw [HT.out]; rfl
          · skip
            have HT : Hid _ := check_rest r HOK.out (fun j a hj => hall.out j a hj (by have := (List.getElem?_eq_some_iff.1 hj).1; rw [← HMM.out] at this; omega))
            rw [← HMM.out] at HT
            by_cases h12 : 12 < m
            · have HT2 : Hid (checkL r = 2) := by show _ = _; rw [HT.out, if_pos h12]
              go_wp2_with fail
              go_ret
              refine ⟨?_, next B2.out hb⟩
              rw [HT2.out]; rfl
            · have HT2 : Hid (checkL r = 0) := by show _ = _; rw [HT.out, if_neg h12]
              go_wp2_with fail
              go_ret
              refine ⟨?_, next B2.out hb⟩
              rw [HT2.out]; rfl
end Go.Proofs.YtgjjkieljdamfafDoor
