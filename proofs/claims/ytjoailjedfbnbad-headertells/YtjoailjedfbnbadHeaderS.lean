/- The contract of the reference's RawCheck. -/
import Derived.Test.YtjoailjedfbnbadHeaderR
namespace Go.Proofs.Ytjoailjedfbnbad
open Go.RowKit
set_option linter.all false

theorem plain_as {s : ByteArray} {b : Bool} {w : World} (h : plainB s.data.toList = b) (hs : s.size ≤ maxLen) :
    Calls Try.prog 49 #[.string s] w fun e w' => e = .returned (.bool b) ∧ w' = w := by
  subst h; exact plainText_any s w hs
theorem place_as (n : List UInt8) (z : Int) (h : z = Lib.indexByte n 61) (hs : (txt n).size ≤ maxLen) (w : World) :
    Calls Try.prog 50 #[.string (txt n), .int .u8 61] w fun e w' => e = .returned (.int .i64 z) ∧ w' = w := by
  subst h; exact placeOf_any (txt n) 61 w hs
theorem foldOf_as (n f : List UInt8) (h : f = foldL n) (hs : (txt n).size ≤ maxLen) (w : World) :
    Calls Try.prog 46 #[.string (txt n)] w fun e w' => e = .returned (.string (txt f)) ∧ Below w.heap.size w w' := by
  subst h; exact foldOf_any (txt n) w hs
set_option maxHeartbeats 4000000 in
theorem RawCheck_any (va : Value) (r : Raw) (w : World) (hr : Rows w va attrF r.2.2) (hm : r.2.2.length ≤ maxLen) (hn : r.1.length ≤ maxLen) (hv : r.2.1.length ≤ maxLen) (ha : ∀ a ∈ r.2.2, a.1.length ≤ maxLen ∧ a.2.length ≤ maxLen) :
    Calls Try.prog 26 #[.agg #[.string (txt r.1), .string (txt r.2.1), va]] w fun e w' => e = .returned (.int .i64 (checkL r)) ∧ Below w.heap.size w w' := by
  have HM : Hid _ := hm
  have HA : Hid _ := ha
  have HR : Hid (Rows w va attrF r.2.2) := hr
  have HHm : Hid ((txt r.1).size ≤ maxLen) := hn
  have HHv : Hid ((txt r.2.1).size ≤ maxLen) := hv
  obtain ⟨ad, cap, rfl⟩ := hr.shape
  unfold maxLen at hm
  clear ha hr hn hv
  obtain ⟨n, hnn⟩ : ∃ x, x = r.1 := ⟨_, rfl⟩
  obtain ⟨v, hvv⟩ : ∃ x, x = r.2.1 := ⟨_, rfl⟩
  obtain ⟨m, hmm⟩ : ∃ x, x = r.2.2.length := ⟨_, rfl⟩
  obtain ⟨p0, hp0⟩ : ∃ x, x = Lib.indexByte n 61 := ⟨_, rfl⟩
  rw [← hnn, ← hvv, ← hmm]
  rw [← hnn] at HHm
  rw [← hvv] at HHv
  rw [← hmm] at hm
  have HHH : Hid (headOk r = (!(n == []) && (plainB n && decide (p0 < 0)) && plainB v)) := by show _ = _; unfold headOk; rw [← hnn, ← hvv, hp0, ← whole_61]; rfl
  have HMM : Hid _ := hmm
  have HP0 : Hid _ := hp0
  have HR : Hid (Rows w (.slice ad m cap) attrF r.2.2) := by rw [hmm]; exact HR.out
  clear hnn hvv hmm hp0
  have hb0 : Below w.heap.size w (w.alloc (.cells #[.string (txt n), .string (txt v), .slice ad m cap] 34)) := (Below.refl _ _).alloc (Nat.le_refl _) _
  have R0 : Hid (S3 (w.alloc (.cells #[.string (txt n), .string (txt v), .slice ad m cap] 34)) w.heap.size (.string (txt n)) (.string (txt v)) (.slice ad m cap)) := S3.new _ _ _ _ _
  by_cases h1 : n = []
  · have hne := nil_t n h1
    have HT : Hid (checkL r = 1) := check_head r (by rw [HHH.out, h1]; rfl)
    clear h1
    go_enter Try.func26, Try.ntmps26
    go_wp2_with fail
    go_ret
    refine ⟨?_, hb0⟩
    rw [HT.out]; rfl
  · have hne := nil_f n h1
    cases h2 : plainB n
    · have H2 : Hid (plainB (txt n).data.toList = false) := h2
      have HT : Hid (checkL r = 1) := check_head r (by rw [HHH.out, h2]; simp)
      clear h1 h2
      go_enter Try.func26, Try.ntmps26
      go_wp2_with fail
      refine (plain_as H2.out HHm.out).mono ?_
      rintro e w1 ⟨rfl, rfl⟩
      go_wp2_with fail
      go_ret
      refine ⟨?_, hb0⟩
      rw [HT.out]; rfl
    · have H2 : Hid (plainB (txt n).data.toList = true) := h2
      by_cases h3 : 0 ≤ p0
      · have HT : Hid (checkL r = 1) := check_head r (by rw [HHH.out, decide_eq_false (by omega)]; simp)
        clear h1 h2
        go_enter Try.func26, Try.ntmps26
        go_wp2_with fail
        refine (plain_as H2.out HHm.out).mono ?_
        rintro e w1 ⟨rfl, rfl⟩
        go_wp2_with fail
        refine (place_as n p0 HP0.out HHm.out _).mono ?_
        rintro e w1 ⟨rfl, rfl⟩
        go_wp2_with fail
        go_ret
        refine ⟨?_, hb0⟩
        rw [HT.out]; rfl
      · cases h4 : plainB v
        · have H4 : Hid (plainB (txt v).data.toList = false) := h4
          have HT : Hid (checkL r = 1) := check_head r (by rw [HHH.out, h4]; simp)
          clear h1 h2 h4
          go_enter Try.func26, Try.ntmps26
          go_wp2_with fail
          refine (plain_as H2.out HHm.out).mono ?_
          rintro e w1 ⟨rfl, rfl⟩
          go_wp2_with fail
          refine (place_as n p0 HP0.out HHm.out _).mono ?_
          rintro e w1 ⟨rfl, rfl⟩
          go_wp2_with fail
          refine (plain_as H4.out HHv.out).mono ?_
          rintro e w1 ⟨rfl, rfl⟩
          go_wp2_with fail
          go_ret
          refine ⟨?_, hb0⟩
          rw [HT.out]; rfl
        · have H4 : Hid (plainB (txt v).data.toList = true) := h4
          have HOK : Hid (headOk r = true) := by show _ = _; rw [HHH.out, h2, h4, decide_eq_true (by omega)]; simp [h1]
          clear h1 h2 h4
          go_enter Try.func26, Try.ntmps26
          go_wp2_with fail
          refine (plain_as H2.out HHm.out).mono ?_
          rintro e w1 ⟨rfl, rfl⟩
          go_wp2_with fail
          refine (place_as n p0 HP0.out HHm.out _).mono ?_
          rintro e w1 ⟨rfl, rfl⟩
          go_wp2_with fail
          refine (plain_as H4.out HHv.out).mono ?_
          rintro e w1 ⟨rfl, rfl⟩
          obtain ⟨w2, hw2⟩ : ∃ w2, w2 = (w.alloc (.cells #[.string (txt n), .string (txt v), .slice ad m cap] 34)) := ⟨_, rfl⟩
          rw [← hw2] at R0 hb0
          have R2 : Hid (S3 w2 w.heap.size (.string (txt n)) (.string (txt v)) (.slice ad m cap)) := R0.out
          have B2 : Hid (Below w.heap.size w w2) := hb0
          have HR2 : Hid (Rows w2 (.slice ad m cap) attrF r.2.2) := Rows.below HR.out B2.out (Nat.le_refl _)
          rw [← hw2]
          clear hw2 hb0 R0 HR
          obtain ⟨c0, c1, c2, f0, f1, f2⟩ := R2.out
          go_wp2_with fail
          go_loopw [3] (fun i wr => ∃ k : Nat, k ≤ m ∧ i = .int .i64 k ∧ Below w2.heap.size w2 wr ∧ Hid (∀ (j : Nat) a, r.2.2[j]? = some a → j < k → attrOk a = true)) (fun i _ => m - (intOf i).toNat)
          case atStart => exact ⟨0, Nat.zero_le _, rfl, Below.refl _ _, fun _ _ _ h => absurd h (by omega)⟩
          case round =>
            clear c0 c1 c2 f0 f1 f2
            obtain ⟨k, hk, rfl, hb, hall⟩ := hrel
            have R3 : Hid (S3 wr w.heap.size (.string (txt n)) (.string (txt v)) (.slice ad m cap)) := R2.out.below hb R2.out.lt
            obtain ⟨c0, c1, c2, f0, f1, f2⟩ := R3.out
            by_cases hlt : k < m
            · skip
              obtain ⟨⟨an, av⟩, hak⟩ : ∃ a, r.2.2[k]? = some a := ⟨_, List.getElem?_eq_getElem (by rw [← HMM.out]; exact hlt)⟩
              have HK : Hid _ := hak
              obtain ⟨b, off, rfl, hbl, hcl⟩ := Rows.at HR2.out rfl 1 attrF_len k _ hak
              have d0 := (hb.cell (p := ⟨b, off + k * 2 + 0, none⟩) hbl).trans (hcl 0 _ rfl)
              have d1 := (hb.cell (p := ⟨b, off + k * 2 + 1, none⟩) hbl).trans (hcl 1 _ rfl)
              rw [Nat.add_zero] at d0
              have HAN : Hid ((txt an).size ≤ maxLen) := (HA.out _ (List.mem_of_getElem? hak)).1
              have HAV : Hid ((txt av).size ≤ maxLen) := (HA.out _ (List.mem_of_getElem? hak)).2
              have y0 : ∀ x : Ext (wr.alloc (.cells #[.string (txt an), .string (txt av)] 66)), x.1.cell? ⟨wr.heap.size, 0, none⟩ = some (.string (txt an)) := Ext.cell (by simp)
              have y1 : ∀ x : Ext (wr.alloc (.cells #[.string (txt an), .string (txt av)] 66)), x.1.cell? ⟨wr.heap.size, 1, none⟩ = some (.string (txt av)) := Ext.cell (by simp)
              have hb3 : Below w.heap.size w (wr.alloc (.cells #[.string (txt an), .string (txt av)] 66)) := (next B2.out hb).alloc (Nat.le_trans B2.out.size hb.size) _
              obtain ⟨fn, hfn⟩ : ∃ x, x = foldL an := ⟨_, rfl⟩
              obtain ⟨pn, hpn⟩ : ∃ x, x = Lib.indexByte an 61 := ⟨_, rfl⟩
              have KF : Hid (∀ W : World, Calls Try.prog 46 #[.string (txt an)] W fun e w' => e = .returned (.string (txt fn)) ∧ Below W.heap.size W w') := fun W => foldOf_as an fn hfn HAN.out W
              have KP : Hid (∀ W : World, Calls Try.prog 50 #[.string (txt an), .int .u8 61] W fun e w' => e = .returned (.int .i64 pn) ∧ w' = W) := fun W => place_as an pn hpn HAN.out W
              clear hak hcl
              have HQ : Hid (attrOk (an, av) = (!(an == []) && (an == fn) && (plainB an && decide (pn < 0)) && plainB av)) := by show _ = _; unfold attrOk; rw [hfn, hpn, ← whole_61]; rfl
              clear hfn hpn
              by_cases g1 : an = []
              · have z1 := nil_t an g1
                have HT : Hid (checkL r = 1) := check_attr r k _ HK.out (by rw [HQ.out, g1]; rfl)
                clear g1
                go_wp2_with fail
                refine wp_region_ext (by kernel_rfl) (by kernel_rfl) ?_
                repeat (go_big_quiet_step (first | rfl | (go_at_call 46; exact ext_call (KF.out _)) | (go_at_call 50; exact ext_same (KP.out _)) | (go_at_call 49; exact ext_same (plain_as (by assumption) (by assumption)))))
                refine wpQuiet_nil ?_
                intro wx hwx
                obtain ⟨x, rfl⟩ := hwx
                go_wp2_with fail
                go_ret
                refine ⟨?_, hb3.trans (x.2.mono hb3.size)⟩
                rw [HT.out]; rfl
              · have z1 := nil_f an g1
                cases g3 : plainB an
                · have q3 : Hid (plainB (txt an).data.toList = false) := g3
                  have HT : Hid (checkL r = 1) := check_attr r k _ HK.out (by rw [HQ.out, g3]; simp)
                  clear g1 g3
                  go_wp2_with fail
                  refine wp_region_ext (by kernel_rfl) (by kernel_rfl) ?_
                  repeat (go_big_quiet_step (first | rfl | (go_at_call 46; exact ext_call (KF.out _)) | (go_at_call 50; exact ext_same (KP.out _)) | (go_at_call 49; exact ext_same (plain_as (by assumption) (by assumption)))))
                  refine wpQuiet_nil ?_
                  intro wx hwx
                  obtain ⟨x, rfl⟩ := hwx
                  go_wp2_with fail
                  go_ret
                  refine ⟨?_, hb3.trans (x.2.mono hb3.size)⟩
                  rw [HT.out]; rfl
                · have q3 : Hid (plainB (txt an).data.toList = true) := g3
                  by_cases g5 : 0 ≤ pn
                  · have HT : Hid (checkL r = 1) := check_attr r k _ HK.out (by rw [HQ.out, decide_eq_false (by omega)]; simp)
                    clear g1 g3
                    go_wp2_with fail
                    refine wp_region_ext (by kernel_rfl) (by kernel_rfl) ?_
                    repeat (go_big_quiet_step (first | rfl | (go_at_call 46; exact ext_call (KF.out _)) | (go_at_call 50; exact ext_same (KP.out _)) | (go_at_call 49; exact ext_same (plain_as (by assumption) (by assumption)))))
                    refine wpQuiet_nil ?_
                    intro wx hwx
                    obtain ⟨x, rfl⟩ := hwx
                    go_wp2_with fail
                    go_ret
                    refine ⟨?_, hb3.trans (x.2.mono hb3.size)⟩
                    rw [HT.out]; rfl
                  · have g6 : decide (0 ≤ pn) = false := decide_eq_false g5
                    have g7 : pn < 0 := by omega
                    by_cases g2 : an = fn
                    · have z2 := same_t fn an g2.symm
                      have z2' : ((txt fn).toList != (txt an).toList) = false := by simp only [bne, z2]; rfl
                      cases g4 : plainB av
                      · have q4 : Hid (plainB (txt av).data.toList = false) := g4
                        have HT : Hid (checkL r = 1) := check_attr r k _ HK.out (by rw [HQ.out, g4]; simp)
                        clear g1 g2 g3 g4
                        go_wp2_with fail
                        refine wp_region_ext (by kernel_rfl) (by kernel_rfl) ?_
                        repeat (go_big_quiet_step (first | rfl | (go_at_call 46; exact ext_call (KF.out _)) | (go_at_call 50; exact ext_same (KP.out _)) | (go_at_call 49; exact ext_same (plain_as (by assumption) (by assumption)))))
                        refine wpQuiet_nil ?_
                        intro wx hwx
                        obtain ⟨x, rfl⟩ := hwx
                        go_wp2_with fail
                        go_ret
                        refine ⟨?_, hb3.trans (x.2.mono hb3.size)⟩
                        rw [HT.out]; rfl
                      · have q4 : Hid (plainB (txt av).data.toList = true) := g4
                        have HT : Hid (attrOk (an, av) = true) := by show _ = _; rw [HQ.out, g3, g4, ← g2, decide_eq_true (by omega)]; simp [g1]
                        clear g1 g2 g3 g4
                        go_wp2_with fail
                        refine wp_region_ext (by kernel_rfl) (by kernel_rfl) ?_
                        repeat (go_big_quiet_step (first | rfl | (go_at_call 46; exact ext_call (KF.out _)) | (go_at_call 50; exact ext_same (KP.out _)) | (go_at_call 49; exact ext_same (plain_as (by assumption) (by assumption)))))
                        refine wpQuiet_nil ?_
                        intro wx hwx
                        obtain ⟨x, rfl⟩ := hwx
                        go_wp2_with fail
                        go_roundw
                        case rel =>
                          refine ⟨k + 1, by omega, by go_num, ?_, fun j a hj hlt2 => ?_⟩
                          · exact (hb.alloc hb.size _).trans (x.2.mono (Nat.le_trans hb.size (by simp)))
                          · by_cases e : j = k
                            · subst e
                              rw [HK.out] at hj
                              injection hj with hj
                              rw [← hj]; exact HT.out
                            · exact hall.out j a hj (by omega)
                        case measure => simp [intOf]; omega
                    · have z2 := same_f fn an (fun e => g2 e.symm)
                      have z2' : ((txt fn).toList != (txt an).toList) = true := by simp only [bne, z2]; rfl
                      have HT : Hid (checkL r = 1) := check_attr r k _ HK.out (by rw [HQ.out, beq_eq_false_iff_ne.2 g2]; simp)
                      clear g1 g2 g3
                      go_wp2_with fail
                      refine wp_region_ext (by kernel_rfl) (by kernel_rfl) ?_
                      repeat (go_big_quiet_step (first | rfl | (go_at_call 46; exact ext_call (KF.out _)) | (go_at_call 50; exact ext_same (KP.out _)) | (go_at_call 49; exact ext_same (plain_as (by assumption) (by assumption)))))
                      refine wpQuiet_nil ?_
                      intro wx hwx
                      obtain ⟨x, rfl⟩ := hwx
                      go_wp2_with fail
                      go_ret
                      refine ⟨?_, hb3.trans (x.2.mono hb3.size)⟩
                      rw [HT.out]; rfl
            · skip
              have HT : Hid _ := check_rest r HOK.out (fun j a hj => hall.out j a hj (by have := (List.getElem?_eq_some_iff.1 hj).1; rw [← HMM.out] at this; omega))
              rw [← HMM.out] at HT
              by_cases h12 : 12 < m
              · have HT2 : Hid (checkL r = 2) := by show _ = _; rw [HT.out, if_pos h12]
                go_wp2_with fail
                go_ret
                refine ⟨?_, next B2.out hb⟩
                rw [HT2.out]; rfl
              · have HT2 : Hid (checkL r = 0) := by show _ = _; rw [HT.out, if_neg h12]
                go_wp2_with fail
                go_ret
                refine ⟨?_, next B2.out hb⟩
                rw [HT2.out]; rfl
end Go.Proofs.Ytjoailjedfbnbad
