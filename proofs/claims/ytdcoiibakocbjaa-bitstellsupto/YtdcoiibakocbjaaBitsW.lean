/- The reference's answer to a text that is read. -/
import Derived.Test.YtdcoiibakocbjaaBitsV
namespace Go.Proofs.Ytdcoiibakocbjaa
open Go.RowKit Go.Lib
set_option linter.all false
set_option maxRecDepth 100000

theorem take_lt (s : List UInt8) (t m : Nat) : ∀ b ∈ ((bitsT s).drop t).take m, b < 2 := fun b hb => bitsT_lt s b (List.mem_of_mem_drop (List.mem_of_mem_take hb))
set_option maxHeartbeats 4000000 in
theorem unbitsOf_any (s : List UInt8) (vw : Value) (ws : List Int) (w : World) (hr : Rows w vw intF ws) (hs : s.length ≤ 1073741824) (hm : ws.length ≤ maxLen) :
    Calls Try.prog 12 #[.string (txt s), vw] w fun e w' => ∃ v, e = .returned (.tuple #[v, .int .i64 (rK s ws : Int), .int .i64 (rE s ws)]) ∧ Rows w' v natF (rL s ws) ∧ Below w.heap.size w w' := by
  obtain ⟨ad, cap, hvl⟩ := hr.shape
  subst hvl
  obtain ⟨i0, hi, hz0, hz1, hz2⟩ := info64
  obtain ⟨z, hz⟩ : ∃ z, z = rE s ws := ⟨_, rfl⟩
  obtain ⟨zk, hzk⟩ : ∃ z, z = rK s ws := ⟨_, rfl⟩
  obtain ⟨zl, hzl⟩ : ∃ z, z = rL s ws := ⟨_, rfl⟩
  rw [← hz, ← hzk, ← hzl]
  have hne : ∀ x : Int, x ≠ 0 → z = x → zk = 0 ∧ zl = [] := fun x hx hzx => by
    have h0 : ¬ rE s ws = 0 := by rw [← hz, hzx]; exact hx
    constructor
    · rw [hzk]; unfold rK; rw [if_neg h0]
    · rw [hzl]; unfold rL; rw [if_neg h0]
  have HNE : Hid _ := hne
  unfold maxLen at hm
  by_cases hbig : 400 < ws.length
  · have HZ : Hid (z = 2) := by show _ = _; rw [hz]; unfold rE; rw [if_pos hbig]
    have hb' : (400 : Int) < (ws.length : Int) := by omega
    clear hz hzk hzl hr hne
    go_enter Try.func12, Try.ntmps12
    go_wp2_with fail
    obtain ⟨h1, h2⟩ := HNE.out 2 (by decide) HZ.out
    exact bodyPost_ret (v := .tuple #[.slice none 0 0, .int .i64 0, .int .i64 2]) (by simp [results, Try.results12, go_sem]) rfl ⟨.slice none 0 0, by rw [HZ.out, h1]; rfl, by rw [h2]; exact ⟨none, 0, rfl, .inl rfl⟩, Below.refl _ _⟩
  have HZ : Hid (z = rbE s 0 ws) := by show _ = _; rw [hz]; unfold rE; rw [if_neg hbig]
  have hb' : (ws.length : Int) ≤ 400 := by omega
  have HR : Hid _ := hr
  have HZK : Hid _ := hzk
  have HZL : Hid _ := hzl
  have HZE : Hid _ := hz
  have HS : Hid _ := hs
  clear hz hzk hzl hr hs hne
  go_enter Try.func12, Try.ntmps12
  go_wp2_with fail
  refine (textBits_any (txt s) _ (by have := HS.out; exact this)).mono ?_
  rw [txt_toList]
  rintro e w0 ⟨vt, rfl, ot, hb0⟩
  rw [show (txt s).size = s.length from rfl] at ot
  obtain ⟨adt, capt, rfl, hcapt⟩ : ∃ ad cap, vt = .slice ad (8 * s.length) cap ∧ 8 * s.length ≤ cap := by
    rcases ot.2 with ⟨h1, h2⟩ | ⟨g, cap, cur, h1, _, _, h2, _⟩
    · exact ⟨none, 0, by rw [h1, h2], by omega⟩
    · exact ⟨_, cap, h1, h2⟩
  have RT : Hid (Rows w0 (.slice adt (8 * s.length) capt) bitF (bitsT s)) := by
    have h := Reads.of_own ot
    show Reads _ _ _ _
    rw [bitsT_length]; exact h
  have HB0 : Hid _ := hb0
  have RW : Hid (Rows w0 (.slice ad ws.length cap) intF ws) := Rows.below HR.out hb0 (Nat.le_refl _)
  have HCT : Hid _ := hcapt
  clear ot hb0 hcapt
  go_wp2_with fail
  go_loopw [7, 8, 9, 10] (fun lv o i _ wr => ∃ k t : Nat, ∃ adl capl, k ≤ ws.length ∧ i = .int .i64 k ∧ Hid (t = rbA 0 (ws.take k)) ∧ Hid (Fine s ws k) ∧ t ≤ 8 * s.length ∧ lv = .slice adl (8 * s.length - t) capl ∧ (8 * s.length - t) ≤ capl ∧ Hid (Rows w0 (.slice adl (8 * s.length - t) capl) bitF ((bitsT s).drop t)) ∧ wr.ownsRow w0.heap.size 33 1 o k ((rbL s 0 (ws.take k)).flatMap natF) ∧ Hid (Below w0.heap.size w0 wr)) (fun _ _ i _ _ => ws.length - (intOf i).toNat)
  case atStart => exact ⟨0, 0, adt, capt, Nat.zero_le _, rfl, rfl, fun j w hj h => absurd h (by omega), Nat.zero_le _, rfl, HCT.out, by rw [List.drop_zero]; exact RT.out, by rw [List.take_zero]; exact World.ownsRow_nil _ _ _ _, Below.refl _ _⟩
  case round =>
    obtain ⟨k, t, adl, capl, hk, rfl, ht, hfine, htl, rfl, hcapl, hrl, hown, hb⟩ := hrel
    obtain ⟨oad, ocap, rfl⟩ := slice_own hown
    by_cases hlt : k < ws.length
    · have e1 := List.getElem?_eq_getElem hlt
      obtain ⟨wd, hwd⟩ : ∃ f, f = ws[k] := ⟨_, rfl⟩
      rw [← hwd] at e1
      obtain ⟨bl, ol, rfl, hbl, hcell⟩ := Rows.at RW.out rfl 0 (fun _ => rfl) k wd e1
      have c0 : wr.cell? ⟨bl, ol + k, none⟩ = some (.int .i64 wd) := by
        have := (hb.out.cell (p := ⟨bl, ol + k * (0 + 1) + 0, none⟩) hbl).trans (hcell 0 _ rfl)
        rw [show ol + k * (0 + 1) + 0 = ol + k by omega] at this
        exact this
      have HFL : Hid _ := htl
      have HD : Hid (z = rbE s t (wd :: ws.drop (k + 1))) := by
        show _ = _
        rw [HZ.out, rbE_drop s ws 0 k hfine.out, ← ht.out, List.drop_eq_getElem_cons hlt, ← hwd]
      have HE1 : Hid _ := e1
      obtain ⟨n, hn⟩ : ∃ n, n = 8 * s.length - t := ⟨_, rfl⟩
      rw [← hn] at hrl hcapl ⊢
      have HN : Hid _ := hn
      have hnb : n ≤ 8589934592 := by have := HS.out; omega
      clear hwd e1 hcell htl hn
      cases hw2 : (decide (1 ≤ wd) && decide (wd ≤ 64))
      · have HZ3 : Hid (z = 3) := by
          show _ = _
          rw [HD.out, rbE, if_neg (by intro h; simp [h.1, h.2] at hw2)]
        clear hown
        by_cases g1 : wd < 1
        · clear hw2
          go_wp2_with fail
          obtain ⟨h1, h2⟩ := HNE.out 3 (by decide) HZ3.out
          exact bodyPost_ret (v := .tuple #[.slice none 0 0, .int .i64 0, .int .i64 3]) (by simp [results, Try.results12, go_sem]) rfl ⟨.slice none 0 0, by rw [HZ3.out, h1]; rfl, by rw [h2]; exact ⟨none, 0, rfl, .inl rfl⟩, next HB0.out hb.out⟩
        · have g2 : 64 < wd := by
            rcases Int.lt_or_le 64 wd with h | h
            · exact h
            · have h1 : (1 : Int) ≤ wd := by omega
              simp [h1, h] at hw2
          clear hw2
          go_wp2_with fail
          obtain ⟨h1, h2⟩ := HNE.out 3 (by decide) HZ3.out
          exact bodyPost_ret (v := .tuple #[.slice none 0 0, .int .i64 0, .int .i64 3]) (by simp [results, Try.results12, go_sem]) rfl ⟨.slice none 0 0, by rw [HZ3.out, h1]; rfl, by rw [h2]; exact ⟨none, 0, rfl, .inl rfl⟩, next HB0.out hb.out⟩
      · have hw3 : 1 ≤ wd ∧ wd ≤ 64 := by simpa using hw2
        obtain ⟨m, hm'⟩ : ∃ m : Nat, wd = (m : Int) := ⟨wd.toNat, by omega⟩
        subst hm'
        have HW3 : Hid _ := hw3
        have hm64 : m ≤ 64 := by omega
        have hm1 : ¬ (m : Int) < 1 := by omega
        have hm2 : ¬ 64 < (m : Int) := by omega
        have hmn1 : ¬ m = 0 := by omega
        have hmn2 : ¬ 64 < m := by omega
        clear hw3 hw2
        by_cases hleft : n < m
        · have HZ5 : Hid (z = 5) := by
            show _ = _
            have hfl := HFL.out
            have hn := HN.out
            rw [HD.out, rbE, if_pos HW3.out, if_pos (by omega)]
          have hcmp : (n : Int) < (m : Int) := by omega
          clear hown
          go_wp2_with fail
          obtain ⟨h1, h2⟩ := HNE.out 5 (by decide) HZ5.out
          exact bodyPost_ret (v := .tuple #[.slice none 0 0, .int .i64 0, .int .i64 5]) (by simp [results, Try.results12, go_sem]) rfl ⟨.slice none 0 0, by rw [HZ5.out, h1]; rfl, by rw [h2]; exact ⟨none, 0, rfl, .inl rfl⟩, next HB0.out hb.out⟩
        · have hcmp : ¬ (n : Int) < (m : Int) := by omega
          have hnm : m ≤ n := by omega
          have HRM : Hid (t + m ≤ 8 * s.length) := by show _ ≤ _; have := HFL.out; have := HN.out; omega
          obtain ⟨N, hN⟩ : ∃ N, N = rdN s t m := ⟨_, rfl⟩
          have HNN : Hid _ := hN
          have hdl : ((bitsT s).drop t).length = n := by rw [List.length_drop, bitsT_length, HN.out]
          obtain ⟨b0, hb0⟩ : ∃ b, ((bitsT s).drop t)[0]? = some b := ⟨_, List.getElem?_eq_getElem (by omega)⟩
          obtain ⟨bt, ot, rfl, _, _⟩ := Rows.at hrl.out rfl 0 (fun _ => rfl) 0 b0 hb0
          have RL1 : Hid (Rows wr (.slice (some ⟨bt, ot, none⟩) m capl) bitF (((bitsT s).drop t).take m)) := rows_to (Rows.below hrl.out hb.out (Nat.le_refl _)) m m capl (by rw [List.length_take, hdl]; omega)
          have hn2 : n - m = 8 * s.length - (t + m) := by have := HN.out; omega
          have RL2 : Hid (∀ c2, Rows w0 (.slice (some ⟨bt, ot + m, none⟩) (8 * s.length - (t + m)) c2) bitF ((bitsT s).drop (t + m))) := fun c2 => by
            have h := rows_from 1 (fun _ => rfl) hrl.out m (8 * s.length - (t + m)) c2 (by rw [List.length_drop, List.length_drop, bitsT_length]; omega)
            rw [List.drop_drop, Nat.mul_one] at h
            exact h
          have HDL : Hid _ := hdl
          have HN2 : Hid _ := hn2
          clear hleft hN hb0 hdl hn2
          go_wp2_with fail
          refine (bitNumber_any _ _ _ RL1.out (by rw [List.length_take]; omega) (take_lt s t m)).mono ?_
          rw [show numB (((bitsT s).drop t).take m) = N from HNN.out.symm]
          rintro e w2 ⟨rfl, hw2⟩
          rw [hw2]
          clear hw2 w2
          have hle := hb.out.size
          go_wp2_with (at_builtin; refine wpList_append_own _ rfl _ _ 27 rfl w0.heap.size 33 i0 (.int .u64 0) 1 8 Try.underlying27 hi hz0 hz1 hz2 rfl (by decide) _ _ _ rfl (hown.alloc _) ⟨wr.heap.size, 0, none⟩ 1 1 [.int .u64 (N : Int)] rfl rfl (cell1_new _ _ _ _ rfl) (by simp [Value.oneCell']) ?c1 ?c2 ?c3 ?_)
          case c1 => unfold maxLen; omega
          case c2 => omega
          case c3 => simp; omega
          intro v3 w3 hown3 hg3 _
          have HTK : Hid (ws.take (k + 1) = ws.take k ++ [(m : Int)]) := by
            show _ = _
            rw [List.take_succ, HE1.out]; rfl
          have HAN : Hid (t + m = rbA 0 (ws.take (k + 1))) := by
            show _ = _
            rw [HTK.out, rbA_snoc, ← ht.out]; rfl
          have hown4 : w3.ownsRow w0.heap.size 33 1 v3 (k + 1) ((rbL s 0 (ws.take (k + 1))).flatMap natF) := by
            rw [HTK.out, rbL_snoc, ← ht.out, List.flatMap_append]
            show w3.ownsRow _ _ _ _ _ (_ ++ ([rdN s t m].flatMap natF))
            rw [← HNN.out]
            exact hown3
          have HB3 : Hid (Below w0.heap.size w0 w3) := by
            have h1 : Below w0.heap.size w0 (wr.alloc (.cells #[.int .u64 (N : Int)] 33)) := hb.out.alloc hle _
            exact h1.grown hg3 h1.size (fun q e => (hown.lt q e).1)
          have HF3 : Hid (Fine s ws (k + 1)) := by
            intro j w' hj hlt2
            by_cases e : j = k
            · subst e
              rw [HE1.out] at hj
              injection hj with hj
              rw [← hj, ← ht.out]
              exact ⟨HW3.out, HRM.out⟩
            · exact hfine.out j w' hj (by omega)
          clear hown hown3 hg3 c0
          obtain ⟨ad3, cap3, rfl⟩ := slice_own hown4
          have RLX : Hid (Rows w0 (.slice (if capl = m then some ⟨bt, ot, none⟩ else some ⟨bt, ot + m, none⟩) (8 * s.length - (t + m)) (capl - m)) bitF ((bitsT s).drop (t + m))) := by
            show Rows _ _ _ _
            by_cases e : capl = m
            · have h0 : 8 * s.length - (t + m) = 0 := by have := HN2.out; omega
              have hnil : (bitsT s).drop (t + m) = [] := List.drop_eq_nil_of_le (by rw [bitsT_length]; omega)
              rw [hnil, h0]
              exact ⟨_, _, rfl, .inl rfl⟩
            · rw [if_neg e]; exact RL2.out _
          go_wp2_with fail
          go_roundw
          case rel => exact ⟨k + 1, t + m, _, _, by omega, by go_num, HAN, HF3, HRM.out, by rw [HN2.out], by have := HN2.out; omega, RLX, hown4, HB3⟩
          case measure => simp [intOf]; omega
    · have hkl : k = ws.length := by omega
      have HTA : Hid (ws.take k = ws) := List.take_of_length_le (by omega)
      have HZ0 : Hid (z = 0) := by
        show _ = _
        rw [HZ.out, rbE_drop s ws 0 k hfine.out, List.drop_eq_nil_of_le (by omega)]; rfl
      have HK1 : Hid (zk = 8 * s.length - t) := by
        show _ = _
        rw [HZK.out, ht.out, HTA.out]; unfold rK; rw [if_pos (by rw [← HZE.out]; exact HZ0.out)]
      have HL1 : Hid (zl = rbL s 0 (ws.take k)) := by
        show _ = _
        rw [HZL.out, HTA.out]; unfold rL; rw [if_pos (by rw [← HZE.out]; exact HZ0.out)]
      have HRR : Hid (Reads wr (.slice oad k ocap) k ((rbL s 0 (ws.take k)).flatMap natF)) := Reads.of_own hown
      obtain ⟨n, hn⟩ : ∃ n, n = 8 * s.length - t := ⟨_, rfl⟩
      rw [← hn] at hcapl ⊢
      have HNN : Hid _ := hn
      clear hown hkl hn htl
      go_wp2_with fail
      refine bodyPost_ret (v := .tuple #[.slice oad k ocap, .int .i64 (n : Int), .int .i64 0]) (by simp [results, Try.results12, go_sem]) rfl ⟨_, by rw [HZ0.out, HK1.out, HNN.out], ?_, next HB0.out hb.out⟩
      rw [HL1.out]
      show Reads _ _ _ _
      rw [rbL_length, List.length_take, Nat.min_eq_left hk]
      exact HRR.out
end Go.Proofs.Ytdcoiibakocbjaa
