/- The reference's answer to numbers that are written. -/
import Derived.Test.YtdcoiibakocbjaaBitsU
namespace Go.Proofs.Ytdcoiibakocbjaa
open Go.RowKit Go.Lib
set_option linter.all false
set_option maxRecDepth 100000

set_option maxHeartbeats 4000000 in
theorem bitsOf_any (vl : Value) (l : List Fd) (w : World) (hr : Rows w vl fdC l) (hm : l.length ≤ maxLen) :
    Calls Try.prog 11 #[vl] w fun e w' => e = .returned (.tuple #[.string (txt (wbT l)), .int .i64 (wbE l)]) ∧ Below w.heap.size w w' := by
  obtain ⟨ad, cap, hvl⟩ := hr.shape
  subst hvl
  obtain ⟨i0, hi, hz0, hz1, hz2⟩ := infoI
  obtain ⟨z, hz⟩ : ∃ z, z = wbE l := ⟨_, rfl⟩
  obtain ⟨t, ht⟩ : ∃ t, t = wbT l := ⟨_, rfl⟩
  rw [← hz, ← ht]
  have hne : z ≠ 0 → t = [] := fun h => by rw [ht]; unfold wbT; rw [if_neg (by rw [← hz]; exact h)]
  have HNE : Hid _ := hne
  unfold maxLen at hm
  by_cases hbig : 400 < l.length
  · have HZ : Hid (z = 2) := by show _ = _; rw [hz]; unfold wbE; rw [if_pos hbig]
    have hb' : (400 : Int) < (l.length : Int) := by omega
    clear hz hr ht hne
    go_enter Try.func11, Try.ntmps11
    go_wp2_with fail
    exact bodyPost_ret (v := .tuple #[.string ⟨#[]⟩, .int .i64 2]) (by simp [results, Try.results11, go_sem]) rfl ⟨by rw [HZ.out, HNE.out (by rw [HZ.out]; decide)]; rfl, Below.refl _ _⟩
  have HZ : Hid (z = ckE l) := by show _ = _; rw [hz]; unfold wbE; rw [if_neg hbig]
  have HZZ : Hid _ := hz
  have HT0 : Hid _ := ht
  have hb' : (l.length : Int) ≤ 400 := by omega
  have HR : Hid _ := hr
  clear hz hr ht hne
  go_enter Try.func11, Try.ntmps11
  go_wp2_with fail
  go_loopw [4, 5] (fun o i wr => ∃ k : Nat, k ≤ l.length ∧ i = .int .i64 k ∧ wr.ownsRow w.heap.size 3 1 o (allF (l.take k)).length ((allF (l.take k)).flatMap bitF) ∧ Hid (∀ (j : Nat) f, l[j]? = some f → j < k → fdW f = true ∧ fdN f = true) ∧ Hid (Below w.heap.size w wr)) (fun _ i _ => l.length - (intOf i).toNat)
  case atStart => exact ⟨0, Nat.zero_le _, rfl, by rw [List.take_zero]; exact World.ownsRow_nil _ _ _ _, fun _ _ _ h => absurd h (by omega), Below.refl _ _⟩
  case round =>
    obtain ⟨k, hk, rfl, hown, hall, hb⟩ := hrel
    obtain ⟨oad, ocap, rfl⟩ := slice_own hown
    by_cases hlt : k < l.length
    · have e1 := List.getElem?_eq_getElem hlt
      obtain ⟨f, hf⟩ : ∃ f, f = l[k] := ⟨_, rfl⟩
      rw [← hf] at e1
      obtain ⟨bl, ol, rfl, hbl, hcell⟩ := Rows.at HR.out rfl 1 (fun _ => rfl) k f e1
      obtain ⟨n, fw⟩ := f
      obtain ⟨N, hN⟩ : ∃ N, N = n.toNat := ⟨_, rfl⟩
      have c0 : ∀ w', Below w.heap.size w w' → w'.cell? ⟨bl, ol + k * 2, none⟩ = some (.int .u64 (N : Int)) := fun w' hw' => by rw [hN]; exact (hw'.cell (p := ⟨bl, ol + k * 2 + 0, none⟩) hbl).trans (hcell 0 _ rfl)
      have c1 : ∀ w', Below w.heap.size w w' → w'.cell? ⟨bl, ol + k * 2 + 1, none⟩ = some (.int .i64 fw) := fun w' hw' => (hw'.cell (p := ⟨bl, ol + k * 2 + 1, none⟩) hbl).trans (hcell 1 _ rfl)
      have hNl : N < 18446744073709551616 := by rw [hN]; have := u64_lt n; omega
      have HD : Hid (ckE l = if fdW ⟨n, fw⟩ = true then if fdN ⟨n, fw⟩ = true then ckE (l.drop (k + 1)) else 4 else 3) := by
        show _ = _
        rw [ckE_drop l k hall.out, List.drop_eq_getElem_cons hlt, ← hf]; rfl
      have HE1 : Hid _ := e1
      have HTK : Hid (allF (l.take (k + 1)) = allF (l.take k) ++ bitsN N fw.toNat) := by
        show _ = _
        rw [allF_take l k _ e1, hN]
      have HLN : Hid ((allF (l.take k)).length ≤ 64 * 400) := by
        have h1 := allF_len (l.take k) (fun g hg => by
          obtain ⟨j, hj⟩ := List.getElem?_of_mem hg
          have hjl := (List.getElem?_eq_some_iff.1 hj).1
          rw [List.length_take] at hjl
          rw [List.getElem?_take, if_pos (by omega)] at hj
          exact (hall.out j g hj (by omega)).1)
        have h2 : (l.take k).length ≤ l.length := by rw [List.length_take]; omega
        show _ ≤ _
        omega
      have HN : Hid _ := hN
      have c0' := c0 wr hb.out
      have c1' := c1 wr hb.out
      have HC0 : Hid _ := c0
      have HC1 : Hid _ := c1
      clear hf e1 hcell hN c0 c1
      cases hw : fdW ⟨n, fw⟩
      · have HZ3 : Hid (z = 3) := by show _ = _; rw [HZ.out, HD.out, hw]; rfl
        have hw2 : (decide (1 ≤ fw) && decide (fw ≤ 64)) = false := hw
        clear hw hown
        by_cases g1 : fw < 1
        · go_wp2_with fail
          exact bodyPost_ret (v := .tuple #[.string ⟨#[]⟩, .int .i64 3]) (by simp [results, Try.results11, go_sem]) rfl ⟨by rw [HZ3.out, HNE.out (by rw [HZ3.out]; decide)]; rfl, hb.out⟩
        · have g2 : 64 < fw := by
            rcases Int.lt_or_le 64 fw with h | h
            · exact h
            · have h1 : (1 : Int) ≤ fw := by omega
              simp [h1, h] at hw2
          clear hw2
          go_wp2_with fail
          exact bodyPost_ret (v := .tuple #[.string ⟨#[]⟩, .int .i64 3]) (by simp [results, Try.results11, go_sem]) rfl ⟨by rw [HZ3.out, HNE.out (by rw [HZ3.out]; decide)]; rfl, hb.out⟩
      · have hw2 : (decide (1 ≤ fw) && decide (fw ≤ 64)) = true := hw
        have hw3 : 1 ≤ fw ∧ fw ≤ 64 := by simpa using hw2
        obtain ⟨m, hm'⟩ : ∃ m : Nat, fw = (m : Int) := ⟨fw.toNat, by omega⟩
        subst hm'
        have hm1 : ¬ (m : Int) < 1 := by omega
        have hm2 : ¬ 64 < (m : Int) := by omega
        have hm64 : m ≤ 64 := by omega
        have hmn1 : ¬ m = 0 := by omega
        have hmn2 : ¬ 64 < m := by omega
        have HW0 : Hid _ := hw
        have HFN : Hid (fdN ⟨n, (m : Int)⟩ = decide (N < 2 ^ m)) := by
          show _ = _
          unfold fdN
          rw [HN.out]; rfl
        clear hw3 hw hw2
        cases hn : fdN ⟨n, (m : Int)⟩
        · have HZ4 : Hid (z = 4) := by show _ = _; rw [HZ.out, HD.out, HW0.out, hn]; rfl
          have hno := HFN.out
          rw [hn] at hno
          have HNO : Hid _ := hno
          clear hno
          clear hn hown
          go_wp2_with fail
          go_region_held3 (fun w' => w'.cell? ⟨bl, ol + k * 2, none⟩ = some (.int .u64 (N : Int)) ∧ w'.cell? ⟨bl, ol + k * 2 + 1, none⟩ = some (.int .i64 (m : Int))) (go_keep)
            (first
            | (go_at_call 26; refine (roomFor_any N m _ hNl hm64).mono ?_; rw [← HNO.out]; rintro e w1 ⟨rfl, rfl⟩)
            | fail)
          all_goals
            go_wp2_with fail
            exact bodyPost_ret (v := .tuple #[.string ⟨#[]⟩, .int .i64 4]) (by simp [results, Try.results11, go_sem]) rfl ⟨by rw [HZ4.out, HNE.out (by rw [HZ4.out]; decide)]; rfl, hb.out.drew⟩
        · have hno := HFN.out
          rw [hn] at hno
          have HNO : Hid _ := hno
          clear hno
          have HN1 : Hid _ := hn
          clear hn
          have hall2 : Hid (∀ (j : Nat) f, l[j]? = some f → j < k + 1 → fdW f = true ∧ fdN f = true) := fun j g hj hlt2 => by
            by_cases e : j = k
            · subst e
              rw [HE1.out] at hj
              injection hj with hj
              rw [← hj]; exact ⟨HW0.out, HN1.out⟩
            · exact hall.out j g hj (by omega)
          go_wp2_with fail
          go_region_held3 (fun w' => w'.cell? ⟨bl, ol + k * 2, none⟩ = some (.int .u64 (N : Int)) ∧ w'.cell? ⟨bl, ol + k * 2 + 1, none⟩ = some (.int .i64 (m : Int))) (go_keep)
            (first
            | (go_at_call 26; refine (roomFor_any N m _ hNl hm64).mono ?_; rw [← HNO.out]; rintro e w1 ⟨rfl, rfl⟩)
            | fail)
          obtain ⟨W1, hW1⟩ : ∃ W, W = wr.drew := ⟨_, rfl⟩
          rw [← hW1]
          have own1 : W1.ownsRow w.heap.size 3 1 (.slice oad (allF (l.take k)).length ocap) (allF (l.take k)).length ((allF (l.take k)).flatMap bitF) := by rw [hW1]; exact hown
          have HB1 : Hid (Below w.heap.size w W1) := by rw [hW1]; exact hb.out.drew
          have d0 := HC0.out W1 HB1.out
          have d1 := HC1.out W1 HB1.out
          clear hown c0' c1' hW1
          obtain ⟨L, hL⟩ : ∃ L, L = (allF (l.take k)).length := ⟨_, rfl⟩
          rw [← hL] at own1 ⊢
          have hLb : L ≤ 25600 := by rw [hL]; exact HLN.out
          have hlm : ((bitsN N m).flatMap bitF).length = m * 1 := by rw [bitF_len, bitsN_length, Nat.mul_one]
          have hone := bitF_one (bitsN N m)
          have own1d : W1.drew.ownsRow w.heap.size 3 1 (.slice oad L ocap) L ((allF (l.take k)).flatMap bitF) := own1
          have HLM : Hid _ := hlm
          have HONE : Hid _ := hone
          have HLL : Hid _ := hL
          have hM1 : Hid (L + m ≤ maxLen) := by show _ ≤ _; unfold maxLen; omega
          have hM2 : Hid ((L + m) * 8 ≤ 140737488355328) := by show _ ≤ _; omega
          clear hL hlm hone
          go_wp2_with fail
          go_region_held3 (fun w' => w'.cell? ⟨bl, ol + k * 2, none⟩ = some (.int .u64 (N : Int)) ∧ w'.cell? ⟨bl, ol + k * 2 + 1, none⟩ = some (.int .i64 (m : Int))) (go_keep)
            (first
            | (go_at_call 27; refine (bitList_any N m _ hNl hm64).mono ?_; rintro e w2 ⟨v2, rfl, own2, hb2⟩; have own1' := own_below own1d hb2 (Nat.le_refl _); have HB2 : Below w.heap.size w w2 := HB1.out.drew.trans (hb2.mono HB1.out.size); have f0 := HC0.out w2 HB2; have f1 := HC1.out w2 HB2; have hrd : Reads w2 v2 m ((bitsN N m).flatMap bitF) := Reads.of_own own2)
            | (refine step_append_reads (by rfl) (.tmp 41) (.tmp 52) 23 (by rfl) w.heap.size 3 i0 (.int .i64 0) 1 8 Try.underlying23 hi hz0 hz1 hz2 rfl (by decide) _ _ _ (by rfl) own1' _ (by rfl) m _ hrd HLM.out HONE.out hM1.out hM2.out HB2.size ?_; intro v3 w3 hown3 hg3; have HB3 : Below w.heap.size w w3 := HB2.grown hg3 HB2.size (fun q e => (own1'.lt q e).1); have g0 := HC0.out w3 HB3; have g1 := HC1.out w3 HB3)
            | fail)
          have hown4 : w3.ownsRow w.heap.size 3 1 v3 (allF (l.take (k + 1))).length ((allF (l.take (k + 1))).flatMap bitF) := by
            rw [HTK.out, List.length_append, List.flatMap_append, ← HLL.out]
            rw [show (bitsN N ((m : Int).toNat)).length = m by rw [bitsN_length]; omega]
            exact hown3
          have HB3' : Hid _ := HB3
          clear hown3 hg3 hrd own1' own2 hb2 HB2 f0 f1 g0 g1 HB3 own1 own1d d0 d1
          go_wp2_with fail
          go_roundw
          case rel => exact ⟨k + 1, by omega, by go_num, hown4, hall2, HB3'⟩
          case measure => simp [intOf]; omega
    · have HTA : Hid (l.take k = l) := List.take_of_length_le (by omega)
      have HZ0 : Hid (z = 0) := by
        show _ = _
        rw [HZ.out, ckE_ok]
        intro f hf
        obtain ⟨j, hj⟩ := List.getElem?_of_mem hf
        exact hall.out j f hj (by have := (List.getElem?_eq_some_iff.1 hj).1; omega)
      have HT1 : Hid (t = packB (allF l)) := by
        show _ = _
        rw [HT0.out]; unfold wbT; rw [if_pos (by rw [← HZZ.out]; exact HZ0.out)]
      have HLN : Hid ((allF l).length ≤ 64 * 400) := by
        have h1 := allF_len l (fun g hg => by
          obtain ⟨j, hj⟩ := List.getElem?_of_mem hg
          exact (hall.out j g hj (by have := (List.getElem?_eq_some_iff.1 hj).1; omega)).1)
        show _ ≤ _
        omega
      have hrd : Rows wr (.slice oad (allF (l.take k)).length ocap) bitF (allF (l.take k)) := Reads.of_own hown
      have HRD : Hid (Rows wr (.slice oad (allF (l.take k)).length ocap) bitF (allF l)) := by rw [HTA.out] at hrd ⊢; exact hrd
      clear hown hrd
      go_wp2_with fail
      refine (bitBytes_any _ (allF l) _ HRD.out (by have := HLN.out; omega) (allF_lt l)).mono ?_
      rintro e w1 ⟨rfl, hb1⟩
      go_wp2_with fail
      exact bodyPost_ret (v := .tuple #[.string (txt (packB (allF l))), .int .i64 0]) (by simp [results, Try.results11, go_sem]) rfl ⟨by rw [HZ0.out, HT1.out], next hb.out hb1⟩
end Go.Proofs.Ytdcoiibakocbjaa
