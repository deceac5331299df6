/- The document's own answer to letters that are read. -/
import Derived.Test.YtgdcifllbfdbhaaSixtyR
import Derived.Test.YtgdcifllbfdbhaaBitsU
namespace Go.Proofs.Ytgdcifllbfdbhaa
open Go.RowKit
set_option linter.all false
set_option maxRecDepth 100000

theorem numB_none (l : List Nat) (hl : ∀ b ∈ l, b < 2) : numB l = 0 ↔ l.all (fun b => b == 0) = true := by
  induction l with
  | nil => simp [numB]
  | cons b r ih =>
    rw [numB_cons, List.all_cons, Bool.and_eq_true, ← ih (fun x hx => hl x (by simp [hx]))]
    have hp := Nat.two_pow_pos r.length
    constructor
    · intro h
      have h1 : b * 2 ^ r.length = 0 := by omega
      have h2 : b = 0 := by
        rcases Nat.mul_eq_zero.1 h1 with h | h
        · exact h
        · omega
      exact ⟨by simp [h2], by omega⟩
    · rintro ⟨h1, h2⟩
      have h1 : b = 0 := by simpa using h1
      rw [h1, h2]; omega
theorem uB_take (y : List UInt8) (k : Nat) (c : UInt8) (h : y[k]? = some c) : uB (y.take (k + 1)) = uB (y.take k) ++ bitsN (lnum c) 6 := by
  rw [List.take_succ, h, uB_append]
  simp [uB]
theorem own_rows {W : World} {base : Nat} {v : Value} {l : List Nat} (h : W.ownsRow base 3 1 v l.length (l.flatMap bitF)) : Rows W v bitF l := Reads.of_own h
set_option maxHeartbeats 4000000 in
theorem unsixtyOf_any (y : List UInt8) (w : World) (hy : y.length ≤ 1073741824) :
    Calls Try.prog 13 #[.string (txt y)] w fun e w' => e = .returned (.tuple #[.string (txt (uT y)), .int .i64 (uE y)]) ∧ Below w.heap.size w w' := by
  obtain ⟨i0, hi, hz0, hz1, hz2⟩ := infoI
  obtain ⟨T, hT⟩ : ∃ T, T = txt y := ⟨_, rfl⟩
  obtain ⟨n, hn⟩ : ∃ n, n = y.length := ⟨_, rfl⟩
  have hsz : T.size = n := by rw [hT, hn]; rfl
  have HX : Hid _ := hT
  have HN : Hid _ := hn
  have hnl : n ≤ 1073741824 := by omega
  obtain ⟨zt, hzt⟩ : ∃ z, z = uT y := ⟨_, rfl⟩
  obtain ⟨ze, hze⟩ : ∃ z, z = uE y := ⟨_, rfl⟩
  have HZT : Hid _ := hzt
  have HZE : Hid _ := hze
  rw [← hT, ← hzt, ← hze]
  clear hT hn hzt hze hy
  go_enter Try.func13, Try.ntmps13
  go_wp2_with fail
  go_loopw [4, 5] (fun o i wr => ∃ k : Nat, k ≤ n ∧ i = .int .i64 k ∧ wr.ownsRow w.heap.size 3 1 o (6 * k) ((uB (y.take k)).flatMap bitF) ∧ Hid (∀ (j : Nat) c, y[j]? = some c → j < k → lnum c < 64) ∧ Hid (Below w.heap.size w wr)) (fun _ i _ => n - (intOf i).toNat)
  case atStart => exact ⟨0, Nat.zero_le _, rfl, by rw [List.take_zero]; exact World.ownsRow_nil _ _ _ _, fun _ _ _ h => absurd h (by omega), Below.refl _ _⟩
  case round =>
    obtain ⟨k, hk, rfl, hown, hall, hb⟩ := hrel
    by_cases hlt : k < n
    · have hlt2 : k < T.size := by omega
      obtain ⟨c, hce⟩ : ∃ c, y[k]? = some c := ⟨_, List.getElem?_eq_getElem (by rw [← HN.out]; exact hlt)⟩
      have HE : Hid _ := hce
      have hc' : T[k] = c := by
        have h1 := get_of T k hlt2
        have h2 : T.data.toList = y := by rw [HX.out]; rfl
        rw [h2, hce] at h1
        injection h1 with h1
        exact h1.symm
      obtain ⟨z, hz⟩ : ∃ z, z = idxA c := ⟨_, rfl⟩
      have KN : Hid (∀ w', Calls Try.prog 29 #[.int .u8 (c.toNat : Int)] w' fun e w'' => e = .returned (.int .i64 z) ∧ Below w'.heap.size w' w'') := fun w' => by rw [hz]; exact number_any c w'
      by_cases hl : lnum c < 64
      · obtain ⟨N, hN⟩ : ∃ N, N = lnum c := ⟨_, rfl⟩
        have hzN : z = (N : Int) := by rw [hz, hN]; unfold idxA; rw [if_pos hl]
        subst hzN
        have hN64 : N < 64 := by omega
        have d5 : IntKind.u64.wrap (N : Int) = (N : Int) := by rw [IntKind.wrap_u64]; omega
        have HTK : Hid (uB (y.take (k + 1)) = uB (y.take k) ++ bitsN N 6) := by show _ = _; rw [hN]; exact uB_take y k c hce
        have KB : Hid (∀ w', Calls Try.prog 30 #[.int .u64 (N : Int), .int .i64 6] w' fun e w'' => ∃ v, e = .returned v ∧ w''.ownsRow w'.heap.size 3 1 v 6 ((bitsN N 6).flatMap bitF) ∧ Below w'.heap.size w' w'') := fun w' => bitList_any N 6 w' (by omega) (by decide)
        have HAL : Hid (∀ (j : Nat) c, y[j]? = some c → j < k + 1 → lnum c < 64) := fun j c' hj hlt3 => by
          by_cases e : j = k
          · subst e
            rw [hce] at hj
            injection hj with hj
            rw [← hj]; exact hl
          · exact hall.out j c' hj (by omega)
        have hbl : ((bitsN N 6).flatMap bitF).length = 6 * 1 := by rw [bitF_len, bitsN_length]
        have hb1 : Hid _ := bitF_one (bitsN N 6)
        have HBL : Hid _ := hbl
        clear hce hz hl hN hbl
        go_wp2_with fail
        refine (KN.out _).mono ?_
        rintro e w1 ⟨rfl, hbw1⟩
        have B1 : Hid (Below w.heap.size w w1) := next hb.out hbw1
        have own1 := own_below hown hbw1 (Nat.le_refl _)
        clear hbw1 hown
        go_wp2_with fail
        refine (KB.out _).mono ?_
        rintro e w2 ⟨v2, rfl, own2, hbw2⟩
        have B2 : Hid (Below w.heap.size w w2) := next B1.out hbw2
        have own1b := own_below own1 hbw2 (Nat.le_refl _)
        have hrd : Reads w2 v2 6 ((bitsN N 6).flatMap bitF) := Reads.of_own own2
        have hle2 := B2.out.size
        clear hbw2 own1 own2
        go_wp2_with (at_builtin; refine wpList_append_reads _ rfl _ _ 28 rfl w.heap.size 3 i0 (.int .i64 0) 1 8 Try.underlying28 hi hz0 hz1 hz2 rfl (by decide) _ _ _ rfl own1b _ 6 _ rfl hrd HBL.out hb1.out ?c1 ?c2 hle2 ?_)
        case c1 => unfold maxLen; omega
        case c2 => omega
        intro v3 w3 own3 hg3
        have own4 : w3.ownsRow w.heap.size 3 1 v3 (6 * (k + 1)) ((uB (y.take (k + 1))).flatMap bitF) := by
          rw [HTK.out, List.flatMap_append, Nat.mul_succ]; exact own3
        have B3 : Hid (Below w.heap.size w w3) := B2.out.grown hg3 hle2 (fun q e => (own1b.lt q e).1)
        clear own1b own3 hg3 hrd hle2
        go_wp2_with fail
        go_roundw
        case rel => exact ⟨k + 1, by omega, by go_num, own4, HAL, B3⟩
        case measure => simp [intOf]; omega
      · have hz0' : z < 0 := by rw [hz]; unfold idxA; rw [if_neg hl]; decide
        have HK : Hid _ := uE_no y (.inl (alone_no y k c hce hl))
        clear hz hl hce hown
        go_wp2_with fail
        refine (KN.out _).mono ?_
        rintro e w1 ⟨rfl, hbw1⟩
        have B1 : Hid (Below w.heap.size w w1) := next hb.out hbw1
        clear hbw1
        go_wp2_with fail
        exact bodyPost_ret (v := .tuple #[.string ⟨#[]⟩, .int .i64 1]) (by simp [results, Try.results13, go_sem]) rfl ⟨by rw [HZT.out, HZE.out, HK.out.1, HK.out.2]; rfl, B1.out⟩
    · have hkn : k = n := by omega
      subst hkn
      have hty : y.take k = y := List.take_of_length_le (by rw [← HN.out]; omega)
      rw [hty] at hown
      have hal : alone y = true := alone_all y (fun j c hj => hall.out j c hj (by rw [HN.out]; exact (List.getElem?_eq_some_iff.1 hj).1))
      obtain ⟨r, hr⟩ : ∃ r, r = k % 4 := ⟨_, rfl⟩
      have d2 : (k : Int).tmod 4 = (r : Int) := by rw [Int.tmod_eq_emod_of_nonneg (by omega)]; omega
      have d2' : (k : Int) % 4 = (r : Int) := by omega
      by_cases h4 : r = 1
      · have HK : Hid _ := uE_no y (.inr (by rw [← HN.out]; omega))
        subst h4
        obtain ⟨ad, cap, rfl⟩ := slice_own hown
        clear hr hown hty hal
        go_wp2_with fail
        exact bodyPost_ret (v := .tuple #[.string ⟨#[]⟩, .int .i64 1]) (by simp [results, Try.results13, go_sem]) rfl ⟨by rw [HZT.out, HZE.out, HK.out.1, HK.out.2]; rfl, hb.out⟩
      have hr1 : ((r : Int) == 1) = false := by rw [beq_eq_false_iff_ne]; omega
      have HG : Hid (¬ (alone y = false ∨ y.length % 4 = 1)) := by
        rintro (h | h)
        · rw [hal] at h; cases h
        · rw [← HN.out] at h; omega
      obtain ⟨q, hq⟩ : ∃ q, q = 6 * k / 8 := ⟨_, rfl⟩
      obtain ⟨n6, hn6⟩ : ∃ m, m = 6 * k := ⟨_, rfl⟩
      rw [← hn6] at hown
      have d3 : (n6 : Int).tdiv 8 = (q : Int) := by rw [Int.tdiv_eq_ediv_of_nonneg (by omega)]; omega
      have d3' : (n6 : Int) / 8 = (q : Int) := by omega
      have HQ : Hid (uM y.length = q) := by show _ = _; rw [← HN.out, hq]; rfl
      have hqb : q ≤ 805306368 := by omega
      have d8 : IntKind.i64.wrap (q : Int) = (q : Int) := IntWalk.i64_in _ (by omega)
      by_cases h400 : 400 < q
      · have HK : Hid _ := uE_many y HG.out (by rw [HQ.out]; exact h400)
        have h400' : (400 : Int) < (q : Int) := by omega
        obtain ⟨ad, cap, rfl⟩ := slice_own hown
        clear hr hq hown hty hal hn6
        go_wp2_with fail
        exact bodyPost_ret (v := .tuple #[.string ⟨#[]⟩, .int .i64 2]) (by simp [results, Try.results13, go_sem]) rfl ⟨by rw [HZT.out, HZE.out, HK.out.1, HK.out.2]; rfl, hb.out⟩
      have h400' : (q : Int) ≤ 400 := by omega
      have HM : Hid (¬ 400 < uM y.length) := by show ¬ _; rw [HQ.out]; exact h400
      have hbl : (uB y).length = n6 := by rw [uB_length, ← HN.out, hn6]
      have RR : Rows wr _ bitF (uB y) := own_rows (by rw [hbl]; exact hown)
      have hq8 : 8 * q ≤ n6 ∧ n6 < 8 * q + 8 := by omega
      have d6 : IntKind.i64.wrap (8 * (q : Int)) = 8 * (q : Int) := IntWalk.i64_in _ (by omega)
      obtain ⟨m8, hm8⟩ : ∃ m, m = 8 * q := ⟨_, rfl⟩
      have d7 : 8 * (q : Int) = (m8 : Int) := by omega
      have hm8n : m8 ≤ n6 := by omega
      have hmi : (m8 : Int) ≤ (n6 : Int) := by omega
      obtain ⟨D, hD⟩ : ∃ D, D = numB ((uB y).drop m8) := ⟨_, rfl⟩
      have HDD : Hid (D = 0 ↔ uOk y = true) := by
        show _ ↔ _
        rw [hD, numB_none _ (fun b hb => uB_lt y b (List.mem_of_mem_drop hb))]
        unfold uOk
        rw [HQ.out, hm8]
      have HDL : Hid (((uB y).drop m8).length ≤ 64) := by show _ ≤ _; rw [List.length_drop, hbl]; omega
      have HUL : Hid (packB ((uB y).take m8) = uL y) := by show _ = _; unfold uL; rw [HQ.out, hm8]
      have HBL : Hid _ := hbl
      have HDe : Hid _ := hD
      have HT8 : Hid (((uB y).take m8).length ≤ 1073741824 ∧ m8 = ((uB y).take m8).length ∧ n6 - m8 = ((uB y).drop m8).length) := by
        refine ⟨?_, ?_, ?_⟩
        · rw [List.length_take, hbl]; omega
        · rw [List.length_take, hbl]; omega
        · rw [List.length_drop, hbl]
      have hn6b : n6 ≤ 6442450944 := by omega
      rcases hown.2 with ⟨rfl, h0n⟩ | ⟨bk, cp, cur, rfl, _, _, hcp, hcpm, _⟩
      · have hnil : uB y = [] := List.length_eq_zero_iff.1 (by rw [HBL.out]; exact h0n)
        have hm0 : m8 = 0 := by omega
        have RD : Hid (Rows wr (.slice none 0 0) bitF ((uB y).drop m8)) := by show Rows _ _ _ _; rw [hnil, List.drop_nil]; exact ⟨none, 0, rfl, .inl rfl⟩
        have RT : Hid (Rows wr (.slice none 0 0) bitF ((uB y).take m8)) := by show Rows _ _ _ _; rw [hnil, List.take_nil]; exact ⟨none, 0, rfl, .inl rfl⟩
        subst hm0
        have h0n : n6 = 0 := h0n
        subst h0n
        clear hown hnil RR hq hn6 hm8 hD hbl hr hty hal
        by_cases h0 : D = 0
        · have HK : Hid _ := uE_yes y HG.out HM.out (HDD.out.1 h0)
          have e0 : ((D : Int) != 0) = false := by rw [h0]; rfl
          clear h0
          go_wp2_with fail
          refine (bitNumber_any _ _ _ RD.out HDL.out (fun b hb => uB_lt y b (List.mem_of_mem_drop hb))).mono ?_
          rw [← HDe.out]
          rintro e w1 ⟨rfl, hw1⟩
          rw [hw1]
          clear hw1 w1
          go_wp2_with fail
          refine (bitBytes_any _ _ _ RT.out HT8.out.1 (fun b hb => uB_lt y b (List.mem_of_mem_take hb))).mono ?_
          rw [HUL.out]
          rintro e w1 ⟨rfl, hbw1⟩
          have B1 : Hid (Below w.heap.size w w1) := next hb.out hbw1
          clear hbw1
          go_wp2_with fail
          exact bodyPost_ret (v := .tuple #[.string (txt (uL y)), .int .i64 0]) (by simp [results, Try.results13, go_sem]) rfl ⟨by rw [HZT.out, HZE.out, HK.out.1, HK.out.2], B1.out⟩
        · have ho : uOk y = false := by
            cases h : uOk y
            · rfl
            · exact absurd (HDD.out.2 h) h0
          have HK : Hid _ := uE_last y HG.out HM.out ho
          have e0 : ((D : Int) != 0) = true := by rw [bne_iff_ne]; omega
          clear h0 ho
          go_wp2_with fail
          refine (bitNumber_any _ _ _ RD.out HDL.out (fun b hb => uB_lt y b (List.mem_of_mem_drop hb))).mono ?_
          rw [← HDe.out]
          rintro e w1 ⟨rfl, hw1⟩
          rw [hw1]
          clear hw1 w1
          go_wp2_with fail
          exact bodyPost_ret (v := .tuple #[.string ⟨#[]⟩, .int .i64 1]) (by simp [results, Try.results13, go_sem]) rfl ⟨by rw [HZT.out, HZE.out, HK.out.1, HK.out.2]; rfl, hb.out⟩
      · have RT : Hid (Rows wr (.slice (some ⟨bk, 0, none⟩) m8 cp) bitF ((uB y).take m8)) := rows_to RR m8 m8 cp HT8.out.2.1
        by_cases hcm : cp = m8
        · have hnm : n6 = m8 := by omega
          have RD : Hid (Rows wr (.slice (some ⟨bk, 0, none⟩) 0 0) bitF ((uB y).drop m8)) := by
            show Rows _ _ _ _
            rw [List.drop_eq_nil_of_le (by rw [HBL.out]; omega)]
            exact ⟨_, 0, rfl, .inl rfl⟩
          subst hcm
          subst hnm
          clear hown RR hq hn6 hm8 hD hbl hr hty hal
          by_cases h0 : D = 0
          · have HK : Hid _ := uE_yes y HG.out HM.out (HDD.out.1 h0)
            have e0 : ((D : Int) != 0) = false := by rw [h0]; rfl
            clear h0
            go_wp2_with fail
            refine (bitNumber_any _ _ _ RD.out HDL.out (fun b hb => uB_lt y b (List.mem_of_mem_drop hb))).mono ?_
            rw [← HDe.out]
            rintro e w1 ⟨rfl, hw1⟩
            rw [hw1]
            clear hw1 w1
            go_wp2_with fail
            refine (bitBytes_any _ _ _ RT.out HT8.out.1 (fun b hb => uB_lt y b (List.mem_of_mem_take hb))).mono ?_
            rw [HUL.out]
            rintro e w1 ⟨rfl, hbw1⟩
            have B1 : Hid (Below w.heap.size w w1) := next hb.out hbw1
            clear hbw1
            go_wp2_with fail
            exact bodyPost_ret (v := .tuple #[.string (txt (uL y)), .int .i64 0]) (by simp [results, Try.results13, go_sem]) rfl ⟨by rw [HZT.out, HZE.out, HK.out.1, HK.out.2], B1.out⟩
          · have ho : uOk y = false := by
              cases h : uOk y
              · rfl
              · exact absurd (HDD.out.2 h) h0
            have HK : Hid _ := uE_last y HG.out HM.out ho
            have e0 : ((D : Int) != 0) = true := by rw [bne_iff_ne]; omega
            clear h0 ho
            go_wp2_with fail
            refine (bitNumber_any _ _ _ RD.out HDL.out (fun b hb => uB_lt y b (List.mem_of_mem_drop hb))).mono ?_
            rw [← HDe.out]
            rintro e w1 ⟨rfl, hw1⟩
            rw [hw1]
            clear hw1 w1
            go_wp2_with fail
            exact bodyPost_ret (v := .tuple #[.string ⟨#[]⟩, .int .i64 1]) (by simp [results, Try.results13, go_sem]) rfl ⟨by rw [HZT.out, HZE.out, HK.out.1, HK.out.2]; rfl, hb.out⟩
        · have RD : Hid (Rows wr (.slice (some ⟨bk, m8, none⟩) (n6 - m8) (cp - m8)) bitF ((uB y).drop m8)) := by
            have h := rows_from 1 (fun _ => rfl) RR m8 (n6 - m8) (cp - m8) HT8.out.2.2
            rw [Nat.zero_add, Nat.mul_one] at h
            exact h
          clear hown RR hq hn6 hm8 hD hbl hr hty hal
          by_cases h0 : D = 0
          · have HK : Hid _ := uE_yes y HG.out HM.out (HDD.out.1 h0)
            have e0 : ((D : Int) != 0) = false := by rw [h0]; rfl
            clear h0
            go_wp2_with fail
            refine (bitNumber_any _ _ _ RD.out HDL.out (fun b hb => uB_lt y b (List.mem_of_mem_drop hb))).mono ?_
            rw [← HDe.out]
            rintro e w1 ⟨rfl, hw1⟩
            rw [hw1]
            clear hw1 w1
            go_wp2_with fail
            refine (bitBytes_any _ _ _ RT.out HT8.out.1 (fun b hb => uB_lt y b (List.mem_of_mem_take hb))).mono ?_
            rw [HUL.out]
            rintro e w1 ⟨rfl, hbw1⟩
            have B1 : Hid (Below w.heap.size w w1) := next hb.out hbw1
            clear hbw1
            go_wp2_with fail
            exact bodyPost_ret (v := .tuple #[.string (txt (uL y)), .int .i64 0]) (by simp [results, Try.results13, go_sem]) rfl ⟨by rw [HZT.out, HZE.out, HK.out.1, HK.out.2], B1.out⟩
          · have ho : uOk y = false := by
              cases h : uOk y
              · rfl
              · exact absurd (HDD.out.2 h) h0
            have HK : Hid _ := uE_last y HG.out HM.out ho
            have e0 : ((D : Int) != 0) = true := by rw [bne_iff_ne]; omega
            clear h0 ho
            go_wp2_with fail
            refine (bitNumber_any _ _ _ RD.out HDL.out (fun b hb => uB_lt y b (List.mem_of_mem_drop hb))).mono ?_
            rw [← HDe.out]
            rintro e w1 ⟨rfl, hw1⟩
            rw [hw1]
            clear hw1 w1
            go_wp2_with fail
            exact bodyPost_ret (v := .tuple #[.string ⟨#[]⟩, .int .i64 1]) (by simp [results, Try.results13, go_sem]) rfl ⟨by rw [HZT.out, HZE.out, HK.out.1, HK.out.2]; rfl, hb.out⟩
end Go.Proofs.Ytgdcifllbfdbhaa
