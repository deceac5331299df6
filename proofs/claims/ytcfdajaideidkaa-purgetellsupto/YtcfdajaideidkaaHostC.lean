/- Contracts of addresses and matches: the program's and the reference's. -/
import Derived.Test.YtcfdajaideidkaaHostB
namespace Go.Proofs.Ytcfdajaideidkaa
open Go.RowKit
set_option linter.all false
set_option maxRecDepth 100000

theorem lead_all (x : List UInt8) : (leadK x = x.length) ↔ allB digU x = true := by
  unfold leadK leadL allB
  induction x with
  | nil => simp
  | cons c x ih =>
    by_cases h : digU c = true
    · rw [List.takeWhile_cons_of_pos h]
      simp [h]
      simpa using ih
    · rw [List.takeWhile_cons_of_neg h]
      simp [h]
theorem lead_num (x : List UInt8) (h : allB digU x = true) (h3 : x.length ≤ 3) : leadN x = numL x := by
  have e : leadL x = x := by
    unfold leadL
    have : ∀ c ∈ x, digU c = true := List.all_eq_true.1 h
    have hh := while_at digU x x.length (Nat.le_refl _) (fun k c hk _ => this c (List.mem_of_getElem? hk)) (fun c hc => by simp at hc)
    rw [hh.1, List.take_length]
  unfold leadN
  rw [e, List.take_of_length_le (by omega)]
theorem leadK_le (x : List UInt8) : leadK x ≤ x.length := by
  unfold leadK leadL
  exact (List.takeWhile_sublist digU (l := x)).length_le
/-- a number of a byte, by its digits -/
theorem octet_lead (s : ByteArray) : octetL s.data.toList = true ↔ 1 ≤ leadK s.data.toList ∧ leadK s.data.toList ≤ 3 ∧ leadK s.data.toList = s.size ∧ leadN s.data.toList ≤ 255 ∧
    (1 < s.size → ∀ h : 0 < s.size, (s[0].toNat : Int) ≠ 48) := by
  have hl : s.data.toList.length = s.size := rfl
  have ha := lead_all s.data.toList
  rw [hl] at ha
  constructor
  · intro h
    have hsz : 1 ≤ s.size ∧ s.size ≤ 3 := by
      rcases Decidable.em (1 ≤ s.size ∧ s.size ≤ 3) with h' | h'
      · exact h'
      · rw [octet_no1 s h'] at h; cases h
    have hall : allB digU s.data.toList = true := by
      cases h' : allB digU s.data.toList
      · rw [octet_no3 s h'] at h; cases h
      · rfl
    have h0 : 1 < s.size → ∀ h : 0 < s.size, (s[0].toNat : Int) ≠ 48 := fun h1 hz e => by rw [octet_no2 s h1 e] at h; cases h
    have hn := octet_yes s hsz.1 hsz.2 (fun h1 => h0 h1 _) hall
    rw [h] at hn
    have hn2 := of_decide_eq_true hn.symm
    rw [← lead_num _ hall hsz.2] at hn2
    have := ha.2 hall
    exact ⟨by omega, by omega, this, hn2, h0⟩
  · rintro ⟨h1, h2, h3, h4, h5⟩
    have hall := ha.1 h3
    rw [octet_yes s (by omega) (by omega) (fun h => h5 h _) hall]
    rw [lead_num _ hall (by omega)] at h4
    exact decide_eq_true h4
set_option maxHeartbeats 1000000 in
theorem sufl_any (s p : ByteArray) (w : World) (hs : s.size ≤ maxLen) :
    Calls Try.prog 83 #[.string s, .string p] w fun e w' => e = .returned (.bool (Lib.hasSuffix s.data.toList p.data.toList)) ∧ w' = w := by
  unfold maxLen at hs
  have HR : Hid _ := Lib.hasSuffix_raw s p
  by_cases h : p.size ≤ s.size
  · have e1 : ((s.size : Int) - (p.size : Int)).toNat = s.size - p.size := by omega
    go_enter Try.func83, Try.ntmps83
    go_wp2
    go_ret
    refine ⟨?_, rfl⟩
    rw [← HR.out]
    simp [h]
  · go_enter Try.func83, Try.ntmps83
    go_wp2
    go_ret
    refine ⟨?_, rfl⟩
    rw [← HR.out]
    simp [h]
set_option maxHeartbeats 1000000 in
theorem suf_any (s p : ByteArray) (w : World) (hs : s.size ≤ maxLen) :
    Calls Try.prog 75 #[.string s, .string p] w fun e w' => e = .returned (.bool (Lib.hasSuffix s.data.toList p.data.toList)) ∧ w' = w := by
  go_enter Try.func75, Try.ntmps75
  go_wp2_with fail
  refine (sufl_any _ _ _ hs).mono ?_
  rintro e w' ⟨rfl, rfl⟩
  go_wp2_with fail
  go_ret
  exact ⟨rfl, rfl⟩
theorem eq_list (a b : ByteArray) : (a.toList == b.toList) = (a.data.toList == b.data.toList) := by rw [Lib.toList_data, Lib.toList_data]
set_option maxHeartbeats 1000000 in
theorem match_any (h d : ByteArray) (w : World) (hh : h.size ≤ maxLen) (hd : d.size < maxLen) :
    Calls Try.prog 116 #[.string h, .string d] w fun e w' => e = .returned (.bool (matchL h.data.toList d.data.toList)) ∧ Below w.heap.size w w' := by
  have HH : Hid _ := hh
  unfold maxLen at hd hh
  cases h1 : (h.data.toList == d.data.toList)
  · have HM : Hid (matchL h.data.toList d.data.toList = (Lib.hasSuffix h.data.toList (46 :: d.data.toList) && !addrL h.data.toList)) := by
      show (_ || _) = _
      rw [h1]; rfl
    have h1b : (h.toList == d.toList) = false := (eq_list h d).trans h1
    clear h1
    have hz : ({ data := #[46] } : ByteArray).size = 1 := rfl
    have HD : Hid (({ data := #[46] } ++ d : ByteArray).data.toList = 46 :: d.data.toList) := by
      show _ = _
      rw [ByteArray.data_append, Array.toList_append]; rfl
    cases h2 : Lib.hasSuffix h.data.toList (46 :: d.data.toList)
    · have H2 : Hid _ := h2
      clear h2
      go_enter Try.func116, Try.ntmps116
      go_wp2_with fail
      refine (suf_any _ _ _ HH.out).mono ?_
      rw [HD.out, H2.out]
      rintro e w1 ⟨rfl, rfl⟩
      go_wp2_with fail
      go_ret
      refine ⟨?_, Below.refl _ _⟩
      rw [HM.out, H2.out]; rfl
    · have H2 : Hid _ := h2
      clear h2
      go_enter Try.func116, Try.ntmps116
      go_wp2_with fail
      refine (suf_any _ _ _ HH.out).mono ?_
      rw [HD.out, H2.out]
      rintro e w1 ⟨rfl, rfl⟩
      go_wp2_with fail
      refine (address_any _ _ HH.out).mono ?_
      rintro e w2 ⟨rfl, hb2⟩
      go_wp2_with fail
      go_ret
      refine ⟨?_, hb2⟩
      rw [HM.out, H2.out]; rfl
  · have HM : Hid (matchL h.data.toList d.data.toList = true) := by
      show (_ || _) = _
      rw [h1]; rfl
    have h1b : (h.toList == d.toList) = true := (eq_list h d).trans h1
    clear h1
    go_enter Try.func116, Try.ntmps116
    go_wp2_with fail
    go_ret
    refine ⟨?_, Below.refl _ _⟩
    rw [HM.out]; rfl
set_option maxHeartbeats 1000000 in
theorem isAddress_any (s : ByteArray) (w : World) (hs : (s.size + 1) * 16 ≤ 140737488355328) :
    Calls Try.prog 81 #[.string s] w fun e w' => e = .returned (.bool (addrL s.data.toList)) ∧ Below w.heap.size w w' := by
  have HS : Hid _ := hs
  have HX : Hid _ := parts_size s 46
  have hpl : (partsL s.data.toList 46).length ≤ s.size + 1 := partsL_len s.data.toList 46
  have HA : Hid (addrL s.data.toList = (decide ((partsL s.data.toList 46).length = 4) && (partsL s.data.toList 46).all octetL)) := rfl
  go_enter Try.func81, Try.ntmps81
  go_wp2_with fail
  refine (partsOf_any s 46 _ HS.out).mono ?_
  rintro e w1 ⟨v, rfl, hown, hb1⟩
  have hr := Reads.of_own hown
  clear hown
  obtain ⟨ps, hps⟩ : ∃ ps, ps = partsL s.data.toList 46 := ⟨_, rfl⟩
  rw [← hps] at hpl HX HA hr
  clear hps
  obtain ⟨ad, cap, rfl, hr⟩ := hr
  by_cases h4 : ps.length = 4
  · have HL : Hid (addrL s.data.toList = ps.all octetL) := by
      show _ = _
      rw [HA.out, h4]; rfl
    have h4b : ((ps.length : Int) == 4) = true := by rw [h4]; rfl
    have h4n : ((ps.length : Int) != 4) = false := by rw [h4]; rfl
    have H4 : Hid _ := h4
    clear h4
    go_wp2_with fail
    go_loop [4] (fun i => ∃ k : Nat, k ≤ 4 ∧ i = .int .i64 k ∧ Hid (∀ (j : Nat) x, ps[j]? = some x → j < k → octetL x = true)) (fun i => 4 - (intOf i).toNat)
    case atStart => exact ⟨0, Nat.zero_le _, rfl, fun _ _ _ h => absurd h (by omega)⟩
    case round =>
      obtain ⟨k, hk, rfl, hb⟩ := hrel
      by_cases hlt : k < 4
      · have hlt4 : k < ps.length := by have := H4.out; omega
        have e1 := List.getElem?_eq_getElem hlt4
        obtain ⟨x, hx⟩ : ∃ x, x = ps[k] := ⟨_, rfl⟩
        rw [← hx] at e1
        rcases hr with hr | ⟨bl, ol, rfl, hr⟩
        · have : (strs ps).length = ps.length := strs_length ps
          rw [hr] at this; simp at this; omega
        have hc0 := hr k _ (strs_get e1)
        have hxs := HX.out k x e1
        have E1 : Hid _ := e1
        clear hr hx e1
        have HO : Hid _ := octet_lead (txt x)
        have HB : Hid (octetL x = false → addrL s.data.toList = false) := fun h => HL.out.trans (host_no octetL _ k x E1.out h)
        have hle : leadK x ≤ (txt x).size := leadK_le x
        obtain ⟨kk, hkk⟩ : ∃ kk, leadK x = kk := ⟨_, rfl⟩
        obtain ⟨nn, hnn⟩ : ∃ nn, leadN x = nn := ⟨_, rfl⟩
        rw [txt_toList, hkk, hnn] at HO
        rw [hkk] at hle
        have KK : Hid _ := hkk
        have NN : Hid _ := hnn
        clear hkk hnn
        by_cases c1 : kk < 1
        · have HT : Hid (addrL s.data.toList = false) := HB.out (by rw [← Bool.not_eq_true, HO.out]; omega)
          go_wp2_with fail
          refine (leadDigits_any (txt x) _ (by unfold maxLen; omega)).mono ?_
          rw [txt_toList, KK.out, NN.out]
          rintro e w' ⟨rfl, rfl⟩
          go_wp2_with fail
          go_ret
          refine ⟨?_, hb1⟩
          rw [HT.out]; rfl
        by_cases c2 : 3 < kk
        · have HT : Hid (addrL s.data.toList = false) := HB.out (by rw [← Bool.not_eq_true, HO.out]; omega)
          go_wp2_with fail
          refine (leadDigits_any (txt x) _ (by unfold maxLen; omega)).mono ?_
          rw [txt_toList, KK.out, NN.out]
          rintro e w' ⟨rfl, rfl⟩
          go_wp2_with fail
          go_ret
          refine ⟨?_, hb1⟩
          rw [HT.out]; rfl
        by_cases c3 : kk = (txt x).size
        · subst c3
          by_cases c4 : 255 < nn
          · have HT : Hid (addrL s.data.toList = false) := HB.out (by rw [← Bool.not_eq_true, HO.out]; omega)
            go_wp2_with fail
            refine (leadDigits_any (txt x) _ (by unfold maxLen; omega)).mono ?_
            rw [txt_toList, KK.out, NN.out]
            rintro e w' ⟨rfl, rfl⟩
            go_wp2_with fail
            go_ret
            refine ⟨?_, hb1⟩
            rw [HT.out]; rfl
          by_cases c5 : 1 < (txt x).size
          · have h0 : 0 < (txt x).size := by omega
            by_cases c6 : ((txt x)[0].toNat : Int) = 48
            · have HT : Hid (addrL s.data.toList = false) := HB.out (by
                rw [← Bool.not_eq_true, HO.out]
                rintro ⟨_, _, _, _, h⟩
                exact h (by omega) h0 c6)
              have c6b : (((txt x)[0].toNat : Int) == 48) = true := by rw [c6]; rfl
              clear c6
              go_wp2_with fail
              refine (leadDigits_any (txt x) _ (by unfold maxLen; omega)).mono ?_
              rw [txt_toList, KK.out, NN.out]
              rintro e w' ⟨rfl, rfl⟩
              go_wp2_with fail
              go_ret
              refine ⟨?_, hb1⟩
              rw [HT.out]; rfl
            · have HT : Hid (octetL x = true) := HO.out.2 ⟨by omega, by omega, rfl, by omega, fun _ _ => c6⟩
              have c6b : (((txt x)[0].toNat : Int) == 48) = false := by rw [beq_eq_false_iff_ne]; exact c6
              clear c6
              go_wp2_with fail
              refine (leadDigits_any (txt x) _ (by unfold maxLen; omega)).mono ?_
              rw [txt_toList, KK.out, NN.out]
              rintro e w' ⟨rfl, rfl⟩
              go_wp2_with fail
              go_round
              case rel =>
                refine ⟨k + 1, by omega, by go_num, fun j y hj hlt2 => ?_⟩
                by_cases e : j = k
                · subst e
                  rw [E1.out] at hj
                  injection hj with hj
                  rw [← hj]; exact HT.out
                · exact hb.out j y hj (by omega)
              case measure => simp [intOf]; omega
          · have HT : Hid (octetL x = true) := HO.out.2 ⟨by omega, by omega, rfl, by omega, fun h => absurd h (by omega)⟩
            go_wp2_with fail
            refine (leadDigits_any (txt x) _ (by unfold maxLen; omega)).mono ?_
            rw [txt_toList, KK.out, NN.out]
            rintro e w' ⟨rfl, rfl⟩
            go_wp2_with fail
            go_round
            case rel =>
              refine ⟨k + 1, by omega, by go_num, fun j y hj hlt2 => ?_⟩
              by_cases e : j = k
              · subst e
                rw [E1.out] at hj
                injection hj with hj
                rw [← hj]; exact HT.out
              · exact hb.out j y hj (by omega)
            case measure => simp [intOf]; omega
        · have HT : Hid (addrL s.data.toList = false) := HB.out (by rw [← Bool.not_eq_true, HO.out]; omega)
          have c3n : ¬ (kk : Int) = ((txt x).size : Int) := by omega
          clear c3
          go_wp2_with fail
          refine (leadDigits_any (txt x) _ (by unfold maxLen; omega)).mono ?_
          rw [txt_toList, KK.out, NN.out]
          rintro e w' ⟨rfl, rfl⟩
          go_wp2_with fail
          go_ret
          refine ⟨?_, hb1⟩
          rw [HT.out]; rfl
      · have HT : Hid (addrL s.data.toList = true) := HL.out.trans (host_yes octetL _ (fun j x hj => hb.out j x hj (by have := (List.getElem?_eq_some_iff.1 hj).1; have := H4.out; omega)))
        clear hr
        go_wp2_with fail
        go_ret
        refine ⟨?_, hb1⟩
        rw [HT.out]; rfl
  · have HT : Hid (addrL s.data.toList = false) := by
      show _ = _
      rw [HA.out, decide_eq_false h4]; rfl
    have h4b : ((ps.length : Int) == 4) = false := by rw [beq_eq_false_iff_ne]; omega
    clear h4
    go_wp2_with fail
    go_ret
    refine ⟨?_, hb1⟩
    rw [HT.out]; rfl
theorem eq46 (c : UInt8) : (c == 46) = true ↔ (c.toNat : Int) = 46 := by
  rw [beq_iff_eq, eqc]
  have : (46 : UInt8).toNat = 46 := rfl
  omega
theorem suf_drop (h d : List UInt8) (x : UInt8) (n : Nat) (hn : h.length = n + 1 + d.length) (hd : h.drop (n + 1) = d) : Lib.hasSuffix h (x :: d) = (h[n]? == some x) := by
  rw [← Lib.hasSuffix_of_drop]
  have e : h.length - (x :: d).length = n := by rw [List.length_cons]; omega
  rw [e, List.length_cons, decide_eq_true (by omega), Bool.true_and]
  have hlt : n < h.length := by omega
  rw [List.drop_eq_getElem_cons hlt, hd, List.getElem?_eq_getElem hlt]
  rw [Bool.eq_iff_iff]
  simp
theorem suf_not (h d : List UInt8) (x : UInt8) (hd : h.drop (h.length - d.length) ≠ d) : Lib.hasSuffix h (x :: d) = false := by
  rw [← Bool.not_eq_true, ← Lib.hasSuffix_of_drop, Bool.and_eq_true, decide_eq_true_eq, beq_iff_eq]
  rintro ⟨h1, h2⟩
  apply hd
  rw [List.length_cons] at h1 h2
  have : h.drop (h.length - d.length) = (h.drop (h.length - (d.length + 1))).drop 1 := by
    rw [List.drop_drop]; congr 1; omega
  rw [this, h2]; rfl
theorem suf_len (h d : List UInt8) (x : UInt8) (hl : ¬ d.length < h.length) : Lib.hasSuffix h (x :: d) = false := by
  rw [← Lib.hasSuffix_of_drop]
  rw [decide_eq_false (by rw [List.length_cons]; omega)]; rfl
theorem beq_len (h d : List UInt8) (hl : h.length ≠ d.length) : (h == d) = false := by
  rw [beq_eq_false_iff_ne]; intro e; exact hl (by rw [e])
set_option maxHeartbeats 1000000 in
theorem isMatch_any (h d : ByteArray) (w : World) (hh : (h.size + 1) * 16 ≤ 140737488355328) (hd : d.size ≤ maxLen) :
    Calls Try.prog 70 #[.string h, .string d] w fun e w' => e = .returned (.bool (matchL h.data.toList d.data.toList)) ∧ Below w.heap.size w w' := by
  have HH : Hid _ := hh
  unfold maxLen at hd
  have hlh : h.data.toList.length = h.size := rfl
  have hld : d.data.toList.length = d.size := rfl
  by_cases h1 : d.size ≤ h.size
  · have e1 : ((h.size : Int) - (d.size : Int)).toNat = h.size - d.size := by omega
    have EX : Hid ((h.extract (h.size - d.size) h.size).toList = h.data.toList.drop (h.size - d.size)) := by
      show _ = _
      rw [Lib.toList_data, Lib.extract_to_end]
    by_cases h2 : h.data.toList.drop (h.size - d.size) = d.data.toList
    · have h2b : ((h.extract (h.size - d.size) h.size).toList == d.toList) = true := by
        rw [EX.out, Lib.toList_data, h2]; simp
      by_cases h3 : h.size = d.size
      · have HT : Hid (matchL h.data.toList d.data.toList = true) := by
          rw [h3, Nat.sub_self, List.drop_zero] at h2
          show (_ || _) = _
          rw [h2]; simp
        have h3b : (((h.size : Int) - (d.size : Int)) == 0) = true := by rw [h3]; simp
        clear h2 hlh hld h3
        go_enter Try.func70, Try.ntmps70
        go_wp2_with fail
        go_ret
        refine ⟨?_, Below.refl _ _⟩
        rw [HT.out]; rfl
      · obtain ⟨n, hn⟩ : ∃ n, h.size = n + 1 + d.size := ⟨h.size - d.size - 1, by omega⟩
        have hnl : n < h.size := by omega
        have HT : Hid (matchL h.data.toList d.data.toList = ((h[n] == 46) && !addrL h.data.toList)) := by
          show (_ || _) = _
          rw [beq_len _ _ (by omega), Bool.false_or, suf_drop _ _ 46 n (by omega) (by rw [← h2]; congr 1; omega), get_of h n hnl]
          rfl
        have h3b : (((h.size : Int) - (d.size : Int)) == 0) = false := by rw [beq_eq_false_iff_ne]; omega
        have e2 : ((h.size : Int) - (d.size : Int) - 1).toNat = n := by omega
        have e3 : (0 : Int) ≤ (h.size : Int) - (d.size : Int) - 1 := by omega
        have e4 : (h.size : Int) - (d.size : Int) - 1 < (h.size : Int) := by omega
        clear h2 hlh hld h3 hn
        go_enter Try.func70, Try.ntmps70
        go_wp2_with fail
        refine (isAddress_any _ _ HH.out).mono ?_
        rintro e w1 ⟨rfl, hb1⟩
        cases ha : addrL h.data.toList
        · go_wp2_with fail
          go_ret
          refine ⟨?_, hb1⟩
          rw [HT.out, ha, Bool.not_false, Bool.and_true]
          exact ret_b (by rw [eq46, beq_iff_eq])
        · go_wp2_with fail
          go_ret
          refine ⟨?_, hb1⟩
          rw [HT.out, ha]; simp
    · have HT : Hid (matchL h.data.toList d.data.toList = false) := by
        show (_ || _) = _
        have h3 : (h.data.toList == d.data.toList) = false := by
          rw [beq_eq_false_iff_ne]; intro e
          apply h2
          have : h.size = d.size := by rw [← hlh, e]; exact hld
          rw [this, Nat.sub_self, List.drop_zero, e]
        rw [h3, suf_not _ _ _ h2]; rfl
      have h2b : ((h.extract (h.size - d.size) h.size).toList == d.toList) = false := by
        rw [EX.out, Lib.toList_data, beq_eq_false_iff_ne]; exact h2
      clear h2 hlh hld
      go_enter Try.func70, Try.ntmps70
      go_wp2_with fail
      go_ret
      refine ⟨?_, Below.refl _ _⟩
      rw [HT.out]; rfl
  · have HT : Hid (matchL h.data.toList d.data.toList = false) := by
      show (_ || _) = _
      rw [beq_len _ _ (by omega), suf_len _ _ _ (by omega)]; rfl
    clear hlh hld
    go_enter Try.func70, Try.ntmps70
    go_wp2_with fail
    go_ret
    refine ⟨?_, Below.refl _ _⟩
    rw [HT.out]; rfl
end Go.Proofs.Ytcfdajaideidkaa
