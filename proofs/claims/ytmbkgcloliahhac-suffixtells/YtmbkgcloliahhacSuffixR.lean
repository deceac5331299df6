/- Contracts of the reference: what is behind a label; rules checked; a host's public suffix and owner, rule by rule. -/
import Derived.Test.YtmbkgcloliahhacSuffixD
import Derived.Test.YtmbkgcloliahhacKit3
namespace Go.Proofs.Ytmbkgcloliahhac
open Go.RowKit Go.Maps
set_option linter.all false

theorem eqS (r q : Int × List UInt8) (hr : okR r) (hq : okR q) (w : World) :
    (Op.equalIn 10000 50 (.agg #[.int .i64 r.1, .string (txt r.2)]) (.agg #[.int .i64 q.1, .string (txt q.2)])).run Try.prog w = .ok (r == q) w := by
  obtain ⟨b, hb, hi⟩ := run_equal_deep w (m := 2) (by omega) (k := 50) (by kernel_rfl) swide (key_of r hr) (key_of q hq)
  have hb2 : (Op.equalIn 10000 50 (.agg #[.int .i64 r.1, .string (txt r.2)]) (.agg #[.int .i64 q.1, .string (txt q.2)])).run Try.prog w = .ok b w := hb
  rw [hb2]
  congr 1
  rw [Bool.eq_iff_iff, hi, beq_iff_eq]
  exact ⟨fun h => key_inj r q hr hq h, fun h => by rw [h]⟩
set_option maxHeartbeats 1000000 in
theorem behindLabel_any (s : ByteArray) (w : World) (hs : s.size ≤ maxLen) :
    Calls Try.prog 42 #[.string s] w fun e w' => e = .returned (.string (txt (behindL s.data.toList))) ∧ w' = w := by
  have HS : Hid _ := hs
  unfold maxLen at hs
  have hge := Lib.indexByte_ge s.data.toList 46
  by_cases hn : Lib.indexByte s.data.toList 46 = -1
  · have HB : Hid (behindL s.data.toList = []) := (cut_none _ _ hn).2.1
    have HN : Hid _ := hn
    clear hn hge
    go_enter Try.func42, Try.ntmps42
    go_wp2_with fail
    refine (placeOf_any s 46 _ HS.out).mono ?_
    rw [HN.out]
    rintro e w' ⟨rfl, rfl⟩
    go_wp2_with fail
    go_ret
    refine ⟨?_, rfl⟩
    rw [HB.out]; rfl
  · obtain ⟨o, ho⟩ : ∃ o : Nat, Lib.indexByte s.data.toList 46 = o := ⟨(Lib.indexByte s.data.toList 46).toNat, by omega⟩
    obtain ⟨_, e2, _, e4⟩ := cut_some _ _ _ ho
    have e4' : o < s.size := e4
    have HB : Hid (txt (behindL s.data.toList) = s.extract (o + 1) s.size) := by
      show txt (cutB _ _) = _
      rw [e2, ext_from]
    have HN : Hid _ := ho
    clear hn ho e2 e4 hge
    go_enter Try.func42, Try.ntmps42
    go_wp2_with fail
    refine (placeOf_any s 46 _ HS.out).mono ?_
    rw [HN.out]
    rintro e w' ⟨rfl, rfl⟩
    go_wp2_with fail
    go_ret
    refine ⟨?_, rfl⟩
    rw [HB.out]; rfl
theorem dot_place (s : List UInt8) : hasB s 46 = true ↔ 0 ≤ Lib.indexByte s 46 := by
  have hge := Lib.indexByte_ge s 46
  by_cases hn : Lib.indexByte s 46 = -1
  · rw [(cut_none _ _ hn).2.2, hn]; simp
  · obtain ⟨o, ho⟩ : ∃ o : Nat, Lib.indexByte s 46 = o := ⟨(Lib.indexByte s 46).toNat, by omega⟩
    rw [(cut_some _ _ _ ho).2.2.1, ho]; simp
set_option maxRecDepth 100000 in
set_option maxHeartbeats 8000000 in
theorem suffixCheck_any (v : Value) (l : Rules) (w : World) (hr : Rows w v sufF l) (hm : l.length ≤ maxLen) (hok : ∀ r ∈ l, okR r) :
    Calls Try.prog 26 #[v] w fun e w' => e = .returned (.int .i64 (sufE l)) ∧ Below w.heap.size w w' := by
  obtain ⟨ad, cap, rfl⟩ := hr.shape
  unfold maxLen at hm
  by_cases h16 : l.length ≤ 16
  · have HE : Hid (sufE l = layE [] l) := if_pos h16
    have HK : Hid _ := hok
    have HRR : Hid (Rows w (.slice ad l.length cap) sufF l) := hr
    clear hok hr
    go_enter Try.func26, Try.ntmps26
    go_wp2_with fail
    go_loopw [3] (fun i wr => ∃ k : Nat, k ≤ l.length ∧ i = .int .i64 k ∧ Hid (layE (l.take k) (l.drop k) = layE [] l) ∧ Below w.heap.size w wr) (fun i _ => l.length - (intOf i).toNat)
    case atStart => exact ⟨0, Nat.zero_le _, rfl, rfl, Below.refl _ _⟩
    case round =>
      obtain ⟨k, hk, rfl, hl, hb⟩ := hrel
      by_cases hlt : k < l.length
      · obtain ⟨⟨z, s⟩, hrk⟩ : ∃ r, l[k]? = some r := ⟨_, List.getElem?_eq_getElem hlt⟩
        obtain ⟨b, off, rfl, hbl, hc⟩ := Rows.at HRR.out rfl 1 sufF_len k _ hrk
        have HR0 : Hid (b < w.heap.size ∧ ∀ (j : Nat) q, l[j]? = some q → ∀ i u, (sufF q)[i]? = some u → w.cell? ⟨b, off + j * 2 + i, none⟩ = some u) := ⟨hbl, fun j q hq => by
          obtain ⟨b', off', e, _, hc'⟩ := Rows.at HRR.out rfl 1 sufF_len j q hq
          injection e with e
          injection e with e1 e2 _
          subst e1 e2
          exact hc'⟩
        have HC1 : Hid _ := hc
        have c1 := (hb.cell (p := ⟨b, off + k * 2 + 0, none⟩) hbl).trans (hc 0 _ rfl)
        have c2 := (hb.cell (p := ⟨b, off + k * 2 + 1, none⟩) hbl).trans (hc 1 _ rfl)
        rw [Nat.add_zero] at c1
        have hbl1 : b < wr.heap.size := Nat.lt_of_lt_of_le hbl hb.size
        have hr0 : okR (z, s) := HK.out _ (List.mem_of_getElem? hrk)
        have HS : Hid (okR (z, s)) := hr0
        have HZ : Hid ((txt s).size ≤ maxLen) := hr0.2
        have hz1 : -9223372036854775808 ≤ z ∧ z ≤ 9223372036854775807 := hr0.1
        have HG0 : Hid _ := lay_step l k _ hrk
        have HT0 : Hid (l.take (k + 1) = l.take k ++ [(z, s)]) := by show _ = _; rw [List.take_succ, hrk]; rfl
        obtain ⟨T, hT⟩ : ∃ T, T = l.take k := ⟨_, rfl⟩
        have HTk : Hid _ := hT
        rw [← hT] at hl HG0 HT0
        have HG : Hid _ := HG0.out
        have HT1 : Hid _ := HT0.out
        have HT : Hid (layE (l.take (k + 1)) (l.drop (k + 1)) = layE (T ++ [(z, s)]) (l.drop (k + 1))) := by show _ = _; rw [HT0.out]
        have HB : Hid (ruleE (z, s) ≠ 0 → sufE l = ruleE (z, s)) := fun he => by rw [HE.out, ← hl.out, HG.out, if_neg he]
        clear hrk hc hr0 hT HG0 HT0
        cases hkd : kindB z
        · have HR : Hid (sufE l = 7) := by
            have := rule_kind (z, s) hkd
            show _ = _
            rw [HB.out (by rw [this]; decide), this]
          obtain ⟨k1, k2, k3⟩ := kind_none z hkd
          clear hkd
          by_cases hz : z < 1
          · clear k1 k2 k3
            go_wp2_with fail
            go_ret
            refine ⟨?_, hb⟩
            rw [HR.out]; rfl
          · have hz3 : 3 < z := by omega
            clear k1 k2 k3
            go_wp2_with fail
            go_ret
            refine ⟨?_, hb⟩
            rw [HR.out]; rfl
        · have hz13 : 1 ≤ z ∧ z ≤ 3 := by rcases kind_three z hkd with rfl | rfl | rfl <;> omega
          have hz13a := hz13.1
          have hz13b := hz13.2
          have HF1 : Hid (formB (z, s) = false → sufE l = 1) := fun hf => by
            have := rule_bad (z, s) hkd hf
            rw [HB.out (by rw [this]; decide), this]
          have HF0 : Hid (formB (z, s) = true → ruleE (z, s) = 0) := fun hf => rule_ok (z, s) hkd hf
          clear hkd hz13
          cases hcn : canB s
          · have HC : Hid _ := hcn
            have HR : Hid (sufE l = 1) := HF1.out (by unfold formB; simp only; rw [hcn]; rfl)
            clear hcn
            go_wp2_with fail
            refine (isHost_any _ _ HZ.out).mono ?_
            rw [txt_toList, HC.out]
            rintro e w1 ⟨rfl, hb1⟩
            have c3 := (hb1.cell (p := ⟨b, off + k * 2, none⟩) hbl1).trans c1
            have c4 := (hb1.cell (p := ⟨b, off + k * 2 + 1, none⟩) hbl1).trans c2
            go_wp2_with fail
            go_ret
            refine ⟨?_, next hb hb1⟩
            rw [HR.out]; rfl
          · have HC : Hid _ := hcn
            have hsl := can_len s hcn
            have HW : Hid (((txt s).size + 1) * 16 ≤ 140737488355328) := by show (s.length + 1) * 16 ≤ _; omega
            cases had : addrL s
            · have HD : Hid _ := had
              by_cases hz3 : z = 3
              · have hz3b : (z == 3) = true := by rw [hz3]; rfl
                obtain ⟨pl, hpl⟩ : ∃ pl, Lib.indexByte s 46 = pl := ⟨_, rfl⟩
                have HP : Hid _ := hpl
                by_cases hp0 : pl < 0
                · have HR : Hid (sufE l = 1) := HF1.out (by
                    unfold formB; simp only
                    have : hasB s 46 = false := by rw [← Bool.not_eq_true, dot_place, hpl]; omega
                    rw [hcn, had, this, hz3]; rfl)
                  clear hcn had hpl hz3 hsl
                  go_wp2_with fail
                  refine (isHost_any _ _ HZ.out).mono ?_
                  rw [txt_toList, HC.out]
                  rintro e w1 ⟨rfl, hb1⟩
                  have c3 := (hb1.cell (p := ⟨b, off + k * 2, none⟩) hbl1).trans c1
                  have c4 := (hb1.cell (p := ⟨b, off + k * 2 + 1, none⟩) hbl1).trans c2
                  go_wp2_with fail
                  refine (isAddress_any _ _ HW.out).mono ?_
                  rw [txt_toList, HD.out]
                  rintro e w2 ⟨rfl, hb2⟩
                  have hbl2 := Nat.lt_of_lt_of_le hbl1 hb1.size
                  have c5 := (hb2.cell (p := ⟨b, off + k * 2, none⟩) hbl2).trans c3
                  have c6 := (hb2.cell (p := ⟨b, off + k * 2 + 1, none⟩) hbl2).trans c4
                  go_wp2_with fail
                  refine (placeOf_any _ 46 _ HZ.out).mono ?_
                  rw [txt_toList, HP.out]
                  rintro e w3 ⟨rfl, rfl⟩
                  go_wp2_with fail
                  go_ret
                  refine ⟨?_, next (next hb hb1) hb2⟩
                  rw [HR.out]; rfl
                · have H0 : Hid (ruleE (z, s) = 0) := HF0.out (by
                    unfold formB; simp only
                    have : hasB s 46 = true := by rw [dot_place, hpl]; omega
                    rw [hcn, had, this]; simp)
                  clear hcn had hpl hz3 hsl
                  go_wp2_with fail
                  refine (isHost_any _ _ HZ.out).mono ?_
                  rw [txt_toList, HC.out]
                  rintro e w1 ⟨rfl, hb1⟩
                  have c3 := (hb1.cell (p := ⟨b, off + k * 2, none⟩) hbl1).trans c1
                  have c4 := (hb1.cell (p := ⟨b, off + k * 2 + 1, none⟩) hbl1).trans c2
                  go_wp2_with fail
                  refine (isAddress_any _ _ HW.out).mono ?_
                  rw [txt_toList, HD.out]
                  rintro e w2 ⟨rfl, hb2⟩
                  have hbl2 := Nat.lt_of_lt_of_le hbl1 hb1.size
                  have c5 := (hb2.cell (p := ⟨b, off + k * 2, none⟩) hbl2).trans c3
                  have c6 := (hb2.cell (p := ⟨b, off + k * 2 + 1, none⟩) hbl2).trans c4
                  go_wp2_with fail
                  refine (placeOf_any _ 46 _ HZ.out).mono ?_
                  rw [txt_toList, HP.out]
                  rintro e w3 ⟨rfl, rfl⟩
                  have HI : Hid (layE T (l.drop k) = if T.contains (z, s) then 6 else layE (T ++ [(z, s)]) (l.drop (k + 1))) := by
                    show _ = _
                    rw [HG.out, if_pos H0.out, HT.out]
                  have hbW : Below w.heap.size w w3 := next (next hb hb1) hb2
                  go_wp2_with fail
                  clear c1 c2 c3 c4 c5 c6 hb1 hb2 hbl1 hbl2 hb hp0
                  go_loopw [4] (fun i wr => ∃ j : Nat, j ≤ k ∧ i = .int .i64 j ∧ Hid (∀ (m : Nat) q, l[m]? = some q → m < j → (q == (z, s)) = false) ∧ Below w.heap.size w wr) (fun i _ => k - (intOf i).toNat)
                  case atStart => exact ⟨0, Nat.zero_le _, rfl, fun _ _ _ h => absurd h (by omega), hbW⟩
                  case round =>
                    obtain ⟨j, hj, rfl, hn, hbj⟩ := hrel
                    by_cases hjk : j < k
                    · obtain ⟨⟨y, t⟩, hq⟩ : ∃ q, l[j]? = some q := ⟨_, List.getElem?_eq_getElem (by omega)⟩
                      have hc2 := HR0.out.2 j _ hq
                      have d1 := (hbj.cell (p := ⟨b, off + j * 2 + 0, none⟩) hbl).trans (hc2 0 _ rfl)
                      have d2 := (hbj.cell (p := ⟨b, off + j * 2 + 1, none⟩) hbl).trans (hc2 1 _ rfl)
                      have e1 := (hbj.cell (p := ⟨b, off + k * 2 + 0, none⟩) hbl).trans (HC1.out 0 _ rfl)
                      have e2 := (hbj.cell (p := ⟨b, off + k * 2 + 1, none⟩) hbl).trans (HC1.out 1 _ rfl)
                      rw [Nat.add_zero] at d1 e1
                      have hjl : j < l.length := by omega
                      obtain ⟨bb, hbb⟩ : ∃ bb, ((y, t) == (z, s)) = bb := ⟨_, rfl⟩
                      have hqs := eqS (y, t) (z, s) (HK.out _ (List.mem_of_getElem? hq)) HS.out
                      rw [hbb] at hqs
                      simp only at hqs
                      have HQ : Hid _ := hq
                      have HBB : Hid _ := hbb
                      clear hq hc2 hbb
                      cases bb
                      · go_wp2_with fail
                        go_quiet (fail)
                        go_wp2_with fail
                        go_roundw
                        case rel =>
                          refine ⟨j + 1, by omega, by go_num, fun m q hm hlt2 => ?_, next hbj (below_drewN' _ _ _)⟩
                          by_cases e : m = j
                          · subst e
                            rw [HQ.out] at hm
                            injection hm with hm
                            rw [← hm]; exact HBB.out
                          · exact hn.out m q hm (by omega)
                        case measure => simp [intOf]; omega
                      · have HR : Hid (sufE l = 6) := by
                          show _ = _
                          rw [HE.out, ← hl.out, HI.out, if_pos]
                          rw [HTk.out, List.contains_iff_mem, ← (beq_iff_eq.1 HBB.out)]
                          refine List.mem_of_getElem? (i := j) ?_
                          rw [List.getElem?_take_of_lt hjk]; exact HQ.out
                        go_wp2_with fail
                        go_quiet (fail)
                        go_wp2_with fail
                        go_ret
                        refine ⟨?_, next hbj (below_drewN' _ _ _)⟩
                        rw [HR.out]; rfl
                    · have HF : Hid (T.contains (z, s) = false) := by
                        show _ = _
                        rw [HTk.out, ← Bool.not_eq_true, List.contains_iff_mem]
                        intro hm
                        obtain ⟨m, hm⟩ := List.getElem?_of_mem hm
                        have hmk : m < k := by
                          have := (List.getElem?_eq_some_iff.1 hm).1
                          rw [List.length_take] at this; omega
                        rw [List.getElem?_take_of_lt hmk] at hm
                        have := hn.out m _ hm (by omega)
                        rw [beq_self_eq_true] at this
                        cases this
                      clear hn
                      go_wp2_with fail
                      go_roundw
                      case rel =>
                        refine ⟨k + 1, by omega, by go_num, ?_, hbj⟩
                        show _ = _
                        rw [HT1.out, ← hl.out, HI.out, HF.out]; rfl
                      case measure => simp [intOf]; omega
              · have hz3b : (z == 3) = false := by rw [beq_eq_false_iff_ne]; exact hz3
                have H0 : Hid (ruleE (z, s) = 0) := HF0.out (by unfold formB; simp only; rw [hcn, had, hz3b]; rfl)
                clear hcn had hz3 hsl
                go_wp2_with fail
                refine (isHost_any _ _ HZ.out).mono ?_
                rw [txt_toList, HC.out]
                rintro e w1 ⟨rfl, hb1⟩
                have c3 := (hb1.cell (p := ⟨b, off + k * 2, none⟩) hbl1).trans c1
                have c4 := (hb1.cell (p := ⟨b, off + k * 2 + 1, none⟩) hbl1).trans c2
                go_wp2_with fail
                refine (isAddress_any _ _ HW.out).mono ?_
                rw [txt_toList, HD.out]
                rintro e w2 ⟨rfl, hb2⟩
                have hbl2 := Nat.lt_of_lt_of_le hbl1 hb1.size
                have c5 := (hb2.cell (p := ⟨b, off + k * 2, none⟩) hbl2).trans c3
                have c6 := (hb2.cell (p := ⟨b, off + k * 2 + 1, none⟩) hbl2).trans c4
                have HI : Hid (layE T (l.drop k) = if T.contains (z, s) then 6 else layE (T ++ [(z, s)]) (l.drop (k + 1))) := by
                  show _ = _
                  rw [HG.out, if_pos H0.out, HT.out]
                have hbW : Below w.heap.size w w2 := next (next hb hb1) hb2
                go_wp2_with fail
                clear c1 c2 c3 c4 c5 c6 hb1 hb2 hbl1 hbl2 hb
                go_loopw [4] (fun i wr => ∃ j : Nat, j ≤ k ∧ i = .int .i64 j ∧ Hid (∀ (m : Nat) q, l[m]? = some q → m < j → (q == (z, s)) = false) ∧ Below w.heap.size w wr) (fun i _ => k - (intOf i).toNat)
                case atStart => exact ⟨0, Nat.zero_le _, rfl, fun _ _ _ h => absurd h (by omega), hbW⟩
                case round =>
                  obtain ⟨j, hj, rfl, hn, hbj⟩ := hrel
                  by_cases hjk : j < k
                  · obtain ⟨⟨y, t⟩, hq⟩ : ∃ q, l[j]? = some q := ⟨_, List.getElem?_eq_getElem (by omega)⟩
                    have hc2 := HR0.out.2 j _ hq
                    have d1 := (hbj.cell (p := ⟨b, off + j * 2 + 0, none⟩) hbl).trans (hc2 0 _ rfl)
                    have d2 := (hbj.cell (p := ⟨b, off + j * 2 + 1, none⟩) hbl).trans (hc2 1 _ rfl)
                    have e1 := (hbj.cell (p := ⟨b, off + k * 2 + 0, none⟩) hbl).trans (HC1.out 0 _ rfl)
                    have e2 := (hbj.cell (p := ⟨b, off + k * 2 + 1, none⟩) hbl).trans (HC1.out 1 _ rfl)
                    rw [Nat.add_zero] at d1 e1
                    have hjl : j < l.length := by omega
                    obtain ⟨bb, hbb⟩ : ∃ bb, ((y, t) == (z, s)) = bb := ⟨_, rfl⟩
                    have hqs := eqS (y, t) (z, s) (HK.out _ (List.mem_of_getElem? hq)) HS.out
                    rw [hbb] at hqs
                    simp only at hqs
                    have HQ : Hid _ := hq
                    have HBB : Hid _ := hbb
                    clear hq hc2 hbb
                    cases bb
                    · go_wp2_with fail
                      go_quiet (fail)
                      go_wp2_with fail
                      go_roundw
                      case rel =>
                        refine ⟨j + 1, by omega, by go_num, fun m q hm hlt2 => ?_, next hbj (below_drewN' _ _ _)⟩
                        by_cases e : m = j
                        · subst e
                          rw [HQ.out] at hm
                          injection hm with hm
                          rw [← hm]; exact HBB.out
                        · exact hn.out m q hm (by omega)
                      case measure => simp [intOf]; omega
                    · have HR : Hid (sufE l = 6) := by
                        show _ = _
                        rw [HE.out, ← hl.out, HI.out, if_pos]
                        rw [HTk.out, List.contains_iff_mem, ← (beq_iff_eq.1 HBB.out)]
                        refine List.mem_of_getElem? (i := j) ?_
                        rw [List.getElem?_take_of_lt hjk]; exact HQ.out
                      go_wp2_with fail
                      go_quiet (fail)
                      go_wp2_with fail
                      go_ret
                      refine ⟨?_, next hbj (below_drewN' _ _ _)⟩
                      rw [HR.out]; rfl
                  · have HF : Hid (T.contains (z, s) = false) := by
                      show _ = _
                      rw [HTk.out, ← Bool.not_eq_true, List.contains_iff_mem]
                      intro hm
                      obtain ⟨m, hm⟩ := List.getElem?_of_mem hm
                      have hmk : m < k := by
                        have := (List.getElem?_eq_some_iff.1 hm).1
                        rw [List.length_take] at this; omega
                      rw [List.getElem?_take_of_lt hmk] at hm
                      have := hn.out m _ hm (by omega)
                      rw [beq_self_eq_true] at this
                      cases this
                    clear hn
                    go_wp2_with fail
                    go_roundw
                    case rel =>
                      refine ⟨k + 1, by omega, by go_num, ?_, hbj⟩
                      show _ = _
                      rw [HT1.out, ← hl.out, HI.out, HF.out]; rfl
                    case measure => simp [intOf]; omega
            · have HD : Hid _ := had
              have HR : Hid (sufE l = 1) := HF1.out (by unfold formB; simp only; rw [hcn, had]; rfl)
              clear hcn had hsl
              go_wp2_with fail
              refine (isHost_any _ _ HZ.out).mono ?_
              rw [txt_toList, HC.out]
              rintro e w1 ⟨rfl, hb1⟩
              have c3 := (hb1.cell (p := ⟨b, off + k * 2, none⟩) hbl1).trans c1
              have c4 := (hb1.cell (p := ⟨b, off + k * 2 + 1, none⟩) hbl1).trans c2
              go_wp2_with fail
              refine (isAddress_any _ _ HW.out).mono ?_
              rw [txt_toList, HD.out]
              rintro e w2 ⟨rfl, hb2⟩
              have hbl2 := Nat.lt_of_lt_of_le hbl1 hb1.size
              have c5 := (hb2.cell (p := ⟨b, off + k * 2, none⟩) hbl2).trans c3
              have c6 := (hb2.cell (p := ⟨b, off + k * 2 + 1, none⟩) hbl2).trans c4
              go_wp2_with fail
              go_ret
              refine ⟨?_, next (next hb hb1) hb2⟩
              rw [HR.out]; rfl
      · have HR : Hid (sufE l = 0) := by show _ = _; rw [HE.out, ← hl.out, lay_end l k (by omega)]
        go_wp2_with fail
        go_ret
        refine ⟨?_, hb⟩
        rw [HR.out]; rfl
  · have HR : Hid (sufE l = 2) := suf_many l h16
    go_enter Try.func26, Try.ntmps26
    go_wp2_with fail
    go_ret
    refine ⟨?_, Below.refl _ _⟩
    rw [HR.out]; rfl
end Go.Proofs.Ytmbkgcloliahhac
