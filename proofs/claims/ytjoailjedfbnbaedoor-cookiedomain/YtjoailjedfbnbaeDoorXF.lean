/- Contracts of the reference: what is behind a label; rules checked; a host's public suffix and owner, rule by rule. The reference's public suffix: rule by rule, the longest one that matches: told plainly; its contract. Contracts of the reference: a host's public suffix and its owner, errors too. -/
import Derived.Test.YtjoailjedfbnbaeDoorSuffixD
import Derived.Test.YtjoailjedfbnbaeDoorKit3
import Derived.Test.YtjoailjedfbnbaeDoorSuffixE
namespace Go.Proofs.YtjoailjedfbnbaeDoor
open Go.RowKit Go.Maps
set_option linter.all false
set_option maxRecDepth 100000

theorem eqS (r q : Int × List UInt8) (hr : okR r) (hq : okR q) (w : World) :
    (Op.equalIn 10000 74 (.agg #[.int .i64 r.1, .string (txt r.2)]) (.agg #[.int .i64 q.1, .string (txt q.2)])).run Tryd.prog w = .ok (r == q) w := by
  obtain ⟨b, hb, hi⟩ := run_equal_deep w (m := 2) (by omega) (k := 74) (by kernel_rfl) swide (key_of r hr) (key_of q hq)
  have hb2 : (Op.equalIn 10000 74 (.agg #[.int .i64 r.1, .string (txt r.2)]) (.agg #[.int .i64 q.1, .string (txt q.2)])).run Tryd.prog w = .ok b w := hb
  rw [hb2]
  congr 1
  rw [Bool.eq_iff_iff, hi, beq_iff_eq]
  exact ⟨fun h => key_inj r q hr hq h, fun h => by rw [h]⟩
set_option maxHeartbeats 1000000 in
theorem behindLabel_any (s : ByteArray) (w : World) (hs : s.size ≤ maxLen) :
    Calls Tryd.prog 46 #[.string s] w fun e w' => e = .returned (.string (txt (behindL s.data.toList))) ∧ w' = w := by
  have HS : Hid _ := hs
  unfold maxLen at hs
  have hge := Lib.indexByte_ge s.data.toList 46
  by_cases hn : Lib.indexByte s.data.toList 46 = -1
  · have HB : Hid (behindL s.data.toList = []) := (cut_none _ _ hn).2.1
    have HN : Hid _ := hn
    clear hn hge
    go_enter Tryd.func46, Tryd.ntmps46
    go_wp2_with fail
    refine (placeOf_any s 46 _ HS.out).mono ?_
    rw [HN.out]
    rintro e w' ⟨rfl, rfl⟩
    go_wp2_with fail
    go_ret
    refine ⟨?_, rfl⟩
    rw [HB.out]; rfl
  · obtain ⟨o, ho⟩ : ∃ o : Nat, Lib.indexByte s.data.toList 46 = o := ⟨(Lib.indexByte s.data.toList 46).toNat, by omega⟩
    obtain ⟨_, e2, _, e4⟩ := cut_some _ _ _ ho
    have e4' : o < s.size := e4
    have HB : Hid (txt (behindL s.data.toList) = s.extract (o + 1) s.size) := by
      show txt (cutB _ _) = _
      rw [e2, ext_from]
    have HN : Hid _ := ho
    clear hn ho e2 e4 hge
    go_enter Tryd.func46, Tryd.ntmps46
    go_wp2_with fail
    refine (placeOf_any s 46 _ HS.out).mono ?_
    rw [HN.out]
    rintro e w' ⟨rfl, rfl⟩
    go_wp2_with fail
    go_ret
    refine ⟨?_, rfl⟩
    rw [HB.out]; rfl
theorem dot_place (s : List UInt8) : hasB s 46 = true ↔ 0 ≤ Lib.indexByte s 46 := by
  have hge := Lib.indexByte_ge s 46
  by_cases hn : Lib.indexByte s 46 = -1
  · rw [(cut_none _ _ hn).2.2, hn]; simp
  · obtain ⟨o, ho⟩ : ∃ o : Nat, Lib.indexByte s 46 = o := ⟨(Lib.indexByte s 46).toNat, by omega⟩
    rw [(cut_some _ _ _ ho).2.2.1, ho]; simp
set_option maxRecDepth 100000 in
set_option maxHeartbeats 8000000 in
theorem suffixCheck_any (v : Value) (l : Rules) (w : World) (hr : Rows w v sufF l) (hm : l.length ≤ maxLen) (hok : ∀ r ∈ l, okR r) :
    Calls Tryd.prog 23 #[v] w fun e w' => e = .returned (.int .i64 (sufE l)) ∧ Below w.heap.size w w' := by
  obtain ⟨ad, cap, rfl⟩ := hr.shape
  unfold maxLen at hm
  by_cases h16 : l.length ≤ 16
  · have HE : Hid (sufE l = layE [] l) := if_pos h16
    have HK : Hid _ := hok
    have HRR : Hid (Rows w (.slice ad l.length cap) sufF l) := hr
    clear hok hr
    go_enter Tryd.func23, Tryd.ntmps23
    go_wp2_with fail
    go_loopw [3] (fun i wr => ∃ k : Nat, k ≤ l.length ∧ i = .int .i64 k ∧ Hid (layE (l.take k) (l.drop k) = layE [] l) ∧ Below w.heap.size w wr) (fun i _ => l.length - (intOf i).toNat)
    case atStart => exact ⟨0, Nat.zero_le _, rfl, rfl, Below.refl _ _⟩
    case round =>
      obtain ⟨k, hk, rfl, hl, hb⟩ := hrel
      by_cases hlt : k < l.length
      · obtain ⟨⟨z, s⟩, hrk⟩ : ∃ r, l[k]? = some r := ⟨_, List.getElem?_eq_getElem hlt⟩
        obtain ⟨b, off, rfl, hbl, hc⟩ := Rows.at HRR.out rfl 1 sufF_len k _ hrk
        have HR0 : Hid (b < w.heap.size ∧ ∀ (j : Nat) q, l[j]? = some q → ∀ i u, (sufF q)[i]? = some u → w.cell? ⟨b, off + j * 2 + i, none⟩ = some u) := ⟨hbl, fun j q hq => by
          obtain ⟨b', off', e, _, hc'⟩ := Rows.at HRR.out rfl 1 sufF_len j q hq
          injection e with e
          injection e with e1 e2 _
          subst e1 e2
          exact hc'⟩
        have HC1 : Hid _ := hc
        have c1 := (hb.cell (p := ⟨b, off + k * 2 + 0, none⟩) hbl).trans (hc 0 _ rfl)
        have c2 := (hb.cell (p := ⟨b, off + k * 2 + 1, none⟩) hbl).trans (hc 1 _ rfl)
        rw [Nat.add_zero] at c1
        have hbl1 : b < wr.heap.size := Nat.lt_of_lt_of_le hbl hb.size
        have hr0 : okR (z, s) := HK.out _ (List.mem_of_getElem? hrk)
        have HS : Hid (okR (z, s)) := hr0
        have HZ : Hid ((txt s).size ≤ maxLen) := hr0.2
        have hz1 : -9223372036854775808 ≤ z ∧ z ≤ 9223372036854775807 := hr0.1
        have HG0 : Hid _ := lay_step l k _ hrk
        have HT0 : Hid (l.take (k + 1) = l.take k ++ [(z, s)]) := by show _ = _; rw [List.take_succ, hrk]; rfl
        obtain ⟨T, hT⟩ : ∃ T, T = l.take k := ⟨_, rfl⟩
        have HTk : Hid _ := hT
        rw [← hT] at hl HG0 HT0
        have HG : Hid _ := HG0.out
        have HT1 : Hid _ := HT0.out
        have HT : Hid (layE (l.take (k + 1)) (l.drop (k + 1)) = layE (T ++ [(z, s)]) (l.drop (k + 1))) := by show _ = _; rw [HT0.out]
        have HB : Hid (ruleE (z, s) ≠ 0 → sufE l = ruleE (z, s)) := fun he => by rw [HE.out, ← hl.out, HG.out, if_neg he]
        clear hrk hc hr0 hT HG0 HT0
        cases hkd : kindB z
        · have HR : Hid (sufE l = 7) := by
            have := rule_kind (z, s) hkd
            show _ = _
            rw [HB.out (by rw [this]; decide), this]
          obtain ⟨k1, k2, k3⟩ := kind_none z hkd
          clear hkd
          by_cases hz : z < 1
          · clear k1 k2 k3
            go_wp2_with fail
            go_ret
            refine ⟨?_, hb⟩
            rw [HR.out]; rfl
          · have hz3 : 3 < z := by omega
            clear k1 k2 k3
            go_wp2_with fail
            go_ret
            refine ⟨?_, hb⟩
            rw [HR.out]; rfl
        · have hz13 : 1 ≤ z ∧ z ≤ 3 := by rcases kind_three z hkd with rfl | rfl | rfl <;> omega
          have hz13a := hz13.1
          have hz13b := hz13.2
          have HF1 : Hid (formB (z, s) = false → sufE l = 1) := fun hf => by
            have := rule_bad (z, s) hkd hf
            rw [HB.out (by rw [this]; decide), this]
          have HF0 : Hid (formB (z, s) = true → ruleE (z, s) = 0) := fun hf => rule_ok (z, s) hkd hf
          clear hkd hz13
          cases hcn : canB s
          · have HC : Hid _ := hcn
            have HR : Hid (sufE l = 1) := HF1.out (by unfold formB; simp only; rw [hcn]; rfl)
            clear hcn
            go_wp2_with fail
            refine (isHost_any _ _ HZ.out).mono ?_
            rw [txt_toList, HC.out]
            rintro e w1 ⟨rfl, hb1⟩
            have c3 := (hb1.cell (p := ⟨b, off + k * 2, none⟩) hbl1).trans c1
            have c4 := (hb1.cell (p := ⟨b, off + k * 2 + 1, none⟩) hbl1).trans c2
            go_wp2_with fail
            go_ret
            refine ⟨?_, next hb hb1⟩
            rw [HR.out]; rfl
          · have HC : Hid _ := hcn
            have hsl := can_len s hcn
            have HW : Hid (((txt s).size + 1) * 16 ≤ 140737488355328) := by show (s.length + 1) * 16 ≤ _; omega
            cases had : addrL s
            · have HD : Hid _ := had
              by_cases hz3 : z = 3
              · have hz3b : (z == 3) = true := by rw [hz3]; rfl
                obtain ⟨pl, hpl⟩ : ∃ pl, Lib.indexByte s 46 = pl := ⟨_, rfl⟩
                have HP : Hid _ := hpl
                by_cases hp0 : pl < 0
                · have HR : Hid (sufE l = 1) := HF1.out (by
                    unfold formB; simp only
                    have : hasB s 46 = false := by rw [← Bool.not_eq_true, dot_place, hpl]; omega
                    rw [hcn, had, this, hz3]; rfl)
                  clear hcn had hpl hz3 hsl
                  go_wp2_with fail
                  refine (isHost_any _ _ HZ.out).mono ?_
                  rw [txt_toList, HC.out]
                  rintro e w1 ⟨rfl, hb1⟩
                  have c3 := (hb1.cell (p := ⟨b, off + k * 2, none⟩) hbl1).trans c1
                  have c4 := (hb1.cell (p := ⟨b, off + k * 2 + 1, none⟩) hbl1).trans c2
                  go_wp2_with fail
                  refine (isAddress_any _ _ HW.out).mono ?_
                  rw [txt_toList, HD.out]
                  rintro e w2 ⟨rfl, hb2⟩
                  have hbl2 := Nat.lt_of_lt_of_le hbl1 hb1.size
                  have c5 := (hb2.cell (p := ⟨b, off + k * 2, none⟩) hbl2).trans c3
                  have c6 := (hb2.cell (p := ⟨b, off + k * 2 + 1, none⟩) hbl2).trans c4
                  go_wp2_with fail
                  refine (placeOf_any _ 46 _ HZ.out).mono ?_
                  rw [txt_toList, HP.out]
                  rintro e w3 ⟨rfl, rfl⟩
                  go_wp2_with fail
                  go_ret
                  refine ⟨?_, next (next hb hb1) hb2⟩
                  rw [HR.out]; rfl
                · have H0 : Hid (ruleE (z, s) = 0) := HF0.out (by
                    unfold formB; simp only
                    have : hasB s 46 = true := by rw [dot_place, hpl]; omega
                    rw [hcn, had, this]; simp)
                  clear hcn had hpl hz3 hsl
                  go_wp2_with fail
                  refine (isHost_any _ _ HZ.out).mono ?_
                  rw [txt_toList, HC.out]
                  rintro e w1 ⟨rfl, hb1⟩
                  have c3 := (hb1.cell (p := ⟨b, off + k * 2, none⟩) hbl1).trans c1
                  have c4 := (hb1.cell (p := ⟨b, off + k * 2 + 1, none⟩) hbl1).trans c2
                  go_wp2_with fail
                  refine (isAddress_any _ _ HW.out).mono ?_
                  rw [txt_toList, HD.out]
                  rintro e w2 ⟨rfl, hb2⟩
                  have hbl2 := Nat.lt_of_lt_of_le hbl1 hb1.size
                  have c5 := (hb2.cell (p := ⟨b, off + k * 2, none⟩) hbl2).trans c3
                  have c6 := (hb2.cell (p := ⟨b, off + k * 2 + 1, none⟩) hbl2).trans c4
                  go_wp2_with fail
                  refine (placeOf_any _ 46 _ HZ.out).mono ?_
                  rw [txt_toList, HP.out]
                  rintro e w3 ⟨rfl, rfl⟩
                  have HI : Hid (layE T (l.drop k) = if T.contains (z, s) then 6 else layE (T ++ [(z, s)]) (l.drop (k + 1))) := by
                    show _ = _
                    rw [HG.out, if_pos H0.out, HT.out]
                  have hbW : Below w.heap.size w w3 := next (next hb hb1) hb2
                  go_wp2_with fail
                  clear c1 c2 c3 c4 c5 c6 hb1 hb2 hbl1 hbl2 hb hp0
                  go_loopw [4] (fun i wr => ∃ j : Nat, j ≤ k ∧ i = .int .i64 j ∧ Hid (∀ (m : Nat) q, l[m]? = some q → m < j → (q == (z, s)) = false) ∧ Below w.heap.size w wr) (fun i _ => k - (intOf i).toNat)
                  case atStart => exact ⟨0, Nat.zero_le _, rfl, fun _ _ _ h => absurd h (by omega), hbW⟩
                  case round =>
                    obtain ⟨j, hj, rfl, hn, hbj⟩ := hrel
                    by_cases hjk : j < k
                    · obtain ⟨⟨y, t⟩, hq⟩ : ∃ q, l[j]? = some q := ⟨_, List.getElem?_eq_getElem (by omega)⟩
                      have hc2 := HR0.out.2 j _ hq
                      have d1 := (hbj.cell (p := ⟨b, off + j * 2 + 0, none⟩) hbl).trans (hc2 0 _ rfl)
                      have d2 := (hbj.cell (p := ⟨b, off + j * 2 + 1, none⟩) hbl).trans (hc2 1 _ rfl)
                      have e1 := (hbj.cell (p := ⟨b, off + k * 2 + 0, none⟩) hbl).trans (HC1.out 0 _ rfl)
                      have e2 := (hbj.cell (p := ⟨b, off + k * 2 + 1, none⟩) hbl).trans (HC1.out 1 _ rfl)
                      rw [Nat.add_zero] at d1 e1
                      have hjl : j < l.length := by omega
                      obtain ⟨bb, hbb⟩ : ∃ bb, ((y, t) == (z, s)) = bb := ⟨_, rfl⟩
                      have hqs := eqS (y, t) (z, s) (HK.out _ (List.mem_of_getElem? hq)) HS.out
                      rw [hbb] at hqs
                      simp only at hqs
                      have HQ : Hid _ := hq
                      have HBB : Hid _ := hbb
                      clear hq hc2 hbb
                      cases bb
                      · go_wp2_with fail
                        go_quiet (fail)
                        go_wp2_with fail
                        go_roundw
                        case rel =>
                          refine ⟨j + 1, by omega, by go_num, fun m q hm hlt2 => ?_, next hbj (below_drewN' _ _ _)⟩
                          by_cases e : m = j
                          · subst e
                            rw [HQ.out] at hm
                            injection hm with hm
                            rw [← hm]; exact HBB.out
                          · exact hn.out m q hm (by omega)
                        case measure => simp [intOf]; omega
                      · have HR : Hid (sufE l = 6) := by
                          show _ = _
                          rw [HE.out, ← hl.out, HI.out, if_pos]
                          rw [HTk.out, List.contains_iff_mem, ← (beq_iff_eq.1 HBB.out)]
                          refine List.mem_of_getElem? (i := j) ?_
                          rw [List.getElem?_take_of_lt hjk]; exact HQ.out
                        go_wp2_with fail
                        go_quiet (fail)
                        go_wp2_with fail
                        go_ret
                        refine ⟨?_, next hbj (below_drewN' _ _ _)⟩
                        rw [HR.out]; rfl
                    · have HF : Hid (T.contains (z, s) = false) := by
                        show _ = _
                        rw [HTk.out, ← Bool.not_eq_true, List.contains_iff_mem]
                        intro hm
                        obtain ⟨m, hm⟩ := List.getElem?_of_mem hm
                        have hmk : m < k := by
                          have := (List.getElem?_eq_some_iff.1 hm).1
                          rw [List.length_take] at this; omega
                        rw [List.getElem?_take_of_lt hmk] at hm
                        have := hn.out m _ hm (by omega)
                        rw [beq_self_eq_true] at this
                        cases this
                      clear hn
                      go_wp2_with fail
                      go_roundw
                      case rel =>
                        refine ⟨k + 1, by omega, by go_num, ?_, hbj⟩
                        show _ = _
                        rw [HT1.out, ← hl.out, HI.out, HF.out]; rfl
                      case measure => simp [intOf]; omega
              · have hz3b : (z == 3) = false := by rw [beq_eq_false_iff_ne]; exact hz3
                have H0 : Hid (ruleE (z, s) = 0) := HF0.out (by unfold formB; simp only; rw [hcn, had, hz3b]; rfl)
                clear hcn had hz3 hsl
                go_wp2_with fail
                refine (isHost_any _ _ HZ.out).mono ?_
                rw [txt_toList, HC.out]
                rintro e w1 ⟨rfl, hb1⟩
                have c3 := (hb1.cell (p := ⟨b, off + k * 2, none⟩) hbl1).trans c1
                have c4 := (hb1.cell (p := ⟨b, off + k * 2 + 1, none⟩) hbl1).trans c2
                go_wp2_with fail
                refine (isAddress_any _ _ HW.out).mono ?_
                rw [txt_toList, HD.out]
                rintro e w2 ⟨rfl, hb2⟩
                have hbl2 := Nat.lt_of_lt_of_le hbl1 hb1.size
                have c5 := (hb2.cell (p := ⟨b, off + k * 2, none⟩) hbl2).trans c3
                have c6 := (hb2.cell (p := ⟨b, off + k * 2 + 1, none⟩) hbl2).trans c4
                have HI : Hid (layE T (l.drop k) = if T.contains (z, s) then 6 else layE (T ++ [(z, s)]) (l.drop (k + 1))) := by
                  show _ = _
                  rw [HG.out, if_pos H0.out, HT.out]
                have hbW : Below w.heap.size w w2 := next (next hb hb1) hb2
                go_wp2_with fail
                clear c1 c2 c3 c4 c5 c6 hb1 hb2 hbl1 hbl2 hb
                go_loopw [4] (fun i wr => ∃ j : Nat, j ≤ k ∧ i = .int .i64 j ∧ Hid (∀ (m : Nat) q, l[m]? = some q → m < j → (q == (z, s)) = false) ∧ Below w.heap.size w wr) (fun i _ => k - (intOf i).toNat)
                case atStart => exact ⟨0, Nat.zero_le _, rfl, fun _ _ _ h => absurd h (by omega), hbW⟩
                case round =>
                  obtain ⟨j, hj, rfl, hn, hbj⟩ := hrel
                  by_cases hjk : j < k
                  · obtain ⟨⟨y, t⟩, hq⟩ : ∃ q, l[j]? = some q := ⟨_, List.getElem?_eq_getElem (by omega)⟩
                    have hc2 := HR0.out.2 j _ hq
                    have d1 := (hbj.cell (p := ⟨b, off + j * 2 + 0, none⟩) hbl).trans (hc2 0 _ rfl)
                    have d2 := (hbj.cell (p := ⟨b, off + j * 2 + 1, none⟩) hbl).trans (hc2 1 _ rfl)
                    have e1 := (hbj.cell (p := ⟨b, off + k * 2 + 0, none⟩) hbl).trans (HC1.out 0 _ rfl)
                    have e2 := (hbj.cell (p := ⟨b, off + k * 2 + 1, none⟩) hbl).trans (HC1.out 1 _ rfl)
                    rw [Nat.add_zero] at d1 e1
                    have hjl : j < l.length := by omega
                    obtain ⟨bb, hbb⟩ : ∃ bb, ((y, t) == (z, s)) = bb := ⟨_, rfl⟩
                    have hqs := eqS (y, t) (z, s) (HK.out _ (List.mem_of_getElem? hq)) HS.out
                    rw [hbb] at hqs
                    simp only at hqs
                    have HQ : Hid _ := hq
                    have HBB : Hid _ := hbb
                    clear hq hc2 hbb
                    cases bb
                    · go_wp2_with fail
                      go_quiet (fail)
                      go_wp2_with fail
                      go_roundw
                      case rel =>
                        refine ⟨j + 1, by omega, by go_num, fun m q hm hlt2 => ?_, next hbj (below_drewN' _ _ _)⟩
                        by_cases e : m = j
                        · subst e
                          rw [HQ.out] at hm
                          injection hm with hm
                          rw [← hm]; exact HBB.out
                        · exact hn.out m q hm (by omega)
                      case measure => simp [intOf]; omega
                    · have HR : Hid (sufE l = 6) := by
                        show _ = _
                        rw [HE.out, ← hl.out, HI.out, if_pos]
                        rw [HTk.out, List.contains_iff_mem, ← (beq_iff_eq.1 HBB.out)]
                        refine List.mem_of_getElem? (i := j) ?_
                        rw [List.getElem?_take_of_lt hjk]; exact HQ.out
                      go_wp2_with fail
                      go_quiet (fail)
                      go_wp2_with fail
                      go_ret
                      refine ⟨?_, next hbj (below_drewN' _ _ _)⟩
                      rw [HR.out]; rfl
                  · have HF : Hid (T.contains (z, s) = false) := by
                      show _ = _
                      rw [HTk.out, ← Bool.not_eq_true, List.contains_iff_mem]
                      intro hm
                      obtain ⟨m, hm⟩ := List.getElem?_of_mem hm
                      have hmk : m < k := by
                        have := (List.getElem?_eq_some_iff.1 hm).1
                        rw [List.length_take] at this; omega
                      rw [List.getElem?_take_of_lt hmk] at hm
                      have := hn.out m _ hm (by omega)
                      rw [beq_self_eq_true] at this
                      cases this
                    clear hn
                    go_wp2_with fail
                    go_roundw
                    case rel =>
                      refine ⟨k + 1, by omega, by go_num, ?_, hbj⟩
                      show _ = _
                      rw [HT1.out, ← hl.out, HI.out, HF.out]; rfl
                    case measure => simp [intOf]; omega
            · have HD : Hid _ := had
              have HR : Hid (sufE l = 1) := HF1.out (by unfold formB; simp only; rw [hcn, had]; rfl)
              clear hcn had hsl
              go_wp2_with fail
              refine (isHost_any _ _ HZ.out).mono ?_
              rw [txt_toList, HC.out]
              rintro e w1 ⟨rfl, hb1⟩
              have c3 := (hb1.cell (p := ⟨b, off + k * 2, none⟩) hbl1).trans c1
              have c4 := (hb1.cell (p := ⟨b, off + k * 2 + 1, none⟩) hbl1).trans c2
              go_wp2_with fail
              refine (isAddress_any _ _ HW.out).mono ?_
              rw [txt_toList, HD.out]
              rintro e w2 ⟨rfl, hb2⟩
              have hbl2 := Nat.lt_of_lt_of_le hbl1 hb1.size
              have c5 := (hb2.cell (p := ⟨b, off + k * 2, none⟩) hbl2).trans c3
              have c6 := (hb2.cell (p := ⟨b, off + k * 2 + 1, none⟩) hbl2).trans c4
              go_wp2_with fail
              go_ret
              refine ⟨?_, next (next hb hb1) hb2⟩
              rw [HR.out]; rfl
      · have HR : Hid (sufE l = 0) := by show _ = _; rw [HE.out, ← hl.out, lay_end l k (by omega)]
        go_wp2_with fail
        go_ret
        refine ⟨?_, hb⟩
        rw [HR.out]; rfl
  · have HR : Hid (sufE l = 2) := suf_many l h16
    go_enter Tryd.func23, Tryd.ntmps23
    go_wp2_with fail
    go_ret
    refine ⟨?_, Below.refl _ _⟩
    rw [HR.out]; rfl
end Go.Proofs.YtjoailjedfbnbaeDoor
namespace Go.Proofs.YtjoailjedfbnbaeDoor
open Go.RowKit Go.Maps
set_option linter.all false
set_option maxRecDepth 100000

/-- the longest one so far -/
def pick (q : Bool) (d e : List UInt8) : List UInt8 := if q && decide (e.length < d.length) then d else e
def exR (r : Int × List UInt8) (d : List UInt8) : Bool := r.1 == 3 && r.2 == d
def beR (r : Int × List UInt8) (d : List UInt8) : Bool := (r.1 == 1 && r.2 == d) || (r.1 == 2 && r.2 == behindL d)
def pickIn (q : Int × List UInt8 → List UInt8 → Bool) (l : Rules) (d e : List UInt8) : List UInt8 := l.foldl (fun e r => pick (q r d) d e) e
def pickAll (q : List UInt8 → Bool) (ups : List (List UInt8)) (e : List UInt8) : List UInt8 := ups.foldl (fun e d => pick (q d) d e) e
theorem pick_self (q : Bool) (d : List UInt8) : pick q d d = d := by unfold pick; simp
theorem pick_pick (p q : Bool) (d e : List UInt8) : pick p d (pick q d e) = pick (p || q) d e := by
  unfold pick
  by_cases h : e.length < d.length
  · cases p <;> cases q <;> simp [h]
  · cases p <;> cases q <;> simp [h]
theorem pickIn_any (q : Int × List UInt8 → List UInt8 → Bool) (l : Rules) (d e : List UInt8) : pickIn q l d e = pick (l.any (fun r => q r d)) d e := by
  induction l generalizing e with
  | nil => simp [pickIn, pick]
  | cons r l ih =>
    have h : pickIn q (r :: l) d e = pickIn q l d (pick (q r d) d e) := rfl
    rw [h, ih, pick_pick, List.any_cons, Bool.or_comm]
theorem pickIn_snoc (q : Int × List UInt8 → List UInt8 → Bool) (l : Rules) (k : Nat) (r : Int × List UInt8) (d e : List UInt8) (h : l[k]? = some r) : pickIn q (l.take (k + 1)) d e = pick (q r d) d (pickIn q (l.take k) d e) := by
  unfold pickIn
  rw [List.take_succ, h]
  simp
theorem pickAll_snoc (q : List UInt8 → Bool) (ups : List (List UInt8)) (k : Nat) (d : List UInt8) (e : List UInt8) (h : ups[k]? = some d) : pickAll q (ups.take (k + 1)) e = pick (q d) d (pickAll q (ups.take k) e) := by
  unfold pickAll
  rw [List.take_succ, h]
  simp
theorem pickAll_stay (q : List UInt8 → Bool) (ups : List (List UInt8)) (e : List UInt8) (h : ∀ d ∈ ups, d.length ≤ e.length) : pickAll q ups e = e := by
  induction ups with
  | nil => rfl
  | cons d ups ih =>
    have h0 := h d (by simp)
    have h1 : pickAll q (d :: ups) e = pickAll q ups (pick (q d) d e) := rfl
    have h2 : pick (q d) d e = e := by unfold pick; rw [if_neg]; simp; intro _; exact h0
    rw [h1, h2]
    exact ih (fun x hx => h x (by simp [hx]))
def Falls : List (List UInt8) → Prop
  | [] => True
  | d :: r => (∀ x ∈ r, x.length < d.length) ∧ Falls r
theorem pickAll_find (q : List UInt8 → Bool) (ups : List (List UInt8)) (hf : Falls ups) (hn : ∀ d ∈ ups, d ≠ []) : pickAll q ups [] = (ups.find? q).getD [] := by
  induction ups with
  | nil => rfl
  | cons d ups ih =>
    have h1 : pickAll q (d :: ups) [] = pickAll q ups (pick (q d) d []) := rfl
    have hl : 0 < d.length := List.length_pos_iff.2 (hn d (by simp))
    cases hq : q d
    · have h2 : pick (q d) d [] = [] := by unfold pick; rw [hq]; rfl
      rw [h1, h2, ih hf.2 (fun x hx => hn x (by simp [hx])), List.find?_cons_of_neg (by rw [hq]; simp)]
    · have h2 : pick (q d) d [] = d := by unfold pick; rw [hq]; simp [hl]
      rw [h1, h2, List.find?_cons_of_pos hq, pickAll_stay q ups d (fun x hx => Nat.le_of_lt (hf.1 x hx))]
      rfl
theorem falls_get (l : List (List UInt8)) (h : ∀ (i j : Nat) u v, l[i]? = some u → l[j]? = some v → i < j → v.length < u.length) : Falls l := by
  induction l with
  | nil => trivial
  | cons d l ih =>
    refine ⟨fun x hx => ?_, ih (fun i j u v hu hv hij => h (i + 1) (j + 1) u v (by simpa using hu) (by simpa using hv) (by omega))⟩
    obtain ⟨j, hj⟩ := List.getElem?_of_mem hx
    exact h 0 (j + 1) d x rfl (by simpa using hj) (by omega)
theorem ups_falls (h : List UInt8) : Falls (upsN h) := falls_get _ (fun i j u v hu hv hij => ups_dec h u v i j hu hv hij)
/-- what the reference has at the end -/
def refEx (l : Rules) (h : List UInt8) : List UInt8 := pickAll (isEx l) (upsN h) []
def refBe (l : Rules) (h : List UInt8) : List UInt8 := pickAll (isBest l) (upsN h) []
theorem pub_ref (l : Rules) (h : List UInt8) (hc : canB h = true) : pubL l h = if refEx l h ≠ [] then behindL (refEx l h) else if refBe l h = [] then (upsN h).getLast (by unfold upsN; simp) else refBe l h := by
  have hn : ∀ d ∈ upsN h, d ≠ [] := fun d hd => up_ne h d hc hd
  have e1 : refEx l h = ((upsN h).find? (isEx l)).getD [] := pickAll_find _ _ (ups_falls h) hn
  have e2 : refBe l h = ((upsN h).find? (isBest l)).getD [] := pickAll_find _ _ (ups_falls h) hn
  unfold pubL
  cases hx : (upsN h).find? (isEx l) with
  | some d =>
    have e1 : refEx l h = d := by rw [e1, hx]; rfl
    rw [e1, if_pos (hn d (List.mem_of_find?_eq_some hx))]
  | none =>
    have e1 : refEx l h = [] := by rw [e1, hx]; rfl
    rw [e1, if_neg (by simp)]
    cases hb : (upsN h).find? (isBest l) with
    | some d =>
      have e2 : refBe l h = d := by rw [e2, hb]; rfl
      rw [e2, if_neg (hn d (List.mem_of_find?_eq_some hb))]
    | none =>
      have e2 : refBe l h = [] := by rw [e2, hb]; rfl
      rw [e2, if_pos rfl]
theorem behindT_any (d : List UInt8) (hs : d.length ≤ maxLen) (w : World) : Calls Tryd.prog 46 #[.string (txt d)] w fun e w' => e = .returned (.string (txt (behindL d))) ∧ w' = w := behindLabel_any (txt d) w hs
theorem teq (a b : List UInt8) (h : a = b) : ((txt a).toList == (txt b).toList) = true := by rw [h]; simp
theorem tne (a b : List UInt8) (h : a ≠ b) : ((txt a).toList == (txt b).toList) = false := by rw [Lib.toList_data, Lib.toList_data, txt_toList, txt_toList, beq_eq_false_iff_ne]; exact h
theorem tnil (a : List UInt8) (h : a = []) : ((txt a).toList == []) = true := by rw [Lib.toList_data, txt_toList, h]; rfl
theorem tnot (a : List UInt8) (h : a ≠ []) : ((txt a).toList == []) = false := by rw [Lib.toList_data, txt_toList, beq_eq_false_iff_ne]; exact h
theorem pickAll_len (q : List UInt8 → Bool) (ups : List (List UInt8)) (e : List UInt8) (m : Nat) (h : ∀ d ∈ ups, d.length ≤ m) (he : e.length ≤ m) : (pickAll q ups e).length ≤ m := by
  induction ups generalizing e with
  | nil => exact he
  | cons d ups ih =>
    refine ih (pick (q d) d e) (fun x hx => h x (by simp [hx])) ?_
    unfold pick
    by_cases hc : (q d && decide (e.length < d.length)) = true
    · rw [if_pos hc]; exact h d (by simp)
    · rw [if_neg hc]; exact he
theorem pick_no (d e : List UInt8) : pick false d e = e := by unfold pick; simp
theorem pick_yes (d e : List UInt8) (h : e.length < d.length) : pick true d e = d := by unfold pick; simp [h]
theorem pick_short (q : Bool) (d e : List UInt8) (h : ¬ e.length < d.length) : pick q d e = e := by unfold pick; simp [h]
theorem ex_other (z : Int) (s d : List UInt8) (h : z ≠ 3) : exR (z, s) d = false := by unfold exR; simp [h]
theorem ex_yes (d : List UInt8) : exR (3, d) d = true := by unfold exR; simp
theorem ex_no (s d : List UInt8) (h : s ≠ d) : exR (3, s) d = false := by unfold exR; simp [h]
theorem be_three (s d : List UInt8) : beR (3, s) d = false := by unfold beR; simp
theorem be_one (d : List UInt8) : beR (1, d) d = true := by unfold beR; simp
theorem be_one_no (s d : List UInt8) (h : s ≠ d) : beR (1, s) d = false := by unfold beR; simp [h]
theorem be_two (d : List UInt8) : beR (2, behindL d) d = true := by unfold beR; simp
theorem be_two_no (s d : List UInt8) (h : s ≠ behindL d) : beR (2, s) d = false := by unfold beR; simp [h]
theorem isEx_in (l : Rules) (d : List UInt8) : isEx l d = l.any (fun r => exR r d) := rfl
theorem isBest_in (l : Rules) (d : List UInt8) : isBest l d = l.any (fun r => beR r d) := rfl
set_option maxRecDepth 100000 in
set_option maxHeartbeats 8000000 in
theorem publicOf_any (v : Value) (l : Rules) (h : ByteArray) (w : World) (hr : Rows w v sufF l) (hm : l.length ≤ 16) (hok : ∀ r ∈ l, okR r ∧ kindB r.1 = true) (hc : canB h.data.toList = true) :
    Calls Tryd.prog 25 #[v, .string h] w fun e w' => e = .returned (.string (txt (if addrL h.data.toList then [] else pubL l h.data.toList))) ∧ Below w.heap.size w w' := by
  obtain ⟨ad, cap, rfl⟩ := hr.shape
  have hl253 : h.size ≤ 253 := can_len _ hc
  have HW : Hid ((h.size + 1) * 16 ≤ 140737488355328) := by show _ ≤ _; omega
  have HK : Hid _ := hok
  have HC : Hid _ := hc
  have HRR : Hid (Rows w (.slice ad l.length cap) sufF l) := hr
  clear hok hc hr
  obtain ⟨R, hR⟩ : ∃ R, R = if addrL h.data.toList then [] else pubL l h.data.toList := ⟨_, rfl⟩
  rw [← hR]
  have HR0 : Hid _ := hR
  clear hR
  go_enter Tryd.func25, Tryd.ntmps25
  go_wp2_with fail
  refine (isAddress_any h _ HW.out).mono ?_
  cases ha : addrL h.data.toList
  · rintro e w1 ⟨rfl, hb1⟩
    obtain ⟨F1, F2, F3⟩ := upsL_facts _ HC.out
    rw [ups_host _ HC.out ha] at F1 F2 F3
    have HU : Hid _ := ups_host _ HC.out ha
    have HF3 : Hid _ := F3
    have HAD : Hid _ := ha
    clear F3 ha
    go_wp2_with fail
    refine (upsOf_any h _ HW.out).mono ?_
    rintro e w2 ⟨u, rfl, hown, hb2⟩
    have hrd := Reads.of_own hown
    rw [HU.out] at hrd
    have hb0 := next hb1 hb2
    have hRR := Rows.below HRR.out hb0 (Nat.le_refl _)
    clear hown hb1 hb2 HRR HU
    obtain ⟨ups, hups⟩ : ∃ ups, ups = upsN h.data.toList := ⟨_, rfl⟩
    rw [← hups] at hrd F1 F2 HF3
    have HUP : Hid _ := hups
    clear hups
    obtain ⟨ad2, cap2, rfl, hrd⟩ := hrd
    have hrd2 : ∃ b2 off2, ad2 = some ⟨b2, off2, none⟩ ∧ ∀ (j : Nat) y, ups[j]? = some y → w2.cell? ⟨b2, off2 + j, none⟩ = some (.string (txt y)) := by
      rcases hrd with hrd | ⟨b, off, rfl, hrd⟩
      · have : (strs ups).length = ups.length := strs_length ups
        rw [hrd] at this; simp at this; omega
      · exact ⟨b, off, rfl, fun j y hy => hrd j _ (strs_get hy)⟩
    clear hrd
    obtain ⟨b2, off2, rfl, hup⟩ := hrd2
    have HUC : Hid _ := hup
    have HRR : Hid _ := hRR
    clear hup hRR
    go_wp2_with fail
    go_loopw [5, 6, 8] (fun ev bv kv wr => ∃ (k : Nat) (E B : List UInt8), k ≤ ups.length ∧ kv = .int .i64 k ∧ ev = .string (txt E) ∧ bv = .string (txt B) ∧ Hid (E = pickAll (isEx l) (ups.take k) []) ∧ Hid (B = pickAll (isBest l) (ups.take k) []) ∧ Below w2.heap.size w2 wr) (fun _ _ kv _ => ups.length - (intOf kv).toNat)
    case atStart => exact ⟨0, [], [], Nat.zero_le _, rfl, rfl, rfl, rfl, rfl, Below.refl _ _⟩
    case round =>
      obtain ⟨k, E, B, hk, rfl, rfl, rfl, hE, hB, hb⟩ := hrel
      by_cases hlt : k < ups.length
      · obtain ⟨d, hd⟩ : ∃ d, ups[k]? = some d := ⟨_, List.getElem?_eq_getElem hlt⟩
        have hdl : d.length ≤ 253 := HF3.out d (List.mem_of_getElem? hd)
        have HDL : Hid (d.length ≤ maxLen) := Nat.le_trans hdl (by decide)
        have HES : Hid (pickAll (isEx l) (ups.take (k + 1)) [] = pick (l.any (fun r => exR r d)) d E) := by
          show _ = _
          rw [pickAll_snoc _ _ _ _ _ hd, ← hE.out]; rfl
        have HBS0 : Hid (pickAll (isBest l) (ups.take (k + 1)) [] = pick (l.any (fun r => beR r d)) d B) := by
          show _ = _
          rw [pickAll_snoc _ _ _ _ _ hd, ← hB.out]; rfl
        have cu : w2.cell? ⟨b2, off2 + k, none⟩ = some (.string (txt d)) := HUC.out k d hd
        clear hd hE hB
        go_wp2_with fail
        obtain ⟨E0, hE0⟩ : ∃ E0, E0 = E := ⟨_, rfl⟩
        obtain ⟨B0, hB0⟩ : ∃ B0, B0 = B := ⟨_, rfl⟩
        rw [← hE0] at HES
        rw [← hB0] at HBS0
        have HE0 : Hid _ := hE0
        have HB0 : Hid _ := hB0
        clear hE0 hB0
        have hb' := hb
        go_loopw [5, 6, 9] (fun ev bv iv wr => ∃ (i : Nat) (E B : List UInt8), i ≤ l.length ∧ iv = .int .i64 i ∧ ev = .string (txt E) ∧ bv = .string (txt B) ∧ Hid (E = pickIn exR (l.take i) d E0) ∧ Hid (B = pickIn beR (l.take i) d B0) ∧ Below w2.heap.size w2 wr) (fun _ _ iv _ => l.length - (intOf iv).toNat)
        case atStart => exact ⟨0, E, B, Nat.zero_le _, rfl, rfl, rfl, HE0.out.symm, HB0.out.symm, hb'⟩
        case round =>
          clear hb hb' HE0 HB0
          obtain ⟨i, E, B, hi, rfl, rfl, rfl, hE, hB, hb⟩ := hrel
          by_cases hil : i < l.length
          · obtain ⟨⟨z, s⟩, hri⟩ : ∃ r, l[i]? = some r := ⟨_, List.getElem?_eq_getElem hil⟩
            obtain ⟨b, off, rfl, hbl, hcl⟩ := Rows.at HRR.out rfl 1 sufF_len i _ hri
            have cd := (hb.cell (p := ⟨b2, off2 + k, none⟩) (cell_in cu)).trans cu
            have c1 := (hb.cell (p := ⟨b, off + i * 2 + 0, none⟩) hbl).trans (hcl 0 _ rfl)
            have c2 := (hb.cell (p := ⟨b, off + i * 2 + 1, none⟩) hbl).trans (hcl 1 _ rfl)
            rw [Nat.add_zero] at c1
            have x1 := Ext.cell c1
            have x2 := Ext.cell c2
            have hkd := (HK.out _ (List.mem_of_getElem? hri)).2
            have HXS : Hid (pickIn exR (l.take (i + 1)) d E0 = pick (exR (z, s) d) d (pickIn exR (l.take i) d E0)) := pickIn_snoc exR l i (z, s) d E0 hri
            have HBS : Hid (pickIn beR (l.take (i + 1)) d B0 = pick (beR (z, s) d) d (pickIn beR (l.take i) d B0)) := pickIn_snoc beR l i (z, s) d B0 hri
            clear hri hcl
            rcases kind_three z hkd with rfl | rfl | rfl
            · clear hkd
              by_cases hsd : s = d
              · have hq := teq s d hsd
                by_cases hlen : B.length < d.length
                · go_wp2_with fail
                  refine wp_region_ext (by kernel_rfl) (by kernel_rfl) ?_
                  repeat (go_big_quiet_step (first | rfl | (go_at_call 46; exact ext_same (behindT_any d HDL.out _))))
                  refine wpQuiet_nil ?_
                  intro wx hwx
                  obtain ⟨x, rfl⟩ := hwx
                  go_wp2_with fail
                  go_roundw
                  case rel =>
                    refine ⟨i + 1, E, d, by omega, by go_num, rfl, rfl, ?_, ?_, next hb x.2⟩
                    · show _ = _
                      rw [HXS.out, ← hE.out, ex_other 1 s d (by decide), pick_no]
                    · show _ = _
                      rw [HBS.out, ← hB.out, hsd, be_one, pick_yes _ _ hlen]
                  case measure => simp [intOf]; omega
                · go_wp2_with fail
                  refine wp_region_ext (by kernel_rfl) (by kernel_rfl) ?_
                  repeat (go_big_quiet_step (first | rfl | (go_at_call 46; exact ext_same (behindT_any d HDL.out _))))
                  refine wpQuiet_nil ?_
                  intro wx hwx
                  obtain ⟨x, rfl⟩ := hwx
                  go_wp2_with fail
                  go_roundw
                  case rel =>
                    refine ⟨i + 1, E, B, by omega, by go_num, rfl, rfl, ?_, ?_, next hb x.2⟩
                    · show _ = _
                      rw [HXS.out, ← hE.out, ex_other 1 s d (by decide), pick_no]
                    · show _ = _
                      rw [HBS.out, ← hB.out, pick_short _ _ _ hlen]
                  case measure => simp [intOf]; omega
              · have hq := tne s d hsd
                go_wp2_with fail
                refine wp_region_ext (by kernel_rfl) (by kernel_rfl) ?_
                repeat (go_big_quiet_step (first | rfl | (go_at_call 46; exact ext_same (behindT_any d HDL.out _))))
                refine wpQuiet_nil ?_
                intro wx hwx
                obtain ⟨x, rfl⟩ := hwx
                go_wp2_with fail
                go_roundw
                case rel =>
                  refine ⟨i + 1, E, B, by omega, by go_num, rfl, rfl, ?_, ?_, next hb x.2⟩
                  · show _ = _
                    rw [HXS.out, ← hE.out, ex_other 1 s d (by decide), pick_no]
                  · show _ = _
                    rw [HBS.out, ← hB.out, be_one_no s d hsd, pick_no]
                case measure => simp [intOf]; omega
            · clear hkd
              by_cases hsd : s = behindL d
              · have hq := teq s (behindL d) hsd
                by_cases hlen : B.length < d.length
                · go_wp2_with fail
                  refine wp_region_ext (by kernel_rfl) (by kernel_rfl) ?_
                  repeat (go_big_quiet_step (first | rfl | (go_at_call 46; exact ext_same (behindT_any d HDL.out _))))
                  refine wpQuiet_nil ?_
                  intro wx hwx
                  obtain ⟨x, rfl⟩ := hwx
                  go_wp2_with fail
                  go_roundw
                  case rel =>
                    refine ⟨i + 1, E, d, by omega, by go_num, rfl, rfl, ?_, ?_, next hb x.2⟩
                    · show _ = _
                      rw [HXS.out, ← hE.out, ex_other 2 s d (by decide), pick_no]
                    · show _ = _
                      rw [HBS.out, ← hB.out, hsd, be_two, pick_yes _ _ hlen]
                  case measure => simp [intOf]; omega
                · go_wp2_with fail
                  refine wp_region_ext (by kernel_rfl) (by kernel_rfl) ?_
                  repeat (go_big_quiet_step (first | rfl | (go_at_call 46; exact ext_same (behindT_any d HDL.out _))))
                  refine wpQuiet_nil ?_
                  intro wx hwx
                  obtain ⟨x, rfl⟩ := hwx
                  go_wp2_with fail
                  go_roundw
                  case rel =>
                    refine ⟨i + 1, E, B, by omega, by go_num, rfl, rfl, ?_, ?_, next hb x.2⟩
                    · show _ = _
                      rw [HXS.out, ← hE.out, ex_other 2 s d (by decide), pick_no]
                    · show _ = _
                      rw [HBS.out, ← hB.out, pick_short _ _ _ hlen]
                  case measure => simp [intOf]; omega
              · have hq := tne s (behindL d) hsd
                go_wp2_with fail
                refine wp_region_ext (by kernel_rfl) (by kernel_rfl) ?_
                repeat (go_big_quiet_step (first | rfl | (go_at_call 46; exact ext_same (behindT_any d HDL.out _))))
                refine wpQuiet_nil ?_
                intro wx hwx
                obtain ⟨x, rfl⟩ := hwx
                go_wp2_with fail
                go_roundw
                case rel =>
                  refine ⟨i + 1, E, B, by omega, by go_num, rfl, rfl, ?_, ?_, next hb x.2⟩
                  · show _ = _
                    rw [HXS.out, ← hE.out, ex_other 2 s d (by decide), pick_no]
                  · show _ = _
                    rw [HBS.out, ← hB.out, be_two_no s d hsd, pick_no]
                case measure => simp [intOf]; omega
            · clear hkd
              by_cases hsd : s = d
              · have hq := teq s d hsd
                by_cases hlen : E.length < d.length
                · go_wp2_with fail
                  refine wp_region_ext (by kernel_rfl) (by kernel_rfl) ?_
                  repeat (go_big_quiet_step (first | rfl | (go_at_call 46; exact ext_same (behindT_any d HDL.out _))))
                  refine wpQuiet_nil ?_
                  intro wx hwx
                  obtain ⟨x, rfl⟩ := hwx
                  go_wp2_with fail
                  go_roundw
                  case rel =>
                    refine ⟨i + 1, d, B, by omega, by go_num, rfl, rfl, ?_, ?_, next hb x.2⟩
                    · show _ = _
                      rw [HXS.out, ← hE.out, hsd, ex_yes, pick_yes _ _ hlen]
                    · show _ = _
                      rw [HBS.out, ← hB.out, be_three, pick_no]
                  case measure => simp [intOf]; omega
                · go_wp2_with fail
                  refine wp_region_ext (by kernel_rfl) (by kernel_rfl) ?_
                  repeat (go_big_quiet_step (first | rfl | (go_at_call 46; exact ext_same (behindT_any d HDL.out _))))
                  refine wpQuiet_nil ?_
                  intro wx hwx
                  obtain ⟨x, rfl⟩ := hwx
                  go_wp2_with fail
                  go_roundw
                  case rel =>
                    refine ⟨i + 1, E, B, by omega, by go_num, rfl, rfl, ?_, ?_, next hb x.2⟩
                    · show _ = _
                      rw [HXS.out, ← hE.out, pick_short _ _ _ hlen]
                    · show _ = _
                      rw [HBS.out, ← hB.out, be_three, pick_no]
                  case measure => simp [intOf]; omega
              · have hq := tne s d hsd
                go_wp2_with fail
                refine wp_region_ext (by kernel_rfl) (by kernel_rfl) ?_
                repeat (go_big_quiet_step (first | rfl | (go_at_call 46; exact ext_same (behindT_any d HDL.out _))))
                refine wpQuiet_nil ?_
                intro wx hwx
                obtain ⟨x, rfl⟩ := hwx
                go_wp2_with fail
                go_roundw
                case rel =>
                  refine ⟨i + 1, E, B, by omega, by go_num, rfl, rfl, ?_, ?_, next hb x.2⟩
                  · show _ = _
                    rw [HXS.out, ← hE.out, ex_no s d hsd, pick_no]
                  · show _ = _
                    rw [HBS.out, ← hB.out, be_three, pick_no]
                case measure => simp [intOf]; omega
          · have HX : Hid (l.take i = l) := List.take_of_length_le (by omega)
            go_wp2_with fail
            go_roundw
            case rel =>
              refine ⟨k + 1, E, B, by omega, by go_num, rfl, rfl, ?_, ?_, hb⟩
              · show _ = _
                rw [HES.out, ← pickIn_any, hE.out, HX.out]
              · show _ = _
                rw [HBS0.out, ← pickIn_any, hB.out, HX.out]
            case measure => simp [intOf]; omega
      · have HX : Hid (ups.take k = ups) := List.take_of_length_le (by omega)
        have HP := pub_ref l h.data.toList HC.out
        have hEx : refEx l h.data.toList = E := by
          unfold refEx
          rw [hE.out, HX.out, HUP.out]
        have hBe : refBe l h.data.toList = B := by
          unfold refBe
          rw [hB.out, HX.out, HUP.out]
        rw [hEx, hBe] at HP
        have HEE : Hid _ := hE.out
        clear hEx hBe hE hB
        have HP0 : Hid _ := HP
        clear HP
        have HEL : Hid (E.length ≤ maxLen) := by
          have := pickAll_len (isEx l) (ups.take k) [] 253 (fun x hx => HF3.out x (List.mem_of_mem_take hx)) (Nat.zero_le _)
          rw [← HEE.out] at this
          exact Nat.le_trans this (by decide)
        have hbW := next hb0 hb
        by_cases hE0 : E = []
        · have qE := tnil E hE0
          by_cases hB0 : B = []
          · have qB := tnil B hB0
            have hlast : ups[ups.length - 1]? = some ((upsN h.data.toList).getLast (by unfold upsN; simp)) := by
              rw [HUP.out, ← List.getLast?_eq_getElem?]
              exact List.getLast?_eq_some_getLast _
            obtain ⟨la, hla⟩ : ∃ la, la = (upsN h.data.toList).getLast (by unfold upsN; simp) := ⟨_, rfl⟩
            rw [← hla] at hlast
            have HR : Hid (pubL l h.data.toList = la) := by
              show _ = _
              rw [HP0.out, if_neg (by rw [hE0]; simp), if_pos hB0, hla]
            have cl := (hb.cell (p := ⟨b2, off2 + (ups.length - 1), none⟩) (cell_in (HUC.out _ _ hlast))).trans (HUC.out _ _ hlast)
            have hcast : ((ups.length : Int) - 1) = ((ups.length - 1 : Nat) : Int) := by omega
            clear hlast hla hE0 hB0
            go_wp2_with fail
            go_ret
            refine ⟨?_, hbW⟩
            rw [HR0.out, HAD.out, if_neg (by simp), HR.out]; rfl
          · have qB := tnot B hB0
            have HR : Hid (pubL l h.data.toList = B) := by
              show _ = _
              rw [HP0.out, if_neg (by rw [hE0]; simp), if_neg hB0]
            clear hE0 hB0
            go_wp2_with fail
            go_ret
            refine ⟨?_, hbW⟩
            rw [HR0.out, HAD.out, if_neg (by simp), HR.out]; rfl
        · have qE := tnot E hE0
          have HR : Hid (pubL l h.data.toList = behindL E) := by
            show _ = _
            rw [HP0.out, if_pos hE0]
          go_wp2_with fail
          refine (behindT_any E HEL.out _).mono ?_
          rintro e w3 ⟨rfl, rfl⟩
          go_wp2_with fail
          go_ret
          refine ⟨?_, hbW⟩
          rw [HR0.out, HAD.out, if_neg (by simp), HR.out]; rfl
  · have HAD : Hid _ := ha
    rintro e w1 ⟨rfl, hb1⟩
    go_wp2_with fail
    go_ret
    refine ⟨?_, hb1⟩
    rw [HR0.out, HAD.out]; rfl
end Go.Proofs.YtjoailjedfbnbaeDoor
namespace Go.Proofs.YtjoailjedfbnbaeDoor
open Go.RowKit Go.Maps
set_option linter.all false
set_option maxRecDepth 100000

theorem suf_kinds (l : Rules) (h : sufE l = 0) (hok : ∀ r ∈ l, okR r) : ∀ r ∈ l, okR r ∧ kindB r.1 = true := fun r hr => ⟨hok r hr, (rule_form r ((suf_all l h).2 r hr)).1⟩
theorem pubA_ok (l : Rules) (h : List UInt8) (h0 : sufE l = 0) (hc : canB h = true) : (if addrL h then [] else pubL l h) = pubA l h := by
  unfold pubA; rw [if_pos h0, hc, if_pos rfl]
set_option maxHeartbeats 2000000 in
theorem publicNo_any (v : Value) (l : Rules) (h : ByteArray) (w : World) (hr : Rows w v sufF l) (hm : l.length ≤ maxLen) (hok : ∀ r ∈ l, okR r) (hh : h.size ≤ maxLen) :
    Calls Tryd.prog 8 #[v, .string h] w fun e w' => e = .returned (.tuple #[.string (txt (pubA l h.data.toList)), .int .i64 (pubE l h.data.toList)]) ∧ Below w.heap.size w w' := by
  have HR : Hid (Rows w v sufF l) := hr
  have HM : Hid _ := hm
  have HK : Hid _ := hok
  have HH : Hid _ := hh
  clear hr hm hok hh
  obtain ⟨A, hA⟩ : ∃ A, pubA l h.data.toList = A := ⟨_, rfl⟩
  obtain ⟨E, hE⟩ : ∃ E, pubE l h.data.toList = E := ⟨_, rfl⟩
  obtain ⟨S, hS⟩ : ∃ S, sufE l = S := ⟨_, rfl⟩
  rw [hA, hE]
  have HA : Hid _ := hA
  have HE : Hid _ := hE
  have HS : Hid _ := hS
  by_cases h0 : S = 0
  · have H0 : Hid (sufE l = 0) := by show _ = _; rw [hS]; exact h0
    cases hc : canB h.data.toList
    · have hE1 : E = 1 := by rw [← hE]; unfold pubE; rw [if_pos H0.out, hc]; rfl
      have hA1 : A = [] := by rw [← hA]; exact pubA_bad _ _ (by rw [hE, hE1]; decide)
      have HC : Hid _ := hc
      subst h0
      clear hc hA hE hS
      go_enter Tryd.func8, Tryd.ntmps8
      go_wp2_with fail
      refine (suffixCheck_any v l _ HR.out HM.out HK.out).mono ?_
      rw [HS.out]
      rintro e w1 ⟨rfl, hb1⟩
      go_wp2_with fail
      refine (isHost_any _ _ HH.out).mono ?_
      rw [HC.out]
      rintro e w2 ⟨rfl, hb2⟩
      go_wp2_with fail
      go_ret2
      refine ⟨?_, next hb1 hb2⟩
      rw [hA1, hE1]; rfl
    · have hE1 : E = 0 := by rw [← hE]; exact (pubE_ok _ _).2 ⟨H0.out, hc⟩
      have HC : Hid _ := hc
      have HA2 : Hid ((if addrL h.data.toList then [] else pubL l h.data.toList) = A) := by show _ = _; rw [← hA]; exact pubA_ok l _ H0.out hc
      subst h0
      clear hc hA hE hS
      go_enter Tryd.func8, Tryd.ntmps8
      go_wp2_with fail
      refine (suffixCheck_any v l _ HR.out HM.out HK.out).mono ?_
      rw [HS.out]
      rintro e w1 ⟨rfl, hb1⟩
      have R1 : Hid (Rows w1 v sufF l) := Rows.below HR.out hb1 (Nat.le_refl _)
      go_wp2_with fail
      refine (isHost_any _ _ HH.out).mono ?_
      rw [HC.out]
      rintro e w2 ⟨rfl, hb2⟩
      have R2 : Hid (Rows w2 v sufF l) := Rows.below R1.out hb2 (Nat.le_refl _)
      go_wp2_with fail
      refine (publicOf_any v l h _ R2.out (suf_all l H0.out).1 (suf_kinds l H0.out HK.out) HC.out).mono ?_
      rw [HA2.out]
      rintro e w3 ⟨rfl, hb3⟩
      go_wp2_with fail
      go_ret2
      refine ⟨?_, next (next hb1 hb2) hb3⟩
      rw [hE1]; rfl
  · have hE1 : E = S := by rw [← hE]; unfold pubE; rw [if_neg (by rw [hS]; exact h0), hS]
    have hA1 : A = [] := by rw [← hA]; exact pubA_bad _ _ (by rw [hE, hE1]; exact h0)
    have h0b : (S == 0) = false := by rw [beq_eq_false_iff_ne]; exact h0
    have h0c : (S != 0) = true := by rw [bne_iff_ne]; exact h0
    clear h0 hA hE hS
    go_enter Tryd.func8, Tryd.ntmps8
    go_wp2_with fail
    refine (suffixCheck_any v l _ HR.out HM.out HK.out).mono ?_
    rw [HS.out]
    rintro e w1 ⟨rfl, hb1⟩
    go_wp2_with fail
    go_ret2
    refine ⟨?_, hb1⟩
    rw [hA1, hE1]; rfl
end Go.Proofs.YtjoailjedfbnbaeDoor
