/- Contracts of hosts as they are compared: the program's and the reference's. -/
import Derived.Test.YtcfdajaideidkaaHostA
namespace Go.Proofs.Ytcfdajaideidkaa
open Go.RowKit
set_option linter.all false
set_option maxRecDepth 100000

/-- a host as it is compared, and the error -/
def canonL (l : List UInt8) : List UInt8 := if l.length ≤ 253 then (if hostL l then foldL l else []) else []
def canonE (l : List UInt8) : Int := if l.length ≤ 253 then (if hostL l then 0 else 1) else 2
theorem host_no (p : List UInt8 → Bool) (l : List (List UInt8)) (k : Nat) (x : List UInt8) (h : l[k]? = some x) (hx : p x = false) : l.all p = false := by
  rw [List.all_eq_false]
  exact ⟨x, List.mem_of_getElem? h, by simp [hx]⟩
theorem host_yes (p : List UInt8 → Bool) (l : List (List UInt8)) (h : ∀ (j : Nat) x, l[j]? = some x → p x = true) : l.all p = true := by
  rw [List.all_eq_true]
  intro x hx
  obtain ⟨k, hk⟩ := List.getElem?_of_mem hx
  exact h k x hk
theorem parts_short (l : List UInt8) (b : UInt8) : ∀ x ∈ partsL l b, x.length ≤ l.length := by
  induction l with
  | nil => intro x hx; simp [partsL] at hx; simp [hx]
  | cons c l ih =>
    intro x hx
    by_cases h : c = b
    · simp only [partsL, h, if_true, List.mem_cons] at hx
      rcases hx with rfl | hx
      · simp
      · have := ih x hx; simp; omega
    · obtain ⟨p, ps, e1, e2⟩ := partsL_cons c l b h
      rw [e2, List.mem_cons] at hx
      rw [e1] at ih
      rcases hx with rfl | hx
      · have := ih p (by simp); simp; omega
      · have := ih x (by simp [hx]); simp; omega
theorem parts_size (s : ByteArray) (b : UInt8) (k : Nat) (x : List UInt8) (h : (partsL s.data.toList b)[k]? = some x) : (txt x).size ≤ s.size := parts_short _ b x (List.mem_of_getElem? h)
set_option maxHeartbeats 1000000 in
theorem canon_any (s : ByteArray) (w : World) (hs : s.size ≤ maxLen) :
    Calls Try.prog 77 #[.string s] w fun e w' => e = .returned (.tuple #[.string (txt (canonL s.data.toList)), .int .i64 (canonE s.data.toList)]) ∧ Below w.heap.size w w' := by
  have HS : Hid _ := hs
  unfold maxLen at hs
  by_cases h1 : s.size ≤ 253
  · have HC : Hid (canonL s.data.toList = if hostL s.data.toList then foldL s.data.toList else []) := if_pos h1
    have HE : Hid (canonE s.data.toList = if hostL s.data.toList then 0 else 1) := if_pos h1
    go_enter Try.func77, Try.ntmps77
    go_wp2_with fail
    refine (parts_any s 46 _ (by omega)).mono ?_
    rintro e w1 ⟨v, rfl, hown, hb1⟩
    have hpl : (partsL s.data.toList 46).length ≤ s.size + 1 := partsL_len s.data.toList 46
    have HX : Hid _ := parts_size s 46
    have HL : Hid (hostL s.data.toList = (partsL s.data.toList 46).all labelL) := rfl
    have hr := Reads.of_own hown
    clear hown
    obtain ⟨ps, hps⟩ : ∃ ps, ps = partsL s.data.toList 46 := ⟨_, rfl⟩
    rw [← hps] at hpl HX HL hr
    clear hps
    obtain ⟨ad, cap, rfl, hr⟩ := hr
    go_wp2_with fail
    go_loop [12] (fun i => ∃ k : Nat, k ≤ ps.length ∧ i = .int .i64 k ∧ Hid (∀ (j : Nat) x, ps[j]? = some x → j < k → labelL x = true)) (fun i => ps.length - (intOf i).toNat)
    case atStart => exact ⟨0, Nat.zero_le _, rfl, fun _ _ _ h => absurd h (by omega)⟩
    case round =>
      obtain ⟨k, hk, rfl, hb⟩ := hrel
      by_cases hlt : k < ps.length
      · have e1 := List.getElem?_eq_getElem hlt
        obtain ⟨x, hx⟩ : ∃ x, x = ps[k] := ⟨_, rfl⟩
        rw [← hx] at e1
        rcases hr with hr | ⟨bl, ol, rfl, hr⟩
        · have : (strs ps).length = ps.length := strs_length ps
          rw [hr] at this; simp at this; omega
        have hc0 := hr k _ (strs_get e1)
        have hxs := HX.out k x e1
        have E1 : Hid _ := e1
        clear hr hx e1
        cases htk : labelL x
        · have HT : Hid (hostL s.data.toList = false) := HL.out.trans (host_no labelL _ k x E1.out htk)
          go_wp2_with fail
          refine (label_any (txt x) _ (by unfold maxLen; omega)).mono ?_
          rw [txt_toList, htk]
          rintro e w' ⟨rfl, rfl⟩
          go_wp2_with fail
          go_ret2
          refine ⟨?_, hb1⟩
          rw [HC.out, HE.out, HT.out]; rfl
        · go_wp2_with fail
          refine (label_any (txt x) _ (by unfold maxLen; omega)).mono ?_
          rw [txt_toList, htk]
          rintro e w' ⟨rfl, rfl⟩
          go_wp2_with fail
          go_round
          case rel =>
            refine ⟨k + 1, by omega, by go_num, fun j y hj hlt2 => ?_⟩
            by_cases e : j = k
            · subst e
              rw [E1.out] at hj
              injection hj with hj
              rw [← hj]; exact htk
            · exact hb.out j y hj (by omega)
          case measure => simp [intOf]; omega
      · have HT : Hid (hostL s.data.toList = true) := HL.out.trans (host_yes labelL _ (fun j x hj => hb.out j x hj (by have := (List.getElem?_eq_some_iff.1 hj).1; omega)))
        clear hr
        go_wp2_with fail
        refine (fold_any _ _ HS.out).mono ?_
        rintro e w2 ⟨rfl, hb2⟩
        go_wp2_with fail
        go_ret2
        refine ⟨?_, next hb1 hb2⟩
        rw [HC.out, HE.out, HT.out]; rfl
  · have HC : Hid (canonL s.data.toList = []) := if_neg h1
    have HE : Hid (canonE s.data.toList = 2) := if_neg h1
    go_enter Try.func77, Try.ntmps77
    go_wp2_with fail
    go_ret2
    refine ⟨?_, Below.refl _ _⟩
    rw [HC.out, HE.out]; rfl
set_option maxHeartbeats 1000000 in
theorem hostOf_any (s : ByteArray) (w : World) (hs : s.size ≤ maxLen) :
    Calls Try.prog 67 #[.string s] w fun e w' => e = .returned (.tuple #[.string (txt (canonL s.data.toList)), .int .i64 (canonE s.data.toList)]) ∧ Below w.heap.size w w' := by
  have HS : Hid _ := hs
  unfold maxLen at hs
  by_cases h1 : s.size ≤ 253
  · have HC : Hid (canonL s.data.toList = if hostR (foldL s.data.toList) then foldL s.data.toList else []) := by rw [hostL_fold]; exact if_pos h1
    have HE : Hid (canonE s.data.toList = if hostR (foldL s.data.toList) then 0 else 1) := by rw [hostL_fold]; exact if_pos h1
    go_enter Try.func67, Try.ntmps67
    go_wp2_with fail
    refine (foldOf_any _ _ HS.out).mono ?_
    rintro e w0 ⟨rfl, hb0⟩
    have hfs : (txt (foldL s.data.toList)).size = s.size := by rw [txt_size]; simp [foldL]
    have hfs1 : (txt (foldL s.data.toList)).size ≤ 253 := by omega
    obtain ⟨t, ht⟩ : ∃ t, t = txt (foldL s.data.toList) := ⟨_, rfl⟩
    have HC2 : Hid (foldL s.data.toList = t.data.toList) := by rw [ht]; exact rfl
    rw [← ht] at hfs1 ⊢
    clear ht hfs
    go_wp2_with fail
    refine (partsOf_any t 46 _ (by omega)).mono ?_
    rintro e w1 ⟨v, rfl, hown, hb1⟩
    have hpl : (partsL t.data.toList 46).length ≤ t.size + 1 := partsL_len t.data.toList 46
    have HX : Hid _ := parts_size t 46
    have HL : Hid (hostR t.data.toList = (partsL t.data.toList 46).all labelR) := rfl
    rw [HC2.out] at HC HE
    have hr := Reads.of_own hown
    clear hown
    obtain ⟨ps, hps⟩ : ∃ ps, ps = partsL t.data.toList 46 := ⟨_, rfl⟩
    rw [← hps] at hpl HX HL hr
    clear hps
    obtain ⟨ad, cap, rfl, hr⟩ := hr
    go_wp2_with fail
    go_loop [5] (fun i => ∃ k : Nat, k ≤ ps.length ∧ i = .int .i64 k ∧ Hid (∀ (j : Nat) x, ps[j]? = some x → j < k → labelR x = true)) (fun i => ps.length - (intOf i).toNat)
    case atStart => exact ⟨0, Nat.zero_le _, rfl, fun _ _ _ h => absurd h (by omega)⟩
    case round =>
      obtain ⟨k, hk, rfl, hb⟩ := hrel
      by_cases hlt : k < ps.length
      · have e1 := List.getElem?_eq_getElem hlt
        obtain ⟨x, hx⟩ : ∃ x, x = ps[k] := ⟨_, rfl⟩
        rw [← hx] at e1
        rcases hr with hr | ⟨bl, ol, rfl, hr⟩
        · have : (strs ps).length = ps.length := strs_length ps
          rw [hr] at this; simp at this; omega
        have hc0 := hr k _ (strs_get e1)
        have hxs := HX.out k x e1
        have E1 : Hid _ := e1
        clear hr hx e1
        cases htk : labelR x
        · have HT : Hid (hostR t.data.toList = false) := HL.out.trans (host_no labelR _ k x E1.out htk)
          go_wp2_with fail
          refine (isLabel_any (txt x) _ (by unfold maxLen; omega)).mono ?_
          rw [txt_toList, htk]
          rintro e w' ⟨rfl, rfl⟩
          go_wp2_with fail
          go_ret2
          refine ⟨?_, next hb0 hb1⟩
          rw [HC.out, HE.out, HT.out]; rfl
        · go_wp2_with fail
          refine (isLabel_any (txt x) _ (by unfold maxLen; omega)).mono ?_
          rw [txt_toList, htk]
          rintro e w' ⟨rfl, rfl⟩
          go_wp2_with fail
          go_round
          case rel =>
            refine ⟨k + 1, by omega, by go_num, fun j y hj hlt2 => ?_⟩
            by_cases e : j = k
            · subst e
              rw [E1.out] at hj
              injection hj with hj
              rw [← hj]; exact htk
            · exact hb.out j y hj (by omega)
          case measure => simp [intOf]; omega
      · have HT : Hid (hostR t.data.toList = true) := HL.out.trans (host_yes labelR _ (fun j x hj => hb.out j x hj (by have := (List.getElem?_eq_some_iff.1 hj).1; omega)))
        clear hr
        go_wp2_with fail
        go_ret2
        refine ⟨?_, next hb0 hb1⟩
        rw [HC.out, HE.out, HT.out]; rfl
  · have HC : Hid (canonL s.data.toList = []) := if_neg h1
    have HE : Hid (canonE s.data.toList = 2) := if_neg h1
    go_enter Try.func67, Try.ntmps67
    go_wp2_with fail
    go_ret2
    refine ⟨?_, Below.refl _ _⟩
    rw [HC.out, HE.out]; rfl
set_option maxHeartbeats 1000000 in
theorem count_any (s : ByteArray) (w : World) :
    Calls Try.prog 118 #[.string s, .string ⟨#[46]⟩] w fun e w' => e = .returned (.int .i64 (Lib.countByte s.data.toList 46)) ∧ w' = w := by
  go_enter Try.func118, Try.ntmps118
  go_wp2
  rw [run_callFunc_extern Try.func121 (by kernel_rfl) (by kernel_rfl) (by kernel_rfl) (e := Extern.BytealgCount.count) (by kernel_rfl), Lib.run_countString]
  simp only [Result.andThen]
  rw [Oper.upon_value]
  go_wp2
  go_ret
  exact ⟨rfl, rfl⟩
theorem digN (c : UInt8) (h : digU c = true) : 48 ≤ c.toNat ∧ c.toNat ≤ 57 := by
  unfold digU at h
  simpa only [Bool.and_eq_true, decide_eq_true_eq] using h
theorem numL_take (s : ByteArray) (k : Nat) (h : k < s.size) : numL (s.data.toList.take (k + 1)) = numL (s.data.toList.take k) * 10 + (s[k].toNat - 48) := by
  have e := List.take_succ_eq_append_getElem (l := s.data.toList) (i := k) (by simpa using h)
  rw [e, numL_snoc]; rfl
theorem numL_rev (r : List UInt8) (h : ∀ c ∈ r, digU c = true) : numL r.reverse + 1 ≤ 10 ^ r.length := by
  induction r with
  | nil => simp [numL]
  | cons c r ih =>
    have h1 := ih (fun d hd => h d (by simp [hd]))
    have h2 := digN c (h c (by simp))
    rw [List.reverse_cons, numL_snoc, List.length_cons, Nat.pow_succ]
    omega
theorem numL_max (l : List UInt8) (h : ∀ c ∈ l, digU c = true) : numL l + 1 ≤ 10 ^ l.length := by
  have := numL_rev l.reverse (fun c hc => h c (by simpa using hc))
  rwa [List.reverse_reverse, List.length_reverse] at this
theorem octetL_i (s : ByteArray) : octetL s.data.toList = (decide (1 ≤ s.size) && decide (s.size ≤ 3) && !(decide (1 < s.size) && s.data.toList.head? == some 48) && allB digU s.data.toList && decide (numL s.data.toList ≤ 255)) := rfl
theorem octet_no1 (s : ByteArray) (h : ¬ (1 ≤ s.size ∧ s.size ≤ 3)) : octetL s.data.toList = false := by
  rw [octetL_i]
  by_cases h1 : 1 ≤ s.size
  · have h2 : ¬ s.size ≤ 3 := fun e => h ⟨h1, e⟩
    simp [h2]
  · simp [h1]
theorem octet_no2 (s : ByteArray) (h1 : 1 < s.size) (h : ((s[0]'(by omega)).toNat : Int) = 48) : octetL s.data.toList = false := by
  rw [octetL_i, head_get s (by omega)]
  have e : s[0]'(by omega) = 48 := UInt8.toNat_inj.1 (by have : (48 : UInt8).toNat = 48 := rfl; omega)
  rw [e]
  simp [h1]
theorem octet_no3 (s : ByteArray) (h : allB digU s.data.toList = false) : octetL s.data.toList = false := by
  rw [octetL_i, h]; simp
theorem octet_yes (s : ByteArray) (h1 : 1 ≤ s.size) (h2 : s.size ≤ 3) (h3 : 1 < s.size → ((s[0]'(by omega)).toNat : Int) ≠ 48) (h4 : allB digU s.data.toList = true) : octetL s.data.toList = decide (numL s.data.toList ≤ 255) := by
  rw [octetL_i, h4, head_get s (by omega)]
  by_cases h : 1 < s.size
  · have e : (s[0]'(by omega) == 48) = false := by
      rw [beq_eq_false_iff_ne]
      intro e
      exact h3 h (by rw [e]; rfl)
    simp [h1, h2, h, e]
  · simp [h1, h2, h]
set_option maxHeartbeats 1000000 in
theorem octet_any (s : ByteArray) (w : World) (hs : s.size ≤ maxLen) :
    Calls Try.prog 119 #[.string s] w fun e w' => e = .returned (.bool (octetL s.data.toList)) ∧ w' = w := by
  have HS : Hid _ := hs
  unfold maxLen at hs
  by_cases h1 : 1 ≤ s.size
  · have hne := ne_nil s h1
    by_cases h2 : s.size ≤ 3
    · by_cases h3 : 1 < s.size ∧ ((s[0]'(by omega)).toNat : Int) = 48
      · have HT : Hid (octetL s.data.toList = false) := octet_no2 s h3.1 h3.2
        have h3b : (((s[0]'(by omega : 0 < s.size)).toNat : Int) == 48) = true := by rw [h3.2]; rfl
        have h3a := h3.1
        have H3 : Hid _ := h3
        go_enter Try.func119, Try.ntmps119
        go_wp2_with fail
        go_ret
        refine ⟨?_, rfl⟩
        rw [HT.out]; rfl
      · cases h4 : allB digU s.data.toList
        · have HT : Hid (octetL s.data.toList = false) := octet_no3 s h4
          have H4 : Hid _ := h4
          clear h4
          by_cases h5 : 1 < s.size
          · have h3b : (((s[0]'(by omega)).toNat : Int) == 48) = false := by rw [beq_eq_false_iff_ne]; exact fun h => h3 ⟨h5, h⟩
            clear h3
            go_enter Try.func119, Try.ntmps119
            go_wp2_with fail
            refine (only_digit s _ HS.out).mono ?_
            rw [H4.out]
            rintro e w' ⟨rfl, rfl⟩
            go_wp2_with fail
            go_ret
            refine ⟨?_, rfl⟩
            rw [HT.out]; rfl
          · clear h3
            go_enter Try.func119, Try.ntmps119
            go_wp2_with fail
            refine (only_digit s _ HS.out).mono ?_
            rw [H4.out]
            rintro e w' ⟨rfl, rfl⟩
            go_wp2_with fail
            go_ret
            refine ⟨?_, rfl⟩
            rw [HT.out]; rfl
        · have HT : Hid (octetL s.data.toList = decide (numL s.data.toList ≤ 255)) := octet_yes s h1 h2 (fun h h' => h3 ⟨h, h'⟩) h4
          have H4 : Hid _ := h4
          clear h4
          have HN : Hid (∀ c ∈ s.data.toList, digU c = true) := List.all_eq_true.1 H4.out
          have hbig : ∀ k, k ≤ s.size → numL (s.data.toList.take k) ≤ 1000 := fun k hk => by
            have h := numL_max (s.data.toList.take k) (fun c hc => HN.out c (List.mem_of_mem_take hc))
            have hl : (s.data.toList.take k).length ≤ 3 := by rw [List.length_take]; have : s.data.toList.length = s.size := rfl; omega
            have := Nat.pow_le_pow_right (n := 10) (by omega) hl
            omega
          have HB : Hid _ := hbig
          clear hbig
          by_cases h5 : 1 < s.size
          all_goals
            try have h3b : (((s[0]'(by omega)).toNat : Int) == 48) = false := by rw [beq_eq_false_iff_ne]; exact fun h => h3 ⟨h5, h⟩
            clear h3
            go_enter Try.func119, Try.ntmps119
            go_wp2_with fail
            refine (only_digit s _ HS.out).mono ?_
            rw [H4.out]
            rintro e w' ⟨rfl, rfl⟩
            go_wp2_with fail
            go_loop [3, 29] (fun n i => ∃ k : Nat, k ≤ s.size ∧ i = .int .i64 k ∧ n = .int .i64 (numL (s.data.toList.take k) : Nat)) (fun _ i => s.size - (intOf i).toNat)
            case atStart => exact ⟨0, Nat.zero_le _, rfl, rfl⟩
            case round =>
              obtain ⟨k, hk, rfl, rfl⟩ := hrel
              by_cases hlt : k < s.size
              · have HG := get_of s k hlt
                have hd := digN s[k] (HN.out _ (List.mem_of_getElem? HG))
                have d1 : 48 ≤ (s[k].toNat : Int) := by omega
                have d2 : (s[k].toNat : Int) ≤ 57 := by omega
                have hk1 := HB.out k (by omega)
                have HK : Hid ((10 : Int) * (numL (s.data.toList.take k) : Nat) + ((s[k].toNat : Int) - 48) = (numL (s.data.toList.take (k + 1)) : Nat)) := by
                  show _ = _
                  rw [numL_take s k hlt]; omega
                obtain ⟨n, hn⟩ : ∃ n, n = numL (s.data.toList.take k) := ⟨_, rfl⟩
                rw [← hn] at HK hk1 ⊢
                clear hn HG hd
                go_wp2_with fail
                go_round
                case rel => exact ⟨k + 1, by omega, by go_num, by rw [← HK.out]⟩
                case measure => simp [intOf]; omega
              · have HT2 : Hid (s.data.toList.take k = s.data.toList) := List.take_of_length_le (by simp; omega)
                rw [HT2.out]
                have hk1 := HB.out k (by omega)
                rw [HT2.out] at hk1
                go_wp2_with fail
                go_ret
                refine ⟨?_, rfl⟩
                rw [HT.out]
                exact ret_b (by simp only [decide_eq_true_eq]; omega)
    · have HT : Hid (octetL s.data.toList = false) := octet_no1 s (fun h => h2 h.2)
      go_enter Try.func119, Try.ntmps119
      go_wp2_with fail
      go_ret
      refine ⟨?_, rfl⟩
      rw [HT.out]; rfl
  · have HT : Hid (octetL s.data.toList = false) := octet_no1 s (fun h => h1 h.1)
    obtain rfl := size_nil s h1
    go_enter Try.func119, Try.ntmps119
    go_wp2_with fail
    go_ret
    refine ⟨?_, rfl⟩
    rw [HT.out]; rfl
/-- the number of the first k bytes, of five at most -/
def nAt (s : ByteArray) (k : Nat) : Nat := numL (s.data.toList.take (min k 5))
theorem nAt_lt (s : ByteArray) (k : Nat) (h : k < s.size) (h5 : k < 5) : nAt s (k + 1) = nAt s k * 10 + (s[k].toNat - 48) := by
  unfold nAt
  rw [show min (k + 1) 5 = k + 1 by omega, show min k 5 = k by omega]
  exact numL_take s k h
theorem nAt_ge (s : ByteArray) (k : Nat) (h5 : ¬ k < 5) : nAt s (k + 1) = nAt s k := by
  unfold nAt
  rw [show min (k + 1) 5 = 5 by omega, show min k 5 = 5 by omega]
theorem nAt_max (s : ByteArray) (k : Nat) (h : ∀ (j : Nat) c, s.data.toList[j]? = some c → j < k → digU c = true) : nAt s k ≤ 99999 := by
  unfold nAt
  have h1 := numL_max (s.data.toList.take (min k 5)) (fun c hc => by
    obtain ⟨j, hj⟩ := List.getElem?_of_mem hc
    have hj2 := (List.getElem?_eq_some_iff.1 hj).1
    rw [List.length_take] at hj2
    rw [List.getElem?_take_of_lt (by omega)] at hj
    exact h j c hj (by omega))
  have hl : (s.data.toList.take (min k 5)).length ≤ 5 := by rw [List.length_take]; omega
  have := Nat.pow_le_pow_right (n := 10) (by omega) hl
  omega
/-- how many digits a text begins with, and the number of the first five -/
def leadK (l : List UInt8) : Nat := (leadL l).length
def leadN (l : List UInt8) : Nat := numL ((leadL l).take 5)
theorem lead_at (s : ByteArray) (k : Nat) (hk : k ≤ s.size) (h : ∀ (j : Nat) c, s.data.toList[j]? = some c → j < k → digU c = true) (h2 : ∀ c, s.data.toList[k]? = some c → digU c = false) :
    leadK s.data.toList = k ∧ leadN s.data.toList = nAt s k := by
  have hl : s.data.toList.length = s.size := rfl
  have e := (while_at digU s.data.toList k (by omega) h h2).1
  unfold leadK leadN nAt leadL
  rw [e, List.length_take, List.take_take]
  refine ⟨by omega, ?_⟩
  congr 2
  omega
set_option maxHeartbeats 1000000 in
theorem leadDigits_any (s : ByteArray) (w : World) (hs : s.size ≤ maxLen) :
    Calls Try.prog 89 #[.string s] w fun e w' => e = .returned (.tuple #[.int .i64 (leadK s.data.toList : Nat), .int .i64 (leadN s.data.toList : Nat)]) ∧ w' = w := by
  unfold maxLen at hs
  go_enter Try.func89, Try.ntmps89
  go_wp2
  go_loop [4, 5] (fun kv nv => ∃ k : Nat, k ≤ s.size ∧ kv = .int .i64 k ∧ nv = .int .i64 (nAt s k : Nat) ∧ Hid (∀ (j : Nat) c, s.data.toList[j]? = some c → j < k → digU c = true)) (fun kv _ => s.size - (intOf kv).toNat)
  case atStart => exact ⟨0, Nat.zero_le _, rfl, rfl, fun _ _ _ h => absurd h (by omega)⟩
  case round =>
    obtain ⟨k, hk, rfl, rfl, hb⟩ := hrel
    have hmax := nAt_max s k hb.out
    by_cases hlt : k < s.size
    · have HG : Hid (s.data.toList[k]? = some s[k]) := get_of s k hlt
      cases hd : digU s[k]
      · obtain ⟨ek, en⟩ := lead_at s k hk hb.out (fun c hc => by rw [HG.out] at hc; injection hc with hc; rw [← hc]; exact hd)
        have EK : Hid _ := ek
        have EN : Hid _ := en
        clear ek en
        obtain ⟨n, hn⟩ : ∃ n, n = nAt s k := ⟨_, rfl⟩
        rw [← hn] at EN hmax ⊢
        clear hn
        go_wp2_with (go_at_call 88; refine (isDigit_any _ _).mono ?_; rw [hd]; rintro e w' ⟨rfl, rfl⟩)
        go_ret2
        refine ⟨?_, rfl⟩
        rw [EK.out, EN.out]; rfl
      · have hd2 := digN _ hd
        have d1 : 48 ≤ (s[k].toNat : Int) := by omega
        have d2 : (s[k].toNat : Int) ≤ 57 := by omega
        clear hd2
        have hb2 : Hid (∀ (j : Nat) c, s.data.toList[j]? = some c → j < k + 1 → digU c = true) := fun j c hj hlt2 => by
          by_cases e : j = k
          · subst e
            rw [HG.out] at hj
            injection hj with hj
            rw [← hj]; exact hd
          · exact hb.out j c hj (by omega)
        by_cases h5 : k < 5
        · have HK : Hid (((nAt s k : Nat) : Int) * 10 + (s[k].toNat : Int) - 48 = (nAt s (k + 1) : Nat)) := by
            show _ = _
            rw [nAt_lt s k hlt h5]; omega
          obtain ⟨n, hn⟩ : ∃ n, n = nAt s k := ⟨_, rfl⟩
          rw [← hn] at HK hmax ⊢
          clear hn
          go_wp2_with (go_at_call 88; refine (isDigit_any _ _).mono ?_; rw [hd]; rintro e w' ⟨rfl, rfl⟩)
          go_round
          case rel => exact ⟨k + 1, by omega, by go_num, by rw [← HK.out], hb2⟩
          case measure => simp [intOf]; omega
        · have HK : Hid (nAt s (k + 1) = nAt s k) := nAt_ge s k h5
          obtain ⟨n, hn⟩ : ∃ n, n = nAt s k := ⟨_, rfl⟩
          rw [← hn] at HK hmax ⊢
          clear hn
          go_wp2_with (go_at_call 88; refine (isDigit_any _ _).mono ?_; rw [hd]; rintro e w' ⟨rfl, rfl⟩)
          go_round
          case rel => exact ⟨k + 1, by omega, by go_num, by rw [HK.out], hb2⟩
          case measure => simp [intOf]; omega
    · obtain ⟨ek, en⟩ := lead_at s k hk hb.out (fun c hc => by have := (List.getElem?_eq_some_iff.1 hc).1; simp at this; omega)
      have EK : Hid _ := ek
      have EN : Hid _ := en
      clear ek en
      obtain ⟨n, hn⟩ : ∃ n, n = nAt s k := ⟨_, rfl⟩
      rw [← hn] at EN hmax ⊢
      clear hn
      go_wp2_with fail
      go_ret2
      refine ⟨?_, rfl⟩
      rw [EK.out, EN.out]; rfl
set_option maxHeartbeats 1000000 in
theorem address_any (s : ByteArray) (w : World) (hs : s.size ≤ maxLen) :
    Calls Try.prog 117 #[.string s] w fun e w' => e = .returned (.bool (addrL s.data.toList)) ∧ Below w.heap.size w w' := by
  have HS : Hid _ := hs
  unfold maxLen at hs
  have HP : Hid _ := parts_count s.data.toList 46
  by_cases h1 : Lib.countByte s.data.toList 46 = 3
  · have HL : Hid (addrL s.data.toList = (partsL s.data.toList 46).all octetL) := by
      have := HP.out
      show (_ && _) = _
      rw [decide_eq_true (by omega)]; rfl
    have H1 : Hid _ := h1
    clear h1
    go_enter Try.func117, Try.ntmps117
    go_wp2_with fail
    refine (count_any s _).mono ?_
    rw [H1.out]
    rintro e w0 ⟨rfl, rfl⟩
    go_wp2_with fail
    refine (parts_few s 46 _ HS.out (by have := HP.out; have := H1.out; omega)).mono ?_
    rintro e w1 ⟨v, rfl, hown, hb1⟩
    have hpl : (partsL s.data.toList 46).length ≤ 4 := by have := HP.out; have := H1.out; omega
    have HX : Hid _ := parts_size s 46
    have hr := Reads.of_own hown
    clear hown
    obtain ⟨ps, hps⟩ : ∃ ps, ps = partsL s.data.toList 46 := ⟨_, rfl⟩
    rw [← hps] at hpl HX HL hr HP
    clear hps
    obtain ⟨ad, cap, rfl, hr⟩ := hr
    go_wp2_with fail
    go_loop [11] (fun i => ∃ k : Nat, k ≤ ps.length ∧ i = .int .i64 k ∧ Hid (∀ (j : Nat) x, ps[j]? = some x → j < k → octetL x = true)) (fun i => ps.length - (intOf i).toNat)
    case atStart => exact ⟨0, Nat.zero_le _, rfl, fun _ _ _ h => absurd h (by omega)⟩
    case round =>
      obtain ⟨k, hk, rfl, hb⟩ := hrel
      by_cases hlt : k < ps.length
      · have e1 := List.getElem?_eq_getElem hlt
        obtain ⟨x, hx⟩ : ∃ x, x = ps[k] := ⟨_, rfl⟩
        rw [← hx] at e1
        rcases hr with hr | ⟨bl, ol, rfl, hr⟩
        · have : (strs ps).length = ps.length := strs_length ps
          rw [hr] at this; simp at this; omega
        have hc0 := hr k _ (strs_get e1)
        have hxs := HX.out k x e1
        have E1 : Hid _ := e1
        clear hr hx e1
        cases htk : octetL x
        · have HT : Hid (addrL s.data.toList = false) := HL.out.trans (host_no octetL _ k x E1.out htk)
          go_wp2_with fail
          refine (octet_any (txt x) _ (by unfold maxLen; omega)).mono ?_
          rw [txt_toList, htk]
          rintro e w' ⟨rfl, rfl⟩
          go_wp2_with fail
          go_ret
          refine ⟨?_, hb1⟩
          rw [HT.out]; rfl
        · go_wp2_with fail
          refine (octet_any (txt x) _ (by unfold maxLen; omega)).mono ?_
          rw [txt_toList, htk]
          rintro e w' ⟨rfl, rfl⟩
          go_wp2_with fail
          go_round
          case rel =>
            refine ⟨k + 1, by omega, by go_num, fun j y hj hlt2 => ?_⟩
            by_cases e : j = k
            · subst e
              rw [E1.out] at hj
              injection hj with hj
              rw [← hj]; exact htk
            · exact hb.out j y hj (by omega)
          case measure => simp [intOf]; omega
      · have HT : Hid (addrL s.data.toList = true) := HL.out.trans (host_yes octetL _ (fun j x hj => hb.out j x hj (by have := (List.getElem?_eq_some_iff.1 hj).1; omega)))
        clear hr
        go_wp2_with fail
        go_ret
        refine ⟨?_, hb1⟩
        rw [HT.out]; rfl
  · have HT : Hid (addrL s.data.toList = false) := by
      have := HP.out
      show (_ && _) = _
      rw [decide_eq_false (by omega)]; rfl
    have h1b : ((Lib.countByte s.data.toList 46 : Int) == 3) = false := by rw [beq_eq_false_iff_ne]; omega
    clear h1
    go_enter Try.func117, Try.ntmps117
    go_wp2_with fail
    refine (count_any s _).mono ?_
    rintro e w0 ⟨rfl, rfl⟩
    go_wp2_with fail
    go_ret
    refine ⟨?_, Below.refl _ _⟩
    rw [HT.out]; rfl
end Go.Proofs.Ytcfdajaideidkaa
