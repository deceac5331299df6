/- Contracts of the document's dates: its words, its time of day, its months, two digits. -/
import Derived.Test.YtlabffopbambjabDoorStampN
namespace Go.Proofs.YtlabffopbambjabDoor
open Go.RowKit
set_option linter.all false

set_option maxHeartbeats 1000000 in
theorem partsWords_any (c : UInt8) (w : World) : Calls Tryd.prog 42 #[.int .u8 (c.toNat : Int)] w fun e w' => e = .returned (.bool (partU c)) ∧ w' = w := by
  have HP : Hid _ := partR_iff c.toNat
  have hcl := u8_lt c
  go_enter Tryd.func42, Tryd.ntmps42
  go_wp2
  all_goals go_ret
  all_goals refine ⟨ret_b ?_, rfl⟩
  all_goals (unfold partU; rw [HP.out])
  all_goals (try simp only [decide_eq_true_eq, Bool.false_eq_true, beq_iff_eq, Bool.or_eq_true, Bool.and_eq_true])
  all_goals (first | omega | (constructor <;> intro h <;> first | omega | exact h.elim | trivial))
theorem wordsA_yes (cur l : List UInt8) (c : UInt8) (h : partU c = true) (hc : cur ≠ []) : wordsA cur (c :: l) = [cur] ++ wordsA [] l := by
  show (if partU c then (if cur = [] then _ else _) else _) = _
  rw [if_pos h, if_neg hc]; rfl
theorem wordsA_yes0 (l : List UInt8) (c : UInt8) (h : partU c = true) : wordsA [] (c :: l) = wordsA [] l := by
  show (if partU c then (if _ then _ else _) else _) = _
  rw [if_pos h, if_pos rfl]
theorem wordsA_no (cur l : List UInt8) (c : UInt8) (h : partU c = false) : wordsA cur (c :: l) = wordsA (cur ++ [c]) l := by
  show (if partU c then _ else _) = _
  rw [if_neg (by rw [h]; exact Bool.false_ne_true)]
/-- what is still to come of the words at place k, with one begun -/
def comeW (s : ByteArray) (cur : List UInt8) (k : Nat) : List (List UInt8) := if k ≤ s.size then wordsA cur (s.data.toList.drop k) else []
theorem come_end (s : ByteArray) (k : Nat) (h : ¬ k ≤ s.size) (cur : List UInt8) : comeW s cur k = [] := if_neg h
theorem come_in (s : ByteArray) (k : Nat) (h : k ≤ s.size) (cur : List UInt8) : comeW s cur k = wordsA cur (s.data.toList.drop k) := if_pos h
theorem come_part (s : ByteArray) (k : Nat) (hk : k < s.size) (cur : List UInt8) (hp : partU s[k] = true) : comeW s cur k = (if cur = [] then [] else [cur]) ++ comeW s [] (k + 1) := by
  have hl : s.data.toList.length = s.size := rfl
  rw [come_in s k (by omega) cur, come_in s (k + 1) (by omega) [], List.drop_eq_getElem_cons (l := s.data.toList) (i := k) (by omega)]
  have e : s.data.toList[k]'(by omega) = s[k] := rfl
  rw [e]
  by_cases h : cur = []
  · subst h; rw [wordsA_yes0 _ _ hp, if_pos rfl]; rfl
  · rw [wordsA_yes _ _ _ hp h, if_neg h]
theorem come_keep (s : ByteArray) (k : Nat) (hk : k < s.size) (cur : List UInt8) (hp : partU s[k] = false) : comeW s cur k = comeW s (cur ++ [s[k]]) (k + 1) := by
  have hl : s.data.toList.length = s.size := rfl
  rw [come_in s k (by omega) cur, come_in s (k + 1) (by omega) _, List.drop_eq_getElem_cons (l := s.data.toList) (i := k) (by omega)]
  exact wordsA_no _ _ _ hp
theorem come_last (s : ByteArray) (k : Nat) (hk : k = s.size) (cur : List UInt8) : comeW s cur k = (if cur = [] then [] else [cur]) ++ comeW s [] (k + 1) := by
  subst hk
  rw [come_end s (s.size + 1) (by omega) [], List.append_nil, come_in s s.size (Nat.le_refl _) cur, List.drop_eq_nil_of_le (by show s.size ≤ s.size; omega)]
  rfl
theorem come_len (s : ByteArray) (cur : List UInt8) (k : Nat) (pre : List (List UInt8)) (h : wordsL s.data.toList = pre ++ comeW s cur k) : pre.length ≤ s.size := by
  have h1 := (words_len s.data.toList).1
  rw [h, List.length_append] at h1
  have : s.data.toList.length = s.size := rfl
  omega
theorem one_ext (s : ByteArray) (k : Nat) (h : k < s.size) : s.extract k (k + 1) = txt [s[k]] := by
  rw [ext_mid, show k + 1 - k = 1 by omega, List.drop_eq_getElem_cons (l := s.data.toList) (i := k) (by show k < s.size; omega)]
  rfl
set_option maxHeartbeats 2000000 in
theorem stampWords_any (s : ByteArray) (w : World) (hs : s.size ≤ 400) : Calls Tryd.prog 30 #[.string s] w fun e w' => ∃ v, e = .returned v ∧
    w'.ownsRow w.heap.size 9 1 v (wordsL s.data.toList).length (strs (wordsL s.data.toList)) ∧ Below w.heap.size w w' := by
  obtain ⟨i0, hi, hz0, hz1, hz2⟩ := info_parts info_str
  go_enter Tryd.func30, Tryd.ntmps30
  go_wp2
  go_loopw [3, 4, 5] (fun o wv iv wr => ∃ (k : Nat) (pre : List (List UInt8)) (cur : List UInt8), k ≤ s.size + 1 ∧ iv = .int .i64 k ∧ wv = .string (txt cur) ∧ cur.length ≤ k ∧ Hid (wordsL s.data.toList = pre ++ comeW s cur k) ∧
    wr.ownsRow w.heap.size 9 1 o pre.length (strs pre) ∧ Below w.heap.size w wr) (fun _ _ iv _ => s.size + 1 - (intOf iv).toNat)
  case atStart => exact ⟨0, [], [], by omega, rfl, rfl, by simp, by rw [come_in s 0 (by omega)]; exact rfl, World.ownsRow_nil _ _ _ _, Below.refl _ _⟩
  case round =>
    obtain ⟨k, pre, cur, hk, rfl, rfl, hcl, hW, hown, hb⟩ := hrel
    have hpl := come_len s cur k pre hW.out
    have zc : (txt cur).size ≤ 401 := by rw [txt_size]; omega
    by_cases hin : k ≤ s.size
    · by_cases hkeep : ∃ h : k < s.size, partU s[k] = false
      · obtain ⟨hlt, hp⟩ := hkeep
        have HE : Hid _ := one_ext s k hlt
        have HW : Hid (wordsL s.data.toList = pre ++ comeW s (cur ++ [s[k]]) (k + 1)) := by rw [← come_keep s k hlt cur hp]; exact hW.out
        have HP : Hid _ := hp
        have b3 : (k : Int) + 1 ≤ (s.size : Int) := by omega
        have e1 : ((k : Int) + 1).toNat = k + 1 := by omega
        have z1 : (s.extract k (k + 1)).size ≤ 1 := by rw [HE.out]; exact Nat.le_refl _
        clear hp hW
        go_wp2_with (go_at_call 42; refine (partsWords_any _ _).mono ?_; rw [HP.out]; rintro e w' ⟨rfl, rfl⟩)
        go_roundw
        case rel => exact ⟨k + 1, pre, cur ++ [s[k]], by omega, by go_num, by rw [HE.out, txt_append], by simp; omega, HW, hown, hb⟩
        case measure => simp [intOf]; omega
      · have HW : Hid (wordsL s.data.toList = pre ++ ((if cur = [] then [] else [cur]) ++ comeW s [] (k + 1))) := by
          show _ = _
          rw [hW.out]
          congr 1
          by_cases hlt : k < s.size
          · exact come_part s k hlt cur (by
              cases h : partU s[k]
              · exact absurd ⟨hlt, h⟩ hkeep
              · rfl)
          · exact come_last s k (by omega) cur
        have HK : Hid (∀ h : k < s.size, partU s[k] = true) := fun h => by
          cases h' : partU s[k]
          · exact absurd ⟨h, h'⟩ hkeep
          · rfl
        clear hkeep hW
        obtain ⟨x, hx⟩ : ∃ x, txt cur = x := ⟨_, rfl⟩
        rw [hx] at zc ⊢
        have HX : Hid _ := hx
        by_cases hc : cur = []
        · rw [if_pos hc, List.nil_append] at HW
          have he : (x.toList == []) = true := by rw [← hx, hc, Lib.toList_data]; rfl
          clear hx hc
          by_cases hlt : k < s.size
          · have HP : Hid _ := HK.out hlt
            go_wp2_with (go_at_call 42; refine (partsWords_any _ _).mono ?_; rw [HP.out]; rintro e w' ⟨rfl, rfl⟩)
            go_roundw
            case rel => exact ⟨k + 1, pre, [], by omega, by go_num, rfl, by simp, HW, hown, hb⟩
            case measure => simp [intOf]; omega
          · go_wp2_with fail
            go_roundw
            case rel => exact ⟨k + 1, pre, [], by omega, by go_num, rfl, by simp, HW, hown, hb⟩
            case measure => simp [intOf]; omega
        · rw [if_neg hc, ← List.append_assoc] at HW
          have he : (x.toList == []) = false := by rw [← hx, Lib.toList_data, beq_eq_false_iff_ne]; exact hc
          clear hx hc
          by_cases hlt : k < s.size
          · have HP : Hid _ := HK.out hlt
            go_wp2_with fail
            refine (partsWords_any _ _).mono ?_
            rw [HP.out]
            rintro e w' ⟨rfl, rfl⟩
            go_wp2_with (at_builtin; refine wpList_append_own _ rfl _ _ 54 rfl w.heap.size 9 i0 (.string ⟨#[]⟩) 1 16 Tryd.underlying54 hi hz0 hz1 hz2 rfl (by decide) _ _ _ rfl (hown.alloc _) ⟨w'.heap.size, 0, none⟩ 1 1 [.string x] rfl rfl (cell_one_new _ _ _) (by simp [Value.oneCell']) (by unfold maxLen; omega) (by omega) (by have := hb.size; simp; omega) ?_)
            intro v1 w4 hown1 hg1 _
            have hb4 : Below w.heap.size w (w'.alloc (.cells #[.string x] 9)) := hb.alloc hb.size _
            have hb5 := hb4.grown hg1 hb4.size (fun q e => (hown.lt q e).1)
            have hown2 : w4.ownsRow w.heap.size 9 1 v1 (pre ++ [cur]).length (strs (pre ++ [cur])) := by
              rw [List.length_append, strs_append]
              rw [← HX.out] at hown1
              exact hown1
            clear hown hown1 hg1 hb4
            go_wp2_with fail
            go_roundw
            case rel => exact ⟨k + 1, pre ++ [cur], [], by omega, by go_num, rfl, by simp, HW, hown2, hb5⟩
            case measure => simp [intOf]; omega
          · go_wp2_with (at_builtin; refine wpList_append_own _ rfl _ _ 54 rfl w.heap.size 9 i0 (.string ⟨#[]⟩) 1 16 Tryd.underlying54 hi hz0 hz1 hz2 rfl (by decide) _ _ _ rfl (hown.alloc _) ⟨wr.heap.size, 0, none⟩ 1 1 [.string x] rfl rfl (cell_one_new _ _ _) (by simp [Value.oneCell']) (by unfold maxLen; omega) (by omega) (by have := hb.size; simp; omega) ?_)
            intro v1 w4 hown1 hg1 _
            have hb4 : Below w.heap.size w (wr.alloc (.cells #[.string x] 9)) := hb.alloc hb.size _
            have hb5 := hb4.grown hg1 hb4.size (fun q e => (hown.lt q e).1)
            have hown2 : w4.ownsRow w.heap.size 9 1 v1 (pre ++ [cur]).length (strs (pre ++ [cur])) := by
              rw [List.length_append, strs_append]
              rw [← HX.out] at hown1
              exact hown1
            clear hown hown1 hg1 hb4
            go_wp2_with fail
            go_roundw
            case rel => exact ⟨k + 1, pre ++ [cur], [], by omega, by go_num, rfl, by simp, HW, hown2, hb5⟩
            case measure => simp [intOf]; omega
    · have HE : Hid (wordsL s.data.toList = pre) := by show _ = _; rw [hW.out, come_end s k hin, List.append_nil]
      go_wp2_with fail
      go_ret
      refine ⟨_, rfl, ?_, hb⟩
      rw [HE.out]; exact hown
theorem step_ref (r : List UInt8) : stepT (58 :: r) = if 1 ≤ leadK r ∧ leadK r ≤ 2 then some (leadN r, r.drop (leadK r)) else none := by
  unfold stepT
  rw [show (58 :: r).drop 1 = r from rfl, show colonB (58 :: r) = true from rfl, Bool.true_and]
  by_cases h : 1 ≤ leadK r ∧ leadK r ≤ 2
  · obtain ⟨e1, e2, e3⟩ := num_yes r 1 2 h.1 h.2
    rw [if_pos h, e1, e2, e3]
    have : (leadL r).take 5 = leadL r := List.take_of_length_le (by have : leadK r = (leadL r).length := rfl; omega)
    unfold leadN
    rw [this]; rfl
  · rw [if_neg h, (num_no r 1 2 h).1]; rfl
theorem leadN_max (r : List UInt8) : leadN r ≤ 99999 := by
  unfold leadN
  have h1 := numL_max ((leadL r).take 5) (fun c hc => List.all_eq_true.1 (List.all_takeWhile (p := digU) (l := r)) c (List.mem_of_mem_take hc))
  have hl : ((leadL r).take 5).length ≤ 5 := by rw [List.length_take]; omega
  have := Nat.pow_le_pow_right (n := 10) (by omega) hl
  omega
theorem info_int : (Tryd.prog.info? 3).map (fun i => (i.zero, i.size, i.bytes)) = some (some (.int .i64 0), 1, 8) := by kernel_rfl
def ints (l : List Int) : List Value := l.map (fun z => .int .i64 z)
def sliceLen : Value → Nat
  | .slice _ n _ => n
  | _ => 0
/-- what the document's rounds found -/
def tR (s : List UInt8) (l : List Int) (r : List UInt8) : Prop := tInv s l.length (l.getD 0 0) (l.getD 1 0) (l.getD 2 0) (if l = [] then 58 :: r else r)
theorem tR_next {s : List UInt8} {l : List Int} {r q : List UInt8} {x : Nat} (h : tR s l r) (hl : l.length < 3) (hn : stepT (if l = [] then 58 :: r else r) = some (x, q)) : tR s (l ++ [(x : Int)]) q := by
  unfold tR at h ⊢
  rw [if_neg (show ¬ l ++ [(x : Int)] = [] by simp)]
  match l, hl with
  | [], _ => exact tInv_next0 h hn
  | [a], _ => exact tInv_next1 h hn
  | [a, b], _ => exact tInv_next2 h hn
theorem tR_bad {s : List UInt8} {l : List Int} {r : List UInt8} (h : tR s l r) (hl : l.length < 3) (hn : stepT (if l = [] then 58 :: r else r) = none) : timeL s = none := tInv_bad h hl hn
theorem tR_full {s : List UInt8} {l : List Int} {r : List UInt8} (h : tR s l r) (hl : l.length = 3) : ∃ a b c, l = [a, b, c] ∧ timeL s = some (a, b, c) := by
  match l, hl with
  | [a, b, c], _ =>
    refine ⟨a, b, c, rfl, ?_⟩
    rcases h with ⟨h, _⟩ | ⟨h, _⟩ | ⟨h, _⟩ | ⟨_, h⟩
    · cases h
    · cases h
    · cases h
    · exact h
theorem colon_head (r : ByteArray) (h : 0 < r.size) (h58 : (r[0].toNat : Int) = 58) : r.data.toList = 58 :: r.data.toList.drop 1 := by
  have hd := List.drop_eq_getElem_cons (l := r.data.toList) (i := 0) (by show 0 < r.size; omega)
  rw [List.drop_zero] at hd
  have e : r.data.toList[0]'(by show 0 < r.size; omega) = 58 := UInt8.toNat_inj.1 (by have e2 : (58 : UInt8).toNat = 58 := rfl; have e3 : (r.data.toList[0]'(by show 0 < r.size; omega)).toNat = r[0].toNat := rfl; omega)
  rw [e] at hd
  exact hd
theorem no_colon (r : ByteArray) (h : ¬ ∃ h : 0 < r.size, (r[0].toNat : Int) = 58) : stepT r.data.toList = none := by
  unfold stepT
  have : colonB r.data.toList = false := by
    unfold colonB
    by_cases h0 : 0 < r.size
    · rw [head_get r h0]
      rw [Option.some_beq_some, beq_eq_false_iff_ne]
      intro e
      exact h ⟨h0, by rw [e]; rfl⟩
    · rw [show r.data.toList = [] from List.length_eq_zero_iff.1 (by show r.size = 0; omega)]; rfl
  rw [this]; rfl
set_option maxHeartbeats 2000000 in
theorem dayTime_any (s : ByteArray) (w : World) (hs : s.size ≤ 400) : Calls Tryd.prog 32 #[.string s] w fun e w' => ∃ v, e = .returned (.tuple #[v, .bool (timeL s.data.toList).isSome]) ∧
    (∀ a b c, timeL s.data.toList = some (a, b, c) → w'.ownsRow w.heap.size 3 1 v 3 (ints [a, b, c])) ∧ Below w.heap.size w w' := by
  obtain ⟨i0, hi, hz0, hz1, hz2⟩ := info_parts info_int
  go_enter Tryd.func32, Tryd.ntmps32
  go_wp2
  go_loopw [0, 4] (fun wv o wr => ∃ (l : List Int) (r : ByteArray), wv = .string r ∧ l.length ≤ 3 ∧ r.size ≤ s.size ∧ Hid (tR s.data.toList l r.data.toList) ∧ wr.ownsRow w.heap.size 3 1 o l.length (ints l) ∧ Below w.heap.size w wr ∧ (∃ ad cap, o = .slice ad l.length cap)) (fun _ o _ => 3 - sliceLen o)
  case atStart => exact ⟨[], s, rfl, by simp, Nat.le_refl _, .inl ⟨rfl, rfl, rfl, rfl, rfl⟩, World.ownsRow_nil _ _ _ _, Below.refl _ _, none, 0, rfl⟩
  case round =>
    obtain ⟨l, r, rfl, hl, hr, hT, hown, hb, ad, cap, rfl⟩ := hrel
    have hl3 : l.length = 3 ∨ l.length < 3 := by omega
    rcases hl3 with h3 | h3
    · obtain ⟨a, b, c, rfl, ht⟩ := tR_full hT.out h3
      have HT : Hid _ := ht
      clear ht
      go_wp2_with fail
      go_ret2
      refine ⟨_, by rw [HT.out]; rfl, fun a' b' c' h => ?_, hb⟩
      rw [HT.out] at h
      cases h
      exact hown
    · by_cases h0 : l = []
      · have hl0 : ¬ 0 < l.length := by rw [h0]; simp
        have HST : Hid (stepT (if l = [] then 58 :: r.data.toList else r.data.toList) = if 1 ≤ leadK r.data.toList ∧ leadK r.data.toList ≤ 2 then some (leadN r.data.toList, r.data.toList.drop (leadK r.data.toList)) else none) := by
          show _ = _
          rw [if_pos h0]
          exact step_ref r.data.toList
        clear h0
        obtain ⟨q, hq⟩ : ∃ q, q = r := ⟨_, rfl⟩
        rw [← hq] at HST hT hr ⊢
        clear hq
        obtain ⟨kk, hkk⟩ : ∃ kk, leadK q.data.toList = kk := ⟨_, rfl⟩
        obtain ⟨nn, hnn⟩ : ∃ nn, leadN q.data.toList = nn := ⟨_, rfl⟩
        have hnm := leadN_max q.data.toList
        have hkm : leadK q.data.toList ≤ q.size := by
          unfold leadK leadL
          exact (List.takeWhile_sublist digU (l := q.data.toList)).length_le
        rw [hkk] at hkm HST
        rw [hnn] at hnm HST
        have KK : Hid _ := hkk
        have NN : Hid _ := hnn
        clear hkk hnn
        by_cases c1 : kk < 1
        · have HT : Hid (timeL s.data.toList = none) := tR_bad hT.out (by omega) (by rw [HST.out, if_neg (by omega)])
          go_wp2_with fail
          refine (leadDigits_any q _ (by unfold maxLen; omega)).mono ?_
          rw [KK.out, NN.out]
          rintro e wr' ⟨rfl, rfl⟩
          go_wp2_with fail
          go_ret2
          refine ⟨_, by rw [HT.out]; rfl, ?_, hb⟩
          intro a b c h
          rw [HT.out] at h
          cases h
        by_cases c2 : 2 < kk
        · have HT : Hid (timeL s.data.toList = none) := tR_bad hT.out (by omega) (by rw [HST.out, if_neg (by omega)])
          go_wp2_with fail
          refine (leadDigits_any q _ (by unfold maxLen; omega)).mono ?_
          rw [KK.out, NN.out]
          rintro e wr' ⟨rfl, rfl⟩
          go_wp2_with fail
          go_ret2
          refine ⟨_, by rw [HT.out]; rfl, ?_, hb⟩
          intro a b c h
          rw [HT.out] at h
          cases h
        have HN : Hid (tR s.data.toList (l ++ [(nn : Int)]) (q.extract kk q.size).data.toList) := by
          rw [Lib.extract_to_end]
          exact tR_next hT.out (by omega) (by rw [HST.out, if_pos (by omega)])
        have hkq : (kk : Int) ≤ (q.size : Int) := by omega
        have zq2 : (q.extract kk q.size).size ≤ s.size := by simp; omega
        go_wp2_with fail
        refine (leadDigits_any q _ (by unfold maxLen; omega)).mono ?_
        rw [KK.out, NN.out]
        rintro e wr' ⟨rfl, rfl⟩
        go_wp2_with (at_builtin; refine wpList_append_own _ rfl _ _ 64 rfl w.heap.size 3 i0 (.int .i64 0) 1 8 Tryd.underlying64 hi hz0 hz1 hz2 rfl (by decide) _ _ _ rfl (hown.alloc _) ⟨wr'.heap.size, 0, none⟩ 1 1 [.int .i64 (nn : Int)] rfl rfl (cell_one_new _ _ _) (by simp [Value.oneCell']) (by unfold maxLen; omega) (by omega) (by have := hb.size; simp; omega) ?_)
        intro v1 w4 hown1 hg1 _
        have hb4 : Below w.heap.size w (wr'.alloc (.cells #[.int .i64 (nn : Int)] 3)) := hb.alloc hb.size _
        have hb5 := hb4.grown hg1 hb4.size (fun q e => (hown.lt q e).1)
        have hown2 : w4.ownsRow w.heap.size 3 1 v1 (l ++ [(nn : Int)]).length (ints (l ++ [(nn : Int)])) := by
          rw [List.length_append]; unfold ints; rw [List.map_append]; exact hown1
        have hv1 : ∃ ad cap, v1 = .slice ad (l ++ [(nn : Int)]).length cap := by
          obtain ⟨ad, cap, e, _⟩ := Reads.of_own hown2
          exact ⟨ad, cap, e⟩
        obtain ⟨ad1, cap1, rfl⟩ := hv1
        clear hown hown1 hg1 hb4
        go_wp2_with fail
        go_roundw
        case rel => exact ⟨l ++ [(nn : Int)], _, rfl, by simp; omega, zq2, HN, hown2, hb5, _, _, rfl⟩
        case measure => simp [sliceLen]; omega
      · have hl0 : 0 < l.length := List.length_pos_iff.2 h0
        by_cases hc : ∃ h : 0 < r.size, (r[0].toNat : Int) = 58
        · obtain ⟨hr0, h58⟩ := hc
          have h58b : ((r[0].toNat : Int) != 58) = false := by rw [h58]; rfl
          have hrz : ((r.size : Int) == 0) = false := by rw [beq_eq_false_iff_ne]; omega
          have HST : Hid (stepT (if l = [] then 58 :: r.data.toList else r.data.toList) = if 1 ≤ leadK (r.extract 1 r.size).data.toList ∧ leadK (r.extract 1 r.size).data.toList ≤ 2 then some (leadN (r.extract 1 r.size).data.toList, (r.extract 1 r.size).data.toList.drop (leadK (r.extract 1 r.size).data.toList)) else none) := by
            show _ = _
            rw [if_neg h0, Lib.extract_to_end]
            conv => lhs; rw [colon_head r hr0 h58]
            exact step_ref _
          have zq : (r.extract 1 r.size).size ≤ s.size := by simp; omega
          have r1 : (1 : Int) ≤ (r.size : Int) := by omega
          clear h58
          obtain ⟨q, hq⟩ : ∃ q, q = r.extract 1 r.size := ⟨_, rfl⟩
          rw [← hq] at HST zq
          have HQ : Hid _ := hq
          clear hq
          obtain ⟨kk, hkk⟩ : ∃ kk, leadK q.data.toList = kk := ⟨_, rfl⟩
          obtain ⟨nn, hnn⟩ : ∃ nn, leadN q.data.toList = nn := ⟨_, rfl⟩
          have hnm := leadN_max q.data.toList
          have hkm : leadK q.data.toList ≤ q.size := by
            unfold leadK leadL
            exact (List.takeWhile_sublist digU (l := q.data.toList)).length_le
          rw [hkk] at hkm HST
          rw [hnn] at hnm HST
          have KK : Hid _ := hkk
          have NN : Hid _ := hnn
          clear hkk hnn
          by_cases c1 : kk < 1
          · have HT : Hid (timeL s.data.toList = none) := tR_bad hT.out (by omega) (by rw [HST.out, if_neg (by omega)])
            go_wp2_with fail
            rw [← HQ.out]
            refine (leadDigits_any q _ (by unfold maxLen; omega)).mono ?_
            rw [KK.out, NN.out]
            rintro e wr' ⟨rfl, rfl⟩
            go_wp2_with fail
            go_ret2
            refine ⟨_, by rw [HT.out]; rfl, ?_, hb⟩
            intro a b c h
            rw [HT.out] at h
            cases h
          by_cases c2 : 2 < kk
          · have HT : Hid (timeL s.data.toList = none) := tR_bad hT.out (by omega) (by rw [HST.out, if_neg (by omega)])
            go_wp2_with fail
            rw [← HQ.out]
            refine (leadDigits_any q _ (by unfold maxLen; omega)).mono ?_
            rw [KK.out, NN.out]
            rintro e wr' ⟨rfl, rfl⟩
            go_wp2_with fail
            go_ret2
            refine ⟨_, by rw [HT.out]; rfl, ?_, hb⟩
            intro a b c h
            rw [HT.out] at h
            cases h
          have HN : Hid (tR s.data.toList (l ++ [(nn : Int)]) (q.extract kk q.size).data.toList) := by
            rw [Lib.extract_to_end]
            exact tR_next hT.out (by omega) (by rw [HST.out, if_pos (by omega)])
          have hkq : (kk : Int) ≤ (q.size : Int) := by omega
          have zq2 : (q.extract kk q.size).size ≤ s.size := by simp; omega
          go_wp2_with fail
          rw [← HQ.out]
          refine (leadDigits_any q _ (by unfold maxLen; omega)).mono ?_
          rw [KK.out, NN.out]
          rintro e wr' ⟨rfl, rfl⟩
          go_wp2_with (at_builtin; refine wpList_append_own _ rfl _ _ 64 rfl w.heap.size 3 i0 (.int .i64 0) 1 8 Tryd.underlying64 hi hz0 hz1 hz2 rfl (by decide) _ _ _ rfl (hown.alloc _) ⟨wr'.heap.size, 0, none⟩ 1 1 [.int .i64 (nn : Int)] rfl rfl (cell_one_new _ _ _) (by simp [Value.oneCell']) (by unfold maxLen; omega) (by omega) (by have := hb.size; simp; omega) ?_)
          intro v1 w4 hown1 hg1 _
          have hb4 : Below w.heap.size w (wr'.alloc (.cells #[.int .i64 (nn : Int)] 3)) := hb.alloc hb.size _
          have hb5 := hb4.grown hg1 hb4.size (fun q e => (hown.lt q e).1)
          have hown2 : w4.ownsRow w.heap.size 3 1 v1 (l ++ [(nn : Int)]).length (ints (l ++ [(nn : Int)])) := by
            rw [List.length_append]; unfold ints; rw [List.map_append]; exact hown1
          have hv1 : ∃ ad cap, v1 = .slice ad (l ++ [(nn : Int)]).length cap := by
            obtain ⟨ad, cap, e, _⟩ := Reads.of_own hown2
            exact ⟨ad, cap, e⟩
          obtain ⟨ad1, cap1, rfl⟩ := hv1
          clear hown hown1 hg1 hb4
          go_wp2_with fail
          go_roundw
          case rel => exact ⟨l ++ [(nn : Int)], _, rfl, by simp; omega, zq2, HN, hown2, hb5, _, _, rfl⟩
          case measure => simp [sliceLen]; omega
        · have HT : Hid (timeL s.data.toList = none) := tR_bad hT.out h3 (by rw [if_neg h0]; exact no_colon r hc)
          by_cases hr0 : 0 < r.size
          · have h58b : ((r[0].toNat : Int) != 58) = true := by rw [bne_iff_ne]; exact fun e => hc ⟨hr0, e⟩
            have hrz : ((r.size : Int) == 0) = false := by rw [beq_eq_false_iff_ne]; omega
            clear hc
            go_wp2_with fail
            go_ret2
            refine ⟨_, by rw [HT.out]; rfl, ?_, hb⟩
            intro a b c h
            rw [HT.out] at h
            cases h
          · have hrz : ((r.size : Int) == 0) = true := by rw [beq_iff_eq]; omega
            clear hc
            go_wp2_with fail
            go_ret2
            refine ⟨_, by rw [HT.out]; rfl, ?_, hb⟩
            intro a b c h
            rw [HT.out] at h
            cases h
set_option maxHeartbeats 1000000 in
theorem rmonthOf_any (s : ByteArray) (w : World) (hs : s.size ≤ 400) : Calls Tryd.prog 33 #[.string s] w fun e w' => e = .returned (.int .i64 (monthL s.data.toList : Nat)) ∧ Below w.heap.size w w' := by
  have HX : Hid ((s.extract 0 3).data.toList = s.data.toList.take 3) := by show _ = _; rw [Lib.extract_data]; rfl
  have HS3 : Hid ((s.extract 0 3).size ≤ maxLen) := by unfold maxLen; show _ ≤ _; simp; omega
  have HM : Hid (monthL s.data.toList = if 3 ≤ s.size then idxFrom monNames (foldL (s.data.toList.take 3)) 0 else 0) := rfl
  go_enter Tryd.func33, Tryd.ntmps33
  go_wp2
  obtain ⟨W0, hW0⟩ : ∃ W0, W0 = w.alloc (.cells #[.string ⟨#[106, 97, 110]⟩, .string ⟨#[102, 101, 98]⟩, .string ⟨#[109, 97, 114]⟩, .string ⟨#[97, 112, 114]⟩, .string ⟨#[109, 97, 121]⟩, .string ⟨#[106, 117, 110]⟩, .string ⟨#[106, 117, 108]⟩, .string ⟨#[97, 117, 103]⟩, .string ⟨#[115, 101, 112]⟩, .string ⟨#[111, 99, 116]⟩, .string ⟨#[110, 111, 118]⟩, .string ⟨#[100, 101, 99]⟩] 9) := ⟨_, rfl⟩
  have b0 : Below w.heap.size w W0 := by rw [hW0]; exact (Below.refl _ _).alloc (Nat.le_refl _) _
  have CN : Hid (∀ (k : Nat) x, monNames[k]? = some x → W0.cell? ⟨w.heap.size, k, none⟩ = some (.string (txt x))) := fun k x hx => by
    have hk : k < 12 := (List.getElem?_eq_some_iff.1 hx).1
    have hk12 : k = 0 ∨ k = 1 ∨ k = 2 ∨ k = 3 ∨ k = 4 ∨ k = 5 ∨ k = 6 ∨ k = 7 ∨ k = 8 ∨ k = 9 ∨ k = 10 ∨ k = 11 := by omega
    rw [hW0]
    rcases hk12 with rfl | rfl | rfl | rfl | rfl | rfl | rfl | rfl | rfl | rfl | rfl | rfl <;> (cases hx; simp; rfl)
  rw [← hW0]
  clear hW0
  obtain ⟨f3, hf3⟩ : ∃ x, foldL (s.data.toList.take 3) = x := ⟨_, rfl⟩
  have F3 : Hid (∀ W : World, Calls Tryd.prog 19 #[.string (s.extract 0 3)] W fun e w' => e = .returned (.string (txt f3)) ∧ Below W.heap.size W w') := fun W => by
    have h := foldOf_any (s.extract 0 3) W HS3.out
    rw [HX.out, hf3] at h; exact h
  rw [hf3] at HM
  clear hf3
  go_loopw [4] (fun iv wr => ∃ k : Nat, k ≤ 12 ∧ iv = .int .i64 k ∧ Hid (3 ≤ s.size → ∀ (j : Nat) x, monNames[j]? = some x → j < k → x ≠ f3) ∧ Below W0.heap.size W0 wr) (fun iv _ => 12 - (intOf iv).toNat)
  case atStart => exact ⟨0, by omega, rfl, fun _ _ _ _ h => absurd h (by omega), Below.refl _ _⟩
  case round =>
    obtain ⟨k, hk, rfl, hno, hb⟩ := hrel
    by_cases hlt : k < 12
    · obtain ⟨x, y, ex, ey, exy, exl⟩ := mon_at k hlt
      have hc := (hb.cell (p := ⟨w.heap.size, k, none⟩) (cell_in (CN.out k y ey))).trans (CN.out k y ey)
      have HY : Hid _ := ey
      have ne : Nonempty (Ext wr) := ⟨Ext.of wr (Below.refl _ _)⟩
      have xc := Ext.cell hc
      clear ex ey exy exl hc
      by_cases h3 : 3 ≤ s.size
      · have h3i : (3 : Int) ≤ (s.size : Int) := by omega
        by_cases hq : y = f3
        · have hqe : ((txt f3).toList == (txt y).toList) = true := by rw [hq]; simp
          have HT : Hid (monthL s.data.toList = k + 1) := by
            show _ = _
            rw [HM.out, if_pos h3, idx_some monNames f3 0 k (hq ▸ HY.out) (fun i x hi hlt => hno.out h3 i x hi hlt)]; omega
          clear hq
          go_wp2_with fail
          refine wp_region_ext (by kernel_rfl) (by kernel_rfl) ?_
          repeat (go_big_quiet_step ((go_at_call 19; exact ext_call (F3.out _))))
          refine wpQuiet_nil ?_
          intro w1 hw1
          obtain ⟨x, rfl⟩ := hw1
          go_wp2_with fail
          go_ret
          refine ⟨?_, next b0 (next hb x.2)⟩
          rw [HT.out]; rfl
        · have hqe : ((txt f3).toList == (txt y).toList) = false := by
            rw [beq_eq_false_iff_ne, Lib.toList_data, Lib.toList_data]; exact fun e => hq e.symm
          have HQ : Hid _ := hq
          clear hq
          go_wp2_with fail
          refine wp_region_ext (by kernel_rfl) (by kernel_rfl) ?_
          repeat (go_big_quiet_step ((go_at_call 19; exact ext_call (F3.out _))))
          refine wpQuiet_nil ?_
          intro w1 hw1
          obtain ⟨x, rfl⟩ := hw1
          go_wp2_with fail
          go_roundw
          case rel =>
            refine ⟨k + 1, by omega, by go_num, fun _ j z hj hlt2 => ?_, next hb x.2⟩
            by_cases e : j = k
            · subst e
              rw [HY.out] at hj
              injection hj with hj
              rw [← hj]; exact HQ.out
            · exact hno.out h3 j z hj (by omega)
          case measure => simp [intOf]; omega
      · have h3i : (s.size : Int) < 3 := by omega
        have h3d : decide ((3 : Int) ≤ (s.size : Int)) = false := decide_eq_false (by omega)
        go_wp2_with fail
        refine wp_region_ext (by kernel_rfl) (by kernel_rfl) ?_
        repeat (go_big_quiet_step ((go_at_call 19; exact ext_call (F3.out _))))
        refine wpQuiet_nil ?_
        intro w1 hw1
        obtain ⟨x, rfl⟩ := hw1
        go_wp2_with fail
        go_roundw
        case rel => exact ⟨k + 1, by omega, by go_num, fun h => absurd h h3, next hb x.2⟩
        case measure => simp [intOf]; omega
    · have HT : Hid (monthL s.data.toList = 0) := by
        show _ = _
        rw [HM.out]
        by_cases h3 : 3 ≤ s.size
        · rw [if_pos h3]
          exact idx_none _ _ _ (fun j x hj => hno.out h3 j x hj (by have := (List.getElem?_eq_some_iff.1 hj).1; have h12 : monNames.length = 12 := rfl; omega))
        · rw [if_neg h3]
      go_wp2_with fail
      go_ret
      refine ⟨?_, next b0 hb⟩
      rw [HT.out]; rfl
set_option maxHeartbeats 1000000 in
theorem twoDigits_any (n : Nat) (hn : n < 100) (w : World) : Calls Tryd.prog 37 #[.int .i64 (n : Int)] w fun e w' => e = .returned (.string (txt (padL 2 n))) ∧ Below w.heap.size w w' := by
  have l1 : (n : Int) / 10 % 10 < 10 := by omega
  have l2 : 0 ≤ (n : Int) / 10 % 10 := by omega
  have l3 : (n : Int) % 10 < 10 := by omega
  have l4 : 0 ≤ (n : Int) % 10 := by omega
  obtain ⟨c1, h1⟩ : ∃ c, c = UInt8.ofNat (48 + n / 10 % 10) := ⟨_, rfl⟩
  obtain ⟨c2, h2⟩ : ∃ c, c = UInt8.ofNat (48 + n % 10) := ⟨_, rfl⟩
  have E1 : Hid ((48 : Int) + (n : Int) / 10 % 10 = (c1.toNat : Int)) := by
    show _ = _
    rw [h1, UInt8.toNat_ofNat', Nat.mod_eq_of_lt (by omega)]; omega
  have E2 : Hid ((48 : Int) + (n : Int) % 10 = (c2.toNat : Int)) := by
    show _ = _
    rw [h2, UInt8.toNat_ofNat', Nat.mod_eq_of_lt (by omega)]; omega
  have EP : Hid (padL 2 n = [c1, c2]) := by rw [h1, h2]; exact rfl
  have za : (txt [c1]).size ≤ 1 := Nat.le_refl _
  have zb : (txt [c2]).size ≤ 1 := Nat.le_refl _
  clear h1 h2
  go_enter Tryd.func37, Tryd.ntmps37
  go_wp2_with fail
  refine (oneByte_any c1 _ E1.out _).mono ?_
  rintro e w1 ⟨rfl, hb1⟩
  go_wp2_with fail
  refine (oneByte_any c2 _ E2.out _).mono ?_
  rintro e w2 ⟨rfl, hb2⟩
  go_wp2_with fail
  go_ret
  refine ⟨?_, next hb1 hb2⟩
  rw [EP.out]; rfl
end Go.Proofs.YtlabffopbambjabDoor
