/- Contracts: path.Match; the reference's default and match; what must be in any case. -/
import Derived.Test.YtmbkgcloliahhadPathA
namespace Go.Proofs.Ytmbkgcloliahhad
open Go.RowKit
set_option linter.all false

set_option maxHeartbeats 1000000 in
theorem psufl_any (s p : ByteArray) (w : World) (hs : s.size ≤ maxLen) :
    Calls Try.prog 37 #[.string s, .string p] w fun e w' => e = .returned (.bool (Lib.hasSuffix s.data.toList p.data.toList)) ∧ w' = w := by
  unfold maxLen at hs
  have HR : Hid _ := Lib.hasSuffix_raw s p
  by_cases h : p.size ≤ s.size
  · have e1 : ((s.size : Int) - (p.size : Int)).toNat = s.size - p.size := by omega
    go_enter Try.func37, Try.ntmps37
    go_wp2
    go_ret
    refine ⟨?_, rfl⟩
    rw [← HR.out]
    simp [h]
  · go_enter Try.func37, Try.ntmps37
    go_wp2
    go_ret
    refine ⟨?_, rfl⟩
    rw [← HR.out]
    simp [h]
set_option maxHeartbeats 1000000 in
theorem psuf_any (s p : ByteArray) (w : World) (hs : s.size ≤ maxLen) :
    Calls Try.prog 25 #[.string s, .string p] w fun e w' => e = .returned (.bool (Lib.hasSuffix s.data.toList p.data.toList)) ∧ w' = w := by
  go_enter Try.func25, Try.ntmps25
  go_wp2_with fail
  refine (psufl_any _ _ _ hs).mono ?_
  rintro e w' ⟨rfl, rfl⟩
  go_wp2_with fail
  go_ret
  exact ⟨rfl, rfl⟩
theorem suf_47 (o : List UInt8) : Lib.hasSuffix o [47] = (o.getLast? == some 47) := by
  unfold Lib.hasSuffix
  rcases List.eq_nil_or_concat o with rfl | ⟨q, c, rfl⟩
  · rfl
  · rw [List.concat_eq_append, List.getLast?_concat]
    have : [47].isSuffixOf (q ++ [c]) = (c == 47) := by
      rw [Bool.eq_iff_iff, List.isSuffixOf_iff_suffix, beq_iff_eq]
      constructor
      · rintro ⟨x, hx⟩
        have := List.append_inj_right' hx rfl
        simpa using this.symm
      · rintro rfl
        exact ⟨q, rfl⟩
    rw [this]; rfl
theorem pre_47 (r : List UInt8) : Lib.hasPrefix r [47] = (r.head? == some 47) := by
  unfold Lib.hasPrefix
  cases r with
  | nil => rfl
  | cons c r => 
    simp only [List.isPrefixOf_cons₂, List.isPrefixOf_nil_left, Bool.and_true, List.head?_cons]
    rw [Bool.eq_iff_iff, beq_iff_eq, beq_iff_eq]
    constructor
    · rintro rfl; rfl
    · intro h; injection h with h; exact h.symm
theorem pm_no (p o : List UInt8) (h : Lib.hasPrefix p o = false) : pmatchL p o = false := by
  unfold pmatchL
  rw [h]
  simp only [Bool.false_and, Bool.or_false]
  rw [beq_eq_false_iff_ne]
  rintro rfl
  rw [show Lib.hasPrefix p p = true by unfold Lib.hasPrefix; rw [List.isPrefixOf_iff_prefix]; exact ⟨[], by simp⟩] at h
  cases h
theorem pm_yes (p o : List UInt8) (h : Lib.hasPrefix p o = true) : pmatchL p o = (decide (cutP p o = []) || (Lib.hasSuffix o [47] || Lib.hasPrefix (cutP p o) [47])) := by
  unfold pmatchL
  rw [suf_47, pre_47, h, Bool.true_and]
  unfold cutP
  rw [h, if_pos rfl, ← List.head?_drop]
  congr 1
  unfold Lib.hasPrefix at h
  rw [List.isPrefixOf_iff_prefix] at h
  obtain ⟨r, rfl⟩ := h
  rw [Bool.eq_iff_iff, beq_iff_eq, decide_eq_true_eq]
  simp
set_option maxHeartbeats 1000000 in
theorem pmatch_any (p o : ByteArray) (w : World) (hp : p.size ≤ maxLen) (ho : o.size ≤ maxLen) :
    Calls Try.prog 15 #[.string p, .string o] w fun e w' => e = .returned (.bool (pmatchL p.data.toList o.data.toList)) ∧ w' = w := by
  have HP : Hid _ := hp
  have HO : Hid _ := ho
  clear hp ho
  cases h : Lib.hasPrefix p.data.toList o.data.toList
  · have HM : Hid (pmatchL p.data.toList o.data.toList = false) := pm_no _ _ h
    have H1 : Hid _ := h
    clear h
    go_enter Try.func15, Try.ntmps15
    go_wp2_with fail
    refine (cutP_any _ _ _ HP.out).mono ?_
    rw [H1.out]
    rintro e w' ⟨rfl, rfl⟩
    go_wp2_with fail
    go_ret
    refine ⟨?_, rfl⟩
    rw [HM.out]; rfl
  · have HM : Hid _ := pm_yes _ _ h
    have H1 : Hid _ := h
    have HL : Hid ((txt (cutP p.data.toList o.data.toList)).size ≤ maxLen) := by
      unfold cutP
      rw [h, if_pos rfl, txt_size, List.length_drop]
      have := HP.out
      show _ ≤ _
      have e : p.data.toList.length = p.size := rfl
      omega
    clear h
    obtain ⟨r, hr⟩ : ∃ r, r = txt (cutP p.data.toList o.data.toList) := ⟨_, rfl⟩
    have HR : Hid _ := hr
    have hrl : r.data.toList = cutP p.data.toList o.data.toList := by rw [hr]; rfl
    have HRL : Hid _ := hrl
    clear hr
    by_cases h2 : cutP p.data.toList o.data.toList = []
    · have h2b : (r.toList == []) = true := by rw [Lib.toList_data, hrl, h2]; rfl
      have HT : Hid (pmatchL p.data.toList o.data.toList = true) := by show _ = _; rw [HM.out, h2]; rfl
      clear h2 hrl
      go_enter Try.func15, Try.ntmps15
      go_wp2_with fail
      refine (cutP_any _ _ _ HP.out).mono ?_
      rw [H1.out, ← HR.out]
      rintro e w' ⟨rfl, rfl⟩
      go_wp2_with fail
      go_ret
      refine ⟨?_, rfl⟩
      rw [HT.out]; rfl
    · have h2b : (r.toList == []) = false := by rw [Lib.toList_data, hrl, beq_eq_false_iff_ne]; exact h2
      have HT : Hid (pmatchL p.data.toList o.data.toList = (Lib.hasSuffix o.data.toList [47] || Lib.hasPrefix (cutP p.data.toList o.data.toList) [47])) := by show _ = _; rw [HM.out, decide_eq_false h2, Bool.false_or]
      clear h2 hrl
      cases h3 : Lib.hasSuffix o.data.toList [47]
      · have H3 : Hid _ := h3
        clear h3
        go_enter Try.func15, Try.ntmps15
        go_wp2_with fail
        refine (cutP_any _ _ _ HP.out).mono ?_
        rw [H1.out, ← HR.out]
        rintro e w' ⟨rfl, rfl⟩
        go_wp2_with fail
        refine (psuf_any _ _ _ HO.out).mono ?_
        rw [show (⟨#[47]⟩ : ByteArray).data.toList = [47] from rfl, H3.out]
        rintro e w' ⟨rfl, rfl⟩
        go_wp2_with fail
        refine (pre_any _ _ _ (by rw [HR.out]; exact HL.out)).mono ?_
        rw [show (⟨#[47]⟩ : ByteArray).data.toList = [47] from rfl, HRL.out]
        rintro e w' ⟨rfl, rfl⟩
        go_wp2_with fail
        go_ret
        refine ⟨?_, rfl⟩
        rw [HT.out, H3.out]; rfl
      · have H3 : Hid _ := h3
        clear h3
        go_enter Try.func15, Try.ntmps15
        go_wp2_with fail
        refine (cutP_any _ _ _ HP.out).mono ?_
        rw [H1.out, ← HR.out]
        rintro e w' ⟨rfl, rfl⟩
        go_wp2_with fail
        refine (psuf_any _ _ _ HO.out).mono ?_
        rw [show (⟨#[47]⟩ : ByteArray).data.toList = [47] from rfl, H3.out]
        rintro e w' ⟨rfl, rfl⟩
        go_wp2_with fail
        go_ret
        refine ⟨?_, rfl⟩
        rw [HT.out, H3.out]; rfl
theorem nil_of (s : ByteArray) (h : s.size ≤ 0) : s = ByteArray.empty := by
  apply ByteArray.ext
  have : s.data.size = 0 := by show s.size = 0; omega
  exact Array.size_eq_zero_iff.1 this
theorem take_count (s : ByteArray) (k : Nat) (hk : k < s.size) : (s.data.toList.take (k + 1)).count 47 = (s.data.toList.take k).count 47 + (if s[k] = 47 then 1 else 0) := by
  rw [List.take_succ, List.count_append, get_of s k hk]
  congr 1
  simp only [Option.toList_some, List.count_singleton, beq_iff_eq]
theorem take_full (s : ByteArray) (k : Nat) (h : s.size ≤ k) : s.data.toList.take k = s.data.toList := List.take_of_length_le (by simpa using h)
theorem count_le_size (s : ByteArray) (k : Nat) : (s.data.toList.take k).count 47 ≤ k := by
  refine Nat.le_trans List.count_le_length ?_
  rw [List.length_take]
  omega
/-- the last place so far, if there is one -/
def SoFar (l : List UInt8) (k b : Nat) : Prop := (b = 0 ∧ ∀ (j : Nat) c, l[j]? = some c → j < k → c ≠ 47) ∨ (b < k ∧ l[b]? = some 47 ∧ ∀ (j : Nat) c, l[j]? = some c → b < j → j < k → c ≠ 47)
set_option maxHeartbeats 2000000 in
theorem defaultOf_any (s : ByteArray) (w : World) (hs : s.size ≤ maxLen) :
    Calls Try.prog 14 #[.string s] w fun e w' => e = .returned (.string (txt (defaultL s.data.toList))) ∧ w' = w := by
  unfold maxLen at hs
  go_enter Try.func14, Try.ntmps14
  go_wp2_with fail
  go_loop [3, 4, 5] (fun m b i => ∃ k : Nat, ∃ bn : Nat, k ≤ s.size ∧ i = .int .i64 k ∧ b = .int .i64 bn ∧ bn ≤ s.size ∧ m = .int .i64 ((s.data.toList.take k).count 47 : Nat) ∧ (s.data.toList.take k).count 47 ≤ k ∧ Hid (SoFar s.data.toList k bn)) (fun _ _ i => s.size - (intOf i).toNat)
  case atStart => exact ⟨0, 0, Nat.zero_le _, rfl, rfl, Nat.zero_le _, rfl, count_le_size s 0, .inl ⟨rfl, fun _ _ _ h => absurd h (by omega)⟩⟩
  case round =>
    obtain ⟨k, bn, hk, rfl, rfl, hbn, rfl, hmn, hb⟩ := hrel
    by_cases hlt : k < s.size
    · have HG : Hid (s.data.toList[k]? = some s[k]) := get_of s k hlt
      have HC : Hid _ := take_count s k hlt
      have HL : Hid _ := count_le_size s (k + 1)
      by_cases hc : (s[k].toNat : Int) = 47
      · have H4 : Hid (s[k] = 47) := (eq47 _).2 hc
        have hcb : ((s[k].toNat : Int) == 47) = true := by rw [hc]; rfl
        clear hc
        go_wp2_with fail
        go_round
        case rel =>
          have e := HC.out
          rw [if_pos H4.out] at e
          refine ⟨k + 1, k, by omega, by go_num, rfl, by omega, ?_, HL.out, .inr ⟨by omega, by rw [HG.out, H4.out], fun j c hj h1 h2 => absurd h1 (by omega)⟩⟩
          rw [e]; go_num
        case measure => simp [intOf]; omega
      · have H4 : Hid (¬ s[k] = 47) := fun e => hc ((eq47 _).1 e)
        have hcb : ((s[k].toNat : Int) == 47) = false := by rw [beq_eq_false_iff_ne]; exact hc
        clear hc
        go_wp2_with fail
        go_round
        case rel =>
          have e := HC.out
          rw [if_neg H4.out] at e
          refine ⟨k + 1, bn, by omega, by go_num, rfl, hbn, ?_, HL.out, ?_⟩
          · rw [e]; rfl
          · have hno : ∀ c, s.data.toList[k]? = some c → c ≠ 47 := by
              intro c hc
              rw [HG.out] at hc
              injection hc with hc
              rw [← hc]; exact H4.out
            rcases hb.out with ⟨h1, h2⟩ | ⟨h1, h2, h3⟩
            · refine .inl ⟨h1, fun j c hj hlt2 => ?_⟩
              by_cases ej : j = k
              · subst ej; exact hno c hj
              · exact h2 j c hj (by omega)
            · refine .inr ⟨by omega, h2, fun j c hj hlt1 hlt2 => ?_⟩
              by_cases ej : j = k
              · subst ej; exact hno c hj
              · exact h3 j c hj hlt1 (by omega)
        case measure => simp [intOf]; omega
    · have hks : k = s.size := by omega
      have HF : Hid (s.data.toList.take k = s.data.toList) := take_full s k (by omega)
      obtain ⟨cn, hcn⟩ : ∃ cn : Nat, cn = (s.data.toList.take k).count 47 := ⟨_, rfl⟩
      have HN : Hid _ := hcn
      rw [← hcn] at hmn ⊢
      by_cases h0 : 0 < s.size
      · have h0b : ((s.size : Int) == 0) = false := by rw [beq_eq_false_iff_ne]; omega
        by_cases h1 : ((s[0]'h0).toNat : Int) = 47
        · have HH : Hid _ := (head_47 s h0).2 h1
          have h1b : (((s[0]'h0).toNat : Int) != 47) = false := by rw [h1]; rfl
          clear h1
          by_cases h2 : cn = 1
          · have HD : Hid (defaultL s.data.toList = [47]) := default_count _ (by rw [← HF.out, ← hcn]; exact h2)
            subst h2
            clear hcn
            go_wp2_with fail
            go_ret
            refine ⟨?_, rfl⟩
            rw [HD.out]; rfl
          · have h2b : ((cn : Int) == 1) = false := by rw [beq_eq_false_iff_ne]; omega
            have HP : Hid (bn ≤ s.size ∧ txt (defaultL s.data.toList) = s.extract 0 bn) := by
              have hc1 : s.data.toList.count 47 ≠ 1 := by rw [← HF.out, ← hcn]; exact h2
              refine ⟨hbn, ?_⟩
              rw [ext_to]
              congr 1
              rcases hb.out with ⟨g1, g2⟩ | ⟨g1, g2, g3⟩
              · exfalso
                exact g2 0 47 (by rw [← List.head?_eq_getElem?]; exact HH.out) (by omega) rfl
              · have g3' : ∀ (j : Nat) c, s.data.toList[j]? = some c → bn < j → c ≠ 47 := fun j c hj hl => g3 j c hj hl (by
                  have := (List.getElem?_eq_some_iff.1 hj).1
                  simp at this
                  omega)
                refine default_at _ bn HH.out ?_ g2 g3'
                rcases Nat.eq_zero_or_pos bn with hz | hz
                · subst hz
                  exact absurd (count_zero _ g2 g3') hc1
                · exact hz
            clear hcn h2
            go_wp2_with fail
            go_ret
            refine ⟨?_, rfl⟩
            rw [HP.out.2]; rfl
        · have HD : Hid (defaultL s.data.toList = [47]) := default_beg _ (fun e => h1 ((head_47 s h0).1 e))
          have h1b : (((s[0]'h0).toNat : Int) != 47) = true := by rw [bne_iff_ne]; exact h1
          clear h1 hcn
          go_wp2_with fail
          go_ret
          refine ⟨?_, rfl⟩
          rw [HD.out]; rfl
      · have HD : Hid (defaultL s.data.toList = [47]) := default_no _ (fun j c hj => by
          have := (List.getElem?_eq_some_iff.1 hj).1
          simp at this
          omega)
        clear hcn
        obtain rfl := nil_of s (by omega)
        obtain rfl : k = 0 := by have : ByteArray.empty.size = 0 := rfl; omega
        clear hks h0 hlt hk hmn
        have hz : (ByteArray.empty.size : Int) = 0 := rfl
        go_wp2_with fail
        go_ret
        refine ⟨?_, rfl⟩
        rw [show defaultL [] = [47] from HD.out]; rfl
theorem pm_long (p o : List UInt8) (h : p.length < o.length) : pmatchL p o = false := pm_no p o (by
  cases h' : Lib.hasPrefix p o
  · rfl
  · have := pre_len h'; omega)
theorem pm_same (p o : List UInt8) (h : Lib.hasPrefix p o = true) (hl : o.length = p.length) : pmatchL p o = true := by
  unfold Lib.hasPrefix at h
  rw [List.isPrefixOf_iff_prefix] at h
  obtain ⟨r, rfl⟩ := h
  have : r = [] := by
    rw [List.length_append] at hl
    exact List.length_eq_zero_iff.1 (by omega)
  subst this
  rw [List.append_nil]; exact pmatch_self o
theorem pm_more (p o : List UInt8) (h : Lib.hasPrefix p o = true) (hl : o.length < p.length) : pmatchL p o = (o.getLast? == some 47 || p[o.length]? == some 47) := by
  unfold pmatchL
  rw [h, Bool.true_and, show (p == o) = false by rw [beq_eq_false_iff_ne]; rintro rfl; omega, Bool.false_or]
set_option maxHeartbeats 2000000 in
theorem pathMatch_any (p o : ByteArray) (w : World) (hp : p.size ≤ maxLen) (ho : o.size ≤ maxLen) :
    Calls Try.prog 16 #[.string p, .string o] w fun e w' => e = .returned (.bool (pmatchL p.data.toList o.data.toList)) ∧ w' = w := by
  unfold maxLen at hp ho
  have HR : Hid _ := Lib.hasPrefix_raw p o
  by_cases h1 : o.size ≤ p.size
  · cases h2 : ((p.extract 0 o.size).toList == o.toList)
    · have HM : Hid (pmatchL p.data.toList o.data.toList = false) := pm_no _ _ (by rw [← HR.out, h2]; simp)
      go_enter Try.func16, Try.ntmps16
      go_wp2_with fail
      go_ret
      refine ⟨?_, rfl⟩
      rw [HM.out]; rfl
    · have HP : Hid (Lib.hasPrefix p.data.toList o.data.toList = true) := by show _ = _; rw [← HR.out, h2]; simp [h1]
      by_cases h3 : o.size = p.size
      · have HM : Hid (pmatchL p.data.toList o.data.toList = true) := pm_same _ _ HP.out h3
        have h3b : ((o.size : Int) == (p.size : Int)) = true := by rw [h3]; simp
        clear h3
        go_enter Try.func16, Try.ntmps16
        go_wp2_with fail
        go_ret
        refine ⟨?_, rfl⟩
        rw [HM.out]; rfl
      · have hlt : o.size < p.size := by omega
        have h3b : ((o.size : Int) == (p.size : Int)) = false := by rw [beq_eq_false_iff_ne]; omega
        have HM : Hid _ := pm_more _ _ HP.out hlt
        have HG : Hid (p.data.toList[o.data.toList.length]? = some p[o.size]) := get_of p o.size hlt
        by_cases h4 : 1 ≤ o.size
        · have e1 : ((o.size : Int) - 1).toNat = o.size - 1 := by omega
          have e2 : o.size - 1 < o.size := by omega
          have HL : Hid (o.data.toList.getLast? = some o[o.size - 1]) := by show _ = _; rw [List.getLast?_eq_getElem?]; exact get_of o (o.size - 1) (by omega)
          by_cases h5 : ((o[o.size - 1]'e2).toNat : Int) = 47
          · have h5b : (((o[o.size - 1]'e2).toNat : Int) == 47) = true := by rw [h5]; rfl
            have HT : Hid (pmatchL p.data.toList o.data.toList = true) := by show _ = _; rw [HM.out, HL.out, (eq47 _).2 h5]; rfl
            clear h5 h3
            go_enter Try.func16, Try.ntmps16
            go_wp2_with fail
            go_ret
            refine ⟨?_, rfl⟩
            rw [HT.out]; rfl
          · have h5b : (((o[o.size - 1]'e2).toNat : Int) == 47) = false := by rw [beq_eq_false_iff_ne]; exact h5
            have HT : Hid (pmatchL p.data.toList o.data.toList = ((p[o.size].toNat : Int) == 47)) := by
              show _ = _
              rw [HM.out, HL.out, HG.out, Bool.eq_iff_iff]
              simp [eq47, h5]
            clear h5 h3
            go_enter Try.func16, Try.ntmps16
            go_wp2_with fail
            go_ret
            refine ⟨?_, rfl⟩
            rw [HT.out]; rfl
        · have HT : Hid (pmatchL p.data.toList o.data.toList = ((p[o.size].toNat : Int) == 47)) := by
            show _ = _
            have hn : o.data.toList = [] := List.length_eq_zero_iff.1 (by show o.size = 0; omega)
            rw [HM.out, HG.out, hn, Bool.eq_iff_iff]
            simp [eq47]
          have hz : o.size = 0 := by omega
          obtain rfl := nil_of o (by omega)
          clear h3 hz h2
          go_enter Try.func16, Try.ntmps16
          go_wp2_with fail
          go_ret
          refine ⟨?_, rfl⟩
          rw [HT.out]; rfl
  · have HM : Hid (pmatchL p.data.toList o.data.toList = false) := pm_long _ _ (by have e1 : p.data.toList.length = p.size := rfl; have e2 : o.data.toList.length = o.size := rfl; omega)
    go_enter Try.func16, Try.ntmps16
    go_wp2_with fail
    go_ret
    refine ⟨?_, rfl⟩
    rw [HM.out]; rfl
theorem pd (s d : ByteArray) (h : txt (defaultL s.data.toList) = d) (hs : s.size ≤ maxLen) (w : World) :
    Calls Try.prog 13 #[.string s] w fun e w' => e = .returned (.string d) ∧ w' = w := h ▸ default_any s w hs
theorem pmt (p o : ByteArray) (b : Bool) (h : pmatchL p.data.toList o.data.toList = b) (hp : p.size ≤ maxLen) (ho : o.size ≤ maxLen) (w : World) :
    Calls Try.prog 15 #[.string p, .string o] w fun e w' => e = .returned (.bool b) ∧ w' = w := h ▸ pmatch_any p o w hp ho
set_option maxHeartbeats 2000000 in
theorem pathBegun_any (w : World) : Calls Try.prog 12 #[] w fun e w' => e = .returned (.bool true) ∧ w' = w := by
  go_enter Try.func12, Try.ntmps12
  go_wp2_with fail
  refine (pd ⟨#[47, 97, 47, 98, 47, 99]⟩ ⟨#[47, 97, 47, 98]⟩ (by kernel_rfl) (by decide) _).mono ?_
  rintro e w1 ⟨rfl, rfl⟩
  go_wp2_with fail
  refine (pd ⟨#[47, 97]⟩ ⟨#[47]⟩ (by kernel_rfl) (by decide) _).mono ?_
  rintro e w1 ⟨rfl, rfl⟩
  go_wp2_with fail
  refine (pd ⟨#[120, 47, 121, 47, 122]⟩ ⟨#[47]⟩ (by kernel_rfl) (by decide) _).mono ?_
  rintro e w1 ⟨rfl, rfl⟩
  go_wp2_with fail
  refine (pmt ⟨#[47, 97, 47, 98]⟩ ⟨#[47, 97]⟩ true (by decide +kernel) (by decide) (by decide) _).mono ?_
  rintro e w1 ⟨rfl, rfl⟩
  go_wp2_with fail
  refine (pmt ⟨#[47, 97, 98]⟩ ⟨#[47, 97]⟩ false (by decide +kernel) (by decide) (by decide) _).mono ?_
  rintro e w1 ⟨rfl, rfl⟩
  go_wp2_with fail
  refine (pmt ⟨#[47, 97, 47, 98]⟩ ⟨#[47, 97, 47]⟩ true (by decide +kernel) (by decide) (by decide) _).mono ?_
  rintro e w1 ⟨rfl, rfl⟩
  go_wp2_with fail
  refine (pmt ⟨#[47, 97]⟩ ⟨#[47, 97]⟩ true (by decide +kernel) (by decide) (by decide) _).mono ?_
  rintro e w1 ⟨rfl, rfl⟩
  go_wp2_with fail
  go_ret
  exact ⟨rfl, rfl⟩
end Go.Proofs.Ytmbkgcloliahhad
