/- Contracts: path.Match; the reference's default and match; what must be in any case. -/
import Derived.Test.YtgjjkieljdamfafPathA
namespace Go.Proofs.Ytgjjkieljdamfaf
open Go.RowKit
set_option linter.all false

set_option maxHeartbeats 1000000 in
theorem psufl_any (s p : ByteArray) (w : World) (hs : s.size ≤ maxLen) :
    Calls Try.prog 64 #[.string s, .string p] w fun e w' => e = .returned (.bool (Lib.hasSuffix s.data.toList p.data.toList)) ∧ w' = w := by
  unfold maxLen at hs
  have HR : Hid _ := Lib.hasSuffix_raw s p
  by_cases h : p.size ≤ s.size
  · have e1 : ((s.size : Int) - (p.size : Int)).toNat = s.size - p.size := by omega
    go_enter Try.func64, Try.ntmps64
    go_wp2
    go_ret
    refine ⟨?_, rfl⟩
    rw [← HR.out]
    simp [h]
  · go_enter Try.func64, Try.ntmps64
    go_wp2
    go_ret
    refine ⟨?_, rfl⟩
    rw [← HR.out]
    simp [h]
set_option maxHeartbeats 1000000 in
theorem psuf_any (s p : ByteArray) (w : World) (hs : s.size ≤ maxLen) :
    Calls Try.prog 58 #[.string s, .string p] w fun e w' => e = .returned (.bool (Lib.hasSuffix s.data.toList p.data.toList)) ∧ w' = w := by
  go_enter Try.func58, Try.ntmps58
  go_wp2_with fail
  refine (psufl_any _ _ _ hs).mono ?_
  rintro e w' ⟨rfl, rfl⟩
  go_wp2_with fail
  go_ret
  exact ⟨rfl, rfl⟩
theorem suf_47 (o : List UInt8) : Lib.hasSuffix o [47] = (o.getLast? == some 47) := by
  unfold Lib.hasSuffix
  rcases List.eq_nil_or_concat o with rfl | ⟨q, c, rfl⟩
  · rfl
  · rw [List.concat_eq_append, List.getLast?_concat]
    have : [47].isSuffixOf (q ++ [c]) = (c == 47) := by
      rw [Bool.eq_iff_iff, List.isSuffixOf_iff_suffix, beq_iff_eq]
      constructor
      · rintro ⟨x, hx⟩
        have := List.append_inj_right' hx rfl
        simpa using this.symm
      · rintro rfl
        exact ⟨q, rfl⟩
    rw [this]; rfl
theorem pre_47 (r : List UInt8) : Lib.hasPrefix r [47] = (r.head? == some 47) := by
  unfold Lib.hasPrefix
  cases r with
  | nil => rfl
  | cons c r => 
    simp only [List.isPrefixOf_cons₂, List.isPrefixOf_nil_left, Bool.and_true, List.head?_cons]
    rw [Bool.eq_iff_iff, beq_iff_eq, beq_iff_eq]
    constructor
    · rintro rfl; rfl
    · intro h; injection h with h; exact h.symm
theorem pm_no (p o : List UInt8) (h : Lib.hasPrefix p o = false) : pmatchL p o = false := by
  unfold pmatchL
  rw [h]
  simp only [Bool.false_and, Bool.or_false]
  rw [beq_eq_false_iff_ne]
  rintro rfl
  rw [show Lib.hasPrefix p p = true by unfold Lib.hasPrefix; rw [List.isPrefixOf_iff_prefix]; exact ⟨[], by simp⟩] at h
  cases h
theorem pm_yes (p o : List UInt8) (h : Lib.hasPrefix p o = true) : pmatchL p o = (decide (cutP p o = []) || (Lib.hasSuffix o [47] || Lib.hasPrefix (cutP p o) [47])) := by
  unfold pmatchL
  rw [suf_47, pre_47, h, Bool.true_and]
  unfold cutP
  rw [h, if_pos rfl, ← List.head?_drop]
  congr 1
  unfold Lib.hasPrefix at h
  rw [List.isPrefixOf_iff_prefix] at h
  obtain ⟨r, rfl⟩ := h
  rw [Bool.eq_iff_iff, beq_iff_eq, decide_eq_true_eq]
  simp
set_option maxHeartbeats 1000000 in
theorem pmatch_any (p o : ByteArray) (w : World) (hp : p.size ≤ maxLen) (ho : o.size ≤ maxLen) :
    Calls Try.prog 51 #[.string p, .string o] w fun e w' => e = .returned (.bool (pmatchL p.data.toList o.data.toList)) ∧ w' = w := by
  have HP : Hid _ := hp
  have HO : Hid _ := ho
  clear hp ho
  cases h : Lib.hasPrefix p.data.toList o.data.toList
  · have HM : Hid (pmatchL p.data.toList o.data.toList = false) := pm_no _ _ h
    have H1 : Hid _ := h
    clear h
    go_enter Try.func51, Try.ntmps51
    go_wp2_with fail
    refine (cutP_any _ _ _ HP.out).mono ?_
    rw [H1.out]
    rintro e w' ⟨rfl, rfl⟩
    go_wp2_with fail
    go_ret
    refine ⟨?_, rfl⟩
    rw [HM.out]; rfl
  · have HM : Hid _ := pm_yes _ _ h
    have H1 : Hid _ := h
    have HL : Hid ((txt (cutP p.data.toList o.data.toList)).size ≤ maxLen) := by
      unfold cutP
      rw [h, if_pos rfl, txt_size, List.length_drop]
      have := HP.out
      show _ ≤ _
      have e : p.data.toList.length = p.size := rfl
      omega
    clear h
    obtain ⟨r, hr⟩ : ∃ r, r = txt (cutP p.data.toList o.data.toList) := ⟨_, rfl⟩
    have HR : Hid _ := hr
    have hrl : r.data.toList = cutP p.data.toList o.data.toList := by rw [hr]; rfl
    have HRL : Hid _ := hrl
    clear hr
    by_cases h2 : cutP p.data.toList o.data.toList = []
    · have h2b : (r.toList == []) = true := by rw [Lib.toList_data, hrl, h2]; rfl
      have HT : Hid (pmatchL p.data.toList o.data.toList = true) := by show _ = _; rw [HM.out, h2]; rfl
      clear h2 hrl
      go_enter Try.func51, Try.ntmps51
      go_wp2_with fail
      refine (cutP_any _ _ _ HP.out).mono ?_
      rw [H1.out, ← HR.out]
      rintro e w' ⟨rfl, rfl⟩
      go_wp2_with fail
      go_ret
      refine ⟨?_, rfl⟩
      rw [HT.out]; rfl
    · have h2b : (r.toList == []) = false := by rw [Lib.toList_data, hrl, beq_eq_false_iff_ne]; exact h2
      have HT : Hid (pmatchL p.data.toList o.data.toList = (Lib.hasSuffix o.data.toList [47] || Lib.hasPrefix (cutP p.data.toList o.data.toList) [47])) := by show _ = _; rw [HM.out, decide_eq_false h2, Bool.false_or]
      clear h2 hrl
      cases h3 : Lib.hasSuffix o.data.toList [47]
      · have H3 : Hid _ := h3
        clear h3
        go_enter Try.func51, Try.ntmps51
        go_wp2_with fail
        refine (cutP_any _ _ _ HP.out).mono ?_
        rw [H1.out, ← HR.out]
        rintro e w' ⟨rfl, rfl⟩
        go_wp2_with fail
        refine (psuf_any _ _ _ HO.out).mono ?_
        rw [show (⟨#[47]⟩ : ByteArray).data.toList = [47] from rfl, H3.out]
        rintro e w' ⟨rfl, rfl⟩
        go_wp2_with fail
        refine (pre_any _ _ _ (by rw [HR.out]; exact HL.out)).mono ?_
        rw [show (⟨#[47]⟩ : ByteArray).data.toList = [47] from rfl, HRL.out]
        rintro e w' ⟨rfl, rfl⟩
        go_wp2_with fail
        go_ret
        refine ⟨?_, rfl⟩
        rw [HT.out, H3.out]; rfl
      · have H3 : Hid _ := h3
        clear h3
        go_enter Try.func51, Try.ntmps51
        go_wp2_with fail
        refine (cutP_any _ _ _ HP.out).mono ?_
        rw [H1.out, ← HR.out]
        rintro e w' ⟨rfl, rfl⟩
        go_wp2_with fail
        refine (psuf_any _ _ _ HO.out).mono ?_
        rw [show (⟨#[47]⟩ : ByteArray).data.toList = [47] from rfl, H3.out]
        rintro e w' ⟨rfl, rfl⟩
        go_wp2_with fail
        go_ret
        refine ⟨?_, rfl⟩
        rw [HT.out, H3.out]; rfl
theorem nil_of (s : ByteArray) (h : s.size ≤ 0) : s = ByteArray.empty := by
  apply ByteArray.ext
  have : s.data.size = 0 := by show s.size = 0; omega
  exact Array.size_eq_zero_iff.1 this
theorem pm_long (p o : List UInt8) (h : p.length < o.length) : pmatchL p o = false := pm_no p o (by
  cases h' : Lib.hasPrefix p o
  · rfl
  · have := pre_len h'; omega)
theorem pm_same (p o : List UInt8) (h : Lib.hasPrefix p o = true) (hl : o.length = p.length) : pmatchL p o = true := by
  unfold Lib.hasPrefix at h
  rw [List.isPrefixOf_iff_prefix] at h
  obtain ⟨r, rfl⟩ := h
  have : r = [] := by
    rw [List.length_append] at hl
    exact List.length_eq_zero_iff.1 (by omega)
  subst this
  rw [List.append_nil]; exact pmatch_self o
theorem pm_more (p o : List UInt8) (h : Lib.hasPrefix p o = true) (hl : o.length < p.length) : pmatchL p o = (o.getLast? == some 47 || p[o.length]? == some 47) := by
  unfold pmatchL
  rw [h, Bool.true_and, show (p == o) = false by rw [beq_eq_false_iff_ne]; rintro rfl; omega, Bool.false_or]
set_option maxHeartbeats 2000000 in
theorem pathMatch_any (p o : ByteArray) (w : World) (hp : p.size ≤ maxLen) (ho : o.size ≤ maxLen) :
    Calls Try.prog 12 #[.string p, .string o] w fun e w' => e = .returned (.bool (pmatchL p.data.toList o.data.toList)) ∧ w' = w := by
  unfold maxLen at hp ho
  have HR : Hid _ := Lib.hasPrefix_raw p o
  by_cases h1 : o.size ≤ p.size
  · cases h2 : ((p.extract 0 o.size).toList == o.toList)
    · have HM : Hid (pmatchL p.data.toList o.data.toList = false) := pm_no _ _ (by rw [← HR.out, h2]; simp)
      go_enter Try.func12, Try.ntmps12
      go_wp2_with fail
      go_ret
      refine ⟨?_, rfl⟩
      rw [HM.out]; rfl
    · have HP : Hid (Lib.hasPrefix p.data.toList o.data.toList = true) := by show _ = _; rw [← HR.out, h2]; simp [h1]
      by_cases h3 : o.size = p.size
      · have HM : Hid (pmatchL p.data.toList o.data.toList = true) := pm_same _ _ HP.out h3
        have h3b : ((o.size : Int) == (p.size : Int)) = true := by rw [h3]; simp
        clear h3
        go_enter Try.func12, Try.ntmps12
        go_wp2_with fail
        go_ret
        refine ⟨?_, rfl⟩
        rw [HM.out]; rfl
      · have hlt : o.size < p.size := by omega
        have h3b : ((o.size : Int) == (p.size : Int)) = false := by rw [beq_eq_false_iff_ne]; omega
        have HM : Hid _ := pm_more _ _ HP.out hlt
        have HG : Hid (p.data.toList[o.data.toList.length]? = some p[o.size]) := get_of p o.size hlt
        by_cases h4 : 1 ≤ o.size
        · have e1 : ((o.size : Int) - 1).toNat = o.size - 1 := by omega
          have e2 : o.size - 1 < o.size := by omega
          have HL : Hid (o.data.toList.getLast? = some o[o.size - 1]) := by show _ = _; rw [List.getLast?_eq_getElem?]; exact get_of o (o.size - 1) (by omega)
          by_cases h5 : ((o[o.size - 1]'e2).toNat : Int) = 47
          · have h5b : (((o[o.size - 1]'e2).toNat : Int) == 47) = true := by rw [h5]; rfl
            have HT : Hid (pmatchL p.data.toList o.data.toList = true) := by show _ = _; rw [HM.out, HL.out, (eq47 _).2 h5]; rfl
            clear h5 h3
            go_enter Try.func12, Try.ntmps12
            go_wp2_with fail
            go_ret
            refine ⟨?_, rfl⟩
            rw [HT.out]; rfl
          · have h5b : (((o[o.size - 1]'e2).toNat : Int) == 47) = false := by rw [beq_eq_false_iff_ne]; exact h5
            have HT : Hid (pmatchL p.data.toList o.data.toList = ((p[o.size].toNat : Int) == 47)) := by
              show _ = _
              rw [HM.out, HL.out, HG.out, Bool.eq_iff_iff]
              simp [eq47, h5]
            clear h5 h3
            go_enter Try.func12, Try.ntmps12
            go_wp2_with fail
            go_ret
            refine ⟨?_, rfl⟩
            rw [HT.out]; rfl
        · have HT : Hid (pmatchL p.data.toList o.data.toList = ((p[o.size].toNat : Int) == 47)) := by
            show _ = _
            have hn : o.data.toList = [] := List.length_eq_zero_iff.1 (by show o.size = 0; omega)
            rw [HM.out, HG.out, hn, Bool.eq_iff_iff]
            simp [eq47]
          have hz : o.size = 0 := by omega
          obtain rfl := nil_of o (by omega)
          clear h3 hz h2
          go_enter Try.func12, Try.ntmps12
          go_wp2_with fail
          go_ret
          refine ⟨?_, rfl⟩
          rw [HT.out]; rfl
  · have HM : Hid (pmatchL p.data.toList o.data.toList = false) := pm_long _ _ (by have e1 : p.data.toList.length = p.size := rfl; have e2 : o.data.toList.length = o.size := rfl; omega)
    go_enter Try.func12, Try.ntmps12
    go_wp2_with fail
    go_ret
    refine ⟨?_, rfl⟩
    rw [HM.out]; rfl
end Go.Proofs.Ytgjjkieljdamfaf
