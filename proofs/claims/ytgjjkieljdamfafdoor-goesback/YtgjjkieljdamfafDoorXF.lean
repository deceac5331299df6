/- Contracts: path.Match; the reference's default and match; what must be in any case. What goes along: the plain functions, and their order. No walk. Contracts of package goes. The six questions. The contract of Goes. What must be in any case about what goes along. -/
import Derived.Test.YtgjjkieljdamfafDoorPathA
import Derived.Test.YtgjjkieljdamfafDoorHostM
import Derived.Test.YtgjjkieljdamfafDoorPathM
import Derived.Test.YtgjjkieljdamfafDoorXA
import Derived.Test.YtgjjkieljdamfafDoorHostC
import Derived.Laws.EntriesVeiled
import Derived.Test.YtgjjkieljdamfafDoorKit3
namespace Go.Proofs.YtgjjkieljdamfafDoor
open Go.RowKit
set_option linter.all false
set_option maxRecDepth 100000

set_option maxHeartbeats 1000000 in
theorem psufl_any (s p : ByteArray) (w : World) (hs : s.size ≤ maxLen) :
    Calls Tryd.prog 86 #[.string s, .string p] w fun e w' => e = .returned (.bool (Lib.hasSuffix s.data.toList p.data.toList)) ∧ w' = w := by
  unfold maxLen at hs
  have HR : Hid _ := Lib.hasSuffix_raw s p
  by_cases h : p.size ≤ s.size
  · have e1 : ((s.size : Int) - (p.size : Int)).toNat = s.size - p.size := by omega
    go_enter Tryd.func86, Tryd.ntmps86
    go_wp2
    go_ret
    refine ⟨?_, rfl⟩
    rw [← HR.out]
    simp [h]
  · go_enter Tryd.func86, Tryd.ntmps86
    go_wp2
    go_ret
    refine ⟨?_, rfl⟩
    rw [← HR.out]
    simp [h]
set_option maxHeartbeats 1000000 in
theorem psuf_any (s p : ByteArray) (w : World) (hs : s.size ≤ maxLen) :
    Calls Tryd.prog 66 #[.string s, .string p] w fun e w' => e = .returned (.bool (Lib.hasSuffix s.data.toList p.data.toList)) ∧ w' = w := by
  go_enter Tryd.func66, Tryd.ntmps66
  go_wp2_with fail
  refine (psufl_any _ _ _ hs).mono ?_
  rintro e w' ⟨rfl, rfl⟩
  go_wp2_with fail
  go_ret
  exact ⟨rfl, rfl⟩
theorem suf_47 (o : List UInt8) : Lib.hasSuffix o [47] = (o.getLast? == some 47) := by
  unfold Lib.hasSuffix
  rcases List.eq_nil_or_concat o with rfl | ⟨q, c, rfl⟩
  · rfl
  · rw [List.concat_eq_append, List.getLast?_concat]
    have : [47].isSuffixOf (q ++ [c]) = (c == 47) := by
      rw [Bool.eq_iff_iff, List.isSuffixOf_iff_suffix, beq_iff_eq]
      constructor
      · rintro ⟨x, hx⟩
        have := List.append_inj_right' hx rfl
        simpa using this.symm
      · rintro rfl
        exact ⟨q, rfl⟩
    rw [this]; rfl
theorem pre_47 (r : List UInt8) : Lib.hasPrefix r [47] = (r.head? == some 47) := by
  unfold Lib.hasPrefix
  cases r with
  | nil => rfl
  | cons c r => 
    simp only [List.isPrefixOf_cons₂, List.isPrefixOf_nil_left, Bool.and_true, List.head?_cons]
    rw [Bool.eq_iff_iff, beq_iff_eq, beq_iff_eq]
    constructor
    · rintro rfl; rfl
    · intro h; injection h with h; exact h.symm
theorem pm_no (p o : List UInt8) (h : Lib.hasPrefix p o = false) : pmatchL p o = false := by
  unfold pmatchL
  rw [h]
  simp only [Bool.false_and, Bool.or_false]
  rw [beq_eq_false_iff_ne]
  rintro rfl
  rw [show Lib.hasPrefix p p = true by unfold Lib.hasPrefix; rw [List.isPrefixOf_iff_prefix]; exact ⟨[], by simp⟩] at h
  cases h
theorem pm_yes (p o : List UInt8) (h : Lib.hasPrefix p o = true) : pmatchL p o = (decide (cutP p o = []) || (Lib.hasSuffix o [47] || Lib.hasPrefix (cutP p o) [47])) := by
  unfold pmatchL
  rw [suf_47, pre_47, h, Bool.true_and]
  unfold cutP
  rw [h, if_pos rfl, ← List.head?_drop]
  congr 1
  unfold Lib.hasPrefix at h
  rw [List.isPrefixOf_iff_prefix] at h
  obtain ⟨r, rfl⟩ := h
  rw [Bool.eq_iff_iff, beq_iff_eq, decide_eq_true_eq]
  simp
set_option maxHeartbeats 1000000 in
theorem pmatch_any (p o : ByteArray) (w : World) (hp : p.size ≤ maxLen) (ho : o.size ≤ maxLen) :
    Calls Tryd.prog 68 #[.string p, .string o] w fun e w' => e = .returned (.bool (pmatchL p.data.toList o.data.toList)) ∧ w' = w := by
  have HP : Hid _ := hp
  have HO : Hid _ := ho
  clear hp ho
  cases h : Lib.hasPrefix p.data.toList o.data.toList
  · have HM : Hid (pmatchL p.data.toList o.data.toList = false) := pm_no _ _ h
    have H1 : Hid _ := h
    clear h
    go_enter Tryd.func68, Tryd.ntmps68
    go_wp2_with fail
    refine (cutP_any _ _ _ HP.out).mono ?_
    rw [H1.out]
    rintro e w' ⟨rfl, rfl⟩
    go_wp2_with fail
    go_ret
    refine ⟨?_, rfl⟩
    rw [HM.out]; rfl
  · have HM : Hid _ := pm_yes _ _ h
    have H1 : Hid _ := h
    have HL : Hid ((txt (cutP p.data.toList o.data.toList)).size ≤ maxLen) := by
      unfold cutP
      rw [h, if_pos rfl, txt_size, List.length_drop]
      have := HP.out
      show _ ≤ _
      have e : p.data.toList.length = p.size := rfl
      omega
    clear h
    obtain ⟨r, hr⟩ : ∃ r, r = txt (cutP p.data.toList o.data.toList) := ⟨_, rfl⟩
    have HR : Hid _ := hr
    have hrl : r.data.toList = cutP p.data.toList o.data.toList := by rw [hr]; rfl
    have HRL : Hid _ := hrl
    clear hr
    by_cases h2 : cutP p.data.toList o.data.toList = []
    · have h2b : (r.toList == []) = true := by rw [Lib.toList_data, hrl, h2]; rfl
      have HT : Hid (pmatchL p.data.toList o.data.toList = true) := by show _ = _; rw [HM.out, h2]; rfl
      clear h2 hrl
      go_enter Tryd.func68, Tryd.ntmps68
      go_wp2_with fail
      refine (cutP_any _ _ _ HP.out).mono ?_
      rw [H1.out, ← HR.out]
      rintro e w' ⟨rfl, rfl⟩
      go_wp2_with fail
      go_ret
      refine ⟨?_, rfl⟩
      rw [HT.out]; rfl
    · have h2b : (r.toList == []) = false := by rw [Lib.toList_data, hrl, beq_eq_false_iff_ne]; exact h2
      have HT : Hid (pmatchL p.data.toList o.data.toList = (Lib.hasSuffix o.data.toList [47] || Lib.hasPrefix (cutP p.data.toList o.data.toList) [47])) := by show _ = _; rw [HM.out, decide_eq_false h2, Bool.false_or]
      clear h2 hrl
      cases h3 : Lib.hasSuffix o.data.toList [47]
      · have H3 : Hid _ := h3
        clear h3
        go_enter Tryd.func68, Tryd.ntmps68
        go_wp2_with fail
        refine (cutP_any _ _ _ HP.out).mono ?_
        rw [H1.out, ← HR.out]
        rintro e w' ⟨rfl, rfl⟩
        go_wp2_with fail
        refine (psuf_any _ _ _ HO.out).mono ?_
        rw [show (⟨#[47]⟩ : ByteArray).data.toList = [47] from rfl, H3.out]
        rintro e w' ⟨rfl, rfl⟩
        go_wp2_with fail
        refine (pre_any _ _ _ (by rw [HR.out]; exact HL.out)).mono ?_
        rw [show (⟨#[47]⟩ : ByteArray).data.toList = [47] from rfl, HRL.out]
        rintro e w' ⟨rfl, rfl⟩
        go_wp2_with fail
        go_ret
        refine ⟨?_, rfl⟩
        rw [HT.out, H3.out]; rfl
      · have H3 : Hid _ := h3
        clear h3
        go_enter Tryd.func68, Tryd.ntmps68
        go_wp2_with fail
        refine (cutP_any _ _ _ HP.out).mono ?_
        rw [H1.out, ← HR.out]
        rintro e w' ⟨rfl, rfl⟩
        go_wp2_with fail
        refine (psuf_any _ _ _ HO.out).mono ?_
        rw [show (⟨#[47]⟩ : ByteArray).data.toList = [47] from rfl, H3.out]
        rintro e w' ⟨rfl, rfl⟩
        go_wp2_with fail
        go_ret
        refine ⟨?_, rfl⟩
        rw [HT.out, H3.out]; rfl
theorem nil_of (s : ByteArray) (h : s.size ≤ 0) : s = ByteArray.empty := by
  apply ByteArray.ext
  have : s.data.size = 0 := by show s.size = 0; omega
  exact Array.size_eq_zero_iff.1 this
theorem pm_long (p o : List UInt8) (h : p.length < o.length) : pmatchL p o = false := pm_no p o (by
  cases h' : Lib.hasPrefix p o
  · rfl
  · have := pre_len h'; omega)
theorem pm_same (p o : List UInt8) (h : Lib.hasPrefix p o = true) (hl : o.length = p.length) : pmatchL p o = true := by
  unfold Lib.hasPrefix at h
  rw [List.isPrefixOf_iff_prefix] at h
  obtain ⟨r, rfl⟩ := h
  have : r = [] := by
    rw [List.length_append] at hl
    exact List.length_eq_zero_iff.1 (by omega)
  subst this
  rw [List.append_nil]; exact pmatch_self o
theorem pm_more (p o : List UInt8) (h : Lib.hasPrefix p o = true) (hl : o.length < p.length) : pmatchL p o = (o.getLast? == some 47 || p[o.length]? == some 47) := by
  unfold pmatchL
  rw [h, Bool.true_and, show (p == o) = false by rw [beq_eq_false_iff_ne]; rintro rfl; omega, Bool.false_or]
set_option maxHeartbeats 2000000 in
theorem pathMatch_any (p o : ByteArray) (w : World) (hp : p.size ≤ maxLen) (ho : o.size ≤ maxLen) :
    Calls Tryd.prog 10 #[.string p, .string o] w fun e w' => e = .returned (.bool (pmatchL p.data.toList o.data.toList)) ∧ w' = w := by
  unfold maxLen at hp ho
  have HR : Hid _ := Lib.hasPrefix_raw p o
  by_cases h1 : o.size ≤ p.size
  · cases h2 : ((p.extract 0 o.size).toList == o.toList)
    · have HM : Hid (pmatchL p.data.toList o.data.toList = false) := pm_no _ _ (by rw [← HR.out, h2]; simp)
      go_enter Tryd.func10, Tryd.ntmps10
      go_wp2_with fail
      go_ret
      refine ⟨?_, rfl⟩
      rw [HM.out]; rfl
    · have HP : Hid (Lib.hasPrefix p.data.toList o.data.toList = true) := by show _ = _; rw [← HR.out, h2]; simp [h1]
      by_cases h3 : o.size = p.size
      · have HM : Hid (pmatchL p.data.toList o.data.toList = true) := pm_same _ _ HP.out h3
        have h3b : ((o.size : Int) == (p.size : Int)) = true := by rw [h3]; simp
        clear h3
        go_enter Tryd.func10, Tryd.ntmps10
        go_wp2_with fail
        go_ret
        refine ⟨?_, rfl⟩
        rw [HM.out]; rfl
      · have hlt : o.size < p.size := by omega
        have h3b : ((o.size : Int) == (p.size : Int)) = false := by rw [beq_eq_false_iff_ne]; omega
        have HM : Hid _ := pm_more _ _ HP.out hlt
        have HG : Hid (p.data.toList[o.data.toList.length]? = some p[o.size]) := get_of p o.size hlt
        by_cases h4 : 1 ≤ o.size
        · have e1 : ((o.size : Int) - 1).toNat = o.size - 1 := by omega
          have e2 : o.size - 1 < o.size := by omega
          have HL : Hid (o.data.toList.getLast? = some o[o.size - 1]) := by show _ = _; rw [List.getLast?_eq_getElem?]; exact get_of o (o.size - 1) (by omega)
          by_cases h5 : ((o[o.size - 1]'e2).toNat : Int) = 47
          · have h5b : (((o[o.size - 1]'e2).toNat : Int) == 47) = true := by rw [h5]; rfl
            have HT : Hid (pmatchL p.data.toList o.data.toList = true) := by show _ = _; rw [HM.out, HL.out, (eq47 _).2 h5]; rfl
            clear h5 h3
            go_enter Tryd.func10, Tryd.ntmps10
            go_wp2_with fail
            go_ret
            refine ⟨?_, rfl⟩
            rw [HT.out]; rfl
          · have h5b : (((o[o.size - 1]'e2).toNat : Int) == 47) = false := by rw [beq_eq_false_iff_ne]; exact h5
            have HT : Hid (pmatchL p.data.toList o.data.toList = ((p[o.size].toNat : Int) == 47)) := by
              show _ = _
              rw [HM.out, HL.out, HG.out, Bool.eq_iff_iff]
              simp [eq47, h5]
            clear h5 h3
            go_enter Tryd.func10, Tryd.ntmps10
            go_wp2_with fail
            go_ret
            refine ⟨?_, rfl⟩
            rw [HT.out]; rfl
        · have HT : Hid (pmatchL p.data.toList o.data.toList = ((p[o.size].toNat : Int) == 47)) := by
            show _ = _
            have hn : o.data.toList = [] := List.length_eq_zero_iff.1 (by show o.size = 0; omega)
            rw [HM.out, HG.out, hn, Bool.eq_iff_iff]
            simp [eq47]
          have hz : o.size = 0 := by omega
          obtain rfl := nil_of o (by omega)
          clear h3 hz h2
          go_enter Tryd.func10, Tryd.ntmps10
          go_wp2_with fail
          go_ret
          refine ⟨?_, rfl⟩
          rw [HT.out]; rfl
  · have HM : Hid (pmatchL p.data.toList o.data.toList = false) := pm_long _ _ (by have e1 : p.data.toList.length = p.size := rfl; have e2 : o.data.toList.length = o.size := rfl; omega)
    go_enter Tryd.func10, Tryd.ntmps10
    go_wp2_with fail
    go_ret
    refine ⟨?_, rfl⟩
    rw [HM.out]; rfl
end Go.Proofs.YtgjjkieljdamfafDoor
namespace Go.Proofs.YtgjjkieljdamfafDoor
open Go.RowKit
set_option linter.all false
set_option maxRecDepth 100000

def liveB (c : Ck) (now : Int) : Bool := decide (now < c.expiry)
def hostB (c : Ck) (f : Fr) : Bool := if c.hostOnly then f.host == c.domain else matchL f.host c.domain
def pathB (c : Ck) (f : Fr) : Bool := pmatchL f.path c.path
def wayB (c : Ck) (f : Fr) : Bool := f.secure || !c.secure
def handB (c : Ck) (f : Fr) : Bool := !f.script || !c.httpOnly
def siteB (c : Ck) (f : Fr) : Bool := !f.abroad || decide (c.site = 1)
def goesL (c : Ck) (f : Fr) (now : Int) : Bool := liveB c now && (hostB c f && (pathB c f && (wayB c f && (handB c f && siteB c f))))
theorem goes_iff (c : Ck) (f : Fr) (now : Int) : goesL c f now = true ↔ now < c.expiry ∧ hostB c f = true ∧ pmatchL f.path c.path = true ∧ (c.secure = true → f.secure = true) ∧ (f.script = true → c.httpOnly = false) ∧ (f.abroad = true → c.site = 1) := by
  unfold goesL liveB pathB wayB handB siteB
  simp only [Bool.and_eq_true, decide_eq_true_eq]
  refine and_congr_right fun _ => and_congr_right fun _ => and_congr_right fun _ => and_congr ?_ (and_congr ?_ ?_)
  · cases f.secure <;> cases c.secure <;> simp
  · cases f.script <;> cases c.httpOnly <;> simp
  · cases f.abroad <;> simp
theorem gm_iff (a b : List UInt8) : matchL a b = true ↔ a = b ∨ ((∃ x, a = x ++ 46 :: b) ∧ addrL a = false) := by
  unfold matchL
  rw [Bool.or_eq_true, beq_iff_eq, Bool.and_eq_true, Bool.not_eq_true']
  have : Lib.hasSuffix a (46 :: b) = true ↔ ∃ x, a = x ++ 46 :: b := by
    unfold Lib.hasSuffix
    rw [List.isSuffixOf_iff_suffix]
    exact ⟨fun ⟨x, h⟩ => ⟨x, h.symm⟩, fun ⟨x, h⟩ => ⟨x, h.symm⟩⟩
  rw [this]
theorem gm_trans (a b c : List UInt8) (h1 : matchL a b = true) (h2 : matchL b c = true) : matchL a c = true := by
  rw [gm_iff] at h1 h2 ⊢
  rcases h1 with rfl | ⟨⟨x, rfl⟩, h1⟩
  · exact h2
  · rcases h2 with rfl | ⟨⟨y, rfl⟩, h2⟩
    · exact .inr ⟨⟨x, rfl⟩, h1⟩
    · exact .inr ⟨⟨x ++ 46 :: y, by simp⟩, h1⟩
theorem goes_less {c : Ck} {f g : Fr} {now later : Int} (h1 : now ≤ later) (h2 : g.host = f.host) (h3 : g.path = f.path) (h4 : f.script = true → g.script = true) (h5 : f.abroad = true → g.abroad = true) (h6 : g.secure = true → f.secure = true)
    (h : goesL c g later = true) : goesL c f now = true := by
  rw [goes_iff] at h ⊢
  obtain ⟨a1, a2, a3, a4, a5, a6⟩ := h
  refine ⟨by omega, ?_, by rw [← h3]; exact a3, fun e => h6 (a4 e), fun e => a5 (h4 e), fun e => a6 (h5 e)⟩
  unfold hostB at a2 ⊢
  rw [← h2]; exact a2
/-- who asks below -/
def deepF (c : Ck) (f : Fr) (h p : List UInt8) : Fr := { f with host := if !c.hostOnly && matchL h f.host then h else f.host, path := if pmatchL p f.path then p else f.path }
theorem goes_deeper {c : Ck} {f : Fr} {now : Int} (h p : List UInt8) (h0 : goesL c f now = true) : goesL c (deepF c f h p) now = true := by
  rw [goes_iff] at h0 ⊢
  obtain ⟨a1, a2, a3, a4, a5, a6⟩ := h0
  refine ⟨a1, ?_, ?_, a4, a5, a6⟩
  · unfold hostB deepF at *
    cases ho : c.hostOnly
    · rw [ho] at a2
      simp only [Bool.false_eq_true, if_false, Bool.not_false, Bool.true_and] at a2 ⊢
      by_cases hm : matchL h f.host = true
      · rw [if_pos hm]; exact gm_trans _ _ _ hm a2
      · rw [if_neg hm]; exact a2
    · rw [ho] at a2
      simpa using a2
  · show pmatchL (if pmatchL p f.path then p else f.path) c.path = true
    by_cases hm : pmatchL p f.path = true
    · rw [if_pos hm]; exact pmatch_trans _ _ _ hm a3
    · rw [if_neg hm]; exact a3
end Go.Proofs.YtgjjkieljdamfafDoor
namespace Go.Proofs.YtgjjkieljdamfafDoor
open Go.RowKit
set_option linter.all false
set_option maxRecDepth 100000
set_option maxRecDepth 100000

/-- who asks, and when, as cells -/
def asL (f : Fr) (now : Int) : List Value := [.string (txt f.host), .string (txt f.path), .bool f.secure, .bool f.script, .bool f.abroad, .int .i64 now]
theorem beq_txt (a b : List UInt8) : ((txt a).toList == (txt b).toList) = (a == b) := by rw [Lib.toList_data, Lib.toList_data]; rfl
set_option maxHeartbeats 1000000 in
theorem live_any (c : Ck) (now : Int) (w : World) : Calls Tryd.prog 9 #[.agg (ckC c).toArray, .int .i64 now] w fun e w' => e = .returned (.bool (liveB c now)) ∧ Below w.heap.size w w' := by
  simp only [ckC]
  unfold liveB
  go_enter Tryd.func9, Tryd.ntmps9
  go_wp2_with fail
  go_ret
  exact ⟨rfl, (Below.refl _ _).alloc (Nat.le_refl _) _⟩
set_option maxHeartbeats 1000000 in
theorem inTime_any (c : Ck) (f : Fr) (now : Int) (w : World) : Calls Tryd.prog 40 #[.agg (asL f now).toArray, .agg (ckC c).toArray] w fun e w' => e = .returned (.bool (liveB c now)) ∧ Below w.heap.size w w' := by
  have HB : Hid (∀ x y, Below w.heap.size w ((w.alloc x).alloc y)) := fun x y => ((Below.refl _ _).alloc (Nat.le_refl _) _).alloc (by simp) _
  simp only [ckC, asL]
  go_enter Tryd.func40, Tryd.ntmps40
  go_wp2_with fail
  refine (live_any c now _).mono ?_
  rintro e w1 ⟨rfl, hb1⟩
  go_wp2_with fail
  go_ret
  exact ⟨rfl, next (HB.out _ _) hb1⟩
set_option maxHeartbeats 1000000 in
theorem atHost_any (c : Ck) (f : Fr) (now : Int) (w : World) (hh : f.host.length ≤ maxLen) (hd : c.domain.length < maxLen) :
    Calls Tryd.prog 41 #[.agg (asL f now).toArray, .agg (ckC c).toArray] w fun e w' => e = .returned (.bool (hostB c f)) ∧ Below w.heap.size w w' := by
  have HB : Hid (∀ x y, Below w.heap.size w ((w.alloc x).alloc y)) := fun x y => ((Below.refl _ _).alloc (Nat.le_refl _) _).alloc (by simp) _
  have HH : Hid _ := hh
  have HD : Hid _ := hd
  clear hh hd
  obtain ⟨q, hq⟩ : ∃ q, q = hostB c f := ⟨_, rfl⟩
  have HQ : Hid _ := hq
  unfold hostB at hq
  rw [← HQ.out]
  simp only [ckC, asL]
  obtain ⟨ho, hho⟩ : ∃ ho, ho = c.hostOnly := ⟨_, rfl⟩
  rw [← hho] at hq ⊢
  clear hho
  cases ho
  · rw [if_neg (by decide)] at hq
    have H1 : Hid _ := hq
    clear hq
    go_enter Tryd.func41, Tryd.ntmps41
    go_wp2_with fail
    refine (match_any (txt f.host) (txt c.domain) _ HH.out HD.out).mono ?_
    rw [txt_toList, txt_toList, ← H1.out]
    rintro e w1 ⟨rfl, hb1⟩
    go_wp2_with fail
    go_ret
    exact ⟨rfl, next (HB.out _ _) hb1⟩
  · rw [if_pos rfl, ← beq_txt] at hq
    replace hq := hq.symm
    clear HQ
    cases q
    all_goals
     go_enter Tryd.func41, Tryd.ntmps41
     go_wp2_with fail
     go_ret
     exact ⟨rfl, HB.out _ _⟩
set_option maxHeartbeats 1000000 in
theorem atPath_any (c : Ck) (f : Fr) (now : Int) (w : World) (hp : f.path.length ≤ maxLen) (hc : c.path.length ≤ maxLen) :
    Calls Tryd.prog 42 #[.agg (asL f now).toArray, .agg (ckC c).toArray] w fun e w' => e = .returned (.bool (pathB c f)) ∧ Below w.heap.size w w' := by
  have HB : Hid (∀ x y, Below w.heap.size w ((w.alloc x).alloc y)) := fun x y => ((Below.refl _ _).alloc (Nat.le_refl _) _).alloc (by simp) _
  have HH : Hid _ := hp
  have HD : Hid _ := hc
  clear hp hc
  unfold pathB
  simp only [ckC, asL]
  go_enter Tryd.func42, Tryd.ntmps42
  go_wp2_with fail
  refine (pmatch_any (txt f.path) (txt c.path) _ HH.out HD.out).mono ?_
  rintro e w1 ⟨rfl, rfl⟩
  go_wp2_with fail
  go_ret
  exact ⟨rfl, HB.out _ _⟩
set_option maxHeartbeats 1000000 in
theorem byWay_any (c : Ck) (f : Fr) (now : Int) (w : World) :
    Calls Tryd.prog 43 #[.agg (asL f now).toArray, .agg (ckC c).toArray] w fun e w' => e = .returned (.bool (wayB c f)) ∧ Below w.heap.size w w' := by
  have HB : Hid (∀ x y, Below w.heap.size w ((w.alloc x).alloc y)) := fun x y => ((Below.refl _ _).alloc (Nat.le_refl _) _).alloc (by simp) _
  unfold wayB
  simp only [ckC, asL]
  obtain ⟨a, ha⟩ : ∃ a, a = f.secure := ⟨_, rfl⟩
  obtain ⟨b, hb⟩ : ∃ b, b = c.secure := ⟨_, rfl⟩
  rw [← ha, ← hb]
  clear ha hb
  cases a <;> cases b
  all_goals
    go_enter Tryd.func43, Tryd.ntmps43
    go_wp2_with fail
    go_ret
    exact ⟨rfl, HB.out _ _⟩
set_option maxHeartbeats 1000000 in
theorem byHand_any (c : Ck) (f : Fr) (now : Int) (w : World) :
    Calls Tryd.prog 44 #[.agg (asL f now).toArray, .agg (ckC c).toArray] w fun e w' => e = .returned (.bool (handB c f)) ∧ Below w.heap.size w w' := by
  have HB : Hid (∀ x y, Below w.heap.size w ((w.alloc x).alloc y)) := fun x y => ((Below.refl _ _).alloc (Nat.le_refl _) _).alloc (by simp) _
  unfold handB
  simp only [ckC, asL]
  obtain ⟨a, ha⟩ : ∃ a, a = f.script := ⟨_, rfl⟩
  obtain ⟨b, hb⟩ : ∃ b, b = c.httpOnly := ⟨_, rfl⟩
  rw [← ha, ← hb]
  clear ha hb
  cases a <;> cases b
  all_goals
    go_enter Tryd.func44, Tryd.ntmps44
    go_wp2_with fail
    go_ret
    exact ⟨rfl, HB.out _ _⟩
set_option maxHeartbeats 1000000 in
theorem bySite_any (c : Ck) (f : Fr) (now : Int) (w : World) :
    Calls Tryd.prog 45 #[.agg (asL f now).toArray, .agg (ckC c).toArray] w fun e w' => e = .returned (.bool (siteB c f)) ∧ Below w.heap.size w w' := by
  have HB : Hid (∀ x y, Below w.heap.size w ((w.alloc x).alloc y)) := fun x y => ((Below.refl _ _).alloc (Nat.le_refl _) _).alloc (by simp) _
  unfold siteB
  simp only [ckC, asL]
  obtain ⟨a, ha⟩ : ∃ a, a = f.abroad := ⟨_, rfl⟩
  rw [← ha]
  clear ha
  by_cases h : c.site = 1
  · have h1 : (c.site == 1) = true := by rw [h]; rfl
    rw [decide_eq_true h]
    clear h
    cases a
    all_goals
      go_enter Tryd.func45, Tryd.ntmps45
      go_wp2_with fail
      go_ret
      exact ⟨rfl, HB.out _ _⟩
  · have h1 : (c.site == 1) = false := by rw [beq_eq_false_iff_ne]; exact h
    rw [decide_eq_false h]
    clear h
    cases a
    all_goals
      go_enter Tryd.func45, Tryd.ntmps45
      go_wp2_with fail
      go_ret
      exact ⟨rfl, HB.out _ _⟩
end Go.Proofs.YtgjjkieljdamfafDoor
namespace Go.Proofs.YtgjjkieljdamfafDoor
open Go.RowKit
set_option linter.all false
set_option maxRecDepth 100000
set_option maxRecDepth 100000

/-- the six questions -/
def qsL (f : Fr) (now : Int) : List Value := [.func (.func 40) #[.agg (asL f now).toArray] #[], .func (.func 41) #[.agg (asL f now).toArray] #[], .func (.func 42) #[.agg (asL f now).toArray] #[],
  .func (.func 43) #[.agg (asL f now).toArray] #[], .func (.func 44) #[.agg (asL f now).toArray] #[], .func (.func 45) #[.agg (asL f now).toArray] #[]]
set_option maxHeartbeats 1000000 in
theorem questions_any (f : Fr) (now : Int) (w : World) :
    Calls Tryd.prog 24 #[.agg (asL f now).toArray] w fun e w' => e = .returned (.agg (qsL f now).toArray) ∧ Below w.heap.size w w' := by
  obtain ⟨rv, hrv⟩ : ∃ rv, rv = Value.agg (qsL f now).toArray := ⟨_, rfl⟩
  rw [← hrv]
  have HRV : Hid _ := hrv
  clear hrv
  simp only [asL]
  go_enter Tryd.func24, Tryd.ntmps24
  go_wp2_with fail
  refine bodyPost_ret (v := rv) (by rw [HRV.out]; simp only [qsL, asL]; simp [results, Tryd.results24, go_sem]) rfl ⟨rfl, ?_⟩
  exact ((Below.refl _ _).alloc (Nat.le_refl _) _).alloc (by simp) _
theorem ix_in (a b c d e g v : Value) (k : Int) (w : World) (hk : 0 ≤ k ∧ k < 6) (hv : #[a, b, c, d, e, g][k.toNat]? = some v) :
    Sem.run Tryd.prog (Instr.index 60 (.agg #[a, b, c, d, e, g]) (.int .i64 k)) w = .ok v w := by
  simp [Instr.index, asIntOf, run_underlying Tryd.underlying60, hk, go_sem]
  rw [List.getElem?_toArray, List.getElem?_eq_some_iff] at hv
  exact hv.2
end Go.Proofs.YtgjjkieljdamfafDoor
namespace Go.Proofs.YtgjjkieljdamfafDoor
open Go.RowKit
set_option linter.all false
set_option maxRecDepth 100000
set_option maxRecDepth 100000

def qB (c : Ck) (f : Fr) (now : Int) : List Bool := [liveB c now, hostB c f, pathB c f, wayB c f, handB c f, siteB c f]
theorem goes_qs (c : Ck) (f : Fr) (now : Int) : goesL c f now = (qB c f now).all id := by unfold goesL qB; simp
theorem goes_no {c : Ck} {f : Fr} {now : Int} (k : Nat) (h : (qB c f now)[k]? = some false) : goesL c f now = false := by
  rw [goes_qs, List.all_eq_false]
  exact ⟨false, List.mem_of_getElem? h, by decide⟩
theorem goes_yes {c : Ck} {f : Fr} {now : Int} (h : ∀ (k : Nat) b, (qB c f now)[k]? = some b → b = true) : goesL c f now = true := by
  rw [goes_qs, List.all_eq_true]
  intro b hb
  obtain ⟨k, hk⟩ := List.getElem?_of_mem hb
  exact h k b hk
set_option maxHeartbeats 4000000 in
theorem goes_any (c : Ck) (f : Fr) (now : Int) (w : World) (hh : f.host.length ≤ maxLen) (hp : f.path.length ≤ maxLen) (hd : c.domain.length < maxLen) (hc : c.path.length ≤ maxLen) :
    Calls Tryd.prog 8 #[.agg (ckC c).toArray, .agg (frL f).toArray, .int .i64 now] w fun e w' => e = .returned (.bool (goesL c f now)) ∧ Below w.heap.size w w' := by
  have HH : Hid _ := hh
  have HP : Hid _ := hp
  have HD : Hid _ := hd
  have HC : Hid _ := hc
  clear hh hp hd hc
  obtain ⟨W0, hW0⟩ : ∃ W0, W0 = (((w.alloc (.cells (ckC c).toArray 32)).alloc (.cells (frL f).toArray 27)).alloc (.cells (asL f now).toArray 58)) := ⟨_, rfl⟩
  have B0 : Hid (Below w.heap.size w W0) := by
    rw [hW0]
    exact (((Below.refl _ _).alloc (Nat.le_refl _) _).alloc (by simp) _).alloc (by simp; omega) _
  have C0 : Hid (LRow W0 w.heap.size (ckC c)) := by
    rw [hW0]
    exact ((LRow.new w (ckC c) _).below ((Below.refl _ _).alloc (Nat.le_refl _) _) (by simp)).below ((Below.refl _ _).alloc (Nat.le_refl _) _) (by simp; omega)
  obtain ⟨g, hg⟩ : ∃ g, g = goesL c f now := ⟨_, rfl⟩
  have HG : Hid _ := hg
  rw [← hg]
  clear hg
  simp only [ckC, frL, asL] at hW0 ⊢
  go_enter Tryd.func8, Tryd.ntmps8
  go_wp2_with fail
  rw [← hW0]
  clear hW0
  refine (questions_any f now W0).mono ?_
  simp only [qsL]
  rintro e w1 ⟨rfl, hb1⟩
  have B1 : Hid (Below w.heap.size w w1) := next B0.out hb1
  have C1 : Hid (LRow w1 w.heap.size (ckC c)) := C0.out.below hb1 (cell_in (C0.out.cell 0 rfl))
  clear hb1
  go_wp2_with fail
  go_loopw [15] (fun i wr => ∃ (k : Nat) (z : Int), k ≤ 6 ∧ z = k ∧ i = .int .i64 z ∧ Hid (Below w1.heap.size w1 wr) ∧ Hid (∀ (j : Nat) b, j < k → (qB c f now)[j]? = some b → b = true)) (fun i _ => 6 - (intOf i).toNat)
  case atStart => exact ⟨0, 0, by omega, rfl, rfl, Below.refl _ _, fun j b hj => absurd hj (by omega)⟩
  case round =>
    obtain ⟨k, z, hk, hz, rfl, hb, hq⟩ := hrel
    have CK := C1.out.below hb.out (cell_in (C1.out.cell 0 rfl))
    have h7 : k = 0 ∨ k = 1 ∨ k = 2 ∨ k = 3 ∨ k = 4 ∨ k = 5 ∨ k = 6 := by omega
    rcases h7 with rfl | rfl | rfl | rfl | rfl | rfl | rfl
    · obtain rfl : z = 0 := hz
      obtain ⟨q, hqq⟩ : ∃ q, q = liveB c now := ⟨_, rfl⟩
      have HQ : Hid ((qB c f now)[0]? = some q) := by rw [hqq]; rfl
      have HE : Hid _ := hqq
      clear hqq
      have x0 := CK.cell 0 rfl
      have x1 := CK.cell 1 rfl
      have x2 := CK.cell 2 rfl
      have x3 := CK.cell 3 rfl
      have x4 := CK.cell 4 rfl
      have x5 := CK.cell 5 rfl
      have x6 := CK.cell 6 rfl
      have x7 := CK.cell 7 rfl
      have x8 := CK.cell 8 rfl
      have x9 := CK.cell 9 rfl
      have x10 := CK.cell 10 rfl
      have x11 := CK.cell 11 rfl
      have x12 := CK.cell 12 rfl
      clear CK
      go_wp2_with fail
      rw [ix_in _ _ _ _ _ _ _ 0 _ (by decide) rfl]
      go_wp2_with fail
      refine (inTime_any c f now _).mono ?_
      rw [← HE.out]
      rintro e w2 ⟨rfl, hb2⟩
      cases q
      · have HN : Hid (g = false) := by show _ = _; rw [HG.out]; exact goes_no 0 HQ.out
        go_wp2_with fail
        go_ret
        exact ⟨by rw [HN.out]; rfl, next (next B1.out hb.out) hb2⟩
      · go_wp2_with fail
        go_roundw
        case rel => exact ⟨1, 1, by omega, rfl, rfl, next hb.out hb2, fun j b hj h => by
          rcases Nat.lt_or_ge j 0 with h' | h'
          · exact hq.out j b h' h
          · obtain rfl : j = 0 := by omega
            rw [HQ.out] at h; exact (Option.some.inj h).symm⟩
        case measure => simp [intOf]
    · obtain rfl : z = 1 := hz
      obtain ⟨q, hqq⟩ : ∃ q, q = hostB c f := ⟨_, rfl⟩
      have HQ : Hid ((qB c f now)[1]? = some q) := by rw [hqq]; rfl
      have HE : Hid _ := hqq
      clear hqq
      have x0 := CK.cell 0 rfl
      have x1 := CK.cell 1 rfl
      have x2 := CK.cell 2 rfl
      have x3 := CK.cell 3 rfl
      have x4 := CK.cell 4 rfl
      have x5 := CK.cell 5 rfl
      have x6 := CK.cell 6 rfl
      have x7 := CK.cell 7 rfl
      have x8 := CK.cell 8 rfl
      have x9 := CK.cell 9 rfl
      have x10 := CK.cell 10 rfl
      have x11 := CK.cell 11 rfl
      have x12 := CK.cell 12 rfl
      clear CK
      go_wp2_with fail
      rw [ix_in _ _ _ _ _ _ _ 1 _ (by decide) rfl]
      go_wp2_with fail
      refine (atHost_any c f now _ HH.out HD.out).mono ?_
      rw [← HE.out]
      rintro e w2 ⟨rfl, hb2⟩
      cases q
      · have HN : Hid (g = false) := by show _ = _; rw [HG.out]; exact goes_no 1 HQ.out
        go_wp2_with fail
        go_ret
        exact ⟨by rw [HN.out]; rfl, next (next B1.out hb.out) hb2⟩
      · go_wp2_with fail
        go_roundw
        case rel => exact ⟨2, 2, by omega, rfl, rfl, next hb.out hb2, fun j b hj h => by
          rcases Nat.lt_or_ge j 1 with h' | h'
          · exact hq.out j b h' h
          · obtain rfl : j = 1 := by omega
            rw [HQ.out] at h; exact (Option.some.inj h).symm⟩
        case measure => simp [intOf]
    · obtain rfl : z = 2 := hz
      obtain ⟨q, hqq⟩ : ∃ q, q = pathB c f := ⟨_, rfl⟩
      have HQ : Hid ((qB c f now)[2]? = some q) := by rw [hqq]; rfl
      have HE : Hid _ := hqq
      clear hqq
      have x0 := CK.cell 0 rfl
      have x1 := CK.cell 1 rfl
      have x2 := CK.cell 2 rfl
      have x3 := CK.cell 3 rfl
      have x4 := CK.cell 4 rfl
      have x5 := CK.cell 5 rfl
      have x6 := CK.cell 6 rfl
      have x7 := CK.cell 7 rfl
      have x8 := CK.cell 8 rfl
      have x9 := CK.cell 9 rfl
      have x10 := CK.cell 10 rfl
      have x11 := CK.cell 11 rfl
      have x12 := CK.cell 12 rfl
      clear CK
      go_wp2_with fail
      rw [ix_in _ _ _ _ _ _ _ 2 _ (by decide) rfl]
      go_wp2_with fail
      refine (atPath_any c f now _ HP.out HC.out).mono ?_
      rw [← HE.out]
      rintro e w2 ⟨rfl, hb2⟩
      cases q
      · have HN : Hid (g = false) := by show _ = _; rw [HG.out]; exact goes_no 2 HQ.out
        go_wp2_with fail
        go_ret
        exact ⟨by rw [HN.out]; rfl, next (next B1.out hb.out) hb2⟩
      · go_wp2_with fail
        go_roundw
        case rel => exact ⟨3, 3, by omega, rfl, rfl, next hb.out hb2, fun j b hj h => by
          rcases Nat.lt_or_ge j 2 with h' | h'
          · exact hq.out j b h' h
          · obtain rfl : j = 2 := by omega
            rw [HQ.out] at h; exact (Option.some.inj h).symm⟩
        case measure => simp [intOf]
    · obtain rfl : z = 3 := hz
      obtain ⟨q, hqq⟩ : ∃ q, q = wayB c f := ⟨_, rfl⟩
      have HQ : Hid ((qB c f now)[3]? = some q) := by rw [hqq]; rfl
      have HE : Hid _ := hqq
      clear hqq
      have x0 := CK.cell 0 rfl
      have x1 := CK.cell 1 rfl
      have x2 := CK.cell 2 rfl
      have x3 := CK.cell 3 rfl
      have x4 := CK.cell 4 rfl
      have x5 := CK.cell 5 rfl
      have x6 := CK.cell 6 rfl
      have x7 := CK.cell 7 rfl
      have x8 := CK.cell 8 rfl
      have x9 := CK.cell 9 rfl
      have x10 := CK.cell 10 rfl
      have x11 := CK.cell 11 rfl
      have x12 := CK.cell 12 rfl
      clear CK
      go_wp2_with fail
      rw [ix_in _ _ _ _ _ _ _ 3 _ (by decide) rfl]
      go_wp2_with fail
      refine (byWay_any c f now _).mono ?_
      rw [← HE.out]
      rintro e w2 ⟨rfl, hb2⟩
      cases q
      · have HN : Hid (g = false) := by show _ = _; rw [HG.out]; exact goes_no 3 HQ.out
        go_wp2_with fail
        go_ret
        exact ⟨by rw [HN.out]; rfl, next (next B1.out hb.out) hb2⟩
      · go_wp2_with fail
        go_roundw
        case rel => exact ⟨4, 4, by omega, rfl, rfl, next hb.out hb2, fun j b hj h => by
          rcases Nat.lt_or_ge j 3 with h' | h'
          · exact hq.out j b h' h
          · obtain rfl : j = 3 := by omega
            rw [HQ.out] at h; exact (Option.some.inj h).symm⟩
        case measure => simp [intOf]
    · obtain rfl : z = 4 := hz
      obtain ⟨q, hqq⟩ : ∃ q, q = handB c f := ⟨_, rfl⟩
      have HQ : Hid ((qB c f now)[4]? = some q) := by rw [hqq]; rfl
      have HE : Hid _ := hqq
      clear hqq
      have x0 := CK.cell 0 rfl
      have x1 := CK.cell 1 rfl
      have x2 := CK.cell 2 rfl
      have x3 := CK.cell 3 rfl
      have x4 := CK.cell 4 rfl
      have x5 := CK.cell 5 rfl
      have x6 := CK.cell 6 rfl
      have x7 := CK.cell 7 rfl
      have x8 := CK.cell 8 rfl
      have x9 := CK.cell 9 rfl
      have x10 := CK.cell 10 rfl
      have x11 := CK.cell 11 rfl
      have x12 := CK.cell 12 rfl
      clear CK
      go_wp2_with fail
      rw [ix_in _ _ _ _ _ _ _ 4 _ (by decide) rfl]
      go_wp2_with fail
      refine (byHand_any c f now _).mono ?_
      rw [← HE.out]
      rintro e w2 ⟨rfl, hb2⟩
      cases q
      · have HN : Hid (g = false) := by show _ = _; rw [HG.out]; exact goes_no 4 HQ.out
        go_wp2_with fail
        go_ret
        exact ⟨by rw [HN.out]; rfl, next (next B1.out hb.out) hb2⟩
      · go_wp2_with fail
        go_roundw
        case rel => exact ⟨5, 5, by omega, rfl, rfl, next hb.out hb2, fun j b hj h => by
          rcases Nat.lt_or_ge j 4 with h' | h'
          · exact hq.out j b h' h
          · obtain rfl : j = 4 := by omega
            rw [HQ.out] at h; exact (Option.some.inj h).symm⟩
        case measure => simp [intOf]
    · obtain rfl : z = 5 := hz
      obtain ⟨q, hqq⟩ : ∃ q, q = siteB c f := ⟨_, rfl⟩
      have HQ : Hid ((qB c f now)[5]? = some q) := by rw [hqq]; rfl
      have HE : Hid _ := hqq
      clear hqq
      have x0 := CK.cell 0 rfl
      have x1 := CK.cell 1 rfl
      have x2 := CK.cell 2 rfl
      have x3 := CK.cell 3 rfl
      have x4 := CK.cell 4 rfl
      have x5 := CK.cell 5 rfl
      have x6 := CK.cell 6 rfl
      have x7 := CK.cell 7 rfl
      have x8 := CK.cell 8 rfl
      have x9 := CK.cell 9 rfl
      have x10 := CK.cell 10 rfl
      have x11 := CK.cell 11 rfl
      have x12 := CK.cell 12 rfl
      clear CK
      go_wp2_with fail
      rw [ix_in _ _ _ _ _ _ _ 5 _ (by decide) rfl]
      go_wp2_with fail
      refine (bySite_any c f now _).mono ?_
      rw [← HE.out]
      rintro e w2 ⟨rfl, hb2⟩
      cases q
      · have HN : Hid (g = false) := by show _ = _; rw [HG.out]; exact goes_no 5 HQ.out
        go_wp2_with fail
        go_ret
        exact ⟨by rw [HN.out]; rfl, next (next B1.out hb.out) hb2⟩
      · go_wp2_with fail
        go_roundw
        case rel => exact ⟨6, 6, by omega, rfl, rfl, next hb.out hb2, fun j b hj h => by
          rcases Nat.lt_or_ge j 5 with h' | h'
          · exact hq.out j b h' h
          · obtain rfl : j = 5 := by omega
            rw [HQ.out] at h; exact (Option.some.inj h).symm⟩
        case measure => simp [intOf]
    · obtain rfl : z = 6 := hz
      have HN : Hid (g = true) := by show _ = _; rw [HG.out]; exact goes_yes (fun j b h => hq.out j b (by have := (List.getElem?_eq_some_iff.1 h).1; exact this) h)
      clear CK
      go_wp2_with fail
      go_ret
      exact ⟨by rw [HN.out]; rfl, next B1.out hb.out⟩
end Go.Proofs.YtgjjkieljdamfafDoor
namespace Go.Proofs.YtgjjkieljdamfafDoor
open Go.RowKit
set_option linter.all false
set_option maxRecDepth 100000
set_option maxRecDepth 100000

def cId : Ck := ⟨[105, 100], [55], [115, 104, 111, 112, 46, 99, 111, 109], [47, 99, 97, 114, 116], false, true, false, true, 0, 1060, 1000, 1000, 0⟩
def gShop : Fr := ⟨[119, 119, 119, 46, 115, 104, 111, 112, 46, 99, 111, 109], [47, 99, 97, 114, 116, 47, 97, 100, 100], true, false, false⟩
def gSlow : Fr := { gShop with secure := false }
def gFar : Fr := { gShop with abroad := true }
theorem ident_any (w : World) : Calls Tryd.prog 23 #[] w fun e w' => e = .returned (.agg (ckC cId).toArray) ∧ Below w.heap.size w w' := by
  go_enter Tryd.func23, Tryd.ntmps23
  go_wp2_with fail
  exact bodyPost_ret (v := .agg (ckC cId).toArray) (by simp [results, Tryd.results23, go_sem]; rfl) rfl ⟨rfl, (Below.refl _ _).alloc (Nat.le_refl _) _⟩
theorem gshop_any (w : World) : Calls Tryd.prog 13 #[] w fun e w' => e = .returned (.agg (frL gShop).toArray) ∧ Below w.heap.size w w' := by
  go_enter Tryd.func13, Tryd.ntmps13
  go_wp2_with fail
  exact bodyPost_ret (v := .agg (frL gShop).toArray) (by simp [results, Tryd.results13, go_sem]; rfl) rfl ⟨rfl, (Below.refl _ _).alloc (Nat.le_refl _) _⟩
theorem gb1 : goesL cId gShop 1059 = true := by decide +kernel
theorem gb2 : goesL cId gShop 1060 = false := by decide +kernel
theorem gb3 : goesL cId gSlow 1000 = false := by decide +kernel
theorem gb4 : goesL cId gFar 1000 = false := by decide +kernel
theorem goesB_any (f : Fr) (t : Int) (b : Bool) (W : World) (h : goesL cId f t = b) (hh : f.host.length ≤ maxLen) (hp : f.path.length ≤ maxLen) :
    Calls Tryd.prog 8 #[.agg (ckC cId).toArray, .agg (frL f).toArray, .int .i64 t] W fun e w' => e = .returned (.bool b) ∧ Below W.heap.size W w' := by
  subst h
  exact goes_any cId f t W hh hp (by decide +kernel) (by decide +kernel)
theorem liveB_any (W : World) : Calls Tryd.prog 9 #[.agg (ckC cId).toArray, .int .i64 0] W fun e w' => e = .returned (.bool true) ∧ Below W.heap.size W w' := live_any cId 0 W
set_option maxHeartbeats 2000000 in
theorem goesBegun_any (w : World) : Calls Tryd.prog 7 #[] w fun e w' => e = .returned (.bool true) ∧ Below w.heap.size w w' := by
  go_enter Tryd.func7, Tryd.ntmps7
  go_wp2_with fail
  refine (gshop_any _).mono ?_
  rw [show (frL gShop).toArray = #[.string ⟨#[119, 119, 119, 46, 115, 104, 111, 112, 46, 99, 111, 109]⟩, .string ⟨#[47, 99, 97, 114, 116, 47, 97, 100, 100]⟩, .bool true, .bool false, .bool false] from rfl]
  rintro e w1 ⟨rfl, hb1⟩
  obtain ⟨W1, hW1⟩ : ∃ W1, W1 = (((w1.alloc (.cells #[.string ⟨#[119, 119, 119, 46, 115, 104, 111, 112, 46, 99, 111, 109]⟩, .string ⟨#[47, 99, 97, 114, 116, 47, 97, 100, 100]⟩, .bool true, .bool false, .bool false] 27)).alloc (.cells #[.string ⟨#[119, 119, 119, 46, 115, 104, 111, 112, 46, 99, 111, 109]⟩, .string ⟨#[47, 99, 97, 114, 116, 47, 97, 100, 100]⟩, .bool false, .bool false, .bool false] 27)).alloc (.cells #[.string ⟨#[119, 119, 119, 46, 115, 104, 111, 112, 46, 99, 111, 109]⟩, .string ⟨#[47, 99, 97, 114, 116, 47, 97, 100, 100]⟩, .bool true, .bool false, .bool true] 27)) := ⟨_, rfl⟩
  have B1 : Hid (Below w.heap.size w W1) := by
    rw [hW1]
    exact next hb1 ((((Below.refl _ _).alloc (Nat.le_refl _) _).alloc (by simp) _).alloc (by simp; omega) _)
  have C0 : LRow W1 w1.heap.size (frL gShop) := by
    rw [hW1]
    exact ((LRow.new w1 (frL gShop) _).below ((Below.refl _ _).alloc (Nat.le_refl _) _) (by simp)).below ((Below.refl _ _).alloc (Nat.le_refl _) _) (by simp; omega)
  have C1 : LRow W1 (w1.heap.size + 1) (frL gSlow) := by
    rw [hW1]
    have h := LRow.new (w1.alloc (.cells (frL gShop).toArray 27)) (frL gSlow) 27
    rw [show (w1.alloc (.cells (frL gShop).toArray 27)).heap.size = w1.heap.size + 1 from by simp] at h
    exact h.below ((Below.refl _ _).alloc (Nat.le_refl _) _) (by simp)
  have C2 : LRow W1 (w1.heap.size + 1 + 1) (frL gFar) := by
    rw [hW1]
    have h := LRow.new ((w1.alloc (.cells (frL gShop).toArray 27)).alloc (.cells (frL gSlow).toArray 27)) (frL gFar) 27
    rw [show ((w1.alloc (.cells (frL gShop).toArray 27)).alloc (.cells (frL gSlow).toArray 27)).heap.size = w1.heap.size + 1 + 1 from by simp] at h
    exact h
  have y00 : ∀ x : Ext W1, x.1.cell? ⟨w1.heap.size, 0, none⟩ = some (.string ⟨#[119, 119, 119, 46, 115, 104, 111, 112, 46, 99, 111, 109]⟩) := Ext.cell (C0.cell 0 rfl)
  have y01 : ∀ x : Ext W1, x.1.cell? ⟨w1.heap.size, 1, none⟩ = some (.string ⟨#[47, 99, 97, 114, 116, 47, 97, 100, 100]⟩) := Ext.cell (C0.cell 1 rfl)
  have y02 : ∀ x : Ext W1, x.1.cell? ⟨w1.heap.size, 2, none⟩ = some (.bool true) := Ext.cell (C0.cell 2 rfl)
  have y03 : ∀ x : Ext W1, x.1.cell? ⟨w1.heap.size, 3, none⟩ = some (.bool false) := Ext.cell (C0.cell 3 rfl)
  have y04 : ∀ x : Ext W1, x.1.cell? ⟨w1.heap.size, 4, none⟩ = some (.bool false) := Ext.cell (C0.cell 4 rfl)
  have y10 : ∀ x : Ext W1, x.1.cell? ⟨w1.heap.size + 1, 0, none⟩ = some (.string ⟨#[119, 119, 119, 46, 115, 104, 111, 112, 46, 99, 111, 109]⟩) := Ext.cell (C1.cell 0 rfl)
  have y11 : ∀ x : Ext W1, x.1.cell? ⟨w1.heap.size + 1, 1, none⟩ = some (.string ⟨#[47, 99, 97, 114, 116, 47, 97, 100, 100]⟩) := Ext.cell (C1.cell 1 rfl)
  have y12 : ∀ x : Ext W1, x.1.cell? ⟨w1.heap.size + 1, 2, none⟩ = some (.bool false) := Ext.cell (C1.cell 2 rfl)
  have y13 : ∀ x : Ext W1, x.1.cell? ⟨w1.heap.size + 1, 3, none⟩ = some (.bool false) := Ext.cell (C1.cell 3 rfl)
  have y14 : ∀ x : Ext W1, x.1.cell? ⟨w1.heap.size + 1, 4, none⟩ = some (.bool false) := Ext.cell (C1.cell 4 rfl)
  have y20 : ∀ x : Ext W1, x.1.cell? ⟨w1.heap.size + 1 + 1, 0, none⟩ = some (.string ⟨#[119, 119, 119, 46, 115, 104, 111, 112, 46, 99, 111, 109]⟩) := Ext.cell (C2.cell 0 rfl)
  have y21 : ∀ x : Ext W1, x.1.cell? ⟨w1.heap.size + 1 + 1, 1, none⟩ = some (.string ⟨#[47, 99, 97, 114, 116, 47, 97, 100, 100]⟩) := Ext.cell (C2.cell 1 rfl)
  have y22 : ∀ x : Ext W1, x.1.cell? ⟨w1.heap.size + 1 + 1, 2, none⟩ = some (.bool true) := Ext.cell (C2.cell 2 rfl)
  have y23 : ∀ x : Ext W1, x.1.cell? ⟨w1.heap.size + 1 + 1, 3, none⟩ = some (.bool false) := Ext.cell (C2.cell 3 rfl)
  have y24 : ∀ x : Ext W1, x.1.cell? ⟨w1.heap.size + 1 + 1, 4, none⟩ = some (.bool true) := Ext.cell (C2.cell 4 rfl)
  go_wp2_with fail
  rw [← hW1]
  clear hW1 hb1 C0 C1 C2
  refine wp_region_ext (by kernel_rfl) (by kernel_rfl) ?_
  repeat (go_big_quiet_step (first | rfl | (go_at_call 23; exact ext_call (ident_any _))))
  go_big_quiet_step (first | (go_at_call 8; exact ext_call (goesB_any gShop 1059 true _ gb1 (by decide +kernel) (by decide +kernel))))
  repeat (go_big_quiet_step (first | rfl | (go_at_call 23; exact ext_call (ident_any _))))
  go_big_quiet_step (first | (go_at_call 8; exact ext_call (goesB_any gShop 1060 false _ gb2 (by decide +kernel) (by decide +kernel))))
  repeat (go_big_quiet_step (first | rfl | (go_at_call 23; exact ext_call (ident_any _))))
  go_big_quiet_step (first | (go_at_call 8; exact ext_call (goesB_any gSlow 1000 false _ gb3 (by decide +kernel) (by decide +kernel))))
  repeat (go_big_quiet_step (first | rfl | (go_at_call 23; exact ext_call (ident_any _))))
  go_big_quiet_step (first | (go_at_call 8; exact ext_call (goesB_any gFar 1000 false _ gb4 (by decide +kernel) (by decide +kernel))))
  repeat (go_big_quiet_step (first | rfl | (go_at_call 23; exact ext_call (ident_any _))))
  go_big_quiet_step (first | (go_at_call 9; exact ext_call (liveB_any _)))
  repeat (go_big_quiet_step (first | rfl | (go_at_call 23; exact ext_call (ident_any _))))
  refine wpQuiet_nil ?_
  intro wx hwx
  obtain ⟨x, rfl⟩ := hwx
  go_wp2_with fail
  go_ret
  exact ⟨rfl, next B1.out x.2⟩
end Go.Proofs.YtgjjkieljdamfafDoor
