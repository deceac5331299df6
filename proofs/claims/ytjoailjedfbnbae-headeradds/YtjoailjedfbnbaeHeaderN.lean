/- The plain laws of headers: what is written is read as it was, what was read may be written, a part more is an attribute more. No walk. -/
import Derived.Test.YtjoailjedfbnbaeHeaderM
namespace Go.Proofs.Ytjoailjedfbnbae.hd
open Go.RowKit
set_option linter.all false

theorem foldU_twice (c : UInt8) : foldU (foldU c) = foldU c := by
  by_cases h : 65 ≤ (c.toNat : Int) ∧ (c.toNat : Int) ≤ 90
  · have h1 := foldU_yes c h.1 h.2
    exact foldU_no _ (by omega)
  · rw [foldU_no c h]; exact foldU_no c h
theorem foldL_twice (l : List UInt8) : foldL (foldL l) = foldL l := by
  unfold foldL; rw [List.map_map]
  apply List.map_congr_left
  intro c _; exact foldU_twice c
theorem blank_fold (c : UInt8) : blankU (foldU c) = blankU c := by
  by_cases h : 65 ≤ (c.toNat : Int) ∧ (c.toNat : Int) ≤ 90
  · have h1 := foldU_yes c h.1 h.2
    unfold blankU blankB
    have e1 : (((foldU c).toNat : Int) == 32) = false := by rw [beq_eq_false_iff_ne]; omega
    have e2 : (((foldU c).toNat : Int) == 9) = false := by rw [beq_eq_false_iff_ne]; omega
    have e3 : ((c.toNat : Int) == 32) = false := by rw [beq_eq_false_iff_ne]; omega
    have e4 : ((c.toNat : Int) == 9) = false := by rw [beq_eq_false_iff_ne]; omega
    rw [e1, e2, e3, e4]
  · rw [foldU_no c h]
theorem dropWhile_map (l : List UInt8) : (l.map foldU).dropWhile blankU = (l.dropWhile blankU).map foldU := by
  induction l with
  | nil => rfl
  | cons c l ih =>
    by_cases h : blankU c = true
    · have h2 : blankU (foldU c) = true := by rw [blank_fold]; exact h
      simp [h, h2, ih]
    · have h2 : ¬ blankU (foldU c) = true := by rw [blank_fold]; exact h
      simp [h, h2]
theorem trim_fold (l : List UInt8) : foldL (trimL l) = trimL (foldL l) := by
  unfold foldL trimL
  rw [dropWhile_map, ← List.map_reverse, dropWhile_map, List.map_reverse]
theorem dropWhile_twice (l : List UInt8) : (l.dropWhile blankU).dropWhile blankU = l.dropWhile blankU := by
  induction l with
  | nil => rfl
  | cons c l ih =>
    by_cases h : blankU c = true
    · simp [h, ih]
    · simp [h]
/-- behind a trim at the end, the head that is no blank stays -/
theorem head_stays (m : List UInt8) (h : m.dropWhile blankU = m) : (m.reverse.dropWhile blankU).reverse.dropWhile blankU = (m.reverse.dropWhile blankU).reverse := by
  cases m with
  | nil => rfl
  | cons c m =>
    have hc : ¬ blankU c = true := by
      intro hc
      rw [List.dropWhile_cons_of_pos hc] at h
      have := congrArg List.length h
      have h2 := (List.dropWhile_sublist blankU (l := m)).length_le
      simp at this; omega
    have e : ∃ k, ((c :: m).reverse.dropWhile blankU) = k ++ [c] := by
      rw [List.reverse_cons]
      generalize m.reverse = r
      induction r with
      | nil => exact ⟨[], by simp [hc]⟩
      | cons d r ih =>
        by_cases hd : blankU d = true
        · obtain ⟨k, hk⟩ := ih
          exact ⟨k, by rw [List.cons_append, List.dropWhile_cons_of_pos hd, hk]⟩
        · exact ⟨d :: r, by rw [List.cons_append, List.dropWhile_cons_of_neg hd]⟩
    obtain ⟨k, hk⟩ := e
    rw [hk, List.reverse_append]
    simp [hc]
theorem trim_twice (l : List UInt8) : trimL (trimL l) = trimL l := by
  unfold trimL
  rw [head_stays _ (dropWhile_twice l), List.reverse_reverse, dropWhile_twice]
end Go.Proofs.Ytjoailjedfbnbae.hd
namespace Go.Proofs.Ytjoailjedfbnbae
open Go.RowKit hd
theorem hasP_iff (p : UInt8 → Bool) (l : List UInt8) : hasP p l = false ↔ ∀ c ∈ l, p c = false := by
  unfold hasP; rw [List.any_eq_false]
  simp only [Bool.not_eq_true]
theorem whole_iff (ends s : List UInt8) : wholeL ends s = true ↔ trimL s = s ∧ ∀ c ∈ s, barU c = false ∧ c ∉ ends := by
  unfold wholeL
  rw [Bool.and_eq_true, beq_iff_eq, Bool.not_eq_true', hasP_iff, eq_comm]
  refine and_congr_right fun _ => forall_congr' fun c => forall_congr' fun _ => ?_
  unfold endP
  rw [Bool.or_eq_false_iff, List.contains_eq_mem, decide_eq_false_iff_not]
theorem mem_trim {l : List UInt8} {c : UInt8} (h : c ∈ trimL l) : c ∈ l := by
  unfold trimL at h
  rw [List.mem_reverse] at h
  have h1 := (List.dropWhile_sublist _).subset h
  rw [List.mem_reverse] at h1
  exact (List.dropWhile_sublist _).subset h1
theorem mem_cutA {l : List UInt8} {b c : UInt8} (h : c ∈ cutA l b) : c ∈ l ∧ c ≠ b := by
  refine ⟨(List.takeWhile_sublist _).subset h, ?_⟩
  have := List.all_takeWhile (p := fun c => c != b) (l := l)
  rw [List.all_eq_true] at this
  simpa using this c h
theorem mem_cutB {l : List UInt8} {b c : UInt8} (h : c ∈ cutB l b) : c ∈ l := (List.dropWhile_sublist _).subset (List.mem_of_mem_drop h)
theorem mem_part {s : List UInt8} {b : UInt8} {p : List UInt8} (hp : p ∈ partsL s b) : ∀ c ∈ p, c ∈ s ∧ c ≠ b := by
  induction s generalizing p with
  | nil => simp [partsL] at hp; subst hp; simp
  | cons d s ih =>
    intro c hc
    by_cases h : d = b
    · simp only [partsL, h, if_true, List.mem_cons] at hp
      rcases hp with rfl | hp
      · cases hc
      · obtain ⟨h1, h2⟩ := ih hp c hc
        exact ⟨by simp [h1], h2⟩
    · obtain ⟨q, qs, e1, e2⟩ := partsL_cons d s b h
      rw [e2] at hp
      rw [e1] at ih
      rcases List.mem_cons.1 hp with rfl | hp
      · rcases List.mem_cons.1 hc with rfl | hc
        · exact ⟨by simp, h⟩
        · obtain ⟨h1, h2⟩ := ih (by simp) c hc
          exact ⟨by simp [h1], h2⟩
      · obtain ⟨h1, h2⟩ := ih (p := p) (by simp [hp]) c hc
        exact ⟨by simp [h1], h2⟩
theorem fold_bar (c : UInt8) : barU (foldU c) = barU c := by
  by_cases h : 65 ≤ (c.toNat : Int) ∧ (c.toNat : Int) ≤ 90
  · have h1 := foldU_yes c h.1 h.2
    rw [barU_no c (by omega), barU_no (foldU c) (by omega)]
  · rw [foldU_no c h]
theorem fold_ne (c b : UInt8) (hb : b.toNat < 65) (h : c ≠ b) : foldU c ≠ b := by
  by_cases h2 : 65 ≤ (c.toNat : Int) ∧ (c.toNat : Int) ≤ 90
  · have h1 := foldU_yes c h2.1 h2.2
    intro e; rw [e] at h1; omega
  · rw [foldU_no c h2]; exact h
theorem name_whole {s p : List UInt8} (hs : hasP barU s = false) (hp : p ∈ partsL s 59) : wholeL [61, 59] (nameL p) = true := by
  rw [whole_iff]
  refine ⟨trim_twice _, fun c hc => ?_⟩
  obtain ⟨h1, h2⟩ := mem_cutA (mem_trim hc)
  obtain ⟨h3, h4⟩ := mem_part hp c h1
  exact ⟨(hasP_iff _ _).1 hs c h3, by simp [h2, h4]⟩
theorem value_whole {s p : List UInt8} (hs : hasP barU s = false) (hp : p ∈ partsL s 59) : wholeL [59] (valueL p) = true := by
  rw [whole_iff]
  refine ⟨trim_twice _, fun c hc => ?_⟩
  obtain ⟨h3, h4⟩ := mem_part hp c (mem_cutB (mem_trim hc))
  exact ⟨(hasP_iff _ _).1 hs c h3, by simp [h4]⟩
theorem fold_whole {n : List UInt8} (h : wholeL [61, 59] n = true) : wholeL [61, 59] (foldL n) = true := by
  rw [whole_iff] at h ⊢
  refine ⟨by rw [← trim_fold, h.1], fun c hc => ?_⟩
  unfold foldL at hc
  obtain ⟨d, hd, rfl⟩ := List.mem_map.1 hc
  obtain ⟨h1, h2⟩ := h.2 d hd
  simp only [List.mem_cons, List.not_mem_nil, or_false, not_or] at h2
  refine ⟨by rw [fold_bar]; exact h1, ?_⟩
  simp only [List.mem_cons, List.not_mem_nil, or_false, not_or]
  exact ⟨fold_ne d 61 (by decide) h2.1, fold_ne d 59 (by decide) h2.2⟩
theorem fold_nil {n : List UInt8} (h : n ≠ []) : foldL n ≠ [] := by
  intro e; apply h; unfold foldL at e; exact List.map_eq_nil_iff.1 e
theorem attr_ok {s p : List UInt8} {a : Attr} (hs : hasP barU s = false) (hp : p ∈ partsL s 59) (ha : attrL p = some a) : attrOk a = true := by
  unfold attrL at ha
  by_cases h : nameL p = []
  · rw [if_pos h] at ha; cases ha
  · rw [if_neg h] at ha
    injection ha with ha
    subst ha
    unfold attrOk
    simp only [Bool.and_eq_true, Bool.not_eq_true', beq_eq_false_iff_ne, beq_iff_eq]
    exact ⟨⟨⟨fold_nil h, (foldL_twice _).symm⟩, fold_whole (name_whole hs hp)⟩, value_whole hs hp⟩
theorem rdE_zero {s : List UInt8} (h : rdE s = 0) : s.length ≤ 400 ∧ hasP barU s = false ∧ hasB (headP s) 61 = true ∧ nameL (headP s) ≠ [] ∧ (attrsL (tailP s)).length ≤ 12 := by
  unfold rdE at h
  by_cases h1 : 400 < s.length
  · rw [if_pos h1] at h; cases h
  · rw [if_neg h1] at h
    cases h2 : hasP barU s
    · rw [h2, if_neg (by decide)] at h
      cases h3 : (!hasB (headP s) 61 || (nameL (headP s) == []))
      · rw [h3, if_neg (by decide)] at h
        by_cases h4 : 12 < (attrsL (tailP s)).length
        · rw [if_pos h4] at h; cases h
        · simp only [Bool.or_eq_false_iff, Bool.not_eq_false', beq_eq_false_iff_ne] at h3
          exact ⟨by omega, rfl, h3.1, h3.2, by omega⟩
      · rw [h3, if_pos rfl] at h; cases h
    · rw [h2, if_pos rfl] at h; cases h
theorem rdE_intro {s : List UInt8} (h1 : s.length ≤ 400) (h2 : hasP barU s = false) (h3 : hasB (headP s) 61 = true) (h4 : nameL (headP s) ≠ []) (h5 : (attrsL (tailP s)).length ≤ 12) : rdE s = 0 := by
  unfold rdE
  rw [if_neg (by omega), h2, if_neg (by decide), h3, beq_eq_false_iff_ne.2 h4, if_neg (by decide), if_neg (by omega)]
theorem mem_attrs {ps : List (List UInt8)} {a : Attr} (h : a ∈ attrsL ps) : ∃ p ∈ ps, attrL p = some a := by
  unfold attrsL at h; exact List.mem_filterMap.1 h
theorem rdR_is {s : List UInt8} (h : rdE s = 0) : rdR s = (nameL (headP s), valueL (headP s), attrsL (tailP s)) := by unfold rdR; rw [if_pos h]
theorem rdR_none {s : List UInt8} (h : rdE s ≠ 0) : rdR s = ([], [], []) := by unfold rdR; rw [if_neg h]
theorem read_check {s : List UInt8} (h : rdE s = 0) : checkL (rdR s) = 0 := by
  obtain ⟨h1, h2, h3, h4, h5⟩ := rdE_zero h
  rw [rdR_is h]
  have hp : headP s ∈ partsL s 59 := by rw [parts_ht]; simp
  unfold checkL rawOk headOk
  simp only
  rw [name_whole h2 hp, value_whole h2 hp, beq_eq_false_iff_ne.2 h4]
  rw [show (attrsL (tailP s)).all attrOk = true from by
    rw [List.all_eq_true]
    intro a ha
    obtain ⟨p, hp, hpa⟩ := mem_attrs ha
    exact attr_ok h2 (by rw [parts_ht]; simp [hp]) hpa]
  rw [if_pos (by rfl), if_neg (by omega)]
theorem check_zero {r : Raw} (h : checkL r = 0) : (r.1 ≠ [] ∧ wholeL [61, 59] r.1 = true ∧ wholeL [59] r.2.1 = true) ∧ (∀ a ∈ r.2.2, attrOk a = true) ∧ r.2.2.length ≤ 12 := by
  unfold checkL at h
  cases hr : rawOk r
  · rw [hr, if_neg (by decide)] at h; cases h
  · rw [hr, if_pos rfl] at h
    unfold rawOk headOk at hr
    simp only [Bool.and_eq_true, Bool.not_eq_true', beq_eq_false_iff_ne, List.all_eq_true] at hr
    refine ⟨⟨hr.1.1.1, hr.1.1.2, hr.1.2⟩, hr.2, ?_⟩
    by_cases h4 : 12 < r.2.2.length
    · rw [if_pos h4] at h; cases h
    · omega
def bodyT (a : Attr) : List UInt8 := 32 :: (a.1 ++ (if a.2 = [] then [] else 61 :: a.2))
theorem attrT_body (a : Attr) : attrT a = 59 :: bodyT a := by unfold attrT bodyT; by_cases h : a.2 = [] <;> simp [h]
theorem parts_text (l : List Attr) : ∀ (x : List UInt8), (∀ c ∈ x, c ≠ 59) → (∀ a ∈ l, ∀ c ∈ bodyT a, c ≠ 59) → partsL (x ++ l.flatMap attrT) 59 = x :: l.map bodyT := by
  induction l with
  | nil => intro x hx _; simp [partsL_none x 59 hx]
  | cons a l ih =>
    intro x hx hl
    rw [List.flatMap_cons, attrT_body, List.cons_append, partsL_append, partsL_none x 59 hx, ih (bodyT a) (hl a (by simp)) (fun b hb => hl b (by simp [hb]))]
    rfl
theorem cutA_no (n : List UInt8) (b : UInt8) (h : ∀ c ∈ n, c ≠ b) : cutA n b = n := by
  unfold cutA
  have := List.takeWhile_append_of_pos (p := fun c => c != b) (l₁ := n) (l₂ := []) (fun c hc => by simpa using h c hc)
  simpa using this
theorem drop_no (n r : List UInt8) (b : UInt8) (h : ∀ c ∈ n, c ≠ b) : (n ++ r).dropWhile (fun c => c != b) = r.dropWhile (fun c => c != b) := by
  induction n with
  | nil => rfl
  | cons d n ih =>
    have hd := h d (by simp)
    rw [List.cons_append, List.dropWhile_cons_of_pos (by simpa using hd)]
    exact ih (fun c hc => h c (by simp [hc]))
theorem cutB_no (n : List UInt8) (b : UInt8) (h : ∀ c ∈ n, c ≠ b) : cutB n b = [] := by
  unfold cutB; have := drop_no n [] b h; rw [List.append_nil] at this; rw [this]; rfl
theorem cutA_yes (n v : List UInt8) (b : UInt8) (h : ∀ c ∈ n, c ≠ b) : cutA (n ++ b :: v) b = n := by
  unfold cutA
  rw [List.takeWhile_append_of_pos (fun c hc => by simpa using h c hc)]
  simp
theorem cutB_yes (n v : List UInt8) (b : UInt8) (h : ∀ c ∈ n, c ≠ b) : cutB (n ++ b :: v) b = v := by
  unfold cutB; rw [drop_no n (b :: v) b h]; simp
theorem trim_blank (n : List UInt8) : trimL (32 :: n) = trimL n := by
  unfold trimL; rw [List.dropWhile_cons_of_pos (by decide)]
theorem ok_parts {a : Attr} (h : attrOk a = true) : a.1 ≠ [] ∧ a.1 = foldL a.1 ∧ (trimL a.1 = a.1 ∧ ∀ c ∈ a.1, barU c = false ∧ c ≠ 61 ∧ c ≠ 59) ∧ (trimL a.2 = a.2 ∧ ∀ c ∈ a.2, barU c = false ∧ c ≠ 59) := by
  unfold attrOk at h
  simp only [Bool.and_eq_true, Bool.not_eq_true', beq_eq_false_iff_ne, beq_iff_eq, whole_iff] at h
  obtain ⟨⟨⟨h1, h2⟩, h3⟩, h4⟩ := h
  refine ⟨h1, h2, ⟨h3.1, fun c hc => ?_⟩, ⟨h4.1, fun c hc => ?_⟩⟩
  · obtain ⟨x, y⟩ := h3.2 c hc; simp at y; exact ⟨x, y.1, y.2⟩
  · obtain ⟨x, y⟩ := h4.2 c hc; simp at y; exact ⟨x, y⟩
theorem attr_pair {a : Attr} (h : attrOk a = true) (pre : List UInt8) (hpre : pre = [] ∨ pre = [32]) : attrL (pre ++ (a.1 ++ 61 :: a.2)) = some a := by
  obtain ⟨h1, h2, ⟨h3, h4⟩, ⟨h5, h6⟩⟩ := ok_parts h
  have hp : ∀ c ∈ pre ++ a.1, c ≠ 61 := by
    intro c hc
    rcases List.mem_append.1 hc with hc | hc
    · rcases hpre with rfl | rfl
      · cases hc
      · simp at hc; subst hc; decide
    · exact (h4 c hc).2.1
  have ht : trimL (pre ++ a.1) = a.1 := by
    rcases hpre with rfl | rfl
    · exact h3
    · exact (trim_blank _).trans h3
  unfold attrL nameL valueL
  rw [← List.append_assoc, cutA_yes _ _ _ hp, cutB_yes _ _ _ hp, ht, if_neg h1, ← h2, h5]
theorem attr_back {a : Attr} (h : attrOk a = true) : attrL (bodyT a) = some a := by
  obtain ⟨h1, h2, ⟨h3, h4⟩, ⟨h5, h6⟩⟩ := ok_parts h
  unfold bodyT
  by_cases h0 : a.2 = []
  · rw [if_pos h0, List.append_nil]
    have hp : ∀ c ∈ 32 :: a.1, c ≠ 61 := by
      intro c hc
      rcases List.mem_cons.1 hc with rfl | hc
      · decide
      · exact (h4 c hc).2.1
    unfold attrL nameL valueL
    rw [cutA_no _ _ hp, cutB_no _ _ hp, trim_blank, h3, if_neg h1, ← h2]
    have : trimL [] = [] := rfl
    rw [this, ← h0]
  · rw [if_neg h0]
    exact attr_pair h [32] (.inr rfl)
theorem body_no {a : Attr} (h : attrOk a = true) : ∀ c ∈ bodyT a, c ≠ 59 ∧ barU c = false := by
  obtain ⟨h1, h2, ⟨h3, h4⟩, ⟨h5, h6⟩⟩ := ok_parts h
  intro c hc
  unfold bodyT at hc
  rcases List.mem_cons.1 hc with rfl | hc
  · exact ⟨by decide, by decide⟩
  · rcases List.mem_append.1 hc with hc | hc
    · exact ⟨(h4 c hc).2.2, (h4 c hc).1⟩
    · by_cases h0 : a.2 = []
      · rw [if_pos h0] at hc; cases hc
      · rw [if_neg h0] at hc
        rcases List.mem_cons.1 hc with rfl | hc
        · exact ⟨by decide, by decide⟩
        · exact ⟨(h6 c hc).2, (h6 c hc).1⟩
theorem attrs_back (l : List Attr) (h : ∀ a ∈ l, attrOk a = true) : attrsL (l.map bodyT) = l := by
  unfold attrsL
  induction l with
  | nil => rfl
  | cons a l ih =>
    rw [List.map_cons, List.filterMap_cons, attr_back (h a (by simp)), ih (fun b hb => h b (by simp [hb]))]
theorem back (r : Raw) (h : checkL r = 0) (hl : (hdT r).length ≤ 400) : rdE (hdT r) = 0 ∧ rdR (hdT r) = r := by
  obtain ⟨⟨h1, h2, h3⟩, h4, h5⟩ := check_zero h
  rw [whole_iff] at h2 h3
  have hn : ∀ c ∈ r.1, c ≠ 61 := fun c hc => by have := (h2.2 c hc).2; simp at this; exact this.1
  have hx : ∀ c ∈ headT r, c ≠ 59 ∧ barU c = false := by
    intro c hc
    unfold headT at hc
    rcases List.mem_append.1 hc with hc | hc
    · rcases List.mem_append.1 hc with hc | hc
      · have := (h2.2 c hc).2; simp at this; exact ⟨this.2, (h2.2 c hc).1⟩
      · simp at hc; subst hc; exact ⟨by decide, by decide⟩
    · have := (h3.2 c hc).2; simp at this; exact ⟨this, (h3.2 c hc).1⟩
  have hp : partsL (hdT r) 59 = headT r :: r.2.2.map bodyT := parts_text _ _ (fun c hc => (hx c hc).1) (fun a ha c hc => (body_no (h4 a ha) c hc).1)
  have eh : headP (hdT r) = headT r := by unfold headP; rw [hp]; rfl
  have et : tailP (hdT r) = r.2.2.map bodyT := by unfold tailP; rw [hp]; rfl
  have e1 : headT r = r.1 ++ 61 :: r.2.1 := by unfold headT; simp
  have en : nameL (headT r) = r.1 := by unfold nameL; rw [e1, cutA_yes _ _ _ hn, h2.1]
  have ev : valueL (headT r) = r.2.1 := by unfold valueL; rw [e1, cutB_yes _ _ _ hn, h3.1]
  have eb : hasB (headT r) 61 = true := by unfold hasB; rw [e1]; simp
  have ea : attrsL (tailP (hdT r)) = r.2.2 := by rw [et]; exact attrs_back _ h4
  have hz : rdE (hdT r) = 0 := by
    refine rdE_intro hl ((hasP_iff _ _).2 fun c hc => ?_) (by rw [eh]; exact eb) (by rw [eh, en]; exact h1) (by rw [ea]; exact h5)
    unfold hdT at hc
    rcases List.mem_append.1 hc with hc | hc
    · exact (hx c hc).2
    · obtain ⟨a, ha, hc⟩ := List.mem_flatMap.1 hc
      rw [attrT_body] at hc
      rcases List.mem_cons.1 hc with rfl | hc
      · decide
      · exact (body_no (h4 a ha) c hc).2
  exact ⟨hz, by rw [rdR_is hz, eh, en, ev, ea]⟩
theorem adds (s : List UInt8) (a : Attr) (h : rdE s = 0) (ha : attrOk a = true) : (rdE (s ++ 59 :: (a.1 ++ 61 :: a.2)) = 0 ∨ rdE (s ++ 59 :: (a.1 ++ 61 :: a.2)) = 2) ∧
    (rdE (s ++ 59 :: (a.1 ++ 61 :: a.2)) = 0 → rdR (s ++ 59 :: (a.1 ++ 61 :: a.2)) = ((rdR s).1, (rdR s).2.1, (rdR s).2.2 ++ [a])) := by
  obtain ⟨h1, h2, h3, h4, h5⟩ := rdE_zero h
  obtain ⟨g1, g2, ⟨g3, g4⟩, ⟨g5, g6⟩⟩ := ok_parts ha
  have hq : ∀ c ∈ a.1 ++ 61 :: a.2, c ≠ 59 ∧ barU c = false := by
    intro c hc
    rcases List.mem_append.1 hc with hc | hc
    · exact ⟨(g4 c hc).2.2, (g4 c hc).1⟩
    · rcases List.mem_cons.1 hc with rfl | hc
      · exact ⟨by decide, by decide⟩
      · exact ⟨(g6 c hc).2, (g6 c hc).1⟩
  have hp : partsL (s ++ 59 :: (a.1 ++ 61 :: a.2)) 59 = headP s :: (tailP s ++ [a.1 ++ 61 :: a.2]) := by
    rw [partsL_append, parts_ht s, partsL_none _ 59 (fun c hc => (hq c hc).1)]; rfl
  have eh : headP (s ++ 59 :: (a.1 ++ 61 :: a.2)) = headP s := by unfold headP; rw [hp]; rfl
  have et : tailP (s ++ 59 :: (a.1 ++ 61 :: a.2)) = tailP s ++ [a.1 ++ 61 :: a.2] := by unfold tailP; rw [hp]; rfl
  have ea : attrsL (tailP (s ++ 59 :: (a.1 ++ 61 :: a.2))) = attrsL (tailP s) ++ [a] := by
    rw [et]; unfold attrsL
    rw [List.filterMap_append]
    have : attrL (a.1 ++ 61 :: a.2) = some a := attr_pair ha [] (.inl rfl)
    simp [this]
  have hb : hasP barU (s ++ 59 :: (a.1 ++ 61 :: a.2)) = false := (hasP_iff _ _).2 fun c hc => by
    rcases List.mem_append.1 hc with hc | hc
    · exact (hasP_iff _ _).1 h2 c hc
    · rcases List.mem_cons.1 hc with rfl | hc
      · decide
      · exact (hq c hc).2
  refine ⟨?_, fun hz => by rw [rdR_is hz, rdR_is h, eh, ea]⟩
  by_cases hl : 400 < (s ++ 59 :: (a.1 ++ 61 :: a.2)).length
  · right; unfold rdE; rw [if_pos hl]
  · by_cases h12 : 12 < (attrsL (tailP s) ++ [a]).length
    · right
      unfold rdE
      rw [if_neg hl, hb, if_neg (by decide), eh, h3, beq_eq_false_iff_ne.2 h4, if_neg (by decide), ea, if_pos h12]
    · left
      exact rdE_intro (by omega) hb (by rw [eh]; exact h3) (by rw [eh]; exact h4) (by rw [ea]; omega)
theorem read_sizes {s : List UInt8} (h : rdE s = 0) : (rdR s).1.length ≤ 400 ∧ (rdR s).2.1.length ≤ 400 ∧ (rdR s).2.2.length ≤ 12 ∧ ∀ a ∈ (rdR s).2.2, a.1.length ≤ 400 ∧ a.2.length ≤ 400 := by
  obtain ⟨h1, h2, h3, h4, h5⟩ := rdE_zero h
  rw [rdR_is h]
  have hh := headP_len s
  refine ⟨?_, ?_, h5, fun a ha => ?_⟩
  · have := nameL_len (headP s); simp only; omega
  · have := valueL_len (headP s); simp only; omega
  · obtain ⟨p, hp, hpa⟩ := mem_attrs ha
    have hl := tailP_len s p hp
    unfold attrL at hpa
    by_cases h0 : nameL p = []
    · rw [if_pos h0] at hpa; cases hpa
    · rw [if_neg h0] at hpa
      injection hpa with hpa
      subst hpa
      have := nameL_len p
      have := valueL_len p
      simp only [foldL_length]
      omega
end Go.Proofs.Ytjoailjedfbnbae
