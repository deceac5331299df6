/- Who asks, and cookies, as rows of cells in a block. No walk. The plain laws of headers: what is written is read as it was, what was read may be written, a part more is an attribute more. No walk. The plain functions that package cookie computes: an age, a site, who may ask, what attributes make of a cookie, how long it lasts, for whom it is, what is barred. No walk. Contracts: Age, goodPath, Ready. Contracts: a site's number, the beginning of a cookie, what an attribute says. The contract of begin. -/
import Derived.Test.YtgjjkieljdamfafDoorKit
import Derived.Test.YtgjjkieljdamfafDoorHeaderM
import Derived.Test.YtgjjkieljdamfafDoorHeaderD
import Derived.Test.YtgjjkieljdamfafDoorPathA
import Derived.Test.YtgjjkieljdamfafDoorSuffixE
import Derived.Test.YtgjjkieljdamfafDoorStampD
import Derived.Test.YtgjjkieljdamfafDoorClockB
import Derived.Deep.RegionHeld3
namespace Go.Proofs.YtgjjkieljdamfafDoor
open Go.RowKit
set_option linter.all false
set_option maxRecDepth 100000

/-- who asks: host, path, by a secure way, out of a script, from another site -/
structure Fr where
  host : List UInt8
  path : List UInt8
  secure : Bool
  script : Bool
  abroad : Bool
def frL (f : Fr) : List Value := [.string (txt f.host), .string (txt f.path), .bool f.secure, .bool f.script, .bool f.abroad]
/-- a cookie that is kept -/
structure Ck where
  name : List UInt8
  value : List UInt8
  domain : List UInt8
  path : List UInt8
  hostOnly : Bool
  secure : Bool
  httpOnly : Bool
  lasting : Bool
  site : Int
  expiry : Int
  created : Int
  used : Int
  no : Int
def ckC (c : Ck) : List Value := [.string (txt c.name), .string (txt c.value), .string (txt c.domain), .string (txt c.path), .bool c.hostOnly, .bool c.secure, .bool c.httpOnly, .bool c.lasting, .int .i64 c.site, .int .i64 c.expiry, .int .i64 c.created, .int .i64 c.used, .int .i64 c.no]
def i64B (x : Int) : Prop := -9223372036854775808 ≤ x ∧ x ≤ 9223372036854775807
/-- a cookie whose texts are no longer than that, its numbers those of the machine -/
structure CkOk (m : Nat) (c : Ck) : Prop where
  name : c.name.length ≤ m
  value : c.value.length ≤ m
  domain : c.domain.length ≤ m
  path : c.path.length ≤ m
  site : i64B c.site
  expiry : i64B c.expiry
  created : i64B c.created
  used : i64B c.used
  no : i64B c.no
/-- block B holds these cells, and none of them is frozen -/
structure LRow (W : World) (B : Nat) (l : List Value) : Prop where
  all : ∀ (j : Nat) v, l[j]? = some v → W.cell? ⟨B, j, none⟩ = some v ∧ W.frozen? ⟨B, j, none⟩ = false
theorem LRow.cell {W : World} {B : Nat} {l : List Value} (h : LRow W B l) (j : Nat) {v : Value} (hj : l[j]? = some v) : W.cell? ⟨B, j, none⟩ = some v := (h.all j v hj).1
theorem LRow.frozen {W : World} {B : Nat} {l : List Value} (h : LRow W B l) (j : Nat) {v : Value} (hj : l[j]? = some v) : W.frozen? ⟨B, j, none⟩ = false := (h.all j v hj).2
theorem LRow.below {W W' : World} {A B : Nat} {l : List Value} (h : LRow W B l) (hb : Below A W W') (hA : B < A) : LRow W' B l :=
  ⟨fun j v hj => ⟨(hb.cell (p := ⟨B, j, none⟩) hA).trans (h.all j v hj).1, (hb.frozen (p := ⟨B, j, none⟩) hA).trans (h.all j v hj).2⟩⟩
theorem LRow.drewN {W : World} {B : Nat} {l : List Value} (h : LRow W B l) (n : Nat) : LRow (W.drewN n) B l := ⟨h.all⟩
theorem LRow.set {W : World} {B : Nat} {l : List Value} (h : LRow W B l) (k : Nat) (x : Value) : LRow (W.setCell ⟨B, k, none⟩ x) B (l.set k x) := by
  refine ⟨fun j v hj => ?_⟩
  by_cases e : k = j
  · subst e
    rw [List.getElem?_set_self'] at hj
    cases hk : l[k]? with
    | none => rw [hk] at hj; cases hj
    | some u =>
      rw [hk] at hj
      injection hj with hj
      refine ⟨?_, by rw [World.frozen?_setCell]; exact (h.all k u hk).2⟩
      rw [← hj]
      exact World.cell?_setCell_same _ _ _ (h.all k u hk).1
  · rw [List.getElem?_set_ne e] at hj
    refine ⟨?_, by rw [World.frozen?_setCell]; exact (h.all j v hj).2⟩
    rw [World.cell?_setCell_other _ _ _ _ (by intro e'; injection e' with _ e2; exact e e2)]
    exact (h.all j v hj).1
theorem LRow.new (w : World) (l : List Value) (t : TypeId) : LRow (w.alloc (.cells l.toArray t)) w.heap.size l := by
  refine ⟨fun j v hj => ?_⟩
  have hlt := (List.getElem?_eq_some_iff.1 hj).1
  refine ⟨?_, ?_⟩
  · rw [World.cell?_alloc_new]; simpa using hj
  · simp [hlt]
end Go.Proofs.YtgjjkieljdamfafDoor
namespace Go.Proofs.YtgjjkieljdamfafDoor.hd
open Go.RowKit
set_option linter.all false
set_option maxRecDepth 100000

theorem foldU_twice (c : UInt8) : foldU (foldU c) = foldU c := by
  by_cases h : 65 ≤ (c.toNat : Int) ∧ (c.toNat : Int) ≤ 90
  · have h1 := foldU_yes c h.1 h.2
    exact foldU_no _ (by omega)
  · rw [foldU_no c h]; exact foldU_no c h
theorem foldL_twice (l : List UInt8) : foldL (foldL l) = foldL l := by
  unfold foldL; rw [List.map_map]
  apply List.map_congr_left
  intro c _; exact foldU_twice c
theorem blank_fold (c : UInt8) : blankU (foldU c) = blankU c := by
  by_cases h : 65 ≤ (c.toNat : Int) ∧ (c.toNat : Int) ≤ 90
  · have h1 := foldU_yes c h.1 h.2
    unfold blankU blankB
    have e1 : (((foldU c).toNat : Int) == 32) = false := by rw [beq_eq_false_iff_ne]; omega
    have e2 : (((foldU c).toNat : Int) == 9) = false := by rw [beq_eq_false_iff_ne]; omega
    have e3 : ((c.toNat : Int) == 32) = false := by rw [beq_eq_false_iff_ne]; omega
    have e4 : ((c.toNat : Int) == 9) = false := by rw [beq_eq_false_iff_ne]; omega
    rw [e1, e2, e3, e4]
  · rw [foldU_no c h]
theorem dropWhile_map (l : List UInt8) : (l.map foldU).dropWhile blankU = (l.dropWhile blankU).map foldU := by
  induction l with
  | nil => rfl
  | cons c l ih =>
    by_cases h : blankU c = true
    · have h2 : blankU (foldU c) = true := by rw [blank_fold]; exact h
      simp [h, h2, ih]
    · have h2 : ¬ blankU (foldU c) = true := by rw [blank_fold]; exact h
      simp [h, h2]
theorem trim_fold (l : List UInt8) : foldL (trimL l) = trimL (foldL l) := by
  unfold foldL trimL
  rw [dropWhile_map, ← List.map_reverse, dropWhile_map, List.map_reverse]
theorem dropWhile_twice (l : List UInt8) : (l.dropWhile blankU).dropWhile blankU = l.dropWhile blankU := by
  induction l with
  | nil => rfl
  | cons c l ih =>
    by_cases h : blankU c = true
    · simp [h, ih]
    · simp [h]
/-- behind a trim at the end, the head that is no blank stays -/
theorem head_stays (m : List UInt8) (h : m.dropWhile blankU = m) : (m.reverse.dropWhile blankU).reverse.dropWhile blankU = (m.reverse.dropWhile blankU).reverse := by
  cases m with
  | nil => rfl
  | cons c m =>
    have hc : ¬ blankU c = true := by
      intro hc
      rw [List.dropWhile_cons_of_pos hc] at h
      have := congrArg List.length h
      have h2 := (List.dropWhile_sublist blankU (l := m)).length_le
      simp at this; omega
    have e : ∃ k, ((c :: m).reverse.dropWhile blankU) = k ++ [c] := by
      rw [List.reverse_cons]
      generalize m.reverse = r
      induction r with
      | nil => exact ⟨[], by simp [hc]⟩
      | cons d r ih =>
        by_cases hd : blankU d = true
        · obtain ⟨k, hk⟩ := ih
          exact ⟨k, by rw [List.cons_append, List.dropWhile_cons_of_pos hd, hk]⟩
        · exact ⟨d :: r, by rw [List.cons_append, List.dropWhile_cons_of_neg hd]⟩
    obtain ⟨k, hk⟩ := e
    rw [hk, List.reverse_append]
    simp [hc]
theorem trim_twice (l : List UInt8) : trimL (trimL l) = trimL l := by
  unfold trimL
  rw [head_stays _ (dropWhile_twice l), List.reverse_reverse, dropWhile_twice]
end Go.Proofs.YtgjjkieljdamfafDoor.hd
namespace Go.Proofs.YtgjjkieljdamfafDoor
open Go.RowKit hd
theorem hasP_iff (p : UInt8 → Bool) (l : List UInt8) : hasP p l = false ↔ ∀ c ∈ l, p c = false := by
  unfold hasP; rw [List.any_eq_false]
  simp only [Bool.not_eq_true]
theorem whole_iff (ends s : List UInt8) : wholeL ends s = true ↔ trimL s = s ∧ ∀ c ∈ s, barU c = false ∧ c ∉ ends := by
  unfold wholeL
  rw [Bool.and_eq_true, beq_iff_eq, Bool.not_eq_true', hasP_iff, eq_comm]
  refine and_congr_right fun _ => forall_congr' fun c => forall_congr' fun _ => ?_
  unfold endP
  rw [Bool.or_eq_false_iff, List.contains_eq_mem, decide_eq_false_iff_not]
theorem mem_trim {l : List UInt8} {c : UInt8} (h : c ∈ trimL l) : c ∈ l := by
  unfold trimL at h
  rw [List.mem_reverse] at h
  have h1 := (List.dropWhile_sublist _).subset h
  rw [List.mem_reverse] at h1
  exact (List.dropWhile_sublist _).subset h1
theorem mem_cutA {l : List UInt8} {b c : UInt8} (h : c ∈ cutA l b) : c ∈ l ∧ c ≠ b := by
  refine ⟨(List.takeWhile_sublist _).subset h, ?_⟩
  have := List.all_takeWhile (p := fun c => c != b) (l := l)
  rw [List.all_eq_true] at this
  simpa using this c h
theorem mem_cutB {l : List UInt8} {b c : UInt8} (h : c ∈ cutB l b) : c ∈ l := (List.dropWhile_sublist _).subset (List.mem_of_mem_drop h)
theorem mem_part {s : List UInt8} {b : UInt8} {p : List UInt8} (hp : p ∈ partsL s b) : ∀ c ∈ p, c ∈ s ∧ c ≠ b := by
  induction s generalizing p with
  | nil => simp [partsL] at hp; subst hp; simp
  | cons d s ih =>
    intro c hc
    by_cases h : d = b
    · simp only [partsL, h, if_true, List.mem_cons] at hp
      rcases hp with rfl | hp
      · cases hc
      · obtain ⟨h1, h2⟩ := ih hp c hc
        exact ⟨by simp [h1], h2⟩
    · obtain ⟨q, qs, e1, e2⟩ := partsL_cons d s b h
      rw [e2] at hp
      rw [e1] at ih
      rcases List.mem_cons.1 hp with rfl | hp
      · rcases List.mem_cons.1 hc with rfl | hc
        · exact ⟨by simp, h⟩
        · obtain ⟨h1, h2⟩ := ih (by simp) c hc
          exact ⟨by simp [h1], h2⟩
      · obtain ⟨h1, h2⟩ := ih (p := p) (by simp [hp]) c hc
        exact ⟨by simp [h1], h2⟩
theorem fold_bar (c : UInt8) : barU (foldU c) = barU c := by
  by_cases h : 65 ≤ (c.toNat : Int) ∧ (c.toNat : Int) ≤ 90
  · have h1 := foldU_yes c h.1 h.2
    rw [barU_no c (by omega), barU_no (foldU c) (by omega)]
  · rw [foldU_no c h]
theorem fold_ne (c b : UInt8) (hb : b.toNat < 65) (h : c ≠ b) : foldU c ≠ b := by
  by_cases h2 : 65 ≤ (c.toNat : Int) ∧ (c.toNat : Int) ≤ 90
  · have h1 := foldU_yes c h2.1 h2.2
    intro e; rw [e] at h1; omega
  · rw [foldU_no c h2]; exact h
theorem name_whole {s p : List UInt8} (hs : hasP barU s = false) (hp : p ∈ partsL s 59) : wholeL [61, 59] (nameL p) = true := by
  rw [whole_iff]
  refine ⟨trim_twice _, fun c hc => ?_⟩
  obtain ⟨h1, h2⟩ := mem_cutA (mem_trim hc)
  obtain ⟨h3, h4⟩ := mem_part hp c h1
  exact ⟨(hasP_iff _ _).1 hs c h3, by simp [h2, h4]⟩
theorem value_whole {s p : List UInt8} (hs : hasP barU s = false) (hp : p ∈ partsL s 59) : wholeL [59] (valueL p) = true := by
  rw [whole_iff]
  refine ⟨trim_twice _, fun c hc => ?_⟩
  obtain ⟨h3, h4⟩ := mem_part hp c (mem_cutB (mem_trim hc))
  exact ⟨(hasP_iff _ _).1 hs c h3, by simp [h4]⟩
theorem fold_whole {n : List UInt8} (h : wholeL [61, 59] n = true) : wholeL [61, 59] (foldL n) = true := by
  rw [whole_iff] at h ⊢
  refine ⟨by rw [← trim_fold, h.1], fun c hc => ?_⟩
  unfold foldL at hc
  obtain ⟨d, hd, rfl⟩ := List.mem_map.1 hc
  obtain ⟨h1, h2⟩ := h.2 d hd
  simp only [List.mem_cons, List.not_mem_nil, or_false, not_or] at h2
  refine ⟨by rw [fold_bar]; exact h1, ?_⟩
  simp only [List.mem_cons, List.not_mem_nil, or_false, not_or]
  exact ⟨fold_ne d 61 (by decide) h2.1, fold_ne d 59 (by decide) h2.2⟩
theorem fold_nil {n : List UInt8} (h : n ≠ []) : foldL n ≠ [] := by
  intro e; apply h; unfold foldL at e; exact List.map_eq_nil_iff.1 e
theorem attr_ok {s p : List UInt8} {a : Attr} (hs : hasP barU s = false) (hp : p ∈ partsL s 59) (ha : attrL p = some a) : attrOk a = true := by
  unfold attrL at ha
  by_cases h : nameL p = []
  · rw [if_pos h] at ha; cases ha
  · rw [if_neg h] at ha
    injection ha with ha
    subst ha
    unfold attrOk
    simp only [Bool.and_eq_true, Bool.not_eq_true', beq_eq_false_iff_ne, beq_iff_eq]
    exact ⟨⟨⟨fold_nil h, (foldL_twice _).symm⟩, fold_whole (name_whole hs hp)⟩, value_whole hs hp⟩
theorem rdE_zero {s : List UInt8} (h : rdE s = 0) : s.length ≤ 400 ∧ hasP barU s = false ∧ hasB (headP s) 61 = true ∧ nameL (headP s) ≠ [] ∧ (attrsL (tailP s)).length ≤ 12 := by
  unfold rdE at h
  by_cases h1 : 400 < s.length
  · rw [if_pos h1] at h; cases h
  · rw [if_neg h1] at h
    cases h2 : hasP barU s
    · rw [h2, if_neg (by decide)] at h
      cases h3 : (!hasB (headP s) 61 || (nameL (headP s) == []))
      · rw [h3, if_neg (by decide)] at h
        by_cases h4 : 12 < (attrsL (tailP s)).length
        · rw [if_pos h4] at h; cases h
        · simp only [Bool.or_eq_false_iff, Bool.not_eq_false', beq_eq_false_iff_ne] at h3
          exact ⟨by omega, rfl, h3.1, h3.2, by omega⟩
      · rw [h3, if_pos rfl] at h; cases h
    · rw [h2, if_pos rfl] at h; cases h
theorem rdE_intro {s : List UInt8} (h1 : s.length ≤ 400) (h2 : hasP barU s = false) (h3 : hasB (headP s) 61 = true) (h4 : nameL (headP s) ≠ []) (h5 : (attrsL (tailP s)).length ≤ 12) : rdE s = 0 := by
  unfold rdE
  rw [if_neg (by omega), h2, if_neg (by decide), h3, beq_eq_false_iff_ne.2 h4, if_neg (by decide), if_neg (by omega)]
theorem mem_attrs {ps : List (List UInt8)} {a : Attr} (h : a ∈ attrsL ps) : ∃ p ∈ ps, attrL p = some a := by
  unfold attrsL at h; exact List.mem_filterMap.1 h
theorem rdR_is {s : List UInt8} (h : rdE s = 0) : rdR s = (nameL (headP s), valueL (headP s), attrsL (tailP s)) := by unfold rdR; rw [if_pos h]
theorem rdR_none {s : List UInt8} (h : rdE s ≠ 0) : rdR s = ([], [], []) := by unfold rdR; rw [if_neg h]
theorem read_check {s : List UInt8} (h : rdE s = 0) : checkL (rdR s) = 0 := by
  obtain ⟨h1, h2, h3, h4, h5⟩ := rdE_zero h
  rw [rdR_is h]
  have hp : headP s ∈ partsL s 59 := by rw [parts_ht]; simp
  unfold checkL rawOk headOk
  simp only
  rw [name_whole h2 hp, value_whole h2 hp, beq_eq_false_iff_ne.2 h4]
  rw [show (attrsL (tailP s)).all attrOk = true from by
    rw [List.all_eq_true]
    intro a ha
    obtain ⟨p, hp, hpa⟩ := mem_attrs ha
    exact attr_ok h2 (by rw [parts_ht]; simp [hp]) hpa]
  rw [if_pos (by rfl), if_neg (by omega)]
theorem check_zero {r : Raw} (h : checkL r = 0) : (r.1 ≠ [] ∧ wholeL [61, 59] r.1 = true ∧ wholeL [59] r.2.1 = true) ∧ (∀ a ∈ r.2.2, attrOk a = true) ∧ r.2.2.length ≤ 12 := by
  unfold checkL at h
  cases hr : rawOk r
  · rw [hr, if_neg (by decide)] at h; cases h
  · rw [hr, if_pos rfl] at h
    unfold rawOk headOk at hr
    simp only [Bool.and_eq_true, Bool.not_eq_true', beq_eq_false_iff_ne, List.all_eq_true] at hr
    refine ⟨⟨hr.1.1.1, hr.1.1.2, hr.1.2⟩, hr.2, ?_⟩
    by_cases h4 : 12 < r.2.2.length
    · rw [if_pos h4] at h; cases h
    · omega
def bodyT (a : Attr) : List UInt8 := 32 :: (a.1 ++ (if a.2 = [] then [] else 61 :: a.2))
theorem attrT_body (a : Attr) : attrT a = 59 :: bodyT a := by unfold attrT bodyT; by_cases h : a.2 = [] <;> simp [h]
theorem parts_text (l : List Attr) : ∀ (x : List UInt8), (∀ c ∈ x, c ≠ 59) → (∀ a ∈ l, ∀ c ∈ bodyT a, c ≠ 59) → partsL (x ++ l.flatMap attrT) 59 = x :: l.map bodyT := by
  induction l with
  | nil => intro x hx _; simp [partsL_none x 59 hx]
  | cons a l ih =>
    intro x hx hl
    rw [List.flatMap_cons, attrT_body, List.cons_append, partsL_append, partsL_none x 59 hx, ih (bodyT a) (hl a (by simp)) (fun b hb => hl b (by simp [hb]))]
    rfl
theorem cutA_no (n : List UInt8) (b : UInt8) (h : ∀ c ∈ n, c ≠ b) : cutA n b = n := by
  unfold cutA
  have := List.takeWhile_append_of_pos (p := fun c => c != b) (l₁ := n) (l₂ := []) (fun c hc => by simpa using h c hc)
  simpa using this
theorem drop_no (n r : List UInt8) (b : UInt8) (h : ∀ c ∈ n, c ≠ b) : (n ++ r).dropWhile (fun c => c != b) = r.dropWhile (fun c => c != b) := by
  induction n with
  | nil => rfl
  | cons d n ih =>
    have hd := h d (by simp)
    rw [List.cons_append, List.dropWhile_cons_of_pos (by simpa using hd)]
    exact ih (fun c hc => h c (by simp [hc]))
theorem cutB_no (n : List UInt8) (b : UInt8) (h : ∀ c ∈ n, c ≠ b) : cutB n b = [] := by
  unfold cutB; have := drop_no n [] b h; rw [List.append_nil] at this; rw [this]; rfl
theorem cutA_yes (n v : List UInt8) (b : UInt8) (h : ∀ c ∈ n, c ≠ b) : cutA (n ++ b :: v) b = n := by
  unfold cutA
  rw [List.takeWhile_append_of_pos (fun c hc => by simpa using h c hc)]
  simp
theorem cutB_yes (n v : List UInt8) (b : UInt8) (h : ∀ c ∈ n, c ≠ b) : cutB (n ++ b :: v) b = v := by
  unfold cutB; rw [drop_no n (b :: v) b h]; simp
theorem trim_blank (n : List UInt8) : trimL (32 :: n) = trimL n := by
  unfold trimL; rw [List.dropWhile_cons_of_pos (by decide)]
theorem ok_parts {a : Attr} (h : attrOk a = true) : a.1 ≠ [] ∧ a.1 = foldL a.1 ∧ (trimL a.1 = a.1 ∧ ∀ c ∈ a.1, barU c = false ∧ c ≠ 61 ∧ c ≠ 59) ∧ (trimL a.2 = a.2 ∧ ∀ c ∈ a.2, barU c = false ∧ c ≠ 59) := by
  unfold attrOk at h
  simp only [Bool.and_eq_true, Bool.not_eq_true', beq_eq_false_iff_ne, beq_iff_eq, whole_iff] at h
  obtain ⟨⟨⟨h1, h2⟩, h3⟩, h4⟩ := h
  refine ⟨h1, h2, ⟨h3.1, fun c hc => ?_⟩, ⟨h4.1, fun c hc => ?_⟩⟩
  · obtain ⟨x, y⟩ := h3.2 c hc; simp at y; exact ⟨x, y.1, y.2⟩
  · obtain ⟨x, y⟩ := h4.2 c hc; simp at y; exact ⟨x, y⟩
theorem attr_pair {a : Attr} (h : attrOk a = true) (pre : List UInt8) (hpre : pre = [] ∨ pre = [32]) : attrL (pre ++ (a.1 ++ 61 :: a.2)) = some a := by
  obtain ⟨h1, h2, ⟨h3, h4⟩, ⟨h5, h6⟩⟩ := ok_parts h
  have hp : ∀ c ∈ pre ++ a.1, c ≠ 61 := by
    intro c hc
    rcases List.mem_append.1 hc with hc | hc
    · rcases hpre with rfl | rfl
      · cases hc
      · simp at hc; subst hc; decide
    · exact (h4 c hc).2.1
  have ht : trimL (pre ++ a.1) = a.1 := by
    rcases hpre with rfl | rfl
    · exact h3
    · exact (trim_blank _).trans h3
  unfold attrL nameL valueL
  rw [← List.append_assoc, cutA_yes _ _ _ hp, cutB_yes _ _ _ hp, ht, if_neg h1, ← h2, h5]
theorem attr_back {a : Attr} (h : attrOk a = true) : attrL (bodyT a) = some a := by
  obtain ⟨h1, h2, ⟨h3, h4⟩, ⟨h5, h6⟩⟩ := ok_parts h
  unfold bodyT
  by_cases h0 : a.2 = []
  · rw [if_pos h0, List.append_nil]
    have hp : ∀ c ∈ 32 :: a.1, c ≠ 61 := by
      intro c hc
      rcases List.mem_cons.1 hc with rfl | hc
      · decide
      · exact (h4 c hc).2.1
    unfold attrL nameL valueL
    rw [cutA_no _ _ hp, cutB_no _ _ hp, trim_blank, h3, if_neg h1, ← h2]
    have : trimL [] = [] := rfl
    rw [this, ← h0]
  · rw [if_neg h0]
    exact attr_pair h [32] (.inr rfl)
theorem body_no {a : Attr} (h : attrOk a = true) : ∀ c ∈ bodyT a, c ≠ 59 ∧ barU c = false := by
  obtain ⟨h1, h2, ⟨h3, h4⟩, ⟨h5, h6⟩⟩ := ok_parts h
  intro c hc
  unfold bodyT at hc
  rcases List.mem_cons.1 hc with rfl | hc
  · exact ⟨by decide, by decide⟩
  · rcases List.mem_append.1 hc with hc | hc
    · exact ⟨(h4 c hc).2.2, (h4 c hc).1⟩
    · by_cases h0 : a.2 = []
      · rw [if_pos h0] at hc; cases hc
      · rw [if_neg h0] at hc
        rcases List.mem_cons.1 hc with rfl | hc
        · exact ⟨by decide, by decide⟩
        · exact ⟨(h6 c hc).2, (h6 c hc).1⟩
theorem attrs_back (l : List Attr) (h : ∀ a ∈ l, attrOk a = true) : attrsL (l.map bodyT) = l := by
  unfold attrsL
  induction l with
  | nil => rfl
  | cons a l ih =>
    rw [List.map_cons, List.filterMap_cons, attr_back (h a (by simp)), ih (fun b hb => h b (by simp [hb]))]
theorem back (r : Raw) (h : checkL r = 0) (hl : (hdT r).length ≤ 400) : rdE (hdT r) = 0 ∧ rdR (hdT r) = r := by
  obtain ⟨⟨h1, h2, h3⟩, h4, h5⟩ := check_zero h
  rw [whole_iff] at h2 h3
  have hn : ∀ c ∈ r.1, c ≠ 61 := fun c hc => by have := (h2.2 c hc).2; simp at this; exact this.1
  have hx : ∀ c ∈ headT r, c ≠ 59 ∧ barU c = false := by
    intro c hc
    unfold headT at hc
    rcases List.mem_append.1 hc with hc | hc
    · rcases List.mem_append.1 hc with hc | hc
      · have := (h2.2 c hc).2; simp at this; exact ⟨this.2, (h2.2 c hc).1⟩
      · simp at hc; subst hc; exact ⟨by decide, by decide⟩
    · have := (h3.2 c hc).2; simp at this; exact ⟨this, (h3.2 c hc).1⟩
  have hp : partsL (hdT r) 59 = headT r :: r.2.2.map bodyT := parts_text _ _ (fun c hc => (hx c hc).1) (fun a ha c hc => (body_no (h4 a ha) c hc).1)
  have eh : headP (hdT r) = headT r := by unfold headP; rw [hp]; rfl
  have et : tailP (hdT r) = r.2.2.map bodyT := by unfold tailP; rw [hp]; rfl
  have e1 : headT r = r.1 ++ 61 :: r.2.1 := by unfold headT; simp
  have en : nameL (headT r) = r.1 := by unfold nameL; rw [e1, cutA_yes _ _ _ hn, h2.1]
  have ev : valueL (headT r) = r.2.1 := by unfold valueL; rw [e1, cutB_yes _ _ _ hn, h3.1]
  have eb : hasB (headT r) 61 = true := by unfold hasB; rw [e1]; simp
  have ea : attrsL (tailP (hdT r)) = r.2.2 := by rw [et]; exact attrs_back _ h4
  have hz : rdE (hdT r) = 0 := by
    refine rdE_intro hl ((hasP_iff _ _).2 fun c hc => ?_) (by rw [eh]; exact eb) (by rw [eh, en]; exact h1) (by rw [ea]; exact h5)
    unfold hdT at hc
    rcases List.mem_append.1 hc with hc | hc
    · exact (hx c hc).2
    · obtain ⟨a, ha, hc⟩ := List.mem_flatMap.1 hc
      rw [attrT_body] at hc
      rcases List.mem_cons.1 hc with rfl | hc
      · decide
      · exact (body_no (h4 a ha) c hc).2
  exact ⟨hz, by rw [rdR_is hz, eh, en, ev, ea]⟩
theorem adds (s : List UInt8) (a : Attr) (h : rdE s = 0) (ha : attrOk a = true) : (rdE (s ++ 59 :: (a.1 ++ 61 :: a.2)) = 0 ∨ rdE (s ++ 59 :: (a.1 ++ 61 :: a.2)) = 2) ∧
    (rdE (s ++ 59 :: (a.1 ++ 61 :: a.2)) = 0 → rdR (s ++ 59 :: (a.1 ++ 61 :: a.2)) = ((rdR s).1, (rdR s).2.1, (rdR s).2.2 ++ [a])) := by
  obtain ⟨h1, h2, h3, h4, h5⟩ := rdE_zero h
  obtain ⟨g1, g2, ⟨g3, g4⟩, ⟨g5, g6⟩⟩ := ok_parts ha
  have hq : ∀ c ∈ a.1 ++ 61 :: a.2, c ≠ 59 ∧ barU c = false := by
    intro c hc
    rcases List.mem_append.1 hc with hc | hc
    · exact ⟨(g4 c hc).2.2, (g4 c hc).1⟩
    · rcases List.mem_cons.1 hc with rfl | hc
      · exact ⟨by decide, by decide⟩
      · exact ⟨(g6 c hc).2, (g6 c hc).1⟩
  have hp : partsL (s ++ 59 :: (a.1 ++ 61 :: a.2)) 59 = headP s :: (tailP s ++ [a.1 ++ 61 :: a.2]) := by
    rw [partsL_append, parts_ht s, partsL_none _ 59 (fun c hc => (hq c hc).1)]; rfl
  have eh : headP (s ++ 59 :: (a.1 ++ 61 :: a.2)) = headP s := by unfold headP; rw [hp]; rfl
  have et : tailP (s ++ 59 :: (a.1 ++ 61 :: a.2)) = tailP s ++ [a.1 ++ 61 :: a.2] := by unfold tailP; rw [hp]; rfl
  have ea : attrsL (tailP (s ++ 59 :: (a.1 ++ 61 :: a.2))) = attrsL (tailP s) ++ [a] := by
    rw [et]; unfold attrsL
    rw [List.filterMap_append]
    have : attrL (a.1 ++ 61 :: a.2) = some a := attr_pair ha [] (.inl rfl)
    simp [this]
  have hb : hasP barU (s ++ 59 :: (a.1 ++ 61 :: a.2)) = false := (hasP_iff _ _).2 fun c hc => by
    rcases List.mem_append.1 hc with hc | hc
    · exact (hasP_iff _ _).1 h2 c hc
    · rcases List.mem_cons.1 hc with rfl | hc
      · decide
      · exact (hq c hc).2
  refine ⟨?_, fun hz => by rw [rdR_is hz, rdR_is h, eh, ea]⟩
  by_cases hl : 400 < (s ++ 59 :: (a.1 ++ 61 :: a.2)).length
  · right; unfold rdE; rw [if_pos hl]
  · by_cases h12 : 12 < (attrsL (tailP s) ++ [a]).length
    · right
      unfold rdE
      rw [if_neg hl, hb, if_neg (by decide), eh, h3, beq_eq_false_iff_ne.2 h4, if_neg (by decide), ea, if_pos h12]
    · left
      exact rdE_intro (by omega) hb (by rw [eh]; exact h3) (by rw [eh]; exact h4) (by rw [ea]; omega)
theorem read_sizes {s : List UInt8} (h : rdE s = 0) : (rdR s).1.length ≤ 400 ∧ (rdR s).2.1.length ≤ 400 ∧ (rdR s).2.2.length ≤ 12 ∧ ∀ a ∈ (rdR s).2.2, a.1.length ≤ 400 ∧ a.2.length ≤ 400 := by
  obtain ⟨h1, h2, h3, h4, h5⟩ := rdE_zero h
  rw [rdR_is h]
  have hh := headP_len s
  refine ⟨?_, ?_, h5, fun a ha => ?_⟩
  · have := nameL_len (headP s); simp only; omega
  · have := valueL_len (headP s); simp only; omega
  · obtain ⟨p, hp, hpa⟩ := mem_attrs ha
    have hl := tailP_len s p hp
    unfold attrL at hpa
    by_cases h0 : nameL p = []
    · rw [if_pos h0] at hpa; cases hpa
    · rw [if_neg h0] at hpa
      injection hpa with hpa
      subst hpa
      have := nameL_len p
      have := valueL_len p
      simp only [foldL_length]
      omega
end Go.Proofs.YtgjjkieljdamfafDoor
namespace Go.Proofs.YtgjjkieljdamfafDoor
open Go.RowKit
set_option linter.all false
set_option maxRecDepth 100000

def ageF (n : Nat) (c : UInt8) : Nat := min (10 * n + (c.toNat - 48)) 1000000000000
def ageN (l : List UInt8) : Nat := l.foldl ageF 0
def ageD (s : List UInt8) : List UInt8 := cutP s [45]
def ageV (s : List UInt8) : Int := if (ageD s).all digU then (if Lib.hasPrefix s [45] then -((ageN (ageD s) : Nat) : Int) else ((ageN (ageD s) : Nat) : Int)) else 0
def ageB (s : List UInt8) : Bool := (ageD s).all digU && !(ageD s == [])
theorem ageN_take (l : List UInt8) (k : Nat) (c : UInt8) (h : l[k]? = some c) : ageN (l.take (k + 1)) = ageF (ageN (l.take k)) c := by
  obtain ⟨hk, rfl⟩ := List.getElem?_eq_some_iff.1 h
  unfold ageN
  rw [List.take_succ_eq_append_getElem hk, List.foldl_append]; rfl
theorem ageN_le (l : List UInt8) : ageN l ≤ 1000000000000 := by
  rcases List.eq_nil_or_concat l with rfl | ⟨a, b, rfl⟩
  · simp [ageN]
  · unfold ageN; rw [List.concat_eq_append, List.foldl_append]; exact Nat.min_le_right _ _
def goodP (p : List UInt8) : Bool := decide (p.length ≤ 400) && Lib.hasPrefix p [47] && (checkL ([112, 97, 116, 104], trimL p, []) == 0)
def readyE (f : Fr) (now : Int) : Int := if canB f.host then (if goodP f.path then (if momB now then 0 else 3) else 1) else 1
def siteL (s : List UInt8) : Int := if foldL s = [110, 111, 110, 101] then 1 else if foldL s = [108, 97, 120] then 2 else if foldL s = [115, 116, 114, 105, 99, 116] then 3 else 0
/-- a cookie that is being made -/
structure Mk where
  name : List UInt8
  value : List UInt8
  domain : List UInt8
  path : List UInt8
  hostOnly : Bool
  secure : Bool
  httpOnly : Bool
  lasting : Bool
  site : Int
  expiry : Int
  created : Int
  used : Int
  fr : Fr
  ageN : Int
  ageS : Bool
  expN : Int
  expS : Bool
  dom : List UInt8
  told : Bool
def ckL (m : Mk) : List Value := [.string (txt m.name), .string (txt m.value), .string (txt m.domain), .string (txt m.path), .bool m.hostOnly, .bool m.secure, .bool m.httpOnly, .bool m.lasting, .int .i64 m.site, .int .i64 m.expiry, .int .i64 m.created, .int .i64 m.used, .int .i64 0]
def mkL (m : Mk) : List Value := ckL m ++ frL m.fr ++ [.int .i64 m.ageN, .bool m.ageS, .int .i64 m.expN, .bool m.expS, .string (txt m.dom), .bool m.told]
def beginM (r : Raw) (f : Fr) (now : Int) : Mk := ⟨r.1, r.2.1, [], defaultL f.path, false, false, false, false, 0, 0, now, now, f, 0, false, 0, false, [], false⟩
def takeM (m : Mk) (a : Attr) : Mk :=
  if a.1 = [101, 120, 112, 105, 114, 101, 115] then (if readE a.2 = 0 then { m with expN := readV a.2, expS := true } else m)
  else if a.1 = [109, 97, 120, 45, 97, 103, 101] then (if ageB a.2 then { m with ageN := ageV a.2, ageS := true } else m)
  else if a.1 = [100, 111, 109, 97, 105, 110] then (if cutP a.2 [46] = [] then m else { m with dom := cutP a.2 [46] })
  else if a.1 = [112, 97, 116, 104] then { m with path := if Lib.hasPrefix a.2 [47] then a.2 else defaultL m.fr.path, told := true }
  else if a.1 = [115, 101, 99, 117, 114, 101] then { m with secure := true }
  else if a.1 = [104, 116, 116, 112, 111, 110, 108, 121] then { m with httpOnly := true }
  else if a.1 = [115, 97, 109, 101, 115, 105, 116, 101] then { m with site := siteL a.2 }
  else m
def expiryM (m : Mk) : Mk := { m with lasting := m.ageS || m.expS, expiry := if m.ageS then (if 0 < m.ageN then addN m.created m.ageN else -11644473600) else if m.expS then m.expN else 253402300799 }
/-- may it be set for that domain: 0 yes, as it is; 1 no host; 8 not let; and for whom -/
def domE (l : Rules) (m : Mk) : Int := if m.dom = [] then 0 else if canonE m.dom = 0 then (if canonL m.dom = pubA l (canonL m.dom) then (if canonL m.dom = m.fr.host then 0 else 8) else if matchL m.fr.host (canonL m.dom) then 0 else 8) else 1
def domOwn (l : Rules) (m : Mk) : Bool := decide (m.dom = []) || decide (canonL m.dom = pubA l (canonL m.dom))
def domM (l : Rules) (m : Mk) : Mk := if domE l m = 0 then (if domOwn l m then { m with domain := m.fr.host, hostOnly := true } else { m with domain := canonL m.dom, hostOnly := false }) else { m with domain := m.fr.host, hostOnly := true }
def barM (m : Mk) : Bool := (m.httpOnly && m.fr.script) || (m.secure && !m.fr.secure) ||
  (if Lib.hasPrefix (foldL m.name) [95, 95, 115, 101, 99, 117, 114, 101, 45] then !m.secure else
    (Lib.hasPrefix (foldL m.name) [95, 95, 104, 111, 115, 116, 45] && (!m.secure || !(m.dom == []) || !(m.path == [47]) || !m.told)))
def madeM (l : Rules) (r : Raw) (f : Fr) (now : Int) : Mk := domM l (expiryM (r.2.2.foldl takeM (beginM r f now)))
def makeE (l : Rules) (r : Raw) (f : Fr) (now : Int) : Int := if sufE l = 0 then (if checkL r = 0 then (if readyE f now = 0 then (if domE l (expiryM (r.2.2.foldl takeM (beginM r f now))) = 0 then (if barM (madeM l r f now) then 8 else 0) else domE l (expiryM (r.2.2.foldl takeM (beginM r f now)))) else readyE f now) else checkL r) else sufE l
end Go.Proofs.YtgjjkieljdamfafDoor
namespace Go.Proofs.YtgjjkieljdamfafDoor
open Go.RowKit
set_option linter.all false
set_option maxRecDepth 100000

theorem dig_no (c : UInt8) (h : digU c = false) : (c.toNat : Int) < 48 ∨ 57 < (c.toNat : Int) := by
  unfold digU at h
  simp only [Bool.and_eq_false_iff, decide_eq_false_iff_not] at h
  omega
theorem dig_yes (c : UInt8) (h : digU c = true) : 48 ≤ (c.toNat : Int) ∧ (c.toNat : Int) ≤ 57 := by
  unfold digU at h
  simp only [Bool.and_eq_true, decide_eq_true_eq] at h
  omega
set_option maxHeartbeats 2000000 in
theorem age_any (s : ByteArray) (w : World) (hs : s.size ≤ maxLen) :
    Calls Tryd.prog 14 #[.string s] w fun e w' => e = .returned (.tuple #[.int .i64 (ageV s.data.toList), .bool (ageB s.data.toList)]) ∧ w' = w := by
  have HS : Hid _ := hs
  obtain ⟨d, hd⟩ : ∃ d, d = ageD s.data.toList := ⟨_, rfl⟩
  obtain ⟨b, hb⟩ : ∃ b, b = Lib.hasPrefix s.data.toList [45] := ⟨_, rfl⟩
  have hdl : (txt d).size ≤ 9223372036854775807 := by
    show d.length ≤ _
    rw [hd]; unfold ageD cutP
    have h : s.data.toList.length ≤ 9223372036854775807 := hs
    by_cases hp : Lib.hasPrefix s.data.toList [45] = true
    · rw [if_pos hp, List.length_drop]; omega
    · rw [if_neg hp]; exact h
  have HV : Hid (ageV s.data.toList = if d.all digU then (if b then -((ageN d : Nat) : Int) else ((ageN d : Nat) : Int)) else 0) := by show _ = _; unfold ageV; rw [← hd, ← hb]
  have HB : Hid (ageB s.data.toList = (d.all digU && !(d == []))) := by show _ = _; unfold ageB; rw [← hd]
  have HD : Hid (cutP s.data.toList (⟨#[45]⟩ : ByteArray).data.toList = d) := hd.symm
  have HP : Hid (Lib.hasPrefix s.data.toList (⟨#[45]⟩ : ByteArray).data.toList = b) := hb.symm
  clear hd hb
  go_enter Tryd.func14, Tryd.ntmps14
  go_wp2_with fail
  refine (cutP_any _ _ _ HS.out).mono ?_
  rw [HD.out, HP.out]
  rintro e w' ⟨rfl, rfl⟩
  go_wp2_with fail
  go_loop [6, 15] (fun n i => ∃ (k : Nat) (m : Nat), k ≤ (txt d).size ∧ i = .int .i64 k ∧ n = .int .i64 m ∧ m ≤ 1000000000000 ∧ Hid (m = ageN (d.take k)) ∧ Hid (∀ (j : Nat) c, d[j]? = some c → j < k → digU c = true)) (fun n i => (txt d).size - (intOf i).toNat)
  case atStart => exact ⟨0, 0, Nat.zero_le _, rfl, rfl, by omega, rfl, fun _ _ _ h => absurd h (by omega)⟩
  case round =>
    obtain ⟨k, m, hk, rfl, rfl, hm, hmk, hall⟩ := hrel
    by_cases hlt : k < (txt d).size
    · have HG : Hid (d[k]? = some (txt d)[k]) := get_of (txt d) k hlt
      have hl := u8_lt (txt d)[k]
      cases hdg : digU (txt d)[k]
      · have hno := dig_no _ hdg
        have HF : Hid (d.all digU = false) := by
          show _ = _
          rw [List.all_eq_false]; exact ⟨_, List.mem_of_getElem? HG.out, by rw [hdg]; decide⟩
        have HE1 : Hid (ageV s.data.toList = 0) := by show _ = _; rw [HV.out, HF.out]; rfl
        have HE2 : Hid (ageB s.data.toList = false) := by show _ = _; rw [HB.out, HF.out]; rfl
        clear hdg
        rcases hno with hno | hno
        · go_wp2_with fail
          go_ret2
          refine ⟨?_, rfl⟩
          rw [HE1.out, HE2.out]; rfl
        · go_wp2_with fail
          go_ret2
          refine ⟨?_, rfl⟩
          rw [HE1.out, HE2.out]; rfl
      · obtain ⟨y1, y2⟩ := dig_yes _ hdg
        have HT : Hid (ageN (d.take (k + 1)) = ageF m (txt d)[k]) := by show _ = _; rw [ageN_take d k _ HG.out, ← hmk.out]
        have HDG : Hid _ := hdg
        clear hdg
        go_wp2_with fail
        go_round
        case rel =>
          refine ⟨k + 1, ageF m (txt d)[k], by omega, by go_num, ?_, Nat.min_le_right _ _, HT.out.symm, fun j c hj hlt2 => ?_⟩
          · unfold ageF
            congr 1
            omega
          · by_cases e : j = k
            · subst e
              rw [HG.out] at hj
              injection hj with hj
              rw [← hj]; exact HDG.out
            · exact hall.out j c hj (by omega)
        case measure => simp [intOf]; omega
    · have HA : Hid (d.all digU = true) := by
        show _ = _
        rw [List.all_eq_true]; intro c hc
        obtain ⟨j, hj⟩ := List.getElem?_of_mem hc
        exact hall.out j c hj (by have := (List.getElem?_eq_some_iff.1 hj).1; have e : (txt d).size = d.length := rfl; omega)
      have HM : Hid (m = ageN d) := by
        show _ = _
        rw [hmk.out, List.take_of_length_le (by have e : (txt d).size = d.length := rfl; omega)]
      have HV2 : Hid (ageV s.data.toList = if b then -((m : Nat) : Int) else ((m : Nat) : Int)) := by show _ = _; rw [HV.out, HA.out, HM.out]; rfl
      have HB2 : Hid (ageB s.data.toList = !(d == [])) := by show _ = _; rw [HB.out, HA.out]; rfl
      by_cases h0 : d = []
      · have z1 := nil_t d h0
        have z2 : ((txt d).toList != []) = false := by simp only [bne, z1]; rfl
        have HB3 : Hid (ageB s.data.toList = false) := by show _ = _; rw [HB2.out, h0]; rfl
        clear h0
        cases b
        · go_wp2_with fail
          go_ret2
          refine ⟨?_, rfl⟩
          rw [HV2.out, HB3.out]; rfl
        · go_wp2_with fail
          go_ret2
          refine ⟨?_, rfl⟩
          rw [HV2.out, HB3.out]; rfl
      · have z1 := nil_f d h0
        have z2 : ((txt d).toList != []) = true := by simp only [bne, z1]; rfl
        have HB3 : Hid (ageB s.data.toList = true) := by show _ = _; rw [HB2.out, beq_eq_false_iff_ne.2 h0]; rfl
        clear h0
        cases b
        · go_wp2_with fail
          go_ret2
          refine ⟨?_, rfl⟩
          rw [HV2.out, HB3.out]; rfl
        · go_wp2_with fail
          go_ret2
          refine ⟨?_, rfl⟩
          rw [HV2.out, HB3.out]; rfl
set_option maxHeartbeats 1000000 in
theorem goodPath_any (s : ByteArray) (w : World) (hs : s.size ≤ maxLen) :
    Calls Tryd.prog 27 #[.string s] w fun e w' => e = .returned (.bool (goodP s.data.toList)) ∧ Below w.heap.size w w' := by
  have HS : Hid _ := hs
  unfold maxLen at hs
  obtain ⟨p, hp⟩ : ∃ p, p = Lib.hasPrefix s.data.toList [47] := ⟨_, rfl⟩
  obtain ⟨t, ht⟩ : ∃ t, t = trimL s.data.toList := ⟨_, rfl⟩
  obtain ⟨z, hz⟩ : ∃ z, z = checkL ([112, 97, 116, 104], t, []) := ⟨_, rfl⟩
  have HG : Hid (goodP s.data.toList = (decide (s.size ≤ 400) && p && (z == 0))) := by show _ = _; unfold goodP; rw [hz, ht, hp]; rfl
  have HP : Hid (Lib.hasPrefix s.data.toList (⟨#[47]⟩ : ByteArray).data.toList = p) := hp.symm
  have HT : Hid _ := ht
  have HZ : Hid _ := hz
  have HTL : Hid (t.length ≤ maxLen) := by rw [ht]; exact Nat.le_trans (trimL_len _) HS.out
  clear hp ht hz
  by_cases h4 : 400 < s.size
  · have HE : Hid (goodP s.data.toList = false) := by show _ = _; rw [HG.out, decide_eq_false (by omega)]; rfl
    go_enter Tryd.func27, Tryd.ntmps27
    go_wp2_with fail
    go_ret
    refine ⟨?_, Below.refl _ _⟩
    rw [HE.out]; rfl
  · cases p
    · have HE : Hid (goodP s.data.toList = false) := by show _ = _; rw [HG.out]; simp
      go_enter Tryd.func27, Tryd.ntmps27
      go_wp2_with fail
      refine (pre_any _ _ _ HS.out).mono ?_
      rw [HP.out]
      rintro e w' ⟨rfl, rfl⟩
      go_wp2_with fail
      go_ret
      refine ⟨?_, Below.refl _ _⟩
      rw [HE.out]; rfl
    · have HE : Hid (goodP s.data.toList = (z == 0)) := by show _ = _; rw [HG.out, decide_eq_true (by omega)]; rfl
      go_enter Tryd.func27, Tryd.ntmps27
      go_wp2_with fail
      refine (pre_any _ _ _ HS.out).mono ?_
      rw [HP.out]
      rintro e w' ⟨rfl, rfl⟩
      go_wp2_with fail
      refine (trim_any _ _ HS.out).mono ?_
      rw [← HT.out]
      rintro e w' ⟨rfl, rfl⟩
      go_wp2_with fail
      refine (hCheck_any _ ([112, 97, 116, 104], t, []) _ (rows_nil _ _) (by simp) (by show 4 ≤ maxLen; decide) HTL.out (by simp)).mono ?_
      rw [← HZ.out]
      rintro e w1 ⟨rfl, hb1⟩
      go_wp2_with fail
      go_ret
      refine ⟨?_, hb1⟩
      rw [HE.out]; rfl
theorem canB_i (h : List UInt8) : canB h = true ↔ canonE h = 0 ∧ canonL h = h := by unfold canB; simp
set_option maxHeartbeats 1000000 in
theorem ready_any (f : Fr) (now : Int) (w : World) (hh : f.host.length ≤ maxLen) (hp : f.path.length ≤ maxLen) (hnow : -9223372036854775808 ≤ now ∧ now ≤ 9223372036854775807) :
    Calls Tryd.prog 15 #[.agg (frL f).toArray, .int .i64 now] w fun e w' => e = .returned (.int .i64 (readyE f now)) ∧ Below w.heap.size w w' := by
  obtain ⟨h, p, b1, b2, b3⟩ := f
  have HH : Hid ((txt h).size ≤ maxLen) := hh
  have HP : Hid ((txt p).size ≤ maxLen) := hp
  simp only [frL]
  have hb0 : Below w.heap.size w (w.alloc (.cells #[.string (txt h), .string (txt p), .bool b1, .bool b2, .bool b3] 27)) := (Below.refl _ _).alloc (Nat.le_refl _) _
  have L0 : Hid (LRow (w.alloc (.cells #[.string (txt h), .string (txt p), .bool b1, .bool b2, .bool b3] 27)) w.heap.size [.string (txt h), .string (txt p), .bool b1, .bool b2, .bool b3]) := LRow.new w [.string (txt h), .string (txt p), .bool b1, .bool b2, .bool b3] _
  obtain ⟨ce, hce⟩ : ∃ x, x = canonE h := ⟨_, rfl⟩
  obtain ⟨cl, hcl⟩ : ∃ x, x = canonL h := ⟨_, rfl⟩
  obtain ⟨g, hg⟩ : ∃ x, x = goodP p := ⟨_, rfl⟩
  have HCE : Hid _ := hce
  have HCL : Hid _ := hcl
  have HG : Hid _ := hg
  have HR : Hid (readyE ⟨h, p, b1, b2, b3⟩ now = if canB h then (if g then (if momB now then 0 else 3) else 1) else 1) := by show _ = _; unfold readyE; rw [← hg]
  have HCB : Hid (canB h = true ↔ ce = 0 ∧ cl = h) := by show _ ↔ _; rw [canB_i, hce, hcl]
  clear hce hcl hg hh hp
  obtain ⟨r, hr⟩ : ∃ r, r = readyE ⟨h, p, b1, b2, b3⟩ now := ⟨_, rfl⟩
  rw [← hr] at HR ⊢
  clear hr
  by_cases h0 : ce = 0
  · by_cases h1 : cl = h
    · have HC : Hid (canB h = true) := HCB.out.2 ⟨h0, h1⟩
      have z1 := same_t cl h h1
      have z2 : ((txt cl).toList != (txt h).toList) = false := by simp only [bne, z1]; rfl
      clear h1
      subst h0
      cases g
      · have HE : Hid (r = 1) := by show _ = _; rw [HR.out, HC.out]; rfl
        go_enter Tryd.func15, Tryd.ntmps15
        go_wp2_with fail
        refine (canon_any _ _ HH.out).mono ?_
        rw [txt_toList, ← HCE.out, ← HCL.out]
        rintro e w1 ⟨rfl, h1⟩
        have L1 := L0.out.below h1 (by simp)
        have c0 := L1.cell 0 rfl
        have c1 := L1.cell 1 rfl
        clear L1
        go_wp2_with fail
        refine (goodPath_any _ _ HP.out).mono ?_
        rw [txt_toList, ← HG.out]
        rintro e w2 ⟨rfl, h2⟩
        go_wp2_with fail
        go_ret
        refine ⟨?_, next (next hb0 h1) h2⟩
        rw [HE.out]; rfl
      · cases hm : momB now
        · have HE : Hid (r = 3) := by show _ = _; rw [HR.out, HC.out, hm]; rfl
          have HM : Hid _ := hm
          clear hm
          go_enter Tryd.func15, Tryd.ntmps15
          go_wp2_with fail
          refine (canon_any _ _ HH.out).mono ?_
          rw [txt_toList, ← HCE.out, ← HCL.out]
          rintro e w1 ⟨rfl, h1⟩
          have L1 := L0.out.below h1 (by simp)
          have c0 := L1.cell 0 rfl
          have c1 := L1.cell 1 rfl
          clear L1
          go_wp2_with fail
          refine (goodPath_any _ _ HP.out).mono ?_
          rw [txt_toList, ← HG.out]
          rintro e w2 ⟨rfl, h2⟩
          go_wp2_with fail
          refine (add_no now 0 HM.out _).mono ?_
          rintro e w3 ⟨rfl, rfl⟩
          go_wp2_with fail
          go_ret
          refine ⟨?_, next (next hb0 h1) h2⟩
          rw [HE.out]; rfl
        · have HE : Hid (r = 0) := by show _ = _; rw [HR.out, HC.out, hm]; rfl
          have HM : Hid _ := hm
          clear hm
          go_enter Tryd.func15, Tryd.ntmps15
          go_wp2_with fail
          refine (canon_any _ _ HH.out).mono ?_
          rw [txt_toList, ← HCE.out, ← HCL.out]
          rintro e w1 ⟨rfl, h1⟩
          have L1 := L0.out.below h1 (by simp)
          have c0 := L1.cell 0 rfl
          have c1 := L1.cell 1 rfl
          clear L1
          go_wp2_with fail
          refine (goodPath_any _ _ HP.out).mono ?_
          rw [txt_toList, ← HG.out]
          rintro e w2 ⟨rfl, h2⟩
          go_wp2_with fail
          refine (add_yes now 0 HM.out (by decide) _).mono ?_
          rintro e w3 ⟨rfl, rfl⟩
          go_wp2_with fail
          go_ret
          refine ⟨?_, next (next hb0 h1) h2⟩
          rw [HE.out]; rfl
    · have z1 := same_f cl h h1
      have z2 : ((txt cl).toList != (txt h).toList) = true := by simp only [bne, z1]; rfl
      have HE : Hid (r = 1) := by
        show _ = _
        rw [HR.out, if_neg (fun e => h1 (HCB.out.1 e).2)]
      clear h1
      subst h0
      go_enter Tryd.func15, Tryd.ntmps15
      go_wp2_with fail
      refine (canon_any _ _ HH.out).mono ?_
      rw [txt_toList, ← HCE.out, ← HCL.out]
      rintro e w1 ⟨rfl, h1⟩
      have L1 := L0.out.below h1 (by simp)
      have c0 := L1.cell 0 rfl
      clear L1
      go_wp2_with fail
      go_ret
      refine ⟨?_, next hb0 h1⟩
      rw [HE.out]; rfl
  · have z1 : (ce != 0) = true := by rw [bne_iff_ne]; exact h0
    have HE : Hid (r = 1) := by
      show _ = _
      rw [HR.out, if_neg (fun e => h0 (HCB.out.1 e).1)]
    clear h0
    go_enter Tryd.func15, Tryd.ntmps15
    go_wp2_with fail
    refine (canon_any _ _ HH.out).mono ?_
    rw [txt_toList, ← HCE.out, ← HCL.out]
    rintro e w1 ⟨rfl, h1⟩
    go_wp2_with fail
    go_ret
    refine ⟨?_, next hb0 h1⟩
    rw [HE.out]; rfl
end Go.Proofs.YtgjjkieljdamfafDoor
namespace Go.Proofs.YtgjjkieljdamfafDoor
open Go.RowKit
set_option linter.all false
set_option maxRecDepth 100000

/-- what the package's own tables hold -/
structure CTabs (w : World) : Prop where
  st : STabs w
  sites : ∀ (k : Nat) x, ([[], [110, 111, 110, 101], [108, 97, 120], [115, 116, 114, 105, 99, 116]] : List (List UInt8))[k]? = some x → w.cell? ⟨0, k, none⟩ = some (.string (txt x))
theorem CTabs.below {w w' : World} {A : Nat} (T : CTabs w) (hb : Below A w w') (hA : w.heap.size ≤ A) : CTabs w' :=
  ⟨T.st.below hb hA, fun k x hx => (hb.cell (p := ⟨0, k, none⟩) (Nat.lt_of_lt_of_le (cell_in (T.sites k x hx)) hA)).trans (T.sites k x hx)⟩
set_option maxHeartbeats 1000000 in
theorem site_any (s : ByteArray) (w : World) (hs : s.size ≤ maxLen) (T : CTabs w) :
    Calls Tryd.prog 36 #[.string s] w fun e w' => e = .returned (.int .i64 (siteL s.data.toList)) ∧ Below w.heap.size w w' := by
  have HS : Hid _ := hs
  have HT : Hid _ := T
  obtain ⟨f, hf⟩ : ∃ f, f = foldL s.data.toList := ⟨_, rfl⟩
  have HF : Hid _ := hf
  have HV : Hid (siteL s.data.toList = if f = [110, 111, 110, 101] then 1 else if f = [108, 97, 120] then 2 else if f = [115, 116, 114, 105, 99, 116] then 3 else 0) := by show _ = _; unfold siteL; rw [← hf]
  clear hf T
  go_enter Tryd.func36, Tryd.ntmps36
  go_wp2_with fail
  refine (fold_any _ _ HS.out).mono ?_
  rw [← HF.out]
  rintro e w1 ⟨rfl, hb1⟩
  have T1 := HT.out.below hb1 (Nat.le_refl _)
  have t0 := T1.sites 0 _ rfl
  have t1 := T1.sites 1 _ rfl
  have t2 := T1.sites 2 _ rfl
  have t3 := T1.sites 3 _ rfl
  clear T1
  go_wp2_with fail
  go_loop [6] (fun i => ∃ k : Nat, k ≤ 4 ∧ i = .int .i64 k ∧ Hid (∀ (j : Nat) x, j < k → ([[], [110, 111, 110, 101], [108, 97, 120], [115, 116, 114, 105, 99, 116]] : List (List UInt8))[j]? = some x → x ≠ f)) (fun i => 4 - (intOf i).toNat)
  case atStart => exact ⟨0, by omega, rfl, fun _ _ h => absurd h (by omega)⟩
  case round =>
    obtain ⟨k, hk, rfl, hall⟩ := hrel
    by_cases hlt : k < 4
    · obtain ⟨x, hx⟩ : ∃ x, ([[], [110, 111, 110, 101], [108, 97, 120], [115, 116, 114, 105, 99, 116]] : List (List UInt8))[k]? = some x := ⟨_, List.getElem?_eq_getElem hlt⟩
      have tk := (HT.out.below hb1 (Nat.le_refl _)).sites k x hx
      have HX : Hid _ := hx
      clear hx t0 t1 t2 t3
      by_cases he : x = f
      · have z1 := same_t x f he
        have HR : Hid ((k : Int) = siteL s.data.toList) := by
          show _ = _
          rw [HV.out, ← he]
          have h4 : k = 0 ∨ k = 1 ∨ k = 2 ∨ k = 3 := by omega
          have hx := HX.out
          rcases h4 with rfl | rfl | rfl | rfl <;> (simp at hx; subst hx; rfl)
        clear he
        go_wp2_with fail
        go_ret
        refine ⟨?_, hb1⟩
        rw [← HR.out]; rfl
      · have z1 := same_f x f he
        have HE : Hid _ := he
        clear he
        go_wp2_with fail
        go_round
        case rel =>
          refine ⟨k + 1, by omega, by go_num, fun j y hj hy => ?_⟩
          by_cases e : j = k
          · subst e; rw [HX.out] at hy; injection hy with hy; rw [← hy]; exact HE.out
          · exact hall.out j y (by omega) hy
        case measure => simp [intOf]; omega
    · have HR : Hid (siteL s.data.toList = 0) := by
        show _ = _
        rw [HV.out, if_neg (fun e => hall.out 1 _ (by omega) rfl e.symm), if_neg (fun e => hall.out 2 _ (by omega) rfl e.symm), if_neg (fun e => hall.out 3 _ (by omega) rfl e.symm)]
      go_wp2_with fail
      go_ret
      refine ⟨?_, hb1⟩
      rw [HR.out]; rfl
set_option maxHeartbeats 1000000 in
theorem takePath_any (m : Mk) (B : Nat) (p : List UInt8) (w : World) (hr : LRow w B (mkL m)) (hp : p.length ≤ maxLen) (hf : m.fr.path.length ≤ maxLen) :
    Calls Tryd.prog 35 #[.pointer (some ⟨B, 0, none⟩), .string (txt p)] w fun e w' => (∃ v, e = .returned v) ∧ LRow w' B (mkL { m with path := if Lib.hasPrefix p [47] then p else defaultL m.fr.path, told := true }) ∧ ∃ x y, w' = (w.setCell ⟨B, 3, none⟩ x).setCell ⟨B, 23, none⟩ y := by
  have HP : Hid ((txt p).size ≤ maxLen) := hp
  have HF : Hid ((txt m.fr.path).size ≤ maxLen) := hf
  have HR : Hid _ := hr
  have c3 := hr.cell 3 rfl
  have f3 := hr.frozen 3 rfl
  have c14 := hr.cell 14 rfl
  have c23 := hr.cell 23 rfl
  have f23 := hr.frozen 23 rfl
  obtain ⟨b, hb⟩ : ∃ b, b = Lib.hasPrefix p [47] := ⟨_, rfl⟩
  have HB : Hid (Lib.hasPrefix (txt p).data.toList (⟨#[47]⟩ : ByteArray).data.toList = b) := hb.symm
  rw [← hb]
  clear hb hr hp hf
  cases b
  · go_enter Tryd.func35, Tryd.ntmps35
    go_wp2_with fail
    refine (pre_any _ _ _ HP.out).mono ?_
    rw [HB.out]
    rintro e w' ⟨rfl, rfl⟩
    go_wp2_with fail
    refine (default_any _ _ HF.out).mono ?_
    rw [txt_toList]
    rintro e w' ⟨rfl, rfl⟩
    go_wp2_with fail
    go_end0
    exact ⟨⟨_, rfl⟩, (HR.out.set 3 _).set 23 _, _, _, rfl⟩
  · go_enter Tryd.func35, Tryd.ntmps35
    go_wp2_with fail
    refine (pre_any _ _ _ HP.out).mono ?_
    rw [HB.out]
    rintro e w' ⟨rfl, rfl⟩
    go_wp2_with fail
    go_end0
    exact ⟨⟨_, rfl⟩, (HR.out.set 3 _).set 23 _, _, _, rfl⟩
end Go.Proofs.YtgjjkieljdamfafDoor
namespace Go.Proofs.YtgjjkieljdamfafDoor
open Go.RowKit
set_option linter.all false
set_option maxRecDepth 100000

theorem LRow.newAt (w : World) (l : List Value) (cs : Array Value) (t : TypeId) (B : Nat) (hB : B = w.heap.size) (h : cs.toList = l) : LRow (w.alloc (.cells cs t)).drew B l := by
  subst hB h
  exact ⟨(LRow.new w cs.toList t).all⟩
set_option maxHeartbeats 2000000 in
theorem begin_any (va : Value) (r : Raw) (f : Fr) (now : Int) (w : World) (hp : f.path.length ≤ maxLen) (hva : ∃ ad n c, va = .slice ad n c) :
    Calls Tryd.prog 18 #[.agg #[.string (txt r.1), .string (txt r.2.1), va], .agg (frL f).toArray, .int .i64 now] w fun e w' => ∃ B, e = .returned (.pointer (some ⟨B, 0, none⟩)) ∧ LRow w' B (mkL (beginM r f now)) ∧ w.heap.size ≤ B ∧ Below w.heap.size w w' := by
  obtain ⟨n, v, l⟩ := r
  obtain ⟨h, p, b1, b2, b3⟩ := f
  obtain ⟨ad, k, c, rfl⟩ := hva
  have HP : Hid ((txt p).size ≤ maxLen) := hp
  clear hp
  simp only [frL]
  go_enter Tryd.func18, Tryd.ntmps18
  go_wp2_with fail
  go_region_held3 (fun w' => w'.cell? ⟨w.heap.size, 0, none⟩ = some (.string (txt n)) ∧ w'.cell? ⟨w.heap.size, 1, none⟩ = some (.string (txt v))) (go_keep) (fail)
  all_goals go_wp2_with fail
  all_goals (refine (default_any _ _ HP.out).mono ?_; rw [txt_toList]; rintro e w' ⟨rfl, rfl⟩)
  all_goals go_wp2_with fail
  all_goals go_ret
  all_goals refine ⟨_, rfl, ?_, by omega, ?_⟩
  all_goals first | exact LRow.newAt _ _ _ _ _ (by simp) rfl | exact ((((Below.refl _ _).alloc (Nat.le_refl _) _).alloc (by simp) _).alloc (by simp; omega) _).drew
end Go.Proofs.YtgjjkieljdamfafDoor
