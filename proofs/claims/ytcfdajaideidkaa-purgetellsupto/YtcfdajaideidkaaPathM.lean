/- The plain functions of bytes that package path and its reference are to compute: a path's default, a match; that a match is an order whose upper sets are chains. No walk. -/
import Derived.Test.YtcfdajaideidkaaKit
import Derived.Lib.Strings
namespace Go.Proofs.Ytcfdajaideidkaa
open Go.RowKit
set_option linter.all false
set_option maxRecDepth 100000

/-- what stands ahead of the last byte 47 -/
def aheadL (p : List UInt8) : List UInt8 := ((p.reverse.dropWhile (fun c => c != 47)).drop 1).reverse
/-- does it begin by a byte 47, and has it another one? -/
def deepB (p : List UInt8) : Bool := p.head? == some 47 && decide (2 ≤ p.count 47)
def defaultL (p : List UInt8) : List UInt8 := if deepB p then aheadL p else [47]
def pmatchL (p o : List UInt8) : Bool := p == o || (Lib.hasPrefix p o && (o.getLast? == some 47 || p[o.length]? == some 47))
theorem pmatch_iff (p o : List UInt8) : pmatchL p o = true ↔ p = o ∨ ∃ c r, p = o ++ c :: r ∧ (o.getLast? = some 47 ∨ c = 47) := by
  unfold pmatchL Lib.hasPrefix
  simp only [Bool.or_eq_true, beq_iff_eq, Bool.and_eq_true, List.isPrefixOf_iff_prefix]
  constructor
  · rintro (h | ⟨⟨r, rfl⟩, h⟩)
    · exact .inl h
    · cases r with
      | nil => exact .inl (by simp)
      | cons c r =>
        refine .inr ⟨c, r, rfl, ?_⟩
        rcases h with h | h
        · exact .inl h
        · right
          rw [List.getElem?_append_right (Nat.le_refl _)] at h
          simpa using h
  · rintro (h | ⟨c, r, rfl, h⟩)
    · exact .inl h
    · refine .inr ⟨⟨c :: r, rfl⟩, ?_⟩
      rcases h with h | h
      · exact .inl h
      · right
        rw [List.getElem?_append_right (Nat.le_refl _)]
        simp [h]
theorem pmatch_self (p : List UInt8) : pmatchL p p = true := (pmatch_iff p p).2 (.inl rfl)
theorem pmatch_anti (a b : List UInt8) (h1 : pmatchL a b = true) (h2 : pmatchL b a = true) : a = b := by
  rcases (pmatch_iff a b).1 h1 with h | ⟨c, r, hx, _⟩
  · exact h
  · rcases (pmatch_iff b a).1 h2 with h | ⟨c', r', hy, _⟩
    · exact h.symm
    · have l1 := congrArg List.length hx
      have l2 := congrArg List.length hy
      simp only [List.length_append, List.length_cons] at l1 l2
      omega
theorem pmatch_trans (a b c : List UInt8) (h1 : pmatchL a b = true) (h2 : pmatchL b c = true) : pmatchL a c = true := by
  rcases (pmatch_iff a b).1 h1 with rfl | ⟨x, r, hx, _⟩
  · exact h2
  · rcases (pmatch_iff b c).1 h2 with rfl | ⟨y, q, hy, hc⟩
    · exact h1
    · refine (pmatch_iff a c).2 (.inr ⟨y, q ++ x :: r, ?_, hc⟩)
      rw [hx, hy]; simp
/-- of two beginnings the longer one begins by the shorter one -/
theorem beg_two (a b x y : List UInt8) (h : a ++ x = b ++ y) (hl : a.length ≤ b.length) : ∃ r, b = a ++ r ∧ x = r ++ y := by
  induction a generalizing b with
  | nil => exact ⟨b, rfl, h⟩
  | cons c a ih =>
    cases b with
    | nil => simp at hl
    | cons d b =>
      simp only [List.cons_append, List.cons.injEq] at h
      obtain ⟨r, e1, e2⟩ := ih b h.2 (by simpa using hl)
      exact ⟨r, by rw [h.1, e1]; rfl, e2⟩
theorem pmatch_down (p a b : List UInt8) (h1 : pmatchL p a = true) (h2 : pmatchL p b = true) (hl : a.length ≤ b.length) : pmatchL b a = true := by
  have pa : ∃ x, p = a ++ x ∧ (x = [] ∨ a.getLast? = some 47 ∨ x.head? = some 47) := by
    rcases (pmatch_iff p a).1 h1 with h | ⟨c, r, h, hc⟩
    · exact ⟨[], by rw [h]; simp, .inl rfl⟩
    · refine ⟨c :: r, h, .inr ?_⟩
      rcases hc with hc | hc
      · exact .inl hc
      · exact .inr (by rw [hc]; rfl)
  have pb : ∃ y, p = b ++ y := by
    rcases (pmatch_iff p b).1 h2 with h | ⟨c, r, h, _⟩
    · exact ⟨[], by rw [h]; simp⟩
    · exact ⟨_, h⟩
  obtain ⟨x, ea, hx⟩ := pa
  obtain ⟨y, eb⟩ := pb
  obtain ⟨r, er, ex⟩ := beg_two a b x y (by rw [← ea, ← eb]) hl
  cases r with
  | nil => exact (pmatch_iff b a).2 (.inl (by rw [er]; simp))
  | cons c r =>
    refine (pmatch_iff b a).2 (.inr ⟨c, r, er, ?_⟩)
    rcases hx with hx | hx | hx
    · rw [hx] at ex; simp at ex
    · exact .inl hx
    · right
      rw [ex] at hx
      simpa using hx
theorem pmatch_chain (p a b : List UInt8) (h1 : pmatchL p a = true) (h2 : pmatchL p b = true) (h3 : pmatchL a b = false) (h4 : pmatchL b a = false) : False := by
  rcases Nat.le_total a.length b.length with hl | hl
  · rw [pmatch_down p a b h1 h2 hl] at h4; cases h4
  · rw [pmatch_down p b a h2 h1 hl] at h3; cases h3
/-- what ends by the last byte 47 and what is behind it -/
theorem ahead_split (p : List UInt8) (h : 47 ∈ p) : ∃ r, p = aheadL p ++ 47 :: r ∧ 47 ∉ r := by
  have key : ∀ q : List UInt8, 47 ∈ q → ∃ r, q = r ++ 47 :: ((q.dropWhile (fun c => c != 47)).drop 1) ∧ 47 ∉ r := by
    intro q
    induction q with
    | nil => intro h; cases h
    | cons c q ih =>
      intro hq
      by_cases hc : c = 47
      · subst hc
        exact ⟨[], by simp, by simp⟩
      · have hq2 : 47 ∈ q := by
          rw [List.mem_cons] at hq
          rcases hq with hq | hq
          · exact absurd hq.symm hc
          · exact hq
        obtain ⟨r, e1, e2⟩ := ih hq2
        refine ⟨c :: r, ?_, ?_⟩
        · rw [List.dropWhile_cons_of_pos (by simpa using hc), List.cons_append, ← e1]
        · rw [List.mem_cons]
          rintro (h | h)
          · exact hc h.symm
          · exact e2 h
  obtain ⟨r, e1, e2⟩ := key p.reverse (by simpa using h)
  refine ⟨r.reverse, ?_, by simpa using e2⟩
  unfold aheadL
  have := congrArg List.reverse e1
  rw [List.reverse_reverse, List.reverse_append, List.reverse_cons, List.append_assoc] at this
  exact this
theorem deep_iff (p : List UInt8) : deepB p = true ↔ p.head? = some 47 ∧ 2 ≤ p.count 47 := by
  unfold deepB
  rw [Bool.and_eq_true, beq_iff_eq, decide_eq_true_eq]
theorem ahead_head (p : List UInt8) (h : deepB p = true) : (aheadL p).head? = some 47 := by
  obtain ⟨h1, h2⟩ := (deep_iff p).1 h
  have hm : 47 ∈ p := List.mem_of_mem_head? (by rw [h1]; rfl)
  obtain ⟨r, e, hr⟩ := ahead_split p hm
  cases ha : aheadL p with
  | nil =>
    rw [ha] at e
    rw [e] at h2
    have : r.count 47 = 0 := List.count_eq_zero.2 hr
    simp [this] at h2
  | cons c l =>
    rw [ha] at e
    rw [e] at h1
    simpa using h1
theorem default_match (p : List UInt8) (h : p.head? = some 47) : pmatchL p (defaultL p) = true := by
  unfold defaultL
  cases hd : deepB p
  · simp only [Bool.false_eq_true, if_false]
    cases p with
    | nil => cases h
    | cons c p =>
      simp at h
      subst h
      cases p with
      | nil => exact pmatch_self _
      | cons d p => exact (pmatch_iff _ _).2 (.inr ⟨d, p, rfl, .inl rfl⟩)
  · simp only [if_true]
    obtain ⟨r, e, _⟩ := ahead_split p (List.mem_of_mem_head? (by rw [h]; rfl))
    exact (pmatch_iff _ _).2 (.inr ⟨47, r, e, .inr rfl⟩)
theorem default_head (p : List UInt8) : (defaultL p).head? = some 47 := by
  unfold defaultL
  cases hd : deepB p
  · rfl
  · simp only [if_true]; exact ahead_head p hd
theorem default_len (p : List UInt8) (h : p.head? = some 47) : (defaultL p).length ≤ p.length := by
  rcases (pmatch_iff _ _).1 (default_match p h) with e | ⟨c, r, e, _⟩
  · rw [← e]; exact Nat.le_refl _
  · have := congrArg List.length e
    rw [List.length_append] at this
    omega
end Go.Proofs.Ytcfdajaideidkaa
