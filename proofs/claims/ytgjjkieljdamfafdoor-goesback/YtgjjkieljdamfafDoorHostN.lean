/- What a host matches, and its ups: told plainly. No walk. -/
import Derived.Test.YtgjjkieljdamfafDoorSuffixM
namespace Go.Proofs.YtgjjkieljdamfafDoor
open Go.RowKit
set_option linter.all false
set_option maxRecDepth 100000

theorem mt_iff (a b : List UInt8) : matchL a b = true ↔ a = b ∨ ((∃ x, a = x ++ 46 :: b) ∧ addrL a = false) := by
  unfold matchL
  simp only [Bool.or_eq_true, beq_iff_eq, Bool.and_eq_true, Bool.not_eq_true']
  have e : Lib.hasSuffix a (46 :: b) = true ↔ ∃ x, a = x ++ 46 :: b := by
    unfold Lib.hasSuffix
    rw [List.isSuffixOf_iff_suffix]
    exact ⟨fun ⟨x, hx⟩ => ⟨x, hx.symm⟩, fun ⟨x, hx⟩ => ⟨x, hx.symm⟩⟩
  rw [e]
theorem mt_tails (h a : List UInt8) : a ∈ tailsL h ↔ ∃ x, h = x ++ 46 :: a := by
  induction h with
  | nil =>
    constructor
    · intro h; cases h
    · rintro ⟨x, hx⟩
      have := congrArg List.length hx
      simp at this
  | cons c h ih =>
    show a ∈ (if c = 46 then _ else _) ↔ _
    by_cases hc : c = 46
    · subst hc
      rw [if_pos rfl, List.mem_cons, ih]
      constructor
      · rintro (rfl | ⟨x, rfl⟩)
        · exact ⟨[], rfl⟩
        · exact ⟨46 :: x, rfl⟩
      · rintro ⟨x, hx⟩
        cases x with
        | nil =>
          simp only [List.nil_append, List.cons.injEq, true_and] at hx
          exact .inl hx.symm
        | cons d x =>
          simp only [List.cons_append, List.cons.injEq] at hx
          exact .inr ⟨x, hx.2⟩
    · rw [if_neg hc, ih]
      constructor
      · rintro ⟨x, rfl⟩
        exact ⟨c :: x, rfl⟩
      · rintro ⟨x, hx⟩
        cases x with
        | nil =>
          simp only [List.nil_append, List.cons.injEq] at hx
          exact absurd hx.1 hc
        | cons d x =>
          simp only [List.cons_append, List.cons.injEq] at hx
          exact ⟨x, hx.2⟩
theorem mt_ups (h g : List UInt8) (ha : addrL h = false) : matchL h g = true ↔ g ∈ upsN h := by
  rw [mt_iff]
  unfold upsN
  rw [List.mem_cons, mt_tails]
  constructor
  · rintro (rfl | ⟨h1, _⟩)
    · exact .inl rfl
    · exact .inr h1
  · rintro (rfl | h1)
    · exact .inl rfl
    · exact .inr ⟨h1, ha⟩
theorem mt_addr (a b : List UInt8) (h1 : matchL a b = true) (h2 : addrL a = true) : a = b := by
  rcases (mt_iff a b).1 h1 with h | ⟨_, h⟩
  · exact h
  · rw [h2] at h; cases h
end Go.Proofs.YtgjjkieljdamfafDoor
