/- Contracts on lists of texts: are two lists one; joined as the reference does it. -/
import Derived.Test.YtcfdajaideidkaaWordD
namespace Go.Proofs.Ytcfdajaideidkaa
open Go.RowKit
set_option linter.all false
set_option maxRecDepth 100000

theorem same_no (a b : List (List UInt8)) (k : Nat) (x y : List UInt8) (hx : a[k]? = some x) (hy : b[k]? = some y) (h : x ≠ y) : (a == b) = false := by
  rw [beq_eq_false_iff_ne]
  intro e
  subst e
  rw [hx] at hy
  injection hy with hy
  exact h hy
theorem same_yes (a b : List (List UInt8)) (hl : a.length = b.length) (h : ∀ (j : Nat) x y, a[j]? = some x → b[j]? = some y → x = y) : (a == b) = true := by
  rw [beq_iff_eq]
  apply List.ext_getElem? 
  intro j
  rcases Nat.lt_or_ge j a.length with hj | hj
  · have e1 := List.getElem?_eq_getElem hj
    have e2 := List.getElem?_eq_getElem (l := b) (i := j) (by omega)
    rw [e1, e2, h j _ _ e1 e2]
  · rw [List.getElem?_eq_none hj, List.getElem?_eq_none (by omega)]

/-- what stands between such bytes -/
def partsL : List UInt8 → UInt8 → List (List UInt8)
  | [], _ => [[]]
  | c :: l, b => if c = b then [] :: partsL l b else match partsL l b with
    | [] => [[c]]
    | p :: ps => (c :: p) :: ps
theorem partsL_ne (l : List UInt8) (b : UInt8) : partsL l b ≠ [] := by
  cases l with
  | nil => simp [partsL]
  | cons c l =>
    unfold partsL
    by_cases h : c = b
    · simp [h]
    · rw [if_neg h]; cases partsL l b <;> simp
theorem partsL_cons (c : UInt8) (l : List UInt8) (b : UInt8) (h : c ≠ b) : ∃ p ps, partsL l b = p :: ps ∧ partsL (c :: l) b = (c :: p) :: ps := by
  cases e : partsL l b with
  | nil => exact absurd e (partsL_ne l b)
  | cons p ps => exact ⟨p, ps, rfl, by simp [partsL, h, e]⟩
theorem partsL_append (x y : List UInt8) (b : UInt8) : partsL (x ++ b :: y) b = partsL x b ++ partsL y b := by
  induction x with
  | nil => simp [partsL]
  | cons c x ih =>
    by_cases h : c = b
    · simp [partsL, h, ih]
    · obtain ⟨p, ps, e1, e2⟩ := partsL_cons c x b h
      obtain ⟨q, qs, e3, e4⟩ := partsL_cons c (x ++ b :: y) b h
      rw [List.cons_append, e4, e2]
      rw [ih, e1] at e3
      simp only [List.cons_append, List.cons.injEq] at e3
      rw [List.cons_append, ← e3.1, ← e3.2]
theorem partsL_none (y : List UInt8) (b : UInt8) (h : ∀ c ∈ y, c ≠ b) : partsL y b = [y] := by
  induction y with
  | nil => rfl
  | cons c y ih =>
    have hc := h c (by simp)
    have := ih (fun d hd => h d (by simp [hd]))
    simp [partsL, hc, this]
theorem partsL_len (l : List UInt8) (b : UInt8) : (partsL l b).length ≤ l.length + 1 := by
  induction l with
  | nil => simp [partsL]
  | cons c l ih =>
    by_cases h : c = b
    · simp [partsL, h]; exact ih
    · obtain ⟨p, ps, e1, e2⟩ := partsL_cons c l b h
      rw [e2]
      rw [e1] at ih
      simp at ih ⊢; omega

/-- texts with a byte between two -/
def joinL (l : List (List UInt8)) (b : UInt8) : List UInt8 := List.intercalate [b] l
theorem joinL_snoc (l : List (List UInt8)) (b : UInt8) (x : List UInt8) (h : l ≠ []) : joinL (l ++ [x]) b = joinL l b ++ [b] ++ x := by
  induction l with
  | nil => exact absurd rfl h
  | cons y l ih =>
    cases l with
    | nil => simp [joinL, List.intercalate, List.intersperse]
    | cons z l =>
      have := ih (by simp)
      simp only [joinL, List.cons_append, List.intercalate_cons_cons] at this ⊢
      simp only [List.append_assoc] at this ⊢
      rw [this]
theorem joinL_one (b : UInt8) (x : List UInt8) : joinL [x] b = x := by simp [joinL, List.intercalate, List.intersperse]
theorem joinL_take (l : List (List UInt8)) (b : UInt8) (k : Nat) (x : List UInt8) (h : l[k]? = some x) :
    joinL (l.take (k + 1)) b = if k = 0 then x else joinL (l.take k) b ++ [b] ++ x := by
  have hk := (List.getElem?_eq_some_iff.1 h)
  obtain ⟨hk, hx⟩ := hk
  rw [List.take_succ_eq_append_getElem hk, hx]
  by_cases h0 : k = 0
  · subst h0; simp [joinL_one]
  · rw [if_neg h0, joinL_snoc]
    intro e
    have := congrArg List.length e
    rw [List.length_take, List.length_nil] at this; omega
theorem joinL_mono (l : List (List UInt8)) (b : UInt8) : ∀ k, (joinL (l.take k) b).length ≤ (joinL l b).length := by
  intro k
  by_cases hk : k < l.length
  · have e : l = l.take k ++ l.drop k := (List.take_append_drop k l).symm
    generalize l.take k = a at *
    generalize l.drop k = c at *
    subst e
    clear hk
    induction c generalizing a with
    | nil => simp
    | cons x c ih =>
      have h1 := ih (a ++ [x])
      have h2 : (joinL a b).length ≤ (joinL (a ++ [x]) b).length := by
        by_cases ha : a = []
        · subst ha; simp [joinL_one, joinL, List.intercalate, List.intersperse]
        · rw [joinL_snoc a b x ha]; simp
      simp only [List.append_assoc, List.cons_append, List.nil_append] at h1 h2 ⊢
      omega
  · rw [List.take_of_length_le (by omega)]; exact Nat.le_refl _
theorem joinL_nil (b : UInt8) : joinL [] b = [] := by simp [joinL, List.intercalate, List.intersperse]
theorem joinL_cons (x : List UInt8) (l : List (List UInt8)) (b : UInt8) (h : l ≠ []) : joinL (x :: l) b = x ++ b :: joinL l b := by
  cases l with
  | nil => exact absurd rfl h
  | cons y l => simp [joinL, List.intercalate_cons_cons]
theorem join_parts (l : List UInt8) (b : UInt8) : joinL (partsL l b) b = l := by
  induction l with
  | nil => simp [partsL, joinL_one]
  | cons c l ih =>
    by_cases h : c = b
    · simp only [partsL, h, if_true]
      rw [joinL_cons _ _ _ (partsL_ne l b), ih]; rfl
    · obtain ⟨p, ps, e1, e2⟩ := partsL_cons c l b h
      rw [e2]
      rw [e1] at ih
      cases ps with
      | nil => rw [joinL_one] at ih ⊢; rw [ih]
      | cons q qs =>
        rw [joinL_cons _ _ _ (by simp)] at ih ⊢
        rw [← ih]; rfl
theorem parts_join (l : List (List UInt8)) (b : UInt8) (hne : l ≠ []) (h : ∀ x ∈ l, ∀ c ∈ x, c ≠ b) : partsL (joinL l b) b = l := by
  induction l with
  | nil => exact absurd rfl hne
  | cons x l ih =>
    cases l with
    | nil => rw [joinL_one, partsL_none x b (h x (by simp))]
    | cons y l =>
      rw [joinL_cons _ _ _ (by simp), partsL_append, partsL_none x b (h x (by simp)), ih (by simp) (fun z hz => h z (by simp [hz]))]
      rfl
end Go.Proofs.Ytcfdajaideidkaa
