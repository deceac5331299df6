/- Contracts of a host's ups: the program's and the reference's. -/
import Derived.Test.YtgjjkieljdamfafHostC
namespace Go.Proofs.Ytgjjkieljdamfaf
open Go.RowKit
set_option linter.all false

theorem tails_append (x y : List UInt8) (h : ∀ c ∈ x, c ≠ 46) : tailsL (x ++ y) = tailsL y := by
  induction x with
  | nil => rfl
  | cons c x ih =>
    have hc := h c (by simp)
    rw [List.cons_append]
    show (if c = 46 then _ else _) = _
    rw [if_neg hc]
    exact ih (fun d hd => h d (by simp [hd]))
theorem tails_none (y : List UInt8) (h : ∀ c ∈ y, c ≠ 46) : tailsL y = [] := by
  have := tails_append y [] h
  rw [List.append_nil] at this
  exact this
/-- the first of them, and those of that -/
theorem tails_cut (l : List UInt8) : tailsL l = if hasB l 46 then cutB l 46 :: tailsL (cutB l 46) else [] := by
  have hge := Lib.indexByte_ge l 46
  by_cases hn : Lib.indexByte l 46 = -1
  · obtain ⟨e1, e2, e3⟩ := cut_none _ _ hn
    rw [e3]
    simp only [Bool.false_eq_true, if_false]
    refine tails_none _ (fun c hc => ?_)
    intro e; subst e
    unfold hasB at e3
    rw [← Bool.not_eq_true, List.contains_iff_mem] at e3
    exact e3 hc
  · obtain ⟨o, ho⟩ : ∃ o : Nat, Lib.indexByte l 46 = o := ⟨(Lib.indexByte l 46).toNat, by omega⟩
    obtain ⟨e1, e2, e3, e4⟩ := cut_some _ _ _ ho
    obtain ⟨hg, hp⟩ := Lib.indexByte_some ho
    rw [e2, e3, if_pos rfl]
    have e : l = l.take o ++ 46 :: l.drop (o + 1) := by
      have h1 := List.take_append_drop o l
      have h2 := List.drop_eq_getElem_cons e4
      rw [h2] at h1
      have h3 := (List.getElem?_eq_some_iff.1 hg).2
      rw [h3] at h1
      exact h1.symm
    conv => lhs; rw [e]
    rw [tails_append]
    · rfl
    · intro c hc
      obtain ⟨j, hj⟩ := List.getElem?_of_mem hc
      have hj2 := (List.getElem?_eq_some_iff.1 hj).1
      rw [List.length_take] at hj2
      rw [List.getElem?_take_of_lt (by omega)] at hj
      intro e'; subst e'
      exact hp j (by omega) hj
theorem tails_len (l : List UInt8) : (tailsL l).length ≤ l.length := by
  induction l with
  | nil => exact Nat.le_refl _
  | cons c l ih =>
    show (if c = 46 then _ else _ : List (List UInt8)).length ≤ _
    by_cases h : c = 46
    · rw [if_pos h]; simp; exact ih
    · rw [if_neg h]; simp; omega
/-- those behind the bytes 46 among the first k bytes -/
def tailsTo (s : ByteArray) : Nat → List (List UInt8)
  | 0 => []
  | k + 1 => if s.data.toList[k]? = some 46 then tailsTo s k ++ [(s.extract (k + 1) s.size).data.toList] else tailsTo s k
theorem tailsTo_yes (s : ByteArray) (k : Nat) (hk : k < s.size) (h : s[k] = 46) : tailsTo s (k + 1) = tailsTo s k ++ [(s.extract (k + 1) s.size).data.toList] := if_pos (by rw [get_of s k hk, h])
theorem tailsTo_no (s : ByteArray) (k : Nat) (hk : k < s.size) (h : ¬ s[k] = 46) : tailsTo s (k + 1) = tailsTo s k := if_neg (by rw [get_of s k hk]; intro e; injection e with e; exact h e)
theorem tailsTo_len (s : ByteArray) (k : Nat) : (tailsTo s k).length ≤ k := by
  induction k with
  | zero => exact Nat.le_refl _
  | succ k ih =>
    show (if _ then _ else _ : List (List UInt8)).length ≤ _
    by_cases h : s.data.toList[k]? = some 46
    · rw [if_pos h]; simp; exact ih
    · rw [if_neg h]; omega
theorem tailsTo_step (s : ByteArray) (k : Nat) (hk : k ≤ s.size) : tailsTo s k ++ tailsL (s.data.toList.drop k) = tailsL s.data.toList := by
  induction k with
  | zero => rfl
  | succ k ih =>
    have ih := ih (by omega)
    have hlt : k < s.data.toList.length := by show k < s.size; omega
    rw [List.drop_eq_getElem_cons hlt] at ih
    by_cases h : s[k]'hk = 46
    · rw [tailsTo_yes s k hk h, List.append_assoc, Lib.extract_to_end, ← ih]
      congr 1
      show _ = (if _ then _ else _)
      rw [if_pos (by exact h)]; rfl
    · rw [tailsTo_no s k hk h, ← ih]
      congr 1
      show _ = (if _ then _ else _)
      rw [if_neg (by exact h)]
theorem tailsTo_all (s : ByteArray) (k : Nat) (hk : k = s.size) : tailsTo s k = tailsL s.data.toList := by
  have h := tailsTo_step s k (by omega)
  rw [List.drop_eq_nil_of_le (by show s.size ≤ k; omega)] at h
  rw [← h]
  simp [tailsL]
/-- what is still to come -/
def moreL (m : Bool) (r : List UInt8) : List (List UInt8) := if m then r :: tailsL r else []
theorem tails_more (l : List UInt8) : tailsL l = moreL (hasB l 46) (cutB l 46) := by
  rw [tails_cut]; unfold moreL; rfl
end Go.Proofs.Ytgjjkieljdamfaf
