/- The plain functions of bytes that package header and its reference compute: which bytes are barred, a pair, attributes, what may be written, what is written, what is read; no walk. -/
import Derived.Test.YtgjjkieljdamfafDoorWordH
import Derived.Test.YtgjjkieljdamfafDoorKit4
namespace Go.Proofs.YtgjjkieljdamfafDoor
open Go.RowKit
set_option linter.all false
set_option maxRecDepth 100000

abbrev Attr := List UInt8 × List UInt8
abbrev Raw := List UInt8 × List UInt8 × List Attr
def attrF (a : Attr) : List Value := [.string (txt a.1), .string (txt a.2)]
theorem attrF_len (a : Attr) : (attrF a).length = 2 := rfl
/-- may a byte be nowhere? -/
def barU (c : UInt8) : Bool := (decide (c.toNat < 32) && !(c.toNat == 9)) || c.toNat == 127
theorem barU_i (c : UInt8) : barU c = true ↔ ((c.toNat : Int) < 32 ∧ (c.toNat : Int) ≠ 9) ∨ (c.toNat : Int) = 127 := by
  unfold barU; simp only [Bool.or_eq_true, Bool.and_eq_true, decide_eq_true_eq, Bool.not_eq_true', beq_iff_eq, beq_eq_false_iff_ne]; omega
theorem barU_no (c : UInt8) (h : ¬ (((c.toNat : Int) < 32 ∧ (c.toNat : Int) ≠ 9) ∨ (c.toNat : Int) = 127)) : barU c = false := by
  rw [← Bool.not_eq_true, barU_i]; exact h
def hasP (p : UInt8 → Bool) (l : List UInt8) : Bool := l.any p
theorem hasP_yes (p : UInt8 → Bool) (l : List UInt8) (k : Nat) (c : UInt8) (h : l[k]? = some c) (hc : p c = true) : hasP p l = true := by
  unfold hasP; rw [List.any_eq_true]; exact ⟨c, List.mem_of_getElem? h, hc⟩
theorem hasP_no (p : UInt8 → Bool) (l : List UInt8) (h : ∀ (j : Nat) c, l[j]? = some c → p c = false) : hasP p l = false := by
  unfold hasP; rw [List.any_eq_false]; intro c hc
  obtain ⟨k, hk⟩ := List.getElem?_of_mem hc
  rw [h k c hk]; decide
def endP (ends : List UInt8) (c : UInt8) : Bool := barU c || ends.contains c
/-- would a text be read as it is? -/
def wholeL (ends s : List UInt8) : Bool := (s == trimL s) && !hasP (endP ends) s
def nameL (p : List UInt8) : List UInt8 := trimL (cutA p 61)
def valueL (p : List UInt8) : List UInt8 := trimL (cutB p 61)
def attrL (p : List UInt8) : Option Attr := if nameL p = [] then none else some (foldL (nameL p), valueL p)
def attrsL (ps : List (List UInt8)) : List Attr := ps.filterMap attrL
theorem attrsL_take (ps : List (List UInt8)) (k : Nat) (p : List UInt8) (h : ps[k]? = some p) : attrsL (ps.take (k + 1)) = attrsL (ps.take k) ++ (attrL p).toList := by
  obtain ⟨hk, rfl⟩ := List.getElem?_eq_some_iff.1 h
  unfold attrsL
  rw [List.take_succ_eq_append_getElem hk, List.filterMap_append]
  cases e : attrL ps[k] <;> simp [e]
theorem attrsL_len (ps : List (List UInt8)) : (attrsL ps).length ≤ ps.length := List.length_filterMap_le _ _
def attrOk (a : Attr) : Bool := !(a.1 == []) && (a.1 == foldL a.1) && wholeL [61, 59] a.1 && wholeL [59] a.2
def headOk (r : Raw) : Bool := !(r.1 == []) && wholeL [61, 59] r.1 && wholeL [59] r.2.1
def rawOk (r : Raw) : Bool := headOk r && r.2.2.all attrOk
def checkL (r : Raw) : Int := if rawOk r then (if 12 < r.2.2.length then 2 else 0) else 1
def attrT (a : Attr) : List UInt8 := [59, 32] ++ a.1 ++ (if a.2 = [] then [] else [61] ++ a.2)
def headT (r : Raw) : List UInt8 := r.1 ++ [61] ++ r.2.1
def hdT (r : Raw) : List UInt8 := headT r ++ r.2.2.flatMap attrT
def wrE (r : Raw) : Int := if checkL r = 0 then (if 400 < (hdT r).length then 2 else 0) else checkL r
def wrT (r : Raw) : List UInt8 := if wrE r = 0 then hdT r else []
def headP (s : List UInt8) : List UInt8 := (partsL s 59).headD []
def tailP (s : List UInt8) : List (List UInt8) := (partsL s 59).tail
theorem parts_ht (s : List UInt8) : partsL s 59 = headP s :: tailP s := by
  unfold headP tailP
  cases e : partsL s 59 with
  | nil => exact absurd e (partsL_ne s 59)
  | cons p ps => rfl
def rdE (s : List UInt8) : Int := if 400 < s.length then 2 else if hasP barU s then 1 else if !hasB (headP s) 61 || (nameL (headP s) == []) then 1 else if 12 < (attrsL (tailP s)).length then 2 else 0
def rdR (s : List UInt8) : Raw := if rdE s = 0 then (nameL (headP s), valueL (headP s), attrsL (tailP s)) else ([], [], [])
theorem cutA_len (l : List UInt8) (b : UInt8) : (cutA l b).length ≤ l.length := (List.takeWhile_sublist _).length_le
theorem trimL_len (l : List UInt8) : (trimL l).length ≤ l.length := by
  unfold trimL
  rw [List.length_reverse]
  have h1 := (List.dropWhile_sublist (p := blankU) (l := (l.dropWhile blankU).reverse)).length_le
  have h2 := (List.dropWhile_sublist (p := blankU) (l := l)).length_le
  rw [List.length_reverse] at h1
  omega
theorem nameL_len (p : List UInt8) : (nameL p).length ≤ p.length := Nat.le_trans (trimL_len _) (cutA_len _ _)
theorem valueL_len (p : List UInt8) : (valueL p).length ≤ p.length := Nat.le_trans (trimL_len _) (cutB_len _ _).1
theorem foldL_length (l : List UInt8) : (foldL l).length = l.length := by simp [foldL]
theorem part_len (s : List UInt8) (b : UInt8) : ∀ p ∈ partsL s b, p.length ≤ s.length := by
  induction s with
  | nil => intro p hp; simp [partsL] at hp; subst hp; simp
  | cons c s ih =>
    intro p hp
    by_cases h : c = b
    · simp only [partsL, h, if_true, List.mem_cons] at hp
      rcases hp with rfl | hp
      · simp
      · have := ih p hp; simp; omega
    · obtain ⟨q, qs, e1, e2⟩ := partsL_cons c s b h
      rw [e2] at hp
      rw [e1] at ih
      rcases List.mem_cons.1 hp with rfl | hp
      · have := ih q (by simp); simp; omega
      · have := ih p (by simp [hp]); simp; omega
theorem headP_len (s : List UInt8) : (headP s).length ≤ s.length := part_len s 59 _ (by rw [parts_ht]; simp)
theorem tailP_len (s : List UInt8) : ∀ p ∈ tailP s, p.length ≤ s.length := fun p hp => part_len s 59 _ (by rw [parts_ht]; simp [hp])
theorem tailP_few (s : List UInt8) : (tailP s).length ≤ s.length := by
  have := partsL_len s 59; rw [parts_ht] at this; simp at this; exact this
/-- is a text empty, as the walk asks -/
theorem nil_t (l : List UInt8) (h : l = []) : ((txt l).toList == []) = true := by rw [Lib.toList_data]; subst h; rfl
theorem nil_f (l : List UInt8) (h : ¬ l = []) : ((txt l).toList == []) = false := by
  rw [beq_eq_false_iff_ne, Lib.toList_data]; exact h
theorem same_t (a b : List UInt8) (h : a = b) : ((txt a).toList == (txt b).toList) = true := by subst h; simp
theorem same_f (a b : List UInt8) (h : ¬ a = b) : ((txt a).toList == (txt b).toList) = false := by
  rw [beq_eq_false_iff_ne, Lib.toList_data, Lib.toList_data]; exact h
end Go.Proofs.YtgjjkieljdamfafDoor
