/- The plain functions of bytes that package host and its reference compute: labels, numbers of a byte, addresses, matches, ups; no walk. -/
import Derived.Test.YtcfdajaideidkaaWordH
namespace Go.Proofs.Ytcfdajaideidkaa
open Go.RowKit
set_option linter.all false
set_option maxRecDepth 100000

/-- a digit -/
def digU (c : UInt8) : Bool := decide (48 ≤ c.toNat) && decide (c.toNat ≤ 57)
/-- what a label may have: letters of both sizes, digits, - -/
def labU (c : UInt8) : Bool := (decide (97 ≤ c.toNat) && decide (c.toNat ≤ 122)) || (decide (65 ≤ c.toNat) && decide (c.toNat ≤ 90)) || digU c || c == 45
/-- what a folded label may have -/
def labR (c : UInt8) : Bool := (decide (97 ≤ c.toNat) && decide (c.toNat ≤ 122)) || digU c || c == 45
theorem labU_all : ∀ n : Fin 256, labU (UInt8.ofNat n.val) = labR (foldU (UInt8.ofNat n.val)) := by decide +kernel
theorem labU_fold (c : UInt8) : labU c = labR (foldU c) := by
  have := labU_all ⟨c.toNat, c.toNat_lt⟩
  simpa only [UInt8.ofNat_toNat] using this
/-- ends that are no - -/
def endsL (l : List UInt8) : Bool := decide (1 ≤ l.length) && decide (l.length ≤ 63) && !(l.head? == some 45) && !(l.getLast? == some 45)
def labelL (l : List UInt8) : Bool := endsL l && l.all labU
def labelR (l : List UInt8) : Bool := endsL l && l.all labR
theorem fold45_all : ∀ n : Fin 256, (foldU (UInt8.ofNat n.val) == 45) = (UInt8.ofNat n.val == 45) := by decide +kernel
theorem fold45 (c : UInt8) : (foldU c == 45) = (c == 45) := by
  have := fold45_all ⟨c.toNat, c.toNat_lt⟩
  simpa only [UInt8.ofNat_toNat] using this
theorem fold46_all : ∀ n : Fin 256, (foldU (UInt8.ofNat n.val) == 46) = (UInt8.ofNat n.val == 46) := by decide +kernel
theorem fold46 (c : UInt8) : foldU c = 46 ↔ c = 46 := by
  have := fold46_all ⟨c.toNat, c.toNat_lt⟩
  simp only [UInt8.ofNat_toNat] at this
  rw [← beq_iff_eq, this, beq_iff_eq]
theorem some45 (o : Option UInt8) : (o.map foldU == some 45) = (o == some 45) := by
  cases o with
  | none => rfl
  | some c => exact fold45 c
theorem endsL_fold (l : List UInt8) : endsL (foldL l) = endsL l := by
  unfold endsL foldL
  rw [List.length_map, List.head?_map, List.getLast?_map, some45, some45]
theorem labelL_fold (l : List UInt8) : labelL l = labelR (foldL l) := by
  unfold labelL labelR
  rw [endsL_fold]
  congr 1
  unfold foldL
  rw [List.all_map]
  congr 1
  funext c
  exact labU_fold c
theorem foldL_twice' (l : List UInt8) : foldL (foldL l) = foldL l := by
  unfold foldL; rw [List.map_map]
  apply List.map_congr_left
  intro c _
  show foldU (foldU c) = foldU c
  by_cases h : 65 ≤ (c.toNat : Int) ∧ (c.toNat : Int) ≤ 90
  · have h1 := foldU_yes c h.1 h.2
    exact foldU_no _ (by omega)
  · rw [foldU_no c h]; exact foldU_no c h
theorem labelL_twice (l : List UInt8) : labelL (foldL l) = labelL l := by
  rw [labelL_fold, labelL_fold, foldL_twice']
/-- parts of a folded text are the folded parts -/
theorem parts_fold (l : List UInt8) : partsL (foldL l) 46 = (partsL l 46).map foldL := by
  induction l with
  | nil => rfl
  | cons c l ih =>
    by_cases h : c = 46
    · subst h
      have e : foldL (46 :: l) = 46 :: foldL l := rfl
      rw [e]
      simp only [partsL, if_true, List.map_cons, ih]
      rfl
    · have h2 : foldU c ≠ 46 := fun e => h ((fold46 c).1 e)
      obtain ⟨p, ps, e1, e2⟩ := partsL_cons c l 46 h
      obtain ⟨q, qs, e3, e4⟩ := partsL_cons (foldU c) (foldL l) 46 h2
      have e : foldL (c :: l) = foldU c :: foldL l := rfl
      rw [e, e4, e2]
      rw [ih, e1] at e3
      simp only [List.map_cons, List.cons.injEq] at e3 ⊢
      obtain ⟨ea, eb⟩ := e3
      exact ⟨by rw [← ea]; rfl, eb.symm⟩
/-- is a text labels? -/
def hostL (l : List UInt8) : Bool := (partsL l 46).all labelL
def hostR (l : List UInt8) : Bool := (partsL l 46).all labelR
theorem hostL_fold (l : List UInt8) : hostR (foldL l) = hostL l := by
  unfold hostL hostR
  rw [parts_fold, List.all_map]
  congr 1
  funext p
  exact (labelL_fold p).symm
theorem hostL_twice (l : List UInt8) : hostL (foldL l) = hostL l := by
  unfold hostL
  rw [parts_fold, List.all_map]
  congr 1
  funext p
  exact labelL_twice p
/-- the number that digits tell -/
def numL (l : List UInt8) : Nat := l.foldl (fun n c => n * 10 + (c.toNat - 48)) 0
theorem numL_snoc (l : List UInt8) (c : UInt8) : numL (l ++ [c]) = numL l * 10 + (c.toNat - 48) := by
  unfold numL; rw [List.foldl_append]; rfl
/-- digits with which a text begins -/
def leadL (l : List UInt8) : List UInt8 := l.takeWhile digU
def octetL (l : List UInt8) : Bool := decide (1 ≤ l.length) && decide (l.length ≤ 3) && !(decide (1 < l.length) && l.head? == some 48) && l.all digU && decide (numL l ≤ 255)
def addrL (l : List UInt8) : Bool := decide ((partsL l 46).length = 4) && (partsL l 46).all octetL
/-- how many parts there are -/
theorem parts_count (l : List UInt8) (b : UInt8) : (partsL l b).length = Lib.countByte l b + 1 := by
  unfold Lib.countByte
  induction l with
  | nil => rfl
  | cons c l ih =>
    by_cases h : c = b
    · subst h; simp [partsL, ih]
    · obtain ⟨p, ps, e1, e2⟩ := partsL_cons c l b h
      rw [e2, List.count_cons_of_ne h, ← ih, e1]; rfl
/-- is it the other one, or does it end by a byte 46 and that? -/
def matchL (h d : List UInt8) : Bool := h == d || (Lib.hasSuffix h (46 :: d) && !addrL h)
/-- what is behind the bytes 46 -/
def tailsL : List UInt8 → List (List UInt8)
  | [] => []
  | c :: l => if c = 46 then l :: tailsL l else tailsL l
def upsL (h : List UInt8) : List (List UInt8) := if h = [] then [] else if addrL h then [h] else h :: tailsL h
end Go.Proofs.Ytcfdajaideidkaa
