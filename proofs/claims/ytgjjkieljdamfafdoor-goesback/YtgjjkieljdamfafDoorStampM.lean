/- The plain functions that package stamp and its reference compute: what a word of a date may be, what all of them tell. No walk. -/
import Derived.Test.YtgjjkieljdamfafDoorStampW
import Derived.Test.YtgjjkieljdamfafDoorClockC
namespace Go.Proofs.YtgjjkieljdamfafDoor
open Go.RowKit
set_option linter.all false
set_option maxRecDepth 100000

/-- a number of so many digits at a text's beginning: is it there, which one, what is behind it -/
def numB (l : List UInt8) (a b : Nat) : Bool := decide (a ≤ leadK l) && decide (leadK l ≤ b)
def numV (l : List UInt8) (a b : Nat) : Nat := if numB l a b then numL (leadL l) else 0
def numR (l : List UInt8) (a b : Nat) : List UInt8 := if numB l a b then l.drop (leadK l) else []
theorem num_no (l : List UInt8) (a b : Nat) (h : ¬ (a ≤ leadK l ∧ leadK l ≤ b)) : numB l a b = false ∧ numV l a b = 0 ∧ numR l a b = [] := by
  have e : numB l a b = false := by
    unfold numB
    rw [← Bool.not_eq_true, Bool.and_eq_true, decide_eq_true_eq, decide_eq_true_eq]; exact h
  unfold numV numR
  rw [e]
  exact ⟨rfl, rfl, rfl⟩
theorem num_yes (l : List UInt8) (a b : Nat) (h1 : a ≤ leadK l) (h2 : leadK l ≤ b) : numB l a b = true ∧ numV l a b = numL (leadL l) ∧ numR l a b = l.drop (leadK l) := by
  have e : numB l a b = true := by
    unfold numB
    rw [Bool.and_eq_true, decide_eq_true_eq, decide_eq_true_eq]; exact ⟨h1, h2⟩
  unfold numV numR
  rw [e]
  exact ⟨rfl, rfl, rfl⟩
theorem numV_max (l : List UInt8) (a b : Nat) (hb : b ≤ 4) : numV l a b ≤ 9999 := by
  unfold numV
  split
  · rename_i h
    unfold numB at h
    simp only [Bool.and_eq_true, decide_eq_true_eq] at h
    have h1 := numL_max (leadL l) (fun c hc => List.all_eq_true.1 (List.all_takeWhile (p := digU) (l := l)) c hc)
    have hl : (leadL l).length ≤ 4 := by have : leadK l = (leadL l).length := rfl; omega
    have := Nat.pow_le_pow_right (n := 10) (by omega) hl
    omega
  · omega
/-- a byte 58 and a number of one or two digits -/
def colonB (l : List UInt8) : Bool := l.head? == some 58
def stepT (l : List UInt8) : Option (Nat × List UInt8) := if colonB l && numB (l.drop 1) 1 2 then some (numV (l.drop 1) 1 2, numR (l.drop 1) 1 2) else none
/-- a time of day -/
def timeL (w : List UInt8) : Option (Int × Int × Int) := match stepT (58 :: w) with
  | none => none
  | some (h, r) => match stepT r with
    | none => none
    | some (m, q) => match stepT q with
      | none => none
      | some (s, _) => some (h, m, s)
def monNames : List (List UInt8) := [[106, 97, 110], [102, 101, 98], [109, 97, 114], [97, 112, 114], [109, 97, 121], [106, 117, 110], [106, 117, 108], [97, 117, 103], [115, 101, 112], [111, 99, 116], [110, 111, 118], [100, 101, 99]]
def monGreat : List (List UInt8) := [[74, 97, 110], [70, 101, 98], [77, 97, 114], [65, 112, 114], [77, 97, 121], [74, 117, 110], [74, 117, 108], [65, 117, 103], [83, 101, 112], [79, 99, 116], [78, 111, 118], [68, 101, 99]]
def weekNames : List (List UInt8) := [[83, 117, 110], [77, 111, 110], [84, 117, 101], [87, 101, 100], [84, 104, 117], [70, 114, 105], [83, 97, 116]]
theorem mon_fold : monGreat.map foldL = monNames := by decide +kernel
/-- which one of names, from so many on -/
def idxFrom : List (List UInt8) → List UInt8 → Nat → Nat
  | [], _, _ => 0
  | n :: ns, f, k => if n = f then k + 1 else idxFrom ns f (k + 1)
theorem idx_some (ns : List (List UInt8)) (f : List UInt8) (k j : Nat) (h : ns[j]? = some f) (hn : ∀ (i : Nat) x, ns[i]? = some x → i < j → x ≠ f) : idxFrom ns f k = k + j + 1 := by
  induction ns generalizing k j with
  | nil => simp at h
  | cons n ns ih =>
    cases j with
    | zero =>
      simp at h
      show (if n = f then _ else _) = _
      rw [if_pos h]
    | succ j =>
      have h0 := hn 0 n (by simp) (by omega)
      show (if n = f then _ else _) = _
      rw [if_neg h0, ih (k + 1) j (by simpa using h) (fun i x hi hlt => hn (i + 1) x (by simpa using hi) (by omega))]
      omega
theorem idx_none (ns : List (List UInt8)) (f : List UInt8) (k : Nat) (hn : ∀ (i : Nat) x, ns[i]? = some x → x ≠ f) : idxFrom ns f k = 0 := by
  induction ns generalizing k with
  | nil => rfl
  | cons n ns ih =>
    have h0 := hn 0 n (by simp)
    show (if n = f then _ else _) = _
    rw [if_neg h0, ih (k + 1) (fun i x hi => hn (i + 1) x (by simpa using hi))]
def monthL (w : List UInt8) : Nat := if 3 ≤ w.length then idxFrom monNames (foldL (w.take 3)) 0 else 0
/-- what a word tells as a thing of that kind -/
def readK (k : Nat) (w : List UInt8) : Option (Int × Int × Int) :=
  if k = 0 then timeL w else if k = 1 then (if numB w 1 2 then some (numV w 1 2, 0, 0) else none) else if k = 2 then (if monthL w = 0 then none else some (monthL w, 0, 0)) else (if numB w 2 4 then some (numV w 2 4, 0, 0) else none)
/-- what was found of a date, and its numbers -/
structure DS where
  f : Nat → Bool
  t : Nat → Int
def DS.put (d : DS) (k : Nat) (v : Int × Int × Int) : DS := ⟨fun j => if j = k then true else d.f j, fun j => if j = 3 * k then v.1 else if j = 3 * k + 1 then v.2.1 else if j = 3 * k + 2 then v.2.2 else d.t j⟩
def d0 : DS := ⟨fun _ => false, fun _ => 0⟩
def takeD (d : DS) (w : List UInt8) : List Nat → DS
  | [] => d
  | k :: ks => if d.f k then takeD d w ks else match readK k w with
    | some v => d.put k v
    | none => takeD d w ks
def stepD (d : DS) (w : List UInt8) : DS := takeD d w [0, 1, 2, 3]
/-- the first k kinds say nothing -/
def dumb (d : DS) (w : List UInt8) (k : Nat) : Prop := ∀ j, j < k → d.f j = true ∨ readK j w = none
theorem dumb_take (d : DS) (w : List UInt8) (k : Nat) (hk : k ≤ 4) (h : dumb d w k) : stepD d w = takeD d w ([0, 1, 2, 3].drop k) := by
  unfold stepD
  have one : ∀ j ks, (d.f j = true ∨ readK j w = none) → takeD d w (j :: ks) = takeD d w ks := by
    intro j ks hj
    show (if d.f j then _ else _) = _
    rcases hj with hj | hj
    · rw [if_pos hj]
    · by_cases h' : d.f j = true
      · rw [if_pos h']
      · rw [if_neg h', hj]
  have hk5 : k = 0 ∨ k = 1 ∨ k = 2 ∨ k = 3 ∨ k = 4 := by omega
  rcases hk5 with rfl | rfl | rfl | rfl | rfl
  · rfl
  · exact one 0 _ (h 0 (by omega))
  · rw [one 0 _ (h 0 (by omega)), one 1 _ (h 1 (by omega))]; rfl
  · rw [one 0 _ (h 0 (by omega)), one 1 _ (h 1 (by omega)), one 2 _ (h 2 (by omega))]; rfl
  · rw [one 0 _ (h 0 (by omega)), one 1 _ (h 1 (by omega)), one 2 _ (h 2 (by omega)), one 3 _ (h 3 (by omega))]; rfl
theorem step_found (d : DS) (w : List UInt8) (k : Nat) (hk : k < 4) (h : dumb d w k) (hf : d.f k = false) (v : Int × Int × Int) (hv : readK k w = some v) : stepD d w = d.put k v := by
  rw [dumb_take d w k (by omega) h]
  have hk4 : k = 0 ∨ k = 1 ∨ k = 2 ∨ k = 3 := by omega
  rcases hk4 with rfl | rfl | rfl | rfl <;> (show (if _ then _ else _) = _; rw [if_neg (by rw [hf]; exact Bool.false_ne_true), hv])
theorem step_none (d : DS) (w : List UInt8) (h : dumb d w 4) : stepD d w = d := by
  rw [dumb_take d w 4 (by omega) h]; rfl
theorem dumb_next (d : DS) (w : List UInt8) (k : Nat) (h : dumb d w k) (hk : d.f k = true ∨ readK k w = none) : dumb d w (k + 1) := fun j hj => by
  by_cases e : j = k
  · subst e; exact hk
  · exact h j (by omega)
def fullY (n : Int) : Int := if n < 70 then 2000 + n else if n < 100 then 1900 + n else n
def allD (d : DS) (ws : List (List UInt8)) : DS := ws.foldl stepD d
def foundD (d : DS) : Bool := d.f 0 && d.f 1 && d.f 2 && d.f 3
def momV (d : DS) : Int := if foundD d then ofV (fullY (d.t 9)) (d.t 6) (d.t 3) (d.t 0) (d.t 1) (d.t 2) else 0
def momE (d : DS) : Int := if foundD d then ofE (fullY (d.t 9)) (d.t 6) (d.t 3) (d.t 0) (d.t 1) (d.t 2) else 1
def readV (l : List UInt8) : Int := if l.length ≤ 400 then momV (allD d0 (wordsL l)) else 0
def readE (l : List UInt8) : Int := if l.length ≤ 400 then momE (allD d0 (wordsL l)) else 2
/-- the last digits of a number -/
def padL : Nat → Nat → List UInt8
  | 0, _ => []
  | k + 1, n => padL k (n / 10) ++ [UInt8.ofNat (48 + n % 10)]
theorem padL_len (k n : Nat) : (padL k n).length = k := by
  induction k generalizing n with
  | zero => rfl
  | succ k ih => show (_ ++ _ : List UInt8).length = _; rw [List.length_append, ih]; rfl
theorem padL_at (k n j : Nat) (hj : j < k) : (padL k n)[j]? = some (UInt8.ofNat (48 + n / 10 ^ (k - 1 - j) % 10)) := by
  induction k generalizing n j with
  | zero => omega
  | succ k ih =>
    show (padL k (n / 10) ++ [UInt8.ofNat (48 + n % 10)])[j]? = _
    by_cases h : j < k
    · rw [List.getElem?_append_left (by rw [padL_len]; exact h), ih (n / 10) j h]
      have e : k + 1 - 1 - j = (k - 1 - j) + 1 := by omega
      rw [e, Nat.pow_succ, Nat.div_div_eq_div_mul, Nat.mul_comm 10]
    · have : j = k := by omega
      subst this
      rw [List.getElem?_append_right (by rw [padL_len]; exact Nat.le_refl _), padL_len]
      simp
end Go.Proofs.YtgjjkieljdamfafDoor
