/- What cookies are for, told plainly. No walk. -/
import Derived.Test.YtcfdajaideidkaaWho
import Derived.Test.YtcfdajaideidkaaHostB
import Derived.Test.YtcfdajaideidkaaGrantM
import Derived.Test.YtcfdajaideidkaaGrantA
namespace Go.Proofs.Ytcfdajaideidkaa
open Go.RowKit
set_option linter.all false
set_option maxRecDepth 100000

structure Ru where
  kind : Int
  text : List UInt8
  purpose : Int
  vendor : Int
def ruC (r : Ru) : List Value := [.int .i64 r.kind, .string (txt r.text), .int .i64 r.purpose, .int .i64 r.vendor]
structure Po where
  rules : List Ru
  dflt : Int
  c0 : Int
  c1 : Int
  c2 : Int
  c3 : Int
  c4 : Int
  c5 : Int
  c6 : Int
  c7 : Int
  c8 : Int
  c9 : Int
  c10 : Int
def Po.caps (p : Po) : List Int := [p.c0, p.c1, p.c2, p.c3, p.c4, p.c5, p.c6, p.c7, p.c8, p.c9, p.c10]
def poL (p : Po) (v : Value) : List Value := [v, .int .i64 p.dflt, .int .i64 p.c0, .int .i64 p.c1, .int .i64 p.c2, .int .i64 p.c3, .int .i64 p.c4, .int .i64 p.c5, .int .i64 p.c6, .int .i64 p.c7, .int .i64 p.c8, .int .i64 p.c9, .int .i64 p.c10]
/-- does a rule name a cookie? -/
def namesR (r : Ru) (c : Ck) : Bool :=
  if r.kind = 1 then c.name == r.text else if r.kind = 2 then Lib.hasPrefix c.name r.text else if r.kind = 3 then Lib.hasSuffix c.name r.text else if r.kind = 4 then matchL c.domain r.text else false
def kindL (l : List Ru) (d : Int) (c : Ck) : Int × Int :=
  match l.find? (fun r => namesR r c) with
  | some r => (r.purpose, r.vendor)
  | none => (d, 0)
def kindP (p : Po) (c : Ck) : Int × Int := kindL p.rules p.dflt c
/-- numbers and texts of a rule -/
structure RuOk (m : Nat) (r : Ru) : Prop where
  text : r.text.length ≤ m
  kind : i64B r.kind
  purpose : i64B r.purpose
  vendor : i64B r.vendor
theorem kindL_nil (d : Int) (c : Ck) : kindL [] d c = (d, 0) := rfl
theorem kindL_yes (r : Ru) (l : List Ru) (d : Int) (c : Ck) (h : namesR r c = true) : kindL (r :: l) d c = (r.purpose, r.vendor) := by unfold kindL; rw [List.find?_cons_of_pos (by exact h)]
theorem kindL_no (r : Ru) (l : List Ru) (d : Int) (c : Ck) (h : namesR r c = false) : kindL (r :: l) d c = kindL l d c := by unfold kindL; rw [List.find?_cons_of_neg (by rw [h]; decide)]
theorem kindL_drop (l : List Ru) (d : Int) (c : Ck) (k : Nat) (r : Ru) (h : l[k]? = some r) : kindL (l.drop k) d c = if namesR r c then (r.purpose, r.vendor) else kindL (l.drop (k + 1)) d c := by
  have hl := (List.getElem?_eq_some_iff.1 h).1
  have e : l.drop k = r :: l.drop (k + 1) := by
    rw [List.drop_eq_getElem_cons hl]
    rw [List.getElem?_eq_getElem hl] at h
    injection h with h; rw [h]
  rw [e]
  cases hn : namesR r c
  · rw [kindL_no _ _ _ _ hn]; simp
  · rw [kindL_yes _ _ _ _ hn]; simp
theorem kindL_append (a b : List Ru) (d : Int) (c : Ck) (h : ∀ r ∈ a, namesR r c = false) : kindL (a ++ b) d c = kindL b d c := by
  induction a with
  | nil => rfl
  | cons r a ih => rw [List.cons_append, kindL_no _ _ _ _ (h r (by simp)), ih (fun x hx => h x (by simp [hx]))]
/-- ahead of the first that names it nothing counts, nor behind -/
theorem kindL_some (a b : List Ru) (d : Int) (c : Ck) (h : ∃ r ∈ a, namesR r c = true) : kindL (a ++ b) d c = kindL a d c := by
  induction a with
  | nil => obtain ⟨r, hr, _⟩ := h; simp at hr
  | cons x a ih =>
    rw [List.cons_append]
    cases hx : namesR x c
    · rw [kindL_no _ _ _ _ hx, kindL_no _ _ _ _ hx]
      refine ih ?_
      obtain ⟨r, hr, hn⟩ := h
      rcases List.mem_cons.1 hr with rfl | hr
      · rw [hx] at hn; cases hn
      · exact ⟨r, hr, hn⟩
    · rw [kindL_yes _ _ _ _ hx, kindL_yes _ _ _ _ hx]
theorem kindL_filter (l : List Ru) (d : Int) (c : Ck) : kindL (l.filter fun r => namesR r c) d c = kindL l d c := by
  induction l with
  | nil => rfl
  | cons x l ih =>
    cases hx : namesR x c
    · rw [List.filter_cons_of_neg (by rw [hx]; decide), kindL_no _ _ _ _ hx, ih]
    · rw [List.filter_cons_of_pos (by exact hx), kindL_yes _ _ _ _ hx, kindL_yes _ _ _ _ hx]
/-- a policy that may be used -/
def canonB (t : List UInt8) : Bool := decide (canonE t = 0) && (canonL t == t)
def chRu (r : Ru) : Int :=
  if r.kind < 1 ∨ 4 < r.kind then 7
  else if r.text = [] ∨ 400 < r.text.length ∨ (r.kind = 4 ∧ canonB r.text = false) then 1
  else if (r.purpose < 0 ∨ 10 < r.purpose) ∨ (r.vendor < 0 ∨ 40 < r.vendor) then 3 else 0
def chRs : List Ru → Int
  | [] => 0
  | r :: l => if chRu r = 0 then chRs l else chRu r
def capB (n : Int) : Bool := decide (1 ≤ n) && decide (n ≤ 1000000000)
def chP (p : Po) : Int :=
  if 12 < p.rules.length then 2 else if chRs p.rules = 0 then (if p.dflt < 0 ∨ 10 < p.dflt then 3 else if p.caps.all capB then 0 else 3) else chRs p.rules
theorem chRs_at (l : List Ru) (k : Nat) (r : Ru) (h : l[k]? = some r) (hall : ∀ (j : Nat) x, j < k → l[j]? = some x → chRu x = 0) : chRs l = if chRu r = 0 then chRs (l.drop (k + 1)) else chRu r := by
  induction l generalizing k with
  | nil => simp at h
  | cons x l ih =>
    cases k with
    | zero =>
      simp at h
      subst h
      rfl
    | succ k =>
      have hx := hall 0 x (by omega) rfl
      have := ih k (by simpa using h) (fun j y hj hy => hall (j + 1) y (by omega) (by simpa using hy))
      show (if chRu x = 0 then chRs l else chRu x) = _
      rw [if_pos hx, this]; rfl
theorem chRs_all (l : List Ru) (h : ∀ (j : Nat) x, l[j]? = some x → chRu x = 0) : chRs l = 0 := by
  induction l with
  | nil => rfl
  | cons x l ih =>
    show (if chRu x = 0 then chRs l else chRu x) = _
    rw [if_pos (h 0 x rfl)]
    exact ih (fun j y hy => h (j + 1) y (by simpa using hy))
theorem chRs_mem (l : List Ru) (h : chRs l = 0) : ∀ r ∈ l, chRu r = 0 := by
  induction l with
  | nil => intro r hr; simp at hr
  | cons x l ih =>
    have h' : (if chRu x = 0 then chRs l else chRu x) = 0 := h
    by_cases e : chRu x = 0
    · rw [if_pos e] at h'
      intro r hr
      rcases List.mem_cons.1 hr with rfl | hr
      · exact e
      · exact ih h' r hr
    · rw [if_neg e] at h'; exact absurd h' e
theorem chP_ok {p : Po} (h : chP p = 0) : p.rules.length ≤ 12 ∧ (∀ r ∈ p.rules, chRu r = 0) ∧ (0 ≤ p.dflt ∧ p.dflt ≤ 10) ∧ p.caps.all capB = true := by
  unfold chP at h
  split at h
  · cases h
  · rename_i h1
    split at h
    · rename_i h2
      split at h
      · cases h
      · rename_i h3
        split at h
        · rename_i h4; exact ⟨by omega, chRs_mem _ h2, by omega, h4⟩
        · cases h
    · rename_i h2; exact absurd h h2
theorem chP_of {p : Po} (h1 : p.rules.length ≤ 12) (h2 : chRs p.rules = 0) (h3 : 0 ≤ p.dflt ∧ p.dflt ≤ 10) (h4 : p.caps.all capB = true) : chP p = 0 := by
  unfold chP
  rw [if_neg (by omega), if_pos h2, if_neg (by omega), if_pos h4]
theorem chRu_ok {r : Ru} (h : chRu r = 0) : (0 ≤ r.purpose ∧ r.purpose ≤ 10) ∧ (0 ≤ r.vendor ∧ r.vendor ≤ 40) := by
  unfold chRu at h
  split at h
  · cases h
  · split at h
    · cases h
    · split at h
      · cases h
      · rename_i h1; omega
/-- behind Check a purpose is one of eleven -/
theorem kindP_range {p : Po} (h : chP p = 0) (c : Ck) : 0 ≤ (kindP p c).1 ∧ (kindP p c).1 ≤ 10 := by
  obtain ⟨_, h2, h3, _⟩ := chP_ok h
  unfold kindP kindL
  cases hf : p.rules.find? (fun r => namesR r c) with
  | none => exact h3
  | some r => exact (chRu_ok (h2 r (List.mem_of_find?_eq_some hf))).1
end Go.Proofs.Ytcfdajaideidkaa
