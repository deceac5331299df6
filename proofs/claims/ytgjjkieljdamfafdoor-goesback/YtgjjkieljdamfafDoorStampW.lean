/- The words of a date: what stands between bytes that part, told byte by byte; that the library's way over runes finds the same ones. No walk. -/
import Derived.Test.YtgjjkieljdamfafDoorHostB
import Derived.Lib.FieldsP
import Derived.Lib.SpaceUEq
namespace Go.Proofs.YtgjjkieljdamfafDoor
open Go.RowKit
set_option linter.all false
set_option maxRecDepth 100000

/-- does a sign of this number part words? -/
def partR (x : Nat) : Bool := x == 9 || (decide (32 ≤ x) && decide (x ≤ 47)) || (decide (59 ≤ x) && decide (x ≤ 64)) || (decide (91 ≤ x) && decide (x ≤ 96)) || (decide (123 ≤ x) && decide (x ≤ 126))
def partU (c : UInt8) : Bool := partR c.toNat
theorem partR_iff (x : Nat) : partR x = true ↔ x = 9 ∨ (32 ≤ x ∧ x ≤ 47) ∨ (59 ≤ x ∧ x ≤ 64) ∨ (91 ≤ x ∧ x ≤ 96) ∨ (123 ≤ x ∧ x ≤ 126) := by
  unfold partR
  simp only [Bool.or_eq_true, Bool.and_eq_true, decide_eq_true_eq, beq_iff_eq, or_assoc]
theorem partR_big (x : Nat) (h : 127 ≤ x) : partR x = false := by
  rw [← Bool.not_eq_true, partR_iff]; omega
/-- the words, with one begun -/
def wordsA (cur : List UInt8) : List UInt8 → List (List UInt8)
  | [] => if cur = [] then [] else [cur]
  | c :: l => if partU c then (if cur = [] then wordsA [] l else cur :: wordsA [] l) else wordsA (cur ++ [c]) l
def wordsL (l : List UInt8) : List (List UInt8) := wordsA [] l
theorem wordsA_skip : ∀ (k : Nat) (cur l : List UInt8), k ≤ l.length → (∀ j c, l[j]? = some c → j < k → partU c = false) → wordsA cur l = wordsA (cur ++ l.take k) (l.drop k)
  | 0, cur, l, _, _ => by simp
  | k + 1, cur, [], h, _ => by simp at h
  | k + 1, cur, c :: l, h, hz => by
    have h0 := hz 0 c (by simp) (by omega)
    show (if partU c then _ else wordsA (cur ++ [c]) l) = _
    rw [if_neg (by rw [h0]; exact Bool.false_ne_true), wordsA_skip k (cur ++ [c]) l (by simpa using h) (fun j d hj hlt => hz (j + 1) d (by simpa using hj) (by omega))]
    simp
theorem getD_some {l : List UInt8} {k : Nat} {c : UInt8} (h : l[k]? = some c) : l.getD k 0 = c := by
  rw [List.getD_eq_getElem?_getD, h]; rfl
theorem part_yes (s : ByteArray) (pos : Nat) (h : partR (Utf8.decode s pos).1 = true) : (Utf8.decode s pos).2 = 1 ∧ partU (s.data.toList.getD pos 0) = true := by
  rw [Lib.decode_N] at h ⊢
  unfold partU
  generalize s.data.toList.length - pos = n at *
  generalize (s.data.toList.getD pos 0).toNat = b0 at *
  generalize (s.data.toList.getD (pos + 1) 0).toNat = b1 at *
  generalize (s.data.toList.getD (pos + 2) 0).toNat = b2 at *
  generalize (s.data.toList.getD (pos + 3) 0).toNat = b3 at *
  rcases Lib.decodeN_cases n b0 b1 b2 b3 with ⟨h0, e⟩ | ⟨_, _, _, h0, e⟩ | ⟨_, _, _, _, h0, e⟩ | ⟨h0, e⟩ | e
  · rw [e] at h ⊢; exact ⟨rfl, h⟩
  · rw [e] at h; rw [partR_big _ (by simp only; omega)] at h; cases h
  · rw [e] at h; rw [partR_big _ (by simp only; omega)] at h; cases h
  · rw [partR_big _ (by omega)] at h; cases h
  · rw [e] at h; rw [partR_big _ (by simp only; omega)] at h; cases h
theorem part_no (s : ByteArray) (pos : Nat) (hpos : pos < s.size) (h : partR (Utf8.decode s pos).1 = false) : pos + (Utf8.decode s pos).2 ≤ s.size ∧ 1 ≤ (Utf8.decode s pos).2 ∧
    ∀ j c, s.data.toList[pos + j]? = some c → j < (Utf8.decode s pos).2 → partU c = false := by
  have hge := Lib.width_pos s pos
  rw [Lib.decode_N] at h hge ⊢
  have hl : s.data.toList.length = s.size := rfl
  have hle := Lib.decodeN_le_n' (s.data.toList.length - pos) (s.data.toList.getD pos 0).toNat (s.data.toList.getD (pos + 1) 0).toNat (s.data.toList.getD (pos + 2) 0).toNat (s.data.toList.getD (pos + 3) 0).toNat (by omega)
  have hc := Lib.decodeN_conts (s.data.toList.length - pos) (s.data.toList.getD pos 0).toNat (s.data.toList.getD (pos + 1) 0).toNat (s.data.toList.getD (pos + 2) 0).toNat (s.data.toList.getD (pos + 3) 0).toNat
  refine ⟨by omega, hge, fun j c hj hlt => ?_⟩
  have hg := getD_some hj
  rcases Nat.lt_or_ge 0 j with hj0 | hj0
  · have h128 : 128 ≤ c.toNat := by
      have hj4 : j = 1 ∨ j = 2 ∨ j = 3 := by omega
      rcases hj4 with rfl | rfl | rfl
      · have := (hc.1 (by omega)).1; rw [hg] at this; omega
      · have := (hc.2.1 (by omega)).1; rw [hg] at this; omega
      · have := (hc.2.2.1 (by omega)).1; rw [hg] at this; omega
    exact partR_big _ (by omega)
  · obtain rfl : j = 0 := by omega
    rw [Nat.add_zero] at hg
    by_cases h128 : c.toNat < 128
    · unfold partU
      rw [hg] at h
      have e : Lib.decodeN (s.data.toList.length - pos) c.toNat (s.data.toList.getD (pos + 1) 0).toNat (s.data.toList.getD (pos + 2) 0).toNat (s.data.toList.getD (pos + 3) 0).toNat = (c.toNat, 1) := by
        unfold Lib.decodeN; rw [if_pos h128]
      rw [e] at h
      exact h
    · exact partR_big _ (by omega)
/-- the word begun at a place -/
def curOf (l : List UInt8) (st : Option Nat) (pos : Nat) : List UInt8 := match st with
  | some a => (l.drop a).take (pos - a)
  | none => []
def pieces (s : ByteArray) (l : List (Nat × Nat)) : List (List UInt8) := l.map fun x => (s.extract x.1 x.2).data.toList
theorem pieces_append (s : ByteArray) (a b : List (Nat × Nat)) : pieces s (a ++ b) = pieces s a ++ pieces s b := by unfold pieces; rw [List.map_append]
theorem pieces_one (s : ByteArray) (a b : Nat) : pieces s [(a, b)] = [(s.data.toList.drop a).take (b - a)] := by
  unfold pieces; rw [List.map_singleton, Lib.extract_data]
theorem curOf_ne (s : ByteArray) (a pos : Nat) (h1 : a < pos) (h2 : pos ≤ s.size) : curOf s.data.toList (some a) pos ≠ [] := fun e => by
  have := congrArg List.length e
  have hl : s.data.toList.length = s.size := rfl
  simp only [curOf, List.length_take, List.length_drop, List.length_nil] at this
  omega
theorem spans_words (s : ByteArray) : ∀ (f pos : Nat) (st : Option Nat) (acc : List (Nat × Nat)), s.size ≤ f + pos → pos ≤ s.size → (∀ a, st = some a → a < pos) →
    pieces s (Lib.closeSpans s (Lib.spansFromP partR s f pos st acc)) = pieces s acc ++ wordsA (curOf s.data.toList st pos) (s.data.toList.drop pos) := by
  intro f
  have hl : s.data.toList.length = s.size := rfl
  have fin : ∀ (pos : Nat) (st : Option Nat) (acc : List (Nat × Nat)), pos = s.size → (∀ a, st = some a → a < pos) → pieces s (Lib.closeSpans s (acc, st)) = pieces s acc ++ wordsA (curOf s.data.toList st pos) (s.data.toList.drop pos) := by
    rintro pos st acc rfl hst
    rw [List.drop_eq_nil_of_le (by omega)]
    cases st with
    | none =>
      show pieces s acc = pieces s acc ++ (if _ then _ else _)
      rw [if_pos (by rfl), List.append_nil]
    | some a =>
      show pieces s (acc ++ [(a, s.size)]) = pieces s acc ++ (if _ then _ else _)
      rw [if_neg (curOf_ne s a _ (hst a rfl) (Nat.le_refl _)), pieces_append, pieces_one]; rfl
  induction f with
  | zero =>
    intro pos st acc h1 h2 hst
    exact fin pos st acc (by omega) hst
  | succ f ih =>
    intro pos st acc h1 h2 hst
    by_cases hlt : pos < s.size
    · unfold Lib.spansFromP
      rw [if_pos hlt]
      cases hp : partR (Utf8.decode s pos).1
      · obtain ⟨q1, q2, q3⟩ := part_no s pos hlt hp
        simp only [Bool.false_eq_true, if_false]
        have hsk := wordsA_skip (Utf8.decode s pos).2 (curOf s.data.toList st pos) (s.data.toList.drop pos) (by rw [List.length_drop]; omega) (fun j c hj hlt2 => q3 j c (by rw [List.getElem?_drop] at hj; exact hj) hlt2)
        rw [List.drop_drop] at hsk
        cases st with
        | none =>
          simp only
          rw [ih _ _ _ (by omega) q1 (fun a ha => by injection ha with ha; omega), hsk]
          congr 2
          show (_ : List UInt8).take (pos + (Utf8.decode s pos).2 - pos) = [] ++ _
          rw [Nat.add_sub_cancel_left, List.nil_append]
        | some a =>
          have hap := hst a rfl
          simp only
          rw [ih _ _ _ (by omega) q1 (fun b hb => by injection hb with hb; omega), hsk]
          congr 2
          show (s.data.toList.drop a).take (pos + (Utf8.decode s pos).2 - a) = (s.data.toList.drop a).take (pos - a) ++ (s.data.toList.drop pos).take (Utf8.decode s pos).2
          have e1 : s.data.toList.drop pos = (s.data.toList.drop a).drop (pos - a) := by rw [List.drop_drop]; congr 1; omega
          rw [e1, ← List.take_add]
          congr 1; omega
      · obtain ⟨q1, q2⟩ := part_yes s pos hp
        have hlt' : pos < s.data.toList.length := by omega
        have hd := List.drop_eq_getElem_cons hlt'
        have hc : partU s.data.toList[pos] = true := by
          rw [← q2]; congr 1
          rw [List.getD_eq_getElem?_getD, List.getElem?_eq_getElem hlt']; rfl
        simp only [if_true]
        rw [q1]
        cases st with
        | none =>
          simp only
          rw [ih _ _ _ (by omega) (by omega) (fun a ha => by cases ha), hd]
          congr 1
          show _ = (if partU _ then (if _ then _ else _) else _)
          rw [if_pos hc, if_pos (by rfl)]
          rfl
        | some a =>
          simp only
          rw [ih _ _ _ (by omega) (by omega) (fun a ha => by cases ha), hd, pieces_append, List.append_assoc, pieces_one]
          congr 1
          show _ = (if partU _ then (if _ then _ else _) else _)
          rw [if_pos hc, if_neg (curOf_ne s a _ (hst a rfl) h2)]
          rfl
    · have e : Lib.spansFromP partR s (f + 1) pos st acc = (acc, st) := Lib.spansFromP_end _ _ _ _ _ _ hlt
      rw [e]
      exact fin pos st acc (by omega) hst
/-- the library's words are these -/
theorem fields_words (s : ByteArray) : Lib.goFieldsP partR s = (wordsL s.data.toList).map txt := by
  have h := spans_words s s.size 0 none [] (by omega) (Nat.zero_le _) (fun a ha => by cases ha)
  have h2 : (Lib.goFieldsP partR s).map (fun x => x.data.toList) = wordsL s.data.toList := by
    unfold Lib.goFieldsP
    rw [List.map_map]
    exact h
  rw [← h2, List.map_map]
  have : (txt ∘ fun x : ByteArray => x.data.toList) = id := by funext x; rfl
  rw [this, List.map_id]
theorem wordsA_append (cur a : List UInt8) (c : UInt8) (b : List UInt8) (hc : partU c = true) : wordsA cur (a ++ c :: b) = wordsA cur a ++ wordsL b := by
  induction a generalizing cur with
  | nil =>
    show (if partU c then (if cur = [] then wordsA [] b else cur :: wordsA [] b) else _) = (if cur = [] then [] else [cur]) ++ _
    rw [if_pos hc]
    by_cases h : cur = []
    · rw [if_pos h, if_pos h]; rfl
    · rw [if_neg h, if_neg h]; rfl
  | cons d a ih =>
    show (if partU d then (if cur = [] then wordsA [] (a ++ c :: b) else cur :: wordsA [] (a ++ c :: b)) else wordsA (cur ++ [d]) (a ++ c :: b)) = (if partU d then (if cur = [] then wordsA [] a else cur :: wordsA [] a) else wordsA (cur ++ [d]) a) ++ _
    by_cases hd : partU d = true
    · rw [if_pos hd, if_pos hd]
      by_cases h : cur = []
      · rw [if_pos h, if_pos h, ih]
      · rw [if_neg h, if_neg h, ih]; rfl
    · rw [if_neg hd, if_neg hd, ih]
/-- words on both sides of a byte that parts -/
theorem words_two (a : List UInt8) (c : UInt8) (b : List UInt8) (hc : partU c = true) : wordsL (a ++ c :: b) = wordsL a ++ wordsL b := wordsA_append [] a c b hc
theorem words_nil : wordsL [] = [] := rfl
theorem words_part (c : UInt8) (b : List UInt8) (hc : partU c = true) : wordsL (c :: b) = wordsL b := by
  have := words_two [] c b hc
  exact this
theorem words_word (w : List UInt8) (hn : w ≠ []) (h : ∀ c ∈ w, partU c = false) : wordsL w = [w] := by
  have := wordsA_skip w.length [] w (Nat.le_refl _) (fun j c hj _ => h c (List.mem_of_getElem? hj))
  unfold wordsL
  rw [this, List.drop_length, List.take_length]
  show (if _ then _ else _) = _
  rw [if_neg (by simpa using hn)]; rfl
theorem words_len (l : List UInt8) : (wordsL l).length ≤ l.length ∧ ∀ x ∈ wordsL l, x.length ≤ l.length := by
  have key : ∀ (l cur : List UInt8), (wordsA cur l).length ≤ l.length + cur.length ∧ ∀ x ∈ wordsA cur l, x.length ≤ l.length + cur.length := by
    intro l
    induction l with
    | nil =>
      intro cur
      show (if cur = [] then [] else [cur] : List (List UInt8)).length ≤ _ ∧ ∀ x ∈ (if cur = [] then [] else [cur] : List (List UInt8)), _
      by_cases h : cur = []
      · rw [if_pos h]; simp
      · rw [if_neg h]
        have : 0 < cur.length := List.length_pos_iff.2 h
        refine ⟨by simp; omega, fun x hx => by simp at hx; rw [hx]; omega⟩
    | cons c l ih =>
      intro cur
      have e : wordsA cur (c :: l) = if partU c then (if cur = [] then wordsA [] l else cur :: wordsA [] l) else wordsA (cur ++ [c]) l := rfl
      rw [e]
      have i0 := ih []
      have i1 := ih (cur ++ [c])
      simp only [List.length_append, List.length_cons, List.length_nil] at i0 i1 ⊢
      by_cases hd : partU c = true
      · rw [if_pos hd]
        by_cases h : cur = []
        · rw [if_pos h]
          exact ⟨by omega, fun x hx => by have := i0.2 x hx; omega⟩
        · rw [if_neg h]
          have : 0 < cur.length := List.length_pos_iff.2 h
          refine ⟨by simp only [List.length_cons]; omega, fun x hx => ?_⟩
          rw [List.mem_cons] at hx
          rcases hx with rfl | hx
          · omega
          · have := i0.2 x hx; omega
      · rw [if_neg hd]
        exact ⟨by omega, fun x hx => by have := i1.2 x hx; omega⟩
  exact key l []
end Go.Proofs.YtgjjkieljdamfafDoor
