/- The plain functions of bytes that package word and its reference compute: fold, trim, token, cut, parts, join; no walk. -/
import Derived.Test.YtcfdajaideidkaaKit
import Derived.Lib.IndexLaws
import Derived.Lib.IndexAny
namespace Go.Proofs.Ytcfdajaideidkaa
open Go.RowKit
set_option linter.all false
set_option maxRecDepth 100000

def blankB (n : Int) : Bool := n == 32 || n == 9
def blankU (c : UInt8) : Bool := blankB c.toNat
/-- a byte, folded -/
def foldU (c : UInt8) : UInt8 := if 65 ≤ c.toNat ∧ c.toNat ≤ 90 then c + 32 else c
def foldL (l : List UInt8) : List UInt8 := l.map foldU
theorem foldU_yes (c : UInt8) (h : 65 ≤ (c.toNat : Int)) (h' : (c.toNat : Int) ≤ 90) : ((foldU c).toNat : Int) = (c.toNat : Int) - 65 + 97 := by
  unfold foldU; rw [if_pos (by omega), UInt8.toNat_add]
  have : (32 : UInt8).toNat = 32 := rfl
  omega
theorem foldU_no (c : UInt8) (h : ¬ (65 ≤ (c.toNat : Int) ∧ (c.toNat : Int) ≤ 90)) : foldU c = c := by
  unfold foldU; rw [if_neg (by omega)]
/-- what lies at place j when the first k bytes are folded -/
def foldAt (s : ByteArray) (k j : Nat) : Value := .int .u8 (if j < k then ((foldU (s.data[j]?.getD 0)).toNat : Int) else ((s.data[j]?.getD 0).toNat : Int))
theorem foldAt_zero (s : ByteArray) (j : Nat) : foldAt s 0 j = .int .u8 ((s.data[j]?.getD 0).toNat : Int) := by simp [foldAt]
theorem foldAt_self (s : ByteArray) (k : Nat) : foldAt s k k = .int .u8 ((s.data[k]?.getD 0).toNat : Int) := by simp [foldAt]
theorem foldAt_succ (s : ByteArray) (k j : Nat) : foldAt s (k + 1) j = if j = k then .int .u8 ((foldU (s.data[k]?.getD 0)).toNat : Int) else foldAt s k j := by
  unfold foldAt
  by_cases h : j = k
  · subst h; simp
  · rw [if_neg h]
    by_cases h2 : j < k
    · rw [if_pos (by omega), if_pos h2]
    · rw [if_neg (by omega), if_neg h2]
theorem foldAt_keep (s : ByteArray) (k j : Nat) (h : foldU (s.data[k]?.getD 0) = s.data[k]?.getD 0) : foldAt s (k + 1) j = foldAt s k j := by
  rw [foldAt_succ]
  by_cases e : j = k
  · subst e; rw [if_pos rfl, foldAt_self, h]
  · rw [if_neg e]
theorem foldAt_all (s : ByteArray) (j : Nat) (hj : j < (foldL s.data.toList).length) : foldAt s s.size j = .int .u8 ((foldL s.data.toList)[j].toNat : Int) := by
  have h : j < s.data.size := by simpa [foldL] using hj
  have h2 : j < s.size := h
  simp [foldAt, foldL, h2]

/-- where a run of a kind ends -/
theorem while_at (p : UInt8 → Bool) : ∀ (l : List UInt8) (o : Nat), o ≤ l.length → (∀ k c, l[k]? = some c → k < o → p c = true) → (∀ c, l[o]? = some c → p c = false) →
    l.takeWhile p = l.take o ∧ l.dropWhile p = l.drop o
  | [], o, _, _, _ => by simp
  | c :: l, 0, _, _, h2 => by
    have := h2 c (by simp)
    simp [this]
  | c :: l, o + 1, ho, h1, h2 => by
    have hc := h1 0 c (by simp) (by omega)
    have ih := while_at p l o (by simpa using ho) (fun k d hk hlt => h1 (k + 1) d (by simpa using hk) (by omega)) (fun d hd => h2 d (by simpa using hd))
    simp [hc, ih.1, ih.2]

def trimL (l : List UInt8) : List UInt8 := ((l.dropWhile blankU).reverse.dropWhile blankU).reverse
theorem trim_at (l : List UInt8) (a b : Nat) (hab : a ≤ b) (hb : b ≤ l.length) (h1 : ∀ k c, l[k]? = some c → k < a → blankU c = true) (h2 : ∀ k c, l[k]? = some c → b ≤ k → blankU c = true)
    (h3 : a = b ∨ ∃ c, l[a]? = some c ∧ blankU c = false) (h4 : a = b ∨ ∃ c, l[b - 1]? = some c ∧ blankU c = false) : trimL l = (l.drop a).take (b - a) := by
  unfold trimL
  rcases h3 with h3 | ⟨c3, h3, h3'⟩
  · subst h3
    have hall : ∀ c ∈ l, blankU c = true := by
      intro c hc
      obtain ⟨k, hk⟩ := List.getElem?_of_mem hc
      by_cases hlt : k < a
      · exact h1 k c hk hlt
      · exact h2 k c hk (by omega)
    have e : l.dropWhile blankU = [] := by
      rw [(while_at blankU l l.length (Nat.le_refl _) (fun k c hk _ => hall c (List.mem_of_getElem? hk)) (fun c hc => by simp at hc)).2]
      simp
    rw [e]; simp
  · have e := (while_at blankU l a (by omega) h1 (fun c hc => by rw [h3] at hc; injection hc with hc; rw [← hc]; exact h3')).2
    rw [e]
    rcases h4 with h4 | ⟨c4, h4, h4'⟩
    · subst h4
      have := h2 a c3 h3 (by omega)
      rw [this] at h3'; cases h3'
    · have hlt : a < b := by
        rcases Nat.lt_or_ge a b with h | h
        · exact h
        · have : a = b := by omega
          subst this
          have := h2 a c3 h3 (by omega)
          rw [this] at h3'; cases h3'
      have e2 := (while_at blankU (l.drop a).reverse (l.length - b) (by simp; omega) (fun k c hk hlt => by
          have hk' : k < (l.drop a).length := by simpa using (List.getElem?_eq_some_iff.1 hk).1
          simp at hk'
          rw [List.getElem?_reverse (by simpa using hk')] at hk
          rw [List.getElem?_drop] at hk
          refine h2 _ c hk ?_
          simp; omega) (fun c hc => by
          by_cases hz : l.length - b < (l.drop a).length
          · rw [List.getElem?_reverse hz, List.getElem?_drop] at hc
            have e : a + ((l.drop a).length - 1 - (l.length - b)) = b - 1 := by simp at hz ⊢; omega
            rw [e, h4] at hc
            injection hc with hc
            rw [← hc]; exact h4'
          · rw [List.getElem?_eq_none (by simpa using hz)] at hc; cases hc)).2
      rw [e2, List.drop_reverse, List.reverse_reverse]
      congr 1
      simp; omega

/-- the signs that no token has -/
def badT : List UInt8 := [40, 41, 60, 62, 64, 44, 59, 58, 92, 34, 47, 91, 93, 63, 61, 123, 125]
def tokU (c : UInt8) : Bool := decide (33 ≤ c.toNat ∧ c.toNat ≤ 126) && !badT.contains c
def tokenL (l : List UInt8) : Bool := !l.isEmpty && l.all tokU

/-- is there such a byte? -/
def hasB (l : List UInt8) (b : UInt8) : Bool := l.contains b
/-- ahead of the first such byte, and behind it -/
def cutA (l : List UInt8) (b : UInt8) : List UInt8 := l.takeWhile (fun c => c != b)
def cutB (l : List UInt8) (b : UInt8) : List UInt8 := (l.dropWhile (fun c => c != b)).drop 1
theorem cut_none (l : List UInt8) (b : UInt8) (h : Lib.indexByte l b = -1) : cutA l b = l ∧ cutB l b = [] ∧ hasB l b = false := by
  have hn := Lib.indexByte_none h
  have hw := while_at (fun c => c != b) l l.length (Nat.le_refl _) (fun k c hk _ => by
    have := hn k
    rw [hk] at this
    simp only [bne_iff_ne, ne_eq]
    intro e; exact this (by rw [e])) (fun c hc => by simp at hc)
  refine ⟨by unfold cutA; rw [hw.1]; simp, by unfold cutB; rw [hw.2]; simp, ?_⟩
  unfold hasB; rw [Lib.contains_iff_indexByte, h]; decide
theorem cut_some (l : List UInt8) (b : UInt8) (o : Nat) (h : Lib.indexByte l b = o) : cutA l b = l.take o ∧ cutB l b = l.drop (o + 1) ∧ hasB l b = true ∧ o < l.length := by
  obtain ⟨ho, hp⟩ := Lib.indexByte_some h
  have hlt : o < l.length := (List.getElem?_eq_some_iff.1 ho).1
  have hw := while_at (fun c => c != b) l o (by omega) (fun k c hk hlt => by
    have := hp k hlt
    rw [hk] at this
    simp only [bne_iff_ne, ne_eq]
    intro e; exact this (by rw [e])) (fun c hc => by
      rw [ho] at hc; injection hc with hc; simp [hc])
  refine ⟨by unfold cutA; rw [hw.1], by unfold cutB; rw [hw.2, List.drop_drop], ?_, hlt⟩
  unfold hasB; rw [Lib.contains_iff_indexByte, h]; simp
end Go.Proofs.Ytcfdajaideidkaa
