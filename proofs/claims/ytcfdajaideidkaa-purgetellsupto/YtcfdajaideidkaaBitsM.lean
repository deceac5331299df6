/- Bits of numbers and of texts: plain functions. No walk. -/
import Derived.Test.YtcfdajaideidkaaKit
namespace Go.Proofs.Ytcfdajaideidkaa
set_option linter.all false
set_option maxRecDepth 100000

/-- the bits of a number, the highest one of so many first -/
def bitsN (n : Nat) : Nat → List Nat
  | 0 => []
  | w + 1 => (n / 2 ^ w % 2) :: bitsN n w
/-- the number that bits tell, the highest one first -/
def numB (l : List Nat) : Nat := l.foldl (fun n b => 2 * n + b) 0
theorem bitsN_length (n w : Nat) : (bitsN n w).length = w := by
  induction w with
  | zero => rfl
  | succ w ih => simp [bitsN, ih]
theorem bitsN_lt (n w : Nat) : ∀ b ∈ bitsN n w, b < 2 := by
  induction w with
  | zero => intro b hb; cases hb
  | succ w ih =>
    intro b hb
    rcases List.mem_cons.1 hb with rfl | h
    · exact Nat.mod_lt _ (by decide)
    · exact ih b h
theorem numB_snoc (l : List Nat) (b : Nat) : numB (l ++ [b]) = 2 * numB l + b := by simp [numB]
theorem foldl_num (l : List Nat) (a : Nat) : l.foldl (fun n b => 2 * n + b) a = a * 2 ^ l.length + numB l := by
  induction l generalizing a with
  | nil => simp [numB]
  | cons b l ih =>
    unfold numB
    rw [List.foldl_cons, ih, List.foldl_cons, ih (2 * 0 + b), List.length_cons, Nat.pow_succ, Nat.add_mul, Nat.mul_zero, Nat.zero_add]
    rw [Nat.mul_comm 2 a, Nat.mul_assoc, Nat.mul_comm 2]
    omega
theorem numB_cons (b : Nat) (l : List Nat) : numB (b :: l) = b * 2 ^ l.length + numB l := by
  have h := foldl_num l b
  show List.foldl _ (2 * 0 + b) l = _
  rw [Nat.mul_zero, Nat.zero_add]; exact h
theorem numB_append (a b : List Nat) : numB (a ++ b) = numB a * 2 ^ b.length + numB b := by
  unfold numB
  rw [List.foldl_append, foldl_num]; rfl
theorem numB_lt (l : List Nat) (h : ∀ b ∈ l, b < 2) : numB l < 2 ^ l.length := by
  induction l with
  | nil => simp [numB]
  | cons b l ih =>
    rw [numB_cons, List.length_cons, Nat.pow_succ]
    have h1 := ih fun x hx => h x (by simp [hx])
    have h2 := h b (by simp)
    rcases (by omega : b = 0 ∨ b = 1) with rfl | rfl <;> omega
theorem numB_bitsN (n w : Nat) : numB (bitsN n w) = n % 2 ^ w := by
  induction w with
  | zero => simp [bitsN, numB, Nat.mod_one]
  | succ w ih =>
    rw [bitsN, numB_cons, bitsN_length, ih, Nat.pow_succ, Nat.mod_mul]
    rw [Nat.mul_comm (2 ^ w)]; omega
theorem numB_bits (n w : Nat) (h : n < 2 ^ w) : numB (bitsN n w) = n := by rw [numB_bitsN, Nat.mod_eq_of_lt h]
theorem bitsN_high (b n w : Nat) (m : Nat) (h : m ≤ w) : bitsN (b * 2 ^ w + n) m = bitsN n m := by
  induction m with
  | zero => rfl
  | succ m ih =>
    rw [bitsN, bitsN, ih (by omega)]
    congr 1
    have e : 2 ^ w = 2 ^ m * (2 * 2 ^ (w - m - 1)) := by
      rw [← Nat.mul_assoc, ← Nat.pow_succ, ← Nat.pow_add]; congr 1; omega
    rw [e, Nat.mul_left_comm, Nat.mul_add_div (Nat.two_pow_pos m), Nat.mul_left_comm, Nat.mul_add_mod]
theorem bitsN_numB (l : List Nat) (h : ∀ b ∈ l, b < 2) : bitsN (numB l) l.length = l := by
  induction l with
  | nil => rfl
  | cons b l ih =>
    have h1 := fun x hx => h x (List.mem_cons_of_mem _ hx)
    have h2 := h b (by simp)
    have h3 := numB_lt l h1
    rw [numB_cons, List.length_cons, bitsN, bitsN_high _ _ _ _ (Nat.le_refl _), ih h1]
    congr 1
    rw [Nat.mul_comm, Nat.mul_add_div (Nat.two_pow_pos _), Nat.div_eq_of_lt h3]
    omega
theorem bitsN_add (n a b : Nat) : bitsN n (a + b) = bitsN (n / 2 ^ b) a ++ bitsN n b := by
  induction a with
  | zero => simp [bitsN]
  | succ a ih =>
    rw [Nat.succ_add, bitsN, ih, bitsN, List.cons_append]
    congr 1
    rw [Nat.div_div_eq_div_mul, ← Nat.pow_add, Nat.add_comm b]
theorem bitsN_get (n w i : Nat) (h : i < w) : (bitsN n w)[i]? = some (n / 2 ^ (w - 1 - i) % 2) := by
  induction w generalizing i with
  | zero => omega
  | succ w ih =>
    cases i with
    | zero => simp [bitsN]
    | succ i =>
      rw [bitsN, List.getElem?_cons_succ, ih i (by omega)]
      congr 4; omega

/-- a text's bit, the first byte's highest one first; beyond it noughts -/
def bitT (t : List UInt8) (i : Nat) : Nat := (t[i / 8]?.getD 0).toNat / 2 ^ (7 - i % 8) % 2
theorem bitT_lt (t : List UInt8) (i : Nat) : bitT t i < 2 := Nat.mod_lt _ (by decide)
theorem bitT_out (t : List UInt8) (i : Nat) (h : 8 * t.length ≤ i) : bitT t i = 0 := by
  unfold bitT
  rw [List.getElem?_eq_none (by omega)]; simp
theorem u8_bits (a b : UInt8) (h : ∀ k, k < 8 → a.toNat / 2 ^ k % 2 = b.toNat / 2 ^ k % 2) : a = b := by
  have h0 := h 0 (by decide)
  have h1 := h 1 (by decide)
  have h2 := h 2 (by decide)
  have h3 := h 3 (by decide)
  have h4 := h 4 (by decide)
  have h5 := h 5 (by decide)
  have h6 := h 6 (by decide)
  have h7 := h 7 (by decide)
  have ha := u8_lt a
  have hb := u8_lt b
  apply UInt8.toNat_inj.1
  simp only [Nat.reducePow, Nat.div_one] at h0 h1 h2 h3 h4 h5 h6 h7
  omega
theorem u8_ofNat (n : Nat) (h : n < 256) : (UInt8.ofNat n).toNat = n := by rw [UInt8.toNat_ofNat']; exact Nat.mod_eq_of_lt (by omega)
/-- texts of one length and of the same bits are one -/
theorem text_ext (s t : List UInt8) (hl : s.length = t.length) (h : ∀ i, bitT s i = bitT t i) : s = t := by
  apply List.ext_getElem? 
  intro j
  rcases Nat.lt_or_ge j s.length with hj | hj
  · rw [List.getElem?_eq_getElem hj, List.getElem?_eq_getElem (by omega)]
    congr 1
    apply u8_bits
    intro k hk
    have := h (8 * j + (7 - k))
    unfold bitT at this
    rw [show (8 * j + (7 - k)) / 8 = j by omega, show 7 - (8 * j + (7 - k)) % 8 = k by omega, List.getElem?_eq_getElem hj, List.getElem?_eq_getElem (by omega)] at this
    simpa using this
  · rw [List.getElem?_eq_none hj, List.getElem?_eq_none (by omega)]
/-- bits as bytes, noughts behind -/
def packB (bs : List Nat) : List UInt8 := (List.range ((bs.length + 7) / 8)).map fun j => UInt8.ofNat (numB ((List.range 8).map fun k => bs[8 * j + k]?.getD 0))
theorem packB_length (bs : List Nat) : (packB bs).length = (bs.length + 7) / 8 := by simp [packB]
theorem bitT_pack (bs : List Nat) (h : ∀ b ∈ bs, b < 2) (i : Nat) : bitT (packB bs) i = bs[i]?.getD 0 := by
  have hb : ∀ j : Nat, bs[j]?.getD 0 < 2 := fun j => by
    cases e : bs[j]? with
    | none => simp
    | some x => simpa using h x (List.mem_of_getElem? e)
  rcases Nat.lt_or_ge (i / 8) ((bs.length + 7) / 8) with hi | hi
  · unfold bitT packB
    rw [List.getElem?_map, List.getElem?_range hi]
    simp only [Option.map_some, Option.getD_some]
    have hl : ∀ b ∈ (List.range 8).map (fun k => bs[8 * (i / 8) + k]?.getD 0), b < 2 := by
      intro b hb'
      obtain ⟨k, _, rfl⟩ := List.mem_map.1 hb'
      exact hb _
    have hlt := numB_lt _ hl
    simp only [List.length_map, List.length_range] at hlt
    rw [u8_ofNat _ (by omega)]
    have hg := bitsN_get (numB ((List.range 8).map fun k => bs[8 * (i / 8) + k]?.getD 0)) 8 (i % 8) (by omega)
    have he := bitsN_numB _ hl
    simp only [List.length_map, List.length_range] at he
    rw [he, List.getElem?_map, List.getElem?_range (by omega)] at hg
    simp only [Option.map_some, Option.some.injEq] at hg
    rw [show 7 - i % 8 = 8 - 1 - i % 8 by omega, ← hg, show 8 * (i / 8) + i % 8 = i by omega]
  · rw [bitT_out _ _ (by rw [packB_length]; omega), List.getElem?_eq_none (by omega)]; rfl
/-- what a text is that has these bits -/
theorem packB_of (t : List UInt8) (bs : List Nat) (h : ∀ b ∈ bs, b < 2) (hl : t.length = (bs.length + 7) / 8) (hb : ∀ i, bitT t i = bs[i]?.getD 0) : t = packB bs :=
  text_ext _ _ (by rw [packB_length, hl]) fun i => by rw [hb, bitT_pack bs h]
/-- a text's bits -/
def bitsT (t : List UInt8) : List Nat := t.flatMap fun c => bitsN c.toNat 8
theorem bitsT_length (t : List UInt8) : (bitsT t).length = 8 * t.length := by
  induction t with
  | nil => rfl
  | cons c t ih => rw [bitsT, List.flatMap_cons, List.length_append, bitsN_length]; unfold bitsT at ih; rw [ih, List.length_cons]; omega
theorem bitsT_lt (t : List UInt8) : ∀ b ∈ bitsT t, b < 2 := by
  intro b hb
  obtain ⟨c, _, h⟩ := List.mem_flatMap.1 hb
  exact bitsN_lt _ _ b h
theorem bitsT_get (t : List UInt8) (i : Nat) : (bitsT t)[i]?.getD 0 = bitT t i := by
  induction t generalizing i with
  | nil => simp [bitsT, bitT]
  | cons c t ih =>
    rw [bitsT, List.flatMap_cons]
    rcases Nat.lt_or_ge i 8 with h | h
    · rw [List.getElem?_append_left (by rw [bitsN_length]; exact h), bitsN_get _ _ _ h]
      unfold bitT
      rw [show i / 8 = 0 by omega, show 7 - i % 8 = 8 - 1 - i by omega]
      simp
    · rw [List.getElem?_append_right (by rw [bitsN_length]; exact h), bitsN_length]
      have := ih (i - 8)
      unfold bitsT at this
      rw [this]
      unfold bitT
      rw [show i / 8 = (i - 8) / 8 + 1 by omega, List.getElem?_cons_succ, show (i - 8) % 8 = i % 8 by omega]
theorem packB_bitsT (t : List UInt8) : packB (bitsT t) = t := by
  symm
  exact packB_of _ _ (bitsT_lt t) (by rw [bitsT_length]; omega) fun i => (bitsT_get t i).symm
theorem bitsT_append (s t : List UInt8) : bitsT (s ++ t) = bitsT s ++ bitsT t := by simp [bitsT]
/-- a bit more, into a byte that has room -/
theorem or_bit (x b k m : Nat) (hb : b < 2) (hx : x / 2 ^ k % 2 = 0) : (x ||| b * 2 ^ k) / 2 ^ m % 2 = if m = k then b else x / 2 ^ m % 2 := by
  have e : ∀ y : Nat, y / 2 ^ m % 2 = (Nat.testBit y m).toNat := fun y => by
    rw [Nat.testBit_eq_decide_div_mod_eq]
    have := Nat.mod_lt (y / 2 ^ m) (show 0 < 2 by decide)
    rcases (by omega : y / 2 ^ m % 2 = 0 ∨ y / 2 ^ m % 2 = 1) with h | h <;> simp [h]
  rw [e, e, Nat.testBit_or]
  have hs : Nat.testBit (b * 2 ^ k) m = (decide (m ≥ k) && Nat.testBit b (m - k)) := by
    rw [← Nat.shiftLeft_eq, Nat.testBit_shiftLeft]
  rw [hs]
  by_cases hmk : m = k
  · subst hmk
    rw [if_pos rfl]
    have hx0 : Nat.testBit x m = false := by
      rw [Nat.testBit_eq_decide_div_mod_eq, hx]; decide
    rw [hx0]
    rcases (by omega : b = 0 ∨ b = 1) with rfl | rfl <;> simp
  · rw [if_neg hmk]
    have : (decide (m ≥ k) && Nat.testBit b (m - k)) = false := by
      by_cases h : m ≥ k
      · have h1 : 0 < m - k := by omega
        have h2 : Nat.testBit b (m - k) = false := Nat.testBit_lt_two_pow (Nat.lt_of_lt_of_le hb (by
          have := Nat.pow_le_pow_right (show 0 < 2 by decide) h1
          simpa using this))
        simp [h2]
      · simp [h]
    rw [this, Bool.or_false]
/-- the sink's step: a nought byte where a byte begins, then the bit -/
def room (t : List UInt8) (n : Nat) : List UInt8 := if n % 8 = 0 then t ++ [0] else t
def putBit (t : List UInt8) (n b : Nat) : List UInt8 := (room t n).set (n / 8) (UInt8.ofNat (((room t n)[n / 8]?.getD 0).toNat ||| b * 2 ^ (7 - n % 8)))
structure Sunk (t : List UInt8) (bs : List Nat) : Prop where
  len : t.length = (bs.length + 7) / 8
  bit : ∀ i, bitT t i = bs[i]?.getD 0
theorem Sunk.nil : Sunk [] [] := ⟨rfl, fun i => by simp [bitT]⟩
theorem room_length (t : List UInt8) (n : Nat) (h : t.length = (n + 7) / 8) : (room t n).length = n / 8 + 1 := by
  unfold room
  split
  · simp; omega
  · omega
theorem bitT_room (t : List UInt8) (n i : Nat) : bitT (room t n) i = bitT t i := by
  unfold room
  split
  · unfold bitT
    rcases Nat.lt_or_ge (i / 8) t.length with h | h
    · rw [List.getElem?_append_left h]
    · rw [List.getElem?_append_right h, List.getElem?_eq_none (l := t) h]
      rcases Nat.eq_zero_or_pos (i / 8 - t.length) with h0 | h0
      · rw [h0]; rfl
      · rw [List.getElem?_eq_none (by simp; omega)]
  · rfl
theorem Sunk.put {t : List UInt8} {bs : List Nat} (h : Sunk t bs) (b : Nat) (hb : b < 2) : Sunk (putBit t bs.length b) (bs ++ [b]) := by
  have hr := room_length t bs.length h.len
  refine ⟨?_, fun i => ?_⟩
  · unfold putBit
    rw [List.length_set, hr]; simp; omega
  · have hz : ((room t bs.length)[bs.length / 8]?.getD 0).toNat / 2 ^ (7 - bs.length % 8) % 2 = 0 := by
      have h1 := bitT_room t bs.length bs.length
      rw [h.bit] at h1
      simpa [bitT] using h1
    have hi0 := bitT_room t bs.length i
    rw [h.bit] at hi0
    unfold putBit
    obtain ⟨x, hx⟩ : ∃ x, x = (room t bs.length)[bs.length / 8]?.getD 0 := ⟨_, rfl⟩
    rw [← hx] at hz ⊢
    have hbig : x.toNat ||| b * 2 ^ (7 - bs.length % 8) < 256 := by
      have h1 : b * 2 ^ (7 - bs.length % 8) < 2 ^ 8 := by
        have h2 : (2:Nat) ^ (7 - bs.length % 8) ≤ 2 ^ 7 := Nat.pow_le_pow_right (by decide) (by omega)
        have h3 : b * 2 ^ (7 - bs.length % 8) ≤ 1 * 2 ^ (7 - bs.length % 8) := Nat.mul_le_mul_right _ (by omega)
        omega
      have := Nat.or_lt_two_pow (n := 8) (by have := u8_lt x; omega : x.toNat < 2 ^ 8) h1
      simpa using this
    unfold bitT
    by_cases hd : i / 8 = bs.length / 8
    · rw [hd, List.getElem?_set_self (by omega)]
      simp only [Option.getD_some]
      rw [u8_ofNat _ hbig, or_bit _ _ _ _ hb hz]
      by_cases he : i = bs.length
      · subst he
        rw [if_pos rfl]; simp
      · rw [if_neg (by omega)]
        have : bitT (room t bs.length) i = x.toNat / 2 ^ (7 - i % 8) % 2 := by unfold bitT; rw [hd, ← hx]
        rw [← this, hi0]
        rcases Nat.lt_or_ge i bs.length with h1 | h1
        · rw [List.getElem?_append_left h1]
        · rw [List.getElem?_eq_none h1, List.getElem?_eq_none (by simp; omega)]
    · rw [List.getElem?_set_ne (by omega)]
      have : bitT (room t bs.length) i = ((room t bs.length)[i / 8]?.getD 0).toNat / 2 ^ (7 - i % 8) % 2 := rfl
      rw [← this, hi0]
      rcases Nat.lt_or_ge i bs.length with h1 | h1
      · rw [List.getElem?_append_left h1]
      · rw [List.getElem?_eq_none h1, List.getElem?_eq_none (by simp; omega)]
theorem Sunk.pack {t : List UInt8} {bs : List Nat} (h : Sunk t bs) (hb : ∀ b ∈ bs, b < 2) : t = packB bs := packB_of t bs hb h.len h.bit
theorem sunk_pack (bs : List Nat) (hb : ∀ b ∈ bs, b < 2) : Sunk (packB bs) bs := ⟨packB_length bs, bitT_pack bs hb⟩
end Go.Proofs.Ytcfdajaideidkaa
