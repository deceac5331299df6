/- Bytes as letters: plain functions, and what is written is read as it was. No walk. -/
import Derived.Test.YtgdcifllbfdbhaaBitsO
namespace Go.Proofs.Ytgdcifllbfdbhaa
set_option linter.all false

/-- the letter of six bits, and the six bits of a letter (64: none) -/
def ltr (n : Nat) : UInt8 := if n < 26 then UInt8.ofNat (65 + n) else if n < 52 then UInt8.ofNat (71 + n) else if n < 62 then UInt8.ofNat (n - 4) else if n = 62 then 45 else 95
def lnum (b : UInt8) : Nat := if 65 ≤ b.toNat ∧ b.toNat ≤ 90 then b.toNat - 65 else if 97 ≤ b.toNat ∧ b.toNat ≤ 122 then b.toNat - 71 else if 48 ≤ b.toNat ∧ b.toNat ≤ 57 then b.toNat + 4 else if b.toNat = 45 then 62 else if b.toNat = 95 then 63 else 64
theorem u8_all (p : UInt8 → Prop) (h : ∀ n : Fin 256, p (UInt8.ofNat n.val)) (b : UInt8) : p b := by
  have := h ⟨b.toNat, b.toNat_lt⟩
  rwa [UInt8.ofNat_toNat] at this
theorem lnum_ltr (n : Nat) (h : n < 64) : lnum (ltr n) = n := by
  have : ∀ n : Fin 64, lnum (ltr n.val) = n.val := by decide +kernel
  exact this ⟨n, h⟩
theorem ltr_lnum (b : UInt8) (h : lnum b < 64) : ltr (lnum b) = b := by
  have : ∀ b : UInt8, lnum b < 64 → ltr (lnum b) = b := u8_all _ (by decide +kernel)
  exact this b h
theorem lnum_le (b : UInt8) : lnum b ≤ 64 := by
  have : ∀ b : UInt8, lnum b ≤ 64 := u8_all _ (by decide +kernel)
  exact this b
/-- the letters of all sixes -/
def ltrs : List UInt8 := (List.range 64).map ltr
/-- six bits from the i-th six on -/
def sixN (s : List UInt8) (i : Nat) : Nat := numB ((List.range 6).map fun k => bitT s (6 * i + k))
theorem sixN_lt (s : List UInt8) (i : Nat) : sixN s i < 64 := by
  have h := numB_lt ((List.range 6).map fun k => bitT s (6 * i + k)) (fun b hb => by
    obtain ⟨k, _, rfl⟩ := List.mem_map.1 hb
    exact bitT_lt _ _)
  simpa [sixN] using h
theorem sixN_bits (s : List UInt8) (i : Nat) : bitsN (sixN s i) 6 = (List.range 6).map fun k => bitT s (6 * i + k) := by
  have h := bitsN_numB ((List.range 6).map fun k => bitT s (6 * i + k)) (fun b hb => by
    obtain ⟨k, _, rfl⟩ := List.mem_map.1 hb
    exact bitT_lt _ _)
  simpa [sixN] using h
def wM (n : Nat) : Nat := (8 * n + 5) / 6
def wL (s : List UInt8) : List UInt8 := (List.range (wM s.length)).map fun i => ltr (sixN s i)
theorem wL_length (s : List UInt8) : (wL s).length = wM s.length := by simp [wL]
def wE (s : List UInt8) : Int := if 400 < s.length then 2 else 0
def wT (s : List UInt8) : List UInt8 := if 400 < s.length then [] else wL s
theorem bitT_left (s t : List UInt8) (i : Nat) (h : i < 8 * s.length) : bitT (s ++ t) i = bitT s i := by
  unfold bitT
  rw [List.getElem?_append_left (by omega)]
theorem bitT_right (s t : List UInt8) (i : Nat) : bitT (s ++ t) (8 * s.length + i) = bitT t i := by
  unfold bitT
  rw [List.getElem?_append_right (by omega), show (8 * s.length + i) / 8 - s.length = i / 8 by omega, show (8 * s.length + i) % 8 = i % 8 by omega]
/-- three bytes are four letters -/
theorem wL_append (s t : List UInt8) (h : s.length % 3 = 0) : wL (s ++ t) = wL s ++ wL t := by
  have hm : wM (s ++ t).length = wM s.length + wM t.length := by unfold wM; rw [List.length_append]; omega
  have hm6 : 6 * wM s.length = 8 * s.length := by unfold wM; omega
  unfold wL
  rw [hm, List.range_add, List.map_append, List.map_map]
  congr 1
  · apply List.map_congr_left
    intro i hi
    have hi := List.mem_range.1 hi
    congr 1
    unfold sixN
    congr 1
    apply List.map_congr_left
    intro k hk
    have hk := List.mem_range.1 hk
    exact bitT_left _ _ _ (by omega)
  · apply List.map_congr_left
    intro i hi
    show ltr _ = ltr _
    congr 1
    unfold sixN
    congr 1
    apply List.map_congr_left
    intro k hk
    rw [← bitT_right s t (6 * i + k)]
    congr 1
    show 6 * (wM s.length + i) + k = _
    omega
/-- reading: the bits of letters -/
def uB (t : List UInt8) : List Nat := t.flatMap fun c => bitsN (lnum c) 6
theorem uB_length (t : List UInt8) : (uB t).length = 6 * t.length := by
  induction t with
  | nil => rfl
  | cons c t ih => rw [uB, List.flatMap_cons, List.length_append, bitsN_length]; unfold uB at ih; rw [ih, List.length_cons]; omega
theorem uB_lt (t : List UInt8) : ∀ b ∈ uB t, b < 2 := by
  intro b hb
  obtain ⟨c, _, h⟩ := List.mem_flatMap.1 hb
  exact bitsN_lt _ _ b h
theorem uB_append (s t : List UInt8) : uB (s ++ t) = uB s ++ uB t := by simp [uB]
def uM (n : Nat) : Nat := 6 * n / 8
def uL (t : List UInt8) : List UInt8 := packB ((uB t).take (8 * uM t.length))
def uOk (t : List UInt8) : Bool := ((uB t).drop (8 * uM t.length)).all (fun b => b == 0)
def alone (t : List UInt8) : Bool := t.all (fun c => decide (lnum c < 64))
def uE (t : List UInt8) : Int := if alone t = false ∨ t.length % 4 = 1 then 1 else if 400 < uM t.length then 2 else if uOk t = true then 0 else 1
def uT (t : List UInt8) : List UInt8 := if uE t = 0 then uL t else []
theorem packB_get (bs : List Nat) (j : Nat) (h : j < (bs.length + 7) / 8) : (packB bs)[j]? = some (UInt8.ofNat (numB ((List.range 8).map fun k => bs[8 * j + k]?.getD 0))) := by
  unfold packB
  rw [List.getElem?_map, List.getElem?_range h]; rfl
theorem packB_takeB (bs : List Nat) (m : Nat) : packB (bs.take (8 * m)) = (packB bs).take m := by
  apply List.ext_getElem?
  intro j
  by_cases hj : j < m
  · rw [List.getElem?_take, if_pos hj]
    by_cases hb : j < (bs.length + 7) / 8
    · rw [packB_get _ _ hb, packB_get _ _ (by rw [List.length_take]; omega)]
      congr 3
      apply List.map_congr_left
      intro k hk
      have hk := List.mem_range.1 hk
      rw [List.getElem?_take, if_pos (by omega)]
    · rw [List.getElem?_eq_none (by rw [packB_length, List.length_take]; omega), List.getElem?_eq_none (by rw [packB_length]; omega)]
  · rw [List.getElem?_take, if_neg hj, List.getElem?_eq_none (by rw [packB_length, List.length_take]; omega)]
theorem packB_dropB (bs : List Nat) (m : Nat) : packB (bs.drop (8 * m)) = (packB bs).drop m := by
  apply List.ext_getElem?
  intro j
  rw [List.getElem?_drop]
  by_cases hb : m + j < (bs.length + 7) / 8
  · rw [packB_get _ _ hb, packB_get _ _ (by rw [List.length_drop]; omega)]
    congr 3
    apply List.map_congr_left
    intro k hk
    rw [List.getElem?_drop]
    congr 2; omega
  · rw [List.getElem?_eq_none (by rw [packB_length, List.length_drop]; omega), List.getElem?_eq_none (by rw [packB_length]; omega)]
theorem packB_append (a b : List Nat) (m : Nat) (h : a.length = 8 * m) : packB (a ++ b) = packB a ++ packB b := by
  have h1 := packB_takeB (a ++ b) m
  have h2 := packB_dropB (a ++ b) m
  rw [← h, List.take_left] at h1
  rw [← h, List.drop_left] at h2
  rw [h1, h2, List.take_append_drop]
/-- four letters are three bytes -/
theorem uL_append (s t : List UInt8) (h : s.length % 4 = 0) : uL (s ++ t) = uL s ++ uL t := by
  have hm : uM (s ++ t).length = uM s.length + uM t.length := by unfold uM; rw [List.length_append]; omega
  have hm6 : 8 * uM s.length = 6 * s.length := by unfold uM; omega
  unfold uL
  rw [hm, uB_append, Nat.mul_add, List.take_append, List.take_of_length_le (l := uB s) (by rw [uB_length]; omega), show (8 * uM s.length + 8 * uM t.length - (uB s).length) = 8 * uM t.length by rw [uB_length]; omega]
  rw [packB_append _ _ (uM s.length) (by rw [uB_length, hm6]), List.take_of_length_le (l := uB s) (by rw [uB_length]; omega)]
theorem uOk_append (s t : List UInt8) (h : s.length % 4 = 0) : uOk (s ++ t) = uOk t := by
  have hm : uM (s ++ t).length = uM s.length + uM t.length := by unfold uM; rw [List.length_append]; omega
  have hm6 : 8 * uM s.length = 6 * s.length := by unfold uM; omega
  unfold uOk
  rw [hm, uB_append, Nat.mul_add, List.drop_append, List.drop_of_length_le (l := uB s) (by rw [uB_length]; omega), show (8 * uM s.length + 8 * uM t.length - (uB s).length) = 8 * uM t.length by rw [uB_length]; omega, List.nil_append]
theorem packB_zero (l : List Nat) (h : l.all (fun b => b == 0) = true) (hl : l.length ≤ 8) : packB l = [] ∨ packB l = [0] := by
  have e : l = List.replicate l.length 0 := by
    apply List.eq_replicate_iff.2 ⟨rfl, fun b hb => ?_⟩
    have := List.all_eq_true.1 h b hb
    simpa using this
  obtain ⟨n, hn⟩ : ∃ n, n = l.length := ⟨_, rfl⟩
  rw [← hn] at e hl
  subst e
  have : ∀ n : Fin 9, packB (List.replicate n.val 0) = [] ∨ packB (List.replicate n.val 0) = [0] := by decide +kernel
  exact this ⟨n, by omega⟩
theorem packB_zero' (l : List Nat) (hb : ∀ b ∈ l, b < 2) (h : packB l = [] ∨ packB l = [0]) : l.all (fun b => b == 0) = true := by
  apply List.all_eq_true.2
  intro b hm
  obtain ⟨i, hi⟩ := List.getElem?_of_mem hm
  have h1 := bitT_pack l hb i
  rw [hi] at h1
  have h2 : bitT (packB l) i = 0 := by
    rcases h with h | h <;> rw [h] <;> unfold bitT
    · simp
    · rcases Nat.eq_zero_or_pos (i / 8) with h0 | h0
      · rw [h0]; simp
      · rw [List.getElem?_eq_none (by simp; omega)]; simp
  rw [h2] at h1
  simp at h1
  simp [← h1]
/-- what a group of letters tells -/
theorem group_text (g : List UInt8) (h1 : 1 ≤ g.length) (h4 : g.length ≤ 4) : (packB (uB g)).take (g.length - 1) = uL g := by
  unfold uL
  rw [← packB_takeB]
  congr 2
  unfold uM; omega
theorem group_ok (g : List UInt8) (h1 : 2 ≤ g.length) (h4 : g.length ≤ 4) : ((packB (uB g)).drop (g.length - 1) = [] ∨ (packB (uB g)).drop (g.length - 1) = [0]) ↔ uOk g = true := by
  rw [← packB_dropB]
  have e : 8 * (g.length - 1) = 8 * uM g.length := by unfold uM; omega
  rw [e]
  unfold uOk
  constructor
  · exact packB_zero' _ (fun b hb => uB_lt g b (List.mem_of_mem_drop hb))
  · intro h
    exact packB_zero _ h (by rw [List.length_drop, uB_length]; unfold uM; omega)
/-- what is written: its bits -/
theorem range_six (f : Nat → Nat) (m : Nat) : (List.range m).flatMap (fun i => (List.range 6).map fun k => f (6 * i + k)) = (List.range (6 * m)).map f := by
  induction m with
  | zero => rfl
  | succ m ih =>
    rw [List.range_succ (n := m), List.flatMap_append, ih, Nat.mul_succ, List.range_add, List.map_append, List.map_map]
    simp
theorem uB_wL (s : List UInt8) : uB (wL s) = (List.range (6 * wM s.length)).map (bitT s) := by
  unfold uB wL
  rw [List.flatMap_map, ← range_six (bitT s)]
  congr 1
  funext i
  rw [lnum_ltr _ (sixN_lt s i), sixN_bits]
theorem bitsT_range (s : List UInt8) : bitsT s = (List.range (8 * s.length)).map (bitT s) := by
  apply list_ext_getD
  · rw [bitsT_length]; simp
  · intro i hi
    rw [bitsT_length] at hi
    rw [bitsT_get, List.getElem?_map, List.getElem?_range hi]; rfl
theorem uM_wM (n : Nat) : uM (wM n) = n := by unfold uM wM; omega
theorem uL_wL (s : List UInt8) : uL (wL s) = s := by
  unfold uL
  rw [uB_wL, wL_length, uM_wM, ← List.map_take, List.take_range, Nat.min_eq_left (by unfold wM; omega), ← bitsT_range, packB_bitsT]
theorem uOk_wL (s : List UInt8) : uOk (wL s) = true := by
  unfold uOk
  rw [uB_wL, wL_length, uM_wM]
  apply List.all_eq_true.2
  intro b hb
  rw [← List.map_drop] at hb
  obtain ⟨i, hi, rfl⟩ := List.mem_map.1 hb
  have : 8 * s.length ≤ i := by
    obtain ⟨j, hj⟩ := List.getElem?_of_mem hi
    rw [List.getElem?_drop] at hj
    have hlt := (List.getElem?_eq_some_iff.1 hj).1
    rw [List.length_range] at hlt
    rw [List.getElem?_range hlt] at hj
    injection hj with hj
    omega
  rw [bitT_out s i this]; rfl
theorem alone_wL (s : List UInt8) : alone (wL s) = true := by
  apply List.all_eq_true.2
  intro c hc
  obtain ⟨i, _, rfl⟩ := List.mem_map.1 hc
  rw [lnum_ltr _ (sixN_lt s i)]
  exact decide_eq_true (sixN_lt s i)
/-- what is written is read as it was -/
theorem uE_wL (s : List UInt8) (h : s.length ≤ 400) : uE (wL s) = 0 := by
  unfold uE
  rw [alone_wL, wL_length, uM_wM, uOk_wL, if_neg, if_neg (by omega), if_pos rfl]
  rintro (h | h)
  · cases h
  · unfold wM at h; omega
theorem uT_wL (s : List UInt8) (h : s.length ≤ 400) : uT (wL s) = s := by unfold uT; rw [uE_wL s h, if_pos rfl, uL_wL]
theorem uB_get (t : List UInt8) (i k : Nat) (hk : k < 6) (c : UInt8) (h : t[i]? = some c) : (uB t)[6 * i + k]? = (bitsN (lnum c) 6)[k]? := by
  induction t generalizing i with
  | nil => simp at h
  | cons a t ih =>
    rw [uB, List.flatMap_cons]
    cases i with
    | zero =>
      simp at h
      subst h
      rw [List.getElem?_append_left (by rw [bitsN_length]; omega)]
      simp
    | succ i =>
      rw [List.getElem?_append_right (by rw [bitsN_length]; omega), bitsN_length]
      have := ih i (by simpa using h)
      unfold uB at this
      rw [← this]
      congr 1; omega
theorem uE_ok (t : List UInt8) (h : uE t = 0) : alone t = true ∧ t.length % 4 ≠ 1 ∧ uM t.length ≤ 400 ∧ uOk t = true := by
  unfold uE at h
  split at h
  · cases h
  · rename_i h1
    split at h
    · cases h
    · split at h
      · rename_i h2 h3
        refine ⟨?_, fun h4 => h1 (.inr h4), by omega, h3⟩
        cases ha : alone t
        · exact absurd (.inl ha) h1
        · rfl
      · cases h
theorem uL_length (t : List UInt8) : (uL t).length = uM t.length := by
  unfold uL
  rw [packB_length, List.length_take, uB_length]
  unfold uM; omega
theorem wM_uM (n : Nat) (h : n % 4 ≠ 1) : wM (uM n) = n := by
  obtain ⟨q, hq⟩ : ∃ q, n = 4 * q ∨ n = 4 * q + 2 ∨ n = 4 * q + 3 := ⟨n / 4, by omega⟩
  unfold wM uM
  rcases hq with rfl | rfl | rfl
  · rw [show 6 * (4 * q) / 8 = 3 * q by omega]; omega
  · rw [show 6 * (4 * q + 2) / 8 = 3 * q + 1 by omega]; omega
  · rw [show 6 * (4 * q + 3) / 8 = 3 * q + 2 by omega]; omega
/-- what is read is written as it stood -/
theorem wL_uL (t : List UInt8) (h : uE t = 0) : wL (uL t) = t := by
  obtain ⟨h1, h2, h3, h4⟩ := uE_ok t h
  apply List.ext_getElem?
  intro i
  have hm : wM (uL t).length = t.length := by rw [uL_length]; exact wM_uM _ h2
  by_cases hi : i < t.length
  · obtain ⟨c, hc⟩ : ∃ c, t[i]? = some c := ⟨_, List.getElem?_eq_getElem hi⟩
    rw [hc]
    unfold wL
    rw [hm, List.getElem?_map, List.getElem?_range hi]
    show some (ltr _) = _
    have hcl : lnum c < 64 := by
      have := List.all_eq_true.1 h1 c (List.mem_of_getElem? hc)
      simpa using this
    have hs : sixN (uL t) i = lnum c := by
      unfold sixN
      rw [← numB_bits (lnum c) 6 hcl]
      congr 1
      apply list_ext_getD
      · rw [bitsN_length]; simp
      · intro k hk
        have hk : k < 6 := by simpa using hk
        rw [List.getElem?_map, List.getElem?_range hk]
        show bitT (uL t) (6 * i + k) = _
        unfold uL
        rw [bitT_pack _ (fun b hb => uB_lt t b (List.mem_of_mem_take hb)), ← uB_get t i k hk c hc]
        rw [List.getElem?_take]
        split
        · rfl
        · rename_i hge
          have hl : 6 * i + k < (uB t).length := by rw [uB_length]; omega
          rw [List.getElem?_eq_getElem hl]
          have : (uB t)[6 * i + k] ∈ (uB t).drop (8 * uM t.length) := by
            rw [List.mem_iff_getElem?]
            refine ⟨6 * i + k - 8 * uM t.length, ?_⟩
            rw [List.getElem?_drop, show 8 * uM t.length + (6 * i + k - 8 * uM t.length) = 6 * i + k by omega, List.getElem?_eq_getElem hl]
          have h5 := List.all_eq_true.1 h4 _ this
          have h5 : (uB t)[6 * i + k] = 0 := by simpa using h5
          rw [h5]; rfl
    rw [hs, ltr_lnum c hcl]
  · rw [List.getElem?_eq_none (by rw [wL_length, hm]; omega), List.getElem?_eq_none (by omega)]
theorem wT_uT (t : List UInt8) (h : uE t = 0) : wE (uT t) = 0 ∧ wT (uT t) = t := by
  have h3 := (uE_ok t h).2.2.1
  have e : uT t = uL t := by unfold uT; rw [if_pos h]
  rw [e]
  unfold wE wT
  rw [uL_length, if_neg (by omega), if_neg (by omega)]
  exact ⟨rfl, wL_uL t h⟩
end Go.Proofs.Ytgdcifllbfdbhaa
