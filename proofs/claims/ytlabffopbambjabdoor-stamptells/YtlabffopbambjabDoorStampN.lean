/- What is written is read as it was: the words of a moment's text, and what they tell. No walk. -/
import Derived.Test.YtlabffopbambjabDoorStampE
namespace Go.Proofs.YtlabffopbambjabDoor
open Go.RowKit
set_option linter.all false

theorem dig_of (x : Nat) : digU (UInt8.ofNat (48 + x % 10)) = true := by
  have h : x % 10 < 10 := by omega
  have key : ∀ n : Fin 10, digU (UInt8.ofNat (48 + n.val)) = true := by decide +kernel
  exact key ⟨x % 10, h⟩
theorem val_of (x : Nat) : (UInt8.ofNat (48 + x % 10)).toNat - 48 = x % 10 := by
  rw [UInt8.toNat_ofNat', Nat.mod_eq_of_lt (by omega)]; omega
theorem pad_dig (k n : Nat) : ∀ c ∈ padL k n, digU c = true := by
  induction k generalizing n with
  | zero => intro c hc; cases hc
  | succ k ih =>
    intro c hc
    have hc' : c ∈ padL k (n / 10) ++ [UInt8.ofNat (48 + n % 10)] := hc
    rw [List.mem_append, List.mem_singleton] at hc'
    rcases hc' with h | h
    · exact ih _ c h
    · rw [h]; exact dig_of n
theorem pad_num (k n : Nat) : numL (padL k n) = n % 10 ^ k := by
  induction k generalizing n with
  | zero => rw [Nat.pow_zero, Nat.mod_one]; rfl
  | succ k ih =>
    show numL (padL k (n / 10) ++ [UInt8.ofNat (48 + n % 10)]) = _
    rw [numL_snoc, ih, val_of, Nat.pow_succ, Nat.mul_comm (10 ^ k) 10, Nat.mod_mul]
    omega
/-- digits ahead of what is none -/
theorem lead_pad (k n : Nat) (r : List UInt8) (hr : ∀ c, r.head? = some c → digU c = false) : leadK (padL k n ++ r) = k ∧ leadL (padL k n ++ r) = padL k n := by
  have e : leadL (padL k n ++ r) = padL k n := by
    unfold leadL
    rw [List.takeWhile_append_of_pos (pad_dig k n)]
    have : r.takeWhile digU = [] := by
      cases r with
      | nil => rfl
      | cons c r => rw [List.takeWhile_cons_of_neg (by rw [hr c rfl]; exact Bool.false_ne_true)]
    rw [this, List.append_nil]
  exact ⟨by unfold leadK; rw [e, padL_len], e⟩
theorem num_pad (k n a b : Nat) (r : List UInt8) (hr : ∀ c, r.head? = some c → digU c = false) (ha : a ≤ k) (hb : k ≤ b) : numB (padL k n ++ r) a b = true ∧ numV (padL k n ++ r) a b = n % 10 ^ k ∧ numR (padL k n ++ r) a b = r := by
  obtain ⟨h1, h2⟩ := lead_pad k n r hr
  obtain ⟨e1, e2, e3⟩ := num_yes (padL k n ++ r) a b (by omega) (by omega)
  refine ⟨e1, by rw [e2, h2, pad_num], ?_⟩
  rw [e3, h1, List.drop_append_of_le_length (by rw [padL_len]; exact Nat.le_refl _)]
  have : (padL k n).drop k = [] := List.drop_eq_nil_of_le (by rw [padL_len]; exact Nat.le_refl _)
  rw [this, List.nil_append]
theorem num_pad0 (k n a b : Nat) (ha : a ≤ k) (hb : k ≤ b) : numB (padL k n) a b = true ∧ numV (padL k n) a b = n % 10 ^ k ∧ numR (padL k n) a b = [] := by
  have := num_pad k n a b [] (fun c h => by cases h) ha hb
  rwa [List.append_nil] at this
theorem step_pad (n : Nat) (r : List UInt8) (hr : ∀ c, r.head? = some c → digU c = false) (hn : n < 100) : stepT (58 :: (padL 2 n ++ r)) = some (n, r) := by
  obtain ⟨e1, e2, e3⟩ := num_pad 2 n 1 2 r hr (by omega) (by omega)
  unfold stepT
  rw [show (58 :: (padL 2 n ++ r)).drop 1 = padL 2 n ++ r from rfl, e1, e2, e3, show colonB (58 :: (padL 2 n ++ r)) = true from rfl]
  simp only [Bool.and_self, if_true]
  rw [show n % 10 ^ 2 = n from Nat.mod_eq_of_lt (by omega)]
theorem time_pad2 (n : Nat) (hn : n < 100) : timeL (padL 2 n) = none := by
  unfold timeL
  have := step_pad n [] (fun c h => by cases h) hn
  rw [List.append_nil] at this
  rw [this]; rfl
theorem time_pad4 (n : Nat) : timeL (padL 4 n) = none := by
  unfold timeL
  have h : stepT (58 :: padL 4 n) = none := by
    obtain ⟨h1, _⟩ := lead_pad 4 n [] (fun c h => by cases h)
    rw [List.append_nil] at h1
    have e := (num_no (padL 4 n) 1 2 (by omega)).1
    unfold stepT
    rw [show (58 :: padL 4 n).drop 1 = padL 4 n from rfl, e, Bool.and_false]; rfl
  rw [h]
def clockL (h i s : Nat) : List UInt8 := padL 2 h ++ 58 :: (padL 2 i ++ 58 :: padL 2 s)
theorem no58 (r : List UInt8) : ∀ c, (58 :: r).head? = some c → digU c = false := fun c h => by
  simp at h; rw [← h]; decide
theorem time_clock (h i s : Nat) (hh : h < 100) (hi : i < 100) (hs : s < 100) : timeL (clockL h i s) = some ((h : Int), (i : Int), (s : Int)) := by
  unfold timeL clockL
  rw [step_pad h _ (no58 _) hh]
  simp only
  rw [step_pad i _ (no58 _) hi]
  simp only
  have := step_pad s [] (fun c h => by cases h) hs
  rw [List.append_nil] at this
  rw [this]
/-- a moment's text, whatever the names in it -/
def textG (wk mn gm : List UInt8) (d y h i s : Nat) : List UInt8 := wk ++ 44 :: 32 :: (padL 2 d ++ 32 :: (mn ++ 32 :: (padL 4 y ++ 32 :: (clockL h i s ++ 32 :: gm))))
theorem text_eq (k d q y h i s : Nat) : textL k d q y h i s = textG (weekNames.getD k []) (monGreat.getD q []) [71, 77, 84] d y h i s := by
  unfold textL textG clockL
  simp only [List.append_assoc, List.cons_append, List.nil_append]
theorem pad_part (k n : Nat) : ∀ c ∈ padL k n, partU c = false := fun c hc => by
  have h := digN c (pad_dig k n c hc)
  unfold partU
  rw [← Bool.not_eq_true, partR_iff]; omega
theorem p32' : partU 32 = true := by decide
theorem p44' : partU 44 = true := by decide
theorem words_text (wk mn gm : List UInt8) (d y h i s : Nat) (w1 : wk ≠ []) (w2 : ∀ c ∈ wk, partU c = false) (m1 : mn ≠ []) (m2 : ∀ c ∈ mn, partU c = false) (g1 : gm ≠ []) (g2 : ∀ c ∈ gm, partU c = false) :
    wordsL (textG wk mn gm d y h i s) = [wk, padL 2 d, mn, padL 4 y, clockL h i s, gm] := by
  have pn : ∀ k n, 0 < k → padL k n ≠ [] := fun k n hk e => by have := padL_len k n; rw [e] at this; simp at this; omega
  have cp : ∀ c ∈ clockL h i s, partU c = false := by
    intro c hc
    unfold clockL at hc
    simp only [List.mem_append, List.mem_cons] at hc
    rcases hc with hc | hc | hc | hc | hc
    · exact pad_part _ _ c hc
    · rw [hc]; decide
    · exact pad_part _ _ c hc
    · rw [hc]; decide
    · exact pad_part _ _ c hc
  have cn : clockL h i s ≠ [] := by
    unfold clockL
    intro e
    have := congrArg List.length e
    simp at this
  unfold textG
  rw [words_two _ _ _ p44', words_part _ _ p32', words_two _ _ _ p32', words_two _ _ _ p32', words_two _ _ _ p32', words_two _ _ _ p32', words_word wk w1 w2, words_word _ (pn 2 d (by omega)) (pad_part 2 d), words_word mn m1 m2, words_word _ (pn 4 y (by omega)) (pad_part 4 y), words_word _ cn cp, words_word gm g1 g2]
  rfl
theorem stays (d : DS) (w : List UInt8) (h : ∀ j, j < 4 → d.f j = true) : stepD d w = d := step_none d w (fun j hj => .inl (h j hj))
theorem stays_all (d : DS) (ws : List (List UInt8)) (h : ∀ j, j < 4 → d.f j = true) : allD d ws = d := by
  unfold allD
  induction ws with
  | nil => rfl
  | cons w ws ih => rw [List.foldl_cons, stays d w h]; exact ih
/-- what the words of a moment's text tell -/
def fullD (d q y h i s : Nat) : DS := (((d0.put 1 ((d : Int), 0, 0)).put 2 ((q : Int) + 1, 0, 0)).put 3 ((y : Int), 0, 0)).put 0 ((h : Int), (i : Int), (s : Int))
theorem full_found (d q y h i s : Nat) : ∀ j, j < 4 → (fullD d q y h i s).f j = true := by
  intro j hj
  have h4 : j = 0 ∨ j = 1 ∨ j = 2 ∨ j = 3 := by omega
  rcases h4 with rfl | rfl | rfl | rfl <;> rfl
theorem tell_text (wk mn gm : List UInt8) (d q y h i s : Nat) (hw : ∀ j, j < 4 → readK j wk = none) (hm0 : readK 0 mn = none) (hm2 : readK 2 mn = some (((q : Int) + 1), 0, 0)) (hd : d < 100) (hy : y < 10000) (hh : h < 100) (hi : i < 100) (hs : s < 100) (rest : List (List UInt8)) :
    allD d0 ([wk, padL 2 d, mn, padL 4 y, clockL h i s, gm] ++ rest) = fullD d q y h i s := by
  have s1 : stepD d0 wk = d0 := step_none d0 wk (fun j hj => .inr (hw j hj))
  have s2 : stepD d0 (padL 2 d) = d0.put 1 ((d : Int), 0, 0) := by
    refine step_found d0 _ 1 (by omega) (fun j hj => ?_) rfl _ ?_
    · obtain rfl : j = 0 := by omega
      exact .inr (by rw [readK0]; exact time_pad2 d hd)
    · obtain ⟨e1, e2, _⟩ := num_pad0 2 d 1 2 (by omega) (by omega)
      rw [readK1, e1, e2, show d % 10 ^ 2 = d from Nat.mod_eq_of_lt (by omega)]; rfl
  have s3 : stepD (d0.put 1 ((d : Int), 0, 0)) mn = (d0.put 1 ((d : Int), 0, 0)).put 2 ((q : Int) + 1, 0, 0) := by
    refine step_found _ _ 2 (by omega) (fun j hj => ?_) rfl _ hm2
    have : j = 0 ∨ j = 1 := by omega
    rcases this with rfl | rfl
    · exact .inr hm0
    · exact .inl rfl
  have s4 : stepD ((d0.put 1 ((d : Int), 0, 0)).put 2 ((q : Int) + 1, 0, 0)) (padL 4 y) = ((d0.put 1 ((d : Int), 0, 0)).put 2 ((q : Int) + 1, 0, 0)).put 3 ((y : Int), 0, 0) := by
    refine step_found _ _ 3 (by omega) (fun j hj => ?_) rfl _ ?_
    · have : j = 0 ∨ j = 1 ∨ j = 2 := by omega
      rcases this with rfl | rfl | rfl
      · exact .inr (by rw [readK0]; exact time_pad4 y)
      · exact .inl rfl
      · exact .inl rfl
    · obtain ⟨e1, e2, _⟩ := num_pad0 4 y 2 4 (by omega) (by omega)
      rw [readK3, e1, e2, show y % 10 ^ 4 = y from Nat.mod_eq_of_lt (by omega)]; rfl
  have s5 : stepD (((d0.put 1 ((d : Int), 0, 0)).put 2 ((q : Int) + 1, 0, 0)).put 3 ((y : Int), 0, 0)) (clockL h i s) = fullD d q y h i s := by
    refine step_found _ _ 0 (by omega) (fun j hj => absurd hj (by omega)) rfl _ ?_
    rw [readK0]; exact time_clock h i s hh hi hs
  have s6 := stays (fullD d q y h i s) gm (full_found d q y h i s)
  have e : allD d0 ([wk, padL 2 d, mn, padL 4 y, clockL h i s, gm] ++ rest) = allD (stepD (stepD (stepD (stepD (stepD (stepD d0 wk) (padL 2 d)) mn) (padL 4 y)) (clockL h i s)) gm) rest := rfl
  rw [e, s1, s2, s3, s4, s5, s6]
  exact stays_all _ _ (full_found d q y h i s)
theorem full_mom (n : Int) (d q y h i s : Nat) (hn : momB n = true) (ed : tD n = d) (eq : tM n = (q : Int) + 1) (ey : tY n = y) (hy : 1601 ≤ y) (eh : tH n = h) (ei : tI n = i) (es : tS n = s) :
    momV (fullD d q y h i s) = n ∧ momE (fullD d q y h i s) = 0 := by
  obtain ⟨hv, hm⟩ := time_ok n hn
  rw [ed, eq, ey, eh, ei, es] at hv hm
  obtain ⟨o1, o2⟩ := of_yes hv
  have hy2 : fullY (y : Int) = y := by unfold fullY; rw [if_neg (by omega), if_neg (by omega)]
  have f1 : foundD (fullD d q y h i s) = true := rfl
  unfold momV momE
  rw [f1]
  simp only [if_true]
  have t9 : (fullD d q y h i s).t 9 = y := rfl
  have t6 : (fullD d q y h i s).t 6 = (q : Int) + 1 := rfl
  have t3 : (fullD d q y h i s).t 3 = d := rfl
  have t0 : (fullD d q y h i s).t 0 = h := rfl
  have t1 : (fullD d q y h i s).t 1 = i := rfl
  have t2 : (fullD d q y h i s).t 2 = s := rfl
  rw [t9, t6, t3, t0, t1, t2, hy2, o1, o2, hm]
  exact ⟨rfl, rfl⟩
theorem week_none : ∀ k : Fin 7, ∀ j : Fin 4, readK j.val (weekNames.getD k.val []) = none ∧ readK j.val (foldL (weekNames.getD k.val [])) = none := by decide +kernel
theorem week_part : ∀ k : Fin 7, (weekNames.getD k.val []).all (fun c => !partU c) = true ∧ (foldL (weekNames.getD k.val [])).all (fun c => !partU c) = true := by decide +kernel
theorem mon_tells : ∀ q : Fin 12, (readK 0 (monGreat.getD q.val []) = none ∧ readK 2 (monGreat.getD q.val []) = some (((q.val : Int) + 1), 0, 0)) ∧ (readK 0 (foldL (monGreat.getD q.val [])) = none ∧ readK 2 (foldL (monGreat.getD q.val [])) = some (((q.val : Int) + 1), 0, 0)) := by decide +kernel
theorem mon_part : ∀ q : Fin 12, (monGreat.getD q.val []).all (fun c => !partU c) = true ∧ (foldL (monGreat.getD q.val [])).all (fun c => !partU c) = true := by decide +kernel
theorem all_part {l : List UInt8} (h : l.all (fun c => !partU c) = true) : ∀ c ∈ l, partU c = false := fun c hc => by
  have := List.all_eq_true.1 h c hc
  simpa using this
theorem fold_pad (k n : Nat) : foldL (padL k n) = padL k n := by
  unfold foldL
  have : (padL k n).map foldU = (padL k n).map id := List.map_congr_left (fun c hc => by
    have h := digN c (pad_dig k n c hc)
    exact foldU_no c (by omega))
  rw [this, List.map_id]
theorem fold_app (a b : List UInt8) : foldL (a ++ b) = foldL a ++ foldL b := by unfold foldL; exact List.map_append
theorem fold_cons (c : UInt8) (b : List UInt8) : foldL (c :: b) = foldU c :: foldL b := rfl
theorem fold_text (wk mn gm : List UInt8) (d y h i s : Nat) : foldL (textG wk mn gm d y h i s) = textG (foldL wk) (foldL mn) (foldL gm) d y h i s := by
  unfold textG clockL
  simp only [fold_app, fold_cons, fold_pad]
  rfl
theorem text_len (wk mn gm : List UInt8) (d y h i s : Nat) (h1 : wk.length = 3) (h2 : mn.length = 3) (h3 : gm.length = 3) : (textG wk mn gm d y h i s).length = 29 := by
  unfold textG clockL
  simp only [List.length_append, List.length_cons, padL_len, h1, h2, h3]
/-- what is written tells its moment, folded too, and with words behind it -/
theorem back (n : Int) (hn : momB n = true) : (writeL n).length = 29 ∧ (readV (writeL n) = n ∧ readE (writeL n) = 0) ∧ (readV (foldL (writeL n)) = n ∧ readE (foldL (writeL n)) = 0) ∧
    ∀ b : List UInt8, readE (writeL n ++ 32 :: b) = 2 ∨ (readV (writeL n ++ 32 :: b) = n ∧ readE (writeL n ++ 32 :: b) = 0) := by
  obtain ⟨k, d, q, y, hh, i, s, ek, bk, ed, bd1, bd2, eq, bq, ey, by1, by2, eh, bh, ei, bi, es, bs, hw⟩ := parts_of n hn
  rw [hw, text_eq]
  obtain ⟨wk, w1, w2, w3⟩ := week_at k bk
  obtain ⟨mn, m1, m2, m3⟩ := mon_at' q bq
  have wn := week_none ⟨k, bk⟩
  have wp := week_part ⟨k, bk⟩
  have mt := mon_tells ⟨q, bq⟩
  have mp := mon_part ⟨q, bq⟩
  simp only at wn wp mt mp
  rw [w2] at wn wp
  rw [m2] at mt mp
  rw [w2, m2]
  have wne : wk ≠ [] := fun e => by rw [e] at w3; simp at w3
  have mne : mn ≠ [] := fun e => by rw [e] at m3; simp at m3
  have fne : ∀ l : List UInt8, l.length = 3 → foldL l ≠ [] := fun l hl e => by have := congrArg List.length e; simp [foldL] at this; rw [this] at hl; simp at hl
  have mom := full_mom n d q y hh i s hn ed eq ey by1 eh ei es
  have W1 := words_text wk mn [71, 77, 84] d y hh i s wne (all_part wp.1) mne (all_part mp.1) (by simp) (all_part (by decide))
  have W2 := words_text (foldL wk) (foldL mn) (foldL [71, 77, 84]) d y hh i s (fne wk w3) (all_part wp.2) (fne mn m3) (all_part mp.2) (by decide) (all_part (by decide))
  have T1 := fun rest => tell_text wk mn [71, 77, 84] d q y hh i s (fun j hj => (wn ⟨j, hj⟩).1) mt.1.1 mt.1.2 (by omega) (by omega) (by omega) (by omega) (by omega) rest
  have T2 := fun rest => tell_text (foldL wk) (foldL mn) (foldL [71, 77, 84]) d q y hh i s (fun j hj => (wn ⟨j, hj⟩).2) mt.2.1 mt.2.2 (by omega) (by omega) (by omega) (by omega) (by omega) rest
  have L1 := text_len wk mn [71, 77, 84] d y hh i s w3 m3 rfl
  have L2 : (foldL (textG wk mn [71, 77, 84] d y hh i s)).length = 29 := by rw [← L1]; simp [foldL]
  have A1 := T1 []
  have A2 := T2 []
  rw [List.append_nil] at A1 A2
  refine ⟨L1, ?_, ?_, fun b => ?_⟩
  · unfold readV readE
    rw [if_pos (by omega), if_pos (by omega), W1, A1]; exact mom
  · unfold readV readE
    rw [if_pos (by omega), if_pos (by omega), fold_text, W2, A2]; exact mom
  · by_cases hl : (textG wk mn [71, 77, 84] d y hh i s ++ 32 :: b).length ≤ 400
    · right
      unfold readV readE
      rw [if_pos hl, if_pos hl, words_two _ 32 b p32', W1, T1 (wordsL b)]
      exact mom
    · left
      unfold readE
      rw [if_neg hl]
end Go.Proofs.YtlabffopbambjabDoor
