/- What is written is read as it was: plainly. No walk. -/
import Derived.Test.YtgdcifllbfdbhaaBitsN
namespace Go.Proofs.Ytgdcifllbfdbhaa
set_option linter.all false

theorem list_ext_getD {l r : List Nat} (hl : l.length = r.length) (h : ∀ i : Nat, i < l.length → l[i]?.getD 0 = r[i]?.getD 0) : l = r := by
  apply List.ext_getElem? 
  intro i
  rcases Nat.lt_or_ge i l.length with hi | hi
  · have := h i hi
    rw [List.getElem?_eq_getElem hi, List.getElem?_eq_getElem (by omega : i < r.length)] at this ⊢
    simpa using this
  · rw [List.getElem?_eq_none hi, List.getElem?_eq_none (by omega)]
theorem bitsT_pack (bs : List Nat) (h : ∀ b ∈ bs, b < 2) : bitsT (packB bs) = bs ++ List.replicate (8 * ((bs.length + 7) / 8) - bs.length) 0 := by
  apply list_ext_getD
  · rw [bitsT_length, packB_length, List.length_append, List.length_replicate]; omega
  · intro i hi
    rw [bitsT_get, bitT_pack bs h]
    rcases Nat.lt_or_ge i bs.length with h1 | h1
    · rw [List.getElem?_append_left h1]
    · rw [List.getElem?_append_right h1, List.getElem?_eq_none h1, List.getElem?_replicate]
      split <;> rfl
theorem numB_zero (n : Nat) : numB (List.replicate n 0) = 0 := by
  induction n with
  | zero => rfl
  | succ n ih => rw [List.replicate_succ, numB_cons, ih]; simp
theorem rdN_at (s : List UInt8) (p m r : List Nat) (h : bitsT s = p ++ m ++ r) : rdN s p.length m.length = numB m := by
  unfold rdN
  rw [h, List.append_assoc, List.drop_left, List.take_left]
def wdL (l : List Fd) : List Int := l.map (·.w)
def nmL (l : List Fd) : List Nat := l.map (fun f => f.n.toNat)
theorem fd_parts {f : Fd} (h : fdW f = true ∧ fdN f = true) : (1 ≤ f.w ∧ f.w ≤ 64) ∧ f.n.toNat < 2 ^ f.w.toNat := by
  obtain ⟨h1, h2⟩ := h
  unfold fdW at h1
  unfold fdN at h2
  simp only [Bool.and_eq_true, decide_eq_true_eq] at h1 h2
  exact ⟨h1, h2⟩
theorem read_back (s : List UInt8) (l : List Fd) (p r : List Nat) (h : bitsT s = p ++ allF l ++ r) (ok : ∀ f ∈ l, fdW f = true ∧ fdN f = true) :
    rbE s p.length (wdL l) = 0 ∧ rbL s p.length (wdL l) = nmL l ∧ rbA p.length (wdL l) = p.length + (allF l).length := by
  induction l generalizing p with
  | nil => exact ⟨rfl, rfl, rfl⟩
  | cons f l ih =>
    obtain ⟨h1, h2⟩ := fd_parts (ok f (by simp))
    have hb : bitsT s = (p ++ bitsN f.n.toNat f.w.toNat) ++ allF l ++ r := by rw [h, allF_cons]; simp only [List.append_assoc]
    have hi := ih (p ++ bitsN f.n.toNat f.w.toNat) hb (fun g hg => ok g (by simp [hg]))
    rw [List.length_append, bitsN_length] at hi
    have hlen : (bitsT s).length = p.length + f.w.toNat + ((allF l).length + r.length) := by
      rw [hb]; simp only [List.length_append, bitsN_length]; omega
    rw [bitsT_length] at hlen
    have hr := rdN_at s p (bitsN f.n.toNat f.w.toNat) (allF l ++ r) (by rw [hb]; simp only [List.append_assoc])
    rw [bitsN_length, numB_bits _ _ h2] at hr
    refine ⟨?_, ?_, ?_⟩
    · show rbE s p.length (f.w :: wdL l) = 0
      rw [rbE, if_pos h1, if_neg (by omega)]
      exact hi.1
    · show rbL s p.length (f.w :: wdL l) = f.n.toNat :: nmL l
      rw [rbL, hr, hi.2.1]
    · show rbA p.length (f.w :: wdL l) = _
      rw [rbA_cons, hi.2.2, allF_cons, List.length_append, bitsN_length]; omega
theorem rbE_snoc (s : List UInt8) (t : Nat) (l : List Int) (x : Int) (h : rbE s t l = 0) : rbE s t (l ++ [x]) = rbE s (rbA t l) [x] := by
  induction l generalizing t with
  | nil => rfl
  | cons w l ih =>
    rw [List.cons_append, rbE]
    rw [rbE] at h
    by_cases h1 : 1 ≤ w ∧ w ≤ 64
    · rw [if_pos h1] at h ⊢
      by_cases h2 : ((8 * s.length : Nat) : Int) - (t : Int) < w
      · rw [if_pos h2] at h; cases h
      · rw [if_neg h2] at h ⊢
        exact ih _ h
    · rw [if_neg h1] at h; cases h
theorem wbE_ok {l : List Fd} (h : wbE l = 0) : l.length ≤ 400 ∧ ∀ f ∈ l, fdW f = true ∧ fdN f = true := by
  unfold wbE at h
  by_cases hb : 400 < l.length
  · rw [if_pos hb] at h; cases h
  · rw [if_neg hb] at h
    exact ⟨by omega, (ckE_ok l).1 h⟩
/-- what is written, with whatever behind -/
theorem back_all (l : List Fd) (x : List UInt8) (h : wbE l = 0) :
    rE (wbT l ++ x) (wdL l) = 0 ∧ rL (wbT l ++ x) (wdL l) = nmL l ∧ rK (wbT l ++ x) (wdL l) = 8 * (((allF l).length + 7) / 8) - (allF l).length + 8 * x.length := by
  obtain ⟨hl, ok⟩ := wbE_ok h
  have hw : wbT l = packB (allF l) := by unfold wbT; rw [if_pos h]
  have hlen : (wbT l ++ x).length = ((allF l).length + 7) / 8 + x.length := by rw [List.length_append, hw, packB_length]
  have hb := read_back (wbT l ++ x) l [] (List.replicate (8 * (((allF l).length + 7) / 8) - (allF l).length) 0 ++ bitsT x) (by
    rw [bitsT_append, hw, bitsT_pack _ (allF_lt l)]; simp only [List.nil_append, List.append_assoc]) ok
  have he : rE (wbT l ++ x) (wdL l) = 0 := by
    unfold rE
    rw [if_neg (by unfold wdL; rw [List.length_map]; omega)]
    exact hb.1
  refine ⟨he, ?_, ?_⟩
  · unfold rL; rw [if_pos he]; exact hb.2.1
  · unfold rK
    have h3 : rbA 0 (wdL l) = (allF l).length := by have := hb.2.2; simpa using this
    rw [if_pos he, h3, hlen]
    omega
/-- and what is left behind it: noughts -/
theorem back_left (l : List Fd) (h : wbE l = 0) (n : Nat) (hn : n = 8 * (((allF l).length + 7) / 8) - (allF l).length) (h0 : n ≠ 0) (hl : l.length ≠ 400) :
    rE (wbT l) (wdL l ++ [(n : Int)]) = 0 ∧ rL (wbT l) (wdL l ++ [(n : Int)]) = nmL l ++ [0] ∧ rK (wbT l) (wdL l ++ [(n : Int)]) = 0 := by
  obtain ⟨hl2, ok⟩ := wbE_ok h
  have hw : wbT l = packB (allF l) := by unfold wbT; rw [if_pos h]
  have hlen : (wbT l).length = ((allF l).length + 7) / 8 := by rw [hw, packB_length]
  have hbits : bitsT (wbT l) = [] ++ allF l ++ List.replicate (8 * (((allF l).length + 7) / 8) - (allF l).length) 0 := by
    rw [hw, bitsT_pack _ (allF_lt l)]; simp only [List.nil_append]
  have hb := read_back (wbT l) l [] _ hbits ok
  have h3 : rbA 0 (wdL l) = (allF l).length := by have := hb.2.2; simpa using this
  have he : rE (wbT l) (wdL l ++ [(n : Int)]) = 0 := by
    unfold rE
    rw [if_neg (by unfold wdL; simp; omega), rbE_snoc _ 0 _ _ hb.1, h3, rbE, if_pos (by omega), if_neg (by rw [hlen]; omega)]
    rfl
  have hrd : rdN (wbT l) (allF l).length n = 0 := by
    have := rdN_at (wbT l) (allF l) (List.replicate n 0) [] (by rw [hbits, hn]; simp)
    rw [List.length_replicate, numB_zero] at this
    exact this
  have hb2 : rbL (wbT l) 0 (wdL l) = nmL l := hb.2.1
  refine ⟨he, ?_, ?_⟩
  · unfold rL
    rw [if_pos he, rbL_snoc, h3, hb2, Int.toNat_natCast, hrd]
  · unfold rK
    rw [if_pos he, rbA_snoc, h3, hlen, Int.toNat_natCast]
    omega
end Go.Proofs.Ytgdcifllbfdbhaa
