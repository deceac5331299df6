/- What Write and Read of package bits answer, told plainly. No walk. -/
import Derived.Test.YtcfdajaideidkaaBitsM
namespace Go.Proofs.Ytcfdajaideidkaa
set_option linter.all false
set_option maxRecDepth 100000

/-- a number, and how many bits it has -/
structure Fd where
  n : UInt64
  w : Int
def fdC (f : Fd) : List Value := [.int .u64 (f.n.toNat : Int), .int .i64 f.w]
def fdW (f : Fd) : Bool := decide (1 ≤ f.w) && decide (f.w ≤ 64)
def fdN (f : Fd) : Bool := decide (f.n.toNat < 2 ^ f.w.toNat)
def ckE : List Fd → Int
  | [] => 0
  | f :: r => if fdW f = true then if fdN f = true then ckE r else 4 else 3
def wbE (l : List Fd) : Int := if 400 < l.length then 2 else ckE l
def allF (l : List Fd) : List Nat := l.flatMap fun f => bitsN f.n.toNat f.w.toNat
def wbT (l : List Fd) : List UInt8 := if wbE l = 0 then packB (allF l) else []
theorem u64_lt (n : UInt64) : n.toNat < 18446744073709551616 := n.toNat_lt
theorem ckE_ok (l : List Fd) : ckE l = 0 ↔ ∀ f ∈ l, fdW f = true ∧ fdN f = true := by
  induction l with
  | nil => simp [ckE]
  | cons f r ih =>
    unfold ckE
    cases h1 : fdW f
    · simp [h1]
    · cases h2 : fdN f
      · simp [h2]
      · simp [h1, h2, ih]
theorem ckE_drop (l : List Fd) (k : Nat) (h : ∀ (j : Nat) f, l[j]? = some f → j < k → fdW f = true ∧ fdN f = true) : ckE l = ckE (l.drop k) := by
  induction k generalizing l with
  | zero => rfl
  | succ k ih =>
    cases l with
    | nil => rfl
    | cons f r =>
      obtain ⟨h1, h2⟩ := h 0 f rfl (by omega)
      rw [List.drop_succ_cons, ← ih r (fun j g hj hlt => h (j + 1) g (by simpa using hj) (by omega))]
      unfold ckE
      rw [if_pos h1, if_pos h2]
      cases r <;> rfl
theorem allF_lt (l : List Fd) : ∀ b ∈ allF l, b < 2 := by
  intro b hb
  obtain ⟨f, _, h⟩ := List.mem_flatMap.1 hb
  exact bitsN_lt _ _ b h
theorem allF_cons (f : Fd) (l : List Fd) : allF (f :: l) = bitsN f.n.toNat f.w.toNat ++ allF l := rfl
theorem allF_append (a b : List Fd) : allF (a ++ b) = allF a ++ allF b := by simp [allF]
theorem allF_take (l : List Fd) (k : Nat) (f : Fd) (h : l[k]? = some f) : allF (l.take (k + 1)) = allF (l.take k) ++ bitsN f.n.toNat f.w.toNat := by
  unfold allF
  rw [List.take_succ, h]
  simp
theorem allF_len (l : List Fd) (h : ∀ f ∈ l, fdW f = true) : (allF l).length ≤ 64 * l.length := by
  induction l with
  | nil => simp [allF]
  | cons f r ih =>
    rw [allF_cons, List.length_append, bitsN_length, List.length_cons]
    have h1 := ih fun g hg => h g (by simp [hg])
    have h2 := h f (by simp)
    unfold fdW at h2
    simp only [Bool.and_eq_true, decide_eq_true_eq] at h2
    omega
/-- reading: bits from a place on -/
def rdN (s : List UInt8) (at_ w : Nat) : Nat := numB (((bitsT s).drop at_).take w)
def rbE (s : List UInt8) : Nat → List Int → Int
  | _, [] => 0
  | t, w :: r => if 1 ≤ w ∧ w ≤ 64 then if ((8 * s.length : Nat) : Int) - (t : Int) < w then 5 else rbE s (t + w.toNat) r else 3
def rbL (s : List UInt8) : Nat → List Int → List Nat
  | _, [] => []
  | t, w :: r => rdN s t w.toNat :: rbL s (t + w.toNat) r
def rbA (t : Nat) (l : List Int) : Nat := l.foldl (fun t w => t + w.toNat) t
def rE (s : List UInt8) (ws : List Int) : Int := if 400 < ws.length then 2 else rbE s 0 ws
def rL (s : List UInt8) (ws : List Int) : List Nat := if rE s ws = 0 then rbL s 0 ws else []
def rK (s : List UInt8) (ws : List Int) : Nat := if rE s ws = 0 then 8 * s.length - rbA 0 ws else 0
theorem rbA_cons (t : Nat) (w : Int) (r : List Int) : rbA t (w :: r) = rbA (t + w.toNat) r := rfl
theorem rbA_snoc (t : Nat) (l : List Int) (w : Int) : rbA t (l ++ [w]) = rbA t l + w.toNat := by unfold rbA; rw [List.foldl_append]; rfl
theorem rbA_le (t : Nat) (l : List Int) : t ≤ rbA t l := by
  induction l generalizing t with
  | nil => exact Nat.le_refl _
  | cons w r ih => rw [rbA_cons]; exact Nat.le_trans (by omega) (ih _)
theorem rbL_snoc (s : List UInt8) (t : Nat) (l : List Int) (w : Int) : rbL s t (l ++ [w]) = rbL s t l ++ [rdN s (rbA t l) w.toNat] := by
  induction l generalizing t with
  | nil => rfl
  | cons x r ih => rw [List.cons_append, rbL, ih, rbL, rbA_cons]; rfl
theorem rbL_length (s : List UInt8) (t : Nat) (l : List Int) : (rbL s t l).length = l.length := by
  induction l generalizing t with
  | nil => rfl
  | cons w r ih => simp [rbL, ih]
/-- all widths up to a place are in order -/
def Fine (s : List UInt8) (ws : List Int) (k : Nat) : Prop := ∀ (j : Nat) w, ws[j]? = some w → j < k → (1 ≤ w ∧ w ≤ 64) ∧ rbA 0 (ws.take j) + w.toNat ≤ 8 * s.length
theorem rbE_drop (s : List UInt8) (ws : List Int) (t k : Nat) (h : ∀ (j : Nat) w, ws[j]? = some w → j < k → (1 ≤ w ∧ w ≤ 64) ∧ rbA t (ws.take j) + w.toNat ≤ 8 * s.length) : rbE s t ws = rbE s (rbA t (ws.take k)) (ws.drop k) := by
  induction k generalizing ws t with
  | zero => rfl
  | succ k ih =>
    cases ws with
    | nil => rfl
    | cons w r =>
      obtain ⟨h1, h2⟩ := h 0 w rfl (by omega)
      have h2 : t + w.toNat ≤ 8 * s.length := h2
      rw [List.drop_succ_cons, List.take_succ_cons, rbA_cons, ← ih r (t + w.toNat) (fun j g hj hlt => h (j + 1) g (by simpa using hj) (by omega))]
      rw [rbE, if_pos h1, if_neg (by omega)]
theorem rdN_lt (s : List UInt8) (t w : Nat) (h : t + w ≤ 8 * s.length) : rdN s t w < 2 ^ w := by
  have h1 := numB_lt (((bitsT s).drop t).take w) (fun b hb => bitsT_lt s b (List.mem_of_mem_drop (List.mem_of_mem_take hb)))
  rw [List.length_take, List.length_drop, bitsT_length] at h1
  rw [Nat.min_eq_left (by omega)] at h1
  exact h1
theorem rdN_snoc (s : List UInt8) (t k : Nat) (h : t + k < 8 * s.length) : rdN s t (k + 1) = 2 * rdN s t k + bitT s (t + k) := by
  unfold rdN
  have h1 : t + k < (bitsT s).length := by rw [bitsT_length]; exact h
  have e : ((bitsT s).drop t).take (k + 1) = ((bitsT s).drop t).take k ++ [bitT s (t + k)] := by
    rw [List.take_succ]
    congr 1
    rw [List.getElem?_drop, List.getElem?_eq_getElem h1, ← bitsT_get s (t + k), List.getElem?_eq_getElem h1]
    rfl
  rw [e, numB_snoc]
end Go.Proofs.Ytcfdajaideidkaa
