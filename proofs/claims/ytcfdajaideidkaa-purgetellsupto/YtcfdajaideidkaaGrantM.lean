/- Consents, and what is granted, told plainly. No walk. -/
import Derived.Test.YtcfdajaideidkaaBitsN
namespace Go.Proofs.Ytcfdajaideidkaa
set_option linter.all false
set_option maxRecDepth 100000

structure Cn where
  g : Int
  b0 : Bool
  b1 : Bool
  b2 : Bool
  b3 : Bool
  b4 : Bool
  b5 : Bool
  b6 : Bool
  b7 : Bool
  b8 : Bool
  b9 : Bool
  vs : List Int
def c0 : Cn := ⟨0, false, false, false, false, false, false, false, false, false, false, []⟩
def Cn.ps (c : Cn) : List Bool := [c.b0, c.b1, c.b2, c.b3, c.b4, c.b5, c.b6, c.b7, c.b8, c.b9]
def cnL (c : Cn) (v : Value) : List Value := [.int .i64 c.g, .bool c.b0, .bool c.b1, .bool c.b2, .bool c.b3, .bool c.b4, .bool c.b5, .bool c.b6, .bool c.b7, .bool c.b8, .bool c.b9, v]
theorem ps_get (c : Cn) (v : Value) (k : Nat) (hk : k < 10) : (cnL c v)[1 + k]? = some (.bool (c.ps[k]?.getD false)) := by
  have : k = 0 ∨ k = 1 ∨ k = 2 ∨ k = 3 ∨ k = 4 ∨ k = 5 ∨ k = 6 ∨ k = 7 ∨ k = 8 ∨ k = 9 := by omega
  rcases this with rfl | rfl | rfl | rfl | rfl | rfl | rfl | rfl | rfl | rfl <;> rfl
/-- a consent that may be written -/
def chV : Int → List Int → Int
  | _, [] => 0
  | b, v :: r => if v < 1 ∨ 40 < v then 3 else if v ≤ b then 4 else chV v r
def chC (c : Cn) : Int := if c.g < 0 ∨ 68719476735 < c.g then 3 else chV 0 c.vs
theorem chV_range (b : Int) (l : List Int) (h : chV b l = 0) : (∀ v ∈ l, 1 ≤ v ∧ v ≤ 40 ∧ b < v) ∧ l.Pairwise (· < ·) := by
  induction l generalizing b with
  | nil => exact ⟨fun v h => absurd h (by simp), List.Pairwise.nil⟩
  | cons v r ih =>
    unfold chV at h
    split at h
    · cases h
    · rename_i h1
      split at h
      · cases h
      · rename_i h2
        obtain ⟨i1, i2⟩ := ih v h
        refine ⟨fun x hx => ?_, List.Pairwise.cons (fun x hx => (i1 x hx).2.2) i2⟩
        rcases List.mem_cons.1 hx with rfl | hx
        · omega
        · have := i1 x hx; omega
theorem chV_of (b : Int) (l : List Int) (h : ∀ v ∈ l, 1 ≤ v ∧ v ≤ 40 ∧ b < v) (hp : l.Pairwise (· < ·)) : chV b l = 0 := by
  induction l generalizing b with
  | nil => rfl
  | cons v r ih =>
    have h1 := h v (by simp)
    unfold chV
    rw [if_neg (by omega), if_neg (by omega)]
    cases hp with
    | cons ha hb => exact ih v (fun x hx => ⟨(h x (by simp [hx])).1, (h x (by simp [hx])).2.1, ha x hx⟩) hb
theorem chC_ok (c : Cn) (h : chC c = 0) : (0 ≤ c.g ∧ c.g ≤ 68719476735) ∧ (∀ v ∈ c.vs, 1 ≤ v ∧ v ≤ 40) ∧ c.vs.Pairwise (· < ·) := by
  unfold chC at h
  split at h
  · cases h
  · rename_i h1
    obtain ⟨i1, i2⟩ := chV_range 0 c.vs h
    exact ⟨by omega, fun v hv => ⟨(i1 v hv).1, (i1 v hv).2.1⟩, i2⟩
theorem chC_of (c : Cn) (h1 : 0 ≤ c.g ∧ c.g ≤ 68719476735) (h2 : ∀ v ∈ c.vs, 1 ≤ v ∧ v ≤ 40) (h3 : c.vs.Pairwise (· < ·)) : chC c = 0 := by
  unfold chC
  rw [if_neg (by omega)]
  exact chV_of 0 c.vs (fun v hv => ⟨(h2 v hv).1, (h2 v hv).2, by have := (h2 v hv).1; omega⟩) h3
/-- what is granted -/
def purC (c : Cn) (p : Int) : Bool := decide (1 ≤ p) && decide (p ≤ 10) && c.ps[(p - 1).toNat]?.getD false
def mayC (c : Cn) (p v : Int) : Bool := (decide (p = 0) || purC c p) && (decide (v = 0) || c.vs.contains v)
def purL (a b : Cn) : Bool := (List.range 10).all fun k => !(a.ps[k]?.getD false) || b.ps[k]?.getD false
def lessC (a b : Cn) : Bool := purL a b && a.vs.all (fun v => b.vs.contains v)
def bothE (a b : Cn) : Int := if chC a = 0 then chC b else chC a
def all40 : List Int := (List.range 40).map fun (k : Nat) => ((k + 1 : Nat) : Int)
def bothV (op : Bool → Bool → Bool) (a b : Cn) : List Int := all40.filter fun v => op (a.vs.contains v) (b.vs.contains v)
def bothC (op : Bool → Bool → Bool) (a b : Cn) : Cn := ⟨max a.g b.g, op a.b0 b.b0, op a.b1 b.b1, op a.b2 b.b2, op a.b3 b.b3, op a.b4 b.b4, op a.b5 b.b5, op a.b6 b.b6, op a.b7 b.b7, op a.b8 b.b8, op a.b9 b.b9, bothV op a b⟩
def bothR (op : Bool → Bool → Bool) (a b : Cn) : Cn := if bothE a b = 0 then bothC op a b else c0
def dropE (c : Cn) (p v now : Int) : Int := if chC c = 0 then if (p < 0 ∨ 10 < p) ∨ (v < 0 ∨ 40 < v) then 3 else if now < c.g ∨ 68719476735 < now then 4 else 0 else chC c
def dropC (c : Cn) (p v now : Int) : Cn := ⟨now, c.b0 && decide (p ≠ 1), c.b1 && decide (p ≠ 2), c.b2 && decide (p ≠ 3), c.b3 && decide (p ≠ 4), c.b4 && decide (p ≠ 5), c.b5 && decide (p ≠ 6), c.b6 && decide (p ≠ 7), c.b7 && decide (p ≠ 8), c.b8 && decide (p ≠ 9), c.b9 && decide (p ≠ 10), c.vs.filter (fun x => decide (x ≠ v))⟩
def dropR (c : Cn) (p v now : Int) : Cn := if dropE c p v now = 0 then dropC c p v now else c0
theorem mem_all40 (v : Int) : v ∈ all40 ↔ 1 ≤ v ∧ v ≤ 40 := by
  unfold all40
  rw [List.mem_map]
  constructor
  · rintro ⟨k, hk, rfl⟩
    have := List.mem_range.1 hk
    omega
  · intro h
    exact ⟨(v - 1).toNat, List.mem_range.2 (by omega), by omega⟩
theorem all40_rise : all40.Pairwise (· < ·) := by
  unfold all40
  rw [List.pairwise_map]
  exact (List.pairwise_lt_range (n := 40)).imp (fun h => by omega)
theorem bothV_has (op : Bool → Bool → Bool) (a b : Cn) (v : Int) : (bothV op a b).contains v = (decide (1 ≤ v ∧ v ≤ 40) && op (a.vs.contains v) (b.vs.contains v)) := by
  rw [Bool.eq_iff_iff, List.contains_iff_mem, Bool.and_eq_true, decide_eq_true_eq]
  unfold bothV
  rw [List.mem_filter, mem_all40]
theorem both_ok (op : Bool → Bool → Bool) (a b : Cn) (h : bothE a b = 0) : chC a = 0 ∧ chC b = 0 ∧ chC (bothC op a b) = 0 ∧ bothR op a b = bothC op a b := by
  have ha : chC a = 0 := by
    unfold bothE at h
    split at h
    · assumption
    · rename_i h1; exact absurd h h1
  have hb : chC b = 0 := by unfold bothE at h; rw [if_pos ha] at h; exact h
  obtain ⟨a1, _, _⟩ := chC_ok a ha
  obtain ⟨b1, _, _⟩ := chC_ok b hb
  refine ⟨ha, hb, chC_of _ ?_ ?_ ?_, by unfold bothR; rw [if_pos h]⟩
  · show 0 ≤ max a.g b.g ∧ max a.g b.g ≤ _; omega
  · intro v hv
    exact (mem_all40 v).1 (List.mem_filter.1 hv).1
  · show (bothV op a b).Pairwise (· < ·)
    exact all40_rise.filter _
theorem bothE_of {a b : Cn} (ha : chC a = 0) (hb : chC b = 0) : bothE a b = 0 := by unfold bothE; rw [if_pos ha, hb]
theorem contains_out {c : Cn} (h : chC c = 0) (v : Int) (hv : ¬ (1 ≤ v ∧ v ≤ 40)) : c.vs.contains v = false := by
  cases hc : c.vs.contains v
  · rfl
  · exact absurd ((chC_ok c h).2.1 v (List.contains_iff_mem.1 hc)) hv
theorem meet_has {a b : Cn} (ha : chC a = 0) (v : Int) : (bothC (fun x y => x && y) a b).vs.contains v = (a.vs.contains v && b.vs.contains v) := by
  show (bothV _ a b).contains v = _
  rw [bothV_has]
  by_cases h : 1 ≤ v ∧ v ≤ 40
  · rw [decide_eq_true h, Bool.true_and]
  · rw [contains_out ha v h, decide_eq_false h]; rfl
theorem join_has {a b : Cn} (ha : chC a = 0) (hb : chC b = 0) (v : Int) : (bothC (fun x y => x || y) a b).vs.contains v = (a.vs.contains v || b.vs.contains v) := by
  show (bothV _ a b).contains v = _
  rw [bothV_has]
  by_cases h : 1 ≤ v ∧ v ≤ 40
  · rw [decide_eq_true h, Bool.true_and]
  · rw [contains_out ha v h, contains_out hb v h, decide_eq_false h]; rfl
theorem ten (k : Nat) (h : k < 10) : k = 0 ∨ k = 1 ∨ k = 2 ∨ k = 3 ∨ k = 4 ∨ k = 5 ∨ k = 6 ∨ k = 7 ∨ k = 8 ∨ k = 9 := by omega
theorem both_ps (op : Bool → Bool → Bool) (a b : Cn) (k : Nat) (h : k < 10) : (bothC op a b).ps[k]?.getD false = op (a.ps[k]?.getD false) (b.ps[k]?.getD false) := by
  rcases ten k h with rfl | rfl | rfl | rfl | rfl | rfl | rfl | rfl | rfl | rfl <;> rfl
theorem purL_iff (a b : Cn) : purL a b = true ↔ ∀ k : Nat, k < 10 → a.ps[k]?.getD false = true → b.ps[k]?.getD false = true := by
  unfold purL
  rw [List.all_eq_true]
  constructor
  · intro h k hk ha
    have := h k (List.mem_range.2 hk)
    rw [ha] at this; simpa using this
  · intro h k hk
    have := h k (List.mem_range.1 hk)
    cases hx : a.ps[k]?.getD false
    · rfl
    · rw [this hx]; rfl
theorem lessC_iff (a b : Cn) : lessC a b = true ↔ (∀ k : Nat, k < 10 → a.ps[k]?.getD false = true → b.ps[k]?.getD false = true) ∧ ∀ v : Int, a.vs.contains v = true → b.vs.contains v = true := by
  unfold lessC
  rw [Bool.and_eq_true, purL_iff, List.all_eq_true]
  constructor
  · rintro ⟨h1, h2⟩
    exact ⟨h1, fun v hv => h2 v (List.contains_iff_mem.1 hv)⟩
  · rintro ⟨h1, h2⟩
    exact ⟨h1, fun v hv => h2 v (List.contains_iff_mem.2 hv)⟩
/-- whoever is below lets no more -/
theorem may_less {a b : Cn} (h : lessC a b = true) (p v : Int) (hm : mayC a p v = true) : mayC b p v = true := by
  obtain ⟨h1, h2⟩ := (lessC_iff a b).1 h
  unfold mayC at hm ⊢
  rw [Bool.and_eq_true] at hm ⊢
  obtain ⟨m1, m2⟩ := hm
  refine ⟨?_, ?_⟩
  · rw [Bool.or_eq_true] at m1 ⊢
    rcases m1 with m | m
    · exact .inl m
    · right
      unfold purC at m ⊢
      rw [Bool.and_eq_true, Bool.and_eq_true] at m ⊢
      obtain ⟨⟨q1, q2⟩, q3⟩ := m
      have q1' : 1 ≤ p := by simpa using q1
      have q2' : p ≤ 10 := by simpa using q2
      exact ⟨⟨q1, q2⟩, h1 _ (by omega) q3⟩
  · rw [Bool.or_eq_true] at m2 ⊢
    rcases m2 with m | m
    · exact .inl m
    · exact .inr (h2 v m)
theorem may_meet {a b : Cn} (h : bothE a b = 0) (p v : Int) : mayC (bothR (fun x y => x && y) a b) p v = (mayC a p v && mayC b p v) := by
  obtain ⟨ha, hb, hc, hr⟩ := both_ok (fun x y => x && y) a b h
  rw [hr]
  unfold mayC
  rw [meet_has ha]
  have hp : purC (bothC (fun x y => x && y) a b) p = (purC a p && purC b p) := by
    unfold purC
    by_cases h1 : 1 ≤ p
    · by_cases h2 : p ≤ 10
      · rw [both_ps _ a b _ (by omega), decide_eq_true h1, decide_eq_true h2]; rfl
      · rw [decide_eq_false h2]; simp
    · rw [decide_eq_false h1]; simp
  rw [hp]
  cases decide (p = 0) <;> cases decide (v = 0) <;> cases purC a p <;> cases purC b p <;> cases a.vs.contains v <;> cases b.vs.contains v <;> rfl
end Go.Proofs.Ytcfdajaideidkaa
