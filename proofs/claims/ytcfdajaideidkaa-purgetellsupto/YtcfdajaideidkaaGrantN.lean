/- What the statements on dropping and on the lattice ask of the plain functions. No walk. -/
import Derived.Test.YtcfdajaideidkaaGrantM
namespace Go.Proofs.Ytcfdajaideidkaa
set_option linter.all false
set_option maxRecDepth 100000

theorem filter_has (l : List Int) (x v : Int) : (l.filter fun y => decide (y ≠ x)).contains v = (l.contains v && decide (v ≠ x)) := by
  rw [Bool.eq_iff_iff, List.contains_iff_mem, Bool.and_eq_true, List.contains_iff_mem, List.mem_filter]
theorem drop_ps (c : Cn) (p x now : Int) (k : Nat) (h : k < 10) : (dropC c p x now).ps[k]?.getD false = (c.ps[k]?.getD false && decide (p ≠ (k : Int) + 1)) := by
  rcases ten k h with rfl | rfl | rfl | rfl | rfl | rfl | rfl | rfl | rfl | rfl <;> rfl
theorem drop_zero {c : Cn} {p x now : Int} (h : dropE c p x now = 0) : chC c = 0 ∧ (0 ≤ p ∧ p ≤ 10) ∧ (0 ≤ x ∧ x ≤ 40) ∧ c.g ≤ now ∧ now ≤ 68719476735 := by
  unfold dropE at h
  split at h
  · rename_i h0
    split at h
    · cases h
    · rename_i h1
      split at h
      · cases h
      · rename_i h2; exact ⟨h0, by omega, by omega, by omega, by omega⟩
  · rename_i h0; exact absurd h h0
theorem drop_check {c : Cn} {p x now : Int} (h : dropE c p x now = 0) : chC (dropC c p x now) = 0 := by
  obtain ⟨h0, h1, h2, h3, h4⟩ := drop_zero h
  obtain ⟨a1, a2, a3⟩ := chC_ok c h0
  refine chC_of _ ⟨by show 0 ≤ now; omega, h4⟩ (fun v hv => a2 v (List.mem_filter.1 hv).1) ?_
  show (c.vs.filter _).Pairwise _
  exact a3.filter _
theorem drop_twice (c : Cn) (p x now : Int) : dropC (dropC c p x now) p x now = dropC c p x now := by
  have hv : ((c.vs.filter fun y => decide (y ≠ x)).filter fun y => decide (y ≠ x)) = c.vs.filter fun y => decide (y ≠ x) := by rw [List.filter_filter]; simp
  unfold dropC
  simp only [hv, Bool.and_assoc, Bool.and_self]
theorem drop_again {c : Cn} {p x now : Int} (h : dropE c p x now = 0) : dropE (dropC c p x now) p x now = 0 := by
  obtain ⟨h0, h1, h2, h3, h4⟩ := drop_zero h
  unfold dropE
  rw [if_pos (drop_check h), if_neg (by omega), if_neg]
  show ¬ (now < now ∨ _)
  omega
theorem dropR_ok {c : Cn} {p x now : Int} (h : dropE c p x now = 0) : dropR c p x now = dropC c p x now := by unfold dropR; rw [if_pos h]
theorem dropR_bad {c : Cn} {p x now : Int} (h : ¬ dropE c p x now = 0) : dropR c p x now = c0 := by unfold dropR; rw [if_neg h]
theorem drop_may (c : Cn) (p x now q v : Int) : mayC (dropC c p x now) q v = (mayC c q v && !(decide (q ≠ 0) && decide (q = p) || decide (v ≠ 0) && decide (v = x))) := by
  have hv : (dropC c p x now).vs.contains v = (c.vs.contains v && decide (v ≠ x)) := filter_has _ _ _
  have hp : q ≠ 0 → purC (dropC c p x now) q = (purC c q && decide (q ≠ p)) := fun _ => by
    unfold purC
    by_cases h1 : 1 ≤ q
    · by_cases h2 : q ≤ 10
      · rw [drop_ps _ _ _ _ _ (by omega), show (((q - 1).toNat : Nat) : Int) + 1 = q by omega]
        have e : decide (p ≠ q) = decide (q ≠ p) := by
          by_cases h : p = q
          · subst h; rfl
          · have h' : q ≠ p := fun e => h e.symm
            rw [decide_eq_true h, decide_eq_true h']
        rw [e]
        simp only [Bool.and_assoc]
      · rw [decide_eq_false h2]; simp
    · rw [decide_eq_false h1]; simp
  unfold mayC
  rw [hv]
  by_cases q0 : q = 0
  · rw [decide_eq_true q0]
    have e : decide (q ≠ 0) = false := decide_eq_false (fun h => h q0)
    rw [e]
    by_cases v0 : v = 0
    · have e2 : decide (v ≠ 0) = false := decide_eq_false (fun h => h v0)
      rw [decide_eq_true v0, e2]; simp
    · have e2 : decide (v ≠ 0) = true := decide_eq_true v0
      rw [decide_eq_false v0, e2]
      by_cases hx : v = x <;> simp [hx]
  · rw [hp q0, decide_eq_false q0]
    have e : decide (q ≠ 0) = true := decide_eq_true q0
    rw [e]
    by_cases v0 : v = 0
    · have e2 : decide (v ≠ 0) = false := decide_eq_false (fun h => h v0)
      rw [decide_eq_true v0, e2]
      by_cases hq : q = p <;> simp [hq]
    · have e2 : decide (v ≠ 0) = true := decide_eq_true v0
      rw [decide_eq_false v0, e2]
      by_cases hx : v = x <;> by_cases hq : q = p <;> simp [hx, hq]
theorem drop_less (c : Cn) (p x now : Int) : lessC (dropC c p x now) c = true := by
  rw [lessC_iff]
  refine ⟨fun k hk h => ?_, fun v h => ?_⟩
  · rw [drop_ps _ _ _ _ _ hk, Bool.and_eq_true] at h; exact h.1
  · rw [show (dropC c p x now).vs.contains v = (c.vs.contains v && decide (v ≠ x)) from filter_has _ _ _, Bool.and_eq_true] at h; exact h.1
/-- the lattice -/
theorem both_comm (op : Bool → Bool → Bool) (hc : ∀ x y, op x y = op y x) (a b : Cn) : bothC op a b = bothC op b a := by
  have hv : bothV op a b = bothV op b a := by
    unfold bothV
    congr 1
    funext v
    exact hc _ _
  unfold bothC
  rw [hv, Int.max_comm, hc a.b0, hc a.b1, hc a.b2, hc a.b3, hc a.b4, hc a.b5, hc a.b6, hc a.b7, hc a.b8, hc a.b9]
theorem meet_less {a b : Cn} (ha : chC a = 0) : lessC (bothC (fun x y => x && y) a b) a = true ∧ lessC (bothC (fun x y => x && y) a b) b = true := by
  refine ⟨(lessC_iff _ _).2 ⟨fun k hk h => ?_, fun v h => ?_⟩, (lessC_iff _ _).2 ⟨fun k hk h => ?_, fun v h => ?_⟩⟩
  · rw [both_ps _ _ _ _ hk, Bool.and_eq_true] at h; exact h.1
  · rw [meet_has ha, Bool.and_eq_true] at h; exact h.1
  · rw [both_ps _ _ _ _ hk, Bool.and_eq_true] at h; exact h.2
  · rw [meet_has ha, Bool.and_eq_true] at h; exact h.2
theorem less_join {a b : Cn} (ha : chC a = 0) (hb : chC b = 0) : lessC a (bothC (fun x y => x || y) a b) = true ∧ lessC b (bothC (fun x y => x || y) a b) = true := by
  refine ⟨(lessC_iff _ _).2 ⟨fun k hk h => ?_, fun v h => ?_⟩, (lessC_iff _ _).2 ⟨fun k hk h => ?_, fun v h => ?_⟩⟩
  · rw [both_ps _ _ _ _ hk, h]; rfl
  · rw [join_has ha hb, h]; rfl
  · rw [both_ps _ _ _ _ hk, h]; simp
  · rw [join_has ha hb, h]; simp
theorem absorb_join {a m : Cn} (ha : chC a = 0) (hm : chC m = 0) (h : lessC m a = true) : lessC (bothC (fun x y => x || y) a m) a = true := by
  obtain ⟨h1, h2⟩ := (lessC_iff _ _).1 h
  refine (lessC_iff _ _).2 ⟨fun k hk h => ?_, fun v h => ?_⟩
  · rw [both_ps _ _ _ _ hk, Bool.or_eq_true] at h
    exact h.elim id (h1 k hk)
  · rw [join_has ha hm, Bool.or_eq_true] at h
    exact h.elim id (h2 v)
theorem absorb_meet {a j : Cn} (ha : chC a = 0) (h : lessC a j = true) : lessC a (bothC (fun x y => x && y) a j) = true := by
  obtain ⟨h1, h2⟩ := (lessC_iff _ _).1 h
  refine (lessC_iff _ _).2 ⟨fun k hk hh => ?_, fun v hh => ?_⟩
  · rw [both_ps _ _ _ _ hk, hh, h1 k hk hh]; rfl
  · rw [meet_has ha, hh, h2 v hh]; rfl
theorem distribute {a b c : Cn} (ha : chC a = 0) (hb : chC b = 0) (hc : chC c = 0) :
    bothC (fun x y => x && y) a (bothC (fun x y => x || y) b c) = bothC (fun x y => x || y) (bothC (fun x y => x && y) a b) (bothC (fun x y => x && y) a c) := by
  have hv : bothV (fun x y => x && y) a (bothC (fun x y => x || y) b c) = bothV (fun x y => x || y) (bothC (fun x y => x && y) a b) (bothC (fun x y => x && y) a c) := by
    unfold bothV
    congr 1
    funext v
    rw [join_has hb hc, meet_has ha, meet_has ha]
    exact Bool.and_or_distrib_left _ _ _
  have hg : max a.g (max b.g c.g) = max (max a.g b.g) (max a.g c.g) := by omega
  have e := hv
  unfold bothC at e ⊢
  simp only at e ⊢
  rw [e, hg]
  simp only [Bool.and_or_distrib_left]
end Go.Proofs.Ytcfdajaideidkaa
