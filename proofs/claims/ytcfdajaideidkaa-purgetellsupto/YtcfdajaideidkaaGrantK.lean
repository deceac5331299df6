/- A consent in a block; the program's calls on consents that lie so. -/
import Derived.Test.YtcfdajaideidkaaGrantC
import Derived.Test.YtcfdajaideidkaaGrantN
namespace Go.Proofs.Ytcfdajaideidkaa
open Go.RowKit
set_option linter.all false
set_option maxRecDepth 100000
set_option maxRecDepth 100000

/-- a consent's cells in a block, and its vendors -/
structure CB (W : World) (B : Nat) (c : Cn) (v : Value) : Prop where
  row : LRow W B (cnL c v)
  rows : Rows W v intF c.vs
theorem CB.lt {W : World} {B : Nat} {c : Cn} {v : Value} (h : CB W B c v) : B < W.heap.size := cell_in (h.row.cell 0 rfl)
theorem CB.below {W W' : World} {B : Nat} {c : Cn} {v : Value} (h : CB W B c v) (hb : Below W.heap.size W W') : CB W' B c v := ⟨h.row.below hb h.lt, Rows.below h.rows hb (Nat.le_refl _)⟩
theorem CB.new (w : World) (c : Cn) (v : Value) (t : TypeId) (hr : Rows w v intF c.vs) : CB (w.alloc (.cells (cnL c v).toArray t)) w.heap.size c v :=
  ⟨LRow.new w _ t, Rows.below hr ((Below.refl _ _).alloc (Nat.le_refl _) _) (Nat.le_refl _)⟩
theorem below_new (w : World) (o : Obj) : Below w.heap.size w (w.alloc o) := (Below.refl _ _).alloc (Nat.le_refl _) _
/-- a consent whose vendors are not too many and its numbers the machine's -/
theorem rise_len' (b : Int) (l : List Int) (hb : b ≤ 40) (h : ∀ v ∈ l, b < v ∧ v ≤ 40) (hp : l.Pairwise (· < ·)) : (l.length : Int) ≤ 40 - b := by
  induction l generalizing b with
  | nil => simp; omega
  | cons v r ih =>
    have hv := h v (by simp)
    cases hp with
    | cons ha hr =>
      have := ih v hv.2 (fun x hx => ⟨ha x hx, (h x (by simp [hx])).2⟩) hr
      rw [List.length_cons]; omega
theorem rise_len {l : List Int} (h : ∀ v ∈ l, 1 ≤ v ∧ v ≤ 40) (hp : l.Pairwise (· < ·)) : l.length ≤ 40 := by
  have := rise_len' 0 l (by decide) (fun v hv => by have := h v hv; omega) hp
  omega
def CnOk (c : Cn) : Prop := c.vs.length ≤ 140737488351232 ∧ inR c.vs
theorem inR_small40 {l : List Int} (h : ∀ v ∈ l, 1 ≤ v ∧ v ≤ 40) : inR l := fun z hz => by have := h z hz; omega
theorem chC_cnOk {c : Cn} (h : chC c = 0) : CnOk c := by
  obtain ⟨h1, h2, h3⟩ := chC_ok c h
  refine ⟨?_, inR_small40 h2⟩
  have : c.vs.length ≤ 40 := rise_len h2 h3
  omega
theorem c0_ok : CnOk c0 := ⟨by decide, fun z hz => absurd hz (by simp [c0])⟩
theorem both_cnOk (op : Bool → Bool → Bool) (a b : Cn) : CnOk (bothR op a b) := by
  unfold bothR
  by_cases h : bothE a b = 0
  · rw [if_pos h]
    exact chC_cnOk (both_ok op a b h).2.2.1
  · rw [if_neg h]; exact c0_ok
theorem drop_cnOk (c : Cn) (p x now : Int) (h : CnOk c) : CnOk (dropR c p x now) := by
  unfold dropR
  by_cases e : dropE c p x now = 0
  · rw [if_pos e]
    refine ⟨Nat.le_trans (List.length_filter_le _ _) h.1, fun z hz => h.2 z (List.mem_filter.1 hz).1⟩
  · rw [if_neg e]; exact c0_ok
theorem CnOk.max {c : Cn} (h : CnOk c) : c.vs.length ≤ maxLen := by have := h.1; unfold maxLen; omega
end Go.Proofs.Ytcfdajaideidkaa
