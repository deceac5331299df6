/- append of whatever a slice reads as, in a region that draws its order; parts of a list's rows. No walk. -/
import Derived.Test.YtcfdajaideidkaaKit4
import Derived.Deep.RegionLaw
import Derived.Deep.AppendLies
namespace Go.Proofs.Ytcfdajaideidkaa
open Go.RowKit
set_option linter.all false
set_option maxRecDepth 100000

theorem add_none5 (b off i : Nat) : (Addr.add ⟨b, off, none⟩ i) = ⟨b, off + i, none⟩ := by
  unfold Addr.add
  by_cases h0 : i = 0
  · rw [if_pos h0, h0]; rfl
  · rw [if_neg h0]
theorem run_append_none' {P : Program} {w : World} (base : Nat) (t ty e : TypeId) (i : TypeInfo) (size c : Nat) (ht : P.underlying t = some (.slice e)) (hi : P.info? e = some i)
    (v : Value) (n : Nat) (xs : List Value) (hown : w.ownsRow base e size v n xs) :
    (Builtin.append_ #[t, t] ty #[v, .slice none 0 c]).run P w = .ok v w := by
  rcases hown.2 with ⟨rfl, rfl⟩ | ⟨g, cap, cur, rfl, _, _, hnc, _⟩
  · simp [Builtin.append_, run_underlying ht, sizeOf, typeInfo, hi, Builtin.lenOf, Builtin.firstCells]
  · simp [Builtin.append_, run_underlying ht, sizeOf, typeInfo, hi, Builtin.lenOf, Builtin.firstCells, hnc, storeCells]
theorem step_append_reads {P : Program} {w : World} {ops : Array Oper} {o : Oper} {a : Act} {K : Act → World → Prop} {Q : Exit → Act → World → Prop} {E : Prop} (hgd : o.guard = none) (s x : Operand) (t : TypeId)
    (ho : o.op = .call { callee := .builtin .append, args := #[s, x], argTypes := #[t, t] })
    (base : Nat) (e : TypeId) (i : TypeInfo) (z : Value) (size bytes : Nat) (ht : P.underlying t = some (.slice e)) (hi : P.info? e = some i) (hz : i.zero = some z)
    (hsize : i.size = size) (hby : i.bytes = bytes) (hzs : z.cells.size = size) (hsz : 0 < size)
    (v : Value) (n : Nat) (xs : List Value) (hs : a.eval s = v) (hown : w.ownsRow base e size v n xs) (vx : Value) (hx : a.eval x = vx) (m : Nat) (news : List Value)
    (hrd : Reads w vx m news) (hl : news.length = m * size) (h1 : ∀ u ∈ news, u.oneCell' = true)
    (h63 : n + m ≤ maxLen) (hbytes : (n + m) * bytes ≤ 140737488355328) (hbase : base ≤ w.heap.size)
    (h : ∀ v' w', w'.ownsRow base e size v' (n + m) (xs ++ news) → w.grownBy w' v.ownBlock → K (a.put o.dst v') w') :
    if Region.wanted o (yielded ops a.tmps) = true then Oper.wp P o a w K Q else E := by
  have hw : Region.wanted o (yielded ops a.tmps) = true := by simp [Region.wanted, hgd]
  rw [if_pos hw]
  obtain ⟨ad, c, rfl, hr⟩ := hrd
  cases ad with
  | none =>
    have hnil : news = [] := by
      rcases hr with hr | ⟨b, off, e, _⟩
      · exact hr
      · cases e
    subst hnil
    have hm : m = 0 := by
      rcases Nat.eq_zero_or_pos m with h | h
      · exact h
      · have := Nat.mul_pos h hsz; simp at hl; omega
    subst hm
    have hrun := run_append_none' (P := P) (w := w) base t o.type e i size c ht hi v n xs hown
    unfold Oper.wp execOp
    simp only [ho, resolve, invoke, builtin, Sem.run_bind, Sem.run_pure, Result.andThen_ok, List.map_toArray, List.map_cons, List.map_nil, hs, hx, hrun]
    exact h v w (by simpa using hown) ⟨rfl, rfl, rfl, Nat.le_refl _, fun _ _ _ => rfl⟩
  | some ad =>
    refine wp_append_own w s x t ho base e i z size bytes ht hi hz hsize hby hzs hsz v n xs hs hown ad m c news hx hl ?_ h1 h63 hbytes hbase (fun v' w' h2 h3 _ => h v' w' h2 h3)
    intro j u hj
    rcases hr with hr | ⟨b, off, e, hr⟩
    · subst hr; cases hj
    · injection e with e
      subst e
      rw [add_none5]
      exact hr j u hj
/-- the rows of a list from a place on -/
theorem rows_from {α : Type} {f : α → List Value} {W : World} {b off n cap : Nat} {l : List α} (m : Nat) (hf : ∀ a, (f a).length = m) (h : Rows W (.slice (some ⟨b, off, none⟩) n cap) f l) (k : Nat) (n2 c2 : Nat) (hn : n2 = (l.drop k).length) : Rows W (.slice (some ⟨b, off + k * m, none⟩) n2 c2) f (l.drop k) := by
  obtain ⟨ad, cp, e, h⟩ := h
  injection e with e1 e2 e3
  subst e1 hn
  refine ⟨_, c2, rfl, ?_⟩
  have hk : ∀ j : Nat, ((l.drop k).flatMap f)[j]? = if k ≤ l.length then (l.flatMap f)[k * m + j]? else none := fun j => by
    by_cases hkl : k ≤ l.length
    · rw [if_pos hkl]
      have e : l.flatMap f = (l.take k).flatMap f ++ (l.drop k).flatMap f := by rw [← List.flatMap_append, List.take_append_drop]
      have hlen : ((l.take k).flatMap f).length = k * m := by
        have : ∀ r : List α, (r.flatMap f).length = r.length * m := fun r => by
          induction r with
          | nil => simp
          | cons x r ih => rw [List.flatMap_cons, List.length_append, hf, ih, List.length_cons, Nat.succ_mul]; omega
        rw [this, List.length_take, Nat.min_eq_left hkl]
      rw [e, List.getElem?_append_right (by omega), hlen]
      congr 1; omega
    · rw [if_neg hkl, List.drop_eq_nil_of_le (by omega)]; simp
  rcases h with h | ⟨b', o', hb, h⟩
  · left
    have : ∀ x ∈ l, f x = [] := fun x hx => List.flatMap_eq_nil_iff.1 h x hx
    exact List.flatMap_eq_nil_iff.2 fun x hx => this x (List.mem_of_mem_drop hx)
  · right
    injection hb with hb
    injection hb with h1 h2
    subst h1 h2
    refine ⟨_, _, rfl, fun j u hj => ?_⟩
    rw [hk] at hj
    by_cases hkl : k ≤ l.length
    · rw [if_pos hkl] at hj
      have := h _ u hj
      rw [Nat.add_assoc]; exact this
    · rw [if_neg hkl] at hj; cases hj
/-- the rows of a list up to a place -/
theorem rows_to {α : Type} {f : α → List Value} {W : World} {ad : Option Addr} {n cap : Nat} {l : List α} (h : Rows W (.slice ad n cap) f l) (k : Nat) (n2 c2 : Nat) (hn : n2 = (l.take k).length) : Rows W (.slice ad n2 c2) f (l.take k) := by
  obtain ⟨ad', cp, e, h⟩ := h
  injection e with e1 e2 e3
  subst e1 hn
  refine ⟨_, c2, rfl, ?_⟩
  rcases h with h | ⟨b, off, hb, h⟩
  · left
    have : ∀ x ∈ l, f x = [] := fun x hx => List.flatMap_eq_nil_iff.1 h x hx
    exact List.flatMap_eq_nil_iff.2 fun x hx => this x (List.mem_of_mem_take hx)
  · right
    refine ⟨b, off, hb, fun j u hj => h j u ?_⟩
    have e : l.flatMap f = (l.take k).flatMap f ++ (l.drop k).flatMap f := by rw [← List.flatMap_append, List.take_append_drop]
    rw [e, List.getElem?_append_left (List.getElem?_eq_some_iff.1 hj).1]
    exact hj
end Go.Proofs.Ytcfdajaideidkaa
