/- The contract of Sort, and what it says of neighbours and of lists that are sorted alike. -/
import Derived.Test.YtoppjfambomdmaaSortD
namespace Go.Proofs.Ytoppjfambomdmaa
open Go.Shelf Go.RowKit Go.Lib Go.Sort
set_option linter.all false
set_option maxRecDepth 100000

theorem isSort_nil : IsSort [] [] := ⟨[], rfl, List.Perm.refl _, fun i j x y _ h => by cases h⟩
set_option maxHeartbeats 1000000 in
theorem sort_any (v : Value) (l : List Ck) (w : World) (hr : Rows w v ckC l) (hbig : l.length * 112 ≤ 140737488355328) :
    Calls Try.prog 11 #[v] w fun e w' => ∃ v' s, e = .returned v' ∧ IsSort l s ∧ Rows w' v' ckC s ∧ Below w.heap.size w w' := by
  obtain ⟨ad, cap, hv, hd⟩ := hr
  subst hv
  cases ad with
  | none =>
    have hl : l = [] := by
      rcases hd with h | ⟨b, off, h, _⟩
      · exact flat_nil ckC 12 (fun _ => rfl) l h
      · cases h
    subst hl
    go_enter Try.func11, Try.ntmps11
    go_wp2_with fail
    refine (clone_nil _ _ _).mono ?_
    rintro e w' ⟨rfl, rfl⟩
    go_wp2_with fail
    refine (stable_nil _ _ ⟨_, rfl⟩).mono ?_
    rintro e w' ⟨rfl, rfl⟩
    go_wp2_with fail
    go_ret
    exact ⟨_, [], rfl, isSort_nil, ⟨none, 0, rfl, .inl rfl⟩, Below.refl _ _⟩
  | some ad =>
    have k : Aside _ := clone_any ad l.length cap l w rfl hbig ⟨some ad, cap, rfl, hd⟩
    have hsz : l.length < 4611686018427387000 := by omega
    clear hd
    go_enter Try.func11, Try.ntmps11
    go_wp2_with fail
    refine Calls.mono k.out ?_
    rintro e w1 ⟨v', rfl, own, hnil, hb1⟩
    have hg : ∃ g cp, v' = .slice (some ⟨g, 0, none⟩) l.length cp ∧ w.heap.size ≤ g := by
      rcases own.2 with ⟨h, _⟩ | ⟨g, cp, cur, h, hge, _⟩
      · exact absurd h hnil
      · exact ⟨g, cp, h, hge⟩
    obtain ⟨g, cp, rfl, hge⟩ := hg
    have k2 : Aside _ := stableFunc_any g cp _ _ l w1 own hsz
    have HB1 : Hid _ := hb1
    clear k own hnil hb1
    go_wp2_with fail
    refine Calls.mono k2.out ?_
    rintro e w2 ⟨rfl, s, h1, h2, h3⟩
    have H1 : Hid _ := h1
    have H2 : Hid _ := h2
    have H3 : Hid (Below w.heap.size w w2) := HB1.out.trans (h3.mono hge)
    clear k2 h1 h2 h3
    go_wp2_with fail
    go_ret
    exact ⟨_, s, rfl, H1.out, H2.out, H3.out⟩
theorem IsSort.length {l s : List Ck} (h : IsSort l s) : s.length = l.length := by
  obtain ⟨t, rfl, hp, _⟩ := h
  rw [List.length_map, hp.length_eq, List.length_zipIdx]
theorem IsSort.perm {l s : List Ck} (h : IsSort l s) : s.Perm l := by
  obtain ⟨t, rfl, hp, _⟩ := h
  have h1 := hp.map Prod.fst
  rwa [List.zipIdx_map_fst] at h1
/-- of two places the later one is not ahead -/
theorem IsSort.le {l s : List Ck} (h : IsSort l s) (i j : Nat) (x y : Ck) (hij : i < j) (hx : s[i]? = some x) (hy : s[j]? = some y) : ltC y x = false := by
  obtain ⟨t, rfl, hp, ht⟩ := h
  rw [List.getElem?_map] at hx hy
  cases e1 : t[i]? with
  | none => rw [e1] at hx; cases hx
  | some p =>
    cases e2 : t[j]? with
    | none => rw [e2] at hy; cases hy
    | some q =>
      rw [e1] at hx
      rw [e2] at hy
      have hx' : p.1 = x := Option.some.inj hx
      have hy' : q.1 = y := Option.some.inj hy
      have := ht i j p q hij e1 e2
      rw [tagL_no] at this
      rw [← hx', ← hy']
      exact this.1
/-- lists in a strict order that are permutations of one another are one -/
theorem sorted_one {α : Type} {R : α → α → Prop} (asym : ∀ x y, R x y → R y x → False) : ∀ s t : List α, s.Perm t → s.Pairwise R → t.Pairwise R → s = t
  | [], t, hp, _, _ => hp.nil_eq
  | x :: s, [], hp, _, _ => absurd hp.symm.nil_eq (by simp)
  | x :: s, y :: t, hp, h1, h2 => by
    rw [List.pairwise_cons] at h1 h2
    have e : x = y := by
      have hx : x ∈ y :: t := hp.subset (by simp)
      have hy : y ∈ x :: s := hp.symm.subset (by simp)
      rcases List.mem_cons.1 hx with h | h
      · exact h
      · rcases List.mem_cons.1 hy with h' | h'
        · exact h'.symm
        · exact (asym x y (h1.1 y h') (h2.1 x h)).elim
    subst e
    rw [sorted_one asym s t (List.Perm.cons_inv hp) h1.2 h2.2]
theorem zip_tag (l : List Ck) : ∀ x ∈ l.zipIdx, l[x.2]? = some x.1 := fun x hx => by
  obtain ⟨i, h⟩ := List.getElem?_of_mem hx
  rw [List.getElem?_zipIdx] at h
  cases e : l[i]? with
  | none => rw [e] at h; cases h
  | some c =>
    rw [e] at h
    have h' : (c, 0 + i) = x := Option.some.inj h
    rw [← h']
    simpa using e
theorem tagged_strict {l : List Ck} {t : List (Ck × Nat)} (hp : t.Perm l.zipIdx) (ht : ∀ (i j : Nat) x y, i < j → t[i]? = some x → t[j]? = some y → tagL ltC y x = false) : t.Pairwise (fun x y => tagL ltC x y = true) := by
  rw [List.pairwise_iff_getElem]
  intro i j hi hj hij
  have h := ht i j t[i] t[j] hij (List.getElem?_eq_getElem hi) (List.getElem?_eq_getElem hj)
  have hne : t[i].2 ≠ t[j].2 := by
    intro e
    have hnd : (t.map Prod.snd).Nodup := by
      have h1 := hp.map Prod.snd
      rw [List.zipIdx_map_snd] at h1
      exact h1.nodup_iff.2 List.nodup_range'
    have h2 := List.pairwise_iff_getElem.1 hnd i j (by simpa using hi) (by simpa using hj) hij
    exact h2 (by simpa using e)
  rw [tagL_no] at h
  rw [tagL_iff]
  rcases h.2 with h2 | h2
  · exact .inl h2
  · exact .inr ⟨h.1, by omega⟩
theorem tagL_asym (x y : Ck × Nat) (h1 : tagL ltC x y = true) (h2 : tagL ltC y x = true) : False := by
  have := swo_asym (tag_swo swoC) h1
  rw [h2] at this; cases this
/-- what sorting leaves is one list -/
theorem IsSort.one {l s s' : List Ck} (h : IsSort l s) (h' : IsSort l s') : s = s' := by
  obtain ⟨t, rfl, hp, ht⟩ := h
  obtain ⟨t', rfl, hp', ht'⟩ := h'
  rw [sorted_one tagL_asym t t' (hp.trans hp'.symm) (tagged_strict hp ht) (tagged_strict hp' ht')]
end Go.Proofs.Ytoppjfambomdmaa
