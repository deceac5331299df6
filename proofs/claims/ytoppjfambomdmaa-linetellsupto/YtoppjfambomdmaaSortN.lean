/- A stable sort of tagged elements, told without a walk: insertion, the order of tags, blocks that are merged. -/
import Derived.Test.YtoppjfambomdmaaSortM
namespace Go.Proofs.Ytoppjfambomdmaa
open Go.Sort
set_option linter.all false
section
variable {α : Type} [Inhabited α] {L lt : α → α → Bool}
theorem insInner_same (a : Nat) : ∀ (j : Nat) (d : Array α), j < d.size → (∀ x, a ≤ x → x < j → lt d[j]! d[x]! = L d[j]! d[x]!) → insInner lt a j d = insInner L a j d
  | 0, d, _, _ => rfl
  | j + 1, d, hs, h => by
    unfold insInner
    by_cases ha : a < j + 1
    · rw [h j (by omega) (by omega)]
      split
      · refine insInner_same a j _ (by rw [swp_size]; omega) ?_
        intro x hx hx'
        rw [swp_right _ _ _ (by omega), swp_other _ _ _ _ (by omega) (by omega)]
        exact h x hx (by omega)
      · rfl
    · have e : ∀ t : Bool, (decide (j + 1 > a) && t) = false := fun t => by rw [decide_eq_false (by omega)]; rfl
      rw [e, e]; rfl
theorem insInner_perm (a : Nat) : ∀ (j : Nat) (d : Array α), j < d.size → PermIn a (j + 1) d (insInner lt a j d)
  | 0, d, _ => permIn_refl d a 1
  | j + 1, d, hs => by
    unfold insInner
    split
    · rename_i hc
      have ha : a < j + 1 := by simp at hc; omega
      have h1 : PermIn a (j + 1 + 1) d (swp d (j + 1) j) := swp_permIn d a (j + 1 + 1) (j + 1) j (by omega) (by omega) (by omega) (by omega) (by omega)
      have h2 := insInner_perm a j (swp d (j + 1) j) (by rw [swp_size]; omega)
      exact permIn_trans _ _ _ _ _ h1 (permIn_mono _ _ a (j + 1) a (j + 1 + 1) (Nat.le_refl _) (by omega) (by rw [swp_size]; omega) h2)
    · exact permIn_refl d a _
theorem insOuter_same (a b : Nat) : ∀ (n i : Nat) (d : Array α), b - i ≤ n → b ≤ d.size → a ≤ i → (∀ x y, a ≤ x → x < y → i ≤ y → y < b → lt d[y]! d[x]! = L d[y]! d[x]!) → insOuter lt a b i d = insOuter L a b i d
  | 0, i, d, hn, hb, ha, h => by
    unfold insOuter
    rw [if_neg (by omega), if_neg (by omega)]
  | n + 1, i, d, hn, hb, ha, h => by
    unfold insOuter
    by_cases hi : i < b
    · rw [if_pos hi, if_pos hi, insInner_same a i d (by omega) (fun x hx hx' => h x i hx hx' (Nat.le_refl _) hi)]
      have hp := insInner_perm (lt := L) a i d (by omega)
      refine insOuter_same a b n (i + 1) _ (by omega) (by rw [hp.1]; exact hb) (by omega) ?_
      intro x y hx hxy hy hyb
      rw [hp.2.1 y (.inr hy)]
      by_cases c : x < i + 1
      · exact permIn_all d _ a (i + 1) (fun v => lt d[y]! v = L d[y]! v) (by omega) hp (fun z hz hz' => h z y hz (by omega) (by omega) hyb) x hx c
      · rw [hp.2.1 x (.inr (by omega))]
        exact h x y hx hxy (by omega) hyb
    · rw [if_neg hi, if_neg hi]
theorem insertionSort_L (hL : SWO L) (d : Array α) (a b : Nat) (hab : a ≤ b) (hb : b ≤ d.size) (h : ∀ x y, a ≤ x → x < y → y < b → lt d[y]! d[x]! = L d[y]! d[x]!) : PermIn a b d (insertionSort lt d a b) ∧ SortedIn L a b (insertionSort lt d a b) := by
  have e : insertionSort lt d a b = insertionSort L d a b := by
    unfold insertionSort
    exact insOuter_same a b (b - (a + 1)) (a + 1) d (Nat.le_refl _) hb (by omega) (fun x y hx hxy _ hy => h x y hx hxy hy)
  rw [e]
  exact insertionSort_holds hL d a b hab hb
end
section
variable {β : Type} [Inhabited β] {lt : β → β → Bool}
/-- of elements that are not told apart the one of the lesser tag is the lesser one -/
def tagL (lt : β → β → Bool) (x y : β × Nat) : Bool := lt x.1 y.1 || (!lt y.1 x.1 && decide (x.2 < y.2))
def tagK (lt : β → β → Bool) (x y : β × Nat) : Bool := lt x.1 y.1
theorem tagL_iff (x y : β × Nat) : tagL lt x y = true ↔ lt x.1 y.1 = true ∨ (lt y.1 x.1 = false ∧ x.2 < y.2) := by unfold tagL; simp
theorem tagL_no (x y : β × Nat) : tagL lt x y = false ↔ lt x.1 y.1 = false ∧ (lt y.1 x.1 = true ∨ y.2 ≤ x.2) := by
  unfold tagL
  cases lt x.1 y.1 <;> cases lt y.1 x.1 <;> simp
theorem tag_swo (h : SWO lt) : SWO (tagL lt) where
  irrefl x := by rw [tagL_no]; exact ⟨h.irrefl _, .inr (Nat.le_refl _)⟩
  trans x y z h1 h2 := by
    rw [tagL_iff] at h1 h2 ⊢
    have n1 := h.ntrans z.1 y.1 x.1
    rcases h1 with h1 | ⟨h1, g1⟩
    · rcases h2 with h2 | ⟨h2, g2⟩
      · exact .inl (h.trans _ _ _ h1 h2)
      · refine .inl ?_
        cases e : lt x.1 z.1
        · have := h.ntrans x.1 z.1 y.1 e h2
          rw [h1] at this; cases this
        · rfl
    · rcases h2 with h2 | ⟨h2, g2⟩
      · refine .inl ?_
        cases e : lt x.1 z.1
        · have := h.ntrans y.1 x.1 z.1 h1 e
          rw [h2] at this; cases this
        · rfl
      · exact .inr ⟨h.ntrans _ _ _ h2 h1, by omega⟩
  ntrans x y z h1 h2 := by
    rw [tagL_no] at h1 h2 ⊢
    obtain ⟨a1, b1⟩ := h1
    obtain ⟨a2, b2⟩ := h2
    refine ⟨h.ntrans _ _ _ a1 a2, ?_⟩
    cases e : lt z.1 x.1
    · right
      have c1 : lt y.1 x.1 = false := h.ntrans _ _ _ a2 e
      have c2 : lt z.1 y.1 = false := h.ntrans _ _ _ e a1
      rw [c1] at b1
      rw [c2] at b2
      rcases b1 with b1 | b1
      · cases b1
      · rcases b2 with b2 | b2
        · cases b2
        · omega
    · left; rfl
/-- what is ahead of c has lesser tags than what is not -/
def Part (c : Nat) (d : Array (β × Nat)) : Prop := ∀ x y, x < c → c ≤ y → y < d.size → d[x]!.2 < d[y]!.2
theorem Part.perm {c a b : Nat} {d d' : Array (β × Nat)} (h : Part c d) (hp : PermIn a b d d') (hb : b ≤ d.size) (hc : c ≤ a ∨ b ≤ c) : Part c d' := by
  intro x y hx hy hyn
  rw [hp.1] at hyn
  rcases hc with hc | hc
  · rw [hp.2.1 x (.inl (by omega))]
    by_cases cy : a ≤ y ∧ y < b
    · exact permIn_all d d' a b (fun v => d[x]!.2 < v.2) hb hp (fun i hi hi' => h x i hx (by omega) (by omega)) y cy.1 cy.2
    · rw [hp.2.1 y (by omega)]; exact h x y hx hy hyn
  · rw [hp.2.1 y (.inr (by omega))]
    by_cases cx : a ≤ x ∧ x < b
    · exact permIn_all d d' a b (fun v => v.2 < d[y]!.2) hb hp (fun i hi hi' => h i y (by omega) hy hyn) x cx.1 cx.2
    · rw [hp.2.1 x (by omega)]; exact h x y hx hy hyn
theorem Part.cross {m : Nat} {d : Array (β × Nat)} (h : Part m d) (a b : Nat) (hb : b ≤ d.size) : Cross (tagL lt) (tagK lt) a m b d := by
  intro x y _ hx hy hyb
  have := h x y hx hy (by omega)
  unfold tagL tagK
  rw [decide_eq_false (by omega), Bool.and_false, Bool.or_false]
variable (lt)
/-- from a on all blocks of B are sorted -/
inductive Bl (B : Nat) (d : Array (β × Nat)) : Nat → Prop
  | done (a : Nat) : d.size ≤ a → Bl B d a
  | step (a : Nat) : a < d.size → Part a d → SortedIn (tagL lt) a (min (a + B) d.size) d → Bl B d (a + B) → Bl B d a
/-- up to a all blocks of B are sorted -/
inductive Bu (B : Nat) (d : Array (β × Nat)) : Nat → Prop
  | zero : Bu B d 0
  | step (a : Nat) : Bu B d a → Part a d → a + B ≤ d.size → SortedIn (tagL lt) a (a + B) d → Bu B d (a + B)
variable {lt}
theorem sorted_same {a b : Nat} {L : (β × Nat) → (β × Nat) → Bool} {d d' : Array (β × Nat)} (h : SortedIn L a b d) (g : ∀ x, a ≤ x → x < b → d'[x]! = d[x]!) : SortedIn L a b d' := fun i j hi hij hj => by
  rw [g i hi (by omega), g j (by omega) hj]; exact h i j hi hij hj
theorem Bl.perm {B : Nat} {d d' : Array (β × Nat)} {a b c : Nat} (hp : PermIn a b d d') (hb : b ≤ d.size) (h : Bl lt B d c) : b ≤ c → Bl lt B d' c := by
  induction h with
  | done c hc => exact fun _ => .done c (by rw [hp.1]; exact hc)
  | step c hc h1 h2 _ ih =>
    intro hbc
    refine .step c (by rw [hp.1]; exact hc) (h1.perm hp hb (.inr hbc)) ?_ (ih (by omega))
    rw [hp.1]
    exact sorted_same h2 (fun x hx _ => hp.2.1 x (.inr (by omega)))
theorem Bu.perm {B : Nat} {d d' : Array (β × Nat)} {a b c : Nat} (hp : PermIn a b d d') (hb : b ≤ d.size) (h : Bu lt B d c) : c ≤ a → Bu lt B d' c := by
  induction h with
  | zero => exact fun _ => .zero
  | step c _ h1 h3 h2 ih =>
    intro hca
    exact .step c (ih (by omega)) (h1.perm hp hb (.inl (by omega))) (by rw [hp.1]; exact h3) (sorted_same h2 (fun x _ hx => hp.2.1 x (.inl (by omega))))
theorem Bu.all {B : Nat} {d : Array (β × Nat)} {c : Nat} (h : Bu lt B d c) : Bl lt B d c → Bl lt B d 0 := by
  induction h with
  | zero => exact id
  | step c _ h1 h3 h2 ih =>
    intro hl
    by_cases hc : c < d.size
    · exact ih (.step c hc h1 (by rw [Nat.min_eq_left h3]; exact h2) hl)
    · exact ih (.done c (by omega))
theorem Bl.end_ {B : Nat} {d : Array (β × Nat)} (h : Bl lt B d 0) (hB : d.size ≤ B) : SortedIn (tagL lt) 0 d.size d := by
  generalize h0 : 0 = z at h
  cases h with
  | done _ h => intro i j _ hij hj; omega
  | step _ _ _ h _ => subst h0; rw [Nat.zero_add, Nat.min_eq_right hB] at h; exact h
/-- what a block and the next one are -/
theorem Bl.two {B : Nat} {d : Array (β × Nat)} {a e : Nat} (hB : 0 < B) (h : Bl lt B d a) (h1 : a + B < d.size) (he : e = min (a + 2 * B) d.size) : Part a d ∧ Part (a + B) d ∧ SortedIn (tagL lt) a (a + B) d ∧ SortedIn (tagL lt) (a + B) e d ∧ Bl lt B d (a + 2 * B) := by
  cases h with
  | done _ h => omega
  | step _ _ p1 s1 h =>
    rw [Nat.min_eq_left (by omega)] at s1
    generalize hc : a + B = c at h
    cases h with
    | done _ h => omega
    | step _ _ p2 s2 h =>
      subst hc
      refine ⟨p1, p2, s1, ?_, ?_⟩
      · rw [he, show a + 2 * B = a + B + B by omega]; exact s2
      · rw [show a + 2 * B = a + B + B by omega]; exact h
/-- behind a merge of two blocks -/
theorem Bl.merged {B : Nat} {d d' : Array (β × Nat)} {a : Nat} (hB : 0 < B) (hu : Bu lt (2 * B) d a) (h : Bl lt B d a) (hb : a + 2 * B ≤ d.size) (hp : PermIn a (a + 2 * B) d d') (hs : SortedIn (tagL lt) a (a + 2 * B) d') : Bu lt (2 * B) d' (a + 2 * B) ∧ Bl lt B d' (a + 2 * B) := by
  obtain ⟨p1, p2, s1, s2, h'⟩ := h.two hB (by omega) rfl
  exact ⟨.step a (hu.perm hp hb (Nat.le_refl _)) (p1.perm hp hb (.inl (Nat.le_refl _))) (by rw [hp.1]; exact hb) hs, h'.perm hp hb (Nat.le_refl _)⟩
/-- behind the last merge of a round: a rest -/
theorem Bl.rest {B : Nat} {d d' : Array (β × Nat)} {a : Nat} (hB : 0 < B) (hu : Bu lt (2 * B) d a) (h : Bl lt B d a) (h1 : a + B < d.size) (h2 : d.size < a + 2 * B) (hp : PermIn a d.size d d') (hs : SortedIn (tagL lt) a d.size d') : Bl lt (2 * B) d' 0 := by
  obtain ⟨p1, p2, s1, s2, h'⟩ := h.two hB h1 rfl
  refine (hu.perm hp (Nat.le_refl _) (Nat.le_refl _)).all (.step a (by rw [hp.1]; omega) (p1.perm hp (Nat.le_refl _) (.inl (Nat.le_refl _))) ?_ (.done _ (by rw [hp.1]; omega)))
  rw [hp.1, Nat.min_eq_right (by omega)]; exact hs
/-- .. and where there is none to merge -/
theorem Bl.over {B : Nat} {d : Array (β × Nat)} {a : Nat} (hB : 0 < B) (hu : Bu lt (2 * B) d a) (h : Bl lt B d a) (h1 : d.size ≤ a + B) : Bl lt (2 * B) d 0 := by
  refine hu.all ?_
  cases h with
  | done _ h => exact .done _ h
  | step _ h p s _ =>
    refine .step a h p ?_ (.done _ (by omega))
    rw [Nat.min_eq_right (by omega)] at s ⊢; exact s
end
end Go.Proofs.Ytoppjfambomdmaa
