/- What a stable sort does to an array, told without a walk: two neighbouring stretches exchanged, and what a merge of two sorted stretches leaves. -/
import Derived.Sort.LotA
import Derived.Sort.Lot0
namespace Go.Proofs.Ytoppjfambomdmaa
open Go.Sort
set_option linter.all false
variable {α : Type} [Inhabited α]

theorem at_eq (d : Array α) {x y : Nat} (h : x = y) : d[x]! = d[y]! := by rw [h]
/-- d' is d with the stretches [a, m) and [m, b) exchanged -/
def Rot (a m b : Nat) (d d' : Array α) : Prop :=
  d'.size = d.size ∧ ∀ x, d'[x]! = if a ≤ x ∧ x < a + (b - m) then d[x + (m - a)]! else if a + (b - m) ≤ x ∧ x < b then d[x - (b - m)]! else d[x]!
/-- d' is d with n elements from a on and n from b on exchanged -/
def SwR (a b n : Nat) (d d' : Array α) : Prop :=
  d'.size = d.size ∧ ∀ x, d'[x]! = if a ≤ x ∧ x < a + n then d[x + (b - a)]! else if b ≤ x ∧ x < b + n then d[x - (b - a)]! else d[x]!
theorem SwR.zero (a b : Nat) (d : Array α) : SwR a b 0 d d := ⟨rfl, fun x => by rw [if_neg (by omega), if_neg (by omega)]⟩
theorem SwR.more {a b n : Nat} {d d' : Array α} (h : SwR a b n d d') (hab : a + n < b) (hb : b + n < d.size) : SwR a b (n + 1) d (swp d' (a + n) (b + n)) := by
  obtain ⟨hs, h⟩ := h
  refine ⟨by rw [swp_size, hs], fun x => ?_⟩
  by_cases e1 : x = a + n
  · subst e1
    rw [swp_left _ _ _ (by omega) (by omega), h, if_neg (by omega), if_neg (by omega), if_pos (by omega)]
    exact at_eq d (by omega)
  · by_cases e2 : x = b + n
    · subst e2
      rw [swp_right _ _ _ (by omega), h, if_neg (by omega), if_neg (by omega), if_neg (by omega), if_pos (by omega)]
      exact at_eq d (by omega)
    · rw [swp_other _ _ _ _ e1 e2, h]
      repeat' split
      all_goals first | rfl | omega
theorem Rot.last {m i : Nat} {d F : Array α} (hi : i ≤ m) (h : SwR (m - i) m i d F) : Rot (m - i) m (m + i) d F := by
  obtain ⟨hs, h⟩ := h
  refine ⟨hs, fun x => ?_⟩
  rw [h x]
  repeat' split
  all_goals first | rfl | omega | exact at_eq d (by omega)
theorem Rot.more1 {m i j : Nat} {d d1 F : Array α} (hi : i ≤ m) (hj : j < i) (h1 : SwR (m - i) m j d d1) (h : Rot (m - (i - j)) m (m + j) d1 F) : Rot (m - i) m (m + j) d F := by
  obtain ⟨hs1, h1⟩ := h1
  obtain ⟨hs, h⟩ := h
  refine ⟨by rw [hs, hs1], fun x => ?_⟩
  rw [h x, h1, h1, h1]
  repeat' split
  all_goals first | rfl | omega | exact at_eq d (by omega)
theorem Rot.more2 {m i j : Nat} {d d1 F : Array α} (hi : i ≤ m) (hj : i < j) (h1 : SwR (m - i) (m + j - i) i d d1) (h : Rot (m - i) m (m + (j - i)) d1 F) : Rot (m - i) m (m + j) d F := by
  obtain ⟨hs1, h1⟩ := h1
  obtain ⟨hs, h⟩ := h
  refine ⟨by rw [hs, hs1], fun x => ?_⟩
  rw [h x, h1, h1, h1]
  repeat' split
  all_goals first | rfl | omega | exact at_eq d (by omega)
theorem Rot.none1 (a m : Nat) (h : a ≤ m) (d : Array α) : Rot a m m d d := ⟨rfl, fun x => by
  repeat' split
  all_goals first | rfl | omega | exact at_eq d (by omega)⟩
theorem Rot.none2 (m b : Nat) (d : Array α) : Rot m m b d d := ⟨rfl, fun x => by
  repeat' split
  all_goals first | rfl | omega | exact at_eq d (by omega)⟩
theorem Rot.up {a k : Nat} {d d' : Array α} (h : Rot a (a + 1) (k + 1) d d') (hk : a ≤ k) (hb : k + 1 < d.size) : Rot a (a + 1) (k + 2) d (swp d' k (k + 1)) := by
  obtain ⟨hs, h⟩ := h
  refine ⟨by rw [swp_size, hs], fun x => ?_⟩
  by_cases e1 : x = k
  · subst e1
    rw [swp_left _ _ _ (by omega) (by omega), h]
    repeat' split
    all_goals first | rfl | omega | exact at_eq d (by omega)
  · by_cases e2 : x = k + 1
    · subst e2
      rw [swp_right _ _ _ (by omega), h]
      repeat' split
      all_goals first | rfl | omega | exact at_eq d (by omega)
    · rw [swp_other _ _ _ _ e1 e2, h]
      repeat' split
      all_goals first | rfl | omega | exact at_eq d (by omega)
theorem Rot.down {k m : Nat} {d d' : Array α} (h : Rot (k + 1) m (m + 1) d d') (hk : k + 1 ≤ m) (hb : m < d.size) : Rot k m (m + 1) d (swp d' (k + 1) k) := by
  obtain ⟨hs, h⟩ := h
  refine ⟨by rw [swp_size, hs], fun x => ?_⟩
  by_cases e1 : x = k + 1
  · subst e1
    rw [swp_left _ _ _ (by omega) (by omega), h]
    repeat' split
    all_goals first | rfl | omega | exact at_eq d (by omega)
  · by_cases e2 : x = k
    · subst e2
      rw [swp_right _ _ _ (by omega), h]
      repeat' split
      all_goals first | rfl | omega | exact at_eq d (by omega)
    · rw [swp_other _ _ _ _ e1 e2, h]
      repeat' split
      all_goals first | rfl | omega | exact at_eq d (by omega)

variable {L lt : α → α → Bool}
theorem sort_le (hL : SWO L) {a b : Nat} {d : Array α} (h : SortedIn L a b d) {i j : Nat} (hi : a ≤ i) (hij : i ≤ j) (hj : j < b) : L d[j]! d[i]! = false := by
  rcases Nat.lt_or_ge i j with h' | h'
  · exact h i j hi h' hj
  · obtain rfl : i = j := by omega
    exact hL.irrefl _
theorem swo_asym (hL : SWO L) {x y : α} (h : L x y = true) : L y x = false := by
  cases e : L y x
  · rfl
  · have := hL.trans x y x h e
    rw [hL.irrefl] at this; cases this
theorem sort_part {a b a' b' : Nat} {d : Array α} (h : SortedIn L a b d) (ha : a ≤ a') (hb : b' ≤ b) : SortedIn L a' b' d := fun i j hi hij hj => h i j (by omega) hij (by omega)
theorem sort_join (hL : SWO L) {a q b : Nat} {d : Array α} (h1 : SortedIn L a q d) (h2 : SortedIn L q b d) (h : ∀ x y, a ≤ x → x < q → q ≤ y → y < b → L d[y]! d[x]! = false) : SortedIn L a b d := by
  intro i j hi hij hj
  by_cases c1 : j < q
  · exact h1 i j hi hij c1
  · by_cases c2 : q ≤ i
    · exact h2 i j c2 hij hj
    · exact h i j hi (by omega) (by omega) hj
theorem merge_one (hL : SWO L) {a i b : Nat} {d d' : Array α} (hr : Rot a (a + 1) i d d') (h1 : a + 1 ≤ i) (h2 : i ≤ b) (hs : SortedIn L (a + 1) b d) (hi : i = a + 1 ∨ L d[i - 1]! d[a]! = true) (hj : i = b ∨ L d[i]! d[a]! = false) : SortedIn L a b d' := by
  obtain ⟨_, hr⟩ := hr
  intro x y hx hxy hy
  rw [hr x, hr y]
  by_cases c1 : y < a + (i - (a + 1))
  · rw [if_pos (by omega), if_pos (by omega)]
    exact hs _ _ (by omega) (by omega) (by omega)
  · by_cases c2 : y < i
    · rw [if_neg (by omega), if_pos (by omega), if_pos (by omega), at_eq d (show y - (i - (a + 1)) = a by omega)]
      rcases hi with hi | hi
      · omega
      · exact hL.ntrans _ _ _ (swo_asym hL hi) (sort_le hL hs (by omega) (by omega) (by omega))
    · rw [if_neg (show ¬ (a ≤ y ∧ y < a + (i - (a + 1))) by omega), if_neg (show ¬ (a + (i - (a + 1)) ≤ y ∧ y < i) by omega)]
      by_cases c3 : x < a + (i - (a + 1))
      · rw [if_pos (by omega)]
        exact hs _ _ (by omega) (by omega) (by omega)
      · rw [if_neg (by omega)]
        by_cases c4 : x < i
        · rw [if_pos (by omega), at_eq d (show x - (i - (a + 1)) = a by omega)]
          rcases hj with hj | hj
          · omega
          · exact hL.ntrans _ _ _ (sort_le hL hs (by omega) (show i ≤ y by omega) hy) hj
        · rw [if_neg (by omega)]
          exact hs _ _ (by omega) hxy hy
theorem merge_last (hL : SWO L) {a i m : Nat} {d d' : Array α} (hr : Rot i m (m + 1) d d') (h1 : a ≤ i) (h2 : i ≤ m) (hs : SortedIn L a m d) (hi : i = a ∨ L d[m]! d[i - 1]! = false) (hj : i = m ∨ L d[m]! d[i]! = true) : SortedIn L a (m + 1) d' := by
  obtain ⟨_, hr⟩ := hr
  intro x y hx hxy hy
  rw [hr x, hr y]
  by_cases c1 : y < i
  · rw [if_neg (by omega), if_neg (by omega), if_neg (by omega), if_neg (by omega)]
    exact hs _ _ hx hxy (by omega)
  · by_cases c2 : y = i
    · rw [if_pos (by omega), if_neg (by omega), if_neg (by omega), at_eq d (show y + (m - i) = m by omega)]
      rcases hi with hi | hi
      · omega
      · exact hL.ntrans _ _ _ hi (sort_le hL hs hx (show x ≤ i - 1 by omega) (by omega))
    · rw [if_neg (show ¬ (i ≤ y ∧ y < i + (m + 1 - m)) by omega), if_pos (show i + (m + 1 - m) ≤ y ∧ y < m + 1 by omega)]
      by_cases c3 : x < i
      · rw [if_neg (by omega), if_neg (by omega)]
        exact hs _ _ hx (by omega) (by omega)
      · by_cases c4 : x = i
        · rw [if_pos (by omega), at_eq d (show x + (m - i) = m by omega)]
          rcases hj with hj | hj
          · omega
          · exact hL.ntrans _ _ _ (sort_le hL hs h1 (show i ≤ y - (m + 1 - m) by omega) (by omega)) (swo_asym hL hj)
        · rw [if_neg (by omega), if_pos (by omega)]
          exact hs _ _ (by omega) (by omega) (by omega)
/-- of two stretches one is compared with the other by lt as by L -/
def Cross (L lt : α → α → Bool) (a m b : Nat) (d : Array α) : Prop := ∀ x y, a ≤ x → x < m → m ≤ y → y < b → lt d[y]! d[x]! = L d[y]! d[x]!
structure Parted (L lt : α → α → Bool) (a s q e b : Nat) (d : Array α) : Prop where
  s1 : SortedIn L a s d
  s2 : SortedIn L s q d
  s3 : SortedIn L q e d
  s4 : SortedIn L e b d
  c1 : Cross L lt a s q d
  c2 : Cross L lt q e b d
  le : ∀ x y, a ≤ x → x < q → q ≤ y → y < b → L d[y]! d[x]! = false
theorem merge_part (hL : SWO L) {a s m e b q : Nat} {d d' : Array α} (hr : Rot s m e d d') (h1 : a ≤ s) (h2 : s ≤ m) (h3 : m ≤ e) (h4 : e ≤ b) (hq : q = s + (e - m)) (hs1 : SortedIn L a m d) (hs2 : SortedIn L m b d) (hc : Cross L lt a m b d)
    (hx : s = a ∨ e = b ∨ L d[e]! d[s - 1]! = false) (hy : s = m ∨ e = m ∨ L d[e - 1]! d[s]! = true) : Parted L lt a s q e b d' := by
  obtain ⟨_, hr⟩ := hr
  have g1 : ∀ x, x < s → d'[x]! = d[x]! := fun x hx => by rw [hr x, if_neg (by omega), if_neg (by omega)]
  have g2 : ∀ x, s ≤ x → x < q → d'[x]! = d[x + (m - s)]! := fun x h h' => by rw [hr x, if_pos (by omega)]
  have g3 : ∀ x, q ≤ x → x < e → d'[x]! = d[x - (e - m)]! := fun x h h' => by rw [hr x, if_neg (by omega), if_pos (by omega)]
  have g4 : ∀ x, e ≤ x → d'[x]! = d[x]! := fun x hx => by rw [hr x, if_neg (by omega), if_neg (by omega)]
  refine ⟨?_, ?_, ?_, ?_, ?_, ?_, ?_⟩
  · intro i j hi hij hj; rw [g1 i (by omega), g1 j hj]; exact hs1 i j hi hij (by omega)
  · intro i j hi hij hj; rw [g2 i hi (by omega), g2 j (by omega) hj]; exact hs2 _ _ (by omega) (by omega) (by omega)
  · intro i j hi hij hj; rw [g3 i hi (by omega), g3 j (by omega) hj]; exact hs1 _ _ (by omega) (by omega) (by omega)
  · intro i j hi hij hj; rw [g4 i hi, g4 j (by omega)]; exact hs2 _ _ (by omega) hij hj
  · intro x y h h' h'' h'''; rw [g1 x h', g2 y h'' h''']; exact hc _ _ h (by omega) (by omega) (by omega)
  · intro x y h h' h'' h'''; rw [g3 x h h', g4 y h'']; exact hc _ _ (by omega) (by omega) (by omega) h'''
  · intro x y k1 k2 k3 k4
    by_cases cx : x < s
    · rw [g1 x cx]
      by_cases cy : y < e
      · rw [g3 y k3 cy]; exact hs1 _ _ k1 (by omega) (by omega)
      · rw [g4 y (by omega)]
        rcases hx with hx | hx | hx
        · omega
        · omega
        · exact hL.ntrans _ _ _ (sort_le hL hs2 (show m ≤ e from h3) (show e ≤ y by omega) k4) (hL.ntrans _ _ _ hx (sort_le hL hs1 k1 (show x ≤ s - 1 by omega) (by omega)))
    · rw [g2 x (by omega) k2]
      by_cases cy : y < e
      · rw [g3 y k3 cy]
        rcases hy with hy | hy | hy
        · omega
        · omega
        · exact hL.ntrans _ _ _ (sort_le hL hs1 (show a ≤ s from h1) (show s ≤ y - (e - m) by omega) (by omega)) (hL.ntrans _ _ _ (swo_asym hL hy) (sort_le hL hs2 (show m ≤ x + (m - s) by omega) (show x + (m - s) ≤ e - 1 by omega) (by omega)))
      · rw [g4 y (by omega)]; exact hs2 _ _ (by omega) (by omega) k4
/-- one side merged -/
theorem Parted.left {a s q e b : Nat} {d d' : Array α} (h : Parted L lt a s q e b d) (hq : q ≤ e) (he : e ≤ b) (hb : b ≤ d.size) (hsq : s ≤ q) (has : a ≤ s) (hp : PermIn a q d d') (hs : SortedIn L a q d') : SortedIn L a q d' ∧ SortedIn L q e d' ∧ SortedIn L e b d' ∧ Cross L lt q e b d' ∧ ∀ x y, a ≤ x → x < q → q ≤ y → y < b → L d'[y]! d'[x]! = false := by
  have g : ∀ x, q ≤ x → d'[x]! = d[x]! := fun x hx => hp.2.1 x (.inr hx)
  refine ⟨hs, ?_, ?_, ?_, ?_⟩
  · intro i j hi hij hj; rw [g i hi, g j (by omega)]; exact h.s3 i j hi hij hj
  · intro i j hi hij hj; rw [g i (by omega), g j (by omega)]; exact h.s4 i j hi hij hj
  · intro x y k1 k2 k3 k4; rw [g x k1, g y (by omega)]; exact h.c2 x y k1 k2 k3 k4
  · intro x y k1 k2 k3 k4
    rw [g y k3]
    exact permIn_all d d' a q (fun v => L d[y]! v = false) (by omega) hp (fun i hi hi' => h.le i y hi hi' k3 k4) x k1 k2
theorem parted_right (hL : SWO L) {a q e b : Nat} {d d' : Array α} (hq : q ≤ e) (he : e ≤ b) (hb : b ≤ d.size) (h : SortedIn L a q d) (hle : ∀ x y, a ≤ x → x < q → q ≤ y → y < b → L d[y]! d[x]! = false) (hp : PermIn q b d d') (hs : SortedIn L q b d') : SortedIn L a b d' := by
  have g : ∀ x, x < q → d'[x]! = d[x]! := fun x hx => hp.2.1 x (.inl hx)
  refine sort_join hL (q := q) ?_ hs ?_
  · intro i j hi hij hj; rw [g i (by omega), g j hj]; exact h i j hi hij hj
  · intro x y k1 k2 k3 k4
    rw [g x k2]
    exact permIn_all d d' q b (fun v => L v d[x]! = false) hb hp (fun i hi hi' => hle x i k1 k2 hi hi') y k3 k4
end Go.Proofs.Ytoppjfambomdmaa
