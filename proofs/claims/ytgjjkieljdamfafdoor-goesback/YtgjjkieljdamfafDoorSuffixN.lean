/- Rules of public suffixes as they are checked; where a host's public suffix stands among its ups; a host's ups are hosts. No walk. -/
import Derived.Test.YtgjjkieljdamfafDoorSuffixM
namespace Go.Proofs.YtgjjkieljdamfafDoor
open Go.RowKit
set_option linter.all false
set_option maxRecDepth 100000

/-- a host as it is compared -/
def canB (s : List UInt8) : Bool := canonE s == 0 && canonL s == s
def kindB (z : Int) : Bool := z == 1 || z == 2 || z == 3
def formB (r : Int × List UInt8) : Bool := canB r.2 && !addrL r.2 && !(r.1 == 3 && !hasB r.2 46)
def ruleE (r : Int × List UInt8) : Int := if kindB r.1 then (if formB r then 0 else 1) else 7
def layE : Rules → Rules → Int
  | _, [] => 0
  | seen, r :: rest => if ruleE r = 0 then (if seen.contains r then 6 else layE (seen ++ [r]) rest) else ruleE r
def sufE (l : Rules) : Int := if l.length ≤ 16 then layE [] l else 2
theorem lay_step (l : Rules) (k : Nat) (r : Int × List UInt8) (h : l[k]? = some r) :
    layE (l.take k) (l.drop k) = if ruleE r = 0 then (if (l.take k).contains r then 6 else layE (l.take (k + 1)) (l.drop (k + 1))) else ruleE r := by
  obtain ⟨hl, he⟩ := List.getElem?_eq_some_iff.1 h
  rw [List.drop_eq_getElem_cons hl, he, layE, List.take_succ, h]
  rfl
theorem lay_end (l : Rules) (k : Nat) (h : l.length ≤ k) : layE (l.take k) (l.drop k) = 0 := by
  rw [List.drop_eq_nil_of_le h]; rfl
theorem lay_all (seen l : Rules) (h : layE seen l = 0) : ∀ r ∈ l, ruleE r = 0 := by
  induction l generalizing seen with
  | nil => intro r hr; cases hr
  | cons x l ih =>
    rw [layE] at h
    by_cases hx : ruleE x = 0
    · rw [if_pos hx] at h
      cases hc : seen.contains x
      · rw [hc, if_neg (by simp)] at h
        intro r hr
        rw [List.mem_cons] at hr
        rcases hr with rfl | hr
        · exact hx
        · exact ih _ h r hr
      · rw [hc, if_pos rfl] at h; cases h
    · rw [if_neg hx] at h
      exact absurd h hx
theorem suf_all (l : Rules) (h : sufE l = 0) : l.length ≤ 16 ∧ ∀ r ∈ l, ruleE r = 0 := by
  unfold sufE at h
  by_cases hl : l.length ≤ 16
  · rw [if_pos hl] at h
    exact ⟨hl, lay_all _ _ h⟩
  · rw [if_neg hl] at h; cases h
theorem rule_form (r : Int × List UInt8) (h : ruleE r = 0) : kindB r.1 = true ∧ canB r.2 = true ∧ addrL r.2 = false ∧ (r.1 = 3 → hasB r.2 46 = true) := by
  unfold ruleE at h
  cases hk : kindB r.1
  · rw [hk] at h; cases h
  · rw [hk, if_pos rfl] at h
    cases hf : formB r
    · rw [hf] at h; cases h
    · unfold formB at hf
      simp only [Bool.and_eq_true, Bool.not_eq_true', Bool.and_eq_false_iff, beq_eq_false_iff_ne, Bool.not_eq_false'] at hf
      refine ⟨rfl, hf.1.1, hf.1.2, fun h3 => ?_⟩
      rcases hf.2 with h' | h'
      · exact absurd h3 h'
      · exact h'
theorem can_iff (s : List UInt8) : canB s = true ↔ s.length ≤ 253 ∧ hostL s = true ∧ foldL s = s := by
  unfold canB
  rw [Bool.and_eq_true, beq_iff_eq, beq_iff_eq]
  unfold canonE canonL
  by_cases h1 : s.length ≤ 253
  · rw [if_pos h1, if_pos h1]
    cases h2 : hostL s
    · simp
    · simp [h1]
  · rw [if_neg h1]
    simp [h1]
theorem can_len (s : List UInt8) (h : canB s = true) : s.length ≤ 253 := ((can_iff s).1 h).1
theorem host_ne (s : List UInt8) (h : hostL s = true) : s ≠ [] := by
  rintro rfl
  exact absurd h (by decide)
theorem host_behind (s : List UInt8) (h : hostL s = true) (hd : hasB s 46 = true) : hostL (behindL s) = true := by
  unfold hostL at h ⊢
  rw [parts_cut s 46, if_pos hd, List.all_cons, Bool.and_eq_true] at h
  exact h.2
theorem fold_sub (s : List UInt8) (h : foldL s = s) : ∀ c ∈ s, foldU c = c := by
  intro c hc
  obtain ⟨k, hk⟩ := List.getElem?_of_mem hc
  have := congrArg (·[k]?) h
  simp only [foldL, List.getElem?_map, hk, Option.map_some, Option.some.injEq] at this
  exact this
theorem fold_of (s : List UInt8) (h : ∀ c ∈ s, foldU c = c) : foldL s = s := by
  unfold foldL
  conv => rhs; rw [← List.map_id s]
  exact List.map_congr_left h
theorem can_behind (s : List UInt8) (h : canB s = true) (hd : hasB s 46 = true) : canB (behindL s) = true := by
  obtain ⟨h1, h2, h3⟩ := (can_iff s).1 h
  refine (can_iff _).2 ⟨?_, host_behind s h2 hd, ?_⟩
  · have := behind_le s; omega
  · apply fold_of
    intro c hc
    apply fold_sub s h3
    unfold behindL cutB at hc
    exact (List.dropWhile_suffix _).subset (List.mem_of_mem_drop hc)
theorem can_up (s u : List UInt8) (h : canB s = true) (hu : u ∈ upsN s) : canB u = true := by
  obtain ⟨n, hn⟩ : ∃ n, s.length ≤ n := ⟨_, Nat.le_refl _⟩
  induction n generalizing s with
  | zero =>
    exact absurd (List.length_eq_zero_iff.1 (by omega)) (host_ne s ((can_iff s).1 h).2.1)
  | succ n ih =>
    cases hd : hasB s 46
    · rw [upsN_none s hd, List.mem_singleton] at hu
      rw [hu]; exact h
    · rw [upsN_dot s hd, List.mem_cons] at hu
      rcases hu with rfl | hu
      · exact h
      · have := behind_lt s hd
        exact ih _ (can_behind s h hd) hu (by omega)
theorem can_ne (s : List UInt8) (h : canB s = true) : s ≠ [] := host_ne s ((can_iff s).1 h).2.1
theorem up_ne (s u : List UInt8) (h : canB s = true) (hu : u ∈ upsN s) : u ≠ [] := can_ne u (can_up s u h hu)
/-- ups by place -/
theorem ups_zero (h : List UInt8) : (upsN h)[0]? = some h := rfl
theorem ups_succ (h : List UInt8) (i : Nat) : (upsN h)[i + 1]? = if hasB h 46 then (upsN (behindL h))[i]? else none := by
  cases hd : hasB h 46
  · rw [upsN_none h hd]; simp
  · rw [upsN_dot h hd]; simp
theorem ups_next (h u : List UInt8) (i : Nat) (hu : (upsN h)[i]? = some u) : (upsN h)[i + 1]? = if hasB u 46 then some (behindL u) else none := by
  induction i generalizing h with
  | zero =>
    rw [ups_zero] at hu
    injection hu with hu
    subst hu
    rw [ups_succ]; rfl
  | succ i ih =>
    rw [ups_succ] at hu
    cases hd : hasB h 46
    · rw [hd] at hu; cases hu
    · rw [hd, if_pos rfl] at hu
      rw [ups_succ, hd, if_pos rfl]
      exact ih _ hu
theorem ups_prev (h v : List UInt8) (i : Nat) (hv : (upsN h)[i + 1]? = some v) : ∃ u, (upsN h)[i]? = some u ∧ hasB u 46 = true ∧ behindL u = v := by
  have hlt := (List.getElem?_eq_some_iff.1 hv).1
  have hu : (upsN h)[i]? = some (upsN h)[i] := List.getElem?_eq_getElem (by omega)
  rw [ups_next h _ i hu] at hv
  cases hd : hasB (upsN h)[i] 46
  · rw [hd] at hv; cases hv
  · rw [hd, if_pos rfl] at hv
    injection hv with hv
    exact ⟨_, hu, hd, hv⟩
theorem ups_dec (h u v : List UInt8) (i j : Nat) (hu : (upsN h)[i]? = some u) (hv : (upsN h)[j]? = some v) (hij : i < j) : v.length < u.length := by
  induction j generalizing v with
  | zero => omega
  | succ j ih =>
    obtain ⟨x, hx, hd, rfl⟩ := ups_prev h v j hv
    have h1 := behind_lt x hd
    by_cases e : i = j
    · subst e
      rw [hu] at hx
      injection hx with hx
      rw [hx]; exact h1
    · have := ih x hx (by omega)
      omega
/-- the first place at which it holds -/
def FirstAt {α : Type} (q : α → Bool) (l : List α) (i : Nat) : Prop := (∃ x, l[i]? = some x ∧ q x = true) ∧ ∀ (j : Nat) y, l[j]? = some y → j < i → q y = false
def NoAt {α : Type} (q : α → Bool) (l : List α) : Prop := ∀ (j : Nat) y, l[j]? = some y → q y = false
theorem first_find {α : Type} {q : α → Bool} {l : List α} {i : Nat} {x : α} (h : FirstAt q l i) (hx : l[i]? = some x) : l.find? q = some x := by
  obtain ⟨⟨y, hy, hq⟩, hn⟩ := h
  rw [hx] at hy
  injection hy with hy
  subst hy
  obtain ⟨hi, he⟩ := List.getElem?_eq_some_iff.1 hx
  rw [List.find?_eq_some_iff_getElem]
  refine ⟨hq, i, hi, he, fun j hj => ?_⟩
  rw [hn j _ (List.getElem?_eq_getElem (by omega)) hj]; rfl
theorem no_find {α : Type} {q : α → Bool} {l : List α} (h : NoAt q l) : l.find? q = none := by
  rw [List.find?_eq_none]
  intro x hx
  obtain ⟨j, hj⟩ := List.getElem?_of_mem hx
  rw [h j x hj]; simp
theorem find_first {α : Type} {q : α → Bool} {l : List α} {x : α} (h : l.find? q = some x) : ∃ i, FirstAt q l i ∧ l[i]? = some x := by
  rw [List.find?_eq_some_iff_getElem] at h
  obtain ⟨hq, i, hi, he, hn⟩ := h
  have hx : l[i]? = some x := by rw [List.getElem?_eq_getElem hi, he]
  refine ⟨i, ⟨⟨x, hx, hq⟩, fun j y hj hlt => ?_⟩, hx⟩
  have := hn j hlt
  obtain ⟨hj1, hj2⟩ := List.getElem?_eq_some_iff.1 hj
  rw [hj2] at this
  simpa using this
theorem find_no {α : Type} {q : α → Bool} {l : List α} (h : l.find? q = none) : NoAt q l := by
  intro j y hj
  have := List.find?_eq_none.1 h y (List.mem_of_getElem? hj)
  simpa using this
theorem first_or {α : Type} (q : α → Bool) (l : List α) : (∃ i, FirstAt q l i) ∨ NoAt q l := by
  cases h : l.find? q with
  | none => exact .inr (find_no h)
  | some x => obtain ⟨i, hi, _⟩ := find_first h; exact .inl ⟨i, hi⟩
/-- where the public suffix stands among the ups -/
def PubAt (l : Rules) (ups : List (List UInt8)) (a : Nat) : Prop :=
  (∃ i, FirstAt (isEx l) ups i ∧ a = i + 1) ∨ (NoAt (isEx l) ups ∧ ((∃ i, FirstAt (isBest l) ups i ∧ a = i) ∨ (NoAt (isBest l) ups ∧ a = ups.length - 1)))
theorem pubAt_ex (l : Rules) (ups : List (List UInt8)) : ∃ a, PubAt l ups a := by
  rcases first_or (isEx l) ups with ⟨i, hi⟩ | h
  · exact ⟨_, .inl ⟨i, hi, rfl⟩⟩
  · rcases first_or (isBest l) ups with ⟨i, hi⟩ | h'
    · exact ⟨_, .inr ⟨h, .inl ⟨i, hi, rfl⟩⟩⟩
    · exact ⟨_, .inr ⟨h, .inr ⟨h', rfl⟩⟩⟩
theorem ex_dot (l : Rules) (d : List UInt8) (hl : sufE l = 0) (h : isEx l d = true) : hasB d 46 = true := by
  unfold isEx at h
  rw [List.any_eq_true] at h
  obtain ⟨r, hr, hq⟩ := h
  rw [Bool.and_eq_true, beq_iff_eq, beq_iff_eq] at hq
  have := (rule_form r ((suf_all l hl).2 r hr)).2.2.2 hq.1
  rw [← hq.2]; exact this
theorem pub_get (l : Rules) (h : List UInt8) (a : Nat) (hl : sufE l = 0) (ha : PubAt l (upsN h) a) : (upsN h)[a]? = some (pubL l h) := by
  rcases ha with ⟨i, hi, rfl⟩ | ⟨hn, ⟨i, hi, rfl⟩ | ⟨hn', rfl⟩⟩
  · obtain ⟨⟨x, hx, hq⟩, _⟩ := id hi
    rw [ups_next h x i hx, ex_dot l x hl hq, if_pos rfl]
    unfold pubL
    rw [first_find hi hx]
  · obtain ⟨⟨x, hx, hq⟩, _⟩ := id hi
    rw [hx]
    unfold pubL
    rw [no_find hn]; simp only
    rw [first_find hi hx]
  · unfold pubL
    rw [no_find hn]; simp only
    rw [no_find hn']; simp only
    rw [← List.getLast?_eq_getElem?]
    exact List.getLast?_eq_some_getLast _
theorem pub_zero (l : Rules) (h : List UInt8) (hl : sufE l = 0) (ha : PubAt l (upsN h) 0) : pubL l h = h := by
  have := pub_get l h 0 hl ha
  rw [ups_zero] at this
  injection this with this
  exact this.symm
theorem pub_mem (l : Rules) (h : List UInt8) (hl : sufE l = 0) : pubL l h ∈ upsN h := by
  obtain ⟨a, ha⟩ := pubAt_ex l (upsN h)
  exact List.mem_of_getElem? (pub_get l h a hl ha)
theorem pub_ne (l : Rules) (h : List UInt8) (hl : sufE l = 0) (hc : canB h = true) : pubL l h ≠ [] := up_ne h _ hc (pub_mem l h hl)
theorem pub_succ (l : Rules) (h : List UInt8) (a : Nat) (hl : sufE l = 0) (hc : canB h = true) (ha : PubAt l (upsN h) (a + 1)) :
    pubL l h ≠ h ∧ ∃ o, (upsN h)[a]? = some o ∧ ownL l h = some o ∧ behindL o = pubL l h ∧ hasB o 46 = true := by
  have hp := pub_get l h (a + 1) hl ha
  obtain ⟨o, ho, hd, hb⟩ := ups_prev h _ a hp
  have hne : pubL l h ≠ h := by
    intro e
    have := ups_dec h h (pubL l h) 0 (a + 1) (ups_zero h) hp (by omega)
    rw [e] at this; omega
  refine ⟨hne, o, ho, ?_, hb, hd⟩
  have hpn := pub_ne l h hl hc
  unfold ownL
  rw [if_neg hne]
  have hex : ∃ y, (upsN h).find? (fun u => behindL u == pubL l h) = some y := by
    cases hf : (upsN h).find? (fun u => behindL u == pubL l h) with
    | some y => exact ⟨y, rfl⟩
    | none =>
      have := List.find?_eq_none.1 hf o (List.mem_of_getElem? ho)
      rw [hb] at this; simp at this
  obtain ⟨y, hy⟩ := hex
  have hyq := List.find?_some hy
  have hyb : behindL y = pubL l h := by simpa using hyq
  rw [hy]
  congr 1
  exact behind_one h y o (List.mem_of_find?_eq_some hy) (List.mem_of_getElem? ho) (by rw [hyb, hb]) (by rw [hyb]; exact hpn)
theorem own_none (l : Rules) (h : List UInt8) (hl : sufE l = 0) (hc : canB h = true) (ho : ownL l h = none) : pubL l h = h := by
  obtain ⟨a, ha⟩ := pubAt_ex l (upsN h)
  cases a with
  | zero => exact pub_zero l h hl ha
  | succ a =>
    obtain ⟨_, o, _, ho', _⟩ := pub_succ l h a hl hc ha
    rw [ho] at ho'; cases ho'
/-- answers -/
def pubA (l : Rules) (h : List UInt8) : List UInt8 := if sufE l = 0 then (if canB h then (if addrL h then [] else pubL l h) else []) else []
def pubE (l : Rules) (h : List UInt8) : Int := if sufE l = 0 then (if canB h then 0 else 1) else sufE l
def ownA (l : Rules) (h : List UInt8) : List UInt8 := if sufE l = 0 then (if canB h then (if addrL h then h else (ownL l h).getD []) else []) else []
def ownE (l : Rules) (h : List UInt8) : Int := if sufE l = 0 then (if canB h then (if addrL h then 0 else (if (ownL l h).isSome then 0 else 5)) else 1) else sufE l
end Go.Proofs.YtgjjkieljdamfafDoor
