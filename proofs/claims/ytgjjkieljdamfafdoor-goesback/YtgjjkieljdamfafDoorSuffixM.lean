/- Public suffixes and owners, told plainly over a host's ups: who owns an owner is that owner itself; who is below a host of the same public suffix has the same owner. No walk. -/
import Derived.Test.YtgjjkieljdamfafDoorHostD
namespace Go.Proofs.YtgjjkieljdamfafDoor
open Go.RowKit
set_option linter.all false
set_option maxRecDepth 100000

/-- what is behind a host's first label -/
def behindL (h : List UInt8) : List UInt8 := cutB h 46
/-- a host that is no address, and all above it -/
def upsN (h : List UInt8) : List (List UInt8) := h :: tailsL h
theorem upsN_dot (h : List UInt8) (hd : hasB h 46 = true) : upsN h = h :: upsN (behindL h) := by
  unfold upsN behindL
  rw [tails_cut h, if_pos hd]
theorem upsN_none (h : List UInt8) (hd : hasB h 46 = false) : upsN h = [h] := by
  unfold upsN
  rw [tails_cut h, hd]; rfl
theorem behind_lt (h : List UInt8) (hd : hasB h 46 = true) : (behindL h).length < h.length := (cutB_len h 46).2 hd
theorem behind_le (h : List UInt8) : (behindL h).length ≤ h.length := (cutB_len h 46).1
/-- an up's ups are the end of the host's -/
theorem ups_end (h u : List UInt8) (hu : u ∈ upsN h) : ∃ pre, upsN h = pre ++ upsN u ∧ ∀ x ∈ pre, u.length < x.length := by
  obtain ⟨n, hn⟩ : ∃ n, h.length ≤ n := ⟨_, Nat.le_refl _⟩
  induction n generalizing h with
  | zero =>
    cases hd : hasB h 46
    · rw [upsN_none h hd, List.mem_singleton] at hu
      exact ⟨[], by rw [hu]; rfl, fun x hx => by cases hx⟩
    · have := behind_lt h hd; omega
  | succ n ih =>
    cases hd : hasB h 46
    · rw [upsN_none h hd, List.mem_singleton] at hu
      exact ⟨[], by rw [hu]; rfl, fun x hx => by cases hx⟩
    · have hlt := behind_lt h hd
      rw [upsN_dot h hd, List.mem_cons] at hu
      rcases hu with rfl | hu
      · exact ⟨[], rfl, fun x hx => by cases hx⟩
      · obtain ⟨pre, e, hp⟩ := ih (behindL h) hu (by omega)
        refine ⟨h :: pre, by rw [upsN_dot h hd, e]; rfl, fun x hx => ?_⟩
        rw [List.mem_cons] at hx
        rcases hx with rfl | hx
        · have : u.length ≤ (behindL x).length := by
            have hm : u ∈ upsN (behindL x) := hu
            rw [e] at hm
            rcases pre with _ | ⟨y, pre⟩
            · have e2 : upsN (behindL x) = upsN u := e
              unfold upsN at e2
              injection e2 with e2 _
              rw [e2]; exact Nat.le_refl _
            · have e2 : upsN (behindL x) = y :: (pre ++ upsN u) := e
              unfold upsN at e2
              injection e2 with e2 _
              have := hp y (by simp)
              rw [e2]; omega
          omega
        · exact hp x hx
theorem ups_self (h : List UInt8) : h ∈ upsN h := by unfold upsN; simp
theorem ups_mem (h u v : List UInt8) (hu : u ∈ upsN h) (hv : v ∈ upsN u) : v ∈ upsN h := by
  obtain ⟨pre, e, _⟩ := ups_end h u hu
  rw [e]; exact List.mem_append_right _ hv
theorem ups_le (h u : List UInt8) (hu : u ∈ upsN h) : u.length ≤ h.length := by
  obtain ⟨pre, e, hp⟩ := ups_end h u hu
  rcases pre with _ | ⟨y, pre⟩
  · have e2 : upsN h = upsN u := e
    unfold upsN at e2
    injection e2 with e2 _
    rw [e2]; exact Nat.le_refl _
  · have e2 : upsN h = y :: (pre ++ upsN u) := e
    unfold upsN at e2
    injection e2 with e2 _
    have := hp y (by simp)
    rw [e2]; omega
/-- two ups are one, or one is among the other one's -/
theorem ups_two (h u v : List UInt8) (hu : u ∈ upsN h) (hv : v ∈ upsN h) : u = v ∨ v ∈ upsN (behindL u) ∧ hasB u 46 = true ∨ u ∈ upsN (behindL v) ∧ hasB v 46 = true := by
  obtain ⟨pre, e, hp⟩ := ups_end h u hu
  obtain ⟨pre', e', hp'⟩ := ups_end h v hv
  rcases Nat.lt_trichotomy u.length v.length with hl | hl | hl
  · right; right
    have hm : u ∈ upsN v := by
      rw [e'] at hu
      rw [List.mem_append] at hu
      rcases hu with hu | hu
      · have := hp' u hu; omega
      · exact hu
    cases hd : hasB v 46
    · rw [upsN_none v hd, List.mem_singleton] at hm
      rw [hm] at hl; omega
    · rw [upsN_dot v hd, List.mem_cons] at hm
      rcases hm with rfl | hm
      · omega
      · exact ⟨hm, rfl⟩
  · left
    have hm : u ∈ upsN v := by
      rw [e'] at hu
      rw [List.mem_append] at hu
      rcases hu with hu | hu
      · have := hp' u hu; omega
      · exact hu
    cases hd : hasB v 46
    · rw [upsN_none v hd, List.mem_singleton] at hm; exact hm
    · rw [upsN_dot v hd, List.mem_cons] at hm
      rcases hm with hm | hm
      · exact hm
      · have := ups_le _ _ hm
        have := behind_lt v hd
        omega
  · right; left
    have hm : v ∈ upsN u := by
      rw [e] at hv
      rw [List.mem_append] at hv
      rcases hv with hv | hv
      · have := hp v hv; omega
      · exact hv
    cases hd : hasB u 46
    · rw [upsN_none u hd, List.mem_singleton] at hm
      rw [hm] at hl; omega
    · rw [upsN_dot u hd, List.mem_cons] at hm
      rcases hm with rfl | hm
      · omega
      · exact ⟨hm, rfl⟩
theorem behind_none (u : List UInt8) (hd : hasB u 46 = false) : behindL u = [] := by
  unfold behindL
  have hge := Lib.indexByte_ge u 46
  by_cases hn : Lib.indexByte u 46 = -1
  · exact (cut_none _ _ hn).2.1
  · obtain ⟨o, ho⟩ : ∃ o : Nat, Lib.indexByte u 46 = o := ⟨(Lib.indexByte u 46).toNat, by omega⟩
    obtain ⟨_, _, e3, _⟩ := cut_some _ _ _ ho
    rw [e3] at hd; cases hd
theorem dot_of (u : List UInt8) (h : behindL u ≠ []) : hasB u 46 = true := by
  cases hd : hasB u 46
  · exact absurd (behind_none u hd) h
  · rfl
/-- one up alone has that behind its first label -/
theorem behind_one (h u v : List UInt8) (hu : u ∈ upsN h) (hv : v ∈ upsN h) (e : behindL u = behindL v) (hn : behindL u ≠ []) : u = v := by
  rcases ups_two h u v hu hv with h' | ⟨h', hd⟩ | ⟨h', hd⟩
  · exact h'
  · have h1 := ups_le _ _ h'
    have h2 := behind_lt v (dot_of v (by rw [← e]; exact hn))
    rw [← e] at h2; omega
  · have h1 := ups_le _ _ h'
    have h2 := behind_lt u (dot_of u hn)
    rw [e] at h2; omega
abbrev Rules := List (Int × List UInt8)
def isEx (l : Rules) (d : List UInt8) : Bool := l.any (fun r => r.1 == 3 && r.2 == d)
def isBest (l : Rules) (d : List UInt8) : Bool := l.any (fun r => (r.1 == 1 && r.2 == d) || (r.1 == 2 && r.2 == behindL d))
/-- the public suffix of a host that is no address -/
def pubL (l : Rules) (h : List UInt8) : List UInt8 := match (upsN h).find? (isEx l) with
  | some d => behindL d
  | none => match (upsN h).find? (isBest l) with
    | some d => d
    | none => (upsN h).getLast (by unfold upsN; simp)
/-- its owner, if it has one -/
def ownL (l : Rules) (h : List UInt8) : Option (List UInt8) := if pubL l h = h then none else (upsN h).find? (fun u => behindL u == pubL l h)
theorem own_some (l : Rules) (h o : List UInt8) (ho : ownL l h = some o) : o ∈ upsN h ∧ behindL o = pubL l h ∧ pubL l h ≠ h := by
  unfold ownL at ho
  by_cases e : pubL l h = h
  · rw [if_pos e] at ho; cases ho
  · rw [if_neg e] at ho
    exact ⟨List.mem_of_find?_eq_some ho, by have := List.find?_some ho; simpa using this, e⟩
theorem find_none_end {α : Type} (q : α → Bool) (pre l : List α) (h : (pre ++ l).find? q = none) : l.find? q = none := by
  rw [List.find?_append] at h
  cases hp : pre.find? q with
  | some x => rw [hp] at h; cases h
  | none => rw [hp] at h; simpa using h
/-- an owner's public suffix is the host's -/
theorem pub_own (l : Rules) (h o : List UInt8) (ho : ownL l h = some o) (hn : pubL l h ≠ []) : pubL l o = pubL l h := by
  obtain ⟨hm, hb, hne⟩ := own_some l h o ho
  obtain ⟨pre, e, hp⟩ := ups_end h o hm
  have hd : hasB o 46 = true := dot_of o (by rw [hb]; exact hn)
  cases hx : (upsN h).find? (isEx l) with
  | some d =>
    have hpub : pubL l h = behindL d := by unfold pubL; rw [hx]
    have hdm := List.mem_of_find?_eq_some hx
    have hod : o = d := behind_one h o d hm hdm (by rw [hb, hpub]) (by rw [hb]; exact hn)
    subst hod
    have hex := List.find?_some hx
    have hf : (upsN o).find? (isEx l) = some o := by
      unfold upsN
      rw [List.find?_cons_of_pos hex]
    rw [hpub]
    unfold pubL
    rw [hf]
  | none =>
    have hxo : (upsN o).find? (isEx l) = none := find_none_end _ pre _ (by rw [← e]; exact hx)
    cases hbst : (upsN h).find? (isBest l) with
    | some d =>
      have hpub : pubL l h = d := by unfold pubL; rw [hx]; simp only; rw [hbst]
      have hod : behindL o = d := by rw [hb, hpub]
      have hup : upsN o = o :: upsN d := by rw [upsN_dot o hd, hod]
      have hdb := List.find?_some hbst
      have hno : ¬ isBest l o = true := by
        intro hob
        have hlen : d.length < o.length := by rw [← hod]; exact behind_lt o hd
        rw [e, List.find?_append, hup, List.find?_cons_of_pos hob] at hbst
        cases hpre : pre.find? (isBest l) with
        | some y =>
          rw [hpre] at hbst
          have hy : y = d := by simpa using hbst
          have := hp y (List.mem_of_find?_eq_some hpre)
          rw [hy] at this; omega
        | none =>
          rw [hpre] at hbst
          have hy : o = d := by simpa using hbst
          rw [hy] at hlen; omega
      have hf : (upsN o).find? (isBest l) = some d := by
        rw [hup, List.find?_cons_of_neg hno]
        unfold upsN
        rw [List.find?_cons_of_pos hdb]
      rw [hpub]
      unfold pubL
      rw [hxo]; simp only; rw [hf]
    | none =>
      have hbo : (upsN o).find? (isBest l) = none := find_none_end _ pre _ (by rw [← e]; exact hbst)
      unfold pubL
      rw [hx, hxo]; simp only; rw [hbst, hbo]; simp only
      have hne2 : upsN o ≠ [] := by unfold upsN; simp
      have : (pre ++ upsN o).getLast (by simp [hne2]) = (upsN o).getLast hne2 := List.getLast_append_of_ne_nil _ hne2
      rw [← this]
      congr 1
      exact e.symm
/-- who owns an owner is that owner itself -/
theorem own_twice (l : Rules) (h o : List UInt8) (ho : ownL l h = some o) (hn : pubL l h ≠ []) : ownL l o = some o := by
  obtain ⟨hm, hb, _⟩ := own_some l h o ho
  have hp := pub_own l h o ho hn
  have hd : hasB o 46 = true := dot_of o (by rw [hb]; exact hn)
  unfold ownL
  rw [hp, ← hb, if_neg (fun e => by have := behind_lt o hd; rw [e] at this; omega)]
  unfold upsN
  rw [List.find?_cons_of_pos (by simp)]
/-- who is below a host of the same public suffix has the same owner -/
theorem own_same (l : Rules) (h g o p : List UInt8) (hg : g ∈ upsN h) (ho : ownL l h = some o) (hp : ownL l g = some p) (e : pubL l h = pubL l g) (hn : pubL l h ≠ []) : o = p := by
  obtain ⟨hm, hb, _⟩ := own_some l h o ho
  obtain ⟨hm', hb', _⟩ := own_some l g p hp
  exact behind_one h o p hm (ups_mem h g p hg hm') (by rw [hb, hb', e]) (by rw [hb]; exact hn)
end Go.Proofs.YtgjjkieljdamfafDoor
