/- The contract of parts: a range over a function that cuts. -/
import Derived.RangeFuncBox
import Derived.RangeFuncNested
import Derived.RangeFuncLeaves
import Derived.Shelf.Abstract
import Derived.WalkKit
import Derived.OwnWalkIn
import Derived.TacticsInMore
import Derived.LoopNIn
import Derived.LoopIn
import Derived.Maps.AppendAt
import Derived.Test.YtlabffopbambjabDoorWordG
namespace Go.Proofs.YtlabffopbambjabDoor
open Go.RowKit Go.Shelf
set_option linter.all false
attribute [local go_sem] Oper.semAt_some

theorem parts_cut (l : List UInt8) (b : UInt8) : partsL l b = if hasB l b then cutA l b :: partsL (cutB l b) b else [cutA l b] := by
  have hge := Lib.indexByte_ge l b
  by_cases hn : Lib.indexByte l b = -1
  · obtain ⟨e1, e2, e3⟩ := cut_none _ _ hn
    rw [e1, e3]
    simp only [Bool.false_eq_true, if_false]
    refine partsL_none _ _ (fun c hc => ?_)
    intro e; subst e
    unfold hasB at e3
    rw [← Bool.not_eq_true, List.contains_iff_mem] at e3
    exact e3 hc
  · obtain ⟨o, ho⟩ : ∃ o : Nat, Lib.indexByte l b = o := ⟨(Lib.indexByte l b).toNat, by omega⟩
    obtain ⟨e1, e2, e3, e4⟩ := cut_some _ _ _ ho
    obtain ⟨hg, hp⟩ := Lib.indexByte_some ho
    rw [e1, e2, e3, if_pos rfl]
    have e : l = l.take o ++ b :: l.drop (o + 1) := by
      have h1 := List.take_append_drop o l
      have h2 := List.drop_eq_getElem_cons e4
      rw [h2] at h1
      have h3 := (List.getElem?_eq_some_iff.1 hg).2
      rw [h3] at h1
      exact h1.symm
    conv => lhs; rw [e]
    rw [partsL_append, partsL_none]
    · rfl
    · intro c hc
      obtain ⟨j, hj⟩ := List.getElem?_of_mem hc
      have hj2 := (List.getElem?_eq_some_iff.1 hj).1
      rw [List.length_take] at hj2
      rw [List.getElem?_take_of_lt (by omega)] at hj
      intro e'; subst e'
      exact hp j (by omega) hj
theorem cutB_len (l : List UInt8) (b : UInt8) : (cutB l b).length ≤ l.length ∧ (hasB l b = true → (cutB l b).length < l.length) := by
  have hge := Lib.indexByte_ge l b
  by_cases hn : Lib.indexByte l b = -1
  · obtain ⟨e1, e2, e3⟩ := cut_none _ _ hn
    rw [e2, e3]; simp
  · obtain ⟨o, ho⟩ : ∃ o : Nat, Lib.indexByte l b = o := ⟨(Lib.indexByte l b).toNat, by omega⟩
    obtain ⟨e1, e2, e3, e4⟩ := cut_some _ _ _ ho
    rw [e2, List.length_drop]
    exact ⟨by omega, fun _ => by omega⟩
/-- how much is left to be cut -/
def moreOf : Value → Value → Nat
  | .bool true, r => lenOf r + 1
  | _, _ => 0
/-- block B lies as it lay -/
def Kb (B : Nat) (W W' : World) : Prop := W'.heap[B]? = W.heap[B]?
theorem Kb.cell {B : Nat} {W W' : World} (h : Kb B W W') : W'.cell? ⟨B, 0, none⟩ = W.cell? ⟨B, 0, none⟩ := World.cell?_of_block (w := W) (a := ⟨B, 0, none⟩) h
theorem Kb.of_boxed {B : Nat} {t : TypeId} {v : Value} {W W' : World} (h : Boxed W B t v) (h' : Boxed W' B t v) : Kb B W W' := h'.trans h.symm
/-- what is still to come -/
def restL (m : Bool) (r : List UInt8) (b : UInt8) : List (List UInt8) := if m then partsL r b else []

theorem parts_restL (l : List UInt8) (b : UInt8) : partsL l b = [cutA l b] ++ restL (hasB l b) (cutB l b) b := by
  rw [parts_cut]; unfold restL
  cases hasB l b
  · rfl
  · rfl
theorem moreOf_lt (r : List UInt8) (b : UInt8) : moreOf (.bool (hasB r b)) (.string (txt (cutB r b))) < moreOf (.bool true) (.string (txt r)) := by
  have h := cutB_len r b
  cases e : hasB r b
  · simp [moreOf]
  · have h2 := h.2 e
    show (cutB r b).length + 1 < r.length + 1
    omega

theorem AbidesFrom.drewN {β : Type} {B : Nat} {J : β → World → Prop} (h : AbidesFrom B J) (s : β) (W : World) (k : Nat) (hj : J s W) : J s (W.drewN k) :=
  h s W _ none hj ⟨rfl, rfl, rfl, Nat.le_refl _, fun _ _ _ => rfl⟩ (fun r e => by cases e)
end Go.Proofs.YtlabffopbambjabDoor
