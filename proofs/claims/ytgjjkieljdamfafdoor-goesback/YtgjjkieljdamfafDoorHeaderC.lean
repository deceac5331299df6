/- The contract of Read. -/
import Derived.Test.YtgjjkieljdamfafDoorHeaderB
namespace Go.Proofs.YtgjjkieljdamfafDoor
open Go.RowKit
set_option linter.all false
set_option maxRecDepth 100000

theorem rdE_long (s : List UInt8) (h : 400 < s.length) : rdE s = 2 := by unfold rdE; rw [if_pos h]
theorem rdE_bar (s : List UInt8) (h : ¬ 400 < s.length) (hb : hasP barU s = true) : rdE s = 1 := by unfold rdE; rw [if_neg h, if_pos hb]
theorem rdE_head (s : List UInt8) (h : ¬ 400 < s.length) (hb : hasP barU s = false) (hp : (!hasB (headP s) 61 || (nameL (headP s) == [])) = true) : rdE s = 1 := by unfold rdE; rw [if_neg h, hb, if_neg (by decide), if_pos hp]
theorem rdE_tail (s : List UInt8) (h : ¬ 400 < s.length) (hb : hasP barU s = false) (hp : (!hasB (headP s) 61 || (nameL (headP s) == [])) = false) : rdE s = if 12 < (attrsL (tailP s)).length then 2 else 0 := by
  unfold rdE; rw [if_neg h, hb, if_neg (by decide), hp, if_neg (by decide)]
theorem rdR_bad (s : List UInt8) (h : rdE s ≠ 0) : rdR s = ([], [], []) := by unfold rdR; rw [if_neg h]
theorem rdR_ok (s : List UInt8) (h : rdE s = 0) : rdR s = (nameL (headP s), valueL (headP s), attrsL (tailP s)) := by unfold rdR; rw [if_pos h]
theorem rows_nil {α : Type} (W : World) (f : α → List Value) : Rows W (.slice none 0 0) f [] := ⟨none, 0, rfl, .inl rfl⟩
end Go.Proofs.YtgjjkieljdamfafDoor
