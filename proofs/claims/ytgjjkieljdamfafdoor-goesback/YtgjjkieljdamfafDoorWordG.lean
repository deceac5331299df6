/- The contract of the reference's parts: by induction, from the end. -/
import Derived.Test.YtgjjkieljdamfafDoorWordF
import Derived.Deep.RegionHeld3
import Derived.Deep.AppendLies
import Derived.Deep.Onto
namespace Go.Proofs.YtgjjkieljdamfafDoor
open Go.RowKit
set_option linter.all false
set_option maxRecDepth 100000

theorem info_str : (Tryd.prog.info? 9).map (fun i => (i.zero, i.size, i.bytes)) = some (some (.string ⟨#[]⟩), 1, 16) := by kernel_rfl

theorem parts_last (s : ByteArray) (b : UInt8) (k : Nat) (h : k < s.size) (hk : s[k] = b) (hn : ∀ (j : Nat) c, s.data.toList[j]? = some c → k < j → c ≠ b) :
    partsL s.data.toList b = partsL (s.data.toList.take k) b ++ [(s.extract (k + 1) s.size).data.toList] := by
  have e : s.data.toList = s.data.toList.take k ++ b :: s.data.toList.drop (k + 1) := by
    have h1 := List.take_append_drop k s.data.toList
    have h2 := List.drop_eq_getElem_cons (l := s.data.toList) (i := k) (by simpa using h)
    rw [h2] at h1
    rw [← hk]
    exact h1.symm
  rw [Lib.extract_to_end]
  have hd : partsL (s.data.toList.drop (k + 1)) b = [s.data.toList.drop (k + 1)] := partsL_none _ _ (fun c hc => by
    obtain ⟨j, hj⟩ := List.getElem?_of_mem hc
    rw [List.getElem?_drop] at hj
    exact hn _ c hj (by omega))
  conv => lhs; rw [e]
  rw [partsL_append, hd]

theorem below_one {w w1 w2 : World} {o : Obj} {base : Nat} {e : TypeId} {size : Nat} {v : Value} {n : Nat} {xs : List Value} (hb1 : Below w.heap.size w w1) (hown : w1.ownsRow base e size v n xs) (hbase : w.heap.size ≤ base)
    (hg : (w1.alloc o).grownBy w2 v.ownBlock) : Below w.heap.size w w2 := by
  have h := hb1.alloc hb1.size o
  exact h.grown hg h.size (fun q e => Nat.le_trans hbase (hown.lt q e).1)
theorem below_two {w w1 w2 : World} {base : Nat} {e : TypeId} {size : Nat} {v : Value} {n : Nat} {xs : List Value} (hb1 : Below w.heap.size w w1) (hown : w1.ownsRow base e size v n xs) (hbase : w.heap.size ≤ base)
    (hg : w1.grownBy w2 v.ownBlock) : Below w.heap.size w w2 :=
  hb1.grown hg hb1.size (fun q e => Nat.le_trans hbase (hown.lt q e).1)

end Go.Proofs.YtgjjkieljdamfafDoor
