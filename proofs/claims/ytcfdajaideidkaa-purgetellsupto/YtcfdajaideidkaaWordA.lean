/- Contracts of the small functions of package word: a blank, fold. -/
import Derived.Test.YtcfdajaideidkaaRows
import Derived.Test.YtcfdajaideidkaaWordM
import Derived.WalkKit
import Derived.WalkSpells
import Derived.WalkLawsBesides
namespace Go.Proofs.Ytcfdajaideidkaa
open Go.RowKit
set_option linter.all false
set_option maxRecDepth 100000

set_option maxHeartbeats 1000000 in
theorem fold_any (s : ByteArray) (w : World) (hs : s.size ≤ maxLen) :
    Calls Try.prog 86 #[.string s] w fun e w' => e = .returned (.string (txt (foldL s.data.toList))) ∧ Below w.heap.size w w' := by
  unfold maxLen at hs
  have hc := run_bytes_of_string (P := Try.prog) w 9 115 5 s Try.underlying9 Try.underlying115 Try.underlying5
  go_enter Try.func86, Try.ntmps86
  go_wp2
  clear hc
  go_loopw [10] (fun i wr => ∃ k : Nat, k ≤ s.size ∧ i = .int .i64 k ∧ Row wr w.heap.size s.size (foldAt s k) ∧ Below w.heap.size w wr) (fun i _ => s.size - (intOf i).toNat)
  case atStart => exact ⟨0, Nat.zero_le _, rfl, (row_bytes w s _ _).of_eq (fun j _ => (foldAt_zero s j).symm), ((Below.refl _ _).alloc (Nat.le_refl _) _).drew⟩
  case round =>
    obtain ⟨k, hk, rfl, hrow, hb⟩ := hrel
    by_cases hlt : k < s.size
    · have hck := hrow.cell k hlt
      have hfk := hrow.frozen k hlt
      rw [foldAt_self] at hck
      obtain ⟨c, hcc⟩ : ∃ c, c = s.data[k]?.getD 0 := ⟨_, rfl⟩
      rw [← hcc] at hck
      have hcl := u8_lt c
      have HC : Hid (c = s.data[k]?.getD 0) := hcc
      clear hcc
      go_wp2
      · have h1 : (65 : Int) ≤ c.toNat := by assumption
        have h2 : (c.toNat : Int) ≤ 90 := by assumption
        go_roundw
        case rel => exact ⟨k + 1, by omega, by go_num, (hrow.set k hlt _).of_eq (fun j _ => by rw [foldAt_succ, ← HC.out, foldU_yes c h1 h2]), hb.setCell (Nat.le_refl _) _⟩
        case measure => simp [intOf]; omega
      all_goals
        have hno : foldU c = c := foldU_no c (by omega)
        go_roundw
        case rel => exact ⟨k + 1, by omega, by go_num, hrow.of_eq (fun j _ => by rw [foldAt_keep]; rw [← HC.out]; exact hno), hb⟩
        case measure => simp [intOf]; omega
    · obtain rfl : k = s.size := by omega
      have hcv := run_row_string (P := Try.prog) 115 9 5 Try.underlying115 Try.underlying5 Try.underlying9 (cap := grownCap w s.size 0 5) (foldL s.data.toList) (by simp [foldL]) hrow (foldAt_all s)
      go_wp2
      go_ret
      exact ⟨rfl, hb⟩
end Go.Proofs.Ytcfdajaideidkaa
