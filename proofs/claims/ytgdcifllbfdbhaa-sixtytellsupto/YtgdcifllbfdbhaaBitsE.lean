/- Are two lists of numbers one? And what the statements on bits ask first. -/
import Derived.Test.YtgdcifllbfdbhaaBitsD
import Derived.Test.YtgdcifllbfdbhaaBitsO
namespace Go.Proofs.Ytgdcifllbfdbhaa
open Go.RowKit Go.Lib
set_option linter.all false
set_option maxRecDepth 100000

theorem nat_ne_i {a b : Nat} (h : a ≠ b) : ((a : Int) != (b : Int)) = true := by rw [bne_iff_ne]; omega
def bF1 : List Fd := [⟨5, 3⟩, ⟨1, 6⟩]
def bF2 : List Fd := [⟨8, 3⟩]
theorem bv1 : wbE bF1 = 0 ∧ wbT bF1 = [160, 128] := by decide +kernel
theorem bv2 : wbE bF2 = 4 ∧ wbT bF2 = [] := by decide +kernel
theorem bv3 : rE [160, 128] [3, 6] = 0 ∧ rL [160, 128] [3, 6] = [5, 1] ∧ rK [160, 128] [3, 6] = 7 := by decide +kernel
end Go.Proofs.Ytgdcifllbfdbhaa
