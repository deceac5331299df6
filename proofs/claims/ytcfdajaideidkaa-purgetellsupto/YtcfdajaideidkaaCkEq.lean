/- Two cookies compared. No walk. -/
import Derived.Test.YtcfdajaideidkaaWho
import Derived.Test.YtcfdajaideidkaaGrantA
import Derived.Laws.StructEq
import Derived.BigQuiet
namespace Go.Proofs.Ytcfdajaideidkaa
open Go.RowKit
set_option linter.all false
set_option maxRecDepth 100000
set_option maxRecDepth 100000

theorem txt_eq (a b : List UInt8) : ((txt a).toList = (txt b).toList) ↔ a = b := by
  rw [Lib.toList_data, Lib.toList_data]
  exact Iff.rfl
def eqC (a b : Ck) : Bool :=
  a.name == b.name && a.value == b.value && a.domain == b.domain && a.path == b.path && a.hostOnly == b.hostOnly && a.secure == b.secure && a.httpOnly == b.httpOnly && a.lasting == b.lasting && a.site == b.site && a.expiry == b.expiry && a.created == b.created && a.used == b.used && a.no == b.no
theorem eqC_iff (a b : Ck) : eqC a b = true ↔ a = b := by
  obtain ⟨a1, a2, a3, a4, a5, a6, a7, a8, a9, a10, a11, a12, a13⟩ := a
  obtain ⟨b1, b2, b3, b4, b5, b6, b7, b8, b9, b10, b11, b12, b13⟩ := b
  simp only [eqC, Bool.and_eq_true, beq_iff_eq, Ck.mk.injEq, and_assoc]
set_option maxHeartbeats 4000000 in
theorem ck_eqIn (a b : Ck) : ∀ w : World, (Op.equalIn 10000 34 (.agg (ckC a).toArray) (.agg (ckC b).toArray)).run Try.prog w =   .ok (eqC a b) w := fun w => by
  obtain ⟨a1, a2, a3, a4, a5, a6, a7, a8, a9, a10, a11, a12, a13⟩ := a
  obtain ⟨b1, b2, b3, b4, b5, b6, b7, b8, b9, b10, b11, b12, b13⟩ := b
  simp only [ckC]
  go_simp
  simp only [txt_eq]
  unfold eqC
  by_cases h1 : a1 = b1
  case neg => rw [if_neg h1]; simp [h1]
  by_cases h2 : a2 = b2
  case neg => rw [if_pos h1, if_neg h2]; simp [h2]
  by_cases h3 : a3 = b3
  case neg => rw [if_pos h1, if_pos h2, if_neg h3]; simp [h3]
  by_cases h4 : a4 = b4
  case neg => rw [if_pos h1, if_pos h2, if_pos h3, if_neg h4]; simp [h4]
  by_cases h5 : a5 = b5
  case neg => rw [if_pos h1, if_pos h2, if_pos h3, if_pos h4, if_neg h5]; simp [h5]
  by_cases h6 : a6 = b6
  case neg => rw [if_pos h1, if_pos h2, if_pos h3, if_pos h4, if_pos h5, if_neg h6]; simp [h6]
  by_cases h7 : a7 = b7
  case neg => rw [if_pos h1, if_pos h2, if_pos h3, if_pos h4, if_pos h5, if_pos h6, if_neg h7]; simp [h7]
  by_cases h8 : a8 = b8
  case neg => rw [if_pos h1, if_pos h2, if_pos h3, if_pos h4, if_pos h5, if_pos h6, if_pos h7, if_neg h8]; simp [h8]
  rw [if_pos h1, if_pos h2, if_pos h3, if_pos h4, if_pos h5, if_pos h6, if_pos h7, if_pos h8]
  subst h1 h2 h3 h4 h5 h6 h7 h8
  by_cases h9 : a9 = b9
  case neg => rw [if_neg h9]; simp [h9]
  by_cases h10 : a10 = b10
  case neg => rw [if_pos h9, if_neg h10]; simp [h10]
  by_cases h11 : a11 = b11
  case neg => rw [if_pos h9, if_pos h10, if_neg h11]; simp [h11]
  by_cases h12 : a12 = b12
  case neg => rw [if_pos h9, if_pos h10, if_pos h11, if_neg h12]; simp [h12]
  by_cases h13 : a13 = b13
  case neg => rw [if_pos h9, if_pos h10, if_pos h11, if_pos h12, if_neg h13]; simp [h13]
  rw [if_pos h9, if_pos h10, if_pos h11, if_pos h12, if_pos h13]
  subst h9 h10 h11 h12 h13
  simp
end Go.Proofs.Ytcfdajaideidkaa
