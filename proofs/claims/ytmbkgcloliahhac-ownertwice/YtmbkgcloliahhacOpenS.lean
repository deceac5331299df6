/- How rules of public suffixes come in. No walk. -/
import Derived.Test.YtmbkgcloliahhacWays
import Derived.Test.YtmbkgcloliahhacSuffixM
namespace Go.Proofs.Ytmbkgcloliahhac
open Go.ChangeShapes Go.WideShapes Go.ChangeAt Go.RowKit
set_option linter.all false

def wRule : Way (Int × List UInt8) := wPair wInt wStr
def ruleF (r : Int × List UInt8) : List Value := [.int .i64 r.1, .string (txt r.2)]
theorem wRule_is (m : Nat) (W : World) (ds : List Value) (r : Int × List UInt8) (h : wRule.rel m W ds r) : ds = ruleF r := by
  obtain ⟨x, y, rfl, _, ⟨rfl, _⟩, ⟨rfl, _⟩⟩ := h
  rfl
theorem wRule_ok (m : Nat) (W : World) (ds : List Value) (r : Int × List UInt8) (h : wRule.rel m W ds r) : (-9223372036854775808 ≤ r.1 ∧ r.1 ≤ 9223372036854775807) ∧ r.2.length ≤ m := by
  obtain ⟨x, y, rfl, _, ⟨rfl, h1⟩, ⟨rfl, h2⟩⟩ := h
  exact ⟨h1, h2⟩
theorem opens_rule : Opens Try.prog 50 wRule :=
  opens_struct Try.underlying50 (by kernel_rfl) (opensF_cons rfl (opens_int Try.underlying3 (by kernel_rfl)) (opensF_one rfl (opens_str Try.underlying9 (by kernel_rfl))))
theorem opens_rules : Opens Try.prog 33 (wList wRule) :=
  opens_list Try.underlying33 (by kernel_rfl) (by decide) (of_decide_eq_true (by kernel_rfl)) opens_rule
theorem open_rules {H : Type} {enc : TypeId × Value → H} {W : World} {base : Nat} {v : Value} {d : DataW H} {ps : List MemPlace} (hv : Value.okWide Try.prog W .any base 33 v)
    (h : DataW.Trod enc Try.prog W 0 (fun _ => true) true 33 v d ps) (m : Nat) (hf : Fits m (DataW.weights Try.prog 33 d)) :
    ∃ l : Rules, Rows W v ruleF l ∧ l.length ≤ m ∧ (∀ r ∈ l, (-9223372036854775808 ≤ r.1 ∧ r.1 ≤ 9223372036854775807) ∧ r.2.length ≤ m) ∧ (wList wRule).bulk l ≤ Rows.uptoBulk d := by
  obtain ⟨l, hl, hb⟩ := open_way opens_rules h
  have hl := hl m hf
  rw [slice_cells Try.underlying33 hv] at hl
  refine ⟨l, rows_of wRule_is (fun _ => rfl) hl, list_len hl, fun r hr => ?_, hb⟩
  obtain ⟨ds, hd⟩ := list_all hl r hr
  exact wRule_ok m W ds r hd
end Go.Proofs.Ytmbkgcloliahhac
