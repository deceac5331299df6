/- How attributes and cookies as headers tell them come in. No walk. -/
import Derived.Test.YtjoailjedfbnbaeWays
import Derived.Test.YtjoailjedfbnbaeHeaderM
namespace Go.Proofs.Ytjoailjedfbnbae
open Go.ChangeShapes Go.WideShapes Go.ChangeAt Go.RowKit
set_option linter.all false

def wAttr : Way Attr := wPair wStr wStr
def wRaw : Way Raw := wPair wStr (wPair wStr (wList wAttr))
theorem wAttr_is (m : Nat) (W : World) (ds : List Value) (r : Attr) (h : wAttr.rel m W ds r) : ds = attrF r := by
  obtain ⟨x, y, rfl, _, ⟨rfl, _⟩, ⟨rfl, _⟩⟩ := h
  rfl
theorem wAttr_ok (m : Nat) (W : World) (ds : List Value) (r : Attr) (h : wAttr.rel m W ds r) : r.1.length ≤ m ∧ r.2.length ≤ m := by
  obtain ⟨x, y, rfl, _, ⟨rfl, h1⟩, ⟨rfl, h2⟩⟩ := h
  exact ⟨h1, h2⟩
theorem opens_attr : Opens Try.prog 35 wAttr :=
  opens_struct Try.underlying35 (by kernel_rfl) (opensF_cons rfl (opens_str Try.underlying9 (by kernel_rfl)) (opensF_one rfl (opens_str Try.underlying9 (by kernel_rfl))))
theorem opens_attrs : Opens Try.prog 22 (wList wAttr) :=
  opens_list Try.underlying22 (by kernel_rfl) (by decide) (of_decide_eq_true (by kernel_rfl)) opens_attr
theorem opens_raw : Opens Try.prog 24 wRaw :=
  opens_struct Try.underlying24 (by kernel_rfl) (opensF_cons rfl (opens_str Try.underlying9 (by kernel_rfl)) (opensF_cons rfl (opens_str Try.underlying9 (by kernel_rfl)) (opensF_one rfl opens_attrs)))
theorem open_attr {H : Type} {enc : TypeId × Value → H} {W : World} {base : Nat} {v : Value} {d : DataW H} {ps : List MemPlace} (hv : Value.okWide Try.prog W .any base 35 v)
    (h : DataW.Trod enc Try.prog W 0 (fun _ => true) true 35 v d ps) (m : Nat) (hf : Fits m (DataW.weights Try.prog 35 d)) :
    ∃ a : Attr, v = .agg #[.string (txt a.1), .string (txt a.2)] ∧ (a.1.length ≤ m ∧ a.2.length ≤ m) ∧ wAttr.bulk a ≤ Rows.uptoBulk d := by
  obtain ⟨l, hl, hb⟩ := open_way opens_attr h
  have hl := hl m hf
  have e := struct_cells Try.underlying35 hv
  rw [wAttr_is _ _ _ _ hl] at e
  exact ⟨l, e, wAttr_ok _ _ _ _ hl, hb⟩
theorem open_raw {H : Type} {enc : TypeId × Value → H} {W : World} {base : Nat} {v : Value} {d : DataW H} {ps : List MemPlace} (hv : Value.okWide Try.prog W .any base 24 v)
    (h : DataW.Trod enc Try.prog W 0 (fun _ => true) true 24 v d ps) (m : Nat) (hf : Fits m (DataW.weights Try.prog 24 d)) :
    ∃ (va : Value) (r : Raw), v = .agg #[.string (txt r.1), .string (txt r.2.1), va] ∧ Rows W va attrF r.2.2 ∧ (r.2.2.length ≤ m ∧ r.1.length ≤ m ∧ r.2.1.length ≤ m ∧ ∀ a ∈ r.2.2, a.1.length ≤ m ∧ a.2.length ≤ m) ∧ wRaw.bulk r ≤ Rows.uptoBulk d := by
  obtain ⟨r, hl, hb⟩ := open_way opens_raw h
  have hl := hl m hf
  have e := struct_cells Try.underlying24 hv
  obtain ⟨x, y, hxy, _, ⟨rfl, h1⟩, ⟨x2, y2, rfl, _, ⟨rfl, h2⟩, h3⟩⟩ := hl
  rw [hxy] at e
  have h3' := h3
  obtain ⟨ad, cap, rfl, h4, h5⟩ := h3
  refine ⟨_, r, e, rows_of wAttr_is (fun _ => rfl) h3', ⟨h4, h1, h2, fun a ha => ?_⟩, hb⟩
  obtain ⟨ds, hd⟩ := list_all h3' a ha
  exact wAttr_ok m W ds a hd
end Go.Proofs.Ytjoailjedfbnbae
