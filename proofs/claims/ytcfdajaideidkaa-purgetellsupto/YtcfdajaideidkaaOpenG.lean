/- How consents come in. No walk. -/
import Derived.Test.YtcfdajaideidkaaWays
import Derived.Test.YtcfdajaideidkaaGrantA
namespace Go.Proofs.Ytcfdajaideidkaa
open Go.ChangeShapes Go.WideShapes Go.ChangeAt Go.RowKit
set_option linter.all false
set_option maxRecDepth 100000
set_option maxRecDepth 100000

/-- ten truths -/
def wTen : Way (List Bool) := ⟨10, fun _ _ cs l => cs = l.map Value.bool ∧ l.length = 10, fun _ => 10⟩
theorem opens_ten {P : Program} {t e : TypeId} (ht : P.underlying t = some (.array 10 e)) (he : P.underlying e = some .bool) (hc : P.cellsOf t = 10) (hce : P.cellsOf e = 1) : Opens P t wTen := by
  refine ⟨hc, fun {H enc W fuel cs x} h => ?_⟩
  obtain ⟨xs, m, _, rfl, hl, hxl, hel⟩ := DataW.trod_array ht h
  rw [hc] at hl
  obtain ⟨l, hll, hlp⟩ := list_choose (n := 10) (p := fun i b => cs[i]? = some (Value.bool b) ∧ ∃ d, xs[i]? = some d ∧ 1 ≤ Rows.uptoBulk d.1) (fun i hi => by
    have hx := hel i hi
    rw [hce, Nat.mul_one] at hx
    obtain ⟨d, hd⟩ : ∃ d, xs[i]? = some d := ⟨_, List.getElem?_eq_getElem (by omega)⟩
    rw [hd] at hx
    obtain ⟨b, hb, hdd⟩ := DataW.trod_bool he hx
    refine ⟨b, ?_, d, hd, ?_⟩
    · have h0 : ((cs.drop i).take 1)[0]? = some (Value.bool b) := by rw [hb]; rfl
      rw [List.getElem?_take, if_pos (by decide), List.getElem?_drop] at h0
      simpa using h0
    · rw [hdd]; simp [Rows.uptoBulk])
  refine ⟨hl, l, fun m hm => ⟨?_, hll⟩, ?_⟩
  · apply List.ext_getElem?
    intro i
    by_cases hi : i < 10
    · obtain ⟨b, hb⟩ : ∃ b, l[i]? = some b := ⟨_, List.getElem?_eq_getElem (by omega)⟩
      rw [(hlp i b hb).1, List.getElem?_map, hb]; rfl
    · rw [List.getElem?_eq_none (by omega), List.getElem?_eq_none (by rw [List.length_map]; omega)]
  · show 10 ≤ Rows.uptoBulk (DataW.agg (xs.map (·.1)))
    simp only [Rows.uptoBulk]
    rw [bulkAll_sum, List.map_map]
    have := sum_le (fun _ : Bool => 1) (Rows.uptoBulk ∘ (·.1)) l xs (by omega) (fun i a b ha hb => by
      obtain ⟨_, d, hd, h1⟩ := hlp i a ha
      rw [hb] at hd
      injection hd with hd
      rw [hd]; exact h1)
    have e : (l.map fun _ : Bool => 1).sum = 10 := by
      have : ∀ r : List Bool, (r.map fun _ : Bool => 1).sum = r.length := fun r => by
        induction r with
        | nil => rfl
        | cons a r ih => rw [List.map_cons, List.sum_cons, ih, List.length_cons]; omega
      rw [this, hll]
    omega
def wCn0 : Way (Int × List Bool × List Int) := wPair wInt (wPair wTen (wList wInt))
theorem opens_gints : Opens Try.prog 30 (wList wInt) :=
  opens_list Try.underlying30 (by kernel_rfl) (by decide) (of_decide_eq_true (by kernel_rfl)) (opens_int Try.underlying3 (by kernel_rfl))
theorem opens_cn : Opens Try.prog 32 wCn0 :=
  opens_struct Try.underlying32 (by kernel_rfl) (opensF_cons rfl (opens_int Try.underlying3 (by kernel_rfl)) (opensF_cons rfl (opens_ten Try.underlying29 Try.underlying4 (by kernel_rfl) (by kernel_rfl)) (opensF_one rfl opens_gints)))
theorem list10 {l : List Bool} (h : l.length = 10) : ∃ b0 b1 b2 b3 b4 b5 b6 b7 b8 b9, l = [b0, b1, b2, b3, b4, b5, b6, b7, b8, b9] := by
  match l, h with
  | [b0, b1, b2, b3, b4, b5, b6, b7, b8, b9], _ => exact ⟨b0, b1, b2, b3, b4, b5, b6, b7, b8, b9, rfl⟩
theorem gint_is (m : Nat) (W : World) (ds : List Value) (z : Int) (h : wInt.rel m W ds z) : ds = intF z := h.1
theorem open_consent {H : Type} {enc : TypeId × Value → H} {W : World} {base : Nat} {v : Value} {d : DataW H} {ps : List MemPlace} (hv : Value.okWide Try.prog W .any base 32 v)
    (h : DataW.Trod enc Try.prog W 0 (fun _ => true) true 32 v d ps) (m : Nat) (hf : Fits m (DataW.weights Try.prog 32 d)) :
    ∃ (c : Cn) (vv : Value), v = .agg #[.int .i64 c.g, .bool c.b0, .bool c.b1, .bool c.b2, .bool c.b3, .bool c.b4, .bool c.b5, .bool c.b6, .bool c.b7, .bool c.b8, .bool c.b9, vv] ∧ Rows W vv intF c.vs ∧ (c.vs.length ≤ m ∧ inR c.vs ∧ (-9223372036854775808 ≤ c.g ∧ c.g ≤ 9223372036854775807)) ∧ 1 + (c.vs.map fun _ => 1).sum ≤ Rows.uptoBulk d := by
  obtain ⟨⟨g, ten, vs⟩, hl, hb⟩ := open_way opens_cn h
  have hl := hl m hf
  have e := struct_cells Try.underlying32 hv
  obtain ⟨x, y, he, hx1, hx, hy⟩ := hl
  obtain ⟨x2, y2, he2, hx2, ⟨htn, htl⟩, hvs⟩ := hy
  obtain ⟨hxi, hxr⟩ := hx
  have hvs0 := hvs
  obtain ⟨ad, cap, hys, hlen, _⟩ := hvs
  obtain ⟨b0, b1, b2, b3, b4, b5, b6, b7, b8, b9, rfl⟩ := list10 htl
  simp only at hxi hxr htn hys hlen hvs0 he he2 hb
  refine ⟨⟨g, b0, b1, b2, b3, b4, b5, b6, b7, b8, b9, vs⟩, .slice ad vs.length cap, ?_, ?_, ⟨hlen, ?_, hxr⟩, ?_⟩
  · rw [e, he, hxi, he2, htn, hys]; rfl
  · rw [hys] at hvs0
    exact rows_of gint_is (fun _ => rfl) hvs0
  · intro z hz
    rw [hys] at hvs0
    obtain ⟨ds, hd⟩ := list_all hvs0 z hz
    exact hd.2
  · have : wCn0.bulk (g, [b0, b1, b2, b3, b4, b5, b6, b7, b8, b9], vs) = 1 + (10 + (1 + (vs.map fun _ => 1).sum)) := rfl
    rw [this] at hb
    show 1 + (vs.map fun _ => 1).sum ≤ _
    omega
end Go.Proofs.Ytcfdajaideidkaa
