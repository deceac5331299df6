/- How policies, rules and caps come in. No walk. -/
import Derived.Test.YtcfdajaideidkaaWays
import Derived.Test.YtcfdajaideidkaaPolicyD
namespace Go.Proofs.Ytcfdajaideidkaa
open Go.ChangeShapes Go.WideShapes Go.ChangeAt Go.RowKit
set_option linter.all false
set_option maxRecDepth 100000
set_option maxRecDepth 100000

/-- so many numbers -/
def wInts (n : Nat) : Way (List Int) := ⟨n, fun _ _ cs l => cs = l.map (Value.int .i64) ∧ l.length = n ∧ ∀ x ∈ l, -9223372036854775808 ≤ x ∧ x ≤ 9223372036854775807, fun _ => n⟩
theorem opens_ints {P : Program} {t e : TypeId} {n : Nat} (ht : P.underlying t = some (.array n e)) (he : P.underlying e = some (.int .i64)) (hc : P.cellsOf t = n) (hce : P.cellsOf e = 1) : Opens P t (wInts n) := by
  refine ⟨hc, fun {H enc W fuel cs x} h => ?_⟩
  obtain ⟨xs, m, _, rfl, hl, hxl, hel⟩ := DataW.trod_array ht h
  rw [hc] at hl
  obtain ⟨l, hll, hlp⟩ := list_choose (n := n) (p := fun i b => (cs[i]? = some (Value.int .i64 b) ∧ (-9223372036854775808 ≤ b ∧ b ≤ 9223372036854775807)) ∧ ∃ d, xs[i]? = some d ∧ 1 ≤ Rows.uptoBulk d.1) (fun i hi => by
    have hx := hel i hi
    rw [hce, Nat.mul_one] at hx
    obtain ⟨d, hd⟩ : ∃ d, xs[i]? = some d := ⟨_, List.getElem?_eq_getElem (by omega)⟩
    rw [hd] at hx
    obtain ⟨b, hb, hdd, hw⟩ := DataW.trod_int he hx
    refine ⟨b, ⟨?_, i64_of hw⟩, d, hd, ?_⟩
    · have h0 : ((cs.drop i).take 1)[0]? = some (Value.int .i64 b) := by rw [hb]; rfl
      rw [List.getElem?_take, if_pos (by decide), List.getElem?_drop] at h0
      simpa using h0
    · rw [hdd]; simp [Rows.uptoBulk])
  refine ⟨hl, l, fun m hm => ⟨?_, hll, ?_⟩, ?_⟩
  · apply List.ext_getElem?
    intro i
    by_cases hi : i < n
    · obtain ⟨b, hb⟩ : ∃ b, l[i]? = some b := ⟨_, List.getElem?_eq_getElem (by omega)⟩
      rw [(hlp i b hb).1.1, List.getElem?_map, hb]; rfl
    · rw [List.getElem?_eq_none (by omega), List.getElem?_eq_none (by rw [List.length_map]; omega)]
  · intro x hx
    obtain ⟨i, hi⟩ := List.getElem?_of_mem hx
    exact (hlp i x hi).1.2
  · show n ≤ Rows.uptoBulk (DataW.agg (xs.map (·.1)))
    simp only [Rows.uptoBulk]
    rw [bulkAll_sum, List.map_map]
    have := sum_le (fun _ : Int => 1) (Rows.uptoBulk ∘ (·.1)) l xs (by omega) (fun i a b ha hb => by
      obtain ⟨_, d, hd, h1⟩ := hlp i a ha
      rw [hb] at hd
      injection hd with hd
      rw [hd]; exact h1)
    have e : (l.map fun _ : Int => 1).sum = n := by
      have : ∀ r : List Int, (r.map fun _ : Int => 1).sum = r.length := fun r => by
        induction r with
        | nil => rfl
        | cons a r ih => rw [List.map_cons, List.sum_cons, ih, List.length_cons]; omega
      rw [this, hll]
    omega
def wRu0 : Way (Int × List UInt8 × Int × Int) := wPair wInt (wPair wStr (wPair wInt wInt))
def ruT (r : Ru) : Int × List UInt8 × Int × Int := (r.kind, r.text, r.purpose, r.vendor)
def wRu : Way Ru := ⟨4, fun m W cs r => wRu0.rel m W cs (ruT r), fun r => wRu0.bulk (ruT r)⟩
theorem opens_ru0 : Opens Try.prog 83 wRu0 :=
  opens_struct Try.underlying83 (by kernel_rfl) (opensF_cons rfl (opens_int Try.underlying3 (by kernel_rfl)) (opensF_cons rfl (opens_str Try.underlying9 (by kernel_rfl)) (opensF_cons rfl (opens_int Try.underlying3 (by kernel_rfl)) (opensF_one rfl (opens_int Try.underlying3 (by kernel_rfl))))))
theorem opens_ru : Opens Try.prog 83 wRu := by
  refine ⟨opens_ru0.1, fun {H enc W fuel cs x} h => ?_⟩
  obtain ⟨h1, ⟨a1, a2, a3, a4⟩, h2, h3⟩ := opens_ru0.2 h
  exact ⟨h1, ⟨a1, a2, a3, a4⟩, h2, h3⟩
theorem wRu_is (m : Nat) (W : World) (ds : List Value) (r : Ru) (h : wRu.rel m W ds r) : ds = ruC r := by
  obtain ⟨_, _, rfl, _, ⟨rfl, _⟩, ⟨_, _, rfl, _, ⟨rfl, _⟩, ⟨_, _, rfl, _, ⟨rfl, _⟩, ⟨rfl, _⟩⟩⟩⟩ := h
  rfl
theorem wRu_ok (m : Nat) (W : World) (ds : List Value) (r : Ru) (h : wRu.rel m W ds r) : RuOk m r := by
  obtain ⟨_, _, rfl, _, ⟨rfl, h1⟩, ⟨_, _, rfl, _, ⟨rfl, h2⟩, ⟨_, _, rfl, _, ⟨rfl, h3⟩, ⟨rfl, h4⟩⟩⟩⟩ := h
  exact ⟨h2, h1, h3, h4⟩
theorem opens_rus : Opens Try.prog 25 (wList wRu) :=
  opens_list Try.underlying25 (by kernel_rfl) (by decide) (of_decide_eq_true (by kernel_rfl)) opens_ru
def wPo0 : Way (List Ru × Int × List Int) := wPair (wList wRu) (wPair wInt (wInts 11))
theorem opens_po0 : Opens Try.prog 28 wPo0 :=
  opens_struct Try.underlying28 (by kernel_rfl) (opensF_cons rfl opens_rus (opensF_cons rfl (opens_int Try.underlying3 (by kernel_rfl)) (opensF_one rfl (opens_ints Try.underlying26 Try.underlying3 (by kernel_rfl) (by kernel_rfl)))))
theorem list11 {l : List Int} (h : l.length = 11) : ∃ c0 c1 c2 c3 c4 c5 c6 c7 c8 c9 c10, l = [c0, c1, c2, c3, c4, c5, c6, c7, c8, c9, c10] := by
  match l, h with
  | [c0, c1, c2, c3, c4, c5, c6, c7, c8, c9, c10], _ => exact ⟨c0, c1, c2, c3, c4, c5, c6, c7, c8, c9, c10, rfl⟩
def ruBulk (r : Ru) : Nat := 1 + (r.text.length + 1 + (1 + 1))
def poBulk (p : Po) : Nat := 1 + (p.rules.map ruBulk).sum + (1 + 11)
theorem open_rule {H : Type} {enc : TypeId × Value → H} {W : World} {base : Nat} {v : Value} {d : DataW H} {ps : List MemPlace} (hv : Value.okWide Try.prog W .any base 83 v)
    (h : DataW.Trod enc Try.prog W 0 (fun _ => true) true 83 v d ps) (m : Nat) (hf : Fits m (DataW.weights Try.prog 83 d)) :
    ∃ r : Ru, v = .agg #[.int .i64 r.kind, .string (txt r.text), .int .i64 r.purpose, .int .i64 r.vendor] ∧ RuOk m r ∧ ruBulk r ≤ Rows.uptoBulk d := by
  obtain ⟨r, hl, hb⟩ := open_way opens_ru h
  have hl := hl m hf
  have e := struct_cells Try.underlying83 hv
  rw [wRu_is _ _ _ _ hl] at e
  exact ⟨r, e, wRu_ok _ _ _ _ hl, hb⟩
theorem open_caps {H : Type} {enc : TypeId × Value → H} {W : World} {base : Nat} {v : Value} {d : DataW H} {ps : List MemPlace} (hv : Value.okWide Try.prog W .any base 26 v)
    (h : DataW.Trod enc Try.prog W 0 (fun _ => true) true 26 v d ps) (m : Nat) (hf : Fits m (DataW.weights Try.prog 26 d)) :
    ∃ e0 e1 e2 e3 e4 e5 e6 e7 e8 e9 e10 : Int, v.cells.toList = [.int .i64 e0, .int .i64 e1, .int .i64 e2, .int .i64 e3, .int .i64 e4, .int .i64 e5, .int .i64 e6, .int .i64 e7, .int .i64 e8, .int .i64 e9, .int .i64 e10] ∧ (∀ x ∈ ([e0, e1, e2, e3, e4, e5, e6, e7, e8, e9, e10] : List Int), i64B x) ∧ 11 ≤ Rows.uptoBulk d := by
  obtain ⟨l, hl, hb⟩ := open_way (opens_ints (n := 11) Try.underlying26 Try.underlying3 (by kernel_rfl) (by kernel_rfl)) h
  obtain ⟨h1, h2, h3⟩ := hl m hf
  obtain ⟨e0, e1, e2, e3, e4, e5, e6, e7, e8, e9, e10, rfl⟩ := list11 h2
  exact ⟨e0, e1, e2, e3, e4, e5, e6, e7, e8, e9, e10, h1, h3, hb⟩
theorem open_policy {H : Type} {enc : TypeId × Value → H} {W : World} {base : Nat} {v : Value} {d : DataW H} {ps : List MemPlace} (hv : Value.okWide Try.prog W .any base 28 v)
    (h : DataW.Trod enc Try.prog W 0 (fun _ => true) true 28 v d ps) (m : Nat) (hf : Fits m (DataW.weights Try.prog 28 d)) :
    ∃ (p : Po) (pv : Value), v = .agg #[pv, .int .i64 p.dflt, .int .i64 p.c0, .int .i64 p.c1, .int .i64 p.c2, .int .i64 p.c3, .int .i64 p.c4, .int .i64 p.c5, .int .i64 p.c6, .int .i64 p.c7, .int .i64 p.c8, .int .i64 p.c9, .int .i64 p.c10] ∧ Rows W pv ruC p.rules ∧ PoOk m p ∧ poBulk p ≤ Rows.uptoBulk d := by
  obtain ⟨⟨l, n, cs⟩, hl, hb⟩ := open_way opens_po0 h
  have hl := hl m hf
  have e := struct_cells Try.underlying28 hv
  obtain ⟨x, y, he, hx1, hx, hy⟩ := hl
  obtain ⟨x2, y2, he2, hx2, ⟨hn, hn2⟩, hcs, hcl, hcr⟩ := hy
  have hx0 := hx
  obtain ⟨ad, cap, hys, hlen, _⟩ := hx
  obtain ⟨c0, c1, c2, c3, c4, c5, c6, c7, c8, c9, c10, rfl⟩ := list11 hcl
  simp only at hn hn2 hcs hys hlen hx0 he he2 hb hcr
  refine ⟨⟨l, n, c0, c1, c2, c3, c4, c5, c6, c7, c8, c9, c10⟩, .slice ad l.length cap, ?_, ?_, ⟨hlen, ?_, hn2, hcr⟩, hb⟩
  · rw [e, he, hys, he2, hn, hcs]; rfl
  · rw [hys] at hx0
    exact rows_of wRu_is (fun _ => rfl) hx0
  · intro r hr
    rw [hys] at hx0
    obtain ⟨ds, hd⟩ := list_all hx0 r hr
    exact wRu_ok _ _ _ _ hd
end Go.Proofs.Ytcfdajaideidkaa
