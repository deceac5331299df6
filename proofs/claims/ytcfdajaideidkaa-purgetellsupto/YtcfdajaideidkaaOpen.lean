/- How the arguments of a statement are read: texts, bytes, lists of texts; what their bulk bounds. No walk. -/
import Derived.Test.YtcfdajaideidkaaKit
import Derived.Test.YtcfdajaideidkaaRows
import Derived.ProofKit
import Derived.OpenShut
import Derived.ShutString
import Derived.ChangeOld
import Derived.Below
import Derived.SizedLaws
import Derived.SliceStrings
import Derived.JoinedCond
namespace Go.Proofs.Ytcfdajaideidkaa
open Go.ChangeShapes Go.WideShapes Go.ChangeAt Go.RowKit
open Go.ChangeMaps (open_string shut_string)
set_option linter.all false
set_option maxRecDepth 100000

theorem own : ownKnob Try.prog.godebug = none := by kernel_rfl
theorem laidOut : laidOutB Try.prog = true := by kernel_rfl

theorem u8_of {x : Int} (h : (Lit.int .u8 x).wf = true) : ∃ c : UInt8, x = (c.toNat : Int) := by
  have hx : 0 ≤ x ∧ x ≤ 255 := by simpa [Lit.wf, IntKind.min, IntKind.max, IntKind.signed, IntKind.bits] using h
  refine ⟨UInt8.ofNat x.toNat, ?_⟩
  rw [UInt8.toNat_ofNat']
  omega
theorem i64_of {x : Int} (h : (Lit.int .i64 x).wf = true) : -9223372036854775808 ≤ x ∧ x ≤ 9223372036854775807 := by
  simpa [Lit.wf, IntKind.min, IntKind.max, IntKind.signed, IntKind.bits] using h

theorem open_texts {H : Type} {enc : TypeId × Value → H} {P : Program} {W : World} {t e : TypeId} {base : Nat} {v : Value} {d : DataW H} {ps : List MemPlace}
    (ht : P.underlying t = some (.slice e)) (he : P.underlying e = some .string) (hc : P.cellsOf e = 1) (hv : Value.okWide P W .any base t v)
    (h : DataW.Trod enc P W 0 (fun _ => true) true t v d ps) :
    ∃ l : List (List UInt8), Reads W v l.length (strs l) ∧ l.length ≤ maxLen ∧ (∀ x ∈ l, x.length ≤ maxLen) ∧
      ((d = .nil ∧ l = []) ∨ ∃ sp, d = .slice (l.map fun x => .lit (.string x)) sp) := by
  obtain ⟨a0, len, cap, rfl⟩ := okWide_slice ht hv
  obtain ⟨fuel, hf⟩ := h
  rcases open_strings ht he hc hf with ⟨hcs, hx⟩ | ⟨a, len', cap', ss, hcs, _, hl, hm, hz, hx, hcell, hws⟩
  · simp [Value.cells] at hcs
    obtain ⟨rfl, rfl, rfl⟩ := hcs
    simp only [Prod.mk.injEq] at hx
    exact ⟨[], ⟨none, 0, rfl, .inl rfl⟩, by decide, by simp, .inl ⟨hx.1, rfl⟩⟩
  · simp [Value.cells] at hcs
    obtain ⟨rfl, rfl, rfl⟩ := hcs
    simp only [Prod.mk.injEq] at hx
    rw [if_pos rfl] at hz
    have hl2 : ((ss.take len).map fun s => s.data.toList).length = len := by
      rw [List.length_map, List.length_take]; omega
    refine ⟨(ss.take len).map fun s => s.data.toList, ?_, by rw [hl2]; omega, ?_, .inr ⟨ChangeShapes.strs (List.drop len ss), hx.1.trans ?_⟩⟩
    · rw [hl2]
      refine ⟨some a, cap, rfl, ?_⟩
      by_cases h0 : len = 0
      · left
        have : (ss.take len) = [] := by rw [h0]; simp
        rw [this]; rfl
      · right
        have h00 := hcell 0 (by omega)
        have hsp : ∃ b off, a = ⟨b, off, none⟩ := by
          have hc1 := hcell 0 (by omega)
          obtain ⟨b, off, sp⟩ := a
          have e0 : (Addr.add ⟨b, off, sp⟩ 0) = ⟨b, off, sp⟩ := by simp [Addr.add]
          rw [e0] at hc1
          have hspot : sp = none := by simpa using World.cell?_spot hc1
          subst hspot
          exact ⟨b, off, rfl⟩
        obtain ⟨b, off, rfl⟩ := hsp
        refine ⟨b, off, rfl, fun j u hj => ?_⟩
        simp only [strs, List.map_map, List.getElem?_map, Option.map_eq_some_iff] at hj
        obtain ⟨s, hs, rfl⟩ := hj
        have hjl : j < len := by
          have := (List.getElem?_eq_some_iff.1 hs).1
          rw [List.length_take] at this; omega
        have h1 := hcell j (by omega)
        have e1 : (Addr.add ⟨b, off, none⟩ j) = ⟨b, off + j, none⟩ := by
          unfold Addr.add
          by_cases h0 : j = 0
          · rw [if_pos h0, h0]; rfl
          · rw [if_neg h0]
        rw [e1] at h1
        rw [h1]
        rw [List.getElem?_take_of_lt hjl] at hs
        simp [List.getD, hs]
        rfl
    · intro x hx
      simp only [List.mem_map] at hx
      obtain ⟨s, hs, rfl⟩ := hx
      exact hws s (List.mem_of_mem_take hs)
    · congr 1
      unfold ChangeShapes.strs
      rw [List.map_map]; rfl

/-- a struct of integers, by value -/
theorem open_struct_ints {H : Type} {enc : TypeId × Value → H} {P : Program} {W : World} {t e : TypeId} {base : Nat} {v : Value} {d : DataW H} {ps : List MemPlace} {fs : Array Field}
    (ht : P.underlying t = some (.struct fs)) (hone : ∀ (i : Nat) (f : Field), fs[i]? = some f → f.offset = i ∧ f.type = e) (he : P.underlying e = some (.int .i64)) (hce : P.cellsOf e = 1) (hct : P.cellsOf t = fs.size)
    (hv : Value.okWide P W .any base t v) (h : DataW.Trod enc P W 0 (fun _ => true) true t v d ps) :
    ∃ zs : List Int, v = .agg (zs.map (Value.int .i64)).toArray ∧ zs.length = fs.size ∧ ∀ z ∈ zs, -9223372036854775808 ≤ z ∧ z ≤ 9223372036854775807 := by
  obtain ⟨cs, rfl, hsz⟩ := okWide_struct ht hv
  obtain ⟨fuel, hf⟩ := h
  have hf' : DataW.trod enc P W 0 (fun _ => true) true fuel t cs.toList = some (d, ps) := by simpa [Value.cells] using hf
  obtain ⟨xs, n, _, hx, hl, hxl, hall⟩ := DataW.trod_struct ht hf'
  have each : ∀ i, i < fs.size → ∃ z : Int, cs.toList[i]? = some (.int .i64 z) ∧ (-9223372036854775808 ≤ z ∧ z ≤ 9223372036854775807) := by
    intro i hi
    have h1 := hall i fs[i] (Array.getElem?_eq_getElem hi)
    obtain ⟨ho, hty⟩ := hone i fs[i] (Array.getElem?_eq_getElem hi)
    rw [hty, ho, hce] at h1
    have h2 : xs[i]? = some xs[i] := List.getElem?_eq_getElem (by omega)
    rw [h2] at h1
    obtain ⟨z, hc, _, hw⟩ := DataW.trod_int he h1
    refine ⟨z, ?_, i64_of hw⟩
    have h3 := congrArg (·[0]?) hc
    simpa [List.getElem?_take, List.getElem?_drop] using h3
  have hlen : cs.toList.length = fs.size := by rw [hl, hct]
  refine ⟨cs.toList.map intOf, ?_, by simpa using hlen, ?_⟩
  · congr 1
    apply Array.ext'
    apply List.ext_getElem?
    intro i
    by_cases hi : i < fs.size
    · obtain ⟨z, hz, _⟩ := each i hi
      simp only [List.map_map, List.getElem?_map, hz]
      rfl
    · rw [List.getElem?_eq_none (by omega), List.getElem?_eq_none (by simp at hlen ⊢; omega)]
  · intro z hz
    obtain ⟨v, hv, rfl⟩ := List.mem_map.1 hz
    obtain ⟨i, hi⟩ := List.getElem?_of_mem hv
    have hi2 := (List.getElem?_eq_some_iff.1 hi).1
    obtain ⟨z, hz, hb⟩ := each i (by omega)
    rw [hz] at hi
    cases hi
    exact hb
theorem list6 {l : List Int} (h : l.length = 6) : ∃ a b c d e f, l = [a, b, c, d, e, f] := by
  match l, h with
  | [a, b, c, d, e, f], _ => exact ⟨a, b, c, d, e, f, rfl⟩

/-- what the bulk of what came in bounds -/
theorem bulk_of {H : Type} {l : List (DataW H)} (hk : Rows.uptoSmall H l = true) : Rows.uptoBulkAll l ≤ 1048576 := of_decide_eq_true hk
theorem bulk_str {H : Type} (s : ByteArray) : Rows.uptoBulk (DataW.lit (H := H) (.string s.data.toList)) = s.size + 1 := by
  simp only [Rows.uptoBulk]; rfl
theorem bulk_texts {H : Type} (l : List (List UInt8)) : Rows.uptoBulkAll (l.map fun x => DataW.lit (H := H) (.string x)) = (l.map List.length).sum + l.length := by
  induction l with
  | nil => rfl
  | cons x l ih => simp only [List.map_cons, Rows.uptoBulkAll, Rows.uptoBulk, ih, List.sum_cons, List.length_cons]; omega
theorem bulk_list {H : Type} {d : DataW H} {l : List (List UInt8)} (h : (d = .nil ∧ l = []) ∨ ∃ sp, d = .slice (l.map fun x => .lit (.string x)) sp) :
    (l.map List.length).sum + l.length ≤ Rows.uptoBulk d := by
  rcases h with ⟨rfl, rfl⟩ | ⟨sp, rfl⟩
  · simp [Rows.uptoBulk]
  · simp only [Rows.uptoBulk, bulk_texts]; omega
theorem one_bulk {H : Type} (d : DataW H) : 0 ≤ Rows.uptoBulk d := Nat.zero_le _
end Go.Proofs.Ytcfdajaideidkaa
