/- The map of rules: what it holds, as a list of rules; contracts: is a rule there; is a text a host as it is compared; what is wrong with a rule. -/
import Derived.Test.YtgjjkieljdamfafDoorSuffixN
import Derived.Maps.OwnSet
import Derived.DeepKeys4
namespace Go.Proofs.YtgjjkieljdamfafDoor
open Go.RowKit Go.Maps
set_option linter.all false
set_option maxRecDepth 100000

theorem slaid : laidOutB Tryd.prog = true := by kernel_rfl
theorem srow : (63 : TypeId) < Tryd.prog.types.size := of_decide_eq_true (by kernel_rfl)
theorem swide : (match Tryd.prog.underlying 63 with | some (.array _ _) | some (.struct _) => true | _ => false) = true := by kernel_rfl
theorem slaw : Keyed Tryd.prog 63 := Keyed.of_law (deep_law_laid slaid (m := 2) (by omega) srow (by kernel_rfl) swide)
theorem zeroU (w : World) : (zeroValue 86).run Tryd.prog w = .ok (.agg #[]) w := by kernel_rfl
theorem skt : Tryd.prog.keyType 63 = true := by kernel_rfl
theorem scells : Tryd.prog.cellsOf 63 = 2 := by kernel_rfl
theorem icells : Tryd.prog.cellsOf 3 = 1 := by kernel_rfl
theorem tcells : Tryd.prog.cellsOf 9 = 1 := by kernel_rfl
/-- a rule as a value -/
def sufV (r : Int × List UInt8) : Value := .agg #[.int .i64 r.1, .string (txt r.2)]
def okR (r : Int × List UInt8) : Prop := (-9223372036854775808 ≤ r.1 ∧ r.1 ≤ 9223372036854775807) ∧ r.2.length ≤ maxLen
theorem okR_wf {r : Int × List UInt8} (h : okR r) : (Lit.int .i64 r.1).wf = true := by
  have := h.1
  simpa [Lit.wf, IntKind.min, IntKind.max, IntKind.signed, IntKind.bits] using this
theorem key_mk (r : Int × List UInt8) (h : okR r) : ∃ k, keyOf Tryd.prog 63 (sufV r) = some k := by
  have hw := okR_wf h
  have hs : (txt r.2).size ≤ maxLen := h.2
  have hf : (sufV r).formed Tryd.prog 63 = true := by
    simp [sufV, Value.formed, Tryd.underlying63, scells]
  obtain ⟨m, hm⟩ : ∃ m, Tryd.prog.types.size = m + 1 := ⟨Tryd.prog.types.size - 1, (Nat.sub_add_cancel (Nat.lt_of_le_of_lt (Nat.zero_le _) srow)).symm⟩
  unfold keyOf
  rw [Tryd.underlying63]
  simp only [skt, hf, hm, Bool.and_self, if_true]
  simp [Program.keyLits, Tryd.underlying63, scells, sufV, Value.cells, icells, tcells, Tryd.underlying3, Tryd.underlying9, hw, hs]
/-- what a rule reads as, as a key -/
def keyP (P : Program) (t : TypeId) (r : Int × List UInt8) : Lit := (keyOf P t (sufV r)).getD (.bool false)
theorem key_of (r : Int × List UInt8) (h : okR r) : keyOf Tryd.prog 63 (sufV r) = some ((keyP Tryd.prog 63) r) := by
  obtain ⟨k, hk⟩ := key_mk r h
  unfold keyP
  rw [hk]; rfl
theorem key_inj (r q : Int × List UInt8) (hr : okR r) (hq : okR q) (h : (keyP Tryd.prog 63) r = (keyP Tryd.prog 63) q) : r = q := by
  have h1 := key_of r hr
  have h2 := key_of q hq
  rw [h] at h1
  have := slaw.inj h1 h2
  obtain ⟨z, s⟩ := r
  obtain ⟨y, t⟩ := q
  simp only [sufV, Value.agg.injEq, Array.mk.injEq, List.cons.injEq, Value.int.injEq, Value.string.injEq, true_and, and_true] at this
  obtain ⟨rfl, h3⟩ := this
  have h4 := congrArg (fun b : ByteArray => b.data.toList) h3
  simp only [txt_toList] at h4
  rw [h4]
theorem key_lit (r : Int × List UInt8) (h : okR r) : WideAt.IsKeyLit ((keyP Tryd.prog 63) r) := slaw.key (key_of r h)
/-- block B is a map that holds just these rules -/
def Holds (w : World) (B : Nat) (l : Rules) : Prop :=
  (∀ r ∈ l, okR r) ∧ w.ownsMap Tryd.prog 63 (unitElem (H := Unit)) B l.length (setOf (.agg []) (l.map (keyP Tryd.prog 63)))
theorem Holds.has {w : World} {B : Nat} {l : Rules} (h : Holds w B l) (r : Int × List UInt8) (hr : okR r) : Maps.has (setOf (H := Unit) (.agg []) (l.map (keyP Tryd.prog 63))) ((keyP Tryd.prog 63) r) = l.contains r := by
  have hk : ∀ x ∈ l.map (keyP Tryd.prog 63), WideAt.IsKeyLit x := by
    intro x hx
    obtain ⟨q, hq, rfl⟩ := List.mem_map.1 hx
    exact key_lit q (h.1 q hq)
  rw [has_setOf _ _ _ hk, Bool.eq_iff_iff, List.any_eq_true, List.contains_iff_mem]
  constructor
  · rintro ⟨x, hx, hs⟩
    obtain ⟨q, hq, rfl⟩ := List.mem_map.1 hx
    have := key_inj q r (h.1 q hq) hr (WideAt.sameKey_eq hs)
    rw [← this]; exact hq
  · intro hm
    exact ⟨(keyP Tryd.prog 63) r, List.mem_map.2 ⟨r, hm, rfl⟩, WideAt.sameKey_self (key_lit r hr)⟩
theorem Holds.below {w w' : World} {A B : Nat} {l : Rules} (h : Holds w B l) (hb : Below A w w') (hA : w.heap.size ≤ A) : Holds w' B l := by
  refine ⟨h.1, ?_⟩
  have hlt := h.2.lt
  obtain ⟨es, clock, h1, h2, h3, h4⟩ := h.2
  exact ⟨es, clock, (hb.block B (by omega)).trans h1, h2, h3, h4⟩
theorem Holds.made (w : World) : Holds (w.alloc (.map #[] 0)) w.heap.size [] := ⟨fun _ h => (by cases h), World.ownsMap_made w _ _ _⟩
theorem Holds.lt {w : World} {B : Nat} {l : Rules} (h : Holds w B l) : B < w.heap.size := h.2.lt
set_option maxHeartbeats 1000000 in
theorem has_any (B : Nat) (l : Rules) (z : Int) (s : ByteArray) (w : World) (h : Holds w B l) (hr : okR (z, s.data.toList)) :
    Calls Tryd.prog 52 #[.map (some B), .int .i64 z, .string s] w fun e w' => e = .returned (.bool (l.contains (z, s.data.toList))) ∧ Below w.heap.size w w' := by
  have HB : Hid _ := h.has _ hr
  have HK : Hid _ := key_of _ hr
  have HO : Hid _ := h.2
  clear h hr
  go_enter Tryd.func52, Tryd.ntmps52
  go_wp2_with (at_lookup; refine wpList_lookup_own_unit _ rfl _ _ 72 rfl 63 86 slaw Tryd.underlying72 (zeroU _) B _ _ rfl HO.out _ _ rfl HK.out ?_)
  rw [HB.out]
  go_wp2_with fail
  go_ret
  exact ⟨rfl, (Below.refl _ _).alloc (Nat.le_refl _) _⟩
end Go.Proofs.YtgjjkieljdamfafDoor
