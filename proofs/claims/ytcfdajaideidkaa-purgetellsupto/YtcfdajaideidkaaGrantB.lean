/- The contracts of the set of vendors, of what is granted, and of who is below. -/
import Derived.Test.YtcfdajaideidkaaGrantA
import Derived.Test.YtcfdajaideidkaaShelf
import Derived.Deep.RegionHeld3
namespace Go.Proofs.Ytcfdajaideidkaa
open Go.RowKit Go.Maps
set_option linter.all false
set_option maxRecDepth 100000
set_option maxRecDepth 100000

theorem lawI : Keyed Try.prog 3 := int_keyed Try.underlying3
def vset (l : List Int) : DataW Unit := setOf (.agg []) (l.map (Lit.int .i64))
theorem any_int' (x : Int) : ∀ l : List Int, l.any ((fun y : Lit => y.sameKey (.int .i64 x)) ∘ Lit.int .i64) = l.contains x
  | [] => rfl
  | a :: r => by
    rw [List.any_cons, List.contains_cons, any_int' x r]
    congr 1
    show decide (IntKind.i64 = IntKind.i64 ∧ a = x) = (x == a)
    by_cases e : a = x
    · subst e; simp
    · have e' : ¬ x = a := fun h => e h.symm
      simp [e, e']
theorem has_vset (l : List Int) (x : Int) : Maps.has (vset l) (.int .i64 x) = l.contains x := by
  unfold vset
  rw [has_setOf _ _ _ (fun y hy => by obtain ⟨_, _, rfl⟩ := List.mem_map.1 hy; trivial), List.any_map]
  exact any_int' x _
theorem vset_snoc (l : List Int) (x : Int) : vset (l ++ [x]) = (vset l).put (.int .i64 x) (.agg []) := by
  unfold vset
  rw [List.map_append, List.map_singleton, setOf_snoc]
/-- block b is the set of these numbers -/
def SetAt (W : World) (b : Nat) (l : List Int) : Prop := ∃ n, W.ownsMap Try.prog 3 unitElem b n (vset l)
theorem SetAt.below {W W' : World} {b : Nat} {l : List Int} (h : SetAt W b l) (hb : Below W.heap.size W W') : SetAt W' b l := by
  obtain ⟨n, h⟩ := h
  have hlt := h.lt
  obtain ⟨es, clock, h1, h2⟩ := h
  exact ⟨n, es, clock, (hb.block b hlt).trans h1, h2⟩
theorem wf_i64 {x : Int} (h : -9223372036854775808 ≤ x ∧ x ≤ 9223372036854775807) : (Lit.int .i64 x).wf = true := by
  have h1 : IntKind.i64.min = -9223372036854775808 := rfl
  have h2 : IntKind.i64.max = 9223372036854775807 := rfl
  simp [Lit.wf, h1, h2]
  omega
set_option maxHeartbeats 4000000 in
theorem vendorsOf_any (c : Cn) (v : Value) (w : World) (hr : Rows w v intF c.vs) (hm : c.vs.length ≤ 140737488351232) (hi : inR c.vs) :
    Calls Try.prog 49 #[.agg #[.int .i64 c.g, .bool c.b0, .bool c.b1, .bool c.b2, .bool c.b3, .bool c.b4, .bool c.b5, .bool c.b6, .bool c.b7, .bool c.b8, .bool c.b9, v]] w fun e w' => (∃ b, e = .returned (.map (some b)) ∧ SetAt w' b c.vs) ∧ Below w.heap.size w w' := by
  obtain ⟨ad, cap, rfl⟩ := hr.shape
  obtain ⟨g, b0, b1, b2, b3, b4, b5, b6, b7, b8, b9, vs⟩ := c
  simp only at hr hm hi ⊢
  have HR : Hid _ := hr
  have HI : Hid _ := hi
  have hmm := @run_makeMap Try.prog
  have HBW : Hid (Below w.heap.size w (w.alloc (.cells #[.int .i64 g, .bool b0, .bool b1, .bool b2, .bool b3, .bool b4, .bool b5, .bool b6, .bool b7, .bool b8, .bool b9, .slice ad vs.length cap] 32))) := (Below.refl _ w).alloc (Nat.le_refl _) _
  obtain ⟨W0, hW0⟩ : ∃ W0, W0 = w.alloc (.cells #[.int .i64 g, .bool b0, .bool b1, .bool b2, .bool b3, .bool b4, .bool b5, .bool b6, .bool b7, .bool b8, .bool b9, .slice ad vs.length cap] 32) := ⟨_, rfl⟩
  have HS0 : Hid (W0.heap.size = w.heap.size + 1) := by show _ = _; rw [hW0]; simp
  have HM0 : Hid ((W0.alloc (.map #[] 0)).ownsMap Try.prog 3 unitElem W0.heap.size 0 (vset [])) := World.ownsMap_made _ _ _ _
  have HB0 : Hid (Below w.heap.size w (W0.alloc (.map #[] 0))) := by rw [← hW0] at HBW; exact HBW.out.alloc HBW.out.size _
  rw [HS0.out, hW0] at HM0
  rw [hW0] at HB0
  clear hr hi hW0
  go_enter Try.func49, Try.ntmps49
  go_wp2_with fail
  go_loopw [10] (fun i wr => ∃ k : Nat, k ≤ vs.length ∧ i = .int .i64 k ∧ wr.ownsMap Try.prog 3 unitElem (w.heap.size + 1) k (vset (vs.take k)) ∧ Hid (Below w.heap.size w wr)) (fun i _ => vs.length - (intOf i).toNat)
  case atStart => exact ⟨0, Nat.zero_le _, rfl, by rw [List.take_zero]; exact HM0.out, HB0.out⟩
  case round =>
    obtain ⟨k, hk, rfl, hown, hb⟩ := hrel
    by_cases hlt : k < vs.length
    · have e1 := List.getElem?_eq_getElem hlt
      obtain ⟨x, hx⟩ : ∃ f, f = vs[k] := ⟨_, rfl⟩
      rw [← hx] at e1
      obtain ⟨bl, ol, rfl, hbl, hcell⟩ := Rows.at HR.out rfl 0 (fun _ => rfl) k x e1
      have c0 : wr.cell? ⟨bl, ol + k, none⟩ = some (.int .i64 x) := by
        have := (hb.out.cell (p := ⟨bl, ol + k * (0 + 1) + 0, none⟩) hbl).trans (hcell 0 _ rfl)
        rw [show ol + k * (0 + 1) + 0 = ol + k by omega] at this
        exact this
      have hkey : keyOf Try.prog 3 (.int .i64 x) = some (.int .i64 x) := keyOf_int_mk Try.underlying3 (wf_i64 (HI.out x (List.mem_of_getElem? e1)))
      have HTK : Hid (vset (vs.take (k + 1)) = (vset (vs.take k)).put (.int .i64 x) (.agg [])) := by show _ = _; rw [List.take_succ, e1]; exact vset_snoc _ _
      have hle := hb.out.size
      clear hx e1 hcell hbl
      go_wp2_with (first
        | (at_mapUpdate; refine wpList_mapUpdate_own _ rfl _ _ _ 80 rfl 3 87 lawI Try.underlying80 (unitElem (H := Unit)) (w.heap.size + 1) k _ rfl (by first | exact hown | exact hown.alloc _) (by unfold maxLen; omega) _ _ _ rfl rfl hkey _ [] unitElem_mk ?_; intro w1 hown1 hgrow1)
        | go_in)
      have own2 : w1.ownsMap Try.prog 3 unitElem (w.heap.size + 1) (k + 1) (vset (vs.take (k + 1))) := by rw [HTK.out]; exact hown1
      have HB1 : Hid (Below w.heap.size w w1) := by
        refine Below.grown ?_ hgrow1 ?_ (fun q e => by injection e with e; omega)
        · first | exact hb.out | exact hb.out.alloc hle _
        · first | exact hle | (simp; omega)
      clear hown hown1 hgrow1 c0
      go_wp2_with fail
      go_roundw
      case rel => exact ⟨k + 1, by omega, by go_num, own2, HB1⟩
      case measure => simp [intOf]; omega
    · have hkl : vs.take k = vs := List.take_of_length_le (by omega)
      rw [hkl] at hown
      have HO : Hid _ := hown
      clear hown hkl
      go_wp2_with fail
      go_ret
      exact ⟨⟨_, rfl, _, HO.out⟩, hb.out⟩
set_option maxHeartbeats 2000000 in
theorem has_any (b : Nat) (l : List Int) (x : Int) (w : World) (h : SetAt w b l) (hx : -9223372036854775808 ≤ x ∧ x ≤ 9223372036854775807) :
    Calls Try.prog 50 #[.map (some b), .int .i64 x] w fun e w' => e = .returned (.bool (l.contains x)) ∧ Below w.heap.size w w' := by
  obtain ⟨n, hown⟩ := h
  have hkey : keyOf Try.prog 3 (.int .i64 x) = some (.int .i64 x) := keyOf_int_mk Try.underlying3 (wf_i64 hx)
  have hz : ∀ w, (zeroValue 87).run Try.prog w = .ok (.agg #[]) w := fun w => by kernel_rfl
  obtain ⟨r, hr⟩ : ∃ r, r = l.contains x := ⟨_, rfl⟩
  have hh : Maps.has (vset l) (.int .i64 x) = r := by rw [has_vset, hr]
  rw [← hr]
  clear hx hr
  go_enter Try.func50, Try.ntmps50
  go_wp2_with (first
    | (at_lookup; refine wpList_lookup_own_unit _ rfl _ _ 80 rfl 3 87 lawI Try.underlying80 (hz _) b n _ rfl hown _ _ rfl hkey ?_)
    | go_in)
  go_ret
  exact ⟨by simp [hh], (Below.refl _ _).alloc (Nat.le_refl _) _⟩
end Go.Proofs.Ytcfdajaideidkaa
