/- The contract of parts: a range over a function that cuts. -/
import Derived.RangeFuncBox
import Derived.RangeFuncNested
import Derived.RangeFuncLeaves
import Derived.Shelf.Abstract
import Derived.WalkKit
import Derived.OwnWalkIn
import Derived.TacticsInMore
import Derived.LoopNIn
import Derived.LoopIn
import Derived.Maps.AppendAt
import Derived.Test.YtcfdajaideidkaaWordG
namespace Go.Proofs.Ytcfdajaideidkaa
open Go.RowKit Go.Shelf
set_option linter.all false
set_option maxRecDepth 100000
attribute [local go_sem] Oper.semAt_some

theorem parts_cut (l : List UInt8) (b : UInt8) : partsL l b = if hasB l b then cutA l b :: partsL (cutB l b) b else [cutA l b] := by
  have hge := Lib.indexByte_ge l b
  by_cases hn : Lib.indexByte l b = -1
  · obtain ⟨e1, e2, e3⟩ := cut_none _ _ hn
    rw [e1, e3]
    simp only [Bool.false_eq_true, if_false]
    refine partsL_none _ _ (fun c hc => ?_)
    intro e; subst e
    unfold hasB at e3
    rw [← Bool.not_eq_true, List.contains_iff_mem] at e3
    exact e3 hc
  · obtain ⟨o, ho⟩ : ∃ o : Nat, Lib.indexByte l b = o := ⟨(Lib.indexByte l b).toNat, by omega⟩
    obtain ⟨e1, e2, e3, e4⟩ := cut_some _ _ _ ho
    obtain ⟨hg, hp⟩ := Lib.indexByte_some ho
    rw [e1, e2, e3, if_pos rfl]
    have e : l = l.take o ++ b :: l.drop (o + 1) := by
      have h1 := List.take_append_drop o l
      have h2 := List.drop_eq_getElem_cons e4
      rw [h2] at h1
      have h3 := (List.getElem?_eq_some_iff.1 hg).2
      rw [h3] at h1
      exact h1.symm
    conv => lhs; rw [e]
    rw [partsL_append, partsL_none]
    · rfl
    · intro c hc
      obtain ⟨j, hj⟩ := List.getElem?_of_mem hc
      have hj2 := (List.getElem?_eq_some_iff.1 hj).1
      rw [List.length_take] at hj2
      rw [List.getElem?_take_of_lt (by omega)] at hj
      intro e'; subst e'
      exact hp j (by omega) hj
theorem cutB_len (l : List UInt8) (b : UInt8) : (cutB l b).length ≤ l.length ∧ (hasB l b = true → (cutB l b).length < l.length) := by
  have hge := Lib.indexByte_ge l b
  by_cases hn : Lib.indexByte l b = -1
  · obtain ⟨e1, e2, e3⟩ := cut_none _ _ hn
    rw [e2, e3]; simp
  · obtain ⟨o, ho⟩ : ∃ o : Nat, Lib.indexByte l b = o := ⟨(Lib.indexByte l b).toNat, by omega⟩
    obtain ⟨e1, e2, e3, e4⟩ := cut_some _ _ _ ho
    rw [e2, List.length_drop]
    exact ⟨by omega, fun _ => by omega⟩
/-- how much is left to be cut -/
def moreOf : Value → Value → Nat
  | .bool true, r => lenOf r + 1
  | _, _ => 0
/-- block B lies as it lay -/
def Kb (B : Nat) (W W' : World) : Prop := W'.heap[B]? = W.heap[B]?
theorem Kb.cell {B : Nat} {W W' : World} (h : Kb B W W') : W'.cell? ⟨B, 0, none⟩ = W.cell? ⟨B, 0, none⟩ := World.cell?_of_block (w := W) (a := ⟨B, 0, none⟩) h
theorem Kb.of_boxed {B : Nat} {t : TypeId} {v : Value} {W W' : World} (h : Boxed W B t v) (h' : Boxed W' B t v) : Kb B W W' := h'.trans h.symm
/-- what is still to come -/
def restL (m : Bool) (r : List UInt8) (b : UInt8) : List (List UInt8) := if m then partsL r b else []

theorem parts_restL (l : List UInt8) (b : UInt8) : partsL l b = [cutA l b] ++ restL (hasB l b) (cutB l b) b := by
  rw [parts_cut]; unfold restL
  cases hasB l b
  · rfl
  · rfl
theorem moreOf_lt (r : List UInt8) (b : UInt8) : moreOf (.bool (hasB r b)) (.string (txt (cutB r b))) < moreOf (.bool true) (.string (txt r)) := by
  have h := cutB_len r b
  cases e : hasB r b
  · simp [moreOf]
  · have h2 := h.2 e
    show (cutB r b).length + 1 < r.length + 1
    omega

set_option maxRecDepth 100000 in
set_option maxHeartbeats 1000000 in
theorem between1_in (n : Nat) (hn : 1 ≤ n) (l Bs Bb : Nat) (s : ByteArray) (b : UInt8) (hs : s.size ≤ maxLen) (J Jx : List (List UInt8) → World → Prop)
    (hAJ : ∀ p W k, J p W → J p (W.drewN k))
    (hY : ∀ pre x W, J pre W → pre.length < (partsL s.data.toList b).length → YieldAt Fence.wide (n - 1) Try.prog l #[.string (txt x)] W fun e W' =>
      (e = .returned (.bool true) ∧ J (pre ++ [x]) W' ∧ Kb Bb W W') ∨ (e = .returned (.bool false) ∧ Jx (pre ++ [x]) W'))
    (W : World) (hcs : W.cell? ⟨Bs, 0, none⟩ = some (.string s)) (hcb : W.cell? ⟨Bb, 0, none⟩ = some (.int .u8 (b.toNat : Int))) (h0 : J [] W) :
    CallsIn Fence.wide n Try.prog 94 #[.func (.yield l) #[] #[], .pointer (some ⟨Bs, 0, none⟩), .pointer (some ⟨Bb, 0, none⟩)] W fun e W' => (∃ v, e = .returned v) ∧
      ((∃ ys, ys = partsL s.data.toList b ∧ J ys W') ∨ (∃ pre, True ∧ Jx pre W')) := by
  refine callsIn_of_wp Try.func94 rfl trivial ?_ rfl
  simp only [Try.ntmps94, List.size_toArray, List.length_cons, List.length_nil, Nat.reduceAdd, Nat.reduceSub, Array.replicate_succ, Array.replicate_zero, List.push_toArray, List.append_toArray, List.nil_append, List.cons_append]
  gi_wp2_with (first | (gi_at_call 95; refine (callsIn_wide.2 (cut_any _ _ _ hs)).mono ?_; rintro e w' ⟨rfl, k, rfl⟩) | (refine ⟨trivial, ?_⟩; gi_at_call 95; refine (callsIn_wide.2 (cut_any _ _ _ hs)).mono ?_; rintro e w' ⟨rfl, k, rfl⟩))
  gi_loopw [4, 5, 6] (fun pv rv mv wr => ∃ (pre : List (List UInt8)) (x r : List UInt8) (m : Bool), pv = .string (txt x) ∧ rv = .string (txt r) ∧ mv = .bool m ∧ r.length ≤ s.size ∧
      wr.cell? ⟨Bb, 0, none⟩ = some (.int .u8 (b.toNat : Int)) ∧ Hid (partsL s.data.toList b = pre ++ [x] ++ restL m r b) ∧ J pre wr)
    (fun pv rv mv wr => moreOf mv rv)
  case atStart =>
    refine ⟨[], _, _, _, rfl, rfl, rfl, ?_, hcb, ?_, hAJ _ _ _ h0⟩
    · exact (cutB_len _ _).1
    · exact (parts_restL _ _).trans (by simp)
  case round =>
    obtain ⟨pre, x, r, m, rfl, rfl, rfl, hr, hcb2, hx, hJs⟩ := hrel
    obtain ⟨fn, tmps, assign, body, hy, hR⟩ := hY pre x wr hJs (by rw [hx.out]; simp)
    gi_wp2_with fail
    refine hR.mono ?_
    rintro e W3 (⟨rfl, hJ3, hk3⟩ | ⟨rfl, hJx3⟩)
    · have hcb3 : W3.cell? ⟨Bb, 0, none⟩ = some (.int .u8 (b.toNat : Int)) := hk3.cell.trans hcb2
      clear hR hy
      cases m
      · gi_wp2_with fail
        go_end0
        refine ⟨⟨_, rfl⟩, .inl ⟨pre ++ [x], ?_, hJ3⟩⟩
        rw [hx.out]; simp [restL]
      · have hsr : (txt r).size ≤ maxLen := by show r.length ≤ maxLen; omega
        gi_wp2_with (first | (gi_at_call 95; refine (callsIn_wide.2 (cut_any _ _ _ hsr)).mono ?_; rintro e w' ⟨rfl, k, rfl⟩) | (refine ⟨trivial, ?_⟩; gi_at_call 95; refine (callsIn_wide.2 (cut_any _ _ _ hsr)).mono ?_; rintro e w' ⟨rfl, k, rfl⟩))
        go_roundw
        case rel =>
          refine ⟨pre ++ [x], _, _, _, rfl, rfl, rfl, ?_, hcb3, ?_, hAJ _ _ _ hJ3⟩
          · exact Nat.le_trans (cutB_len _ _).1 hr
          · show _ = _
            rw [hx.out]
            have e : restL true r b = partsL r b := rfl
            rw [e, parts_restL r b]
            simp only [List.append_assoc]; rfl
        case measure => exact moreOf_lt r b
    · gi_wp2_with fail
      go_end0
      exact ⟨⟨_, rfl⟩, .inr ⟨pre ++ [x], trivial, hJx3⟩⟩

theorem AbidesFrom.drewN {β : Type} {B : Nat} {J : β → World → Prop} (h : AbidesFrom B J) (s : β) (W : World) (k : Nat) (hj : J s W) : J s (W.drewN k) :=
  h s W _ none hj ⟨rfl, rfl, rfl, Nat.le_refl _, fun _ _ _ => rfl⟩ (fun r e => by cases e)
theorem between_stops (n : Nat) (hn : 1 ≤ n) (Bs Bb : Nat) (s : ByteArray) (b : UInt8) (hs : s.size ≤ maxLen) (w : World) (hBs : Bs < w.heap.size) (hBb : Bb < w.heap.size)
    (hcs : w.cell? ⟨Bs, 0, none⟩ = some (.string s)) (hcb : w.cell? ⟨Bb, 0, none⟩ = some (.int .u8 (b.toNat : Int))) :
    SeqStopsK Fence.wide n Try.prog 94 #[.pointer (some ⟨Bs, 0, none⟩), .pointer (some ⟨Bb, 0, none⟩)] (fun x : List UInt8 => #[Value.string (txt x)]) (Kb Bb)
      (fun ys => ys = partsL s.data.toList b) (fun _ => True) (partsL s.data.toList b).length w := fun l J Jx W hW hAJ _ hY h0 =>
  between1_in n hn l Bs Bb s b hs J Jx (fun p W k hj => AbidesFrom.drewN hAJ p W k hj) hY W ((hW.cell (p := ⟨Bs, 0, none⟩) hBs).trans hcs) ((hW.cell (p := ⟨Bb, 0, none⟩) hBb).trans hcb) h0
set_option maxHeartbeats 1000000 in
theorem between_in (n : Nat) (s : ByteArray) (b : UInt8) (w : World) :
    CallsIn Fence.wide n Try.prog 90 #[.string s, .int .u8 (b.toNat : Int)] w fun e w' => e = .returned (.func (.func 94) #[] #[.pointer (some ⟨w.heap.size, 0, none⟩), .pointer (some ⟨w.heap.size + 1, 0, none⟩)]) ∧
      w' = (w.alloc (.cells #[.string s] 9)).alloc (.cells #[.int .u8 (b.toNat : Int)] 5) := by
  refine callsIn_of_wp Try.func90 rfl trivial ?_ rfl
  simp only [Try.ntmps90, List.size_toArray, List.length_cons, List.length_nil, Nat.reduceAdd, Nat.reduceSub, Array.replicate_succ, Array.replicate_zero, List.push_toArray, List.append_toArray, List.nil_append, List.cons_append]
  gi_wp2
  go_ret
  exact ⟨rfl, rfl⟩

set_option maxRecDepth 100000 in
set_option maxHeartbeats 2000000 in
theorem parts_few (s : ByteArray) (b : UInt8) (w : World) (hm : s.size ≤ maxLen) (hs : (partsL s.data.toList b).length * 16 ≤ 140737488355328) :
    Calls Try.prog 84 #[.string s, .int .u8 (b.toNat : Int)] w fun e w' => ∃ v, e = .returned v ∧
      w'.ownsRow w.heap.size 9 1 v (partsL s.data.toList b).length (strs (partsL s.data.toList b)) ∧ Below w.heap.size w w' := by
  obtain ⟨i0, hi, hz0, hz1, hz2⟩ := info_parts info_str
  obtain ⟨np, hnp⟩ : ∃ np, np = (partsL s.data.toList b).length := ⟨_, rfl⟩
  rw [← hnp] at hs
  have HNP : Hid _ := hnp
  clear hnp
  refine (callsIn_wide (n := 3)).1 ?_
  refine callsIn_of_wp_marks Try.func84 rfl trivial ?_ rfl
  simp only [Try.ntmps84, List.size_toArray, List.length_cons, List.length_nil, Nat.reduceAdd, Nat.reduceSub, Array.replicate_succ, Array.replicate_zero, List.push_toArray, List.append_toArray, List.nil_append, List.cons_append]
  gi_wp2_with (first | (gi_at_call 90; refine (between_in _ _ _ _).mono ?_; rintro e w' ⟨rfl, rfl⟩) | (refine ⟨trivial, ?_⟩; gi_at_call 90; refine (between_in _ _ _ _).mono ?_; rintro e w' ⟨rfl, rfl⟩))
  have bO := Boxed.new w 106 (.slice none 0 0)
  have bS := Boxed.new (w.alloc (.cells #[.slice none 0 0] 106)) 9 (.string s)
  have bB := Boxed.new ((w.alloc (.cells #[.slice none 0 0] 106)).alloc (.cells #[.string s] 9)) 5 (.int .u8 (b.toNat : Int))
  simp only [World.size_alloc] at bS bB
  have hB0 : Below w.heap.size w (((w.alloc (.cells #[.slice none 0 0] 106)).alloc (.cells #[.string s] 9)).alloc (.cells #[.int .u8 (b.toNat : Int)] 5)) := (((Below.refl _ w).alloc (Nat.le_refl _) _).alloc (by simp) _).alloc (by simp; omega) _
  refine wpIn_rangeFunc_ownG rfl (by omega) (gf := 94) (lb := #[.pointer (some ⟨w.heap.size + 1, 0, none⟩), .pointer (some ⟨w.heap.size + 1 + 1, 0, none⟩)]) rfl trivial (enters_of Try.func94 (by kernel_rfl) rfl)
    (between_stops 2 (by omega) (w.heap.size + 1) (w.heap.size + 1 + 1) s b hm _ (by simp) (by simp) ((bS.alloc _).cell) bB.cell) (fun h h' => h'.trans h) (fun W l o o' hl _ _ _ => ?kb) (Below.refl _ _) (fun _ => rfl)
    (fun pre W => (∃ v, Boxed W w.heap.size 106 v ∧ W.ownsRow w.heap.size 9 1 v pre.length (strs pre) ∧ True) ∧ (Boxed W (w.heap.size + 1 + 1) 5 (.int .u8 (b.toNat : Int)) ∧ Below w.heap.size w W))
    (fun _ _ _ => False)
    (OwnFrom.and (Own.from (holdsRow_own w.heap.size w.heap.size 106 9 1 (fun pre => pre.length) (fun pre => strs pre) (fun _ _ => True)) _) (OwnFrom.and (Own.from (boxed_own _ _ _) _) (ownFrom_below (Nat.le_refl _) (by simp; omega))))
    (fun _ _ _ _ _ hs _ _ => hs)
    ⟨⟨_, (bO.alloc _).alloc _, World.ownsRow_nil _ _ _ _, trivial⟩, bB, hB0⟩
    (fun x => { tmps := #[.string s, .int .u8 (b.toNat : Int), undef, undef, .slice none 0 0, .pointer (some ⟨w.heap.size, 0, none⟩), .string (txt x), .string s, .int .u8 (b.toNat : Int), .func (.func 94) #[] #[.pointer (some ⟨w.heap.size + 1, 0, none⟩), .pointer (some ⟨w.heap.size + 1 + 1, 0, none⟩)], .string (txt x), undef, undef, undef, undef, undef], defers := [] }) ?assign ?body ?done ?stop
  case kb =>
    simp at hl
    show (W.heap.setIfInBounds l o')[w.heap.size + 1 + 1]? = _
    rw [Array.getElem?_setIfInBounds_ne (by omega)]
  case assign =>
    intro l x W K hK
    gi_wp2
    exact hK
  case body =>
    rintro l pre x W ⟨⟨v, hv, hrow, _⟩, hbx, hB⟩ hlt
    have hc := hv.cell
    have hlt2 : pre.length + 1 ≤ np := by have := HNP.out; omega
    clear hlt
    gi_wp2_with (gi_at_builtin; refine wpListIn_append_own _ rfl _ _ 106 rfl w.heap.size 9 i0 (.string ⟨#[]⟩) 1 16 Try.underlying106 hi hz0 hz1 hz2 rfl (by decide) _ _ _ rfl (hrow.alloc _) ⟨W.heap.size, 0, none⟩ 1 1 [.string (txt x)] rfl rfl (cell_one_new _ _ _) (by simp [Value.oneCell']) (by unfold maxLen; omega) (by omega) (by have := hB.size; simp; omega) ?_; intro v' w1 hown' hgrow _; obtain ⟨g', cap', rfl⟩ := ownsRow_succ hown'; obtain ⟨hv1, hv2, hr2, hk2, hb2⟩ := hv.appended (by decide) hrow hB.size (Nat.le_refl _) hown' hgrow; have hc1 := hv1.cell; have hf1 := hv1.frozen)
    have hbx1 : Boxed w1 (w.heap.size + 1 + 1) 5 (.int .u8 (b.toNat : Int)) := (hbx.alloc _).kept hgrow (hbx.not_row (by decide) hrow)
    have hbx2 := hbx1.kept (grownBy_setCell' w1 w.heap.size (.slice (some ⟨g', 0, none⟩) (pre.length + 1) cap')) (by simp; omega)
    exact ⟨hk2.from _, Kb.of_boxed hbx hbx2, ⟨_, hv2, by rw [strs_append, List.length_append]; exact hr2, trivial⟩, hbx2, hB.trans hb2⟩
  case done =>
    rintro D ys W hD rfl ⟨⟨v, hv, hrow, _⟩, hbx, hB⟩ hK
    have hc := hv.cell
    gi_wp2
    refine ⟨by simp, .inl ⟨_, _, rfl, run_takeDeferred hK, ?_⟩⟩
    exact ⟨_, results_tmp rfl _ _ _, v, rfl, ownsRow_putObj hrow _ hK rfl, hB.trans (belowK_b (w := w) (Nat.le_refl _) W D _ _ (by simp at hD; omega) hK rfl rfl)⟩
  case stop =>
    rintro D c pre W _ _ h _
    exact h.elim
theorem parts_any (s : ByteArray) (b : UInt8) (w : World) (hs : (s.size + 1) * 16 ≤ 140737488355328) :
    Calls Try.prog 84 #[.string s, .int .u8 (b.toNat : Int)] w fun e w' => ∃ v, e = .returned v ∧
      w'.ownsRow w.heap.size 9 1 v (partsL s.data.toList b).length (strs (partsL s.data.toList b)) ∧ Below w.heap.size w w' :=
  parts_few s b w (by unfold maxLen; omega) (by have h : (partsL s.data.toList b).length ≤ s.size + 1 := partsL_len s.data.toList b; omega)
end Go.Proofs.Ytcfdajaideidkaa
