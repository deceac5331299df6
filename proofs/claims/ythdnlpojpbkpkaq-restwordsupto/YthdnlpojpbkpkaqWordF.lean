/- Contracts of join, the program's and the reference's. -/
import Derived.Test.YthdnlpojpbkpkaqWordE
namespace Go.Proofs.Ythdnlpojpbkpkaq
open Go.RowKit
set_option linter.all false

theorem info_u8 : (Try.prog.info? 5).map (fun i => (i.zero, i.size, i.bytes)) = some (some (.int .u8 0), 1, 1) := by kernel_rfl
set_option maxHeartbeats 1000000 in
theorem join_any (vl : Value) (l : List (List UInt8)) (b : UInt8) (w : World) (hl : Reads w vl l.length (strs l)) (hm : l.length ≤ maxLen) (hj : (joinL l b).length ≤ 140737488355328) :
    Calls Try.prog 4 #[vl, .int .u8 (b.toNat : Int)] w fun e w' => e = .returned (.string (txt (joinL l b))) ∧ Below w.heap.size w w' := by
  unfold maxLen at hm
  obtain ⟨i0, hi, hz0, hz1, hz2⟩ := info_parts info_u8
  obtain ⟨ad, cap, rfl, hr⟩ := hl
  go_enter Try.func4, Try.ntmps4
  go_wp2
  go_loopw [5, 10] (fun o i wr => ∃ k : Nat, k ≤ l.length ∧ i = .int .i64 k ∧ wr.ownsRow w.heap.size 5 1 o (joinL (l.take k) b).length (bcells (joinL (l.take k) b)) ∧ Below w.heap.size w wr) (fun _ i _ => l.length - (intOf i).toNat)
  case atStart => exact ⟨0, Nat.zero_le _, rfl, by rw [List.take_zero, joinL_nil]; exact World.ownsRow_nil _ _ _ _, Below.refl _ _⟩
  case round =>
    obtain ⟨k, hk, rfl, hown, hb⟩ := hrel
    by_cases hlt : k < l.length
    · have e1 := List.getElem?_eq_getElem hlt
      obtain ⟨x, hx⟩ : ∃ x, x = l[k] := ⟨_, rfl⟩
      rw [← hx] at e1
      rcases hr with hr | ⟨bl, ol, rfl, hr⟩
      · have : (strs l).length = l.length := strs_length l
        rw [hr] at this; simp at this; omega
      have hc0 := hr k _ (strs_get e1)
      have hc := (hb.cell (p := ⟨bl, ol + k, none⟩) (cell_in hc0)).trans hc0
      have hin := cell_in hc0
      have HJ : Hid _ := joinL_take l b k x e1
      have hlen1 := joinL_mono l b (k + 1)
      have hlen0 := joinL_mono l b k
      rw [HJ.out] at hlen1
      obtain ⟨acc, hacc⟩ : ∃ acc, acc = joinL (l.take k) b := ⟨_, rfl⟩
      rw [← hacc] at HJ hlen1 hlen0 hown
      clear hx e1 hc0 hr
      by_cases h0 : k = 0
      · subst h0
        rw [if_pos rfl] at HJ hlen1
        rw [Nat.add_zero] at hc
        obtain rfl : acc = [] := by rw [hacc, List.take_zero, joinL_nil]
        clear hacc
        go_wp2_with (at_builtin; refine Lib.wpList_append_own_string _ rfl _ _ 28 9 rfl w.heap.size 5 i0 Try.underlying28 Try.underlying9 hi hz0 hz1 hz2 _ _ _ rfl hown _ rfl ?c1 ?c2 hb.size ?_)
        case c1 => show 0 + x.length ≤ maxLen; unfold maxLen; omega
        case c2 => show 0 + x.length ≤ _; omega
        intro v1 w1 hown1 hg1 _
        have hb1 := hb.grown hg1 hb.size (fun q e => (hown.lt q e).1)
        have hown2 : w1.ownsRow w.heap.size 5 1 v1 (joinL (l.take (0 + 1)) b).length (bcells (joinL (l.take (0 + 1)) b)) := by rw [HJ.out]; exact hown1
        clear hown hown1 hg1 hc
        go_wp2
        go_roundw
        case rel => exact ⟨1, by omega, by go_num, hown2, hb1⟩
        case measure => simp [intOf]; omega
      · clear hacc
        rw [if_neg h0] at HJ hlen1
        have hsz : acc.length + 1 + x.length ≤ 140737488355328 := by
          simp only [List.length_append, List.length_cons, List.length_nil] at hlen1
          omega
        clear hlen0 hlen1
        go_wp2_with (at_builtin; refine wpList_append_own _ rfl (.tmp 17) (.tmp 19) 28 rfl w.heap.size 5 i0 (.int .u8 0) 1 1 Try.underlying28 hi hz0 hz1 hz2 rfl (by decide) _ _ _ rfl (hown.alloc _) ⟨wr.heap.size, 0, none⟩ 1 1 [.int .u8 (b.toNat : Int)] rfl rfl (cell_one_new _ _ _) (by simp [Value.oneCell']) ?c1 ?c2 (by have := hb.size; simp; omega) ?_)
        case c1 => unfold maxLen; omega
        case c2 => omega
        intro v1 w1 hown1 hg1 _
        have hb0 : Below w.heap.size w (wr.alloc (.cells #[.int .u8 (b.toNat : Int)] 5)) := hb.alloc hb.size _
        have hb1 := hb0.grown hg1 hb0.size (fun q e => (hown.lt q e).1)
        have hown2 : w1.ownsRow w.heap.size 5 1 v1 (acc ++ [b]).length (bcells (acc ++ [b])) := by
          rw [bcells_append, List.length_append]; exact hown1
        clear hown hown1 hg1 hb0 hc
        go_wp2_with (at_builtin; refine Lib.wpList_append_own_string _ rfl (.tmp 21) (.tmp 22) 28 9 rfl w.heap.size 5 i0 Try.underlying28 Try.underlying9 hi hz0 hz1 hz2 _ _ _ rfl hown2 _ rfl ?c1 ?c2 hb1.size ?_)
        case c1 => rw [List.length_append]; show acc.length + 1 + x.length ≤ maxLen; unfold maxLen; omega
        case c2 => rw [List.length_append]; show acc.length + 1 + x.length ≤ _; omega
        intro v2 w2 hown3 hg2 _
        have hb2 := hb1.grown hg2 hb1.size (fun q e => (hown2.lt q e).1)
        have hown4 : w2.ownsRow w.heap.size 5 1 v2 (joinL (l.take (k + 1)) b).length (bcells (joinL (l.take (k + 1)) b)) := by
          rw [HJ.out, List.length_append, List.length_append, bcells_append]; exact hown3
        clear hown2 hown3 hg2
        go_wp2
        go_roundw
        case rel => exact ⟨k + 1, by omega, by go_num, hown4, hb2⟩
        case measure => simp [intOf]; omega
    · have HT : Hid (l.take k = l) := List.take_of_length_le (by omega)
      rw [HT.out] at hown
      have hcv := run_own_string (P := Try.prog) 28 9 5 Try.underlying28 Try.underlying5 Try.underlying9 _ hown
      go_wp2
      go_ret
      exact ⟨rfl, hb⟩
end Go.Proofs.Ythdnlpojpbkpkaq
