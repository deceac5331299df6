/- Are two lists of numbers one? And what the statements on bits ask first. -/
import Derived.Test.YtdcoiibakocbjaaBitsD
import Derived.Test.YtdcoiibakocbjaaBitsO
namespace Go.Proofs.Ytdcoiibakocbjaa
open Go.RowKit Go.Lib
set_option linter.all false
set_option maxRecDepth 100000

theorem nat_ne_i {a b : Nat} (h : a ≠ b) : ((a : Int) != (b : Int)) = true := by rw [bne_iff_ne]; omega
set_option maxHeartbeats 2000000 in
theorem sameN_any (va vb : Value) (a b : List Nat) (w : World) (ha : Rows w va natF a) (hb : Rows w vb natF b) (hma : a.length ≤ maxLen) (hmb : b.length ≤ maxLen) :
    Calls Try.prog 14 #[va, vb] w fun e w' => e = .returned (.bool (decide (a = b))) ∧ ∃ n, w' = w.drewN n := by
  obtain ⟨ada, capa, rfl⟩ := ha.shape
  obtain ⟨adb, capb, rfl⟩ := hb.shape
  have HRA : Hid _ := ha
  have HRB : Hid _ := hb
  unfold maxLen at hma hmb
  obtain ⟨q, hq⟩ : ∃ q, q = decide (a = b) := ⟨_, rfl⟩
  rw [← hq]
  have HQ : Hid _ := hq
  clear ha hb hq
  by_cases hl : a.length = b.length
  · have HL : Hid _ := hl
    have z2 : ((a.length : Int) != (b.length : Int)) = false := by rw [hl]; simp
    have z2' : ((a.length : Int) == (b.length : Int)) = true := by rw [hl]; simp
    clear hl
    go_enter Try.func14, Try.ntmps14
    go_wp2_with fail
    go_loopw [5] (fun i wr => ∃ k n : Nat, k ≤ a.length ∧ i = .int .i64 k ∧ wr = w.drewN n ∧ Hid (∀ (j : Nat) x y, a[j]? = some x → b[j]? = some y → j < k → x = y)) (fun i _ => a.length - (intOf i).toNat)
    case atStart => exact ⟨0, 0, Nat.zero_le _, rfl, rfl, fun _ _ _ _ _ h => absurd h (by omega)⟩
    case round =>
      obtain ⟨k, n, hk, rfl, rfl, hall⟩ := hrel
      by_cases hlt : k < a.length
      · have hltb : k < b.length := by have := HL.out; omega
        obtain ⟨x, hx⟩ : ∃ x, a[k]? = some x := ⟨_, List.getElem?_eq_getElem hlt⟩
        obtain ⟨y, hy⟩ : ∃ y, b[k]? = some y := ⟨_, List.getElem?_eq_getElem hltb⟩
        obtain ⟨ba, oa, rfl, hbla, hcla⟩ := Rows.at HRA.out rfl 0 (fun _ => rfl) k _ hx
        obtain ⟨bb, ob, rfl, hblb, hclb⟩ := Rows.at HRB.out rfl 0 (fun _ => rfl) k _ hy
        have p0 : w.cell? ⟨ba, oa + k, none⟩ = some (.int .u64 (x : Int)) := by
          have := hcla 0 _ rfl
          rw [show oa + k * (0 + 1) + 0 = oa + k by omega] at this; exact this
        have q0 : w.cell? ⟨bb, ob + k, none⟩ = some (.int .u64 (y : Int)) := by
          have := hclb 0 _ rfl
          rw [show ob + k * (0 + 1) + 0 = ob + k by omega] at this; exact this
        have HX : Hid _ := hx
        have HY : Hid _ := hy
        clear hx hy hcla hclb
        by_cases hxy : x = y
        · subst hxy
          go_wp2_with fail
          go_quiet (fail)
          go_wp2_with fail
          go_roundw
          case rel =>
            refine ⟨k + 1, _, by omega, by go_num, by first | rfl | exact World.drewN_drewN _ _ _, fun j x' y' hj hj2 hlt2 => ?_⟩
            by_cases e : j = k
            · subst e
              rw [HX.out] at hj
              rw [HY.out] at hj2
              injection hj with hj
              injection hj2 with hj2
              rw [← hj, ← hj2]
            · exact hall.out j x' y' hj hj2 (by omega)
          case measure => simp [intOf]; omega
        · have HT : Hid (q = false) := by
            show _ = _
            rw [HQ.out]
            refine decide_eq_false (fun e => hxy ?_)
            have h2 := HX.out
            rw [e, HY.out] at h2
            injection h2 with h2
            exact h2.symm
          have hne := nat_ne_i hxy
          have hne2 : ¬ (x : Int) = (y : Int) := by omega
          clear hxy
          go_wp2_with fail
          go_quiet (fail)
          go_wp2_with fail
          go_ret
          exact ⟨by rw [HT.out]; rfl, _, World.drewN_drewN _ _ _⟩
      · have HT : Hid (q = true) := by
          show _ = _
          rw [HQ.out]
          apply decide_eq_true
          apply List.ext_getElem?
          intro j
          have hll := HL.out
          rcases Nat.lt_or_ge j a.length with hj | hj
          · have e1 := List.getElem?_eq_getElem hj
            have e2 := List.getElem?_eq_getElem (l := b) (i := j) (by omega)
            rw [e1, e2, hall.out j _ _ e1 e2 (by omega)]
          · rw [List.getElem?_eq_none hj, List.getElem?_eq_none (by omega)]
        go_wp2_with fail
        go_ret
        exact ⟨by rw [HT.out]; rfl, n, rfl⟩
  · have z2 : ((a.length : Int) != (b.length : Int)) = true := by rw [bne_iff_ne]; omega
    have z2' : ((a.length : Int) == (b.length : Int)) = false := by rw [beq_eq_false_iff_ne]; omega
    have HT : Hid (q = false) := by show _ = _; rw [HQ.out]; exact decide_eq_false (fun e => hl (by rw [e]))
    clear hl
    go_enter Try.func14, Try.ntmps14
    go_wp2_with fail
    go_ret
    exact ⟨by rw [HT.out]; rfl, 0, rfl⟩
def bF1 : List Fd := [⟨5, 3⟩, ⟨1, 6⟩]
def bF2 : List Fd := [⟨8, 3⟩]
theorem bv1 : wbE bF1 = 0 ∧ wbT bF1 = [160, 128] := by decide +kernel
theorem bv2 : wbE bF2 = 4 ∧ wbT bF2 = [] := by decide +kernel
theorem bv3 : rE [160, 128] [3, 6] = 0 ∧ rL [160, 128] [3, 6] = [5, 1] ∧ rK [160, 128] [3, 6] = 7 := by decide +kernel
theorem bb_write1 (vl : Value) (w : World) (hr : Rows w vl fdC bF1) : Calls Try.prog 9 #[vl] w fun e w' => e = .returned (.tuple #[.string ⟨#[160, 128]⟩, .int .i64 0]) ∧ Below w.heap.size w w' :=
  (bwrite_any vl bF1 w hr (by decide)).mono fun e w' ⟨h1, h2⟩ => ⟨by rw [bv1.1, bv1.2] at h1; exact h1, h2⟩
theorem bb_write2 (vl : Value) (w : World) (hr : Rows w vl fdC bF2) : Calls Try.prog 9 #[vl] w fun e w' => e = .returned (.tuple #[.string ⟨#[]⟩, .int .i64 4]) ∧ Below w.heap.size w w' :=
  (bwrite_any vl bF2 w hr (by decide)).mono fun e w' ⟨h1, h2⟩ => ⟨by rw [bv2.1, bv2.2] at h1; exact h1, h2⟩
theorem bb_read (vl : Value) (w : World) (hr : Rows w vl intF [3, 6]) : Calls Try.prog 10 #[.string ⟨#[160, 128]⟩, vl] w fun e w' => ∃ v, e = .returned (.tuple #[v, .int .i64 7, .int .i64 0]) ∧ Rows w' v natF [5, 1] ∧ Below w.heap.size w w' :=
  (bread_any [160, 128] vl [3, 6] w hr (by decide) (by decide)).mono fun e w' ⟨v, h1, h2, h3⟩ => ⟨v, by rw [bv3.1, bv3.2.2] at h1; exact h1, by rw [bv3.2.1] at h2; exact h2, h3⟩
theorem bb_same (va vb : Value) (w : World) (ha : Rows w va natF [5, 1]) (hb : Rows w vb natF [5, 1]) : Calls Try.prog 14 #[va, vb] w fun e w' => e = .returned (.bool true) ∧ ∃ n, w' = w.drewN n :=
  (sameN_any va vb _ _ w ha hb (by decide) (by decide)).mono fun e w' ⟨h1, h2⟩ => ⟨by rw [decide_eq_true rfl] at h1; exact h1, h2⟩
set_option maxHeartbeats 2000000 in
theorem bitsBegun_any (w : World) : Calls Try.prog 13 #[] w fun e w' => e = .returned (.bool true) ∧ Below w.heap.size w w' := by
  go_enter Try.func13, Try.ntmps13
  go_wp2_with fail
  refine (bb_write1 _ _ (Rows.lit w bF1 _ _ _ _ _ rfl rfl rfl)).mono ?_
  rintro e w1 ⟨rfl, hb1⟩
  have B1 : Hid (Below w.heap.size w w1) := ((Below.refl _ _).alloc (Nat.le_refl _) _).trans (hb1.mono (by simp))
  clear hb1
  go_wp2_with fail
  refine (bb_read _ _ (Rows.lit w1 ([3, 6] : List Int) _ _ _ _ _ rfl rfl rfl)).mono ?_
  rintro e w2 ⟨v2, rfl, hr2, hb2⟩
  have B2 : Hid (Below w.heap.size w w2) := (B1.out.alloc B1.out.size _).trans (hb2.mono (Nat.le_trans B1.out.size (by simp)))
  have R2 : Hid _ := hr2
  clear hb2 hr2
  go_wp2_with fail
  refine (bb_write2 _ _ (Rows.lit w2 bF2 _ _ _ _ _ rfl rfl rfl)).mono ?_
  rintro e w3 ⟨rfl, hb3⟩
  have B3 : Hid (Below w.heap.size w w3) := (B2.out.alloc B2.out.size _).trans (hb3.mono (Nat.le_trans B2.out.size (by simp)))
  have R3 : Hid (Rows w3 v2 natF [5, 1]) := Rows.below (Rows.below R2.out ((Below.refl _ w2).alloc (Nat.le_refl _) _) (Nat.le_refl _)) hb3 (Nat.le_refl _)
  clear hb3
  go_wp2_with fail
  refine (bb_same _ _ _ (Rows.below R3.out ((Below.refl _ w3).alloc (Nat.le_refl _) _) (Nat.le_refl _)) (Rows.lit w3 ([5, 1] : List Nat) _ _ _ _ _ rfl rfl rfl)).mono ?_
  rintro e w4 ⟨rfl, n, hw4⟩
  have B4 : Hid (Below w.heap.size w w4) := by rw [hw4]; exact (B3.out.alloc B3.out.size _).trans (below_drewN' _ _ _)
  clear hw4
  go_wp2_with fail
  go_ret
  exact ⟨rfl, B4.out⟩
end Go.Proofs.Ytdcoiibakocbjaa
