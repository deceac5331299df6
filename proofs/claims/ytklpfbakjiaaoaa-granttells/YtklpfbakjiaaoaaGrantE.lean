/- The contracts of Meet and Join themselves; of two consents compared. -/
import Derived.Test.YtklpfbakjiaaoaaGrantD
import Derived.BigQuiet
import Derived.ChangeKeysEq
namespace Go.Proofs.Ytklpfbakjiaaoaa
open Go.RowKit Go.Maps
set_option linter.all false
set_option maxRecDepth 100000

set_option maxHeartbeats 2000000 in
theorem sameI_any (va vb : Value) (a b : List Int) (w : World) (ha : Rows w va intF a) (hb : Rows w vb intF b) (hma : a.length ≤ maxLen) (hmb : b.length ≤ maxLen) :
    Calls Try.prog 26 #[va, vb] w fun e w' => e = .returned (.bool (decide (a = b))) ∧ ∃ n, w' = w.drewN n := by
  obtain ⟨ada, capa, rfl⟩ := ha.shape
  obtain ⟨adb, capb, rfl⟩ := hb.shape
  have HA : Hid _ := ha
  have HB : Hid _ := hb
  obtain ⟨z, hz⟩ : ∃ z, z = decide (a = b) := ⟨_, rfl⟩
  rw [← hz]
  have HZ : Hid _ := hz
  unfold maxLen at hma hmb
  clear ha hb hz
  by_cases hl : a.length = b.length
  · have hne : ((a.length : Int) != (b.length : Int)) = false := by rw [hl]; simp
    go_enter Try.func26, Try.ntmps26
    go_wp2_with fail
    go_loopw [5] (fun i wr => ∃ k n : Nat, k ≤ a.length ∧ i = .int .i64 k ∧ Hid (∀ j : Nat, j < k → a[j]? = b[j]?) ∧ wr = w.drewN n) (fun i _ => a.length - (intOf i).toNat)
    case atStart => exact ⟨0, 0, Nat.zero_le _, rfl, fun _ h => absurd h (by omega), rfl⟩
    case round =>
      obtain ⟨k, n, hk, rfl, hall, rfl⟩ := hrel
      by_cases hlt : k < a.length
      · obtain ⟨x, ex⟩ : ∃ x, a[k]? = some x := ⟨_, List.getElem?_eq_getElem hlt⟩
        obtain ⟨y, ey⟩ : ∃ y, b[k]? = some y := ⟨_, List.getElem?_eq_getElem (by omega)⟩
        obtain ⟨ba, oa, hada, hba, hca⟩ := Rows.at HA.out rfl 0 (fun _ => rfl) k x ex
        obtain ⟨bb, ob, hadb, hbb, hcb⟩ := Rows.at HB.out rfl 0 (fun _ => rfl) k y ey
        subst hada hadb
        have ca0 := hca 0 _ rfl
        have cb0 := hcb 0 _ rfl
        rw [show oa + k * (0 + 1) + 0 = oa + k by omega] at ca0
        rw [show ob + k * (0 + 1) + 0 = ob + k by omega] at cb0
        have CA : ∀ m, (w.drewN m).cell? ⟨ba, oa + k, none⟩ = some (.int .i64 x) := fun m => ca0
        have CB : ∀ m, (w.drewN m).cell? ⟨bb, ob + k, none⟩ = some (.int .i64 y) := fun m => cb0
        have EX : Hid _ := ex
        have EY : Hid _ := ey
        have hlb : (k : Int) < (b.length : Int) := by omega
        clear ex ey hca hcb hba hbb ca0 cb0
        obtain ⟨W, hW⟩ : ∃ W, W = w.drewN n := ⟨_, rfl⟩
        have c1 : W.cell? ⟨ba, oa + k, none⟩ = some (.int .i64 x) := by rw [hW]; exact CA n
        have c2 : W.cell? ⟨bb, ob + k, none⟩ = some (.int .i64 y) := by rw [hW]; exact CB n
        have HW : Hid _ := hW
        rw [← hW]
        clear hW CA CB
        by_cases hxy : x = y
        · have hn : (x != y) = false := by rw [hxy]; simp
          go_wp2_with fail
          go_quiet (fail)
          go_wp2_with fail
          go_roundw
          case rel =>
            refine ⟨k + 1, _, by omega, by go_num, fun j hj => ?_, by rw [HW.out]; exact World.drewN_drewN _ _ _⟩
            by_cases e : j = k
            · subst e; rw [EX.out, EY.out, hxy]
            · exact hall.out j (by omega)
          case measure => simp [intOf]; omega
        · have hn : (x != y) = true := by rw [bne_iff_ne]; exact hxy
          have HF : Hid (z = false) := by
            show _ = _
            rw [HZ.out]
            exact decide_eq_false fun h => hxy (by have h1 := EX.out; rw [h, EY.out] at h1; injection h1 with h1; exact h1.symm)
          go_wp2_with fail
          go_quiet (fail)
          go_wp2_with fail
          go_ret
          exact ⟨by rw [HF.out]; rfl, _, by rw [HW.out]; exact World.drewN_drewN _ _ _⟩
      · have HTT : Hid (z = true) := by
          show _ = _
          rw [HZ.out]
          refine decide_eq_true (List.ext_getElem? fun j => ?_)
          rcases Nat.lt_or_ge j k with h | h
          · exact hall.out j h
          · rw [List.getElem?_eq_none (by omega), List.getElem?_eq_none (by omega)]
        go_wp2_with fail
        go_ret
        exact ⟨by rw [HTT.out]; rfl, n, rfl⟩
  · have hne : ((a.length : Int) != (b.length : Int)) = true := by rw [bne_iff_ne]; omega
    have HF : Hid (z = false) := by
      show _ = _
      rw [HZ.out]; exact decide_eq_false fun h => hl (by rw [h])
    go_enter Try.func26, Try.ntmps26
    go_wp2_with fail
    go_ret
    exact ⟨by rw [HF.out]; rfl, 0, rfl⟩

def sameC (a b : Cn) : Bool := decide (a.g = b.g) && (decide (a.ps = b.ps) && decide (a.vs = b.vs))
theorem sameC_iff (a b : Cn) : sameC a b = true ↔ a = b := by
  unfold sameC
  rw [Bool.and_eq_true, Bool.and_eq_true, decide_eq_true_eq, decide_eq_true_eq, decide_eq_true_eq]
  constructor
  · rintro ⟨h1, h2, h3⟩
    obtain ⟨g, x0, x1, x2, x3, x4, x5, x6, x7, x8, x9, vs⟩ := a
    obtain ⟨g', y0, y1, y2, y3, y4, y5, y6, y7, y8, y9, vs'⟩ := b
    simp only at h1 h3
    unfold Cn.ps at h2
    simp only [List.cons.injEq, and_true] at h2
    obtain ⟨rfl, rfl, rfl, rfl, rfl, rfl, rfl, rfl, rfl, rfl⟩ := h2
    rw [h1, h3]
  · rintro rfl; exact ⟨rfl, rfl, rfl⟩
theorem item_step (xs ys : Array Value) (j : Nat) (is : List Nat) (x y : Bool) (hx : xs[j]? = some (.bool x)) (hy : ys[j]? = some (.bool y)) (w : World) :
    (Op.eqItems 9999 4 1 xs ys (j :: is)).run Try.prog w = if x = y then (Op.eqItems 9999 4 1 xs ys is).run Try.prog w else .ok false w := by
  have hp : Try.prog.plainKey 4 = true := by kernel_rfl
  have p1 : (part 4 xs (j * 1)).run Try.prog w = .ok (.bool x) w := run_part_plain w hp (by rw [Nat.mul_one]; exact hx)
  have p2 : (part 4 ys (j * 1)).run Try.prog w = .ok (.bool y) w := run_part_plain w hp (by rw [Nat.mul_one]; exact hy)
  have p3 : (Op.equalIn 9999 4 (.bool x) (.bool y)).run Try.prog w = .ok (x == y) w := by cases x <;> cases y <;> kernel_rfl
  simp only [Op.eqItems, Sem.run_bind, p1, p2, p3, Result.andThen_ok]
  cases x <;> cases y <;> simp
set_option maxHeartbeats 1000000 in
theorem eq10 (a b : Cn) (w : World) : (Op.equalIn 10000 22 (.agg #[.bool a.b0, .bool a.b1, .bool a.b2, .bool a.b3, .bool a.b4, .bool a.b5, .bool a.b6, .bool a.b7, .bool a.b8, .bool a.b9]) (.agg #[.bool b.b0, .bool b.b1, .bool b.b2, .bool b.b3, .bool b.b4, .bool b.b5, .bool b.b6, .bool b.b7, .bool b.b8, .bool b.b9])).run Try.prog w = .ok (decide (a.ps = b.ps)) w := by
  obtain ⟨g, x0, x1, x2, x3, x4, x5, x6, x7, x8, x9, vs⟩ := a
  obtain ⟨g', y0, y1, y2, y3, y4, y5, y6, y7, y8, y9, vs'⟩ := b
  have hu : Try.prog.underlying 22 = some (.array 10 4) := Try.underlying22
  obtain ⟨i, hi⟩ : ∃ i, Try.prog.info? 4 = some i := by
    have h : (Try.prog.info? 4).isSome = true := by kernel_rfl
    exact Option.isSome_iff_exists.1 h
  have hc : Try.prog.cellsOf 4 = 1 := by kernel_rfl
  have hb := Try.underlying4
  have ez : (Try.prog.info? 4).map (fun i => i.size) = some 1 := by kernel_rfl
  rw [show (10000 : Nat) = 9999 + 1 from rfl, run_equalIn_array w 9999 _ _ hu hi, hc, show List.range 10 = [0, 1, 2, 3, 4, 5, 6, 7, 8, 9] from rfl]
  simp only [Cn.ps]
  rw [item_step _ _ 0 _ x0 y0 rfl rfl w]
  by_cases h0 : x0 = y0
  case neg => rw [if_neg h0]; congr 1; symm; exact decide_eq_false (fun h => h0 (by have h' := congrArg (fun l : List Bool => l[0]?) h; simpa using h'))
  rw [if_pos h0]
  rw [item_step _ _ 1 _ x1 y1 rfl rfl w]
  by_cases h1 : x1 = y1
  case neg => rw [if_neg h1]; congr 1; symm; exact decide_eq_false (fun h => h1 (by have h' := congrArg (fun l : List Bool => l[1]?) h; simpa using h'))
  rw [if_pos h1]
  rw [item_step _ _ 2 _ x2 y2 rfl rfl w]
  by_cases h2 : x2 = y2
  case neg => rw [if_neg h2]; congr 1; symm; exact decide_eq_false (fun h => h2 (by have h' := congrArg (fun l : List Bool => l[2]?) h; simpa using h'))
  rw [if_pos h2]
  rw [item_step _ _ 3 _ x3 y3 rfl rfl w]
  by_cases h3 : x3 = y3
  case neg => rw [if_neg h3]; congr 1; symm; exact decide_eq_false (fun h => h3 (by have h' := congrArg (fun l : List Bool => l[3]?) h; simpa using h'))
  rw [if_pos h3]
  rw [item_step _ _ 4 _ x4 y4 rfl rfl w]
  by_cases h4 : x4 = y4
  case neg => rw [if_neg h4]; congr 1; symm; exact decide_eq_false (fun h => h4 (by have h' := congrArg (fun l : List Bool => l[4]?) h; simpa using h'))
  rw [if_pos h4]
  rw [item_step _ _ 5 _ x5 y5 rfl rfl w]
  by_cases h5 : x5 = y5
  case neg => rw [if_neg h5]; congr 1; symm; exact decide_eq_false (fun h => h5 (by have h' := congrArg (fun l : List Bool => l[5]?) h; simpa using h'))
  rw [if_pos h5]
  rw [item_step _ _ 6 _ x6 y6 rfl rfl w]
  by_cases h6 : x6 = y6
  case neg => rw [if_neg h6]; congr 1; symm; exact decide_eq_false (fun h => h6 (by have h' := congrArg (fun l : List Bool => l[6]?) h; simpa using h'))
  rw [if_pos h6]
  rw [item_step _ _ 7 _ x7 y7 rfl rfl w]
  by_cases h7 : x7 = y7
  case neg => rw [if_neg h7]; congr 1; symm; exact decide_eq_false (fun h => h7 (by have h' := congrArg (fun l : List Bool => l[7]?) h; simpa using h'))
  rw [if_pos h7]
  rw [item_step _ _ 8 _ x8 y8 rfl rfl w]
  by_cases h8 : x8 = y8
  case neg => rw [if_neg h8]; congr 1; symm; exact decide_eq_false (fun h => h8 (by have h' := congrArg (fun l : List Bool => l[8]?) h; simpa using h'))
  rw [if_pos h8]
  rw [item_step _ _ 9 _ x9 y9 rfl rfl w]
  by_cases h9 : x9 = y9
  case neg => rw [if_neg h9]; congr 1; symm; exact decide_eq_false (fun h => h9 (by have h' := congrArg (fun l : List Bool => l[9]?) h; simpa using h'))
  rw [if_pos h9]
  subst h0 h1 h2 h3 h4 h5 h6 h7 h8 h9
  show Result.ok true w = _
  congr 1
  symm
  exact decide_eq_true rfl
set_option maxHeartbeats 4000000 in
theorem sameC_any (a b : Cn) (va vb : Value) (w : World) (ha : Rows w va intF a.vs) (hb : Rows w vb intF b.vs) (hma : a.vs.length ≤ maxLen) (hmb : b.vs.length ≤ maxLen) :
    Calls Try.prog 18 #[.agg #[.int .i64 a.g, .bool a.b0, .bool a.b1, .bool a.b2, .bool a.b3, .bool a.b4, .bool a.b5, .bool a.b6, .bool a.b7, .bool a.b8, .bool a.b9, va], .agg #[.int .i64 b.g, .bool b.b0, .bool b.b1, .bool b.b2, .bool b.b3, .bool b.b4, .bool b.b5, .bool b.b6, .bool b.b7, .bool b.b8, .bool b.b9, vb]] w fun e w' => e = .returned (.bool (sameC a b)) ∧ Below w.heap.size w w' := by
  obtain ⟨x, hx⟩ : ∃ x, x = decide (a.ps = b.ps) := ⟨_, rfl⟩
  obtain ⟨y, hy⟩ : ∃ y, y = decide (a.vs = b.vs) := ⟨_, rfl⟩
  have KI : Hid (∀ w', Below w.heap.size w w' → Calls Try.prog 26 #[va, vb] w' fun e w'' => e = .returned (.bool y) ∧ ∃ n, w'' = w'.drewN n) := fun w' h => by
    rw [hy]; exact sameI_any va vb a.vs b.vs w' (Rows.below ha h (Nat.le_refl _)) (Rows.below hb h (Nat.le_refl _)) hma hmb
  have e10 := eq10 a b
  rw [← hx] at e10
  obtain ⟨z, hz⟩ : ∃ z, z = sameC a b := ⟨_, rfl⟩
  have HZ : Hid (z = (decide (a.g = b.g) && (x && y))) := by show _ = _; rw [hz, hx, hy]; rfl
  rw [← hz]
  have HB0 : Hid (∀ o o', Below w.heap.size w ((w.alloc o).alloc o')) := fun o o' => ((Below.refl _ w).alloc (Nat.le_refl _) o).alloc (by simp) o'
  clear hx hy hz ha hb hma hmb
  go_enter Try.func18, Try.ntmps18
  by_cases hg : a.g = b.g
  · have h1 : (a.g == b.g) = true := by rw [hg]; simp
    cases x
    · have HZ2 : Hid (z = false) := by show _ = _; rw [HZ.out]; simp
      go_wp2_with fail
      go_ret
      exact ⟨by rw [HZ2.out]; rfl, HB0.out _ _⟩
    · have HZ2 : Hid (z = y) := by show _ = _; rw [HZ.out, decide_eq_true hg]; simp
      go_wp2_with fail
      refine (KI.out _ (HB0.out _ _)).mono ?_
      rintro e w1 ⟨rfl, n, rfl⟩
      go_wp2_with fail
      go_ret
      exact ⟨by rw [HZ2.out]; rfl, (HB0.out _ _).trans (below_drewN' _ _ n)⟩
  · have h1 : (a.g == b.g) = false := by rw [beq_eq_false_iff_ne]; exact hg
    have HZ2 : Hid (z = false) := by show _ = _; rw [HZ.out, decide_eq_false hg]; rfl
    go_wp2_with fail
    go_ret
    exact ⟨by rw [HZ2.out]; rfl, HB0.out _ _⟩
end Go.Proofs.Ytklpfbakjiaaoaa
