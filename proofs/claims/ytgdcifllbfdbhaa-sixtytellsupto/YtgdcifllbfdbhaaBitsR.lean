/- What the reference reckons bits with: powers, bits of a number, bits of a text, a number of bits. -/
import Derived.Test.YtgdcifllbfdbhaaBitsE
import Derived.Test.YtgdcifllbfdbhaaKit5
import Derived.Test.YtgdcifllbfdbhaaKit2
import Derived.Test.YtgdcifllbfdbhaaWordC
namespace Go.Proofs.Ytgdcifllbfdbhaa
open Go.RowKit Go.Lib
set_option linter.all false
set_option maxRecDepth 100000

set_option maxHeartbeats 2000000 in
theorem pow2_any (m : Nat) (w : World) (hm : m < 64) : Calls Try.prog 50 #[.int .i64 (m : Int)] w fun e w' => e = .returned (.int .u64 ((2 ^ m : Nat) : Int)) ∧ w' = w := by
  go_enter Try.func50, Try.ntmps50
  go_wp2
  go_loop [3, 4] (fun p i => ∃ k : Nat, k ≤ m ∧ i = .int .i64 k ∧ p = .int .u64 ((2 ^ k : Nat) : Int)) (fun _ i => m - (intOf i).toNat)
  case atStart => exact ⟨0, Nat.zero_le _, rfl, rfl⟩
  case round =>
    obtain ⟨k, hk, rfl, rfl⟩ := hrel
    by_cases hlt : k < m
    · obtain ⟨p, hp⟩ : ∃ p, p = 2 ^ k := ⟨_, rfl⟩
      have hpl : p < 9223372036854775808 := by
        rw [hp]
        exact Nat.lt_of_lt_of_le (Nat.pow_lt_pow_right (by decide) (show k < 63 by omega)) (by decide)
      have HP : Hid (2 ^ (k + 1) = p * 2) := by show _ = _; rw [hp, Nat.pow_succ]
      rw [← hp]
      clear hp
      go_wp2
      go_round
      case rel => exact ⟨k + 1, by omega, by go_num, by rw [HP.out]; push_cast; rfl⟩
      case measure => simp [intOf]; omega
    · obtain rfl : k = m := by omega
      go_wp2
      go_ret
      exact ⟨rfl, rfl⟩
def bitF (b : Nat) : List Value := [.int .i64 (b : Int)]
theorem infoI : ∃ i, Try.prog.info? 3 = some i ∧ i.zero = some (.int .i64 0) ∧ i.size = 1 ∧ i.bytes = 8 := by
  have h : (Try.prog.info? 3).map (fun i => (i.zero, i.size, i.bytes)) = some (some (.int .i64 0), 1, 8) := by kernel_rfl
  cases hx : Try.prog.info? 3 with
  | none => rw [hx] at h; cases h
  | some i =>
    rw [hx] at h
    injection h with h
    injection h with h1 h2
    injection h2 with h2 h3
    exact ⟨i, rfl, h1, h2, h3⟩
set_option maxHeartbeats 2000000 in
theorem bitList_any (N m : Nat) (w : World) (hN : N < 18446744073709551616) (hm : m ≤ 64) :
    Calls Try.prog 30 #[.int .u64 (N : Int), .int .i64 (m : Int)] w fun e w' => ∃ v, e = .returned v ∧ w'.ownsRow w.heap.size 3 1 v m ((bitsN N m).flatMap bitF) ∧ Below w.heap.size w w' := by
  obtain ⟨i0, hi, hz0, hz1, hz2⟩ := infoI
  go_enter Try.func30, Try.ntmps30
  go_wp2_with fail
  go_loopw [5, 6] (fun o i wr => ∃ k : Nat, k ≤ m ∧ i = .int .i64 ((m : Int) - 1 - (k : Int)) ∧ wr.ownsRow w.heap.size 3 1 o k (((bitsN N m).take k).flatMap bitF) ∧ Hid (Below w.heap.size w wr)) (fun _ i _ => (intOf i + 1).toNat)
  case atStart => exact ⟨0, Nat.zero_le _, by simp, by rw [List.take_zero]; exact World.ownsRow_nil _ _ _ _, Below.refl _ _⟩
  case round =>
    obtain ⟨k, hk, rfl, hown, hb⟩ := hrel
    by_cases hlt : k < m
    · obtain ⟨j, hj⟩ : ∃ j, j = m - 1 - k := ⟨_, rfl⟩
      have e1 : ((m : Int) - 1 - (k : Int)) = (j : Int) := by omega
      obtain ⟨p, hp⟩ : ∃ p : Nat, p = 2 ^ j := ⟨_, rfl⟩
      have hp0 : 0 < p := by rw [hp]; exact Nat.two_pow_pos j
      have hpne : ¬ p = 0 := by omega
      obtain ⟨q, hq⟩ : ∃ q, q = N / p := ⟨_, rfl⟩
      obtain ⟨b, hb'⟩ : ∃ b, b = q % 2 := ⟨_, rfl⟩
      have d1 : (N : Int).tdiv (p : Int) = (q : Int) := by rw [Int.tdiv_eq_ediv_of_nonneg (by omega), hq]; rfl
      have d2 : (N : Int) / (p : Int) = (q : Int) := by rw [hq]; rfl
      have d3 : (q : Int).tmod 2 = (b : Int) := by rw [Int.tmod_eq_emod_of_nonneg (by omega)]; omega
      have d4 : (q : Int) % 2 = (b : Int) := by omega
      have hql : q < 18446744073709551616 := by rw [hq]; exact Nat.lt_of_le_of_lt (Nat.div_le_self _ _) hN
      have d5 : IntKind.u64.wrap (q : Int) = (q : Int) := by rw [IntKind.wrap_u64]; omega
      have hbl : b < 2 := by omega
      have d6 : IntKind.i64.wrap (b : Int) = (b : Int) := IntWalk.i64_in _ (by omega)
      have HP : Hid _ := hp
      have HTK : Hid ((bitsN N m).take (k + 1) = (bitsN N m).take k ++ [b]) := by
        show _ = _
        rw [List.take_succ, bitsN_get N m k hlt, hb', hq, hp, hj]; rfl
      have hj64 : j < 64 := by omega
      have hle := hb.out.size
      have HE2 : Hid (((j : Int) - 1) = (m : Int) - 1 - ((k + 1 : Nat) : Int)) := by show _ = _; omega
      have HJK : Hid (j + k + 1 = m) := by show _ = _; omega
      rw [e1]
      clear hp hq hb' hj e1
      go_wp2_with fail
      refine (pow2_any j _ hj64).mono ?_
      rw [← HP.out]
      rintro e w1 ⟨rfl, hw1⟩
      rw [hw1]
      clear hw1 w1
      go_wp2_with (at_builtin; refine wpList_append_own _ rfl _ _ 28 rfl w.heap.size 3 i0 (.int .i64 0) 1 8 Try.underlying28 hi hz0 hz1 hz2 rfl (by decide) _ _ _ rfl (hown.alloc _) ⟨wr.heap.size, 0, none⟩ 1 1 [.int .i64 (b : Int)] rfl rfl (cell1_new _ _ _ _ rfl) (by simp [Value.oneCell']) ?c1 ?c2 ?c3 ?_)
      case c1 => unfold maxLen; omega
      case c2 => omega
      case c3 => simp; omega
      intro v3 w3 hown3 hg3 _
      have hown4 : w3.ownsRow w.heap.size 3 1 v3 (k + 1) (((bitsN N m).take (k + 1)).flatMap bitF) := by
        rw [HTK.out, List.flatMap_append]; exact hown3
      have HB3 : Hid (Below w.heap.size w w3) := by
        have h1 : Below w.heap.size w (wr.alloc (.cells #[.int .i64 (b : Int)] 3)) := hb.out.alloc hle _
        exact h1.grown hg3 h1.size (fun q e => (hown.lt q e).1)
      clear hown hown3 hg3
      go_wp2_with fail
      go_roundw
      case rel => exact ⟨k + 1, by omega, by rw [← HE2.out], hown4, HB3⟩
      case measure => have := HJK.out; simp [intOf] <;> omega
    · have hkm : k = m := by omega
      have HT : Hid ((bitsN N m).take k = bitsN N m) := List.take_of_length_le (by rw [bitsN_length]; omega)
      rw [HT.out, hkm] at hown
      have HO : Hid _ := hown
      have e1 : ((m : Int) - 1 - (k : Int)) = -1 := by omega
      rw [e1]
      clear hown
      go_wp2_with fail
      go_ret
      exact ⟨_, rfl, HO.out, hb.out⟩
end Go.Proofs.Ytgdcifllbfdbhaa
