/- Contracts of package clock: days ahead of a month, the year and the month of a day, weekdays, sums. -/
import Derived.Test.YtcfdajaideidkaaClockA
import Derived.LoopN
namespace Go.Proofs.Ytcfdajaideidkaa
open Go.RowKit
set_option linter.all false
set_option maxRecDepth 100000

def addN (n s : Int) : Int := if 253402300799 - n < s then 253402300799 else if s < -11644473600 - n then -11644473600 else n + s
set_option maxHeartbeats 400000 in
theorem add_yes (n s : Int) (h : momB n = true) (hs : -9223372036854775808 ≤ s ∧ s ≤ 9223372036854775807) (w : World) : Calls Try.prog 51 #[.int .i64 n, .int .i64 s] w fun e w' => e = .returned (.tuple #[.int .i64 (addN n s), .int .i64 0]) ∧ w' = w := by
  have hn := (momB_iff n).1 h
  have H : Hid _ := h
  have HW : Hid (addN n s = if 253402300799 - n < s then 253402300799 else if s < -11644473600 - n then -11644473600 else n + s) := rfl
  clear h
  by_cases h1 : 253402300799 - n < s
  · go_enter Try.func51, Try.ntmps51
    go_wp2_with (go_at_call 65; refine (moment_any _ _).mono ?_; rw [H.out]; rintro e w' ⟨rfl, rfl⟩)
    go_ret2
    refine ⟨?_, rfl⟩
    rw [HW.out, if_pos h1]; rfl
  · by_cases h2 : s < -11644473600 - n
    · go_enter Try.func51, Try.ntmps51
      go_wp2_with (go_at_call 65; refine (moment_any _ _).mono ?_; rw [H.out]; rintro e w' ⟨rfl, rfl⟩)
      go_ret2
      refine ⟨?_, rfl⟩
      rw [HW.out, if_neg (by omega), if_pos h2]; rfl
    · go_enter Try.func51, Try.ntmps51
      go_wp2_with (go_at_call 65; refine (moment_any _ _).mono ?_; rw [H.out]; rintro e w' ⟨rfl, rfl⟩)
      go_ret2
      refine ⟨?_, rfl⟩
      rw [HW.out, if_neg (by omega), if_neg (by omega)]; rfl
theorem add_no (n s : Int) (h : momB n = false) (w : World) : Calls Try.prog 51 #[.int .i64 n, .int .i64 s] w fun e w' => e = .returned (.tuple #[.int .i64 0, .int .i64 3]) ∧ w' = w := by
  have H : Hid _ := h
  clear h
  go_enter Try.func51, Try.ntmps51
  go_wp2_with (go_at_call 65; refine (moment_any _ _).mono ?_; rw [H.out]; rintro e w' ⟨rfl, rfl⟩)
  go_ret2
  exact ⟨rfl, rfl⟩
/-- what is left, and the year so far, when k spans are gone -/
def rk (n : Int) : Nat → Int
  | 0 => n | 1 => r0 n | 2 => r1 n | 3 => r2 n | _ => doy n
def yk (n : Int) : Nat → Int
  | 0 => 1601 | 1 => 1601 + k0 n * 400 | 2 => 1601 + k0 n * 400 + k1 n * 100 | 3 => 1601 + k0 n * 400 + k1 n * 100 + k2 n * 4 | _ => yr n
theorem rk_bd (n : Int) (h0 : 0 ≤ n) (h1 : n ≤ 3067670) : (0 ≤ r0 n ∧ r0 n < 146097) ∧ (0 ≤ r1 n ∧ r1 n ≤ 36524) ∧ (0 ≤ r2 n ∧ r2 n < 1461) ∧ (0 ≤ k0 n ∧ k0 n ≤ 20) ∧ (0 ≤ k1 n ∧ k1 n ≤ 3) ∧ (0 ≤ k2 n ∧ k2 n ≤ 24) ∧ (0 ≤ k3 n ∧ k3 n ≤ 3) := by
  have a0 : 0 ≤ k0 n ∧ k0 n ≤ 20 ∧ 0 ≤ r0 n ∧ r0 n < 146097 := by unfold r0 k0; omega
  have a1 : 0 ≤ k1 n ∧ k1 n ≤ 3 ∧ 0 ≤ r1 n ∧ r1 n ≤ 36524 := by unfold r1 k1; omega
  have a2 : 0 ≤ k2 n ∧ k2 n ≤ 24 ∧ 0 ≤ r2 n ∧ (r2 n < 1461) := by unfold r2 k2; omega
  have a3 : 0 ≤ k3 n ∧ k3 n ≤ 3 := by unfold k3; omega
  omega
end Go.Proofs.Ytcfdajaideidkaa
