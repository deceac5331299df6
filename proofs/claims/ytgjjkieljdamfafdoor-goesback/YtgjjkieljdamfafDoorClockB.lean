/- Contracts of package clock: days ahead of a month, the year and the month of a day, weekdays, sums. -/
import Derived.Test.YtgjjkieljdamfafDoorClockA
import Derived.LoopN
namespace Go.Proofs.YtgjjkieljdamfafDoor
open Go.RowKit
set_option linter.all false
set_option maxRecDepth 100000

set_option maxHeartbeats 1000000 in
theorem ahead_any (y m : Int) (h0 : 1601 ≤ y) (h1 : y ≤ 9999) (hm1 : 1 ≤ m) (hm2 : m ≤ 12) (w : World) (T : Tabs w) : Calls Tryd.prog 80 #[.int .i64 y, .int .i64 m] w fun e w' => e = .returned (.int .i64 (dby y + cum y m)) ∧ w' = w := by
  have hb := dby_bd y h0 (by omega)
  have HD : Hid (dby y = (y - 1601) * 365 + (y - 1601) / 4 - (y - 1601) / 100 + (y - 1601) / 400) := rfl
  go_enter Tryd.func80, Tryd.ntmps80
  go_wp2
  go_loop [6, 7] (fun s i => ∃ k : Int, 1 ≤ k ∧ k ≤ m ∧ i = .int .i64 k ∧ s = .int .i64 (dby y + cum y k)) (fun _ i => (m - intOf i).toNat)
  case atStart => exact ⟨1, by omega, by omega, rfl, by rw [cum_one, HD.out]; go_num⟩
  case round =>
    obtain ⟨k, hk1, hk2, rfl, rfl⟩ := hrel
    have hc := cum_bd y k hk1 (by omega)
    have hd := dim_bd y k
    by_cases hlt : k < m
    · have HS : Hid _ := cum_succ y k hk1 (by omega)
      go_wp2_with (go_at_call 79; refine (dim_any _ _ (by omega) (by omega) (by omega) (by omega) _ T).mono ?_; rintro e w' ⟨rfl, rfl⟩)
      go_round
      case rel => exact ⟨k + 1, by omega, by omega, by go_num, by rw [HS.out]; go_num⟩
      case measure => simp [intOf]; omega
    · obtain rfl : k = m := by omega
      go_wp2_with fail
      go_ret
      exact ⟨rfl, rfl⟩
def addN (n s : Int) : Int := if 253402300799 - n < s then 253402300799 else if s < -11644473600 - n then -11644473600 else n + s
set_option maxHeartbeats 400000 in
theorem add_yes (n s : Int) (h : momB n = true) (hs : -9223372036854775808 ≤ s ∧ s ≤ 9223372036854775807) (w : World) : Calls Tryd.prog 28 #[.int .i64 n, .int .i64 s] w fun e w' => e = .returned (.tuple #[.int .i64 (addN n s), .int .i64 0]) ∧ w' = w := by
  have hn := (momB_iff n).1 h
  have H : Hid _ := h
  have HW : Hid (addN n s = if 253402300799 - n < s then 253402300799 else if s < -11644473600 - n then -11644473600 else n + s) := rfl
  clear h
  by_cases h1 : 253402300799 - n < s
  · go_enter Tryd.func28, Tryd.ntmps28
    go_wp2_with (go_at_call 50; refine (moment_any _ _).mono ?_; rw [H.out]; rintro e w' ⟨rfl, rfl⟩)
    go_ret2
    refine ⟨?_, rfl⟩
    rw [HW.out, if_pos h1]; rfl
  · by_cases h2 : s < -11644473600 - n
    · go_enter Tryd.func28, Tryd.ntmps28
      go_wp2_with (go_at_call 50; refine (moment_any _ _).mono ?_; rw [H.out]; rintro e w' ⟨rfl, rfl⟩)
      go_ret2
      refine ⟨?_, rfl⟩
      rw [HW.out, if_neg (by omega), if_pos h2]; rfl
    · go_enter Tryd.func28, Tryd.ntmps28
      go_wp2_with (go_at_call 50; refine (moment_any _ _).mono ?_; rw [H.out]; rintro e w' ⟨rfl, rfl⟩)
      go_ret2
      refine ⟨?_, rfl⟩
      rw [HW.out, if_neg (by omega), if_neg (by omega)]; rfl
theorem add_no (n s : Int) (h : momB n = false) (w : World) : Calls Tryd.prog 28 #[.int .i64 n, .int .i64 s] w fun e w' => e = .returned (.tuple #[.int .i64 0, .int .i64 3]) ∧ w' = w := by
  have H : Hid _ := h
  clear h
  go_enter Tryd.func28, Tryd.ntmps28
  go_wp2_with (go_at_call 50; refine (moment_any _ _).mono ?_; rw [H.out]; rintro e w' ⟨rfl, rfl⟩)
  go_ret2
  exact ⟨rfl, rfl⟩
/-- what is left, and the year so far, when k spans are gone -/
def rk (n : Int) : Nat → Int
  | 0 => n | 1 => r0 n | 2 => r1 n | 3 => r2 n | _ => doy n
def yk (n : Int) : Nat → Int
  | 0 => 1601 | 1 => 1601 + k0 n * 400 | 2 => 1601 + k0 n * 400 + k1 n * 100 | 3 => 1601 + k0 n * 400 + k1 n * 100 + k2 n * 4 | _ => yr n
theorem rk_bd (n : Int) (h0 : 0 ≤ n) (h1 : n ≤ 3067670) : (0 ≤ r0 n ∧ r0 n < 146097) ∧ (0 ≤ r1 n ∧ r1 n ≤ 36524) ∧ (0 ≤ r2 n ∧ r2 n < 1461) ∧ (0 ≤ k0 n ∧ k0 n ≤ 20) ∧ (0 ≤ k1 n ∧ k1 n ≤ 3) ∧ (0 ≤ k2 n ∧ k2 n ≤ 24) ∧ (0 ≤ k3 n ∧ k3 n ≤ 3) := by
  have a0 : 0 ≤ k0 n ∧ k0 n ≤ 20 ∧ 0 ≤ r0 n ∧ r0 n < 146097 := by unfold r0 k0; omega
  have a1 : 0 ≤ k1 n ∧ k1 n ≤ 3 ∧ 0 ≤ r1 n ∧ r1 n ≤ 36524 := by unfold r1 k1; omega
  have a2 : 0 ≤ k2 n ∧ k2 n ≤ 24 ∧ 0 ≤ r2 n ∧ (r2 n < 1461) := by unfold r2 k2; omega
  have a3 : 0 ≤ k3 n ∧ k3 n ≤ 3 := by unfold k3; omega
  omega
end Go.Proofs.YtgjjkieljdamfafDoor
