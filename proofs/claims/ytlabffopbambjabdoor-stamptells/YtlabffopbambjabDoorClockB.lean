/- Contracts of package clock: days ahead of a month, the year and the month of a day, weekdays, sums. -/
import Derived.Test.YtlabffopbambjabDoorClockA
import Derived.LoopN
namespace Go.Proofs.YtlabffopbambjabDoor
open Go.RowKit
set_option linter.all false

set_option maxHeartbeats 1000000 in
theorem ahead_any (y m : Int) (h0 : 1601 ≤ y) (h1 : y ≤ 9999) (hm1 : 1 ≤ m) (hm2 : m ≤ 12) (w : World) (T : Tabs w) : Calls Tryd.prog 21 #[.int .i64 y, .int .i64 m] w fun e w' => e = .returned (.int .i64 (dby y + cum y m)) ∧ w' = w := by
  have hb := dby_bd y h0 (by omega)
  have HD : Hid (dby y = (y - 1601) * 365 + (y - 1601) / 4 - (y - 1601) / 100 + (y - 1601) / 400) := rfl
  go_enter Tryd.func21, Tryd.ntmps21
  go_wp2
  go_loop [6, 7] (fun s i => ∃ k : Int, 1 ≤ k ∧ k ≤ m ∧ i = .int .i64 k ∧ s = .int .i64 (dby y + cum y k)) (fun _ i => (m - intOf i).toNat)
  case atStart => exact ⟨1, by omega, by omega, rfl, by rw [cum_one, HD.out]; go_num⟩
  case round =>
    obtain ⟨k, hk1, hk2, rfl, rfl⟩ := hrel
    have hc := cum_bd y k hk1 (by omega)
    have hd := dim_bd y k
    by_cases hlt : k < m
    · have HS : Hid _ := cum_succ y k hk1 (by omega)
      go_wp2_with (go_at_call 20; refine (dim_any _ _ (by omega) (by omega) (by omega) (by omega) _ T).mono ?_; rintro e w' ⟨rfl, rfl⟩)
      go_round
      case rel => exact ⟨k + 1, by omega, by omega, by go_num, by rw [HS.out]; go_num⟩
      case measure => simp [intOf]; omega
    · obtain rfl : k = m := by omega
      go_wp2_with fail
      go_ret
      exact ⟨rfl, rfl⟩
set_option maxHeartbeats 1000000 in
theorem month_any (y d : Int) (h0 : 1601 ≤ y) (h1 : y ≤ 9999) (hd0 : 0 ≤ d) (hd1 : d < 365 + lp y) (w : World) (T : Tabs w) : Calls Tryd.prog 24 #[.int .i64 y, .int .i64 d] w fun e w' =>
    e = .returned (.tuple #[.int .i64 (mon y d), .int .i64 (d - cum y (mon y d))]) ∧ w' = w := by
  have hl := lp_01 y
  have hdd : d ≤ 365 := by omega
  go_enter Tryd.func24, Tryd.ntmps24
  go_wp2
  go_loop [1, 6] (fun r i => ∃ k : Int, 1 ≤ k ∧ k ≤ 12 ∧ i = .int .i64 k ∧ cum y k ≤ d ∧ r = .int .i64 (d - cum y k)) (fun _ i => (13 - intOf i).toNat)
  case atStart => exact ⟨1, by omega, by omega, rfl, by rw [cum_one]; omega, by rw [cum_one]; go_num⟩
  case round =>
    obtain ⟨k, hk1, hk2, rfl, hle, rfl⟩ := hrel
    have hc := cum_bd y k hk1 (by omega)
    have hd := dim_bd y k
    have hs := cum_succ y k hk1 hk2
    by_cases hge : dim y k ≤ d - cum y k
    · have hk3 : k < 12 := by
        rcases Int.lt_or_le k 12 with h | h
        · exact h
        · obtain rfl : k = 12 := by omega
          have := cum_13 y
          rw [show (12 : Int) + 1 = 13 from rfl] at hs
          omega
      have HS : Hid _ := hs
      clear hs
      go_wp2_with (go_at_call 20; refine (dim_any _ _ (by omega) (by omega) (by omega) (by omega) _ T).mono ?_; rintro e w' ⟨rfl, rfl⟩)
      go_round
      case rel => exact ⟨k + 1, by omega, by omega, by go_num, by rw [HS.out]; omega, by rw [HS.out]; go_num⟩
      case measure => simp [intOf]; omega
    · have HM : Hid (mon y d = k) := mon_eq y d k hk1 hk2 hle (by omega)
      clear hs
      go_wp2_with (go_at_call 20; refine (dim_any _ _ (by omega) (by omega) (by omega) (by omega) _ T).mono ?_; rintro e w' ⟨rfl, rfl⟩)
      go_ret2
      refine ⟨?_, rfl⟩
      rw [HM.out]; rfl
def wdN (n : Int) : Int := (dayN n + 1) % 7
set_option maxHeartbeats 400000 in
theorem weekday_yes (n : Int) (h : momB n = true) (w : World) : Calls Tryd.prog 12 #[.int .i64 n] w fun e w' => e = .returned (.tuple #[.int .i64 (wdN n), .int .i64 0]) ∧ w' = w := by
  have hn := (momB_iff n).1 h
  have H : Hid _ := h
  have HW : Hid (wdN n = ((n + 11644473600) / 86400 + 1) % 7) := rfl
  clear h
  go_enter Tryd.func12, Tryd.ntmps12
  go_wp2_with (go_at_call 22; refine (moment_any _ _).mono ?_; rw [H.out]; rintro e w' ⟨rfl, rfl⟩)
  go_ret2
  refine ⟨?_, rfl⟩
  rw [HW.out]; rfl
theorem weekday_no (n : Int) (h : momB n = false) (w : World) : Calls Tryd.prog 12 #[.int .i64 n] w fun e w' => e = .returned (.tuple #[.int .i64 0, .int .i64 3]) ∧ w' = w := by
  have H : Hid _ := h
  clear h
  go_enter Tryd.func12, Tryd.ntmps12
  go_wp2_with (go_at_call 22; refine (moment_any _ _).mono ?_; rw [H.out]; rintro e w' ⟨rfl, rfl⟩)
  go_ret2
  exact ⟨rfl, rfl⟩
def addN (n s : Int) : Int := if 253402300799 - n < s then 253402300799 else if s < -11644473600 - n then -11644473600 else n + s
set_option maxHeartbeats 400000 in
theorem add_yes (n s : Int) (h : momB n = true) (hs : -9223372036854775808 ≤ s ∧ s ≤ 9223372036854775807) (w : World) : Calls Tryd.prog 13 #[.int .i64 n, .int .i64 s] w fun e w' => e = .returned (.tuple #[.int .i64 (addN n s), .int .i64 0]) ∧ w' = w := by
  have hn := (momB_iff n).1 h
  have H : Hid _ := h
  have HW : Hid (addN n s = if 253402300799 - n < s then 253402300799 else if s < -11644473600 - n then -11644473600 else n + s) := rfl
  clear h
  by_cases h1 : 253402300799 - n < s
  · go_enter Tryd.func13, Tryd.ntmps13
    go_wp2_with (go_at_call 22; refine (moment_any _ _).mono ?_; rw [H.out]; rintro e w' ⟨rfl, rfl⟩)
    go_ret2
    refine ⟨?_, rfl⟩
    rw [HW.out, if_pos h1]; rfl
  · by_cases h2 : s < -11644473600 - n
    · go_enter Tryd.func13, Tryd.ntmps13
      go_wp2_with (go_at_call 22; refine (moment_any _ _).mono ?_; rw [H.out]; rintro e w' ⟨rfl, rfl⟩)
      go_ret2
      refine ⟨?_, rfl⟩
      rw [HW.out, if_neg (by omega), if_pos h2]; rfl
    · go_enter Tryd.func13, Tryd.ntmps13
      go_wp2_with (go_at_call 22; refine (moment_any _ _).mono ?_; rw [H.out]; rintro e w' ⟨rfl, rfl⟩)
      go_ret2
      refine ⟨?_, rfl⟩
      rw [HW.out, if_neg (by omega), if_neg (by omega)]; rfl
theorem add_no (n s : Int) (h : momB n = false) (w : World) : Calls Tryd.prog 13 #[.int .i64 n, .int .i64 s] w fun e w' => e = .returned (.tuple #[.int .i64 0, .int .i64 3]) ∧ w' = w := by
  have H : Hid _ := h
  clear h
  go_enter Tryd.func13, Tryd.ntmps13
  go_wp2_with (go_at_call 22; refine (moment_any _ _).mono ?_; rw [H.out]; rintro e w' ⟨rfl, rfl⟩)
  go_ret2
  exact ⟨rfl, rfl⟩
/-- what is left, and the year so far, when k spans are gone -/
def rk (n : Int) : Nat → Int
  | 0 => n | 1 => r0 n | 2 => r1 n | 3 => r2 n | _ => doy n
def yk (n : Int) : Nat → Int
  | 0 => 1601 | 1 => 1601 + k0 n * 400 | 2 => 1601 + k0 n * 400 + k1 n * 100 | 3 => 1601 + k0 n * 400 + k1 n * 100 + k2 n * 4 | _ => yr n
theorem rk_bd (n : Int) (h0 : 0 ≤ n) (h1 : n ≤ 3067670) : (0 ≤ r0 n ∧ r0 n < 146097) ∧ (0 ≤ r1 n ∧ r1 n ≤ 36524) ∧ (0 ≤ r2 n ∧ r2 n < 1461) ∧ (0 ≤ k0 n ∧ k0 n ≤ 20) ∧ (0 ≤ k1 n ∧ k1 n ≤ 3) ∧ (0 ≤ k2 n ∧ k2 n ≤ 24) ∧ (0 ≤ k3 n ∧ k3 n ≤ 3) := by
  have a0 : 0 ≤ k0 n ∧ k0 n ≤ 20 ∧ 0 ≤ r0 n ∧ r0 n < 146097 := by unfold r0 k0; omega
  have a1 : 0 ≤ k1 n ∧ k1 n ≤ 3 ∧ 0 ≤ r1 n ∧ r1 n ≤ 36524 := by unfold r1 k1; omega
  have a2 : 0 ≤ k2 n ∧ k2 n ≤ 24 ∧ 0 ≤ r2 n ∧ (r2 n < 1461) := by unfold r2 k2; omega
  have a3 : 0 ≤ k3 n ∧ k3 n ≤ 3 := by unfold k3; omega
  omega
set_option maxHeartbeats 2000000 in
theorem year_any (n : Int) (h0 : 0 ≤ n) (h1 : n ≤ 3067670) (w : World) (T : Tabs w) : Calls Tryd.prog 23 #[.int .i64 n] w fun e w' =>
    e = .returned (.tuple #[.int .i64 (yr n), .int .i64 (doy n)]) ∧ ∃ q, w' = w.drewN q := by
  have c0 := T.sp 0 (by decide)
  have c1 := T.sp 1 (by decide)
  have c2 := T.sp 2 (by decide)
  have c3 := T.sp 3 (by decide)
  have c4 := T.sp 4 (by decide)
  have c5 := T.sp 5 (by decide)
  have c6 := T.sp 6 (by decide)
  have c7 := T.sp 7 (by decide)
  have c8 := T.sp 8 (by decide)
  have c9 := T.sp 9 (by decide)
  have c10 := T.sp 10 (by decide)
  have c11 := T.sp 11 (by decide)
  simp only [spL, List.getD_cons_zero, List.getD_cons_succ] at c0 c1 c2 c3 c4 c5 c6 c7 c8 c9 c10 c11
  clear T
  obtain ⟨b0, b1, b2, d0, d1, d2, d3⟩ := rk_bd n h0 h1
  have E0 : Hid (k0 n = min (n / 146097) 20 ∧ r0 n = n - k0 n * 146097) := ⟨rfl, rfl⟩
  have E1 : Hid (k1 n = min (r0 n / 36524) 3 ∧ r1 n = r0 n - k1 n * 36524) := ⟨rfl, rfl⟩
  have E2 : Hid (k2 n = min (r1 n / 1461) 24 ∧ r2 n = r1 n - k2 n * 1461) := ⟨rfl, rfl⟩
  have E3 : Hid (k3 n = min (r2 n / 365) 3 ∧ doy n = r2 n - k3 n * 365 ∧ yr n = 1601 + k0 n * 400 + k1 n * 100 + k2 n * 4 + k3 n * 1) := ⟨rfl, rfl, rfl⟩
  go_enter Tryd.func23, Tryd.ntmps23
  go_wp2
  go_loopw [0, 4, 7] (fun dv yv iv wr => ∃ (k q : Nat), k ≤ 4 ∧ iv = .int .i64 k ∧ wr = w.drewN q ∧ dv = .int .i64 (rk n k) ∧ yv = .int .i64 (yk n k)) (fun _ _ iv _ => 4 - (intOf iv).toNat)
  case atStart => exact ⟨0, 0, by omega, rfl, rfl, rfl, rfl⟩
  case round =>
    obtain ⟨k, q, hk, rfl, rfl, rfl, rfl⟩ := hrel
    have hcase : k = 0 ∨ k = 1 ∨ k = 2 ∨ k = 3 ∨ k = 4 := by omega
    rcases hcase with rfl | rfl | rfl | rfl | rfl
    · have er : rk n 0 = n := rfl
      have ey : yk n 0 = 1601 := rfl
      rw [er, ey]
      clear er ey
      have hle : n / 146097 ≤ 20 := by omega
      have hm : min (n / 146097) 20 = n / 146097 := by omega
      have E0' : Hid (k0 n = n / 146097 ∧ r0 n = n - n / 146097 * 146097) := by obtain ⟨a, b⟩ := E0.out; exact ⟨by rw [a, hm], by rw [b, a, hm]⟩
      clear hm
      go_wp2
      go_region
      go_wp2
      go_roundw
      case rel => exact ⟨1, _, by omega, rfl, rfl, by show _ = Value.int .i64 (r0 n); rw [E0'.out.2], by show _ = Value.int .i64 (1601 + k0 n * 400); rw [E0'.out.1]⟩
      case measure => simp [intOf]
    · have er : rk n 1 = r0 n := rfl
      have ey : yk n 1 = 1601 + k0 n * 400 := rfl
      rw [er, ey]
      clear er ey
      by_cases hle : r0 n / 36524 ≤ 3
      · have hm : min (r0 n / 36524) 3 = r0 n / 36524 := by omega
        have E' : Hid (k1 n = r0 n / 36524 ∧ r1 n = r0 n - r0 n / 36524 * 36524) := by obtain ⟨a, b⟩ := E1.out; exact ⟨by rw [a, hm], by rw [b, a, hm]⟩
        clear hm
        go_wp2
        go_region
        go_wp2
        go_roundw
        case rel => exact ⟨2, _, by omega, rfl, rfl, by show _ = Value.int .i64 (r1 n); rw [E'.out.2], by show _ = Value.int .i64 (1601 + k0 n * 400 + k1 n * 100); rw [E'.out.1]⟩
        case measure => simp [intOf]
      · have hm : min (r0 n / 36524) 3 = 3 := by omega
        have E' : Hid (k1 n = 3 ∧ r1 n = r0 n - 3 * 36524) := by obtain ⟨a, b⟩ := E1.out; exact ⟨by rw [a, hm], by rw [b, a, hm]⟩
        clear hm
        go_wp2
        go_region
        go_wp2
        go_roundw
        case rel => exact ⟨2, _, by omega, rfl, rfl, by show _ = Value.int .i64 (r1 n); rw [E'.out.2]; go_num, by show _ = Value.int .i64 (1601 + k0 n * 400 + k1 n * 100); rw [E'.out.1]; go_num⟩
        case measure => simp [intOf]
    · have er : rk n 2 = r1 n := rfl
      have ey : yk n 2 = 1601 + k0 n * 400 + k1 n * 100 := rfl
      rw [er, ey]
      clear er ey
      by_cases hle : r1 n / 1461 ≤ 24
      · have hm : min (r1 n / 1461) 24 = r1 n / 1461 := by omega
        have E' : Hid (k2 n = r1 n / 1461 ∧ r2 n = r1 n - r1 n / 1461 * 1461) := by obtain ⟨a, b⟩ := E2.out; exact ⟨by rw [a, hm], by rw [b, a, hm]⟩
        clear hm
        go_wp2
        go_region
        go_wp2
        go_roundw
        case rel => exact ⟨3, _, by omega, rfl, rfl, by show _ = Value.int .i64 (r2 n); rw [E'.out.2], by show _ = Value.int .i64 (1601 + k0 n * 400 + k1 n * 100 + k2 n * 4); rw [E'.out.1]⟩
        case measure => simp [intOf]
      · exfalso; omega
    · have er : rk n 3 = r2 n := rfl
      have ey : yk n 3 = 1601 + k0 n * 400 + k1 n * 100 + k2 n * 4 := rfl
      rw [er, ey]
      clear er ey
      by_cases hle : r2 n / 365 ≤ 3
      · have hm : min (r2 n / 365) 3 = r2 n / 365 := by omega
        have E' : Hid (k3 n = r2 n / 365 ∧ doy n = r2 n - r2 n / 365 * 365) := by obtain ⟨a, b, _⟩ := E3.out; exact ⟨by rw [a, hm], by rw [b, a, hm]⟩
        clear hm
        go_wp2
        go_region
        go_wp2
        go_roundw
        case rel => exact ⟨4, _, by omega, rfl, rfl, by show _ = Value.int .i64 (doy n); rw [E'.out.2], by show _ = Value.int .i64 (yr n); rw [E3.out.2.2, E'.out.1]; go_num⟩
        case measure => simp [intOf]
      · have hm : min (r2 n / 365) 3 = 3 := by omega
        have E' : Hid (k3 n = 3 ∧ doy n = r2 n - 3 * 365) := by obtain ⟨a, b, _⟩ := E3.out; exact ⟨by rw [a, hm], by rw [b, a, hm]⟩
        clear hm
        go_wp2
        go_region
        go_wp2
        go_roundw
        case rel => exact ⟨4, _, by omega, rfl, rfl, by show _ = Value.int .i64 (doy n); rw [E'.out.2]; go_num, by show _ = Value.int .i64 (yr n); rw [E3.out.2.2, E'.out.1]; go_num⟩
        case measure => simp [intOf]
    · go_wp2
      go_ret2
      exact ⟨rfl, _, rfl⟩
end Go.Proofs.YtlabffopbambjabDoor
