/- The reference's time of a moment. -/
import Derived.Test.YtlabffopbambjabDoorClockS
namespace Go.Proofs.YtlabffopbambjabDoor
open Go.RowKit
set_option linter.all false

set_option maxHeartbeats 2000000 in
theorem timeOf_yes (n : Int) (h : momB n = true) (w : World) : Calls Tryd.prog 35 #[.int .i64 n] w fun e w' =>
    e = .returned (.tuple #[.agg #[.int .i64 (tY n), .int .i64 (tM n), .int .i64 (tD n), .int .i64 (tH n), .int .i64 (tI n), .int .i64 (tS n)], .int .i64 0]) ∧ Below w.heap.size w w' := by
  have hn := (momB_iff n).1 h
  obtain ⟨eM1, eY1, eD1, m0, m1, k0', k1', y0, y1⟩ := era_time n h
  have H : Hid _ := h
  have hed : 0 ≤ eD n ∧ eD n ≤ 5000000 := by unfold eD dayN; omega
  have hes : 0 ≤ secN n ∧ secN n < 86400 := by unfold secN; omega
  have D0 : (n + 11644473600) / 86400 - 134774 + 719468 = eD n := by unfold eD dayN; omega
  have S0 : (n + 11644473600) % 86400 = secN n := rfl
  have YE : (eD n % 146097 - eD n % 146097 / 1460 + eD n % 146097 / 36524 - eD n % 146097 / 146096) / 365 = yE (eD n % 146097) := rfl
  have EK : eD n % 146097 - (365 * yE (eD n % 146097) + yE (eD n % 146097) / 4 - yE (eD n % 146097) / 100) = eK n := rfl
  have EM : (5 * eK n + 2) / 153 = eM n := rfl
  have EY : Hid (eY n = eD n / 146097 * 400 + yE (eD n % 146097)) := rfl
  have M1 : Hid _ := eM1
  have Y1 : Hid _ := eY1
  have D1 : Hid _ := eD1
  clear h eM1 eY1 eD1
  by_cases h9 : 9 < eM n
  · go_enter Tryd.func35, Tryd.ntmps35
    go_wp2_with (go_at_call 46; refine (noMoment_any _ _).mono ?_; rw [H.out]; rintro e w' ⟨rfl, rfl⟩)
    have E1 : tY n = eD n / 146097 * 400 + yE (eD n % 146097) + 1 := by rw [Y1.out, if_pos h9, EY.out]
    have E2 : tM n = eM n + 3 - 12 := by rw [M1.out, if_pos h9]; omega
    have E4 : tH n = secN n / 3600 := rfl
    have E5 : tI n = secN n % 3600 / 60 := rfl
    have E6 : tS n = secN n % 60 := by unfold tS; omega
    rw [E1, E2, D1.out, E4, E5, E6]
    exact bodyPost_ret (v := .tuple #[.agg #[.int .i64 (eD n / 146097 * 400 + yE (eD n % 146097) + 1), .int .i64 (eM n + 3 - 12), .int .i64 (eK n - (153 * eM n + 2) / 5 + 1), .int .i64 (secN n / 3600), .int .i64 (secN n % 3600 / 60), .int .i64 (secN n % 60)], .int .i64 0]) (by simp [results, Tryd.results35, go_sem]) rfl ⟨rfl, ((Below.refl _ _).alloc (Nat.le_refl _) _).alloc (by simp) _⟩
  · go_enter Tryd.func35, Tryd.ntmps35
    go_wp2_with (go_at_call 46; refine (noMoment_any _ _).mono ?_; rw [H.out]; rintro e w' ⟨rfl, rfl⟩)
    have E1 : tY n = eD n / 146097 * 400 + yE (eD n % 146097) := by rw [Y1.out, if_neg (by omega), EY.out]
    have E2 : tM n = eM n + 3 := by rw [M1.out, if_neg (by omega)]
    have E4 : tH n = secN n / 3600 := rfl
    have E5 : tI n = secN n % 3600 / 60 := rfl
    have E6 : tS n = secN n % 60 := by unfold tS; omega
    rw [E1, E2, D1.out, E4, E5, E6]
    exact bodyPost_ret (v := .tuple #[.agg #[.int .i64 (eD n / 146097 * 400 + yE (eD n % 146097)), .int .i64 (eM n + 3), .int .i64 (eK n - (153 * eM n + 2) / 5 + 1), .int .i64 (secN n / 3600), .int .i64 (secN n % 3600 / 60), .int .i64 (secN n % 60)], .int .i64 0]) (by simp [results, Tryd.results35, go_sem]) rfl ⟨rfl, ((Below.refl _ _).alloc (Nat.le_refl _) _).alloc (by simp) _⟩
end Go.Proofs.YtlabffopbambjabDoor
