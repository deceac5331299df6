/- Contracts of the reference on moments. -/
import Derived.Test.YtmjcgkjkhpjgbaaClockN
namespace Go.Proofs.Ytmjcgkjkhpjgbaa
open Go.RowKit
set_option linter.all false

set_option maxHeartbeats 400000 in
theorem noMoment_any (n : Int) (w : World) : Calls Try.prog 50 #[.int .i64 n] w fun e w' => e = .returned (.bool (!momB n)) ∧ w' = w := by
  by_cases h1 : n < -11644473600
  · have e : momB n = false := by rw [← Bool.not_eq_true, momB_iff]; omega
    rw [e]; clear e
    go_enter Try.func50, Try.ntmps50
    go_wp2
    go_ret
    exact ⟨rfl, rfl⟩
  · by_cases h2 : 253402300799 < n
    · have e : momB n = false := by rw [← Bool.not_eq_true, momB_iff]; omega
      rw [e]; clear e
      go_enter Try.func50, Try.ntmps50
      go_wp2
      go_ret
      exact ⟨rfl, rfl⟩
    · have e : momB n = true := (momB_iff n).2 (by omega)
      rw [e]; clear e
      go_enter Try.func50, Try.ntmps50
      go_wp2
      go_ret
      exact ⟨rfl, rfl⟩
/-- the reference's days of a month: none, if it is none -/
def mdV (y m : Int) : Int := if m < 1 ∨ 12 < m then 0 else dim y m
set_option maxHeartbeats 400000 in
theorem addOf_yes (n s : Int) (h : momB n = true) (hs : -9223372036854775808 ≤ s ∧ s ≤ 9223372036854775807) (w : World) : Calls Try.prog 37 #[.int .i64 n, .int .i64 s] w fun e w' => e = .returned (.tuple #[.int .i64 (addN n s), .int .i64 0]) ∧ w' = w := by
  have hn := (momB_iff n).1 h
  have H : Hid _ := h
  have HW : Hid (addN n s = if 253402300799 - n < s then 253402300799 else if s < -11644473600 - n then -11644473600 else n + s) := rfl
  clear h
  by_cases h1 : 253402300799 - n < s
  · go_enter Try.func37, Try.ntmps37
    go_wp2_with (go_at_call 50; refine (noMoment_any _ _).mono ?_; rw [H.out]; rintro e w' ⟨rfl, rfl⟩)
    go_ret2
    refine ⟨?_, rfl⟩
    rw [HW.out, if_pos h1]; rfl
  · by_cases h2 : s < -11644473600 - n
    · go_enter Try.func37, Try.ntmps37
      go_wp2_with (go_at_call 50; refine (noMoment_any _ _).mono ?_; rw [H.out]; rintro e w' ⟨rfl, rfl⟩)
      go_ret2
      refine ⟨?_, rfl⟩
      rw [HW.out, if_neg (by omega), if_pos h2]; rfl
    · go_enter Try.func37, Try.ntmps37
      go_wp2_with (go_at_call 50; refine (noMoment_any _ _).mono ?_; rw [H.out]; rintro e w' ⟨rfl, rfl⟩)
      go_ret2
      refine ⟨?_, rfl⟩
      rw [HW.out, if_neg (by omega), if_neg (by omega)]; rfl
theorem addOf_no (n s : Int) (h : momB n = false) (w : World) : Calls Try.prog 37 #[.int .i64 n, .int .i64 s] w fun e w' => e = .returned (.tuple #[.int .i64 0, .int .i64 3]) ∧ w' = w := by
  have H : Hid _ := h
  clear h
  go_enter Try.func37, Try.ntmps37
  go_wp2_with (go_at_call 50; refine (noMoment_any _ _).mono ?_; rw [H.out]; rintro e w' ⟨rfl, rfl⟩)
  go_ret2
  exact ⟨rfl, rfl⟩
end Go.Proofs.Ytmjcgkjkhpjgbaa
