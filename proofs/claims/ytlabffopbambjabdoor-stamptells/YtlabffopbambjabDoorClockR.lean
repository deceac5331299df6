/- Contracts of the reference on moments. -/
import Derived.Test.YtlabffopbambjabDoorClockN
namespace Go.Proofs.YtlabffopbambjabDoor
open Go.RowKit
set_option linter.all false

set_option maxHeartbeats 400000 in
theorem noMoment_any (n : Int) (w : World) : Calls Tryd.prog 46 #[.int .i64 n] w fun e w' => e = .returned (.bool (!momB n)) ∧ w' = w := by
  by_cases h1 : n < -11644473600
  · have e : momB n = false := by rw [← Bool.not_eq_true, momB_iff]; omega
    rw [e]; clear e
    go_enter Tryd.func46, Tryd.ntmps46
    go_wp2
    go_ret
    exact ⟨rfl, rfl⟩
  · by_cases h2 : 253402300799 < n
    · have e : momB n = false := by rw [← Bool.not_eq_true, momB_iff]; omega
      rw [e]; clear e
      go_enter Tryd.func46, Tryd.ntmps46
      go_wp2
      go_ret
      exact ⟨rfl, rfl⟩
    · have e : momB n = true := (momB_iff n).2 (by omega)
      rw [e]; clear e
      go_enter Tryd.func46, Tryd.ntmps46
      go_wp2
      go_ret
      exact ⟨rfl, rfl⟩
set_option maxHeartbeats 400000 in
theorem isLeap_any (y : Int) (h0 : 0 ≤ y) (h1 : y ≤ 100000) (w : World) : Calls Tryd.prog 50 #[.int .i64 y] w fun e w' => e = .returned (.bool (lpB y)) ∧ w' = w := by
  have hl := lpB_iff y
  by_cases c : y % 400 = 0
  · have e : lpB y = true := hl.2 (by omega)
    rw [e]; clear e hl
    go_enter Tryd.func50, Tryd.ntmps50
    go_wp2
    all_goals go_ret
    all_goals (refine ⟨?_, rfl⟩; first | rfl | (simp; omega))
  · by_cases a : y % 4 = 0
    · by_cases b : y % 100 = 0
      · have e : lpB y = false := by rw [← Bool.not_eq_true, hl]; omega
        rw [e]; clear e hl
        go_enter Tryd.func50, Tryd.ntmps50
        go_wp2
        all_goals go_ret
        all_goals (refine ⟨?_, rfl⟩; first | rfl | (simp; omega))
      · have e : lpB y = true := hl.2 (by omega)
        rw [e]; clear e hl
        go_enter Tryd.func50, Tryd.ntmps50
        go_wp2
        all_goals go_ret
        all_goals (refine ⟨?_, rfl⟩; first | rfl | (simp; omega))
    · have e : lpB y = false := by rw [← Bool.not_eq_true, hl]; omega
      rw [e]; clear e hl
      go_enter Tryd.func50, Tryd.ntmps50
      go_wp2
      all_goals go_ret
      all_goals (refine ⟨?_, rfl⟩; first | rfl | (simp; omega))
/-- the reference's days of a month: none, if it is none -/
def mdV (y m : Int) : Int := if m < 1 ∨ 12 < m then 0 else dim y m
set_option maxHeartbeats 400000 in
theorem mdR_any (y m : Int) (h0 : 0 ≤ y) (h1 : y ≤ 100000) (w : World) : Calls Tryd.prog 44 #[.int .i64 y, .int .i64 m] w fun e w' => e = .returned (.int .i64 (mdV y m)) ∧ Below w.heap.size w w' := by
  by_cases hlo : m < 1
  · have e : mdV y m = 0 := by unfold mdV; rw [if_pos (Or.inl hlo)]
    rw [e]; clear e
    go_enter Tryd.func44, Tryd.ntmps44
    go_wp2_with fail
    go_ret
    exact ⟨rfl, Below.refl _ _⟩
  · by_cases hhi : 12 < m
    · have e : mdV y m = 0 := by unfold mdV; rw [if_pos (Or.inr hhi)]
      rw [e]; clear e
      go_enter Tryd.func44, Tryd.ntmps44
      go_wp2_with fail
      go_ret
      exact ⟨rfl, Below.refl _ _⟩
    · have e : mdV y m = dim y m := by unfold mdV; rw [if_neg (by omega)]
      rw [e]; clear e
      by_cases h2 : m = 2
      · subst h2
        have ed : dim y 2 = 28 + lp y := by unfold dim; simp
        rw [ed]; clear ed
        cases e : lpB y
        · have el : lp y = 0 := by unfold lp; rw [e]; rfl
          rw [el]
          have E : Hid _ := e
          clear e el
          go_enter Tryd.func44, Tryd.ntmps44
          go_wp2_with (go_at_call 50; refine (isLeap_any _ h0 h1 _).mono ?_; rw [E.out]; rintro e w' ⟨rfl, rfl⟩)
          go_ret
          exact ⟨rfl, (Below.refl _ _).alloc (Nat.le_refl _) _⟩
        · have el : lp y = 1 := by unfold lp; rw [e]; rfl
          rw [el]
          have E : Hid _ := e
          clear e el
          go_enter Tryd.func44, Tryd.ntmps44
          go_wp2_with (go_at_call 50; refine (isLeap_any _ h0 h1 _).mono ?_; rw [E.out]; rintro e w' ⟨rfl, rfl⟩)
          go_ret
          exact ⟨rfl, Below.refl _ _⟩
      · have ed := dim_other y m h2
        rw [ed]; clear ed
        rcases months m (by omega) (by omega) with rfl | rfl | rfl | rfl | rfl | rfl | rfl | rfl | rfl | rfl | rfl | rfl
        · go_enter Tryd.func44, Tryd.ntmps44
          go_wp2_with fail
          go_ret
          exact ⟨rfl, (Below.refl _ _).alloc (Nat.le_refl _) _⟩
        · exact absurd rfl h2
        all_goals
          go_enter Tryd.func44, Tryd.ntmps44
          go_wp2_with fail
          go_ret
          exact ⟨rfl, (Below.refl _ _).alloc (Nat.le_refl _) _⟩
set_option maxHeartbeats 400000 in
theorem dayNo_any (y m d : Int) (h0 : 1601 ≤ y) (h1 : y ≤ 9999) (hm1 : 1 ≤ m) (hm2 : m ≤ 12) (hd1 : 1 ≤ d) (hd2 : d ≤ 31) (w : World) : Calls Tryd.prog 45 #[.int .i64 y, .int .i64 m, .int .i64 d] w fun e w' => e = .returned (.int .i64 (num y m d - 134774)) ∧ w' = w := by
  have hV : num y m d - 134774 = dnV y m d := by rw [← dn_eq y m d hm1 hm2]; omega
  rw [hV]; clear hV
  by_cases h3 : m < 3
  · have eY : dnY y m = y - 1 := by unfold dnY; rw [if_pos h3]
    have eM : dnM m = m + 9 := by unfold dnM; rw [if_pos h3]
    have HV : Hid (dnV y m d = (y - 1) / 400 * 146097 + (y - 1) % 400 * 365 + (y - 1) % 400 / 4 - (y - 1) % 400 / 100 + (153 * (m + 9) + 2) / 5 + d - 1 - 719468) := by show _ = _; unfold dnV; rw [eY, eM]
    clear eY eM
    go_enter Tryd.func45, Tryd.ntmps45
    go_wp2_with fail
    go_ret
    refine ⟨?_, rfl⟩
    rw [HV.out]
    exact ret_int (by omega)
  · have eY : dnY y m = y := by unfold dnY; rw [if_neg h3]
    have eM : dnM m = m - 3 := by unfold dnM; rw [if_neg h3]
    have HV : Hid (dnV y m d = y / 400 * 146097 + y % 400 * 365 + y % 400 / 4 - y % 400 / 100 + (153 * (m - 3) + 2) / 5 + d - 1 - 719468) := by show _ = _; unfold dnV; rw [eY, eM]
    clear eY eM
    go_enter Tryd.func45, Tryd.ntmps45
    go_wp2_with fail
    go_ret
    refine ⟨?_, rfl⟩
    rw [HV.out]
    exact ret_int (by omega)
set_option maxHeartbeats 400000 in
theorem weekdayOf_yes (n : Int) (h : momB n = true) (w : World) : Calls Tryd.prog 36 #[.int .i64 n] w fun e w' => e = .returned (.tuple #[.int .i64 (wdN n), .int .i64 0]) ∧ w' = w := by
  have hn := (momB_iff n).1 h
  have H : Hid _ := h
  have HW : Hid (wdN n = ((n + 11644473600) / 86400 + 1) % 7) := rfl
  clear h
  go_enter Tryd.func36, Tryd.ntmps36
  go_wp2_with (go_at_call 46; refine (noMoment_any _ _).mono ?_; rw [H.out]; rintro e w' ⟨rfl, rfl⟩)
  go_ret2
  refine ⟨?_, rfl⟩
  rw [HW.out]; rfl
theorem weekdayOf_no (n : Int) (h : momB n = false) (w : World) : Calls Tryd.prog 36 #[.int .i64 n] w fun e w' => e = .returned (.tuple #[.int .i64 0, .int .i64 3]) ∧ w' = w := by
  have H : Hid _ := h
  clear h
  go_enter Tryd.func36, Tryd.ntmps36
  go_wp2_with (go_at_call 46; refine (noMoment_any _ _).mono ?_; rw [H.out]; rintro e w' ⟨rfl, rfl⟩)
  go_ret2
  exact ⟨rfl, rfl⟩
end Go.Proofs.YtlabffopbambjabDoor
