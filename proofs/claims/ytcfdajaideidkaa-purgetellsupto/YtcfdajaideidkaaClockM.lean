/- The calendar in plain numbers: leap years, days of months, days ahead, the year and the month of a day. No walk. -/
import Derived.Test.YtcfdajaideidkaaKit
namespace Go.Proofs.Ytcfdajaideidkaa
open Go.RowKit
set_option linter.all false
set_option maxRecDepth 100000

/-- is it a leap year? -/
def lpB (y : Int) : Bool := decide (y % 4 = 0 ∧ (y % 100 ≠ 0 ∨ y % 400 = 0))
def lp (y : Int) : Int := if lpB y then 1 else 0
theorem lp_01 (y : Int) : lp y = 0 ∨ lp y = 1 := by unfold lp; cases lpB y <;> simp
theorem lpB_iff (y : Int) : lpB y = true ↔ (y % 4 = 0 ∧ (y % 100 ≠ 0 ∨ y % 400 = 0)) := by unfold lpB; simp
/-- days of a month -/
def dim (y m : Int) : Int := if m = 2 then 28 + lp y else if m = 4 ∨ m = 6 ∨ m = 9 ∨ m = 11 then 30 else 31
/-- days ahead of a month in its year -/
def cumB (m : Int) : Int := if m ≤ 1 then 0 else if m = 2 then 31 else if m = 3 then 59 else if m = 4 then 90 else if m = 5 then 120 else if m = 6 then 151 else if m = 7 then 181 else if m = 8 then 212 else if m = 9 then 243 else if m = 10 then 273 else if m = 11 then 304 else if m = 12 then 334 else 365
def cum (y m : Int) : Int := cumB m + if m ≤ 2 then 0 else lp y
/-- days ahead of a year, from 1601 on -/
def dby (y : Int) : Int := (y - 1601) * 365 + (y - 1601) / 4 - (y - 1601) / 100 + (y - 1601) / 400
/-- the day's number from the first of January 1601 on -/
def num (y m d : Int) : Int := dby y + cum y m + d - 1
def momB (n : Int) : Bool := decide (-11644473600 ≤ n ∧ n ≤ 253402300799)
def vldB (y m d h i s : Int) : Bool := decide (1601 ≤ y ∧ y ≤ 9999 ∧ 1 ≤ m ∧ m ≤ 12 ∧ 1 ≤ d ∧ d ≤ dim y m ∧ 0 ≤ h ∧ h ≤ 23 ∧ 0 ≤ i ∧ i ≤ 59 ∧ 0 ≤ s ∧ s ≤ 59)
def momOf (y m d h i s : Int) : Int := -11644473600 + num y m d * 86400 + h * 3600 + i * 60 + s

theorem months (m : Int) (h1 : 1 ≤ m) (h2 : m ≤ 12) : m = 1 ∨ m = 2 ∨ m = 3 ∨ m = 4 ∨ m = 5 ∨ m = 6 ∨ m = 7 ∨ m = 8 ∨ m = 9 ∨ m = 10 ∨ m = 11 ∨ m = 12 := by omega
theorem dim_bd (y m : Int) : 28 ≤ dim y m ∧ dim y m ≤ 31 := by
  have := lp_01 y
  unfold dim
  by_cases h : m = 2
  · rw [if_pos h]; omega
  · rw [if_neg h]
    by_cases h2 : m = 4 ∨ m = 6 ∨ m = 9 ∨ m = 11
    · rw [if_pos h2]; omega
    · rw [if_neg h2]; omega
theorem cum_succ (y m : Int) (h1 : 1 ≤ m) (h2 : m ≤ 12) : cum y (m + 1) = cum y m + dim y m := by
  have := lp_01 y
  rcases months m h1 h2 with rfl | rfl | rfl | rfl | rfl | rfl | rfl | rfl | rfl | rfl | rfl | rfl <;> simp [cum, cumB, dim] <;> omega
theorem cum_one (y : Int) : cum y 1 = 0 := by simp [cum, cumB]
theorem cum_13 (y : Int) : cum y 13 = 365 + lp y := by simp [cum, cumB]
theorem cum_bd (y m : Int) (h1 : 1 ≤ m) (h2 : m ≤ 13) : 0 ≤ cum y m ∧ cum y m ≤ 366 := by
  have := lp_01 y
  by_cases h : m = 13
  · subst h; rw [cum_13]; omega
  · rcases months m h1 (by omega) with rfl | rfl | rfl | rfl | rfl | rfl | rfl | rfl | rfl | rfl | rfl | rfl <;> simp [cum, cumB] <;> omega
theorem dby_bd (y : Int) (h1 : 1601 ≤ y) (h2 : y ≤ 10000) : 0 ≤ dby y ∧ dby y ≤ 3067671 := by unfold dby; omega
theorem dby_succ (y : Int) (h1 : 1601 ≤ y) : dby (y + 1) = dby y + 365 + lp y := by
  unfold dby lp
  cases h : lpB y
  · have hn : ¬ (y % 4 = 0 ∧ (y % 100 ≠ 0 ∨ y % 400 = 0)) := by rw [← lpB_iff, h]; simp
    simp only [Bool.false_eq_true, if_false]
    omega
  · have hn := (lpB_iff y).1 h
    simp only [if_true]
    omega
theorem dby_mono (a b : Int) (h1 : 1601 ≤ a) (h : a ≤ b) : dby a ≤ dby b := by unfold dby; omega

/-- the year of a day, and the day in it -/
def k0 (n : Int) : Int := min (n / 146097) 20
def r0 (n : Int) : Int := n - k0 n * 146097
def k1 (n : Int) : Int := min (r0 n / 36524) 3
def r1 (n : Int) : Int := r0 n - k1 n * 36524
def k2 (n : Int) : Int := min (r1 n / 1461) 24
def r2 (n : Int) : Int := r1 n - k2 n * 1461
def k3 (n : Int) : Int := min (r2 n / 365) 3
def yr (n : Int) : Int := 1601 + k0 n * 400 + k1 n * 100 + k2 n * 4 + k3 n * 1
def doy (n : Int) : Int := r2 n - k3 n * 365
set_option maxHeartbeats 1000000 in
theorem yr_ok (n : Int) (h0 : 0 ≤ n) (h1 : n ≤ 3067670) : 1601 ≤ yr n ∧ yr n ≤ 9999 ∧ 0 ≤ doy n ∧ doy n < 365 + lp (yr n) ∧ dby (yr n) + doy n = n := by
  have a0 : 0 ≤ k0 n ∧ k0 n ≤ 20 ∧ 0 ≤ r0 n ∧ r0 n < 146097 := by unfold r0 k0; omega
  have a1 : 0 ≤ k1 n ∧ k1 n ≤ 3 ∧ 0 ≤ r1 n ∧ (r1 n < 36524 ∨ k1 n = 3 ∧ r1 n ≤ 36524) := by unfold r1 k1; omega
  have a2 : 0 ≤ k2 n ∧ k2 n ≤ 24 ∧ 0 ≤ r2 n ∧ (r2 n < 1461) ∧ (k2 n = 24 → r2 n ≤ 1459 ∨ k1 n = 3 ∧ r2 n ≤ 1460) := by unfold r2 k2; omega
  have a3 : 0 ≤ k3 n ∧ k3 n ≤ 3 ∧ 0 ≤ doy n ∧ (doy n < 365 ∨ k3 n = 3 ∧ doy n = 365 ∧ r2 n = 1460) := by unfold doy k3; omega
  have e1 : r0 n = n - k0 n * 146097 := rfl
  have e2 : r1 n = r0 n - k1 n * 36524 := rfl
  have e3 : r2 n = r1 n - k2 n * 1461 := rfl
  have e4 : doy n = r2 n - k3 n * 365 := rfl
  have ey : yr n = 1601 + k0 n * 400 + k1 n * 100 + k2 n * 4 + k3 n * 1 := rfl
  have hd : dby (yr n) = k0 n * 146097 + k1 n * 36524 + k2 n * 1461 + k3 n * 365 := by
    unfold dby; rw [ey]
    generalize k0 n = a at *
    generalize k1 n = b at *
    generalize k2 n = c at *
    generalize k3 n = d at *
    have q4 : (1601 + a * 400 + b * 100 + c * 4 + d * 1 - 1601) / 4 = 100 * a + 25 * b + c := by omega
    have q100 : (1601 + a * 400 + b * 100 + c * 4 + d * 1 - 1601) / 100 = 4 * a + b := by omega
    have q400 : (1601 + a * 400 + b * 100 + c * 4 + d * 1 - 1601) / 400 = a := by omega
    rw [q4, q100, q400]; omega
  have hl : (k3 n = 3 ∧ (k2 n ≠ 24 ∨ k1 n = 3)) → lp (yr n) = 1 := by
    intro h
    have : lpB (yr n) = true := by rw [lpB_iff, ey]; omega
    unfold lp; rw [this]; rfl
  have hlp := lp_01 (yr n)
  have hy1 : 1601 ≤ yr n := by rw [ey]; omega
  have hn : dby (yr n) + doy n = n := by rw [hd, e4, e3, e2, e1]; omega
  refine ⟨hy1, ?_, a3.2.2.1, ?_, hn⟩
  · clear a0 a1 a2 hl e1 e2 e3 e4 ey hd
    rcases Int.lt_or_le 9999 (yr n) with h | h
    · have h2 := dby_mono 10000 (yr n) (by omega) (by omega)
      have e : dby 10000 = 3067671 := by decide
      omega
    · exact h
  · rcases a3.2.2.2 with h | ⟨h3, h4, h5⟩
    · exact Int.lt_of_lt_of_le h (by rcases hlp with e | e <;> rw [e] <;> decide)
    · have := hl ⟨h3, by
        by_cases hk : k2 n = 24
        · right
          rcases a2.2.2.2.2 hk with h | h
          · rw [h5] at h; exact absurd h (by decide)
          · exact h.1
        · left; exact hk⟩
      rw [h4, this]; decide

theorem cum_add (y a : Int) (h1 : 1 ≤ a) : ∀ k : Nat, a + k ≤ 13 → cum y a ≤ cum y (a + k)
  | 0, _ => by simp
  | k + 1, h => by
    have ih := cum_add y a h1 k (by omega)
    have hs := cum_succ y (a + k) (by omega) (by omega)
    have hd := dim_bd y (a + k)
    have e : a + ((k + 1 : Nat) : Int) = a + k + 1 := by omega
    rw [e, hs]; omega
theorem cum_mono (y a b : Int) (h1 : 1 ≤ a) (h : a ≤ b) (h2 : b ≤ 13) : cum y a ≤ cum y b := by
  have := cum_add y a h1 (b - a).toNat (by omega)
  have e : a + ((b - a).toNat : Int) = b := by omega
  rw [e] at this; exact this
/-- the month of a day of a year: one more than the months behind the first that begin no later -/
def one (b : Bool) : Int := if b then 1 else 0
def mon (y d : Int) : Int := 1 + one (decide (cum y 2 ≤ d)) + one (decide (cum y 3 ≤ d)) + one (decide (cum y 4 ≤ d)) + one (decide (cum y 5 ≤ d)) + one (decide (cum y 6 ≤ d)) + one (decide (cum y 7 ≤ d)) + one (decide (cum y 8 ≤ d)) + one (decide (cum y 9 ≤ d)) + one (decide (cum y 10 ≤ d)) + one (decide (cum y 11 ≤ d)) + one (decide (cum y 12 ≤ d))
/-- where a month is found, it is that one -/
theorem mon_eq (y d m : Int) (h1 : 1 ≤ m) (h2 : m ≤ 12) (hlo : cum y m ≤ d) (hhi : d < cum y (m + 1)) : mon y d = m := by
  have key : ∀ j : Int, 2 ≤ j → j ≤ 12 → decide (cum y j ≤ d) = decide (j ≤ m) := by
    intro j hj1 hj2
    by_cases h : j ≤ m
    · have := cum_mono y j m (by omega) h (by omega)
      rw [decide_eq_true h, decide_eq_true (by omega)]
    · have := cum_mono y (m + 1) j (by omega) (by omega) (by omega)
      rw [decide_eq_false h, decide_eq_false (by omega)]
  unfold mon
  rw [key 2 (by omega) (by omega), key 3 (by omega) (by omega), key 4 (by omega) (by omega), key 5 (by omega) (by omega), key 6 (by omega) (by omega), key 7 (by omega) (by omega), key 8 (by omega) (by omega), key 9 (by omega) (by omega), key 10 (by omega) (by omega), key 11 (by omega) (by omega), key 12 (by omega) (by omega)]
  clear key hlo hhi
  rcases months m h1 h2 with rfl | rfl | rfl | rfl | rfl | rfl | rfl | rfl | rfl | rfl | rfl | rfl <;> rfl
/-- there is such a month -/
theorem mon_ex (y d : Int) (h0 : 0 ≤ d) (h1 : d < 365 + lp y) : ∃ m, 1 ≤ m ∧ m ≤ 12 ∧ cum y m ≤ d ∧ d < cum y (m + 1) := by
  have : ∀ k : Nat, k ≤ 12 → (∃ m, 1 ≤ m ∧ m ≤ 12 ∧ cum y m ≤ d ∧ d < cum y (m + 1)) ∨ cum y (1 + k) ≤ d := by
    intro k
    induction k with
    | zero => intro _; right; rw [show (1 : Int) + ((0 : Nat) : Int) = 1 from rfl, cum_one]; exact h0
    | succ k ih =>
      intro hk
      rcases ih (by omega) with h | h
      · exact .inl h
      · by_cases h2 : d < cum y (1 + k + 1)
        · exact .inl ⟨1 + k, by omega, by omega, h, h2⟩
        · right
          have e : (1 : Int) + ((k + 1 : Nat) : Int) = 1 + k + 1 := by omega
          rw [e]; omega
  rcases this 12 (by omega) with h | h
  · exact h
  · have e : (1 : Int) + ((12 : Nat) : Int) = 13 := rfl
    rw [e, cum_13] at h; omega
theorem mon_ok (y d : Int) (h0 : 0 ≤ d) (h1 : d < 365 + lp y) : 1 ≤ mon y d ∧ mon y d ≤ 12 ∧ cum y (mon y d) ≤ d ∧ d < cum y (mon y d + 1) := by
  obtain ⟨m, a, b, c, e⟩ := mon_ex y d h0 h1
  rw [mon_eq y d m a b c e]; exact ⟨a, b, c, e⟩
/-- a day's year is one -/
theorem yr_eq (n y d : Int) (h0 : 0 ≤ n) (hn : n ≤ 3067670) (hy1 : 1601 ≤ y) (hd0 : 0 ≤ d) (hd1 : d < 365 + lp y) (h : dby y + d = n) : yr n = y ∧ doy n = d := by
  obtain ⟨a, b, c, e, f⟩ := yr_ok n h0 hn
  have key : ∀ u v : Int, 1601 ≤ u → u < v → dby u + 365 + lp u ≤ dby v := by
    intro u v hu huv
    have := dby_succ u hu
    have h2 := dby_mono (u + 1) v (by omega) (by omega)
    omega
  have ey : yr n = y := by
    rcases Int.lt_trichotomy (yr n) y with h1 | h1 | h1
    · have := key _ _ a h1; omega
    · exact h1
    · have := key _ _ hy1 h1; omega
  refine ⟨ey, ?_⟩
  rw [ey] at f; omega

/-- the time of a moment, thing by thing -/
def dayN (n : Int) : Int := (n + 11644473600) / 86400
def secN (n : Int) : Int := (n + 11644473600) % 86400
def tY (n : Int) : Int := yr (dayN n)
def tM (n : Int) : Int := mon (tY n) (doy (dayN n))
def tD (n : Int) : Int := doy (dayN n) - cum (tY n) (tM n) + 1
def tH (n : Int) : Int := secN n / 3600
def tI (n : Int) : Int := secN n % 3600 / 60
def tS (n : Int) : Int := secN n % 60
theorem momB_iff (n : Int) : momB n = true ↔ (-11644473600 ≤ n ∧ n ≤ 253402300799) := by unfold momB; simp
theorem vldB_iff (y m d h i s : Int) : vldB y m d h i s = true ↔ (1601 ≤ y ∧ y ≤ 9999 ∧ 1 ≤ m ∧ m ≤ 12 ∧ 1 ≤ d ∧ d ≤ dim y m ∧ 0 ≤ h ∧ h ≤ 23 ∧ 0 ≤ i ∧ i ≤ 59 ∧ 0 ≤ s ∧ s ≤ 59) := by unfold vldB; simp
theorem time_ok (n : Int) (h : momB n = true) : vldB (tY n) (tM n) (tD n) (tH n) (tI n) (tS n) = true ∧ momOf (tY n) (tM n) (tD n) (tH n) (tI n) (tS n) = n := by
  rw [momB_iff] at h
  have hd : 0 ≤ dayN n ∧ dayN n ≤ 3067670 := by unfold dayN; omega
  obtain ⟨a, b, c, e, f⟩ := yr_ok (dayN n) hd.1 hd.2
  obtain ⟨m1, m2, m3, m4⟩ := mon_ok (tY n) (doy (dayN n)) c e
  have hs := cum_succ (tY n) (tM n) m1 m2
  have ds : dayN n * 86400 + secN n = n + 11644473600 := by unfold dayN secN; omega
  have s0 : 0 ≤ secN n ∧ secN n < 86400 := by unfold secN; omega
  have hD : tD n = doy (dayN n) - cum (tY n) (tM n) + 1 := rfl
  have hM : mon (tY n) (doy (dayN n)) = tM n := rfl
  have hY : yr (dayN n) = tY n := rfl
  rw [hM] at m3 m4 m1 m2
  rw [hY] at a b e f
  constructor
  · rw [vldB_iff]
    have h1 : 0 ≤ tH n ∧ tH n ≤ 23 := by unfold tH; omega
    have h2 : 0 ≤ tI n ∧ tI n ≤ 59 := by unfold tI; omega
    have h3 : 0 ≤ tS n ∧ tS n ≤ 59 := by unfold tS; omega
    omega
  · unfold momOf num
    have hh : tH n * 3600 + tI n * 60 + tS n = secN n := by unfold tH tI tS; omega
    omega
theorem num_bd (y m d h i s : Int) (hv : vldB y m d h i s = true) : 0 ≤ num y m d ∧ num y m d ≤ 3067670 := by
  rw [vldB_iff] at hv
  have hc := cum_succ y m (by omega) (by omega)
  have hc0 := cum_bd y m (by omega) (by omega)
  have hm := cum_mono y (m + 1) 13 (by omega) (by omega) (by omega)
  rw [cum_13] at hm
  have hs := dby_succ y (by omega)
  have hb := dby_bd y (by omega) (by omega)
  have hb2 := dby_bd (y + 1) (by omega) (by omega)
  unfold num
  omega
theorem moment_ok (y m d h i s : Int) (hv : vldB y m d h i s = true) : momB (momOf y m d h i s) = true := by
  have := num_bd y m d h i s hv
  rw [vldB_iff] at hv
  rw [momB_iff]
  unfold momOf
  omega
/-- of a valid time's moment that is the time -/
theorem time_of (y m d h i s : Int) (hv : vldB y m d h i s = true) : tY (momOf y m d h i s) = y ∧ tM (momOf y m d h i s) = m ∧ tD (momOf y m d h i s) = d ∧ tH (momOf y m d h i s) = h ∧ tI (momOf y m d h i s) = i ∧ tS (momOf y m d h i s) = s := by
  have hn := num_bd y m d h i s hv
  rw [vldB_iff] at hv
  have hc := cum_succ y m (by omega) (by omega)
  have hc0 := cum_bd y m (by omega) (by omega)
  have hm := cum_mono y (m + 1) 13 (by omega) (by omega) (by omega)
  rw [cum_13] at hm
  have e1 : dayN (momOf y m d h i s) = num y m d := by unfold dayN momOf; omega
  have e2 : secN (momOf y m d h i s) = h * 3600 + i * 60 + s := by unfold secN momOf; omega
  obtain ⟨ey, ed⟩ := yr_eq (num y m d) y (cum y m + d - 1) hn.1 hn.2 (by omega) (by omega) (by omega) (by unfold num; omega)
  have eY : tY (momOf y m d h i s) = y := by unfold tY; rw [e1, ey]
  have eM : tM (momOf y m d h i s) = m := by
    unfold tM; rw [eY, e1, ed]
    exact mon_eq y _ m (by omega) (by omega) (by omega) (by omega)
  refine ⟨eY, eM, ?_, ?_, ?_, ?_⟩
  · unfold tD; rw [eM, eY, e1, ed]; omega
  · unfold tH; rw [e2]; omega
  · unfold tI; rw [e2]; omega
  · unfold tS; rw [e2]; omega
end Go.Proofs.Ytcfdajaideidkaa
