/- The reference's way with days, by eras of 400 years that begin with a March: it comes to the same numbers. No walk. -/
import Derived.Test.YtmjcgkjkhpjgbaaClockC
namespace Go.Proofs.Ytmjcgkjkhpjgbaa
open Go.RowKit
set_option linter.all false

/-- the reference's day's number -/
def dnY (y m : Int) : Int := if m < 3 then y - 1 else y
def dnM (m : Int) : Int := if m < 3 then m + 9 else m - 3
def dnV (y m d : Int) : Int := dnY y m / 400 * 146097 + dnY y m % 400 * 365 + dnY y m % 400 / 4 - dnY y m % 400 / 100 + (153 * dnM m + 2) / 5 + d - 1 - 719468
theorem era_eq (y : Int) : y / 400 * 146097 + y % 400 * 365 + y % 400 / 4 - y % 400 / 100 = y * 365 + y / 4 - y / 100 + y / 400 := by
  have h1 : y / 4 = y / 400 * 100 + y % 400 / 4 := by omega
  have h2 : y / 100 = y / 400 * 4 + y % 400 / 100 := by omega
  omega
theorem dby_flat (y : Int) : dby y = (y - 1) * 365 + (y - 1) / 4 - (y - 1) / 100 + (y - 1) / 400 - 584388 := by unfold dby; omega
theorem dby_step (y : Int) : dby (y + 1) = dby y + 365 + lp y := by
  unfold lp
  cases h : lpB y
  · have hn : ¬ (y % 4 = 0 ∧ (y % 100 ≠ 0 ∨ y % 400 = 0)) := by rw [← lpB_iff, h]; simp
    simp only [Bool.false_eq_true, if_false]
    unfold dby; omega
  · have hn := (lpB_iff y).1 h
    simp only [if_true]
    unfold dby; omega
theorem dn_eq (y m d : Int) (h1 : 1 ≤ m) (h2 : m ≤ 12) : dnV y m d + 134774 = num y m d := by
  unfold dnV
  rw [era_eq]
  have hs := dby_step y
  have hf := dby_flat y
  have hf1 := dby_flat (y + 1)
  rw [show y + 1 - 1 = y from by omega] at hf1
  unfold num
  rcases months m h1 h2 with rfl | rfl | rfl | rfl | rfl | rfl | rfl | rfl | rfl | rfl | rfl | rfl <;> simp [dnY, dnM, cum, cumB] <;> omega

/-- the year in an era, and the day in it -/
def yE (x : Int) : Int := (x - x / 1460 + x / 36524 - x / 146096) / 365
def dE (x : Int) : Int := x - (365 * yE x + yE x / 4 - yE x / 100)
theorem e_c1 (q r t u x : Int) (hq : 0 ≤ q ∧ q ≤ 3) (hr : 0 ≤ r ∧ r ≤ 24) (ht : 0 ≤ t ∧ t ≤ 3) (hu : 0 ≤ u ∧ u ≤ 365) (ex : x = q * 36524 + r * 1461 + t * 365 + u) :
    (q = 3 ∧ r = 24 ∧ t = 3 ∧ u = 365 ∧ x / 146096 = 1 ∧ x / 36524 = 4) ∨ (¬ (q = 3 ∧ r = 24 ∧ t = 3 ∧ u = 365) ∧ x / 146096 = 0) := by
  by_cases hc : q = 3 ∧ r = 24 ∧ t = 3 ∧ u = 365
  · left
    obtain ⟨rfl, rfl, rfl, rfl⟩ := hc
    subst ex
    decide
  · right
    refine ⟨hc, ?_⟩
    have : x < 146096 := by omega
    have : 0 ≤ x := by omega
    clear ex hc
    omega
theorem e_c2 (q r t u x : Int) (hq : 0 ≤ q ∧ q ≤ 3) (hr : 0 ≤ r ∧ r ≤ 24) (ht : 0 ≤ t ∧ t ≤ 3) (hu : 0 ≤ u ∧ u ≤ 365) (hl : r = 24 ∧ u = 365 → q = 3) (h3 : u = 365 → t = 3) (ex : x = q * 36524 + r * 1461 + t * 365 + u)
    (hc : ¬ (q = 3 ∧ r = 24 ∧ t = 3 ∧ u = 365)) : x / 36524 = q := by
  have h : r * 1461 + t * 365 + u < 36524 := by
    by_cases h24 : r = 24
    · by_cases h365 : u = 365
      · exact absurd ⟨hl ⟨h24, h365⟩, h24, h3 h365, h365⟩ hc
      · omega
    · omega
  have h0 : 0 ≤ r * 1461 + t * 365 + u := by omega
  have ex' : x = q * 36524 + (r * 1461 + t * 365 + u) := by omega
  generalize r * 1461 + t * 365 + u = z at *
  clear ex hc hl h3 hr ht hu
  omega
theorem e_c3 (q r t u x : Int) (hq : 0 ≤ q ∧ q ≤ 3) (hr : 0 ≤ r ∧ r ≤ 24) (ht : 0 ≤ t ∧ t ≤ 3) (hu : 0 ≤ u ∧ u ≤ 365) (h3 : u = 365 → t = 3) (ex : x = q * 36524 + r * 1461 + t * 365 + u) :
    ∃ ε : Int, x / 1460 = 25 * q + r + ε ∧ (0 ≤ ε ∧ ε ≤ 1) ∧ (u = 0 → ε = 0) ∧ (u = 365 → ε = 1) := by
  have ex' : x = 1460 * (25 * q + r) + (24 * q + r + 365 * t + u) := by omega
  have hz : 0 ≤ 24 * q + r + 365 * t + u ∧ 24 * q + r + 365 * t + u < 2920 := by omega
  have hz0 : u = 0 → 24 * q + r + 365 * t + u < 1460 := by omega
  have hz1 : u = 365 → 1460 ≤ 24 * q + r + 365 * t + u := by intro h; have := h3 h; omega
  generalize 24 * q + r + 365 * t + u = z at *
  generalize 25 * q + r = a at *
  clear ex hq hr ht hu h3
  refine ⟨x / 1460 - a, by omega, by omega, ?_, ?_⟩
  · intro h; have := hz0 h; omega
  · intro h; have := hz1 h; omega
theorem e_y (q r t u x : Int) (hq : 0 ≤ q ∧ q ≤ 3) (hr : 0 ≤ r ∧ r ≤ 24) (ht : 0 ≤ t ∧ t ≤ 3) (hu : 0 ≤ u ∧ u ≤ 365) (hl : r = 24 ∧ u = 365 → q = 3) (h3 : u = 365 → t = 3) (ex : x = q * 36524 + r * 1461 + t * 365 + u) :
    yE x = q * 100 + r * 4 + t := by
  obtain ⟨ε, c3, c4, c5, c6⟩ := e_c3 q r t u x hq hr ht hu h3 ex
  rcases e_c1 q r t u x hq hr ht hu ex with ⟨rfl, rfl, rfl, rfl, c1, c2⟩ | ⟨hc, c1⟩
  · subst ex
    decide
  · have c2 := e_c2 q r t u x hq hr ht hu hl h3 ex hc
    unfold yE
    rw [c1, c2, c3]
    have hlo : 0 ≤ u - ε ∧ u - ε < 365 := by omega
    have e : x - (25 * q + r + ε) + q - 0 = (q * 100 + r * 4 + t) * 365 + (u - ε) := by omega
    rw [e]
    generalize u - ε = z at *
    generalize q * 100 + r * 4 + t = y at *
    clear ex e c1 c2 c3 c4 c5 c6 hc hl h3 hq hr ht hu
    omega
theorem e_d (q r t u x : Int) (hq : 0 ≤ q ∧ q ≤ 3) (hr : 0 ≤ r ∧ r ≤ 24) (ht : 0 ≤ t ∧ t ≤ 3) (ex : x = q * 36524 + r * 1461 + t * 365 + u) (hy : yE x = q * 100 + r * 4 + t) : dE x = u := by
  unfold dE
  rw [hy]
  have q4 : (q * 100 + r * 4 + t) / 4 = q * 25 + r := by omega
  have q100 : (q * 100 + r * 4 + t) / 100 = q := by omega
  rw [q4, q100]; omega
theorem e_parts (x : Int) (h0 : 0 ≤ x) (h1 : x < 146097) : ∃ q r t u : Int, (0 ≤ q ∧ q ≤ 3) ∧ (0 ≤ r ∧ r ≤ 24) ∧ (0 ≤ t ∧ t ≤ 3) ∧ (0 ≤ u ∧ u ≤ 365) ∧ (r = 24 ∧ u = 365 → q = 3) ∧ (u = 365 → t = 3) ∧ x = q * 36524 + r * 1461 + t * 365 + u := by
  have e0 : k0 x = 0 := by unfold k0; omega
  have er0 : r0 x = x := by unfold r0; rw [e0]; omega
  have a1 : 0 ≤ k1 x ∧ k1 x ≤ 3 ∧ 0 ≤ r1 x ∧ (r1 x < 36524 ∨ k1 x = 3 ∧ r1 x ≤ 36524) := by unfold r1 k1; rw [er0]; omega
  have a2 : 0 ≤ k2 x ∧ k2 x ≤ 24 ∧ 0 ≤ r2 x ∧ (r2 x < 1461) ∧ (k2 x = 24 → r2 x ≤ 1459 ∨ k1 x = 3 ∧ r2 x ≤ 1460) := by unfold r2 k2; omega
  have a3 : 0 ≤ k3 x ∧ k3 x ≤ 3 ∧ 0 ≤ doy x ∧ (doy x < 365 ∨ k3 x = 3 ∧ doy x = 365 ∧ r2 x = 1460) := by unfold doy k3; omega
  have e2 : r1 x = r0 x - k1 x * 36524 := rfl
  have e3 : r2 x = r1 x - k2 x * 1461 := rfl
  have e4 : doy x = r2 x - k3 x * 365 := rfl
  refine ⟨k1 x, k2 x, k3 x, doy x, ⟨a1.1, a1.2.1⟩, ⟨a2.1, a2.2.1⟩, ⟨a3.1, a3.2.1⟩, ⟨a3.2.2.1, ?_⟩, ?_, ?_, ?_⟩
  · rcases a3.2.2.2 with h | ⟨_, h, _⟩
    · exact Int.le_of_lt h
    · rw [h]; decide
  · intro h
    rcases a3.2.2.2 with h3 | ⟨h3, h4, h5⟩
    · rw [h.2] at h3; exact absurd h3 (by decide)
    · rcases a2.2.2.2.2 h.1 with h6 | h6
      · rw [h5] at h6; exact absurd h6 (by decide)
      · exact h6.1
  · intro h
    rcases a3.2.2.2 with h3 | ⟨h3, _, _⟩
    · rw [h] at h3; exact absurd h3 (by decide)
    · exact h3
  · rw [e4, e3, e2, er0]; omega
theorem era_ok (x : Int) (h0 : 0 ≤ x) (h1 : x < 146097) : 0 ≤ yE x ∧ yE x ≤ 399 ∧ 0 ≤ dE x ∧ (dE x < 365 ∨ dE x = 365 ∧ lpB (yE x + 1) = true) := by
  obtain ⟨q, r, t, u, hq, hr, ht, hu, hl, h3, ex⟩ := e_parts x h0 h1
  have hy := e_y q r t u x hq hr ht hu hl h3 ex
  have hd := e_d q r t u x hq hr ht ex hy
  rw [hd, hy]
  clear ex hd hy h0 h1
  refine ⟨by omega, by omega, hu.1, ?_⟩
  by_cases h : u = 365
  · right
    refine ⟨h, ?_⟩
    rw [lpB_iff]
    have h3' := h3 h
    by_cases h24 : r = 24
    · have := hl ⟨h24, h⟩
      subst this; subst h24; subst h3'
      decide
    · subst h3'
      constructor
      · omega
      · left; omega
  · left; omega

/-- the reference's time of a day -/
def eD (n : Int) : Int := dayN n + 584694
def eY (n : Int) : Int := eD n / 146097 * 400 + yE (eD n % 146097)
def eK (n : Int) : Int := dE (eD n % 146097)
def eM (n : Int) : Int := (5 * eK n + 2) / 153
set_option maxHeartbeats 1000000 in
theorem era_time (n : Int) (hn : momB n = true) : tM n = (if 9 < eM n then eM n - 9 else eM n + 3) ∧ tY n = (if 9 < eM n then eY n + 1 else eY n) ∧ tD n = eK n - (153 * eM n + 2) / 5 + 1 ∧ 0 ≤ eM n ∧ eM n ≤ 11 ∧ 0 ≤ eK n ∧ eK n ≤ 365 ∧ 0 ≤ yE (eD n % 146097) ∧ yE (eD n % 146097) ≤ 399 := by
  have hn' := (momB_iff n).1 hn
  have hd : 0 ≤ dayN n ∧ dayN n ≤ 3067670 := by unfold dayN; omega
  have hx : 0 ≤ eD n % 146097 ∧ eD n % 146097 < 146097 := by omega
  obtain ⟨y0, y1, d0, d1⟩ := era_ok (eD n % 146097) hx.1 hx.2
  have hk : 0 ≤ eK n ∧ eK n ≤ 365 := by unfold eK; omega
  have hm : 0 ≤ eM n ∧ eM n ≤ 11 := by unfold eM; omega
  have hm2 : (153 * eM n + 2) / 5 ≤ eK n ∧ (eM n < 11 → eK n < (153 * (eM n + 1) + 2) / 5) := by unfold eM; omega
  obtain ⟨M, hM⟩ : ∃ M, M = if 9 < eM n then eM n - 9 else eM n + 3 := ⟨_, rfl⟩
  obtain ⟨Y, hY⟩ : ∃ Y, Y = if 9 < eM n then eY n + 1 else eY n := ⟨_, rfl⟩
  obtain ⟨D, hD⟩ : ∃ D, D = eK n - (153 * eM n + 2) / 5 + 1 := ⟨_, rfl⟩
  have hM1 : 1 ≤ M ∧ M ≤ 12 := by rw [hM]; split <;> omega
  have hdm : dnM M = eM n := by unfold dnM; rw [hM]; by_cases h : 9 < eM n <;> simp only [h, if_true, if_false] <;> (split <;> omega)
  have hdy : dnY Y M = eY n := by unfold dnY; rw [hM, hY]; by_cases h : 9 < eM n <;> simp only [h, if_true, if_false] <;> (split <;> omega)
  have hnum : num Y M D = dayN n := by
    rw [← dn_eq Y M D hM1.1 hM1.2]
    unfold dnV
    rw [hdy, hdm, hD]
    have e1 : eY n / 400 = eD n / 146097 := by unfold eY; omega
    have e2 : eY n % 400 = yE (eD n % 146097) := by unfold eY; omega
    rw [e1, e2]
    have e3 : eK n = eD n % 146097 - (365 * yE (eD n % 146097) + yE (eD n % 146097) / 4 - yE (eD n % 146097) / 100) := rfl
    have e4 : eD n = dayN n + 584694 := rfl
    omega
  have hdim : 1 ≤ D ∧ D ≤ dim Y M := by
    refine ⟨by omega, ?_⟩
    by_cases h11 : eM n = 11
    · have : M = 2 := by rw [hM, h11]; rfl
      subst this
      have hlp := lp_01 Y
      have ed : dim Y 2 = 28 + lp Y := by unfold dim; simp
      rw [ed, hD, h11]
      rcases d1 with h | ⟨h, hl⟩
      · have : eK n < 365 := h
        omega
      · have : eK n = 365 := h
        have hl2 : lpB Y = true := by
          rw [hY, h11]
          rw [lpB_iff] at hl ⊢
          unfold eY
          simp only [show (9 : Int) < 11 from by omega, if_true]
          omega
        have : lp Y = 1 := by unfold lp; rw [hl2]; rfl
        omega
    · have hk2 := hm2.2 (by omega)
      have hmm : eM n = 0 ∨ eM n = 1 ∨ eM n = 2 ∨ eM n = 3 ∨ eM n = 4 ∨ eM n = 5 ∨ eM n = 6 ∨ eM n = 7 ∨ eM n = 8 ∨ eM n = 9 ∨ eM n = 10 := by omega
      rw [hD]
      rcases hmm with h | h | h | h | h | h | h | h | h | h | h <;> (rw [h] at hM hk2 ⊢; simp at hM; subst hM; simp [dim]; omega)
  have hYb : 1601 ≤ Y ∧ Y ≤ 9999 := by
    have hc := cum_bd Y M hM1.1 (by omega)
    have hcs := cum_succ Y M hM1.1 hM1.2
    have hcm := cum_mono Y (M + 1) 13 (by omega) (by omega) (by omega)
    rw [cum_13] at hcm
    have hst := dby_step Y
    have hnn : dby Y + cum Y M + D - 1 = dayN n := hnum
    constructor
    · rcases Int.lt_or_le Y 1601 with h | h
      · have : dby (Y + 1) ≤ 0 := by unfold dby; omega
        omega
      · exact h
    · rcases Int.lt_or_le 9999 Y with h | h
      · have : 3067671 ≤ dby Y := by unfold dby; omega
        omega
      · exact h
  have hv : vldB Y M D (tH n) (tI n) (tS n) = true := by
    rw [vldB_iff]
    have h1 : 0 ≤ tH n ∧ tH n ≤ 23 := by unfold tH secN; omega
    have h2 : 0 ≤ tI n ∧ tI n ≤ 59 := by unfold tI secN; omega
    have h3 : 0 ≤ tS n ∧ tS n ≤ 59 := by unfold tS secN; omega
    omega
  have hmo : momOf Y M D (tH n) (tI n) (tS n) = n := by
    unfold momOf
    rw [hnum]
    have hs0 : 0 ≤ secN n := by unfold secN; omega
    have hh : tH n * 3600 + tI n * 60 + tS n = secN n := by unfold tH tI tS; omega
    have ds : dayN n * 86400 + secN n = n + 11644473600 := by unfold dayN secN; omega
    omega
  have ht := time_of Y M D (tH n) (tI n) (tS n) hv
  rw [hmo] at ht
  exact ⟨ht.2.1.trans hM, ht.1.trans hY, ht.2.2.1.trans hD, hm.1, hm.2, hk.1, hk.2, y0, y1⟩
end Go.Proofs.Ytmjcgkjkhpjgbaa
