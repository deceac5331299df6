/- What the statements on public suffixes ask first: some calls at known rules and hosts. -/
import Derived.Test.YtmbkgcloliahhacSuffixE
namespace Go.Proofs.Ytmbkgcloliahhac
open Go.RowKit Go.Maps
set_option linter.all false

def sufL0 : Rules := [(1, [99, 111, 109]), (1, [99, 111, 46, 117, 107]), (2, [99, 107]), (3, [119, 119, 119, 46, 99, 107])]
theorem sufL0_ok : ∀ r ∈ sufL0, okR r := by
  intro r hr
  simp only [sufL0, List.mem_cons, List.not_mem_nil, or_false] at hr
  rcases hr with rfl | rfl | rfl | rfl <;> exact ⟨⟨by decide, by decide⟩, by decide⟩
set_option maxHeartbeats 1000000 in
theorem suffixes_any (w : World) : Calls Try.prog 43 #[] w fun e w' => ∃ v, e = .returned v ∧ Rows w' v sufF sufL0 ∧ Below w.heap.size w w' := by
  go_enter Try.func43, Try.ntmps43
  go_wp2_with fail
  go_ret
  exact ⟨_, rfl, Rows.lit w sufL0 _ _ _ _ _ rfl rfl rfl, (Below.refl _ _).alloc (Nat.le_refl _) _⟩
theorem sbeg_1 (v : Value) (w : World) (hr : Rows w v sufF sufL0) : Calls Try.prog 20 #[v, .string ⟨#[97, 46, 98, 46, 99, 111, 46, 117, 107]⟩] w fun e w' => e = .returned (.tuple #[.string ⟨#[99, 111, 46, 117, 107]⟩, .int .i64 0]) ∧ Below w.heap.size w w' :=
  (Public_any v sufL0 ⟨#[97, 46, 98, 46, 99, 111, 46, 117, 107]⟩ w hr (by decide) sufL0_ok (by decide)).mono (fun e w' h => ⟨h.1.trans (by
    rw [show pubA sufL0 [97, 46, 98, 46, 99, 111, 46, 117, 107] = [99, 111, 46, 117, 107] from by decide +kernel, show pubE sufL0 [97, 46, 98, 46, 99, 111, 46, 117, 107] = 0 from by decide +kernel]; rfl), h.2⟩)
theorem sbeg_2 (v : Value) (w : World) (hr : Rows w v sufF sufL0) : Calls Try.prog 21 #[v, .string ⟨#[97, 46, 98, 46, 99, 111, 46, 117, 107]⟩] w fun e w' => e = .returned (.tuple #[.string ⟨#[98, 46, 99, 111, 46, 117, 107]⟩, .int .i64 0]) ∧ Below w.heap.size w w' :=
  (Owner_any v sufL0 ⟨#[97, 46, 98, 46, 99, 111, 46, 117, 107]⟩ w hr (by decide) sufL0_ok (by decide)).mono (fun e w' h => ⟨h.1.trans (by
    rw [show ownA sufL0 [97, 46, 98, 46, 99, 111, 46, 117, 107] = [98, 46, 99, 111, 46, 117, 107] from by decide +kernel, show ownE sufL0 [97, 46, 98, 46, 99, 111, 46, 117, 107] = 0 from by decide +kernel]; rfl), h.2⟩)
theorem sbeg_3 (v : Value) (w : World) (hr : Rows w v sufF sufL0) : Calls Try.prog 20 #[v, .string ⟨#[120, 46, 111, 116, 104, 101, 114, 46, 99, 107]⟩] w fun e w' => e = .returned (.tuple #[.string ⟨#[111, 116, 104, 101, 114, 46, 99, 107]⟩, .int .i64 0]) ∧ Below w.heap.size w w' :=
  (Public_any v sufL0 ⟨#[120, 46, 111, 116, 104, 101, 114, 46, 99, 107]⟩ w hr (by decide) sufL0_ok (by decide)).mono (fun e w' h => ⟨h.1.trans (by
    rw [show pubA sufL0 [120, 46, 111, 116, 104, 101, 114, 46, 99, 107] = [111, 116, 104, 101, 114, 46, 99, 107] from by decide +kernel, show pubE sufL0 [120, 46, 111, 116, 104, 101, 114, 46, 99, 107] = 0 from by decide +kernel]; rfl), h.2⟩)
theorem sbeg_4 (v : Value) (w : World) (hr : Rows w v sufF sufL0) : Calls Try.prog 21 #[v, .string ⟨#[120, 46, 119, 119, 119, 46, 99, 107]⟩] w fun e w' => e = .returned (.tuple #[.string ⟨#[119, 119, 119, 46, 99, 107]⟩, .int .i64 0]) ∧ Below w.heap.size w w' :=
  (Owner_any v sufL0 ⟨#[120, 46, 119, 119, 119, 46, 99, 107]⟩ w hr (by decide) sufL0_ok (by decide)).mono (fun e w' h => ⟨h.1.trans (by
    rw [show ownA sufL0 [120, 46, 119, 119, 119, 46, 99, 107] = [119, 119, 119, 46, 99, 107] from by decide +kernel, show ownE sufL0 [120, 46, 119, 119, 119, 46, 99, 107] = 0 from by decide +kernel]; rfl), h.2⟩)
theorem sbeg_5 (v : Value) (w : World) (hr : Rows w v sufF sufL0) : Calls Try.prog 21 #[v, .string ⟨#[99, 111, 109]⟩] w fun e w' => e = .returned (.tuple #[.string ⟨#[]⟩, .int .i64 5]) ∧ Below w.heap.size w w' :=
  (Owner_any v sufL0 ⟨#[99, 111, 109]⟩ w hr (by decide) sufL0_ok (by decide)).mono (fun e w' h => ⟨h.1.trans (by
    rw [show ownA sufL0 [99, 111, 109] = [] from by decide +kernel, show ownE sufL0 [99, 111, 109] = 5 from by decide +kernel]; rfl), h.2⟩)
theorem sbeg_6 (v : Value) (w : World) (hr : Rows w v sufF sufL0) : Calls Try.prog 21 #[v, .string ⟨#[49, 48, 46, 48, 46, 48, 46, 49]⟩] w fun e w' => e = .returned (.tuple #[.string ⟨#[49, 48, 46, 48, 46, 48, 46, 49]⟩, .int .i64 0]) ∧ Below w.heap.size w w' :=
  (Owner_any v sufL0 ⟨#[49, 48, 46, 48, 46, 48, 46, 49]⟩ w hr (by decide) sufL0_ok (by decide)).mono (fun e w' h => ⟨h.1.trans (by
    rw [show ownA sufL0 [49, 48, 46, 48, 46, 48, 46, 49] = [49, 48, 46, 48, 46, 48, 46, 49] from by decide +kernel, show ownE sufL0 [49, 48, 46, 48, 46, 48, 46, 49] = 0 from by decide +kernel]; rfl), h.2⟩)
def sufL1 : Rules := [(3, [99, 107])]
theorem sbeg_7 (v : Value) (w : World) (hr : Rows w v sufF sufL1) : Calls Try.prog 25 #[v] w fun e w' => e = .returned (.int .i64 1) ∧ Below w.heap.size w w' :=
  (check_any v sufL1 w hr (by decide) (fun r hr => by rw [show r = (3, [99, 107]) from by simpa [sufL1] using hr]; exact ⟨⟨by decide, by decide⟩, by decide⟩)).mono (fun e w' h => ⟨h.1.trans (by rw [show sufE sufL1 = 1 from by decide +kernel]), h.2⟩)
set_option maxHeartbeats 2000000 in
theorem suffixBegun_any (w : World) : Calls Try.prog 24 #[] w fun e w' => e = .returned (.bool true) ∧ Below w.heap.size w w' := by
  go_enter Try.func24, Try.ntmps24
  have g0 : Below w.heap.size w w := Below.refl _ _
  go_wp2_with fail
  refine (suffixes_any _).mono ?_
  rintro e wa1 ⟨va1, rfl, hr1, ha1⟩
  have ga1 := next g0 ha1
  clear g0 ha1
  go_wp2_with fail
  refine (sbeg_1 _ _ hr1).mono ?_
  rintro e w1 ⟨rfl, hb1⟩
  have g1 := next ga1 hb1
  clear ga1 hb1 hr1
  go_wp2_with fail
  refine (suffixes_any _).mono ?_
  rintro e wa2 ⟨va2, rfl, hr2, ha2⟩
  have ga2 := next g1 ha2
  clear g1 ha2
  go_wp2_with fail
  refine (sbeg_2 _ _ hr2).mono ?_
  rintro e w2 ⟨rfl, hb2⟩
  have g2 := next ga2 hb2
  clear ga2 hb2 hr2
  go_wp2_with fail
  refine (suffixes_any _).mono ?_
  rintro e wa3 ⟨va3, rfl, hr3, ha3⟩
  have ga3 := next g2 ha3
  clear g2 ha3
  go_wp2_with fail
  refine (sbeg_3 _ _ hr3).mono ?_
  rintro e w3 ⟨rfl, hb3⟩
  have g3 := next ga3 hb3
  clear ga3 hb3 hr3
  go_wp2_with fail
  refine (suffixes_any _).mono ?_
  rintro e wa4 ⟨va4, rfl, hr4, ha4⟩
  have ga4 := next g3 ha4
  clear g3 ha4
  go_wp2_with fail
  refine (sbeg_4 _ _ hr4).mono ?_
  rintro e w4 ⟨rfl, hb4⟩
  have g4 := next ga4 hb4
  clear ga4 hb4 hr4
  go_wp2_with fail
  refine (suffixes_any _).mono ?_
  rintro e wa5 ⟨va5, rfl, hr5, ha5⟩
  have ga5 := next g4 ha5
  clear g4 ha5
  go_wp2_with fail
  refine (sbeg_5 _ _ hr5).mono ?_
  rintro e w5 ⟨rfl, hb5⟩
  have g5 := next ga5 hb5
  clear ga5 hb5 hr5
  go_wp2_with fail
  refine (suffixes_any _).mono ?_
  rintro e wa6 ⟨va6, rfl, hr6, ha6⟩
  have ga6 := next g5 ha6
  clear g5 ha6
  go_wp2_with fail
  refine (sbeg_6 _ _ hr6).mono ?_
  rintro e w6 ⟨rfl, hb6⟩
  have g6 := next ga6 hb6
  clear ga6 hb6 hr6
  go_wp2_with fail
  refine (sbeg_7 _ _ (Rows.lit w6 sufL1 _ _ _ _ _ rfl rfl rfl)).mono ?_
  rintro e w7 ⟨rfl, hb7⟩
  have g7 := next (g6.alloc g6.size _) hb7
  go_wp2_with fail
  go_ret
  exact ⟨rfl, g7⟩
end Go.Proofs.Ytmbkgcloliahhac
