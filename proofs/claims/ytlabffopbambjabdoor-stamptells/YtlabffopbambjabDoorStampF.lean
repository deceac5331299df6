/- What the statements on dates ask first: some calls at known texts. -/
import Derived.Test.YtlabffopbambjabDoorStampE
namespace Go.Proofs.YtlabffopbambjabDoor
open Go.RowKit
set_option linter.all false

theorem sbeg_read1 (w : World) (T : STabs w) : Calls Tryd.prog 14 #[.string ⟨#[83, 117, 110, 44, 32, 48, 54, 32, 78, 111, 118, 32, 49, 57, 57, 52, 32, 48, 56, 58, 52, 57, 58, 51, 55, 32, 71, 77, 84]⟩] w fun e w' =>
    e = .returned (.tuple #[.int .i64 784111777, .int .i64 0]) ∧ Below w.heap.size w w' :=
  (sread_any ⟨#[83, 117, 110, 44, 32, 48, 54, 32, 78, 111, 118, 32, 49, 57, 57, 52, 32, 48, 56, 58, 52, 57, 58, 51, 55, 32, 71, 77, 84]⟩ w (by decide) T).mono (fun e w' h => ⟨h.1.trans (by
    rw [show readV [83, 117, 110, 44, 32, 48, 54, 32, 78, 111, 118, 32, 49, 57, 57, 52, 32, 48, 56, 58, 52, 57, 58, 51, 55, 32, 71, 77, 84] = 784111777 from by decide +kernel, show readE [83, 117, 110, 44, 32, 48, 54, 32, 78, 111, 118, 32, 49, 57, 57, 52, 32, 48, 56, 58, 52, 57, 58, 51, 55, 32, 71, 77, 84] = 0 from by decide +kernel]), h.2⟩)
theorem sbeg_read2 (w : World) (T : STabs w) : Calls Tryd.prog 14 #[.string ⟨#[110, 111, 118, 45, 48, 54, 45, 57, 52, 32, 56, 58, 52, 57, 58, 51, 55, 122, 111, 110, 101]⟩] w fun e w' =>
    e = .returned (.tuple #[.int .i64 784111777, .int .i64 0]) ∧ Below w.heap.size w w' :=
  (sread_any ⟨#[110, 111, 118, 45, 48, 54, 45, 57, 52, 32, 56, 58, 52, 57, 58, 51, 55, 122, 111, 110, 101]⟩ w (by decide) T).mono (fun e w' h => ⟨h.1.trans (by
    rw [show readV [110, 111, 118, 45, 48, 54, 45, 57, 52, 32, 56, 58, 52, 57, 58, 51, 55, 122, 111, 110, 101] = 784111777 from by decide +kernel, show readE [110, 111, 118, 45, 48, 54, 45, 57, 52, 32, 56, 58, 52, 57, 58, 51, 55, 122, 111, 110, 101] = 0 from by decide +kernel]), h.2⟩)
theorem sbeg_read3 (w : World) (T : STabs w) : Calls Tryd.prog 14 #[.string ⟨#[48, 54, 32, 78, 111, 118, 32, 49, 57, 57, 52]⟩] w fun e w' =>
    e = .returned (.tuple #[.int .i64 0, .int .i64 1]) ∧ Below w.heap.size w w' :=
  (sread_any ⟨#[48, 54, 32, 78, 111, 118, 32, 49, 57, 57, 52]⟩ w (by decide) T).mono (fun e w' h => ⟨h.1.trans (by
    rw [show readV [48, 54, 32, 78, 111, 118, 32, 49, 57, 57, 52] = 0 from by decide +kernel, show readE [48, 54, 32, 78, 111, 118, 32, 49, 57, 57, 52] = 1 from by decide +kernel]), h.2⟩)
theorem sbeg_read4 (w : World) (T : STabs w) : Calls Tryd.prog 14 #[.string ⟨#[51, 49, 32, 70, 101, 98, 32, 50, 48, 48, 48, 32, 48, 48, 58, 48, 48, 58, 48, 48]⟩] w fun e w' =>
    e = .returned (.tuple #[.int .i64 0, .int .i64 3]) ∧ Below w.heap.size w w' :=
  (sread_any ⟨#[51, 49, 32, 70, 101, 98, 32, 50, 48, 48, 48, 32, 48, 48, 58, 48, 48, 58, 48, 48]⟩ w (by decide) T).mono (fun e w' h => ⟨h.1.trans (by
    rw [show readV [51, 49, 32, 70, 101, 98, 32, 50, 48, 48, 48, 32, 48, 48, 58, 48, 48, 58, 48, 48] = 0 from by decide +kernel, show readE [51, 49, 32, 70, 101, 98, 32, 50, 48, 48, 48, 32, 48, 48, 58, 48, 48, 58, 48, 48] = 3 from by decide +kernel]), h.2⟩)
theorem sbeg_write (w : World) (T : STabs w) : Calls Tryd.prog 15 #[.int .i64 784111777] w fun e w' =>
    e = .returned (.tuple #[.string ⟨#[83, 117, 110, 44, 32, 48, 54, 32, 78, 111, 118, 32, 49, 57, 57, 52, 32, 48, 56, 58, 52, 57, 58, 51, 55, 32, 71, 77, 84]⟩, .int .i64 0]) ∧ Below w.heap.size w w' :=
  (swrite_yes 784111777 (by decide) w T).mono (fun e w' h => ⟨h.1.trans (by
    rw [show writeL 784111777 = [83, 117, 110, 44, 32, 48, 54, 32, 78, 111, 118, 32, 49, 57, 57, 52, 32, 48, 56, 58, 52, 57, 58, 51, 55, 32, 71, 77, 84] from by decide +kernel]; rfl), h.2⟩)
set_option maxHeartbeats 1000000 in
theorem stampBegun_any (w : World) (T : STabs w) : Calls Tryd.prog 18 #[] w fun e w' => e = .returned (.bool true) ∧ Below w.heap.size w w' := by
  have TH : Hid _ := T
  clear T
  go_enter Tryd.func18, Tryd.ntmps18
  go_wp2_with fail
  refine (sbeg_read1 _ TH.out).mono ?_
  rintro e w1 ⟨rfl, g1⟩
  go_wp2_with fail
  refine (sbeg_read2 _ (TH.out.below g1 (Nat.le_refl _))).mono ?_
  rintro e w2 ⟨rfl, hb2⟩
  have g2 := next g1 hb2
  clear g1 hb2
  go_wp2_with fail
  refine (sbeg_write _ (TH.out.below g2 (Nat.le_refl _))).mono ?_
  rintro e w3 ⟨rfl, hb3⟩
  have g3 := next g2 hb3
  clear g2 hb3
  go_wp2_with fail
  refine (sbeg_read3 _ (TH.out.below g3 (Nat.le_refl _))).mono ?_
  rintro e w4 ⟨rfl, hb4⟩
  have g4 := next g3 hb4
  clear g3 hb4
  go_wp2_with fail
  refine (sbeg_read4 _ (TH.out.below g4 (Nat.le_refl _))).mono ?_
  rintro e w5 ⟨rfl, hb5⟩
  have g5 := next g4 hb5
  clear g4 hb5
  go_wp2_with fail
  go_ret
  exact ⟨rfl, g5⟩
end Go.Proofs.YtlabffopbambjabDoor
