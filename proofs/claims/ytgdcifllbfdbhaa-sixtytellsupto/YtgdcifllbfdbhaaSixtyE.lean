/- What must be in any case of letters. -/
import Derived.Test.YtgdcifllbfdbhaaSixtyD
namespace Go.Proofs.Ytgdcifllbfdbhaa
open Go.RowKit Go.Lib
set_option linter.all false
set_option maxRecDepth 100000

theorem txt_data (s : ByteArray) : s = txt s.data.toList := rfl
theorem sb_w : wT [255, 239, 190, 63] = [95, 45, 45, 45, 80, 119] ∧ wE [255, 239, 190, 63] = 0 := by decide +kernel
theorem sb_r : uT [95, 45, 45, 45] = [255, 239, 190] ∧ uE [95, 45, 45, 45] = 0 := by decide +kernel
theorem sb_r2 : uT [95, 45, 66] = [] ∧ uE [95, 45, 66] = 1 := by decide +kernel
theorem sb_r3 : uT [65] = [] ∧ uE [65] = 1 := by decide +kernel
set_option maxHeartbeats 2000000 in
theorem sixtyBegun_any (w : World) : Calls Try.prog 14 #[] w fun e w' => e = .returned (.bool true) ∧ Below w.heap.size w w' := by
  have k1 : Hid (∀ w', Calls Try.prog 10 #[.string (txt [255, 239, 190, 63])] w' fun e w'' => e = .returned (.tuple #[.string (txt [95, 45, 45, 45, 80, 119]), .int .i64 0]) ∧ Below w'.heap.size w' w'') := fun w' => by
    have h := sixtyW_any [255, 239, 190, 63] w' (by decide)
    rw [sb_w.1, sb_w.2] at h; exact h
  have k2 : Hid (∀ w', Calls Try.prog 11 #[.string (txt [95, 45, 45, 45])] w' fun e w'' => e = .returned (.tuple #[.string (txt [255, 239, 190]), .int .i64 0]) ∧ Below w'.heap.size w' w'') := fun w' => by
    have h := sixtyR_any [95, 45, 45, 45] w' (by decide)
    rw [sb_r.1, sb_r.2] at h; exact h
  have k3 : Hid (∀ w', Calls Try.prog 11 #[.string (txt [95, 45, 66])] w' fun e w'' => e = .returned (.tuple #[.string (txt []), .int .i64 1]) ∧ Below w'.heap.size w' w'') := fun w' => by
    have h := sixtyR_any [95, 45, 66] w' (by decide)
    rw [sb_r2.1, sb_r2.2] at h; exact h
  have k4 : Hid (∀ w', Calls Try.prog 11 #[.string (txt [65])] w' fun e w'' => e = .returned (.tuple #[.string (txt []), .int .i64 1]) ∧ Below w'.heap.size w' w'') := fun w' => by
    have h := sixtyR_any [65] w' (by decide)
    rw [sb_r3.1, sb_r3.2] at h; exact h
  obtain ⟨E, hE⟩ : ∃ E, E = txt [95, 45, 45, 45, 80, 119] := ⟨_, rfl⟩
  obtain ⟨F, hF⟩ : ∃ F, F = txt [255, 239, 190] := ⟨_, rfl⟩
  obtain ⟨G, hG⟩ : ∃ G, G = txt [] := ⟨_, rfl⟩
  rw [← hE] at k1
  rw [← hF] at k2
  rw [← hG] at k3 k4
  have e1 : (E.toList == [95, 45, 45, 45, 80, 119]) = true := by rw [hE, Lib.toList_data]; rfl
  have e2 : (F.toList == [255, 239, 190]) = true := by rw [hF, Lib.toList_data]; rfl
  clear hE hF hG
  go_enter Try.func14, Try.ntmps14
  go_wp2_with fail
  refine (k1.out _).mono ?_
  rintro e w1 ⟨rfl, hb1⟩
  have B1 : Hid _ := hb1
  clear hb1
  go_wp2_with fail
  refine (k2.out _).mono ?_
  rintro e w2 ⟨rfl, hb2⟩
  have B2 : Hid _ := next B1.out hb2
  clear hb2
  go_wp2_with fail
  refine (k3.out _).mono ?_
  rintro e w3 ⟨rfl, hb3⟩
  have B3 : Hid _ := next B2.out hb3
  clear hb3
  go_wp2_with fail
  refine (k4.out _).mono ?_
  rintro e w4 ⟨rfl, hb4⟩
  have B4 : Hid _ := next B3.out hb4
  clear hb4
  go_wp2_with fail
  go_ret
  exact ⟨rfl, B4.out⟩
end Go.Proofs.Ytgdcifllbfdbhaa
