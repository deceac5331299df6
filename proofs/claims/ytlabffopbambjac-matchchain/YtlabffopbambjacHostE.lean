/- What the statements on hosts ask first: some calls at known texts. -/
import Derived.Test.YtlabffopbambjacHostD
namespace Go.Proofs.Ytlabffopbambjac
open Go.RowKit
set_option linter.all false

theorem hbeg_canon1 (w : World) : Calls Try.prog 7 #[.string ⟨#[87, 87, 87, 46, 69, 120, 97, 109, 112, 108, 101, 46, 67, 79, 77]⟩] w fun e w' =>
    e = .returned (.tuple #[.string ⟨#[119, 119, 119, 46, 101, 120, 97, 109, 112, 108, 101, 46, 99, 111, 109]⟩, .int .i64 0]) ∧ Below w.heap.size w w' :=
  (canon_any ⟨#[87, 87, 87, 46, 69, 120, 97, 109, 112, 108, 101, 46, 67, 79, 77]⟩ w (by decide)).mono (fun e w' h => ⟨h.1.trans (by
    rw [show canonL [87, 87, 87, 46, 69, 120, 97, 109, 112, 108, 101, 46, 67, 79, 77] = [119, 119, 119, 46, 101, 120, 97, 109, 112, 108, 101, 46, 99, 111, 109] from by decide +kernel, show canonE [87, 87, 87, 46, 69, 120, 97, 109, 112, 108, 101, 46, 67, 79, 77] = 0 from by decide +kernel]; rfl), h.2⟩)
theorem hbeg_canon2 (w : World) : Calls Try.prog 7 #[.string ⟨#[97, 46, 46, 98]⟩] w fun e w' =>
    e = .returned (.tuple #[.string ⟨#[]⟩, .int .i64 1]) ∧ Below w.heap.size w w' :=
  (canon_any ⟨#[97, 46, 46, 98]⟩ w (by decide)).mono (fun e w' h => ⟨h.1.trans (by
    rw [show canonL [97, 46, 46, 98] = [] from by decide +kernel, show canonE [97, 46, 46, 98] = 1 from by decide +kernel]; rfl), h.2⟩)
theorem hbeg_addr1 (w : World) : Calls Try.prog 10 #[.string ⟨#[49, 48, 46, 48, 46, 48, 46, 50, 53, 53]⟩] w fun e w' =>
    e = .returned (.bool true) ∧ Below w.heap.size w w' :=
  (address_any ⟨#[49, 48, 46, 48, 46, 48, 46, 50, 53, 53]⟩ w (by decide)).mono (fun e w' h => ⟨h.1.trans (by rw [show addrL [49, 48, 46, 48, 46, 48, 46, 50, 53, 53] = true from by decide +kernel]), h.2⟩)
theorem hbeg_addr2 (w : World) : Calls Try.prog 10 #[.string ⟨#[49, 48, 46, 48, 46, 48, 46, 50, 53, 54]⟩] w fun e w' =>
    e = .returned (.bool false) ∧ Below w.heap.size w w' :=
  (address_any ⟨#[49, 48, 46, 48, 46, 48, 46, 50, 53, 54]⟩ w (by decide)).mono (fun e w' h => ⟨h.1.trans (by rw [show addrL [49, 48, 46, 48, 46, 48, 46, 50, 53, 54] = false from by decide +kernel]), h.2⟩)
theorem hbeg_match1 (w : World) : Calls Try.prog 12 #[.string ⟨#[119, 119, 119, 46, 101, 120, 97, 109, 112, 108, 101, 46, 99, 111, 109]⟩, .string ⟨#[101, 120, 97, 109, 112, 108, 101, 46, 99, 111, 109]⟩] w fun e w' =>
    e = .returned (.bool true) ∧ Below w.heap.size w w' :=
  (match_any ⟨#[119, 119, 119, 46, 101, 120, 97, 109, 112, 108, 101, 46, 99, 111, 109]⟩ ⟨#[101, 120, 97, 109, 112, 108, 101, 46, 99, 111, 109]⟩ w (by decide) (by decide)).mono (fun e w' h => ⟨h.1.trans (by rw [show matchL [119, 119, 119, 46, 101, 120, 97, 109, 112, 108, 101, 46, 99, 111, 109] [101, 120, 97, 109, 112, 108, 101, 46, 99, 111, 109] = true from by decide +kernel]), h.2⟩)
theorem hbeg_match2 (w : World) : Calls Try.prog 12 #[.string ⟨#[119, 119, 119, 101, 120, 97, 109, 112, 108, 101, 46, 99, 111, 109]⟩, .string ⟨#[101, 120, 97, 109, 112, 108, 101, 46, 99, 111, 109]⟩] w fun e w' =>
    e = .returned (.bool false) ∧ Below w.heap.size w w' :=
  (match_any ⟨#[119, 119, 119, 101, 120, 97, 109, 112, 108, 101, 46, 99, 111, 109]⟩ ⟨#[101, 120, 97, 109, 112, 108, 101, 46, 99, 111, 109]⟩ w (by decide) (by decide)).mono (fun e w' h => ⟨h.1.trans (by rw [show matchL [119, 119, 119, 101, 120, 97, 109, 112, 108, 101, 46, 99, 111, 109] [101, 120, 97, 109, 112, 108, 101, 46, 99, 111, 109] = false from by decide +kernel]), h.2⟩)
theorem hbeg_match3 (w : World) : Calls Try.prog 12 #[.string ⟨#[49, 46, 49, 48, 46, 48, 46, 48]⟩, .string ⟨#[49, 48, 46, 48, 46, 48]⟩] w fun e w' =>
    e = .returned (.bool false) ∧ Below w.heap.size w w' :=
  (match_any ⟨#[49, 46, 49, 48, 46, 48, 46, 48]⟩ ⟨#[49, 48, 46, 48, 46, 48]⟩ w (by decide) (by decide)).mono (fun e w' h => ⟨h.1.trans (by rw [show matchL [49, 46, 49, 48, 46, 48, 46, 48] [49, 48, 46, 48, 46, 48] = false from by decide +kernel]), h.2⟩)
theorem hbeg_ups (w : World) : Calls Try.prog 15 #[.string ⟨#[97, 46, 98, 46, 99]⟩] w fun e w' => ∃ v, e = .returned v ∧
    w'.ownsRow w.heap.size 9 1 v 3 (strs [[97, 46, 98, 46, 99], [98, 46, 99], [99]]) ∧ Below w.heap.size w w' := by
  have h := ups_any ⟨#[97, 46, 98, 46, 99]⟩ w (by decide)
  have e : upsL [97, 46, 98, 46, 99] = [[97, 46, 98, 46, 99], [98, 46, 99], [99]] := by decide +kernel
  rw [show (⟨#[97, 46, 98, 46, 99]⟩ : ByteArray).data.toList = [97, 46, 98, 46, 99] from rfl, e] at h
  exact h
theorem hbeg_same (w : World) (va vb : Value) (ha : Reads w va 3 (strs [[97, 46, 98, 46, 99], [98, 46, 99], [99]])) (hb : Reads w vb 3 (strs [[97, 46, 98, 46, 99], [98, 46, 99], [99]])) : Calls Try.prog 14 #[va, vb] w fun e w' =>
    e = .returned (.bool true) ∧ ∃ n, w' = w.drewN n :=
  (same_any va vb [[97, 46, 98, 46, 99], [98, 46, 99], [99]] [[97, 46, 98, 46, 99], [98, 46, 99], [99]] w ha hb (by decide) (by decide)).mono (fun e w' h => ⟨h.1.trans (by rw [beq_self_eq_true]), h.2⟩)
theorem hbeg_lit (w : World) (B : Nat) (hB : B = w.heap.size) : Reads (w.alloc (.cells #[.string ⟨#[97, 46, 98, 46, 99]⟩, .string ⟨#[98, 46, 99]⟩, .string ⟨#[99]⟩] 9)) (.slice (some ⟨B, 0, none⟩) 3 3) 3 (strs [[97, 46, 98, 46, 99], [98, 46, 99], [99]]) := by
  subst hB
  exact Reads.of_own (World.ownsRow_lit (base := 0) (size := 1) (e := 9) w #[.string ⟨#[97, 46, 98, 46, 99]⟩, .string ⟨#[98, 46, 99]⟩, .string ⟨#[99]⟩] 3 (Nat.zero_le _) (by decide) rfl)
set_option maxHeartbeats 1000000 in
theorem hostBegun_any (w : World) : Calls Try.prog 9 #[] w fun e w' => e = .returned (.bool true) ∧ Below w.heap.size w w' := by
  go_enter Try.func9, Try.ntmps9
  go_wp2_with fail
  refine (hbeg_canon1 _).mono ?_
  rintro e w1 ⟨rfl, hb1⟩
  go_wp2_with fail
  refine (hbeg_canon2 _).mono ?_
  rintro e w2 ⟨rfl, hb2⟩
  go_wp2_with fail
  refine (hbeg_addr1 _).mono ?_
  rintro e w3 ⟨rfl, hb3⟩
  go_wp2_with fail
  refine (hbeg_addr2 _).mono ?_
  rintro e w4 ⟨rfl, hb4⟩
  go_wp2_with fail
  refine (hbeg_match1 _).mono ?_
  rintro e w5 ⟨rfl, hb5⟩
  go_wp2_with fail
  refine (hbeg_match2 _).mono ?_
  rintro e w6 ⟨rfl, hb6⟩
  go_wp2_with fail
  refine (hbeg_match3 _).mono ?_
  rintro e w7 ⟨rfl, hb7⟩
  go_wp2_with fail
  refine (hbeg_ups _).mono ?_
  rintro e w8 ⟨v8, rfl, hown8, hb8⟩
  have g8 : Below w.heap.size w w8 := next (next (next (next (next (next (next hb1 hb2) hb3) hb4) hb5) hb6) hb7) hb8
  clear hb1 hb2 hb3 hb4 hb5 hb6 hb7 hb8
  go_wp2_with fail
  refine (hbeg_same _ _ _ ((Reads.of_own hown8).below ((Below.refl _ _).alloc (Nat.le_refl _) _) (Nat.le_refl _)) (hbeg_lit _ _ rfl)).mono ?_
  rintro e w9 ⟨rfl, n9, rfl⟩
  go_wp2_with fail
  go_ret
  exact ⟨rfl, (g8.alloc g8.size _).trans (below_drewN' _ _ _)⟩
end Go.Proofs.Ytlabffopbambjac
