/- What the statements on words ask first: some calls at known texts. -/
import Derived.Test.YthdnlpojpbkpkaqWordH
namespace Go.Proofs.Ythdnlpojpbkpkaq
open Go.RowKit
set_option linter.all false

theorem beg_cut (w : World) : Calls Try.prog 9 #[.string ⟨#[110, 97, 109, 101, 61, 118, 97, 108, 117, 101, 61, 120]⟩, .int .u8 61] w fun e w' =>
    e = .returned (.tuple #[.string ⟨#[110, 97, 109, 101]⟩, .string ⟨#[118, 97, 108, 117, 101, 61, 120]⟩, .bool true]) ∧ ∃ n, w' = w.drewN n :=
  (cut_any ⟨#[110, 97, 109, 101, 61, 118, 97, 108, 117, 101, 61, 120]⟩ 61 w (by decide)).mono (fun e w' h => ⟨h.1.trans (by rfl), h.2⟩)
theorem beg_fold (w : World) : Calls Try.prog 10 #[.string ⟨#[83, 101, 116, 45, 67, 79, 79, 75, 73, 69, 195]⟩] w fun e w' =>
    e = .returned (.string ⟨#[115, 101, 116, 45, 99, 111, 111, 107, 105, 101, 195]⟩) ∧ Below w.heap.size w w' :=
  (fold_any ⟨#[83, 101, 116, 45, 67, 79, 79, 75, 73, 69, 195]⟩ w (by decide)).mono (fun e w' h => ⟨h.1.trans (by rfl), h.2⟩)
theorem beg_trim (w : World) : Calls Try.prog 11 #[.string ⟨#[32, 9, 97, 32, 98, 9, 32]⟩] w fun e w' =>
    e = .returned (.string ⟨#[97, 32, 98]⟩) ∧ w' = w :=
  (trim_any ⟨#[32, 9, 97, 32, 98, 9, 32]⟩ w (by decide)).mono (fun e w' h => ⟨h.1.trans (by rfl), h.2⟩)
theorem beg_tok1 (w : World) : Calls Try.prog 12 #[.string ⟨#[95, 95, 72, 111, 115, 116, 45, 105, 100]⟩] w fun e w' =>
    e = .returned (.bool true) ∧ w' = w :=
  (token_any ⟨#[95, 95, 72, 111, 115, 116, 45, 105, 100]⟩ w (by decide)).mono (fun e w' h => ⟨h.1.trans (by rfl), h.2⟩)
theorem beg_tok2 (w : World) : Calls Try.prog 12 #[.string ⟨#[97, 59, 98]⟩] w fun e w' =>
    e = .returned (.bool false) ∧ w' = w :=
  (token_any ⟨#[97, 59, 98]⟩ w (by decide)).mono (fun e w' h => ⟨h.1.trans (by rfl), h.2⟩)
theorem beg_tok3 (w : World) : Calls Try.prog 12 #[.string ⟨#[]⟩] w fun e w' =>
    e = .returned (.bool false) ∧ w' = w :=
  (token_any ⟨#[]⟩ w (by decide)).mono (fun e w' h => ⟨h.1.trans (by rfl), h.2⟩)
theorem beg_parts (w : World) : Calls Try.prog 5 #[.string ⟨#[97, 59, 59, 98]⟩, .int .u8 59] w fun e w' => ∃ v, e = .returned v ∧
    w'.ownsRow w.heap.size 9 1 v 3 (strs [[97], [], [98]]) ∧ Below w.heap.size w w' :=
  parts_any ⟨#[97, 59, 59, 98]⟩ 59 w (by decide)
theorem beg_same (w : World) (va vb : Value) (ha : Reads w va 3 (strs [[97], [], [98]])) (hb : Reads w vb 3 (strs [[97], [], [98]])) : Calls Try.prog 7 #[va, vb] w fun e w' =>
    e = .returned (.bool true) ∧ ∃ n, w' = w.drewN n :=
  (same_any va vb [[97], [], [98]] [[97], [], [98]] w ha hb (by decide) (by decide)).mono (fun e w' h => ⟨h.1.trans (by rfl), h.2⟩)
theorem beg_join (w : World) (va : Value) (ha : Reads w va 3 (strs [[97], [], [98]])) : Calls Try.prog 4 #[va, .int .u8 46] w fun e w' =>
    e = .returned (.string ⟨#[97, 46, 46, 98]⟩) ∧ Below w.heap.size w w' :=
  (join_any va [[97], [], [98]] 46 w ha (by decide) (by decide)).mono (fun e w' h => ⟨h.1.trans (by rfl), h.2⟩)
theorem beg_lit (w : World) (B : Nat) (hB : B = w.heap.size) : Reads (w.alloc (.cells #[.string ⟨#[97]⟩, .string ⟨#[]⟩, .string ⟨#[98]⟩] 9)) (.slice (some ⟨B, 0, none⟩) 3 3) 3 (strs [[97], [], [98]]) := by
  subst hB
  exact Reads.of_own (World.ownsRow_lit (base := 0) (size := 1) (e := 9) w #[.string ⟨#[97]⟩, .string ⟨#[]⟩, .string ⟨#[98]⟩] 3 (Nat.zero_le _) (by decide) rfl)

set_option maxHeartbeats 1000000 in
theorem wordBegun_any (w : World) : Calls Try.prog 6 #[] w fun e w' => e = .returned (.bool true) ∧ Below w.heap.size w w' := by
  go_enter Try.func6, Try.ntmps6
  go_wp2_with fail
  refine (beg_cut _).mono ?_
  rintro e w1 ⟨rfl, n1, rfl⟩
  go_wp2_with fail
  refine (beg_fold _).mono ?_
  rintro e w2 ⟨rfl, hb2⟩
  go_wp2_with fail
  refine (beg_trim _).mono ?_
  rintro e w3 ⟨rfl, rfl⟩
  go_wp2_with fail
  refine (beg_tok1 _).mono ?_
  rintro e w3 ⟨rfl, rfl⟩
  go_wp2_with fail
  refine (beg_tok2 _).mono ?_
  rintro e w3 ⟨rfl, rfl⟩
  go_wp2_with fail
  refine (beg_tok3 _).mono ?_
  rintro e w3 ⟨rfl, rfl⟩
  go_wp2_with fail
  refine (beg_parts _).mono ?_
  rintro e w4 ⟨v4, rfl, hown4, hb4⟩
  go_wp2_with fail
  refine (beg_same _ _ _ ((Reads.of_own hown4).below ((Below.refl _ _).alloc (Nat.le_refl _) _) (Nat.le_refl _)) (beg_lit _ _ rfl)).mono ?_
  rintro e w5 ⟨rfl, n5, rfl⟩
  go_wp2_with fail
  refine (beg_join _ _ (by exact beg_lit _ _ (by simp))).mono ?_
  rintro e w6 ⟨rfl, hb6⟩
  go_wp2_with fail
  go_ret
  refine ⟨rfl, ?_⟩
  have h2 := (below_drewN' w w.heap.size n1).trans hb2
  have h4 : Below w.heap.size w w4 := h2.trans (hb4.mono h2.size)
  have h5 := h4.alloc h4.size (.cells #[.string ⟨#[97]⟩, .string ⟨#[]⟩, .string ⟨#[98]⟩] 9)
  have h5' := h5.trans (below_drewN' _ _ n5)
  have h6 := h5'.alloc h5'.size (.cells #[.string ⟨#[97]⟩, .string ⟨#[]⟩, .string ⟨#[98]⟩] 9)
  exact h6.trans (hb6.mono h6.size)
end Go.Proofs.Ythdnlpojpbkpkaq
