/- What must be in any case of caps. -/
import Derived.Test.YtmjcgkjkhpjgbaaPolicyF
import Derived.Deep.Cut
import Derived.Deep.CutRange
import Derived.Deep.RegionWith
namespace Go.Proofs.Ytmjcgkjkhpjgbaa
open Go.RowKit
set_option linter.all false
set_option maxRecDepth 100000

theorem keepA {w w' : World} (h : Below w.heap.size w w') (o : Obj) : Below w.heap.size w (w'.alloc o) := h.alloc h.size o
theorem LRow.cells13 {W : World} {B : Nat} {a0 a1 a2 a3 a4 a5 a6 a7 a8 a9 a10 a11 a12 : Value} (h : LRow W B [a0, a1, a2, a3, a4, a5, a6, a7, a8, a9, a10, a11, a12]) : W.cell? ⟨B, 0, none⟩ = some a0 ∧ W.cell? ⟨B, 1, none⟩ = some a1 ∧ W.cell? ⟨B, 2, none⟩ = some a2 ∧ W.cell? ⟨B, 3, none⟩ = some a3 ∧ W.cell? ⟨B, 4, none⟩ = some a4 ∧ W.cell? ⟨B, 5, none⟩ = some a5 ∧ W.cell? ⟨B, 6, none⟩ = some a6 ∧ W.cell? ⟨B, 7, none⟩ = some a7 ∧ W.cell? ⟨B, 8, none⟩ = some a8 ∧ W.cell? ⟨B, 9, none⟩ = some a9 ∧ W.cell? ⟨B, 10, none⟩ = some a10 ∧ W.cell? ⟨B, 11, none⟩ = some a11 ∧ W.cell? ⟨B, 12, none⟩ = some a12 := ⟨h.cell 0 rfl, h.cell 1 rfl, h.cell 2 rfl, h.cell 3 rfl, h.cell 4 rfl, h.cell 5 rfl, h.cell 6 rfl, h.cell 7 rfl, h.cell 8 rfl, h.cell 9 rfl, h.cell 10 rfl, h.cell 11 rfl, h.cell 12 rfl⟩
theorem LRow.frozen13 {W : World} {B : Nat} {a0 a1 a2 a3 a4 a5 a6 a7 a8 a9 a10 a11 a12 : Value} (h : LRow W B [a0, a1, a2, a3, a4, a5, a6, a7, a8, a9, a10, a11, a12]) : W.frozen? ⟨B, 0, none⟩ = false ∧ W.frozen? ⟨B, 1, none⟩ = false ∧ W.frozen? ⟨B, 2, none⟩ = false ∧ W.frozen? ⟨B, 3, none⟩ = false ∧ W.frozen? ⟨B, 4, none⟩ = false ∧ W.frozen? ⟨B, 5, none⟩ = false ∧ W.frozen? ⟨B, 6, none⟩ = false ∧ W.frozen? ⟨B, 7, none⟩ = false ∧ W.frozen? ⟨B, 8, none⟩ = false ∧ W.frozen? ⟨B, 9, none⟩ = false ∧ W.frozen? ⟨B, 10, none⟩ = false ∧ W.frozen? ⟨B, 11, none⟩ = false ∧ W.frozen? ⟨B, 12, none⟩ = false := ⟨h.frozen 0 rfl, h.frozen 1 rfl, h.frozen 2 rfl, h.frozen 3 rfl, h.frozen 4 rfl, h.frozen 5 rfl, h.frozen 6 rfl, h.frozen 7 rfl, h.frozen 8 rfl, h.frozen 9 rfl, h.frozen 10 rfl, h.frozen 11 rfl, h.frozen 12 rfl⟩
theorem set13 {W W0 : World} {A B : Nat} {a0 a1 a2 a3 a4 a5 a6 a7 a8 a9 a10 a11 a12 : Value} (h : LRow W B [a0, a1, a2, a3, a4, a5, a6, a7, a8, a9, a10, a11, a12]) (b : Below A W0 W) (hA : A ≤ B) (x0 x1 x2 x3 x4 x5 x6 x7 x8 x9 x10 x11 x12 : Value) : LRow (((((((((((((W.setCell ⟨B, 0, none⟩ x0).setCell ⟨B, 1, none⟩ x1).setCell ⟨B, 2, none⟩ x2).setCell ⟨B, 3, none⟩ x3).setCell ⟨B, 4, none⟩ x4).setCell ⟨B, 5, none⟩ x5).setCell ⟨B, 6, none⟩ x6).setCell ⟨B, 7, none⟩ x7).setCell ⟨B, 8, none⟩ x8).setCell ⟨B, 9, none⟩ x9).setCell ⟨B, 10, none⟩ x10).setCell ⟨B, 11, none⟩ x11).setCell ⟨B, 12, none⟩ x12) B [x0, x1, x2, x3, x4, x5, x6, x7, x8, x9, x10, x11, x12] ∧ Below A W0 (((((((((((((W.setCell ⟨B, 0, none⟩ x0).setCell ⟨B, 1, none⟩ x1).setCell ⟨B, 2, none⟩ x2).setCell ⟨B, 3, none⟩ x3).setCell ⟨B, 4, none⟩ x4).setCell ⟨B, 5, none⟩ x5).setCell ⟨B, 6, none⟩ x6).setCell ⟨B, 7, none⟩ x7).setCell ⟨B, 8, none⟩ x8).setCell ⟨B, 9, none⟩ x9).setCell ⟨B, 10, none⟩ x10).setCell ⟨B, 11, none⟩ x11).setCell ⟨B, 12, none⟩ x12) :=
  ⟨(((((((((((((h.set 0 x0).set 1 x1).set 2 x2).set 3 x3).set 4 x4).set 5 x5).set 6 x6).set 7 x7).set 8 x8).set 9 x9).set 10 x10).set 11 x11).set 12 x12), (((((((((((((b.setCell (p := ⟨B, 0, none⟩) hA x0).setCell (p := ⟨B, 1, none⟩) hA x1).setCell (p := ⟨B, 2, none⟩) hA x2).setCell (p := ⟨B, 3, none⟩) hA x3).setCell (p := ⟨B, 4, none⟩) hA x4).setCell (p := ⟨B, 5, none⟩) hA x5).setCell (p := ⟨B, 6, none⟩) hA x6).setCell (p := ⟨B, 7, none⟩) hA x7).setCell (p := ⟨B, 8, none⟩) hA x8).setCell (p := ⟨B, 9, none⟩) hA x9).setCell (p := ⟨B, 10, none⟩) hA x10).setCell (p := ⟨B, 11, none⟩) hA x11).setCell (p := ⟨B, 12, none⟩) hA x12)⟩
def cX : Ck := { cIdt with name := [120] }
def cY : Ck := { cX with created := 253402300800 }
theorem cX_ok : CkOk 140737488351232 cX := ⟨by simp [cX, cIdt], by simp [cX, cIdt], by simp [cX, cIdt], by simp [cX, cIdt], by simp [cX, cIdt, i64B], by simp [cX, cIdt, i64B], by simp [cX, cIdt, i64B], by simp [cX, cIdt, i64B], by simp [cX, cIdt, i64B]⟩
theorem cY_ok : CkOk 140737488351232 cY := ⟨by simp [cY, cX, cIdt], by simp [cY, cX, cIdt], by simp [cY, cX, cIdt], by simp [cY, cX, cIdt], by simp [cY, cX, cIdt, i64B], by simp [cY, cX, cIdt, i64B], by simp [cY, cX, cIdt, i64B], by simp [cY, cX, cIdt, i64B], by simp [cY, cX, cIdt, i64B]⟩
theorem cb1 : capN poR cIdt = 1100 ∧ capE poR cIdt = 0 := by decide +kernel
theorem cb2' : capN poR cX = 1060 ∧ capE poR cX = 0 := by decide +kernel
theorem cb2 : clampC poR cX = cX ∧ capE poR cX = 0 := ⟨by unfold clampC; rw [cb2'.1, cb2'.2]; rfl, cb2'.2⟩
theorem cb3' : capE poR cY = 3 := by decide +kernel
theorem cb3 : clampC poR cY = ckZ ∧ capE poR cY = 3 := ⟨by unfold clampC; rw [cb3']; rfl, cb3'⟩
set_option maxHeartbeats 16000000 in
theorem capBegun_any (w : World) : Calls Try.prog 23 #[] w fun e w' => e = .returned (.bool true) ∧ Below w.heap.size w w' := by
  have KL : Hid (∀ w' v, Rows w' v ruC poR.rules → Calls Try.prog 19 #[.agg #[v, .int .i64 1, .int .i64 100, .int .i64 60, .int .i64 60, .int .i64 60, .int .i64 50, .int .i64 60, .int .i64 60, .int .i64 60, .int .i64 60, .int .i64 60, .int .i64 60], .agg #[.string (txt [105, 100]), .string (txt [55]), .string (txt [115, 104, 111, 112, 46, 99, 111, 109]), .string (txt [47, 99, 97, 114, 116]), .bool false, .bool true, .bool false, .bool true, .int .i64 0, .int .i64 1060, .int .i64 1000, .int .i64 1000, .int .i64 0]] w' fun e w'' => e = .returned (.tuple #[.int .i64 1100, .int .i64 0]) ∧ Below w'.heap.size w' w'') := fun w' v h => by
    have k := latest_any poR v cIdt w' h poR_po cIdt_ok
    rw [cb1.1, cb1.2] at k
    exact k
  have K1 : Hid (∀ w' v, Rows w' v ruC poR.rules → Calls Try.prog 20 #[.agg #[v, .int .i64 1, .int .i64 100, .int .i64 60, .int .i64 60, .int .i64 60, .int .i64 50, .int .i64 60, .int .i64 60, .int .i64 60, .int .i64 60, .int .i64 60, .int .i64 60], .agg #[.string (txt [120]), .string (txt [55]), .string (txt [115, 104, 111, 112, 46, 99, 111, 109]), .string (txt [47, 99, 97, 114, 116]), .bool false, .bool true, .bool false, .bool true, .int .i64 0, .int .i64 1060, .int .i64 1000, .int .i64 1000, .int .i64 0]] w' fun e w'' => e = .returned (.tuple #[.agg #[.string (txt [120]), .string (txt [55]), .string (txt [115, 104, 111, 112, 46, 99, 111, 109]), .string (txt [47, 99, 97, 114, 116]), .bool false, .bool true, .bool false, .bool true, .int .i64 0, .int .i64 1060, .int .i64 1000, .int .i64 1000, .int .i64 0], .int .i64 0]) ∧ Below w'.heap.size w' w'') := fun w' v h => by
    have k := clamp_any poR v cX w' h poR_po cX_ok
    rw [cb2.1, cb2.2] at k
    exact k
  have K2 : Hid (∀ w' v, Rows w' v ruC poR.rules → Calls Try.prog 20 #[.agg #[v, .int .i64 1, .int .i64 100, .int .i64 60, .int .i64 60, .int .i64 60, .int .i64 50, .int .i64 60, .int .i64 60, .int .i64 60, .int .i64 60, .int .i64 60, .int .i64 60], .agg #[.string (txt [120]), .string (txt [55]), .string (txt [115, 104, 111, 112, 46, 99, 111, 109]), .string (txt [47, 99, 97, 114, 116]), .bool false, .bool true, .bool false, .bool true, .int .i64 0, .int .i64 1060, .int .i64 253402300800, .int .i64 1000, .int .i64 0]] w' fun e w'' => e = .returned (.tuple #[.agg #[.string ⟨#[]⟩, .string ⟨#[]⟩, .string ⟨#[]⟩, .string ⟨#[]⟩, .bool false, .bool false, .bool false, .bool false, .int .i64 0, .int .i64 0, .int .i64 0, .int .i64 0, .int .i64 0], .int .i64 3]) ∧ Below w'.heap.size w' w'') := fun w' v h => by
    have k := clamp_any poR v cY w' h poR_po cY_ok
    rw [cb3.1, cb3.2] at k
    exact k
  have KI : Hid (∀ w', Calls Try.prog 26 #[] w' fun e w'' => e = .returned (.agg #[.string (txt [105, 100]), .string (txt [55]), .string (txt [115, 104, 111, 112, 46, 99, 111, 109]), .string (txt [47, 99, 97, 114, 116]), .bool false, .bool true, .bool false, .bool true, .int .i64 0, .int .i64 1060, .int .i64 1000, .int .i64 1000, .int .i64 0]) ∧ Below w'.heap.size w' w'') := fun w' => identP_any w'
  go_enter Try.func23, Try.ntmps23
  go_wp2_with fail
  refine (KI.out _).mono ?_
  rintro e w1 ⟨rfl, hb1⟩
  obtain ⟨W1, hW1⟩ : ∃ W1, W1 = w1.alloc (.cells #[.string (txt [105, 100]), .string (txt [55]), .string (txt [115, 104, 111, 112, 46, 99, 111, 109]), .string (txt [47, 99, 97, 114, 116]), .bool false, .bool true, .bool false, .bool true, .int .i64 0, .int .i64 1060, .int .i64 1000, .int .i64 1000, .int .i64 0] 31) := ⟨_, rfl⟩
  have l1 : LRow W1 w1.heap.size (ckC cIdt) := by rw [hW1]; exact LRow.new w1 (ckC cIdt) 31
  have g0 := l1.cell 0 rfl
  have f0 := l1.frozen 0 rfl
  obtain ⟨W2, hW2⟩ : ∃ W2, W2 = W1.setCell ⟨w1.heap.size, 0, none⟩ (.string ⟨#[120]⟩) := ⟨_, rfl⟩
  have L2 : Hid (LRow W2 w1.heap.size (ckC cX)) := by rw [hW2]; exact l1.set 0 _
  have S2 : Hid (Below w.heap.size w W2) := by
    have h1 : Below w.heap.size w W1 := by rw [hW1]; exact next hb1 (below_new' _ _)
    rw [hW2]; exact h1.setCell (p := ⟨w1.heap.size, 0, none⟩) hb1.size _
  have HW1 : Hid _ := hW1
  have HW2 : Hid _ := hW2
  have HLE : Hid (w.heap.size ≤ w1.heap.size) := hb1.size
  clear l1 hW1 hW2 hb1
  go_upto_region 2 with fail
  rw [← HW1.out]
  go_upto_region 3 with fail
  rw [← HW2.out]
  clear HW1 HW2 g0 f0
  go_wp2_with fail
  refine (rules_any _).mono ?_
  rintro e w3 ⟨b3, rfl, r3, hb3⟩
  have R3 : Hid _ := r3
  have X3 : Hid (Below W2.heap.size W2 w3) := hb3
  clear r3 hb3
  go_wp2_with fail
  refine (KI.out _).mono ?_
  rintro e w4 ⟨rfl, hb4⟩
  have R4 : Hid _ := Rows.below R3.out hb4 (Nat.le_refl _)
  have X4 : Hid (Below W2.heap.size W2 w4) := next X3.out hb4
  clear hb4 R3 X3
  go_wp2_with fail
  refine (KL.out _ _ R4.out).mono ?_
  rintro e w5 ⟨rfl, hb5⟩
  have X5 : Hid (Below W2.heap.size W2 w5) := next X4.out hb5
  have L5 : Hid (LRow w5 w1.heap.size (ckC cX)) := L2.out.below X5.out (cell_in (L2.out.cell 0 rfl))
  have S5 : Hid (Below w.heap.size w w5) := next S2.out X5.out
  clear hb5 R4 X4 X5 L2 S2 KL
  go_upto_region 4 with fail
  have BC : Hid (∀ w', Below w5.heap.size w5 w' → w'.cell? ⟨w1.heap.size, 0, none⟩ = some (.string (txt [120])) ∧ w'.cell? ⟨w1.heap.size, 1, none⟩ = some (.string (txt [55])) ∧ w'.cell? ⟨w1.heap.size, 2, none⟩ = some (.string (txt [115, 104, 111, 112, 46, 99, 111, 109])) ∧ w'.cell? ⟨w1.heap.size, 3, none⟩ = some (.string (txt [47, 99, 97, 114, 116])) ∧ w'.cell? ⟨w1.heap.size, 4, none⟩ = some (.bool false) ∧ w'.cell? ⟨w1.heap.size, 5, none⟩ = some (.bool true) ∧ w'.cell? ⟨w1.heap.size, 6, none⟩ = some (.bool false) ∧ w'.cell? ⟨w1.heap.size, 7, none⟩ = some (.bool true) ∧ w'.cell? ⟨w1.heap.size, 8, none⟩ = some (.int .i64 0) ∧ w'.cell? ⟨w1.heap.size, 9, none⟩ = some (.int .i64 1060) ∧ w'.cell? ⟨w1.heap.size, 10, none⟩ = some (.int .i64 1000) ∧ w'.cell? ⟨w1.heap.size, 11, none⟩ = some (.int .i64 1000) ∧ w'.cell? ⟨w1.heap.size, 12, none⟩ = some (.int .i64 0)) := fun w' h => by
    have hr := L5.out.below h (cell_in (L5.out.cell 0 rfl))
    exact ⟨hr.cell 0 rfl, hr.cell 1 rfl, hr.cell 2 rfl, hr.cell 3 rfl, hr.cell 4 rfl, hr.cell 5 rfl, hr.cell 6 rfl, hr.cell 7 rfl, hr.cell 8 rfl, hr.cell 9 rfl, hr.cell 10 rfl, hr.cell 11 rfl, hr.cell 12 rfl⟩
  go_cut [4, 5] from 16 to 21 (fun s4 s5 wx => ∃ p4 : Nat, s4 = .pointer (some ⟨p4, 0, none⟩) ∧ s5 = .int .i64 0 ∧ Hid (LRow wx p4 (ckC cX) ∧ w5.heap.size ≤ p4) ∧ Hid (Below w5.heap.size w5 wx))
  case first =>
    have tokA : Hid True := trivial
    have tokB : Hid True := trivial
    obtain ⟨p0, p1, p2, p3, p4, p5, p6, p7, p8, p9, p10, p11, p12⟩ := BC.out (w5.drew.alloc (.cells #[.string ⟨#[]⟩, .string ⟨#[]⟩, .string ⟨#[]⟩, .string ⟨#[]⟩, .bool false, .bool false, .bool false, .bool false, .int .i64 0, .int .i64 0, .int .i64 0, .int .i64 0, .int .i64 0] 31)) (((Below.refl _ w5).drew).alloc (Nat.le_refl _) _)
    obtain ⟨q0, q1, q2, q3, q4, q5, q6, q7, q8, q9, q10, q11, q12⟩ := BC.out (w5.alloc (.cells #[.string ⟨#[]⟩, .string ⟨#[]⟩, .string ⟨#[]⟩, .string ⟨#[]⟩, .bool false, .bool false, .bool false, .bool false, .int .i64 0, .int .i64 0, .int .i64 0, .int .i64 0, .int .i64 0] 31)) ((Below.refl _ w5).alloc (Nat.le_refl _) _)
    obtain ⟨g0, g1, g2, g3, g4, g5, g6, g7, g8, g9, g10, g11, g12⟩ := BC.out w5 (Below.refl _ _)
    go_region_with (first
      | (clear tokA
         refine (rules_any _).mono ?_
         rintro e w3 ⟨b3, rfl, hr3, hb3⟩
         have hS3 : Below w5.heap.size w5 w3 := Below.trans (by first | exact Below.refl _ w5 | exact (Below.refl _ w5).drew | exact (Below.refl _ w5).alloc (Nat.le_refl _) _ | exact ((Below.refl _ w5).alloc (Nat.le_refl _) _).drew | exact ((Below.refl _ w5).drew).alloc (Nat.le_refl _) _) (hb3.mono (by simp))
         have HR3 : Hid _ := hr3
         obtain ⟨d0, d1, d2, d3, d4, d5, d6, d7, d8, d9, d10, d11, d12⟩ := BC.out w3 hS3
         obtain ⟨e0, e1, e2, e3, e4, e5, e6, e7, e8, e9, e10, e11, e12⟩ := BC.out (w3.alloc (.cells #[.string ⟨#[]⟩, .string ⟨#[]⟩, .string ⟨#[]⟩, .string ⟨#[]⟩, .bool false, .bool false, .bool false, .bool false, .int .i64 0, .int .i64 0, .int .i64 0, .int .i64 0, .int .i64 0] 31)) (keepA hS3 _)
         try (have HNA : Hid (LRow w3 w5.heap.size (ckC ckZ)) := (LRow.new w5.drew (ckC ckZ) 31).below hb3 (by simp)
              have HLA : Hid (w5.heap.size < w3.heap.size) := Nat.lt_of_lt_of_le (by simp) hb3.size)
         clear hr3 hb3)
      | (clear tokB
         refine (K1.out _ _ ?r1).mono ?_
         case r1 => first | exact HR3.out | exact Rows.below HR3.out ((Below.refl _ w3).alloc (Nat.le_refl _) _) (Nat.le_refl _)
         rintro e w4 ⟨rfl, hb4⟩
         have hS4 : Below w5.heap.size w5 w4 := Below.trans (by first | assumption | exact keepA hS3 _ | exact hS3.drew | exact (keepA hS3 _).drew) (hb4.mono (by first | exact hS3.size | exact (keepA hS3 _).size | exact hS3.drew.size))
         have HB4 : Hid _ := hb4
         try (
           have hN := by first | exact HNA.out.below hb4 HLA.out | exact HNA.out.below hb4 (by simp; exact Nat.lt_succ_of_lt HLA.out) | exact (LRow.new w3 (ckC ckZ) 31).below hb4 (by simp)
           obtain ⟨n0, n1, n2, n3, n4, n5, n6, n7, n8, n9, n10, n11, n12⟩ := hN.cells13
           obtain ⟨z0, z1, z2, z3, z4, z5, z6, z7, z8, z9, z10, z11, z12⟩ := hN.frozen13
           have HNB : Hid _ := set13 hN hS4 (by first | exact Nat.le_refl _ | exact hS3.size) (.string (txt [120])) (.string (txt [55])) (.string (txt [115, 104, 111, 112, 46, 99, 111, 109])) (.string (txt [47, 99, 97, 114, 116])) (.bool false) (.bool true) (.bool false) (.bool true) (.int .i64 0) (.int .i64 1060) (.int .i64 1000) (.int .i64 1000) (.int .i64 0)
           clear hN)
         clear hb4))
    all_goals (go_wp2_with fail; go_meet; first | exact ⟨_, rfl, rfl, ⟨HNB.out.1, by first | exact Nat.le_refl _ | exact hS3.size⟩, HNB.out.2⟩ | exact ⟨_, rfl, rfl, ⟨LRow.new w4 (ckC cX) _, hS4.size⟩, hS4.alloc hS4.size _⟩)
  case rest =>
  obtain ⟨p4, rfl, rfl, HD4, HB4⟩ := hcut
  rename World => w6
  clear K1 BC
  have L6 : Hid (LRow w6 w1.heap.size (ckC cX)) := L5.out.below HB4.out (cell_in (L5.out.cell 0 rfl))
  have HNE : Hid (p4 ≠ w1.heap.size) := fun e => by
    have h1 := cell_in (L5.out.cell 0 rfl)
    have h2 := HD4.out.2
    rw [e] at h2
    exact absurd h1 (Nat.not_lt.2 h2)
  have S6 : Hid (Below w.heap.size w w6) := next S5.out HB4.out
  obtain ⟨W7, hW7⟩ : ∃ W7, W7 = w6.setCell ⟨w1.heap.size, 10, none⟩ (.int .i64 253402300800) := ⟨_, rfl⟩
  have L7 : Hid (LRow W7 w1.heap.size (ckC cY)) := by rw [hW7]; exact L6.out.set 10 _
  have D7 : Hid (LRow W7 p4 (ckC cX)) := by rw [hW7]; exact rowSet HD4.out.1 HNE.out
  have S7 : Hid (Below w.heap.size w W7) := by rw [hW7]; exact S6.out.setCell (p := ⟨w1.heap.size, 10, none⟩) HLE.out _
  have g10 := L6.out.cell 10 rfl
  have f10 := L6.out.frozen 10 rfl
  have HW7 : Hid _ := hW7
  clear hW7 S5 L5 HB4
  go_upto_region 6 with fail
  rw [← HW7.out]
  clear HW7 g10 f10 L6 S6 HD4 HNE
  have BC : Hid (∀ w', Below W7.heap.size W7 w' → w'.cell? ⟨w1.heap.size, 0, none⟩ = some (.string (txt [120])) ∧ w'.cell? ⟨w1.heap.size, 1, none⟩ = some (.string (txt [55])) ∧ w'.cell? ⟨w1.heap.size, 2, none⟩ = some (.string (txt [115, 104, 111, 112, 46, 99, 111, 109])) ∧ w'.cell? ⟨w1.heap.size, 3, none⟩ = some (.string (txt [47, 99, 97, 114, 116])) ∧ w'.cell? ⟨w1.heap.size, 4, none⟩ = some (.bool false) ∧ w'.cell? ⟨w1.heap.size, 5, none⟩ = some (.bool true) ∧ w'.cell? ⟨w1.heap.size, 6, none⟩ = some (.bool false) ∧ w'.cell? ⟨w1.heap.size, 7, none⟩ = some (.bool true) ∧ w'.cell? ⟨w1.heap.size, 8, none⟩ = some (.int .i64 0) ∧ w'.cell? ⟨w1.heap.size, 9, none⟩ = some (.int .i64 1060) ∧ w'.cell? ⟨w1.heap.size, 10, none⟩ = some (.int .i64 253402300800) ∧ w'.cell? ⟨w1.heap.size, 11, none⟩ = some (.int .i64 1000) ∧ w'.cell? ⟨w1.heap.size, 12, none⟩ = some (.int .i64 0)) := fun w' h => by
    have hr := L7.out.below h (cell_in (L7.out.cell 0 rfl))
    exact ⟨hr.cell 0 rfl, hr.cell 1 rfl, hr.cell 2 rfl, hr.cell 3 rfl, hr.cell 4 rfl, hr.cell 5 rfl, hr.cell 6 rfl, hr.cell 7 rfl, hr.cell 8 rfl, hr.cell 9 rfl, hr.cell 10 rfl, hr.cell 11 rfl, hr.cell 12 rfl⟩
  go_cut [6, 7] from 23 to 28 (fun s6 s7 wx => s7 = .int .i64 3 ∧ Hid (Below W7.heap.size W7 wx))
  case first =>
    have tokA : Hid True := trivial
    have tokB : Hid True := trivial
    obtain ⟨p0, p1, p2, p3, p4, p5, p6, p7, p8, p9, p10, p11, p12⟩ := BC.out (W7.drew.alloc (.cells #[.string ⟨#[]⟩, .string ⟨#[]⟩, .string ⟨#[]⟩, .string ⟨#[]⟩, .bool false, .bool false, .bool false, .bool false, .int .i64 0, .int .i64 0, .int .i64 0, .int .i64 0, .int .i64 0] 31)) (((Below.refl _ W7).drew).alloc (Nat.le_refl _) _)
    obtain ⟨q0, q1, q2, q3, q4, q5, q6, q7, q8, q9, q10, q11, q12⟩ := BC.out (W7.alloc (.cells #[.string ⟨#[]⟩, .string ⟨#[]⟩, .string ⟨#[]⟩, .string ⟨#[]⟩, .bool false, .bool false, .bool false, .bool false, .int .i64 0, .int .i64 0, .int .i64 0, .int .i64 0, .int .i64 0] 31)) ((Below.refl _ W7).alloc (Nat.le_refl _) _)
    obtain ⟨g0, g1, g2, g3, g4, g5, g6, g7, g8, g9, g10, g11, g12⟩ := BC.out W7 (Below.refl _ _)
    go_region_with (first
      | (clear tokA
         refine (rules_any _).mono ?_
         rintro e w3 ⟨b3, rfl, hr3, hb3⟩
         have hS3 : Below W7.heap.size W7 w3 := Below.trans (by first | exact Below.refl _ W7 | exact (Below.refl _ W7).drew | exact (Below.refl _ W7).alloc (Nat.le_refl _) _ | exact ((Below.refl _ W7).alloc (Nat.le_refl _) _).drew | exact ((Below.refl _ W7).drew).alloc (Nat.le_refl _) _) (hb3.mono (by simp))
         have HR3 : Hid _ := hr3
         obtain ⟨d0, d1, d2, d3, d4, d5, d6, d7, d8, d9, d10, d11, d12⟩ := BC.out w3 hS3
         obtain ⟨e0, e1, e2, e3, e4, e5, e6, e7, e8, e9, e10, e11, e12⟩ := BC.out (w3.alloc (.cells #[.string ⟨#[]⟩, .string ⟨#[]⟩, .string ⟨#[]⟩, .string ⟨#[]⟩, .bool false, .bool false, .bool false, .bool false, .int .i64 0, .int .i64 0, .int .i64 0, .int .i64 0, .int .i64 0] 31)) (keepA hS3 _)
         try (have HNA : Hid (LRow w3 W7.heap.size (ckC ckZ)) := (LRow.new W7.drew (ckC ckZ) 31).below hb3 (by simp)
              have HLA : Hid (W7.heap.size < w3.heap.size) := Nat.lt_of_lt_of_le (by simp) hb3.size)
         clear hr3 hb3)
      | (clear tokB
         refine (K2.out _ _ ?r1).mono ?_
         case r1 => first | exact HR3.out | exact Rows.below HR3.out ((Below.refl _ w3).alloc (Nat.le_refl _) _) (Nat.le_refl _)
         rintro e w4 ⟨rfl, hb4⟩
         have hS4 : Below W7.heap.size W7 w4 := Below.trans (by first | assumption | exact keepA hS3 _ | exact hS3.drew | exact (keepA hS3 _).drew) (hb4.mono (by first | exact hS3.size | exact (keepA hS3 _).size | exact hS3.drew.size))
         have HB4 : Hid _ := hb4
         try (
           have hN := by first | exact HNA.out.below hb4 HLA.out | exact HNA.out.below hb4 (by simp; exact Nat.lt_succ_of_lt HLA.out) | exact (LRow.new w3 (ckC ckZ) 31).below hb4 (by simp)
           obtain ⟨n0, n1, n2, n3, n4, n5, n6, n7, n8, n9, n10, n11, n12⟩ := hN.cells13
           obtain ⟨z0, z1, z2, z3, z4, z5, z6, z7, z8, z9, z10, z11, z12⟩ := hN.frozen13
           have HNB : Hid _ := set13 hN hS4 (by first | exact Nat.le_refl _ | exact hS3.size) (.string ⟨#[]⟩) (.string ⟨#[]⟩) (.string ⟨#[]⟩) (.string ⟨#[]⟩) (.bool false) (.bool false) (.bool false) (.bool false) (.int .i64 0) (.int .i64 0) (.int .i64 0) (.int .i64 0) (.int .i64 0)
           clear hN)
         clear hb4))
    all_goals (go_wp2_with fail; go_meet; first | exact ⟨rfl, HNB.out.2⟩ | exact ⟨rfl, hS4.alloc hS4.size _⟩)
  case rest =>
  obtain ⟨rfl, HB8⟩ := hcut
  rename World => w8
  have D8 : Hid (LRow w8 p4 (ckC cX)) := D7.out.below HB8.out (cell_in (D7.out.cell 0 rfl))
  have x9 := D8.out.cell 9 rfl
  go_wp2_with fail
  go_ret
  exact ⟨rfl, next S7.out HB8.out⟩
end Go.Proofs.Ytmjcgkjkhpjgbaa
