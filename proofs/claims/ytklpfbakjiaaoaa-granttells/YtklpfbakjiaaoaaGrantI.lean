/- What must be in any case of grants. -/
import Derived.Test.YtklpfbakjiaaoaaGrantH
import Derived.Test.YtklpfbakjiaaoaaGrantE
import Derived.Deep.Cut
import Derived.Deep.CutRange
import Derived.Deep.RegionWith
namespace Go.Proofs.Ytklpfbakjiaaoaa
open Go.RowKit Go.Maps
set_option linter.all false
set_option maxRecDepth 100000

def gbB : Cn := ⟨5, true, false, false, false, false, false, false, false, false, false, [3, 5]⟩
def gbM : Cn := ⟨1000, true, false, false, false, false, false, false, false, false, false, [3]⟩
def gbJ : List Int := [2, 3, 4, 5, 9]
def gbJC : Cn := ⟨1000, true, false, false, true, false, false, false, false, false, false, [2, 3, 4, 5, 9]⟩
def gbD : Cn := ⟨2000, true, false, false, false, false, false, false, false, false, false, [2, 3, 4]⟩
theorem gb1 : bothE agC gbB = 0 ∧ bothR (fun x y => x && y) agC gbB = gbM := by refine ⟨by decide +kernel, ?_⟩; rw [← sameC_iff]; decide +kernel
theorem gb2 : bothE agC gbB = 0 ∧ bothR (fun x y => x || y) agC gbB = gbJC := by refine ⟨by decide +kernel, ?_⟩; rw [← sameC_iff]; decide +kernel
theorem gb3 : dropE agC 4 9 2000 = 0 ∧ dropR agC 4 9 2000 = gbD := by refine ⟨by decide +kernel, ?_⟩; rw [← sameC_iff]; decide +kernel
theorem gb4 : dropE agC 0 0 999 = 4 ∧ dropR agC 0 0 999 = c0 := by refine ⟨by decide +kernel, ?_⟩; rw [← sameC_iff]; decide +kernel
theorem gb5 : mayC agC 4 9 = true ∧ mayC agC 2 0 = false ∧ mayC c0 0 0 = true ∧ lessC agC gbB = false := by decide +kernel
theorem inR_small (l : List Int) (h : l.all (fun z => decide (-9223372036854775808 ≤ z ∧ z ≤ 9223372036854775807)) = true) : inR l := fun z hz => by
  have := List.all_eq_true.1 h z hz
  simpa using this
theorem keep_allocG {w w' : World} (h : Below w.heap.size w w') (o : Obj) : Below w.heap.size w (w'.alloc o) := h.alloc h.size o
theorem LRow.cells12 {W : World} {B : Nat} {a0 a1 a2 a3 a4 a5 a6 a7 a8 a9 a10 a11 : Value} (h : LRow W B [a0, a1, a2, a3, a4, a5, a6, a7, a8, a9, a10, a11]) : W.cell? ⟨B, 0, none⟩ = some a0 ∧ W.cell? ⟨B, 1, none⟩ = some a1 ∧ W.cell? ⟨B, 2, none⟩ = some a2 ∧ W.cell? ⟨B, 3, none⟩ = some a3 ∧ W.cell? ⟨B, 4, none⟩ = some a4 ∧ W.cell? ⟨B, 5, none⟩ = some a5 ∧ W.cell? ⟨B, 6, none⟩ = some a6 ∧ W.cell? ⟨B, 7, none⟩ = some a7 ∧ W.cell? ⟨B, 8, none⟩ = some a8 ∧ W.cell? ⟨B, 9, none⟩ = some a9 ∧ W.cell? ⟨B, 10, none⟩ = some a10 ∧ W.cell? ⟨B, 11, none⟩ = some a11 :=
  ⟨h.cell 0 rfl, h.cell 1 rfl, h.cell 2 rfl, h.cell 3 rfl, h.cell 4 rfl, h.cell 5 rfl, h.cell 6 rfl, h.cell 7 rfl, h.cell 8 rfl, h.cell 9 rfl, h.cell 10 rfl, h.cell 11 rfl⟩
theorem LRow.frozen12 {W : World} {B : Nat} {a0 a1 a2 a3 a4 a5 a6 a7 a8 a9 a10 a11 : Value} (h : LRow W B [a0, a1, a2, a3, a4, a5, a6, a7, a8, a9, a10, a11]) : W.frozen? ⟨B, 0, none⟩ = false ∧ W.frozen? ⟨B, 1, none⟩ = false ∧ W.frozen? ⟨B, 2, none⟩ = false ∧ W.frozen? ⟨B, 3, none⟩ = false ∧ W.frozen? ⟨B, 4, none⟩ = false ∧ W.frozen? ⟨B, 5, none⟩ = false ∧ W.frozen? ⟨B, 6, none⟩ = false ∧ W.frozen? ⟨B, 7, none⟩ = false ∧ W.frozen? ⟨B, 8, none⟩ = false ∧ W.frozen? ⟨B, 9, none⟩ = false ∧ W.frozen? ⟨B, 10, none⟩ = false ∧ W.frozen? ⟨B, 11, none⟩ = false :=
  ⟨h.frozen 0 rfl, h.frozen 1 rfl, h.frozen 2 rfl, h.frozen 3 rfl, h.frozen 4 rfl, h.frozen 5 rfl, h.frozen 6 rfl, h.frozen 7 rfl, h.frozen 8 rfl, h.frozen 9 rfl, h.frozen 10 rfl, h.frozen 11 rfl⟩
theorem set12 {W W0 : World} {A B base : Nat} {e : TypeId} {size n : Nat} {v : Value} {cs : List Value} {a0 a1 a2 a3 a4 a5 a6 a7 a8 a9 a10 a11 : Value} (h : LRow W B [a0, a1, a2, a3, a4, a5, a6, a7, a8, a9, a10, a11]) (o : W.ownsRow base e size v n cs) (b : Below A W0 W) (hlt : B < base) (hA : A ≤ B) (x0 x1 x2 x3 x4 x5 x6 x7 x8 x9 x10 x11 : Value) :
    LRow ((((((((((((W.setCell ⟨B, 0, none⟩ x0).setCell ⟨B, 1, none⟩ x1).setCell ⟨B, 2, none⟩ x2).setCell ⟨B, 3, none⟩ x3).setCell ⟨B, 4, none⟩ x4).setCell ⟨B, 5, none⟩ x5).setCell ⟨B, 6, none⟩ x6).setCell ⟨B, 7, none⟩ x7).setCell ⟨B, 8, none⟩ x8).setCell ⟨B, 9, none⟩ x9).setCell ⟨B, 10, none⟩ x10).setCell ⟨B, 11, none⟩ x11) B [x0, x1, x2, x3, x4, x5, x6, x7, x8, x9, x10, x11] ∧ ((((((((((((W.setCell ⟨B, 0, none⟩ x0).setCell ⟨B, 1, none⟩ x1).setCell ⟨B, 2, none⟩ x2).setCell ⟨B, 3, none⟩ x3).setCell ⟨B, 4, none⟩ x4).setCell ⟨B, 5, none⟩ x5).setCell ⟨B, 6, none⟩ x6).setCell ⟨B, 7, none⟩ x7).setCell ⟨B, 8, none⟩ x8).setCell ⟨B, 9, none⟩ x9).setCell ⟨B, 10, none⟩ x10).setCell ⟨B, 11, none⟩ x11).ownsRow base e size v n cs ∧ Below A W0 ((((((((((((W.setCell ⟨B, 0, none⟩ x0).setCell ⟨B, 1, none⟩ x1).setCell ⟨B, 2, none⟩ x2).setCell ⟨B, 3, none⟩ x3).setCell ⟨B, 4, none⟩ x4).setCell ⟨B, 5, none⟩ x5).setCell ⟨B, 6, none⟩ x6).setCell ⟨B, 7, none⟩ x7).setCell ⟨B, 8, none⟩ x8).setCell ⟨B, 9, none⟩ x9).setCell ⟨B, 10, none⟩ x10).setCell ⟨B, 11, none⟩ x11) :=
  ⟨((((((((((((h.set 0 x0).set 1 x1).set 2 x2).set 3 x3).set 4 x4).set 5 x5).set 6 x6).set 7 x7).set 8 x8).set 9 x9).set 10 x10).set 11 x11), (own_set' (own_set' (own_set' (own_set' (own_set' (own_set' (own_set' (own_set' (own_set' (own_set' (own_set' (own_set' o hlt) hlt) hlt) hlt) hlt) hlt) hlt) hlt) hlt) hlt) hlt) hlt), ((((((((((((b.setCell (p := ⟨B, 0, none⟩) hA x0).setCell (p := ⟨B, 1, none⟩) hA x1).setCell (p := ⟨B, 2, none⟩) hA x2).setCell (p := ⟨B, 3, none⟩) hA x3).setCell (p := ⟨B, 4, none⟩) hA x4).setCell (p := ⟨B, 5, none⟩) hA x5).setCell (p := ⟨B, 6, none⟩) hA x6).setCell (p := ⟨B, 7, none⟩) hA x7).setCell (p := ⟨B, 8, none⟩) hA x8).setCell (p := ⟨B, 9, none⟩) hA x9).setCell (p := ⟨B, 10, none⟩) hA x10).setCell (p := ⟨B, 11, none⟩) hA x11)⟩
set_option maxHeartbeats 16000000 in
theorem grantBegun_any (w : World) : Calls Try.prog 13 #[] w fun e w' => e = .returned (.bool true) ∧ Below w.heap.size w w' := by
  have hga : inR agC.vs := inR_small _ (by decide +kernel)
  have hgb : inR gbB.vs := inR_small _ (by decide +kernel)
  have KM : Hid (∀ w' va vb, Rows w' va intF agC.vs → Rows w' vb intF gbB.vs → Calls Try.prog 7 #[.agg #[.int .i64 1000, .bool true, .bool false, .bool false, .bool true, .bool false, .bool false, .bool false, .bool false, .bool false, .bool false, va], .agg #[.int .i64 5, .bool true, .bool false, .bool false, .bool false, .bool false, .bool false, .bool false, .bool false, .bool false, .bool false, vb]] w' fun e w'' => ∃ v, e = .returned (.tuple #[.agg #[.int .i64 1000, .bool true, .bool false, .bool false, .bool false, .bool false, .bool false, .bool false, .bool false, .bool false, .bool false, v], .int .i64 0]) ∧ w''.ownsRow w'.heap.size 3 1 v 1 (gbM.vs.flatMap intF) ∧ Below w'.heap.size w' w'') := fun w' va vb h1 h2 => by
    have h := meet_any agC gbB va vb w' h1 h2 (by decide) (by decide) hga hgb
    rw [gb1.1, gb1.2] at h
    exact h
  have KJ : Hid (∀ w' va vb, Rows w' va intF agC.vs → Rows w' vb intF gbB.vs → Calls Try.prog 8 #[.agg #[.int .i64 1000, .bool true, .bool false, .bool false, .bool true, .bool false, .bool false, .bool false, .bool false, .bool false, .bool false, va], .agg #[.int .i64 5, .bool true, .bool false, .bool false, .bool false, .bool false, .bool false, .bool false, .bool false, .bool false, .bool false, vb]] w' fun e w'' => ∃ v, e = .returned (.tuple #[.agg #[.int .i64 1000, .bool true, .bool false, .bool false, .bool true, .bool false, .bool false, .bool false, .bool false, .bool false, .bool false, v], .int .i64 0]) ∧ w''.ownsRow w'.heap.size 3 1 v 5 (gbJC.vs.flatMap intF) ∧ Below w'.heap.size w' w'') := fun w' va vb h1 h2 => by
    have h := join_any agC gbB va vb w' h1 h2 (by decide) (by decide) hga hgb
    rw [gb2.1, gb2.2] at h
    exact h
  have KD : Hid (∀ w' va, Rows w' va intF agC.vs → Calls Try.prog 9 #[.agg #[.int .i64 1000, .bool true, .bool false, .bool false, .bool true, .bool false, .bool false, .bool false, .bool false, .bool false, .bool false, va], .int .i64 4, .int .i64 9, .int .i64 2000] w' fun e w'' => ∃ v, e = .returned (.tuple #[.agg #[.int .i64 2000, .bool true, .bool false, .bool false, .bool false, .bool false, .bool false, .bool false, .bool false, .bool false, .bool false, v], .int .i64 0]) ∧ w''.ownsRow w'.heap.size 3 1 v 3 (gbD.vs.flatMap intF) ∧ Below w'.heap.size w' w'') := fun w' va h1 => by
    have h := drop_any agC va 4 9 2000 w' h1 (by decide) (by decide)
    rw [gb3.1, gb3.2] at h
    exact h
  have KE : Hid (∀ w' va, Rows w' va intF agC.vs → Calls Try.prog 9 #[.agg #[.int .i64 1000, .bool true, .bool false, .bool false, .bool true, .bool false, .bool false, .bool false, .bool false, .bool false, .bool false, va], .int .i64 0, .int .i64 0, .int .i64 999] w' fun e w'' => ∃ v, e = .returned (.tuple #[.agg #[.int .i64 0, .bool false, .bool false, .bool false, .bool false, .bool false, .bool false, .bool false, .bool false, .bool false, .bool false, v], .int .i64 4]) ∧ (∃ ad cap, v = .slice ad 0 cap) ∧ Below w'.heap.size w' w'') := fun w' va h1 => by
    have h := drop_any agC va 0 0 999 w' h1 (by decide) (by decide)
    rw [gb4.1, gb4.2] at h
    exact h.mono fun e w'' ⟨v, h1, h2, h3⟩ => ⟨v, h1, g_slice h2, h3⟩
  obtain ⟨W2, hW2⟩ : ∃ W, (w.alloc (.cells #[.int .i64 3, .int .i64 5] 3)).alloc (.cells #[.int .i64 5, .bool true, .bool false, .bool false, .bool false, .bool false, .bool false, .bool false, .bool false, .bool false, .bool false, .slice (some ⟨w.heap.size, 0, none⟩) 2 2] 25) = W := ⟨_, rfl⟩
  have HL2 : Hid (LRow W2 (w.heap.size + 1) (cnL gbB (.slice (some ⟨w.heap.size, 0, none⟩) 2 2))) := by
    rw [← hW2]
    have h := LRow.new (w.alloc (.cells #[.int .i64 3, .int .i64 5] 3)) (cnL gbB (.slice (some ⟨w.heap.size, 0, none⟩) 2 2)) 25
    rw [show (w.alloc (.cells #[.int .i64 3, .int .i64 5] 3)).heap.size = w.heap.size + 1 from by simp] at h
    exact h
  have HB2 : Hid (Below w.heap.size w W2) := by rw [← hW2]; exact ((Below.refl _ w).alloc (Nat.le_refl _) _).alloc (by simp) _
  have HR2 : Hid (Rows W2 (.slice (some ⟨w.heap.size, 0, none⟩) 2 2) intF gbB.vs) := by
    rw [← hW2]
    exact Rows.below (Rows.lit w ([3, 5] : List Int) _ _ _ _ _ rfl rfl rfl) ((Below.refl _ _).alloc (Nat.le_refl _) _) (Nat.le_refl _)
  have HL2' : Hid (w.heap.size + 1 < W2.heap.size) := by show _ < _; rw [← hW2]; simp
  have HW2 : Hid _ := hW2
  clear hW2 hga hgb
  go_enter Try.func13, Try.ntmps13
  go_upto_region 2 with fail
  rw [HW2.out]
  clear HW2
  have BC : Hid (∀ w', Below W2.heap.size W2 w' → w'.cell? ⟨w.heap.size + 1, 0, none⟩ = some (.int .i64 5) ∧ w'.cell? ⟨w.heap.size + 1, 1, none⟩ = some (.bool true) ∧ w'.cell? ⟨w.heap.size + 1, 2, none⟩ = some (.bool false) ∧ w'.cell? ⟨w.heap.size + 1, 3, none⟩ = some (.bool false) ∧ w'.cell? ⟨w.heap.size + 1, 4, none⟩ = some (.bool false) ∧ w'.cell? ⟨w.heap.size + 1, 5, none⟩ = some (.bool false) ∧ w'.cell? ⟨w.heap.size + 1, 6, none⟩ = some (.bool false) ∧ w'.cell? ⟨w.heap.size + 1, 7, none⟩ = some (.bool false) ∧ w'.cell? ⟨w.heap.size + 1, 8, none⟩ = some (.bool false) ∧ w'.cell? ⟨w.heap.size + 1, 9, none⟩ = some (.bool false) ∧ w'.cell? ⟨w.heap.size + 1, 10, none⟩ = some (.bool false) ∧ w'.cell? ⟨w.heap.size + 1, 11, none⟩ = some (.slice (some ⟨w.heap.size, 0, none⟩) 2 2)) := fun w' h => by
    have hr := HL2.out.below h HL2'.out
    exact ⟨hr.cell 0 rfl, hr.cell 1 rfl, hr.cell 2 rfl, hr.cell 3 rfl, hr.cell 4 rfl, hr.cell 5 rfl, hr.cell 6 rfl, hr.cell 7 rfl, hr.cell 8 rfl, hr.cell 9 rfl, hr.cell 10 rfl, hr.cell 11 rfl⟩
  obtain ⟨b0, b1, b2, b3, b4, b5, b6, b7, b8, b9, b10, b11⟩ := BC.out W2 (Below.refl _ _)
  go_cut [2, 3] from 13 to 18 (fun s2 s3 wx => ∃ (p2 : Nat) (ad : Option Addr) (cap : Nat), s2 = .pointer (some ⟨p2, 0, none⟩) ∧ s3 = .int .i64 0 ∧ Hid (LRow wx p2 (cnL gbM (.slice ad 1 cap))) ∧ Hid (Rows wx (.slice ad 1 cap) intF gbM.vs) ∧ Hid (Below W2.heap.size W2 wx))
  case first =>
    have tokA : Hid True := trivial
    have tokB : Hid True := trivial
    obtain ⟨p0, p1, p2, p3, p4, p5, p6, p7, p8, p9, p10, p11⟩ := BC.out (W2.drew.alloc (.cells #[.int .i64 0, .bool false, .bool false, .bool false, .bool false, .bool false, .bool false, .bool false, .bool false, .bool false, .bool false, .slice none 0 0] 25)) (((Below.refl _ W2).drew).alloc (Nat.le_refl _) _)
    obtain ⟨q0, q1, q2, q3, q4, q5, q6, q7, q8, q9, q10, q11⟩ := BC.out (W2.alloc (.cells #[.int .i64 0, .bool false, .bool false, .bool false, .bool false, .bool false, .bool false, .bool false, .bool false, .bool false, .bool false, .slice none 0 0] 25)) ((Below.refl _ W2).alloc (Nat.le_refl _) _)
    go_region_with (first
      | (clear tokA
         refine (agreed_any _).mono ?_
         rintro e w3 ⟨q3, rfl, hr3, hb3⟩
         have hS3 : Below W2.heap.size W2 w3 := Below.trans (by first | exact Below.refl _ W2 | exact (Below.refl _ W2).drew | exact (Below.refl _ W2).alloc (Nat.le_refl _) _ | exact ((Below.refl _ W2).alloc (Nat.le_refl _) _).drew | exact ((Below.refl _ W2).drew).alloc (Nat.le_refl _) _) (hb3.mono (by simp))
         have HR3 : Hid _ := hr3
         obtain ⟨d0, d1, d2, d3, d4, d5, d6, d7, d8, d9, d10, d11⟩ := BC.out w3 hS3
         obtain ⟨e0, e1, e2, e3, e4, e5, e6, e7, e8, e9, e10, e11⟩ := BC.out (w3.alloc (.cells #[.int .i64 0, .bool false, .bool false, .bool false, .bool false, .bool false, .bool false, .bool false, .bool false, .bool false, .bool false, .slice none 0 0] 25)) (keep_allocG hS3 _)
         try (have HNA : Hid (LRow w3 W2.heap.size (cnL c0 (.slice none 0 0))) := (LRow.new W2.drew (cnL c0 (.slice none 0 0)) 25).below hb3 (by simp)
              have HLA : Hid (W2.heap.size < w3.heap.size) := Nat.lt_of_lt_of_le (by simp) hb3.size)
         clear hr3 hb3)
      | (clear tokB
         refine (KM.out _ _ _ ?r1 ?r2).mono ?_
         case r1 => first | exact HR3.out | exact Rows.below HR3.out ((Below.refl _ w3).alloc (Nat.le_refl _) _) (Nat.le_refl _)
         case r2 => exact Rows.below HR2.out (by first | assumption | exact keep_allocG hS3 _ | exact hS3.drew | exact (keep_allocG hS3 _).drew) (Nat.le_refl _)
         rintro e w4 ⟨v4, rfl, own4, hb4⟩
         have hS4 : Below W2.heap.size W2 w4 := Below.trans (by first | assumption | exact keep_allocG hS3 _ | exact hS3.drew | exact (keep_allocG hS3 _).drew) (hb4.mono (by first | exact hS3.size | exact (keep_allocG hS3 _).size | exact hS3.drew.size))
         obtain ⟨ad4, cap4, rfl⟩ := g_slice own4
         have HO4 : Hid _ := own4
         have HB4 : Hid _ := hb4
         try (
           have hN := by first | exact HNA.out.below hb4 HLA.out | exact HNA.out.below hb4 (by simp; exact Nat.lt_succ_of_lt HLA.out) | exact (LRow.new w3 (cnL c0 (.slice none 0 0)) 25).below hb4 (by simp)
           obtain ⟨n0, n1, n2, n3, n4, n5, n6, n7, n8, n9, n10, n11⟩ := hN.cells12
           obtain ⟨z0, z1, z2, z3, z4, z5, z6, z7, z8, z9, z10, z11⟩ := hN.frozen12
           have HNB : Hid _ := set12 hN own4 hS4 (by first | exact HLA.out | exact (by simp; exact Nat.lt_succ_of_lt HLA.out) | simp) (by first | exact Nat.le_refl _ | exact hS3.size) (.int .i64 1000) (.bool true) (.bool false) (.bool false) (.bool false) (.bool false) (.bool false) (.bool false) (.bool false) (.bool false) (.bool false) (.slice ad4 1 cap4)
           clear hN)
         clear own4 hb4))
    all_goals (go_wp2_with fail; go_meet; first | exact ⟨_, ad4, cap4, rfl, rfl, HNB.out.1, Reads.of_own HNB.out.2.1, HNB.out.2.2⟩ | exact ⟨_, ad4, cap4, rfl, rfl, LRow.new w4 (cnL gbM (.slice ad4 1 cap4)) _, Rows.below (Reads.of_own HO4.out) ((Below.refl _ _).alloc (Nat.le_refl _) _) (Nat.le_refl _), hS4.alloc hS4.size _⟩)
  case rest =>
  obtain ⟨p2, ad2, cap2, rfl, rfl, HLM, HRM, HBM⟩ := hcut
  rename World => wM
  clear KM b0 b1 b2 b3 b4 b5 b6 b7 b8 b9 b10 b11
  have BC2 : Hid (∀ w', Below wM.heap.size wM w' → w'.cell? ⟨w.heap.size + 1, 0, none⟩ = some (.int .i64 5) ∧ w'.cell? ⟨w.heap.size + 1, 1, none⟩ = some (.bool true) ∧ w'.cell? ⟨w.heap.size + 1, 2, none⟩ = some (.bool false) ∧ w'.cell? ⟨w.heap.size + 1, 3, none⟩ = some (.bool false) ∧ w'.cell? ⟨w.heap.size + 1, 4, none⟩ = some (.bool false) ∧ w'.cell? ⟨w.heap.size + 1, 5, none⟩ = some (.bool false) ∧ w'.cell? ⟨w.heap.size + 1, 6, none⟩ = some (.bool false) ∧ w'.cell? ⟨w.heap.size + 1, 7, none⟩ = some (.bool false) ∧ w'.cell? ⟨w.heap.size + 1, 8, none⟩ = some (.bool false) ∧ w'.cell? ⟨w.heap.size + 1, 9, none⟩ = some (.bool false) ∧ w'.cell? ⟨w.heap.size + 1, 10, none⟩ = some (.bool false) ∧ w'.cell? ⟨w.heap.size + 1, 11, none⟩ = some (.slice (some ⟨w.heap.size, 0, none⟩) 2 2)) := fun w' h => BC.out w' (Below.trans HBM.out (h.mono HBM.out.size))
  have HR2c : Hid (Rows wM (.slice (some ⟨w.heap.size, 0, none⟩) 2 2) intF gbB.vs) := Rows.below HR2.out HBM.out (Nat.le_refl _)
  obtain ⟨b0, b1, b2, b3, b4, b5, b6, b7, b8, b9, b10, b11⟩ := BC2.out wM (Below.refl _ _)
  go_upto_region 3 with fail
  go_cut [4, 5] from 19 to 24 (fun s4 s5 wx => ∃ (p2 : Nat) (ad : Option Addr) (cap : Nat), s4 = .pointer (some ⟨p2, 0, none⟩) ∧ s5 = .int .i64 0 ∧ Hid (LRow wx p2 (cnL gbJC (.slice ad 5 cap))) ∧ Hid (Rows wx (.slice ad 5 cap) intF gbJC.vs) ∧ Hid (Below wM.heap.size wM wx))
  case first =>
    have tokA : Hid True := trivial
    have tokB : Hid True := trivial
    obtain ⟨p0, p1, p2, p3, p4, p5, p6, p7, p8, p9, p10, p11⟩ := BC2.out (wM.drew.alloc (.cells #[.int .i64 0, .bool false, .bool false, .bool false, .bool false, .bool false, .bool false, .bool false, .bool false, .bool false, .bool false, .slice none 0 0] 25)) (((Below.refl _ wM).drew).alloc (Nat.le_refl _) _)
    obtain ⟨q0, q1, q2, q3, q4, q5, q6, q7, q8, q9, q10, q11⟩ := BC2.out (wM.alloc (.cells #[.int .i64 0, .bool false, .bool false, .bool false, .bool false, .bool false, .bool false, .bool false, .bool false, .bool false, .bool false, .slice none 0 0] 25)) ((Below.refl _ wM).alloc (Nat.le_refl _) _)
    go_region_with (first
      | (clear tokA
         refine (agreed_any _).mono ?_
         rintro e w3 ⟨q3, rfl, hr3, hb3⟩
         have hS3 : Below wM.heap.size wM w3 := Below.trans (by first | exact Below.refl _ wM | exact (Below.refl _ wM).drew | exact (Below.refl _ wM).alloc (Nat.le_refl _) _ | exact ((Below.refl _ wM).alloc (Nat.le_refl _) _).drew | exact ((Below.refl _ wM).drew).alloc (Nat.le_refl _) _) (hb3.mono (by simp))
         have HR3 : Hid _ := hr3
         obtain ⟨d0, d1, d2, d3, d4, d5, d6, d7, d8, d9, d10, d11⟩ := BC2.out w3 hS3
         obtain ⟨e0, e1, e2, e3, e4, e5, e6, e7, e8, e9, e10, e11⟩ := BC2.out (w3.alloc (.cells #[.int .i64 0, .bool false, .bool false, .bool false, .bool false, .bool false, .bool false, .bool false, .bool false, .bool false, .bool false, .slice none 0 0] 25)) (keep_allocG hS3 _)
         try (have HNA : Hid (LRow w3 wM.heap.size (cnL c0 (.slice none 0 0))) := (LRow.new wM.drew (cnL c0 (.slice none 0 0)) 25).below hb3 (by simp)
              have HLA : Hid (wM.heap.size < w3.heap.size) := Nat.lt_of_lt_of_le (by simp) hb3.size)
         clear hr3 hb3)
      | (clear tokB
         refine (KJ.out _ _ _ ?r1 ?r2).mono ?_
         case r1 => first | exact HR3.out | exact Rows.below HR3.out ((Below.refl _ w3).alloc (Nat.le_refl _) _) (Nat.le_refl _)
         case r2 => exact Rows.below HR2c.out (by first | assumption | exact keep_allocG hS3 _ | exact hS3.drew | exact (keep_allocG hS3 _).drew) (Nat.le_refl _)
         rintro e w4 ⟨v4, rfl, own4, hb4⟩
         have hS4 : Below wM.heap.size wM w4 := Below.trans (by first | assumption | exact keep_allocG hS3 _ | exact hS3.drew | exact (keep_allocG hS3 _).drew) (hb4.mono (by first | exact hS3.size | exact (keep_allocG hS3 _).size | exact hS3.drew.size))
         obtain ⟨ad4, cap4, rfl⟩ := g_slice own4
         have HO4 : Hid _ := own4
         have HB4 : Hid _ := hb4
         try (
           have hN := by first | exact HNA.out.below hb4 HLA.out | exact HNA.out.below hb4 (by simp; exact Nat.lt_succ_of_lt HLA.out) | exact (LRow.new w3 (cnL c0 (.slice none 0 0)) 25).below hb4 (by simp)
           obtain ⟨n0, n1, n2, n3, n4, n5, n6, n7, n8, n9, n10, n11⟩ := hN.cells12
           obtain ⟨z0, z1, z2, z3, z4, z5, z6, z7, z8, z9, z10, z11⟩ := hN.frozen12
           have HNB : Hid _ := set12 hN own4 hS4 (by first | exact HLA.out | exact (by simp; exact Nat.lt_succ_of_lt HLA.out) | simp) (by first | exact Nat.le_refl _ | exact hS3.size) (.int .i64 1000) (.bool true) (.bool false) (.bool false) (.bool true) (.bool false) (.bool false) (.bool false) (.bool false) (.bool false) (.bool false) (.slice ad4 5 cap4)
           clear hN)
         clear own4 hb4))
    all_goals (go_wp2_with fail; go_meet; first | exact ⟨_, ad4, cap4, rfl, rfl, HNB.out.1, Reads.of_own HNB.out.2.1, HNB.out.2.2⟩ | exact ⟨_, ad4, cap4, rfl, rfl, LRow.new w4 (cnL gbJC (.slice ad4 5 cap4)) _, Rows.below (Reads.of_own HO4.out) ((Below.refl _ _).alloc (Nat.le_refl _) _) (Nat.le_refl _), hS4.alloc hS4.size _⟩)
  case rest =>
  obtain ⟨p4, ad4, cap4, rfl, rfl, HLJ, HRJ, HBJ⟩ := hcut
  rename World => wJ
  clear KJ b0 b1 b2 b3 b4 b5 b6 b7 b8 b9 b10 b11
  go_upto_region 4 with fail
  go_cut [6, 7] from 25 to 29 (fun s6 s7 wx => ∃ (p6 : Nat) (ad : Option Addr) (cap : Nat), s6 = .pointer (some ⟨p6, 0, none⟩) ∧ s7 = .int .i64 0 ∧ Hid (LRow wx p6 (cnL gbD (.slice ad 3 cap))) ∧ Hid (Rows wx (.slice ad 3 cap) intF gbD.vs) ∧ Hid (Below wJ.heap.size wJ wx))
  case first =>
    have tokA : Hid True := trivial
    have tokB : Hid True := trivial
    go_wp2_with (first
      | (clear tokA
         refine (agreed_any _).mono ?_
         rintro e w3 ⟨q3, rfl, hr3, hb3⟩
         have HR3 : Hid _ := hr3
         have HB3 : Hid _ := hb3
         clear hr3 hb3)
      | (clear tokB
         refine (KD.out _ _ ?r1).mono ?_
         case r1 => exact HR3.out
         rintro e w4 ⟨v4, rfl, own4, hb4⟩
         obtain ⟨ad4, cap4, rfl⟩ := g_slice own4
         have HO4 : Hid _ := own4
         have HB4 : Hid (Below wJ.heap.size wJ w4) := Below.trans HB3.out (hb4.mono HB3.out.size)
         clear own4 hb4))
    trace_state
    go_meet
    exact ⟨_, ad4, cap4, rfl, rfl, LRow.new w4 (cnL gbD (.slice ad4 3 cap4)) _, Rows.below (Reads.of_own HO4.out) ((Below.refl _ _).alloc (Nat.le_refl _) _) (Nat.le_refl _), HB4.out.alloc HB4.out.size _⟩
  case rest =>
  obtain ⟨p6, ad6, cap6, rfl, rfl, HLD, HRD, HBD⟩ := hcut
  rename World => wD
  clear KD
  go_upto_region 5 with fail
  go_cut [8, 9] from 30 to 34 (fun s8 s9 wx => s9 = .int .i64 4 ∧ Hid (Below wD.heap.size wD wx))
  case first =>
    have tokA : Hid True := trivial
    have tokB : Hid True := trivial
    go_wp2_with (first
      | (clear tokA
         refine (agreed_any _).mono ?_
         rintro e w3 ⟨q3, rfl, hr3, hb3⟩
         have HR3 : Hid _ := hr3
         have HB3 : Hid _ := hb3
         clear hr3 hb3)
      | (clear tokB
         refine (KE.out _ _ ?r1).mono ?_
         case r1 => exact HR3.out
         rintro e w4 ⟨v4, rfl, ⟨ad4, cap4, rfl⟩, hb4⟩
         have HB4 : Hid (Below wD.heap.size wD w4) := Below.trans HB3.out (hb4.mono HB3.out.size)
         clear hb4))
    go_meet
    exact ⟨rfl, HB4.out.alloc HB4.out.size _⟩
  case rest =>
  obtain ⟨rfl, HBE⟩ := hcut
  rename World => wE
  clear KE BC BC2
  have HDE : Hid (Below wD.heap.size wD wE) := HBE
  have HJE : Hid (Below wJ.heap.size wJ wE) := Below.trans HBD.out (HDE.out.mono HBD.out.size)
  have HME : Hid (Below wM.heap.size wM wE) := Below.trans HBJ.out (HJE.out.mono HBJ.out.size)
  have HWE : Hid (Below W2.heap.size W2 wE) := Below.trans HBM.out (HME.out.mono HBM.out.size)
  have CE : Hid (∀ w', Below wE.heap.size wE w' → (w'.cell? ⟨p2, 0, none⟩ = some (.int .i64 1000) ∧ w'.cell? ⟨p2, 1, none⟩ = some (.bool true) ∧ w'.cell? ⟨p2, 2, none⟩ = some (.bool false) ∧ w'.cell? ⟨p2, 3, none⟩ = some (.bool false) ∧ w'.cell? ⟨p2, 4, none⟩ = some (.bool false) ∧ w'.cell? ⟨p2, 5, none⟩ = some (.bool false) ∧ w'.cell? ⟨p2, 6, none⟩ = some (.bool false) ∧ w'.cell? ⟨p2, 7, none⟩ = some (.bool false) ∧ w'.cell? ⟨p2, 8, none⟩ = some (.bool false) ∧ w'.cell? ⟨p2, 9, none⟩ = some (.bool false) ∧ w'.cell? ⟨p2, 10, none⟩ = some (.bool false) ∧ w'.cell? ⟨p2, 11, none⟩ = some (.slice ad2 1 cap2)) ∧ (w'.cell? ⟨p4, 11, none⟩ = some (.slice ad4 5 cap4)) ∧ (w'.cell? ⟨p6, 0, none⟩ = some (.int .i64 2000) ∧ w'.cell? ⟨p6, 1, none⟩ = some (.bool true) ∧ w'.cell? ⟨p6, 2, none⟩ = some (.bool false) ∧ w'.cell? ⟨p6, 3, none⟩ = some (.bool false) ∧ w'.cell? ⟨p6, 4, none⟩ = some (.bool false) ∧ w'.cell? ⟨p6, 5, none⟩ = some (.bool false) ∧ w'.cell? ⟨p6, 6, none⟩ = some (.bool false) ∧ w'.cell? ⟨p6, 7, none⟩ = some (.bool false) ∧ w'.cell? ⟨p6, 8, none⟩ = some (.bool false) ∧ w'.cell? ⟨p6, 9, none⟩ = some (.bool false) ∧ w'.cell? ⟨p6, 10, none⟩ = some (.bool false) ∧ w'.cell? ⟨p6, 11, none⟩ = some (.slice ad6 3 cap6)) ∧ (w'.cell? ⟨w.heap.size + 1, 0, none⟩ = some (.int .i64 5) ∧ w'.cell? ⟨w.heap.size + 1, 1, none⟩ = some (.bool true) ∧ w'.cell? ⟨w.heap.size + 1, 2, none⟩ = some (.bool false) ∧ w'.cell? ⟨w.heap.size + 1, 3, none⟩ = some (.bool false) ∧ w'.cell? ⟨w.heap.size + 1, 4, none⟩ = some (.bool false) ∧ w'.cell? ⟨w.heap.size + 1, 5, none⟩ = some (.bool false) ∧ w'.cell? ⟨w.heap.size + 1, 6, none⟩ = some (.bool false) ∧ w'.cell? ⟨w.heap.size + 1, 7, none⟩ = some (.bool false) ∧ w'.cell? ⟨w.heap.size + 1, 8, none⟩ = some (.bool false) ∧ w'.cell? ⟨w.heap.size + 1, 9, none⟩ = some (.bool false) ∧ w'.cell? ⟨w.heap.size + 1, 10, none⟩ = some (.bool false) ∧ w'.cell? ⟨w.heap.size + 1, 11, none⟩ = some (.slice (some ⟨w.heap.size, 0, none⟩) 2 2))) := fun w' h => by
    have hm := HLM.out.below (Below.trans HME.out (h.mono HME.out.size)) (cell_in (HLM.out.cell 0 rfl))
    have hj := HLJ.out.below (Below.trans HJE.out (h.mono HJE.out.size)) (cell_in (HLJ.out.cell 0 rfl))
    have hd := HLD.out.below (Below.trans HDE.out (h.mono HDE.out.size)) (cell_in (HLD.out.cell 0 rfl))
    have hb := HL2.out.below (Below.trans HWE.out (h.mono HWE.out.size)) HL2'.out
    exact ⟨⟨hm.cell 0 rfl, hm.cell 1 rfl, hm.cell 2 rfl, hm.cell 3 rfl, hm.cell 4 rfl, hm.cell 5 rfl, hm.cell 6 rfl, hm.cell 7 rfl, hm.cell 8 rfl, hm.cell 9 rfl, hm.cell 10 rfl, hm.cell 11 rfl⟩, hj.cell 11 rfl, ⟨hd.cell 0 rfl, hd.cell 1 rfl, hd.cell 2 rfl, hd.cell 3 rfl, hd.cell 4 rfl, hd.cell 5 rfl, hd.cell 6 rfl, hd.cell 7 rfl, hd.cell 8 rfl, hd.cell 9 rfl, hd.cell 10 rfl, hd.cell 11 rfl⟩, ⟨hb.cell 0 rfl, hb.cell 1 rfl, hb.cell 2 rfl, hb.cell 3 rfl, hb.cell 4 rfl, hb.cell 5 rfl, hb.cell 6 rfl, hb.cell 7 rfl, hb.cell 8 rfl, hb.cell 9 rfl, hb.cell 10 rfl, hb.cell 11 rfl⟩⟩
  have K1 : Hid (∀ w' vb, Below wE.heap.size wE w' → Rows w' vb intF [3] → Calls Try.prog 18 #[.agg #[.int .i64 1000, .bool true, .bool false, .bool false, .bool false, .bool false, .bool false, .bool false, .bool false, .bool false, .bool false, .slice ad2 1 cap2], .agg #[.int .i64 1000, .bool true, .bool false, .bool false, .bool false, .bool false, .bool false, .bool false, .bool false, .bool false, .bool false, vb]] w' fun e w'' => e = .returned (.bool true) ∧ Below w'.heap.size w' w'') := fun w' vb h hr => by
    have k := sameC_any gbM gbM (.slice ad2 1 cap2) vb w' (Rows.below HRM.out (Below.trans HME.out (h.mono HME.out.size)) (Nat.le_refl _)) hr (by decide) (by decide)
    rw [show sameC gbM gbM = true by decide +kernel] at k
    exact k
  have K2 : Hid (∀ w' vb, Below wE.heap.size wE w' → Rows w' vb intF [2, 3, 4, 5, 9] → Calls Try.prog 26 #[.slice ad4 5 cap4, vb] w' fun e w'' => e = .returned (.bool true) ∧ Below w'.heap.size w' w'') := fun w' vb h hr => by
    have k := sameI_any (.slice ad4 5 cap4) vb gbJC.vs gbJC.vs w' (Rows.below HRJ.out (Below.trans HJE.out (h.mono HJE.out.size)) (Nat.le_refl _)) hr (by decide) (by decide)
    exact k.mono fun e w'' ⟨h1, n, h2⟩ => ⟨by rw [h1]; simp, by rw [h2]; exact below_drewN' _ _ n⟩
  have K3 : Hid (∀ w' vb, Below wE.heap.size wE w' → Rows w' vb intF [2, 3, 4] → Calls Try.prog 18 #[.agg #[.int .i64 2000, .bool true, .bool false, .bool false, .bool false, .bool false, .bool false, .bool false, .bool false, .bool false, .bool false, .slice ad6 3 cap6], .agg #[.int .i64 2000, .bool true, .bool false, .bool false, .bool false, .bool false, .bool false, .bool false, .bool false, .bool false, .bool false, vb]] w' fun e w'' => e = .returned (.bool true) ∧ Below w'.heap.size w' w'') := fun w' vb h hr => by
    have k := sameC_any gbD gbD (.slice ad6 3 cap6) vb w' (Rows.below HRD.out (Below.trans HDE.out (h.mono HDE.out.size)) (Nat.le_refl _)) hr (by decide) (by decide)
    rw [show sameC gbD gbD = true by decide +kernel] at k
    exact k
  have K4 : Hid (∀ w' va, Rows w' va intF agC.vs → Calls Try.prog 14 #[.agg #[.int .i64 1000, .bool true, .bool false, .bool false, .bool true, .bool false, .bool false, .bool false, .bool false, .bool false, .bool false, va], .int .i64 4, .int .i64 9] w' fun e w'' => e = .returned (.bool true) ∧ Below w'.heap.size w' w'') := fun w' va hr => by
    have k := may_any agC va 4 9 w' hr (by decide) (by decide) (by decide)
    rw [gb5.1] at k
    exact k
  have K5 : Hid (∀ w' va, Rows w' va intF agC.vs → Calls Try.prog 14 #[.agg #[.int .i64 1000, .bool true, .bool false, .bool false, .bool true, .bool false, .bool false, .bool false, .bool false, .bool false, .bool false, va], .int .i64 2, .int .i64 0] w' fun e w'' => e = .returned (.bool false) ∧ Below w'.heap.size w' w'') := fun w' va hr => by
    have k := may_any agC va 2 0 w' hr (by decide) (by decide) (by decide)
    rw [gb5.2.1] at k
    exact k
  have K6 : Hid (∀ w', Calls Try.prog 14 #[.agg #[.int .i64 0, .bool false, .bool false, .bool false, .bool false, .bool false, .bool false, .bool false, .bool false, .bool false, .bool false, .slice none 0 0], .int .i64 0, .int .i64 0] w' fun e w'' => e = .returned (.bool true) ∧ Below w'.heap.size w' w'') := fun w' => by
    have k := may_any c0 (.slice none 0 0) 0 0 w' ⟨none, 0, rfl, .inl rfl⟩ (by decide) (by decide) (by decide)
    rw [gb5.2.2.1] at k
    exact k
  have K7 : Hid (∀ w' va, Below wE.heap.size wE w' → Rows w' va intF agC.vs → Calls Try.prog 16 #[.agg #[.int .i64 1000, .bool true, .bool false, .bool false, .bool true, .bool false, .bool false, .bool false, .bool false, .bool false, .bool false, va], .agg #[.int .i64 5, .bool true, .bool false, .bool false, .bool false, .bool false, .bool false, .bool false, .bool false, .bool false, .bool false, .slice (some ⟨w.heap.size, 0, none⟩) 2 2]] w' fun e w'' => e = .returned (.bool false) ∧ Below w'.heap.size w' w'') := fun w' va h hr => by
    have k := less_any agC gbB va (.slice (some ⟨w.heap.size, 0, none⟩) 2 2) w' hr (Rows.below HR2.out (Below.trans HWE.out (h.mono HWE.out.size)) (Nat.le_refl _)) (by decide) (by decide) (inR_small _ (by decide +kernel)) (inR_small _ (by decide +kernel))
    rw [gb5.2.2.2] at k
    exact k
  have m0 : ∀ w', Below wE.heap.size wE w' → w'.cell? ⟨p2, 0, none⟩ = some (.int .i64 1000) := fun w' h => (CE.out w' h).1.1
  have m1 : ∀ w', Below wE.heap.size wE w' → w'.cell? ⟨p2, 1, none⟩ = some (.bool true) := fun w' h => (CE.out w' h).1.2.1
  have m2 : ∀ w', Below wE.heap.size wE w' → w'.cell? ⟨p2, 2, none⟩ = some (.bool false) := fun w' h => (CE.out w' h).1.2.2.1
  have m3 : ∀ w', Below wE.heap.size wE w' → w'.cell? ⟨p2, 3, none⟩ = some (.bool false) := fun w' h => (CE.out w' h).1.2.2.2.1
  have m4 : ∀ w', Below wE.heap.size wE w' → w'.cell? ⟨p2, 4, none⟩ = some (.bool false) := fun w' h => (CE.out w' h).1.2.2.2.2.1
  have m5 : ∀ w', Below wE.heap.size wE w' → w'.cell? ⟨p2, 5, none⟩ = some (.bool false) := fun w' h => (CE.out w' h).1.2.2.2.2.2.1
  have m6 : ∀ w', Below wE.heap.size wE w' → w'.cell? ⟨p2, 6, none⟩ = some (.bool false) := fun w' h => (CE.out w' h).1.2.2.2.2.2.2.1
  have m7 : ∀ w', Below wE.heap.size wE w' → w'.cell? ⟨p2, 7, none⟩ = some (.bool false) := fun w' h => (CE.out w' h).1.2.2.2.2.2.2.2.1
  have m8 : ∀ w', Below wE.heap.size wE w' → w'.cell? ⟨p2, 8, none⟩ = some (.bool false) := fun w' h => (CE.out w' h).1.2.2.2.2.2.2.2.2.1
  have m9 : ∀ w', Below wE.heap.size wE w' → w'.cell? ⟨p2, 9, none⟩ = some (.bool false) := fun w' h => (CE.out w' h).1.2.2.2.2.2.2.2.2.2.1
  have m10 : ∀ w', Below wE.heap.size wE w' → w'.cell? ⟨p2, 10, none⟩ = some (.bool false) := fun w' h => (CE.out w' h).1.2.2.2.2.2.2.2.2.2.2.1
  have m11 : ∀ w', Below wE.heap.size wE w' → w'.cell? ⟨p2, 11, none⟩ = some (.slice ad2 1 cap2) := fun w' h => (CE.out w' h).1.2.2.2.2.2.2.2.2.2.2.2
  have d0 : ∀ w', Below wE.heap.size wE w' → w'.cell? ⟨p6, 0, none⟩ = some (.int .i64 2000) := fun w' h => (CE.out w' h).2.2.1.1
  have d1 : ∀ w', Below wE.heap.size wE w' → w'.cell? ⟨p6, 1, none⟩ = some (.bool true) := fun w' h => (CE.out w' h).2.2.1.2.1
  have d2 : ∀ w', Below wE.heap.size wE w' → w'.cell? ⟨p6, 2, none⟩ = some (.bool false) := fun w' h => (CE.out w' h).2.2.1.2.2.1
  have d3 : ∀ w', Below wE.heap.size wE w' → w'.cell? ⟨p6, 3, none⟩ = some (.bool false) := fun w' h => (CE.out w' h).2.2.1.2.2.2.1
  have d4 : ∀ w', Below wE.heap.size wE w' → w'.cell? ⟨p6, 4, none⟩ = some (.bool false) := fun w' h => (CE.out w' h).2.2.1.2.2.2.2.1
  have d5 : ∀ w', Below wE.heap.size wE w' → w'.cell? ⟨p6, 5, none⟩ = some (.bool false) := fun w' h => (CE.out w' h).2.2.1.2.2.2.2.2.1
  have d6 : ∀ w', Below wE.heap.size wE w' → w'.cell? ⟨p6, 6, none⟩ = some (.bool false) := fun w' h => (CE.out w' h).2.2.1.2.2.2.2.2.2.1
  have d7 : ∀ w', Below wE.heap.size wE w' → w'.cell? ⟨p6, 7, none⟩ = some (.bool false) := fun w' h => (CE.out w' h).2.2.1.2.2.2.2.2.2.2.1
  have d8 : ∀ w', Below wE.heap.size wE w' → w'.cell? ⟨p6, 8, none⟩ = some (.bool false) := fun w' h => (CE.out w' h).2.2.1.2.2.2.2.2.2.2.2.1
  have d9 : ∀ w', Below wE.heap.size wE w' → w'.cell? ⟨p6, 9, none⟩ = some (.bool false) := fun w' h => (CE.out w' h).2.2.1.2.2.2.2.2.2.2.2.2.1
  have d10 : ∀ w', Below wE.heap.size wE w' → w'.cell? ⟨p6, 10, none⟩ = some (.bool false) := fun w' h => (CE.out w' h).2.2.1.2.2.2.2.2.2.2.2.2.2.1
  have d11 : ∀ w', Below wE.heap.size wE w' → w'.cell? ⟨p6, 11, none⟩ = some (.slice ad6 3 cap6) := fun w' h => (CE.out w' h).2.2.1.2.2.2.2.2.2.2.2.2.2.2
  have b0 : ∀ w', Below wE.heap.size wE w' → w'.cell? ⟨w.heap.size + 1, 0, none⟩ = some (.int .i64 5) := fun w' h => (CE.out w' h).2.2.2.1
  have b1 : ∀ w', Below wE.heap.size wE w' → w'.cell? ⟨w.heap.size + 1, 1, none⟩ = some (.bool true) := fun w' h => (CE.out w' h).2.2.2.2.1
  have b2 : ∀ w', Below wE.heap.size wE w' → w'.cell? ⟨w.heap.size + 1, 2, none⟩ = some (.bool false) := fun w' h => (CE.out w' h).2.2.2.2.2.1
  have b3 : ∀ w', Below wE.heap.size wE w' → w'.cell? ⟨w.heap.size + 1, 3, none⟩ = some (.bool false) := fun w' h => (CE.out w' h).2.2.2.2.2.2.1
  have b4 : ∀ w', Below wE.heap.size wE w' → w'.cell? ⟨w.heap.size + 1, 4, none⟩ = some (.bool false) := fun w' h => (CE.out w' h).2.2.2.2.2.2.2.1
  have b5 : ∀ w', Below wE.heap.size wE w' → w'.cell? ⟨w.heap.size + 1, 5, none⟩ = some (.bool false) := fun w' h => (CE.out w' h).2.2.2.2.2.2.2.2.1
  have b6 : ∀ w', Below wE.heap.size wE w' → w'.cell? ⟨w.heap.size + 1, 6, none⟩ = some (.bool false) := fun w' h => (CE.out w' h).2.2.2.2.2.2.2.2.2.1
  have b7 : ∀ w', Below wE.heap.size wE w' → w'.cell? ⟨w.heap.size + 1, 7, none⟩ = some (.bool false) := fun w' h => (CE.out w' h).2.2.2.2.2.2.2.2.2.2.1
  have b8 : ∀ w', Below wE.heap.size wE w' → w'.cell? ⟨w.heap.size + 1, 8, none⟩ = some (.bool false) := fun w' h => (CE.out w' h).2.2.2.2.2.2.2.2.2.2.2.1
  have b9 : ∀ w', Below wE.heap.size wE w' → w'.cell? ⟨w.heap.size + 1, 9, none⟩ = some (.bool false) := fun w' h => (CE.out w' h).2.2.2.2.2.2.2.2.2.2.2.2.1
  have b10 : ∀ w', Below wE.heap.size wE w' → w'.cell? ⟨w.heap.size + 1, 10, none⟩ = some (.bool false) := fun w' h => (CE.out w' h).2.2.2.2.2.2.2.2.2.2.2.2.2.1
  have b11 : ∀ w', Below wE.heap.size wE w' → w'.cell? ⟨w.heap.size + 1, 11, none⟩ = some (.slice (some ⟨w.heap.size, 0, none⟩) 2 2) := fun w' h => (CE.out w' h).2.2.2.2.2.2.2.2.2.2.2.2.2.2
  have j11 : ∀ w', Below wE.heap.size wE w' → w'.cell? ⟨p4, 11, none⟩ = some (.slice ad4 5 cap4) := fun w' h => (CE.out w' h).2.1
  clear CE
  go_upto_region 6 with fail
  go_region_held3 (fun w' => Below wE.heap.size wE w') (first | assumption | exact Below.alloc (by assumption) (Below.size (by assumption)) _ | exact (Below.refl _ wE).drew | exact ((Below.refl _ wE).alloc (Nat.le_refl _) _).drew | fail)
    (first
    | (go_at_call_of 18 (Value.slice ad2 1 cap2); refine (K1.out _ _ (((Below.refl _ wE).alloc (Nat.le_refl _) _).drew) (Rows.below (Rows.lit _ ([3] : List Int) _ _ _ _ _ rfl rfl rfl) ((Below.refl _ _).drew) (Nat.le_refl _))).mono ?_; rintro e wN ⟨rfl, hbN⟩; have hSN : Below wE.heap.size wE wN := Below.trans (((Below.refl _ wE).alloc (Nat.le_refl _) _).drew) (hbN.mono (Below.size (((Below.refl _ wE).alloc (Nat.le_refl _) _).drew))); clear hbN)
    | (go_at_call_of 26 (Value.slice ad4 5 cap4); refine (K2.out _ _ (Below.alloc (by assumption) (Below.size (by assumption)) _) (Rows.lit _ ([2, 3, 4, 5, 9] : List Int) _ _ _ _ _ rfl rfl rfl)).mono ?_; rintro e wN ⟨rfl, hbN⟩; have hSN : Below wE.heap.size wE wN := Below.trans (Below.alloc (by assumption) (Below.size (by assumption)) _) (hbN.mono (Below.size (Below.alloc (by assumption) (Below.size (by assumption)) _))); clear hbN)
    | (go_at_call_of 18 (Value.slice ad6 3 cap6); refine (K3.out _ _ (Below.alloc (by assumption) (Below.size (by assumption)) _) (Rows.lit _ ([2, 3, 4] : List Int) _ _ _ _ _ rfl rfl rfl)).mono ?_; rintro e wN ⟨rfl, hbN⟩; have hSN : Below wE.heap.size wE wN := Below.trans (Below.alloc (by assumption) (Below.size (by assumption)) _) (hbN.mono (Below.size (Below.alloc (by assumption) (Below.size (by assumption)) _))); clear hbN)
    | (go_at_call 25; refine (agreed_any _).mono ?_; rintro e wN ⟨qN, rfl, hrN, hbN⟩; have hSN : Below wE.heap.size wE wN := Below.trans (by assumption) (hbN.mono (Below.size (by assumption))); clear hbN)
    | (go_at_call_of 14 (Value.int IntKind.i64 9); refine (K4.out _ _ (by assumption)).mono ?_; rintro e wN ⟨rfl, hbN⟩; have hSN : Below wE.heap.size wE wN := Below.trans (by assumption) (hbN.mono (Below.size (by assumption))); clear hbN)
    | (go_at_call_of 14 (Value.int IntKind.i64 2); refine (K5.out _ _ (by assumption)).mono ?_; rintro e wN ⟨rfl, hbN⟩; have hSN : Below wE.heap.size wE wN := Below.trans (by assumption) (hbN.mono (Below.size (by assumption))); clear hbN)
    | (go_at_call_of 14 (Value.slice none 0 0); refine (K6.out _).mono ?_; rintro e wN ⟨rfl, hbN⟩; have hSN : Below wE.heap.size wE wN := Below.trans (by assumption) (hbN.mono (Below.size (by assumption))); clear hbN)
    | (go_at_call 16; refine (K7.out _ _ (by assumption) (by assumption)).mono ?_; rintro e wN ⟨rfl, hbN⟩; have hSN : Below wE.heap.size wE wN := Below.trans (by assumption) (hbN.mono (Below.size (by assumption))); clear hbN)
    | fail)
  all_goals go_wp2_with fail
  all_goals go_ret
  all_goals exact ⟨rfl, Below.trans HB2.out ((Below.trans HWE.out (Below.mono (by assumption) HWE.out.size)).mono HB2.out.size)⟩
end Go.Proofs.Ytklpfbakjiaaoaa
