/- GrantMay: for all two consents, every purpose and every vendor: by the meet just that may be done that each lets; whoever is below lets no more. No condition. -/
import Derived.Test.YtklpfbakjiaaoaaGrantK
import Derived.Test.YtklpfbakjiaaoaaGrantF
import Derived.Test.YtklpfbakjiaaoaaGrantI
import Derived.Test.YtklpfbakjiaaoaaOpen
import Derived.Test.YtklpfbakjiaaoaaOpenG
import Derived.Test.YtklpfbakjiaaoaaRows
namespace Go.Proofs.Ytklpfbakjiaaoaa.grantMay
open Go.ChangeShapes Go.WideShapes Go.ChangeAt Go.RowKit
open Go.ChangeMaps (open_string shut_string)
set_option linter.all false
set_option maxRecDepth 100000

set_option maxHeartbeats 8000000 in
theorem walk (a : Cn) (va : Value) (b : Cn) (vb : Value) (p n : Int) (w : World) (ra : Rows w va intF a.vs) (oa : a.vs.length ≤ 140737488351232 ∧ inR a.vs ∧ (-9223372036854775808 ≤ a.g ∧ a.g ≤ 9223372036854775807)) (rb : Rows w vb intF b.vs) (ob : b.vs.length ≤ 140737488351232 ∧ inR b.vs ∧ (-9223372036854775808 ≤ b.g ∧ b.g ≤ 9223372036854775807))
    (hp : -9223372036854775808 ≤ p ∧ p ≤ 9223372036854775807) (hn : -9223372036854775808 ≤ n ∧ n ≤ 9223372036854775807) :
    Calls Try.prog 5 #[.agg #[.int .i64 a.g, .bool a.b0, .bool a.b1, .bool a.b2, .bool a.b3, .bool a.b4, .bool a.b5, .bool a.b6, .bool a.b7, .bool a.b8, .bool a.b9, va], .agg #[.int .i64 b.g, .bool b.b0, .bool b.b1, .bool b.b2, .bool b.b3, .bool b.b4, .bool b.b5, .bool b.b6, .bool b.b7, .bool b.b8, .bool b.b9, vb], .int .i64 p, .int .i64 n] w fun e w' => e = .returned (.bool true) ∧ Below w.heap.size w w' := by
  obtain ⟨m, hm⟩ : ∃ m, m = bothR (fun x y => x && y) a b := ⟨_, rfl⟩
  obtain ⟨z, hz⟩ : ∃ z, z = bothE a b := ⟨_, rfl⟩
  obtain ⟨x, hx⟩ : ∃ x, x = mayC a p n := ⟨_, rfl⟩
  obtain ⟨y, hy⟩ : ∃ y, y = mayC b p n := ⟨_, rfl⟩
  obtain ⟨u, hu⟩ : ∃ u, u = lessC a b := ⟨_, rfl⟩
  obtain ⟨q, hq⟩ : ∃ q, q = mayC m p n := ⟨_, rfl⟩
  have HQ : Hid (z = 0 → q = (x && y)) := fun h => by rw [hq, hm, hx, hy]; exact may_meet (by rw [← hz]; exact h) p n
  have HU : Hid (u = true → x = true → y = true) := fun h h2 => by rw [hy]; exact may_less (by rw [← hu]; exact h) p n (by rw [← hx]; exact h2)
  have hmok : CnOk m := by rw [hm]; exact both_cnOk _ a b
  have oka : CnOk a := ⟨oa.1, oa.2.1⟩
  have okb : CnOk b := ⟨ob.1, ob.2.1⟩
  have KM : Hid (∀ w', Rows w' va intF a.vs → Rows w' vb intF b.vs → Calls Try.prog 7 #[.agg #[.int .i64 a.g, .bool a.b0, .bool a.b1, .bool a.b2, .bool a.b3, .bool a.b4, .bool a.b5, .bool a.b6, .bool a.b7, .bool a.b8, .bool a.b9, va], .agg #[.int .i64 b.g, .bool b.b0, .bool b.b1, .bool b.b2, .bool b.b3, .bool b.b4, .bool b.b5, .bool b.b6, .bool b.b7, .bool b.b8, .bool b.b9, vb]] w' fun e w'' => ∃ v, e = .returned (.tuple #[.agg #[.int .i64 m.g, .bool m.b0, .bool m.b1, .bool m.b2, .bool m.b3, .bool m.b4, .bool m.b5, .bool m.b6, .bool m.b7, .bool m.b8, .bool m.b9, v], .int .i64 z]) ∧ Rows w'' v intF m.vs ∧ Below w'.heap.size w' w'') := fun w' h1 h2 => by
    have h := meet_any a b va vb w' h1 h2 oka.1 okb.1 oka.2 okb.2
    rw [← hm, ← hz] at h
    exact h.mono fun e w'' ⟨v, h1, h2, h3⟩ => ⟨v, h1, Reads.of_own h2, h3⟩
  have KA : Hid (∀ w', Rows w' va intF a.vs → Calls Try.prog 14 #[.agg #[.int .i64 a.g, .bool a.b0, .bool a.b1, .bool a.b2, .bool a.b3, .bool a.b4, .bool a.b5, .bool a.b6, .bool a.b7, .bool a.b8, .bool a.b9, va], .int .i64 p, .int .i64 n] w' fun e w'' => e = .returned (.bool x) ∧ Below w'.heap.size w' w'') := fun w' h1 => by rw [hx]; exact may_any a va p n w' h1 oka.max hp hn
  have KB : Hid (∀ w', Rows w' vb intF b.vs → Calls Try.prog 14 #[.agg #[.int .i64 b.g, .bool b.b0, .bool b.b1, .bool b.b2, .bool b.b3, .bool b.b4, .bool b.b5, .bool b.b6, .bool b.b7, .bool b.b8, .bool b.b9, vb], .int .i64 p, .int .i64 n] w' fun e w'' => e = .returned (.bool y) ∧ Below w'.heap.size w' w'') := fun w' h1 => by rw [hy]; exact may_any b vb p n w' h1 okb.max hp hn
  have KQ : Hid (∀ w' v, Rows w' v intF m.vs → Calls Try.prog 14 #[.agg #[.int .i64 m.g, .bool m.b0, .bool m.b1, .bool m.b2, .bool m.b3, .bool m.b4, .bool m.b5, .bool m.b6, .bool m.b7, .bool m.b8, .bool m.b9, v], .int .i64 p, .int .i64 n] w' fun e w'' => e = .returned (.bool q) ∧ Below w'.heap.size w' w'') := fun w' v h1 => by rw [hq]; exact may_any m v p n w' h1 hmok.max hp hn
  have KL : Hid (∀ w', Rows w' va intF a.vs → Rows w' vb intF b.vs → Calls Try.prog 16 #[.agg #[.int .i64 a.g, .bool a.b0, .bool a.b1, .bool a.b2, .bool a.b3, .bool a.b4, .bool a.b5, .bool a.b6, .bool a.b7, .bool a.b8, .bool a.b9, va], .agg #[.int .i64 b.g, .bool b.b0, .bool b.b1, .bool b.b2, .bool b.b3, .bool b.b4, .bool b.b5, .bool b.b6, .bool b.b7, .bool b.b8, .bool b.b9, vb]] w' fun e w'' => e = .returned (.bool u) ∧ Below w'.heap.size w' w'') := fun w' h1 h2 => by
    rw [hu]; exact less_any a b va vb w' h1 h2 oka.1 okb.1 oka.2 okb.2
  obtain ⟨W0, hW0⟩ : ∃ W0, W0 = (w.alloc (.cells #[.int .i64 a.g, .bool a.b0, .bool a.b1, .bool a.b2, .bool a.b3, .bool a.b4, .bool a.b5, .bool a.b6, .bool a.b7, .bool a.b8, .bool a.b9, va] 25)).alloc (.cells #[.int .i64 b.g, .bool b.b0, .bool b.b1, .bool b.b2, .bool b.b3, .bool b.b4, .bool b.b5, .bool b.b6, .bool b.b7, .bool b.b8, .bool b.b9, vb] 25) := ⟨_, rfl⟩
  have A0 : Hid (CB W0 w.heap.size a va) := by rw [hW0]; exact (CB.new w a va 25 ra).below (below_new _ _)
  have B0 : Hid (CB W0 (w.heap.size + 1) b vb) := by
    rw [hW0]
    have h := CB.new (w.alloc (.cells #[.int .i64 a.g, .bool a.b0, .bool a.b1, .bool a.b2, .bool a.b3, .bool a.b4, .bool a.b5, .bool a.b6, .bool a.b7, .bool a.b8, .bool a.b9, va] 25)) b vb 25 (Rows.below rb (below_new _ _) (Nat.le_refl _))
    rw [show (w.alloc (.cells #[.int .i64 a.g, .bool a.b0, .bool a.b1, .bool a.b2, .bool a.b3, .bool a.b4, .bool a.b5, .bool a.b6, .bool a.b7, .bool a.b8, .bool a.b9, va] 25)).heap.size = w.heap.size + 1 from by simp] at h
    exact h
  have S0 : Hid (Below w.heap.size w W0) := by rw [hW0]; exact next (below_new _ _) (below_new _ _)
  have HW0 : Hid _ := hW0
  clear ra oa rb ob hm hz hx hy hu hq hmok oka okb hW0 hp hn
  go_enter Try.func5, Try.ntmps5
  go_upto_region 1 with fail
  rw [← HW0.out]
  clear HW0
  have a0 := A0.out.row.cell 0 rfl
  have a1 := A0.out.row.cell 1 rfl
  have a2 := A0.out.row.cell 2 rfl
  have a3 := A0.out.row.cell 3 rfl
  have a4 := A0.out.row.cell 4 rfl
  have a5 := A0.out.row.cell 5 rfl
  have a6 := A0.out.row.cell 6 rfl
  have a7 := A0.out.row.cell 7 rfl
  have a8 := A0.out.row.cell 8 rfl
  have a9 := A0.out.row.cell 9 rfl
  have a10 := A0.out.row.cell 10 rfl
  have a11 := A0.out.row.cell 11 rfl
  have b0 := B0.out.row.cell 0 rfl
  have b1 := B0.out.row.cell 1 rfl
  have b2 := B0.out.row.cell 2 rfl
  have b3 := B0.out.row.cell 3 rfl
  have b4 := B0.out.row.cell 4 rfl
  have b5 := B0.out.row.cell 5 rfl
  have b6 := B0.out.row.cell 6 rfl
  have b7 := B0.out.row.cell 7 rfl
  have b8 := B0.out.row.cell 8 rfl
  have b9 := B0.out.row.cell 9 rfl
  have b10 := B0.out.row.cell 10 rfl
  have b11 := B0.out.row.cell 11 rfl
  go_wp2_with fail
  refine (KM.out _ A0.out.rows B0.out.rows).mono ?_
  rintro e w1 ⟨v1, rfl, r1, hb1⟩
  obtain ⟨ad1, cap1, rfl⟩ := r1.shape
  have R1 : Hid _ := r1
  have X1 : Hid (Below W0.heap.size W0 w1) := hb1
  clear a0 a1 a2 a3 a4 a5 a6 a7 a8 a9 a10 a11
  clear b0 b1 b2 b3 b4 b5 b6 b7 b8 b9 b10 b11
  clear r1 hb1 KM
  go_wp2_with fail
  refine (grantBegun_any _).mono ?_
  rintro e w2 ⟨rfl, hb2⟩
  have X2 : Hid (Below W0.heap.size W0 w2) := next (next X1.out (below_new _ _)) hb2
  have M2 : Hid (CB w2 w1.heap.size m (.slice ad1 m.vs.length cap1)) := (CB.new w1 m _ 25 R1.out).below hb2
  have A2 : Hid (CB w2 w.heap.size a va) := A0.out.below X2.out
  have B2 : Hid (CB w2 (w.heap.size + 1) b vb) := B0.out.below X2.out
  clear hb2 R1 X1
  have a0 : ∀ w', Below w2.heap.size w2 w' → w'.cell? ⟨w.heap.size, 0, none⟩ = some (.int .i64 a.g) := fun w' h => (A2.out.below h).row.cell 0 rfl
  have a1 : ∀ w', Below w2.heap.size w2 w' → w'.cell? ⟨w.heap.size, 1, none⟩ = some (.bool a.b0) := fun w' h => (A2.out.below h).row.cell 1 rfl
  have a2 : ∀ w', Below w2.heap.size w2 w' → w'.cell? ⟨w.heap.size, 2, none⟩ = some (.bool a.b1) := fun w' h => (A2.out.below h).row.cell 2 rfl
  have a3 : ∀ w', Below w2.heap.size w2 w' → w'.cell? ⟨w.heap.size, 3, none⟩ = some (.bool a.b2) := fun w' h => (A2.out.below h).row.cell 3 rfl
  have a4 : ∀ w', Below w2.heap.size w2 w' → w'.cell? ⟨w.heap.size, 4, none⟩ = some (.bool a.b3) := fun w' h => (A2.out.below h).row.cell 4 rfl
  have a5 : ∀ w', Below w2.heap.size w2 w' → w'.cell? ⟨w.heap.size, 5, none⟩ = some (.bool a.b4) := fun w' h => (A2.out.below h).row.cell 5 rfl
  have a6 : ∀ w', Below w2.heap.size w2 w' → w'.cell? ⟨w.heap.size, 6, none⟩ = some (.bool a.b5) := fun w' h => (A2.out.below h).row.cell 6 rfl
  have a7 : ∀ w', Below w2.heap.size w2 w' → w'.cell? ⟨w.heap.size, 7, none⟩ = some (.bool a.b6) := fun w' h => (A2.out.below h).row.cell 7 rfl
  have a8 : ∀ w', Below w2.heap.size w2 w' → w'.cell? ⟨w.heap.size, 8, none⟩ = some (.bool a.b7) := fun w' h => (A2.out.below h).row.cell 8 rfl
  have a9 : ∀ w', Below w2.heap.size w2 w' → w'.cell? ⟨w.heap.size, 9, none⟩ = some (.bool a.b8) := fun w' h => (A2.out.below h).row.cell 9 rfl
  have a10 : ∀ w', Below w2.heap.size w2 w' → w'.cell? ⟨w.heap.size, 10, none⟩ = some (.bool a.b9) := fun w' h => (A2.out.below h).row.cell 10 rfl
  have a11 : ∀ w', Below w2.heap.size w2 w' → w'.cell? ⟨w.heap.size, 11, none⟩ = some (va) := fun w' h => (A2.out.below h).row.cell 11 rfl
  have b0 : ∀ w', Below w2.heap.size w2 w' → w'.cell? ⟨w.heap.size + 1, 0, none⟩ = some (.int .i64 b.g) := fun w' h => (B2.out.below h).row.cell 0 rfl
  have b1 : ∀ w', Below w2.heap.size w2 w' → w'.cell? ⟨w.heap.size + 1, 1, none⟩ = some (.bool b.b0) := fun w' h => (B2.out.below h).row.cell 1 rfl
  have b2 : ∀ w', Below w2.heap.size w2 w' → w'.cell? ⟨w.heap.size + 1, 2, none⟩ = some (.bool b.b1) := fun w' h => (B2.out.below h).row.cell 2 rfl
  have b3 : ∀ w', Below w2.heap.size w2 w' → w'.cell? ⟨w.heap.size + 1, 3, none⟩ = some (.bool b.b2) := fun w' h => (B2.out.below h).row.cell 3 rfl
  have b4 : ∀ w', Below w2.heap.size w2 w' → w'.cell? ⟨w.heap.size + 1, 4, none⟩ = some (.bool b.b3) := fun w' h => (B2.out.below h).row.cell 4 rfl
  have b5 : ∀ w', Below w2.heap.size w2 w' → w'.cell? ⟨w.heap.size + 1, 5, none⟩ = some (.bool b.b4) := fun w' h => (B2.out.below h).row.cell 5 rfl
  have b6 : ∀ w', Below w2.heap.size w2 w' → w'.cell? ⟨w.heap.size + 1, 6, none⟩ = some (.bool b.b5) := fun w' h => (B2.out.below h).row.cell 6 rfl
  have b7 : ∀ w', Below w2.heap.size w2 w' → w'.cell? ⟨w.heap.size + 1, 7, none⟩ = some (.bool b.b6) := fun w' h => (B2.out.below h).row.cell 7 rfl
  have b8 : ∀ w', Below w2.heap.size w2 w' → w'.cell? ⟨w.heap.size + 1, 8, none⟩ = some (.bool b.b7) := fun w' h => (B2.out.below h).row.cell 8 rfl
  have b9 : ∀ w', Below w2.heap.size w2 w' → w'.cell? ⟨w.heap.size + 1, 9, none⟩ = some (.bool b.b8) := fun w' h => (B2.out.below h).row.cell 9 rfl
  have b10 : ∀ w', Below w2.heap.size w2 w' → w'.cell? ⟨w.heap.size + 1, 10, none⟩ = some (.bool b.b9) := fun w' h => (B2.out.below h).row.cell 10 rfl
  have b11 : ∀ w', Below w2.heap.size w2 w' → w'.cell? ⟨w.heap.size + 1, 11, none⟩ = some (vb) := fun w' h => (B2.out.below h).row.cell 11 rfl
  go_upto_region 4 with fail
  go_region_held3 (fun w' => Below w2.heap.size w2 w') (first | assumption | exact (Below.refl _ w2).drew | exact Below.drew (by assumption) | fail)
    (first
    | (go_at_call_of 14 va; refine (KA.out _ (Rows.below A2.out.rows (by first | assumption | exact (Below.refl _ w2).drew) (Nat.le_refl _))).mono ?_; rintro e wN ⟨rfl, hbN⟩; have hSN : Below w2.heap.size w2 wN := Below.trans (by first | assumption | exact (Below.refl _ w2).drew) (hbN.mono (Below.size (by first | assumption | exact (Below.refl _ w2).drew))); clear hbN)
    | (go_at_call_of 14 vb; refine (KB.out _ (Rows.below B2.out.rows (by first | assumption | exact Below.drew (by assumption)) (Nat.le_refl _))).mono ?_; rintro e w4 ⟨rfl, hbN⟩; have S4 : Below w2.heap.size w2 w4 := Below.trans (by first | assumption | exact Below.drew (by assumption)) (hbN.mono (Below.size (by first | assumption | exact Below.drew (by assumption)))); clear hbN)
    | fail)
  have A4 : Hid (CB w4 w.heap.size a va) := A2.out.below S4
  have B4 : Hid (CB w4 (w.heap.size + 1) b vb) := B2.out.below S4
  have M4 : Hid (CB w4 w1.heap.size m (.slice ad1 m.vs.length cap1)) := M2.out.below S4
  have HS4 : Hid _ := S4
  clear S4 KA KB A2 B2 M2 a0 b0 a1 b1 a2 b2 a3 b3 a4 b4 a5 b5 a6 b6 a7 b7 a8 b8 a9 b9 a10 b10 a11 b11
  try clear hSN
  by_cases h0 : z = 0
  · have q0 : (z == 0) = true := by rw [h0]; rfl
    have hq := HQ.out h0
    clear h0
    cases x
    · cases y
      · skip
        have hq2 : q = false := hq
        subst hq2
        clear hq
        have c0 := M4.out.row.cell 0 rfl
        have c1 := M4.out.row.cell 1 rfl
        have c2 := M4.out.row.cell 2 rfl
        have c3 := M4.out.row.cell 3 rfl
        have c4 := M4.out.row.cell 4 rfl
        have c5 := M4.out.row.cell 5 rfl
        have c6 := M4.out.row.cell 6 rfl
        have c7 := M4.out.row.cell 7 rfl
        have c8 := M4.out.row.cell 8 rfl
        have c9 := M4.out.row.cell 9 rfl
        have c10 := M4.out.row.cell 10 rfl
        have c11 := M4.out.row.cell 11 rfl
        go_wp2_with fail
        refine (KQ.out _ _ M4.out.rows).mono ?_
        rintro e w5 ⟨rfl, hb5⟩
        have H5 : Hid (Below w2.heap.size w2 w5) := next HS4.out hb5
        have A5 : Hid (CB w5 w.heap.size a va) := A4.out.below hb5
        have B5 : Hid (CB w5 (w.heap.size + 1) b vb) := B4.out.below hb5
        clear c0 c1 c2 c3 c4 c5 c6 c7 c8 c9 c10 c11
        clear hb5
        have a0 := A5.out.row.cell 0 rfl
        have a1 := A5.out.row.cell 1 rfl
        have a2 := A5.out.row.cell 2 rfl
        have a3 := A5.out.row.cell 3 rfl
        have a4 := A5.out.row.cell 4 rfl
        have a5 := A5.out.row.cell 5 rfl
        have a6 := A5.out.row.cell 6 rfl
        have a7 := A5.out.row.cell 7 rfl
        have a8 := A5.out.row.cell 8 rfl
        have a9 := A5.out.row.cell 9 rfl
        have a10 := A5.out.row.cell 10 rfl
        have a11 := A5.out.row.cell 11 rfl
        have b0 := B5.out.row.cell 0 rfl
        have b1 := B5.out.row.cell 1 rfl
        have b2 := B5.out.row.cell 2 rfl
        have b3 := B5.out.row.cell 3 rfl
        have b4 := B5.out.row.cell 4 rfl
        have b5 := B5.out.row.cell 5 rfl
        have b6 := B5.out.row.cell 6 rfl
        have b7 := B5.out.row.cell 7 rfl
        have b8 := B5.out.row.cell 8 rfl
        have b9 := B5.out.row.cell 9 rfl
        have b10 := B5.out.row.cell 10 rfl
        have b11 := B5.out.row.cell 11 rfl
        go_wp2_with fail
        refine (KL.out _ A5.out.rows B5.out.rows).mono ?_
        rintro e w6 ⟨rfl, hb6⟩
        cases u
        · go_wp2_with fail
          go_ret
          exact ⟨rfl, next (next (next S0.out X2.out) H5.out) hb6⟩
        · go_wp2_with fail
          go_ret
          exact ⟨rfl, next (next (next S0.out X2.out) H5.out) hb6⟩
      · skip
        have hq2 : q = false := hq
        subst hq2
        clear hq
        have c0 := M4.out.row.cell 0 rfl
        have c1 := M4.out.row.cell 1 rfl
        have c2 := M4.out.row.cell 2 rfl
        have c3 := M4.out.row.cell 3 rfl
        have c4 := M4.out.row.cell 4 rfl
        have c5 := M4.out.row.cell 5 rfl
        have c6 := M4.out.row.cell 6 rfl
        have c7 := M4.out.row.cell 7 rfl
        have c8 := M4.out.row.cell 8 rfl
        have c9 := M4.out.row.cell 9 rfl
        have c10 := M4.out.row.cell 10 rfl
        have c11 := M4.out.row.cell 11 rfl
        go_wp2_with fail
        refine (KQ.out _ _ M4.out.rows).mono ?_
        rintro e w5 ⟨rfl, hb5⟩
        have H5 : Hid (Below w2.heap.size w2 w5) := next HS4.out hb5
        have A5 : Hid (CB w5 w.heap.size a va) := A4.out.below hb5
        have B5 : Hid (CB w5 (w.heap.size + 1) b vb) := B4.out.below hb5
        clear c0 c1 c2 c3 c4 c5 c6 c7 c8 c9 c10 c11
        clear hb5
        have a0 := A5.out.row.cell 0 rfl
        have a1 := A5.out.row.cell 1 rfl
        have a2 := A5.out.row.cell 2 rfl
        have a3 := A5.out.row.cell 3 rfl
        have a4 := A5.out.row.cell 4 rfl
        have a5 := A5.out.row.cell 5 rfl
        have a6 := A5.out.row.cell 6 rfl
        have a7 := A5.out.row.cell 7 rfl
        have a8 := A5.out.row.cell 8 rfl
        have a9 := A5.out.row.cell 9 rfl
        have a10 := A5.out.row.cell 10 rfl
        have a11 := A5.out.row.cell 11 rfl
        have b0 := B5.out.row.cell 0 rfl
        have b1 := B5.out.row.cell 1 rfl
        have b2 := B5.out.row.cell 2 rfl
        have b3 := B5.out.row.cell 3 rfl
        have b4 := B5.out.row.cell 4 rfl
        have b5 := B5.out.row.cell 5 rfl
        have b6 := B5.out.row.cell 6 rfl
        have b7 := B5.out.row.cell 7 rfl
        have b8 := B5.out.row.cell 8 rfl
        have b9 := B5.out.row.cell 9 rfl
        have b10 := B5.out.row.cell 10 rfl
        have b11 := B5.out.row.cell 11 rfl
        go_wp2_with fail
        refine (KL.out _ A5.out.rows B5.out.rows).mono ?_
        rintro e w6 ⟨rfl, hb6⟩
        cases u
        · go_wp2_with fail
          go_ret
          exact ⟨rfl, next (next (next S0.out X2.out) H5.out) hb6⟩
        · go_wp2_with fail
          go_ret
          exact ⟨rfl, next (next (next S0.out X2.out) H5.out) hb6⟩
    · cases y
      · skip
        have hq2 : q = false := hq
        subst hq2
        clear hq
        have c0 := M4.out.row.cell 0 rfl
        have c1 := M4.out.row.cell 1 rfl
        have c2 := M4.out.row.cell 2 rfl
        have c3 := M4.out.row.cell 3 rfl
        have c4 := M4.out.row.cell 4 rfl
        have c5 := M4.out.row.cell 5 rfl
        have c6 := M4.out.row.cell 6 rfl
        have c7 := M4.out.row.cell 7 rfl
        have c8 := M4.out.row.cell 8 rfl
        have c9 := M4.out.row.cell 9 rfl
        have c10 := M4.out.row.cell 10 rfl
        have c11 := M4.out.row.cell 11 rfl
        go_wp2_with fail
        refine (KQ.out _ _ M4.out.rows).mono ?_
        rintro e w5 ⟨rfl, hb5⟩
        have H5 : Hid (Below w2.heap.size w2 w5) := next HS4.out hb5
        have A5 : Hid (CB w5 w.heap.size a va) := A4.out.below hb5
        have B5 : Hid (CB w5 (w.heap.size + 1) b vb) := B4.out.below hb5
        clear c0 c1 c2 c3 c4 c5 c6 c7 c8 c9 c10 c11
        clear hb5
        have a0 := A5.out.row.cell 0 rfl
        have a1 := A5.out.row.cell 1 rfl
        have a2 := A5.out.row.cell 2 rfl
        have a3 := A5.out.row.cell 3 rfl
        have a4 := A5.out.row.cell 4 rfl
        have a5 := A5.out.row.cell 5 rfl
        have a6 := A5.out.row.cell 6 rfl
        have a7 := A5.out.row.cell 7 rfl
        have a8 := A5.out.row.cell 8 rfl
        have a9 := A5.out.row.cell 9 rfl
        have a10 := A5.out.row.cell 10 rfl
        have a11 := A5.out.row.cell 11 rfl
        have b0 := B5.out.row.cell 0 rfl
        have b1 := B5.out.row.cell 1 rfl
        have b2 := B5.out.row.cell 2 rfl
        have b3 := B5.out.row.cell 3 rfl
        have b4 := B5.out.row.cell 4 rfl
        have b5 := B5.out.row.cell 5 rfl
        have b6 := B5.out.row.cell 6 rfl
        have b7 := B5.out.row.cell 7 rfl
        have b8 := B5.out.row.cell 8 rfl
        have b9 := B5.out.row.cell 9 rfl
        have b10 := B5.out.row.cell 10 rfl
        have b11 := B5.out.row.cell 11 rfl
        go_wp2_with fail
        refine (KL.out _ A5.out.rows B5.out.rows).mono ?_
        rintro e w6 ⟨rfl, hb6⟩
        cases u
        · go_wp2_with fail
          go_ret
          exact ⟨rfl, next (next (next S0.out X2.out) H5.out) hb6⟩
        · exact absurd (HU.out (by trivial) (by trivial)) (by decide)
      · skip
        have hq2 : q = true := hq
        subst hq2
        clear hq
        have c0 := M4.out.row.cell 0 rfl
        have c1 := M4.out.row.cell 1 rfl
        have c2 := M4.out.row.cell 2 rfl
        have c3 := M4.out.row.cell 3 rfl
        have c4 := M4.out.row.cell 4 rfl
        have c5 := M4.out.row.cell 5 rfl
        have c6 := M4.out.row.cell 6 rfl
        have c7 := M4.out.row.cell 7 rfl
        have c8 := M4.out.row.cell 8 rfl
        have c9 := M4.out.row.cell 9 rfl
        have c10 := M4.out.row.cell 10 rfl
        have c11 := M4.out.row.cell 11 rfl
        go_wp2_with fail
        refine (KQ.out _ _ M4.out.rows).mono ?_
        rintro e w5 ⟨rfl, hb5⟩
        have H5 : Hid (Below w2.heap.size w2 w5) := next HS4.out hb5
        have A5 : Hid (CB w5 w.heap.size a va) := A4.out.below hb5
        have B5 : Hid (CB w5 (w.heap.size + 1) b vb) := B4.out.below hb5
        clear c0 c1 c2 c3 c4 c5 c6 c7 c8 c9 c10 c11
        clear hb5
        have a0 := A5.out.row.cell 0 rfl
        have a1 := A5.out.row.cell 1 rfl
        have a2 := A5.out.row.cell 2 rfl
        have a3 := A5.out.row.cell 3 rfl
        have a4 := A5.out.row.cell 4 rfl
        have a5 := A5.out.row.cell 5 rfl
        have a6 := A5.out.row.cell 6 rfl
        have a7 := A5.out.row.cell 7 rfl
        have a8 := A5.out.row.cell 8 rfl
        have a9 := A5.out.row.cell 9 rfl
        have a10 := A5.out.row.cell 10 rfl
        have a11 := A5.out.row.cell 11 rfl
        have b0 := B5.out.row.cell 0 rfl
        have b1 := B5.out.row.cell 1 rfl
        have b2 := B5.out.row.cell 2 rfl
        have b3 := B5.out.row.cell 3 rfl
        have b4 := B5.out.row.cell 4 rfl
        have b5 := B5.out.row.cell 5 rfl
        have b6 := B5.out.row.cell 6 rfl
        have b7 := B5.out.row.cell 7 rfl
        have b8 := B5.out.row.cell 8 rfl
        have b9 := B5.out.row.cell 9 rfl
        have b10 := B5.out.row.cell 10 rfl
        have b11 := B5.out.row.cell 11 rfl
        go_wp2_with fail
        refine (KL.out _ A5.out.rows B5.out.rows).mono ?_
        rintro e w6 ⟨rfl, hb6⟩
        cases u
        · go_wp2_with fail
          go_ret
          exact ⟨rfl, next (next (next S0.out X2.out) H5.out) hb6⟩
        · go_wp2_with fail
          go_ret
          exact ⟨rfl, next (next (next S0.out X2.out) H5.out) hb6⟩
  · have q0 : (z == 0) = false := by rw [beq_eq_false_iff_ne]; exact h0
    have hq : True := trivial
    clear h0
    cases x
    · cases y
      · skip
        have H5 : Hid (Below w2.heap.size w2 w4) := HS4
        have A5 : Hid (CB w4 w.heap.size a va) := A4
        have B5 : Hid (CB w4 (w.heap.size + 1) b vb) := B4
        have a0 := A5.out.row.cell 0 rfl
        have a1 := A5.out.row.cell 1 rfl
        have a2 := A5.out.row.cell 2 rfl
        have a3 := A5.out.row.cell 3 rfl
        have a4 := A5.out.row.cell 4 rfl
        have a5 := A5.out.row.cell 5 rfl
        have a6 := A5.out.row.cell 6 rfl
        have a7 := A5.out.row.cell 7 rfl
        have a8 := A5.out.row.cell 8 rfl
        have a9 := A5.out.row.cell 9 rfl
        have a10 := A5.out.row.cell 10 rfl
        have a11 := A5.out.row.cell 11 rfl
        have b0 := B5.out.row.cell 0 rfl
        have b1 := B5.out.row.cell 1 rfl
        have b2 := B5.out.row.cell 2 rfl
        have b3 := B5.out.row.cell 3 rfl
        have b4 := B5.out.row.cell 4 rfl
        have b5 := B5.out.row.cell 5 rfl
        have b6 := B5.out.row.cell 6 rfl
        have b7 := B5.out.row.cell 7 rfl
        have b8 := B5.out.row.cell 8 rfl
        have b9 := B5.out.row.cell 9 rfl
        have b10 := B5.out.row.cell 10 rfl
        have b11 := B5.out.row.cell 11 rfl
        go_wp2_with fail
        refine (KL.out _ A5.out.rows B5.out.rows).mono ?_
        rintro e w6 ⟨rfl, hb6⟩
        cases u
        · go_wp2_with fail
          go_ret
          exact ⟨rfl, next (next (next S0.out X2.out) H5.out) hb6⟩
        · go_wp2_with fail
          go_ret
          exact ⟨rfl, next (next (next S0.out X2.out) H5.out) hb6⟩
      · skip
        have H5 : Hid (Below w2.heap.size w2 w4) := HS4
        have A5 : Hid (CB w4 w.heap.size a va) := A4
        have B5 : Hid (CB w4 (w.heap.size + 1) b vb) := B4
        have a0 := A5.out.row.cell 0 rfl
        have a1 := A5.out.row.cell 1 rfl
        have a2 := A5.out.row.cell 2 rfl
        have a3 := A5.out.row.cell 3 rfl
        have a4 := A5.out.row.cell 4 rfl
        have a5 := A5.out.row.cell 5 rfl
        have a6 := A5.out.row.cell 6 rfl
        have a7 := A5.out.row.cell 7 rfl
        have a8 := A5.out.row.cell 8 rfl
        have a9 := A5.out.row.cell 9 rfl
        have a10 := A5.out.row.cell 10 rfl
        have a11 := A5.out.row.cell 11 rfl
        have b0 := B5.out.row.cell 0 rfl
        have b1 := B5.out.row.cell 1 rfl
        have b2 := B5.out.row.cell 2 rfl
        have b3 := B5.out.row.cell 3 rfl
        have b4 := B5.out.row.cell 4 rfl
        have b5 := B5.out.row.cell 5 rfl
        have b6 := B5.out.row.cell 6 rfl
        have b7 := B5.out.row.cell 7 rfl
        have b8 := B5.out.row.cell 8 rfl
        have b9 := B5.out.row.cell 9 rfl
        have b10 := B5.out.row.cell 10 rfl
        have b11 := B5.out.row.cell 11 rfl
        go_wp2_with fail
        refine (KL.out _ A5.out.rows B5.out.rows).mono ?_
        rintro e w6 ⟨rfl, hb6⟩
        cases u
        · go_wp2_with fail
          go_ret
          exact ⟨rfl, next (next (next S0.out X2.out) H5.out) hb6⟩
        · go_wp2_with fail
          go_ret
          exact ⟨rfl, next (next (next S0.out X2.out) H5.out) hb6⟩
    · cases y
      · skip
        have H5 : Hid (Below w2.heap.size w2 w4) := HS4
        have A5 : Hid (CB w4 w.heap.size a va) := A4
        have B5 : Hid (CB w4 (w.heap.size + 1) b vb) := B4
        have a0 := A5.out.row.cell 0 rfl
        have a1 := A5.out.row.cell 1 rfl
        have a2 := A5.out.row.cell 2 rfl
        have a3 := A5.out.row.cell 3 rfl
        have a4 := A5.out.row.cell 4 rfl
        have a5 := A5.out.row.cell 5 rfl
        have a6 := A5.out.row.cell 6 rfl
        have a7 := A5.out.row.cell 7 rfl
        have a8 := A5.out.row.cell 8 rfl
        have a9 := A5.out.row.cell 9 rfl
        have a10 := A5.out.row.cell 10 rfl
        have a11 := A5.out.row.cell 11 rfl
        have b0 := B5.out.row.cell 0 rfl
        have b1 := B5.out.row.cell 1 rfl
        have b2 := B5.out.row.cell 2 rfl
        have b3 := B5.out.row.cell 3 rfl
        have b4 := B5.out.row.cell 4 rfl
        have b5 := B5.out.row.cell 5 rfl
        have b6 := B5.out.row.cell 6 rfl
        have b7 := B5.out.row.cell 7 rfl
        have b8 := B5.out.row.cell 8 rfl
        have b9 := B5.out.row.cell 9 rfl
        have b10 := B5.out.row.cell 10 rfl
        have b11 := B5.out.row.cell 11 rfl
        go_wp2_with fail
        refine (KL.out _ A5.out.rows B5.out.rows).mono ?_
        rintro e w6 ⟨rfl, hb6⟩
        cases u
        · go_wp2_with fail
          go_ret
          exact ⟨rfl, next (next (next S0.out X2.out) H5.out) hb6⟩
        · exact absurd (HU.out (by trivial) (by trivial)) (by decide)
      · skip
        have H5 : Hid (Below w2.heap.size w2 w4) := HS4
        have A5 : Hid (CB w4 w.heap.size a va) := A4
        have B5 : Hid (CB w4 (w.heap.size + 1) b vb) := B4
        have a0 := A5.out.row.cell 0 rfl
        have a1 := A5.out.row.cell 1 rfl
        have a2 := A5.out.row.cell 2 rfl
        have a3 := A5.out.row.cell 3 rfl
        have a4 := A5.out.row.cell 4 rfl
        have a5 := A5.out.row.cell 5 rfl
        have a6 := A5.out.row.cell 6 rfl
        have a7 := A5.out.row.cell 7 rfl
        have a8 := A5.out.row.cell 8 rfl
        have a9 := A5.out.row.cell 9 rfl
        have a10 := A5.out.row.cell 10 rfl
        have a11 := A5.out.row.cell 11 rfl
        have b0 := B5.out.row.cell 0 rfl
        have b1 := B5.out.row.cell 1 rfl
        have b2 := B5.out.row.cell 2 rfl
        have b3 := B5.out.row.cell 3 rfl
        have b4 := B5.out.row.cell 4 rfl
        have b5 := B5.out.row.cell 5 rfl
        have b6 := B5.out.row.cell 6 rfl
        have b7 := B5.out.row.cell 7 rfl
        have b8 := B5.out.row.cell 8 rfl
        have b9 := B5.out.row.cell 9 rfl
        have b10 := B5.out.row.cell 10 rfl
        have b11 := B5.out.row.cell 11 rfl
        go_wp2_with fail
        refine (KL.out _ A5.out.rows B5.out.rows).mono ?_
        rintro e w6 ⟨rfl, hb6⟩
        cases u
        · go_wp2_with fail
          go_ret
          exact ⟨rfl, next (next (next S0.out X2.out) H5.out) hb6⟩
        · go_wp2_with fail
          go_ret
          exact ⟨rfl, next (next (next S0.out X2.out) H5.out) hb6⟩
set_option maxRecDepth 100000 in
theorem lifted (os : Os) (started : os.Started) (H : Type) (enc : TypeId × Value → H) :
    ReturnsInHanded {} Try.checked os 5 .any (Rows.grantMaySpec.pre6 enc Try.prog Try.f5 Rows.grantMayRow.domain false) (Rows.grantMaySpec.post enc Try.prog Try.f5 false true false false) := by
  refine returnsInHanded_of_change_sized (C := Try.checked) own started (by kernel_rfl) Try.func5
    (ChangeSpec.witness6 (enc := enc) (C := Try.checked) false ⟨#[], #[.agg #[.int .i64 0, .bool false, .bool false, .bool false, .bool false, .bool false, .bool false, .bool false, .bool false, .bool false, .bool false, .slice none 0 0], .agg #[.int .i64 0, .bool false, .bool false, .bool false, .bool false, .bool false, .bool false, .bool false, .bool false, .bool false, .bool false, .slice none 0 0], .int .i64 0, .int .i64 0], []⟩ 8 (by kernel_rfl) (by kernel_rfl) (by kernel_rfl) (by kernel_rfl)) ?_
  intro W base args ds gs before hval0 hW hcnd hsz0 _
  have hsz : (DataW.weightsEach Try.prog (Try.f5.params.toList ++ Rows.grantMaySpec.plain.varTypes Try.prog) (ds ++ gs)).all (· ≤ reachBytes) = true := hsz0
  have hval : ∀ (j : Nat) t v, Try.f5.params[j]? = some t → args[j]? = some v → Value.okWide Try.prog W .any base t v := hval0
  have hW' := hW
  obtain ⟨p, q, hA0, hV, rfl, hfz, hnd⟩ := hW
  have hA : DataW.TrodAll enc Try.prog W 0 (fun _ => true) true Try.f5.params.toList args.toList ds p := hA0
  rw [Try.params5] at hA hval hsz
  obtain ⟨v0, vs0, d0, ds0, p0, q0, hargs, rfl, rfl, h0, r0⟩ := trodAll_cons hA
  obtain ⟨v1, vs1, d1, ds1, p1, q1, rfl, rfl, rfl, h1, r1⟩ := trodAll_cons r0
  obtain ⟨v2, vs2, d2, ds2, p2, q2, rfl, rfl, rfl, h2, r2⟩ := trodAll_cons r1
  obtain ⟨v3, vs3, d3, ds3, p3, q3, rfl, rfl, rfl, h3, r3⟩ := trodAll_cons r2
  obtain ⟨rfl, rfl, rfl⟩ := trodAll_nil r3
  obtain rfl : args = #[v0, v1, v2, v3] := by cases args; simp_all
  obtain ⟨rfl, rfl⟩ := trodVars_none hV
  have k0 := h0
  have lt0 : ∀ x ∈ p0, x.block < W.heap.size := by obtain ⟨m, hm⟩ := k0; exact DataW.trod_lt m _ _ _ hm
  have k1 := h1
  have lt1 : ∀ x ∈ p1, x.block < W.heap.size := by obtain ⟨m, hm⟩ := k1; exact DataW.trod_lt m _ _ _ hm
  have k2 := h2
  have lt2 : ∀ x ∈ p2, x.block < W.heap.size := by obtain ⟨m, hm⟩ := k2; exact DataW.trod_lt m _ _ _ hm
  have k3 := h3
  have lt3 : ∀ x ∈ p3, x.block < W.heap.size := by obtain ⟨m, hm⟩ := k3; exact DataW.trod_lt m _ _ _ hm
  obtain ⟨c0, vv0, rfl, rd0, ok0, bk0⟩ := open_consent (hval 0 25 v0 rfl rfl) k0 140737488351232 (fits_each hsz (j := 0) (t := 25) rfl rfl)
  obtain ⟨c1, vv1, rfl, rd1, ok1, bk1⟩ := open_consent (hval 1 25 v1 rfl rfl) k1 140737488351232 (fits_each hsz (j := 1) (t := 25) rfl rfl)
  obtain ⟨x2, rfl, rfl, hp2, w2⟩ := open_int Try.underlying3 (hval 2 3 v2 rfl rfl) h2
  have b2 := i64_of w2
  obtain ⟨x3, rfl, rfl, hp3, w3⟩ := open_int Try.underlying3 (hval 3 3 v3 rfl rfl) h3
  have b3 := i64_of w3
  clear hA0 hval0
  refine (walk c0 vv0 c1 vv1 x2 x3 W rd0 ok0 rd1 ok1 b2 b3).mono fun e W' ⟨he, bel⟩ => ?_
  subst he
  exact ⟨_, rfl, _, _, _, [], _, [], hW', trodAll_mk1 (shut_bool Try.underlying4 _), (trodAll_cons_mk (Below.trod laidOut (by kernel_rfl) (of_decide_eq_true (by kernel_rfl)) k0 bel lt0) (trodAll_cons_mk (Below.trod laidOut (by kernel_rfl) (of_decide_eq_true (by kernel_rfl)) k1 bel lt1) (trodAll_cons_mk (Below.trod laidOut (by kernel_rfl) (of_decide_eq_true (by kernel_rfl)) k2 bel lt2) (trodAll_cons_mk (Below.trod laidOut (by kernel_rfl) (of_decide_eq_true (by kernel_rfl)) k3 bel lt3) trodAll_mk0)))), rfl, bel.frame _, fun h => by cases h⟩

theorem proved : Rows.GrantMaySaid :=
  OpenClaim.holds_of_wide 5 Try.f5 rfl rfl rfl rfl rfl rfl rfl ⟨rfl, rfl, rfl, rfl, rfl⟩ rfl rfl rfl rfl rfl (by kernel_rfl) Try.func5 (by kernel_rfl)
    (of_decide_eq_true (by kernel_rfl)) (by unfold Func.isWrapper; first | (rw [if_pos (by decide +kernel)]; kernel_rfl) | (rw [if_neg (by decide +kernel)]; exact ⟨rfl, rfl⟩))
    (fun os started H enc _ => lifted os started H enc)
#print axioms proved
end Go.Proofs.Ytklpfbakjiaaoaa.grantMay
