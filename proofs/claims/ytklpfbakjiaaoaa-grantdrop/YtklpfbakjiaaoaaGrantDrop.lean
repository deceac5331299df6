/- GrantDrop: for every consent, purpose, vendor and moment, and every purpose and vendor asked for: what was dropped is granted no more, and nothing else changes; dropped twice it is dropped once. No condition. -/
import Derived.Test.YtklpfbakjiaaoaaGrantK
import Derived.Test.YtklpfbakjiaaoaaGrantE
import Derived.Test.YtklpfbakjiaaoaaGrantH
import Derived.Test.YtklpfbakjiaaoaaGrantI
import Derived.Test.YtklpfbakjiaaoaaOpen
import Derived.Test.YtklpfbakjiaaoaaOpenG
import Derived.Test.YtklpfbakjiaaoaaRows
namespace Go.Proofs.Ytklpfbakjiaaoaa.grantDrop
open Go.ChangeShapes Go.WideShapes Go.ChangeAt Go.RowKit
open Go.ChangeMaps (open_string shut_string)
set_option linter.all false
set_option maxRecDepth 100000

def goneC (p x q k : Int) : Bool := decide (q ≠ 0) && decide (q = p) || decide (k ≠ 0) && decide (k = x)
set_option maxHeartbeats 8000000 in
theorem walk (c : Cn) (cv : Value) (p x0 t q k : Int) (w : World) (rc : Rows w cv intF c.vs) (oc : c.vs.length ≤ 140737488351232 ∧ inR c.vs ∧ (-9223372036854775808 ≤ c.g ∧ c.g ≤ 9223372036854775807))
    (hp : -9223372036854775808 ≤ p ∧ p ≤ 9223372036854775807) (hx : -9223372036854775808 ≤ x0 ∧ x0 ≤ 9223372036854775807) (ht : -9223372036854775808 ≤ t ∧ t ≤ 9223372036854775807) (hq : -9223372036854775808 ≤ q ∧ q ≤ 9223372036854775807) (hk : -9223372036854775808 ≤ k ∧ k ≤ 9223372036854775807) :
    Calls Try.prog 6 #[.agg #[.int .i64 c.g, .bool c.b0, .bool c.b1, .bool c.b2, .bool c.b3, .bool c.b4, .bool c.b5, .bool c.b6, .bool c.b7, .bool c.b8, .bool c.b9, cv], .int .i64 p, .int .i64 x0, .int .i64 t, .int .i64 q, .int .i64 k] w fun e w' => e = .returned (.bool true) ∧ Below w.heap.size w w' := by
  obtain ⟨d, hd⟩ : ∃ d, d = dropR c p x0 t := ⟨_, rfl⟩
  obtain ⟨z, hz⟩ : ∃ z, z = dropE c p x0 t := ⟨_, rfl⟩
  obtain ⟨x, hxx⟩ : ∃ x, x = mayC c q k := ⟨_, rfl⟩
  obtain ⟨y, hy⟩ : ∃ y, y = mayC d q k := ⟨_, rfl⟩
  obtain ⟨gn, hgn⟩ : ∃ g, g = goneC p x0 q k := ⟨_, rfl⟩
  have okc : CnOk c := ⟨oc.1, oc.2.1⟩
  have okd : CnOk d := by rw [hd]; exact drop_cnOk c p x0 t okc
  have KD : Hid (∀ w', Rows w' cv intF c.vs → Calls Try.prog 9 #[.agg #[.int .i64 c.g, .bool c.b0, .bool c.b1, .bool c.b2, .bool c.b3, .bool c.b4, .bool c.b5, .bool c.b6, .bool c.b7, .bool c.b8, .bool c.b9, cv], .int .i64 p, .int .i64 x0, .int .i64 t] w' fun e w'' => ∃ v, e = .returned (.tuple #[.agg #[.int .i64 d.g, .bool d.b0, .bool d.b1, .bool d.b2, .bool d.b3, .bool d.b4, .bool d.b5, .bool d.b6, .bool d.b7, .bool d.b8, .bool d.b9, v], .int .i64 z]) ∧ Rows w'' v intF d.vs ∧ Below w'.heap.size w' w'') := fun w' h1 => by
    have h := drop_any c cv p x0 t w' h1 okc.1 hp
    rw [← hd, ← hz] at h
    exact h.mono fun e w'' ⟨v, h1, h2, h3⟩ => ⟨v, h1, Reads.of_own h2, h3⟩
  have KX : Hid (∀ w', Rows w' cv intF c.vs → Calls Try.prog 14 #[.agg #[.int .i64 c.g, .bool c.b0, .bool c.b1, .bool c.b2, .bool c.b3, .bool c.b4, .bool c.b5, .bool c.b6, .bool c.b7, .bool c.b8, .bool c.b9, cv], .int .i64 q, .int .i64 k] w' fun e w'' => e = .returned (.bool x) ∧ Below w'.heap.size w' w'') := fun w' h1 => by rw [hxx]; exact may_any c cv q k w' h1 okc.max hq hk
  have KY : Hid (∀ w' v, Rows w' v intF d.vs → Calls Try.prog 14 #[.agg #[.int .i64 d.g, .bool d.b0, .bool d.b1, .bool d.b2, .bool d.b3, .bool d.b4, .bool d.b5, .bool d.b6, .bool d.b7, .bool d.b8, .bool d.b9, v], .int .i64 q, .int .i64 k] w' fun e w'' => e = .returned (.bool y) ∧ Below w'.heap.size w' w'') := fun w' v h1 => by rw [hy]; exact may_any d v q k w' h1 okd.max hq hk
  have KS : Hid (∀ w' u v, Rows w' u intF d.vs → Rows w' v intF d.vs → Calls Try.prog 18 #[.agg #[.int .i64 d.g, .bool d.b0, .bool d.b1, .bool d.b2, .bool d.b3, .bool d.b4, .bool d.b5, .bool d.b6, .bool d.b7, .bool d.b8, .bool d.b9, u], .agg #[.int .i64 d.g, .bool d.b0, .bool d.b1, .bool d.b2, .bool d.b3, .bool d.b4, .bool d.b5, .bool d.b6, .bool d.b7, .bool d.b8, .bool d.b9, v]] w' fun e w'' => e = .returned (.bool true) ∧ Below w'.heap.size w' w'') := fun w' u v h1 h2 => by
    have h := sameC_any d d u v w' h1 h2 okd.max okd.max
    rw [(sameC_iff d d).2 rfl] at h
    exact h
  by_cases h0 : z = 0
  rotate_left
  · have hd0 : d = c0 := by rw [hd]; exact dropR_bad (by rw [← hz]; exact h0)
    have KZ : Hid (∀ w' v, Rows w' v intF d.vs → Calls Try.prog 18 #[.agg #[.int .i64 d.g, .bool d.b0, .bool d.b1, .bool d.b2, .bool d.b3, .bool d.b4, .bool d.b5, .bool d.b6, .bool d.b7, .bool d.b8, .bool d.b9, v], .agg #[.int .i64 0, .bool false, .bool false, .bool false, .bool false, .bool false, .bool false, .bool false, .bool false, .bool false, .bool false, .slice none 0 0]] w' fun e w'' => e = .returned (.bool true) ∧ Below w'.heap.size w' w'') := fun w' v h1 => by
      have h := sameC_any d c0 v (.slice none 0 0) w' h1 ⟨none, 0, rfl, .inl rfl⟩ okd.max (by decide)
      rw [(sameC_iff d c0).2 hd0] at h
      exact h
    have q0 : (z != 0) = true := by rw [bne_iff_ne]; exact h0
    have C0 : Hid (CB (w.alloc (.cells #[.int .i64 c.g, .bool c.b0, .bool c.b1, .bool c.b2, .bool c.b3, .bool c.b4, .bool c.b5, .bool c.b6, .bool c.b7, .bool c.b8, .bool c.b9, cv] 25)) w.heap.size c cv) := CB.new w c cv 25 rc
    have S0 : Hid (Below w.heap.size w (w.alloc (.cells #[.int .i64 c.g, .bool c.b0, .bool c.b1, .bool c.b2, .bool c.b3, .bool c.b4, .bool c.b5, .bool c.b6, .bool c.b7, .bool c.b8, .bool c.b9, cv] 25))) := below_new _ _
    clear rc oc hp hx ht hq hk hd hz hxx hy hgn okc okd KX KY KS h0 hd0
    go_enter Try.func6, Try.ntmps6
    go_wp2_with fail
    refine (KD.out _ C0.out.rows).mono ?_
    rintro e w1 ⟨v1, rfl, r1, hb1⟩
    obtain ⟨ad1, cap1, rfl⟩ := r1.shape
    have R1 : Hid _ := r1
    have S1 : Hid (Below w.heap.size w w1) := next S0.out hb1
    clear r1 hb1 KD C0 S0
    go_wp2_with fail
    refine (grantBegun_any _).mono ?_
    rintro e w2 ⟨rfl, hb2⟩
    have D2 : Hid (CB w2 w1.heap.size d (.slice ad1 d.vs.length cap1)) := (CB.new w1 d _ 25 R1.out).below hb2
    have S2 : Hid (Below w.heap.size w w2) := next (next S1.out (below_new _ _)) hb2
    clear hb2 R1 S1
    have a0 := D2.out.row.cell 0 rfl
    have a1 := D2.out.row.cell 1 rfl
    have a2 := D2.out.row.cell 2 rfl
    have a3 := D2.out.row.cell 3 rfl
    have a4 := D2.out.row.cell 4 rfl
    have a5 := D2.out.row.cell 5 rfl
    have a6 := D2.out.row.cell 6 rfl
    have a7 := D2.out.row.cell 7 rfl
    have a8 := D2.out.row.cell 8 rfl
    have a9 := D2.out.row.cell 9 rfl
    have a10 := D2.out.row.cell 10 rfl
    have a11 := D2.out.row.cell 11 rfl
    go_wp2_with fail
    refine (KZ.out _ _ D2.out.rows).mono ?_
    rintro e w3 ⟨rfl, hb3⟩
    go_wp2_with fail
    go_ret
    exact ⟨rfl, next S2.out hb3⟩
  have hE : dropE c p x0 t = 0 := by rw [← hz]; exact h0
  have hdc : d = dropC c p x0 t := by rw [hd]; exact dropR_ok hE
  have HY : Hid (y = (x && !gn)) := by show _ = _; rw [hy, hxx, hdc, hgn]; exact drop_may c p x0 t q k
  have HG : Hid (gn = goneC p x0 q k) := hgn
  have KD2 : Hid (∀ w' v, Rows w' v intF d.vs → Calls Try.prog 9 #[.agg #[.int .i64 d.g, .bool d.b0, .bool d.b1, .bool d.b2, .bool d.b3, .bool d.b4, .bool d.b5, .bool d.b6, .bool d.b7, .bool d.b8, .bool d.b9, v], .int .i64 p, .int .i64 x0, .int .i64 t] w' fun e w'' => ∃ v, e = .returned (.tuple #[.agg #[.int .i64 d.g, .bool d.b0, .bool d.b1, .bool d.b2, .bool d.b3, .bool d.b4, .bool d.b5, .bool d.b6, .bool d.b7, .bool d.b8, .bool d.b9, v], .int .i64 0]) ∧ Rows w'' v intF d.vs ∧ Below w'.heap.size w' w'') := fun w' v h1 => by
    have h := drop_any d v p x0 t w' h1 okd.1 hp
    have e1 : dropE d p x0 t = 0 := by rw [hdc]; exact drop_again hE
    have e2 : dropR d p x0 t = d := by rw [dropR_ok e1, hdc]; exact drop_twice c p x0 t
    rw [e1, e2] at h
    exact h.mono fun e w'' ⟨v, h1, h2, h3⟩ => ⟨v, h1, Reads.of_own h2, h3⟩
  have KL : Hid (∀ w' u, Rows w' u intF d.vs → Rows w' cv intF c.vs → Calls Try.prog 16 #[.agg #[.int .i64 d.g, .bool d.b0, .bool d.b1, .bool d.b2, .bool d.b3, .bool d.b4, .bool d.b5, .bool d.b6, .bool d.b7, .bool d.b8, .bool d.b9, u], .agg #[.int .i64 c.g, .bool c.b0, .bool c.b1, .bool c.b2, .bool c.b3, .bool c.b4, .bool c.b5, .bool c.b6, .bool c.b7, .bool c.b8, .bool c.b9, cv]] w' fun e w'' => e = .returned (.bool true) ∧ Below w'.heap.size w' w'') := fun w' u h1 h2 => by
    have h := less_any d c u cv w' h1 h2 okd.1 okc.1 okd.2 okc.2
    rw [show lessC d c = true from by rw [hdc]; exact drop_less c p x0 t] at h
    exact h
  have KC : Hid (∀ w' u, Rows w' u intF d.vs → Calls Try.prog 19 #[.agg #[.int .i64 d.g, .bool d.b0, .bool d.b1, .bool d.b2, .bool d.b3, .bool d.b4, .bool d.b5, .bool d.b6, .bool d.b7, .bool d.b8, .bool d.b9, u]] w' fun e w'' => e = .returned (.int .i64 0) ∧ Below w'.heap.size w' w'') := fun w' u h1 => by
    have h := check_any d u w' h1 okd.max
    rw [show chC d = 0 from by rw [hdc]; exact drop_check hE] at h
    exact h
  clear hE hdc
  subst h0
  obtain ⟨W0, hW0⟩ : ∃ W0, W0 = (w.alloc (.cells #[.int .i64 c.g, .bool c.b0, .bool c.b1, .bool c.b2, .bool c.b3, .bool c.b4, .bool c.b5, .bool c.b6, .bool c.b7, .bool c.b8, .bool c.b9, cv] 25)) := ⟨_, rfl⟩
  have C0 : Hid (CB W0 w.heap.size c cv) := by rw [hW0]; exact CB.new w c cv 25 rc
  have S0 : Hid (Below w.heap.size w W0) := by rw [hW0]; exact below_new _ _
  have HW0 : Hid _ := hW0
  clear rc oc hp hx ht hq hk hd hz hxx hy hgn okc okd hW0
  go_enter Try.func6, Try.ntmps6
  go_upto_region 1 with fail
  rw [← HW0.out]
  clear HW0
  have a0 := C0.out.row.cell 0 rfl
  have a1 := C0.out.row.cell 1 rfl
  have a2 := C0.out.row.cell 2 rfl
  have a3 := C0.out.row.cell 3 rfl
  have a4 := C0.out.row.cell 4 rfl
  have a5 := C0.out.row.cell 5 rfl
  have a6 := C0.out.row.cell 6 rfl
  have a7 := C0.out.row.cell 7 rfl
  have a8 := C0.out.row.cell 8 rfl
  have a9 := C0.out.row.cell 9 rfl
  have a10 := C0.out.row.cell 10 rfl
  have a11 := C0.out.row.cell 11 rfl
  go_wp2_with fail
  refine (KD.out _ C0.out.rows).mono ?_
  rintro e w1 ⟨v1, rfl, r1, hb1⟩
  obtain ⟨ad1, cap1, rfl⟩ := r1.shape
  have R1 : Hid _ := r1
  have X1 : Hid (Below W0.heap.size W0 w1) := hb1
  clear a0 a1 a2 a3 a4 a5 a6 a7 a8 a9 a10 a11
  clear r1 hb1 KD
  go_wp2_with fail
  refine (grantBegun_any _).mono ?_
  rintro e w2 ⟨rfl, hb2⟩
  have D2 : Hid (CB w2 w1.heap.size d (.slice ad1 d.vs.length cap1)) := (CB.new w1 d _ 25 R1.out).below hb2
  have X2 : Hid (Below W0.heap.size W0 w2) := next (next X1.out (below_new _ _)) hb2
  have C2 : Hid (CB w2 w.heap.size c cv) := C0.out.below X2.out
  have S2 : Hid (Below w.heap.size w w2) := next S0.out X2.out
  clear hb2 R1 X1 X2 S0 C0
  have a0 := D2.out.row.cell 0 rfl
  have a1 := D2.out.row.cell 1 rfl
  have a2 := D2.out.row.cell 2 rfl
  have a3 := D2.out.row.cell 3 rfl
  have a4 := D2.out.row.cell 4 rfl
  have a5 := D2.out.row.cell 5 rfl
  have a6 := D2.out.row.cell 6 rfl
  have a7 := D2.out.row.cell 7 rfl
  have a8 := D2.out.row.cell 8 rfl
  have a9 := D2.out.row.cell 9 rfl
  have a10 := D2.out.row.cell 10 rfl
  have a11 := D2.out.row.cell 11 rfl
  go_wp2_with fail
  refine (KD2.out _ _ D2.out.rows).mono ?_
  rintro e w3 ⟨v3, rfl, r3, hb3⟩
  obtain ⟨ad3, cap3, rfl⟩ := r3.shape
  clear a0 a1 a2 a3 a4 a5 a6 a7 a8 a9 a10 a11
  obtain ⟨W4, hW4⟩ : ∃ W4, W4 = w3.alloc (.cells #[.int .i64 d.g, .bool d.b0, .bool d.b1, .bool d.b2, .bool d.b3, .bool d.b4, .bool d.b5, .bool d.b6, .bool d.b7, .bool d.b8, .bool d.b9, (.slice ad3 d.vs.length cap3)] 25) := ⟨_, rfl⟩
  have hb4 : Below w2.heap.size w2 W4 := by rw [hW4]; exact next hb3 (below_new _ _)
  have E4 : Hid (CB W4 w3.heap.size d (.slice ad3 d.vs.length cap3)) := by rw [hW4]; exact CB.new w3 d _ 25 r3
  have D4 : Hid (CB W4 w1.heap.size d (.slice ad1 d.vs.length cap1)) := D2.out.below hb4
  have C4 : Hid (CB W4 w.heap.size c cv) := C2.out.below hb4
  have S4 : Hid (Below w.heap.size w W4) := next S2.out hb4
  have HW4 : Hid _ := hW4
  clear r3 hb3 hb4 hW4 KD2 D2 C2 S2
  go_upto_region 7 with fail
  rw [← HW4.out]
  clear HW4
  have a0 : ∀ w', Below W4.heap.size W4 w' → w'.cell? ⟨w.heap.size, 0, none⟩ = some (.int .i64 c.g) := fun w' h => (C4.out.below h).row.cell 0 rfl
  have a1 : ∀ w', Below W4.heap.size W4 w' → w'.cell? ⟨w.heap.size, 1, none⟩ = some (.bool c.b0) := fun w' h => (C4.out.below h).row.cell 1 rfl
  have a2 : ∀ w', Below W4.heap.size W4 w' → w'.cell? ⟨w.heap.size, 2, none⟩ = some (.bool c.b1) := fun w' h => (C4.out.below h).row.cell 2 rfl
  have a3 : ∀ w', Below W4.heap.size W4 w' → w'.cell? ⟨w.heap.size, 3, none⟩ = some (.bool c.b2) := fun w' h => (C4.out.below h).row.cell 3 rfl
  have a4 : ∀ w', Below W4.heap.size W4 w' → w'.cell? ⟨w.heap.size, 4, none⟩ = some (.bool c.b3) := fun w' h => (C4.out.below h).row.cell 4 rfl
  have a5 : ∀ w', Below W4.heap.size W4 w' → w'.cell? ⟨w.heap.size, 5, none⟩ = some (.bool c.b4) := fun w' h => (C4.out.below h).row.cell 5 rfl
  have a6 : ∀ w', Below W4.heap.size W4 w' → w'.cell? ⟨w.heap.size, 6, none⟩ = some (.bool c.b5) := fun w' h => (C4.out.below h).row.cell 6 rfl
  have a7 : ∀ w', Below W4.heap.size W4 w' → w'.cell? ⟨w.heap.size, 7, none⟩ = some (.bool c.b6) := fun w' h => (C4.out.below h).row.cell 7 rfl
  have a8 : ∀ w', Below W4.heap.size W4 w' → w'.cell? ⟨w.heap.size, 8, none⟩ = some (.bool c.b7) := fun w' h => (C4.out.below h).row.cell 8 rfl
  have a9 : ∀ w', Below W4.heap.size W4 w' → w'.cell? ⟨w.heap.size, 9, none⟩ = some (.bool c.b8) := fun w' h => (C4.out.below h).row.cell 9 rfl
  have a10 : ∀ w', Below W4.heap.size W4 w' → w'.cell? ⟨w.heap.size, 10, none⟩ = some (.bool c.b9) := fun w' h => (C4.out.below h).row.cell 10 rfl
  have a11 : ∀ w', Below W4.heap.size W4 w' → w'.cell? ⟨w.heap.size, 11, none⟩ = some (cv) := fun w' h => (C4.out.below h).row.cell 11 rfl
  have b0 : ∀ w', Below W4.heap.size W4 w' → w'.cell? ⟨w1.heap.size, 0, none⟩ = some (.int .i64 d.g) := fun w' h => (D4.out.below h).row.cell 0 rfl
  have b1 : ∀ w', Below W4.heap.size W4 w' → w'.cell? ⟨w1.heap.size, 1, none⟩ = some (.bool d.b0) := fun w' h => (D4.out.below h).row.cell 1 rfl
  have b2 : ∀ w', Below W4.heap.size W4 w' → w'.cell? ⟨w1.heap.size, 2, none⟩ = some (.bool d.b1) := fun w' h => (D4.out.below h).row.cell 2 rfl
  have b3 : ∀ w', Below W4.heap.size W4 w' → w'.cell? ⟨w1.heap.size, 3, none⟩ = some (.bool d.b2) := fun w' h => (D4.out.below h).row.cell 3 rfl
  have b4 : ∀ w', Below W4.heap.size W4 w' → w'.cell? ⟨w1.heap.size, 4, none⟩ = some (.bool d.b3) := fun w' h => (D4.out.below h).row.cell 4 rfl
  have b5 : ∀ w', Below W4.heap.size W4 w' → w'.cell? ⟨w1.heap.size, 5, none⟩ = some (.bool d.b4) := fun w' h => (D4.out.below h).row.cell 5 rfl
  have b6 : ∀ w', Below W4.heap.size W4 w' → w'.cell? ⟨w1.heap.size, 6, none⟩ = some (.bool d.b5) := fun w' h => (D4.out.below h).row.cell 6 rfl
  have b7 : ∀ w', Below W4.heap.size W4 w' → w'.cell? ⟨w1.heap.size, 7, none⟩ = some (.bool d.b6) := fun w' h => (D4.out.below h).row.cell 7 rfl
  have b8 : ∀ w', Below W4.heap.size W4 w' → w'.cell? ⟨w1.heap.size, 8, none⟩ = some (.bool d.b7) := fun w' h => (D4.out.below h).row.cell 8 rfl
  have b9 : ∀ w', Below W4.heap.size W4 w' → w'.cell? ⟨w1.heap.size, 9, none⟩ = some (.bool d.b8) := fun w' h => (D4.out.below h).row.cell 9 rfl
  have b10 : ∀ w', Below W4.heap.size W4 w' → w'.cell? ⟨w1.heap.size, 10, none⟩ = some (.bool d.b9) := fun w' h => (D4.out.below h).row.cell 10 rfl
  have b11 : ∀ w', Below W4.heap.size W4 w' → w'.cell? ⟨w1.heap.size, 11, none⟩ = some ((.slice ad1 d.vs.length cap1)) := fun w' h => (D4.out.below h).row.cell 11 rfl
  go_region_held3 (fun w' => Below W4.heap.size W4 w') (first | assumption | exact (Below.refl _ W4).drew | exact Below.drew (by assumption) | fail)
    (first
    | (go_at_call_of 14 cv; refine (KX.out _ (Rows.below C4.out.rows (by first | assumption | exact (Below.refl _ W4).drew) (Nat.le_refl _))).mono ?_; rintro e wN ⟨rfl, hbN⟩; have hSN : Below W4.heap.size W4 wN := Below.trans (by first | assumption | exact (Below.refl _ W4).drew) (hbN.mono (Below.size (by first | assumption | exact (Below.refl _ W4).drew))); clear hbN)
    | (go_at_call_of 14 (Value.slice ad1 d.vs.length cap1); refine (KY.out _ _ (Rows.below D4.out.rows (by first | assumption | exact Below.drew (by assumption)) (Nat.le_refl _))).mono ?_; rintro e w6 ⟨rfl, hbN⟩; have hX6 : Below W4.heap.size W4 w6 := Below.trans (by first | assumption | exact Below.drew (by assumption)) (hbN.mono (Below.size (by first | assumption | exact Below.drew (by assumption)))); clear hbN)
    | fail)
  have E6 : Hid (CB w6 w3.heap.size d (.slice ad3 d.vs.length cap3)) := E4.out.below hX6
  have D6 : Hid (CB w6 w1.heap.size d (.slice ad1 d.vs.length cap1)) := D4.out.below hX6
  have C6 : Hid (CB w6 w.heap.size c cv) := C4.out.below hX6
  have S6 : Hid (Below w.heap.size w w6) := next S4.out hX6
  clear hX6 E4 D4 C4 S4 KX KY a0 b0 a1 b1 a2 b2 a3 b3 a4 b4 a5 b5 a6 b6 a7 b7 a8 b8 a9 b9 a10 b10 a11 b11
  try clear hSN
  go_upto_region 8 with fail
  go_cut [19] from 51 to 66 (fun s19 wx => s19 = .bool gn ∧ wx = w6)
  case first =>
    by_cases h1 : q = 0
    · have y1 : (q != 0) = false := by rw [h1]; rfl
      by_cases h3 : k = 0
      · have y3 : (k != 0) = false := by rw [h3]; rfl
        have hg : Hid (gn = false) := by show _ = _; rw [HG.out, goneC, h1, h3]; simp
        clear h1 h3
        go_wp2_with fail
        go_meet
        exact ⟨by rw [hg.out], rfl⟩
      · have y3 : (k != 0) = true := by rw [bne_iff_ne]; exact h3
        obtain ⟨b, hb⟩ : ∃ b, (k == x0) = b := ⟨_, rfl⟩
        have hg : Hid (gn = b) := by show _ = _; rw [HG.out, goneC, h1, decide_eq_true h3, ← hb]; simp; rfl
        clear h1 h3
        go_wp2_with fail
        go_meet
        exact ⟨by rw [hg.out], rfl⟩
    · have y1 : (q != 0) = true := by rw [bne_iff_ne]; exact h1
      by_cases h2 : q = p
      · have y2 : (q == p) = true := by rw [beq_iff_eq]; exact h2
        have hg : Hid (gn = true) := by show _ = _; rw [HG.out, goneC, decide_eq_true h1, decide_eq_true h2]; simp
        clear h1 h2
        go_wp2_with fail
        go_meet
        exact ⟨by rw [hg.out], rfl⟩
      · have y2 : (q == p) = false := by rw [beq_eq_false_iff_ne]; exact h2
        by_cases h3 : k = 0
        · have y3 : (k != 0) = false := by rw [h3]; rfl
          have hg : Hid (gn = false) := by show _ = _; rw [HG.out, goneC, decide_eq_false h2, h3]; simp
          clear h1 h2 h3
          go_wp2_with fail
          go_meet
          exact ⟨by rw [hg.out], rfl⟩
        · have y3 : (k != 0) = true := by rw [bne_iff_ne]; exact h3
          obtain ⟨b, hb⟩ : ∃ b, (k == x0) = b := ⟨_, rfl⟩
          have hg : Hid (gn = b) := by show _ = _; rw [HG.out, goneC, decide_eq_false h2, decide_eq_true h3, ← hb]; simp; rfl
          clear h1 h2 h3
          go_wp2_with fail
          go_meet
          exact ⟨by rw [hg.out], rfl⟩
  case rest =>
  obtain ⟨rfl, rfl⟩ := hcut
  clear HG
  cases x
  · cases gn
    · have hy2 : y = false := HY.out
      subst hy2
      have a0 := E6.out.row.cell 0 rfl
      have a1 := E6.out.row.cell 1 rfl
      have a2 := E6.out.row.cell 2 rfl
      have a3 := E6.out.row.cell 3 rfl
      have a4 := E6.out.row.cell 4 rfl
      have a5 := E6.out.row.cell 5 rfl
      have a6 := E6.out.row.cell 6 rfl
      have a7 := E6.out.row.cell 7 rfl
      have a8 := E6.out.row.cell 8 rfl
      have a9 := E6.out.row.cell 9 rfl
      have a10 := E6.out.row.cell 10 rfl
      have a11 := E6.out.row.cell 11 rfl
      have b0 := D6.out.row.cell 0 rfl
      have b1 := D6.out.row.cell 1 rfl
      have b2 := D6.out.row.cell 2 rfl
      have b3 := D6.out.row.cell 3 rfl
      have b4 := D6.out.row.cell 4 rfl
      have b5 := D6.out.row.cell 5 rfl
      have b6 := D6.out.row.cell 6 rfl
      have b7 := D6.out.row.cell 7 rfl
      have b8 := D6.out.row.cell 8 rfl
      have b9 := D6.out.row.cell 9 rfl
      have b10 := D6.out.row.cell 10 rfl
      have b11 := D6.out.row.cell 11 rfl
      go_wp2_with fail
      refine (KS.out _ _ _ E6.out.rows D6.out.rows).mono ?_
      rintro e w7 ⟨rfl, hb7⟩
      have D7 : Hid (CB w7 w1.heap.size d (.slice ad1 d.vs.length cap1)) := D6.out.below hb7
      have C7 : Hid (CB w7 w.heap.size c cv) := C6.out.below hb7
      have S7 : Hid (Below w.heap.size w w7) := next S6.out hb7
      clear a0 a1 a2 a3 a4 a5 a6 a7 a8 a9 a10 a11
      clear b0 b1 b2 b3 b4 b5 b6 b7 b8 b9 b10 b11
      clear hb7
      have a0 := D7.out.row.cell 0 rfl
      have a1 := D7.out.row.cell 1 rfl
      have a2 := D7.out.row.cell 2 rfl
      have a3 := D7.out.row.cell 3 rfl
      have a4 := D7.out.row.cell 4 rfl
      have a5 := D7.out.row.cell 5 rfl
      have a6 := D7.out.row.cell 6 rfl
      have a7 := D7.out.row.cell 7 rfl
      have a8 := D7.out.row.cell 8 rfl
      have a9 := D7.out.row.cell 9 rfl
      have a10 := D7.out.row.cell 10 rfl
      have a11 := D7.out.row.cell 11 rfl
      have b0 := C7.out.row.cell 0 rfl
      have b1 := C7.out.row.cell 1 rfl
      have b2 := C7.out.row.cell 2 rfl
      have b3 := C7.out.row.cell 3 rfl
      have b4 := C7.out.row.cell 4 rfl
      have b5 := C7.out.row.cell 5 rfl
      have b6 := C7.out.row.cell 6 rfl
      have b7 := C7.out.row.cell 7 rfl
      have b8 := C7.out.row.cell 8 rfl
      have b9 := C7.out.row.cell 9 rfl
      have b10 := C7.out.row.cell 10 rfl
      have b11 := C7.out.row.cell 11 rfl
      go_wp2_with fail
      refine (KL.out _ _ D7.out.rows C7.out.rows).mono ?_
      rintro e w8 ⟨rfl, hb8⟩
      have D8 : Hid (CB w8 w1.heap.size d (.slice ad1 d.vs.length cap1)) := D7.out.below hb8
      have S8 : Hid (Below w.heap.size w w8) := next S7.out hb8
      clear a0 a1 a2 a3 a4 a5 a6 a7 a8 a9 a10 a11
      clear b0 b1 b2 b3 b4 b5 b6 b7 b8 b9 b10 b11
      clear hb8
      have a0 := D8.out.row.cell 0 rfl
      have a1 := D8.out.row.cell 1 rfl
      have a2 := D8.out.row.cell 2 rfl
      have a3 := D8.out.row.cell 3 rfl
      have a4 := D8.out.row.cell 4 rfl
      have a5 := D8.out.row.cell 5 rfl
      have a6 := D8.out.row.cell 6 rfl
      have a7 := D8.out.row.cell 7 rfl
      have a8 := D8.out.row.cell 8 rfl
      have a9 := D8.out.row.cell 9 rfl
      have a10 := D8.out.row.cell 10 rfl
      have a11 := D8.out.row.cell 11 rfl
      go_wp2_with fail
      refine (KC.out _ _ D8.out.rows).mono ?_
      rintro e w9 ⟨rfl, hb9⟩
      go_wp2_with fail
      go_ret
      exact ⟨rfl, next S8.out hb9⟩
    · have hy2 : y = false := HY.out
      subst hy2
      have a0 := E6.out.row.cell 0 rfl
      have a1 := E6.out.row.cell 1 rfl
      have a2 := E6.out.row.cell 2 rfl
      have a3 := E6.out.row.cell 3 rfl
      have a4 := E6.out.row.cell 4 rfl
      have a5 := E6.out.row.cell 5 rfl
      have a6 := E6.out.row.cell 6 rfl
      have a7 := E6.out.row.cell 7 rfl
      have a8 := E6.out.row.cell 8 rfl
      have a9 := E6.out.row.cell 9 rfl
      have a10 := E6.out.row.cell 10 rfl
      have a11 := E6.out.row.cell 11 rfl
      have b0 := D6.out.row.cell 0 rfl
      have b1 := D6.out.row.cell 1 rfl
      have b2 := D6.out.row.cell 2 rfl
      have b3 := D6.out.row.cell 3 rfl
      have b4 := D6.out.row.cell 4 rfl
      have b5 := D6.out.row.cell 5 rfl
      have b6 := D6.out.row.cell 6 rfl
      have b7 := D6.out.row.cell 7 rfl
      have b8 := D6.out.row.cell 8 rfl
      have b9 := D6.out.row.cell 9 rfl
      have b10 := D6.out.row.cell 10 rfl
      have b11 := D6.out.row.cell 11 rfl
      go_wp2_with fail
      refine (KS.out _ _ _ E6.out.rows D6.out.rows).mono ?_
      rintro e w7 ⟨rfl, hb7⟩
      have D7 : Hid (CB w7 w1.heap.size d (.slice ad1 d.vs.length cap1)) := D6.out.below hb7
      have C7 : Hid (CB w7 w.heap.size c cv) := C6.out.below hb7
      have S7 : Hid (Below w.heap.size w w7) := next S6.out hb7
      clear a0 a1 a2 a3 a4 a5 a6 a7 a8 a9 a10 a11
      clear b0 b1 b2 b3 b4 b5 b6 b7 b8 b9 b10 b11
      clear hb7
      have a0 := D7.out.row.cell 0 rfl
      have a1 := D7.out.row.cell 1 rfl
      have a2 := D7.out.row.cell 2 rfl
      have a3 := D7.out.row.cell 3 rfl
      have a4 := D7.out.row.cell 4 rfl
      have a5 := D7.out.row.cell 5 rfl
      have a6 := D7.out.row.cell 6 rfl
      have a7 := D7.out.row.cell 7 rfl
      have a8 := D7.out.row.cell 8 rfl
      have a9 := D7.out.row.cell 9 rfl
      have a10 := D7.out.row.cell 10 rfl
      have a11 := D7.out.row.cell 11 rfl
      have b0 := C7.out.row.cell 0 rfl
      have b1 := C7.out.row.cell 1 rfl
      have b2 := C7.out.row.cell 2 rfl
      have b3 := C7.out.row.cell 3 rfl
      have b4 := C7.out.row.cell 4 rfl
      have b5 := C7.out.row.cell 5 rfl
      have b6 := C7.out.row.cell 6 rfl
      have b7 := C7.out.row.cell 7 rfl
      have b8 := C7.out.row.cell 8 rfl
      have b9 := C7.out.row.cell 9 rfl
      have b10 := C7.out.row.cell 10 rfl
      have b11 := C7.out.row.cell 11 rfl
      go_wp2_with fail
      refine (KL.out _ _ D7.out.rows C7.out.rows).mono ?_
      rintro e w8 ⟨rfl, hb8⟩
      have D8 : Hid (CB w8 w1.heap.size d (.slice ad1 d.vs.length cap1)) := D7.out.below hb8
      have S8 : Hid (Below w.heap.size w w8) := next S7.out hb8
      clear a0 a1 a2 a3 a4 a5 a6 a7 a8 a9 a10 a11
      clear b0 b1 b2 b3 b4 b5 b6 b7 b8 b9 b10 b11
      clear hb8
      have a0 := D8.out.row.cell 0 rfl
      have a1 := D8.out.row.cell 1 rfl
      have a2 := D8.out.row.cell 2 rfl
      have a3 := D8.out.row.cell 3 rfl
      have a4 := D8.out.row.cell 4 rfl
      have a5 := D8.out.row.cell 5 rfl
      have a6 := D8.out.row.cell 6 rfl
      have a7 := D8.out.row.cell 7 rfl
      have a8 := D8.out.row.cell 8 rfl
      have a9 := D8.out.row.cell 9 rfl
      have a10 := D8.out.row.cell 10 rfl
      have a11 := D8.out.row.cell 11 rfl
      go_wp2_with fail
      refine (KC.out _ _ D8.out.rows).mono ?_
      rintro e w9 ⟨rfl, hb9⟩
      go_wp2_with fail
      go_ret
      exact ⟨rfl, next S8.out hb9⟩
  · cases gn
    · have hy2 : y = true := HY.out
      subst hy2
      have a0 := E6.out.row.cell 0 rfl
      have a1 := E6.out.row.cell 1 rfl
      have a2 := E6.out.row.cell 2 rfl
      have a3 := E6.out.row.cell 3 rfl
      have a4 := E6.out.row.cell 4 rfl
      have a5 := E6.out.row.cell 5 rfl
      have a6 := E6.out.row.cell 6 rfl
      have a7 := E6.out.row.cell 7 rfl
      have a8 := E6.out.row.cell 8 rfl
      have a9 := E6.out.row.cell 9 rfl
      have a10 := E6.out.row.cell 10 rfl
      have a11 := E6.out.row.cell 11 rfl
      have b0 := D6.out.row.cell 0 rfl
      have b1 := D6.out.row.cell 1 rfl
      have b2 := D6.out.row.cell 2 rfl
      have b3 := D6.out.row.cell 3 rfl
      have b4 := D6.out.row.cell 4 rfl
      have b5 := D6.out.row.cell 5 rfl
      have b6 := D6.out.row.cell 6 rfl
      have b7 := D6.out.row.cell 7 rfl
      have b8 := D6.out.row.cell 8 rfl
      have b9 := D6.out.row.cell 9 rfl
      have b10 := D6.out.row.cell 10 rfl
      have b11 := D6.out.row.cell 11 rfl
      go_wp2_with fail
      refine (KS.out _ _ _ E6.out.rows D6.out.rows).mono ?_
      rintro e w7 ⟨rfl, hb7⟩
      have D7 : Hid (CB w7 w1.heap.size d (.slice ad1 d.vs.length cap1)) := D6.out.below hb7
      have C7 : Hid (CB w7 w.heap.size c cv) := C6.out.below hb7
      have S7 : Hid (Below w.heap.size w w7) := next S6.out hb7
      clear a0 a1 a2 a3 a4 a5 a6 a7 a8 a9 a10 a11
      clear b0 b1 b2 b3 b4 b5 b6 b7 b8 b9 b10 b11
      clear hb7
      have a0 := D7.out.row.cell 0 rfl
      have a1 := D7.out.row.cell 1 rfl
      have a2 := D7.out.row.cell 2 rfl
      have a3 := D7.out.row.cell 3 rfl
      have a4 := D7.out.row.cell 4 rfl
      have a5 := D7.out.row.cell 5 rfl
      have a6 := D7.out.row.cell 6 rfl
      have a7 := D7.out.row.cell 7 rfl
      have a8 := D7.out.row.cell 8 rfl
      have a9 := D7.out.row.cell 9 rfl
      have a10 := D7.out.row.cell 10 rfl
      have a11 := D7.out.row.cell 11 rfl
      have b0 := C7.out.row.cell 0 rfl
      have b1 := C7.out.row.cell 1 rfl
      have b2 := C7.out.row.cell 2 rfl
      have b3 := C7.out.row.cell 3 rfl
      have b4 := C7.out.row.cell 4 rfl
      have b5 := C7.out.row.cell 5 rfl
      have b6 := C7.out.row.cell 6 rfl
      have b7 := C7.out.row.cell 7 rfl
      have b8 := C7.out.row.cell 8 rfl
      have b9 := C7.out.row.cell 9 rfl
      have b10 := C7.out.row.cell 10 rfl
      have b11 := C7.out.row.cell 11 rfl
      go_wp2_with fail
      refine (KL.out _ _ D7.out.rows C7.out.rows).mono ?_
      rintro e w8 ⟨rfl, hb8⟩
      have D8 : Hid (CB w8 w1.heap.size d (.slice ad1 d.vs.length cap1)) := D7.out.below hb8
      have S8 : Hid (Below w.heap.size w w8) := next S7.out hb8
      clear a0 a1 a2 a3 a4 a5 a6 a7 a8 a9 a10 a11
      clear b0 b1 b2 b3 b4 b5 b6 b7 b8 b9 b10 b11
      clear hb8
      have a0 := D8.out.row.cell 0 rfl
      have a1 := D8.out.row.cell 1 rfl
      have a2 := D8.out.row.cell 2 rfl
      have a3 := D8.out.row.cell 3 rfl
      have a4 := D8.out.row.cell 4 rfl
      have a5 := D8.out.row.cell 5 rfl
      have a6 := D8.out.row.cell 6 rfl
      have a7 := D8.out.row.cell 7 rfl
      have a8 := D8.out.row.cell 8 rfl
      have a9 := D8.out.row.cell 9 rfl
      have a10 := D8.out.row.cell 10 rfl
      have a11 := D8.out.row.cell 11 rfl
      go_wp2_with fail
      refine (KC.out _ _ D8.out.rows).mono ?_
      rintro e w9 ⟨rfl, hb9⟩
      go_wp2_with fail
      go_ret
      exact ⟨rfl, next S8.out hb9⟩
    · have hy2 : y = false := HY.out
      subst hy2
      have a0 := E6.out.row.cell 0 rfl
      have a1 := E6.out.row.cell 1 rfl
      have a2 := E6.out.row.cell 2 rfl
      have a3 := E6.out.row.cell 3 rfl
      have a4 := E6.out.row.cell 4 rfl
      have a5 := E6.out.row.cell 5 rfl
      have a6 := E6.out.row.cell 6 rfl
      have a7 := E6.out.row.cell 7 rfl
      have a8 := E6.out.row.cell 8 rfl
      have a9 := E6.out.row.cell 9 rfl
      have a10 := E6.out.row.cell 10 rfl
      have a11 := E6.out.row.cell 11 rfl
      have b0 := D6.out.row.cell 0 rfl
      have b1 := D6.out.row.cell 1 rfl
      have b2 := D6.out.row.cell 2 rfl
      have b3 := D6.out.row.cell 3 rfl
      have b4 := D6.out.row.cell 4 rfl
      have b5 := D6.out.row.cell 5 rfl
      have b6 := D6.out.row.cell 6 rfl
      have b7 := D6.out.row.cell 7 rfl
      have b8 := D6.out.row.cell 8 rfl
      have b9 := D6.out.row.cell 9 rfl
      have b10 := D6.out.row.cell 10 rfl
      have b11 := D6.out.row.cell 11 rfl
      go_wp2_with fail
      refine (KS.out _ _ _ E6.out.rows D6.out.rows).mono ?_
      rintro e w7 ⟨rfl, hb7⟩
      have D7 : Hid (CB w7 w1.heap.size d (.slice ad1 d.vs.length cap1)) := D6.out.below hb7
      have C7 : Hid (CB w7 w.heap.size c cv) := C6.out.below hb7
      have S7 : Hid (Below w.heap.size w w7) := next S6.out hb7
      clear a0 a1 a2 a3 a4 a5 a6 a7 a8 a9 a10 a11
      clear b0 b1 b2 b3 b4 b5 b6 b7 b8 b9 b10 b11
      clear hb7
      have a0 := D7.out.row.cell 0 rfl
      have a1 := D7.out.row.cell 1 rfl
      have a2 := D7.out.row.cell 2 rfl
      have a3 := D7.out.row.cell 3 rfl
      have a4 := D7.out.row.cell 4 rfl
      have a5 := D7.out.row.cell 5 rfl
      have a6 := D7.out.row.cell 6 rfl
      have a7 := D7.out.row.cell 7 rfl
      have a8 := D7.out.row.cell 8 rfl
      have a9 := D7.out.row.cell 9 rfl
      have a10 := D7.out.row.cell 10 rfl
      have a11 := D7.out.row.cell 11 rfl
      have b0 := C7.out.row.cell 0 rfl
      have b1 := C7.out.row.cell 1 rfl
      have b2 := C7.out.row.cell 2 rfl
      have b3 := C7.out.row.cell 3 rfl
      have b4 := C7.out.row.cell 4 rfl
      have b5 := C7.out.row.cell 5 rfl
      have b6 := C7.out.row.cell 6 rfl
      have b7 := C7.out.row.cell 7 rfl
      have b8 := C7.out.row.cell 8 rfl
      have b9 := C7.out.row.cell 9 rfl
      have b10 := C7.out.row.cell 10 rfl
      have b11 := C7.out.row.cell 11 rfl
      go_wp2_with fail
      refine (KL.out _ _ D7.out.rows C7.out.rows).mono ?_
      rintro e w8 ⟨rfl, hb8⟩
      have D8 : Hid (CB w8 w1.heap.size d (.slice ad1 d.vs.length cap1)) := D7.out.below hb8
      have S8 : Hid (Below w.heap.size w w8) := next S7.out hb8
      clear a0 a1 a2 a3 a4 a5 a6 a7 a8 a9 a10 a11
      clear b0 b1 b2 b3 b4 b5 b6 b7 b8 b9 b10 b11
      clear hb8
      have a0 := D8.out.row.cell 0 rfl
      have a1 := D8.out.row.cell 1 rfl
      have a2 := D8.out.row.cell 2 rfl
      have a3 := D8.out.row.cell 3 rfl
      have a4 := D8.out.row.cell 4 rfl
      have a5 := D8.out.row.cell 5 rfl
      have a6 := D8.out.row.cell 6 rfl
      have a7 := D8.out.row.cell 7 rfl
      have a8 := D8.out.row.cell 8 rfl
      have a9 := D8.out.row.cell 9 rfl
      have a10 := D8.out.row.cell 10 rfl
      have a11 := D8.out.row.cell 11 rfl
      go_wp2_with fail
      refine (KC.out _ _ D8.out.rows).mono ?_
      rintro e w9 ⟨rfl, hb9⟩
      go_wp2_with fail
      go_ret
      exact ⟨rfl, next S8.out hb9⟩
set_option maxRecDepth 100000 in
theorem lifted (os : Os) (started : os.Started) (H : Type) (enc : TypeId × Value → H) :
    ReturnsInHanded {} Try.checked os 6 .any (Rows.grantDropSpec.pre6 enc Try.prog Try.f6 Rows.grantDropRow.domain false) (Rows.grantDropSpec.post enc Try.prog Try.f6 false true false false) := by
  refine returnsInHanded_of_change_sized (C := Try.checked) own started (by kernel_rfl) Try.func6
    (ChangeSpec.witness6 (enc := enc) (C := Try.checked) false ⟨#[], #[.agg #[.int .i64 0, .bool false, .bool false, .bool false, .bool false, .bool false, .bool false, .bool false, .bool false, .bool false, .bool false, .slice none 0 0], .int .i64 0, .int .i64 0, .int .i64 0, .int .i64 0, .int .i64 0], []⟩ 8 (by kernel_rfl) (by kernel_rfl) (by kernel_rfl) (by kernel_rfl)) ?_
  intro W base args ds gs before hval0 hW hcnd hsz0 _
  have hsz : (DataW.weightsEach Try.prog (Try.f6.params.toList ++ Rows.grantDropSpec.plain.varTypes Try.prog) (ds ++ gs)).all (· ≤ reachBytes) = true := hsz0
  have hval : ∀ (j : Nat) t v, Try.f6.params[j]? = some t → args[j]? = some v → Value.okWide Try.prog W .any base t v := hval0
  have hW' := hW
  obtain ⟨p, q, hA0, hV, rfl, hfz, hnd⟩ := hW
  have hA : DataW.TrodAll enc Try.prog W 0 (fun _ => true) true Try.f6.params.toList args.toList ds p := hA0
  rw [Try.params6] at hA hval hsz
  obtain ⟨v0, vs0, d0, ds0, p0, q0, hargs, rfl, rfl, h0, r0⟩ := trodAll_cons hA
  obtain ⟨v1, vs1, d1, ds1, p1, q1, rfl, rfl, rfl, h1, r1⟩ := trodAll_cons r0
  obtain ⟨v2, vs2, d2, ds2, p2, q2, rfl, rfl, rfl, h2, r2⟩ := trodAll_cons r1
  obtain ⟨v3, vs3, d3, ds3, p3, q3, rfl, rfl, rfl, h3, r3⟩ := trodAll_cons r2
  obtain ⟨v4, vs4, d4, ds4, p4, q4, rfl, rfl, rfl, h4, r4⟩ := trodAll_cons r3
  obtain ⟨v5, vs5, d5, ds5, p5, q5, rfl, rfl, rfl, h5, r5⟩ := trodAll_cons r4
  obtain ⟨rfl, rfl, rfl⟩ := trodAll_nil r5
  obtain rfl : args = #[v0, v1, v2, v3, v4, v5] := by cases args; simp_all
  obtain ⟨rfl, rfl⟩ := trodVars_none hV
  have k0 := h0
  have lt0 : ∀ x ∈ p0, x.block < W.heap.size := by obtain ⟨m, hm⟩ := k0; exact DataW.trod_lt m _ _ _ hm
  have k1 := h1
  have lt1 : ∀ x ∈ p1, x.block < W.heap.size := by obtain ⟨m, hm⟩ := k1; exact DataW.trod_lt m _ _ _ hm
  have k2 := h2
  have lt2 : ∀ x ∈ p2, x.block < W.heap.size := by obtain ⟨m, hm⟩ := k2; exact DataW.trod_lt m _ _ _ hm
  have k3 := h3
  have lt3 : ∀ x ∈ p3, x.block < W.heap.size := by obtain ⟨m, hm⟩ := k3; exact DataW.trod_lt m _ _ _ hm
  have k4 := h4
  have lt4 : ∀ x ∈ p4, x.block < W.heap.size := by obtain ⟨m, hm⟩ := k4; exact DataW.trod_lt m _ _ _ hm
  have k5 := h5
  have lt5 : ∀ x ∈ p5, x.block < W.heap.size := by obtain ⟨m, hm⟩ := k5; exact DataW.trod_lt m _ _ _ hm
  obtain ⟨c0, vv0, rfl, rd0, ok0, bk0⟩ := open_consent (hval 0 25 v0 rfl rfl) k0 140737488351232 (fits_each hsz (j := 0) (t := 25) rfl rfl)
  obtain ⟨x1, rfl, rfl, hp1, w1⟩ := open_int Try.underlying3 (hval 1 3 v1 rfl rfl) h1
  have b1 := i64_of w1
  obtain ⟨x2, rfl, rfl, hp2, w2⟩ := open_int Try.underlying3 (hval 2 3 v2 rfl rfl) h2
  have b2 := i64_of w2
  obtain ⟨x3, rfl, rfl, hp3, w3⟩ := open_int Try.underlying3 (hval 3 3 v3 rfl rfl) h3
  have b3 := i64_of w3
  obtain ⟨x4, rfl, rfl, hp4, w4⟩ := open_int Try.underlying3 (hval 4 3 v4 rfl rfl) h4
  have b4 := i64_of w4
  obtain ⟨x5, rfl, rfl, hp5, w5⟩ := open_int Try.underlying3 (hval 5 3 v5 rfl rfl) h5
  have b5 := i64_of w5
  clear hA0 hval0
  refine (walk c0 vv0 x1 x2 x3 x4 x5 W rd0 ok0 b1 b2 b3 b4 b5).mono fun e W' ⟨he, bel⟩ => ?_
  subst he
  exact ⟨_, rfl, _, _, _, [], _, [], hW', trodAll_mk1 (shut_bool Try.underlying4 _), (trodAll_cons_mk (Below.trod laidOut (by kernel_rfl) (of_decide_eq_true (by kernel_rfl)) k0 bel lt0) (trodAll_cons_mk (Below.trod laidOut (by kernel_rfl) (of_decide_eq_true (by kernel_rfl)) k1 bel lt1) (trodAll_cons_mk (Below.trod laidOut (by kernel_rfl) (of_decide_eq_true (by kernel_rfl)) k2 bel lt2) (trodAll_cons_mk (Below.trod laidOut (by kernel_rfl) (of_decide_eq_true (by kernel_rfl)) k3 bel lt3) (trodAll_cons_mk (Below.trod laidOut (by kernel_rfl) (of_decide_eq_true (by kernel_rfl)) k4 bel lt4) (trodAll_cons_mk (Below.trod laidOut (by kernel_rfl) (of_decide_eq_true (by kernel_rfl)) k5 bel lt5) trodAll_mk0)))))), rfl, bel.frame _, fun h => by cases h⟩

theorem proved : Rows.GrantDropSaid :=
  OpenClaim.holds_of_wide 6 Try.f6 rfl rfl rfl rfl rfl rfl rfl ⟨rfl, rfl, rfl, rfl, rfl⟩ rfl rfl rfl rfl rfl (by kernel_rfl) Try.func6 (by kernel_rfl)
    (of_decide_eq_true (by kernel_rfl)) (by unfold Func.isWrapper; first | (rw [if_pos (by decide +kernel)]; kernel_rfl) | (rw [if_neg (by decide +kernel)]; exact ⟨rfl, rfl⟩))
    (fun os started H enc _ => lifted os started H enc)
#print axioms proved
end Go.Proofs.Ytklpfbakjiaaoaa.grantDrop
