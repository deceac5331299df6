/- PolicyLess: for every policy, all two consents and every cookie: by a consent that is below no more cookies are let. No condition. -/
import Derived.Test.YtmjcgkjkhpjgbaaPolicyK
import Derived.Test.YtmjcgkjkhpjgbaaOpen
import Derived.Test.YtmjcgkjkhpjgbaaOpenF
import Derived.Test.YtmjcgkjkhpjgbaaOpenG
import Derived.Test.YtmjcgkjkhpjgbaaOpenP
import Derived.Test.YtmjcgkjkhpjgbaaRows
namespace Go.Proofs.Ytmjcgkjkhpjgbaa.policyLess
open Go.ChangeShapes Go.WideShapes Go.ChangeAt Go.RowKit
open Go.ChangeMaps (open_string shut_string)
set_option linter.all false
set_option maxRecDepth 100000

set_option maxHeartbeats 8000000 in
theorem walk (p : Po) (pv : Value) (a : Cn) (va : Value) (b : Cn) (vb : Value) (c : Ck) (w : World) (rp : Rows w pv ruC p.rules) (op : PoOk 140737488351232 p) (ra : Rows w va intF a.vs) (oa : a.vs.length ≤ 140737488351232 ∧ inR a.vs ∧ (-9223372036854775808 ≤ a.g ∧ a.g ≤ 9223372036854775807)) (rb : Rows w vb intF b.vs) (ob : b.vs.length ≤ 140737488351232 ∧ inR b.vs ∧ (-9223372036854775808 ≤ b.g ∧ b.g ≤ 9223372036854775807)) (oc : CkOk 140737488351232 c) :
    Calls Try.prog 6 #[.agg #[pv, .int .i64 p.dflt, .int .i64 p.c0, .int .i64 p.c1, .int .i64 p.c2, .int .i64 p.c3, .int .i64 p.c4, .int .i64 p.c5, .int .i64 p.c6, .int .i64 p.c7, .int .i64 p.c8, .int .i64 p.c9, .int .i64 p.c10], .agg #[.int .i64 a.g, .bool a.b0, .bool a.b1, .bool a.b2, .bool a.b3, .bool a.b4, .bool a.b5, .bool a.b6, .bool a.b7, .bool a.b8, .bool a.b9, va], .agg #[.int .i64 b.g, .bool b.b0, .bool b.b1, .bool b.b2, .bool b.b3, .bool b.b4, .bool b.b5, .bool b.b6, .bool b.b7, .bool b.b8, .bool b.b9, vb], .agg (ckC c).toArray] w fun e w' => e = .returned (.bool true) ∧ Below w.heap.size w w' := by
  obtain ⟨u, hu⟩ : ∃ u, u = lessC a b := ⟨_, rfl⟩
  obtain ⟨x, hx⟩ : ∃ x, x = letsP p a c := ⟨_, rfl⟩
  obtain ⟨y, hy⟩ : ∃ y, y = letsP p b c := ⟨_, rfl⟩
  have HU : Hid (u = true → x = true → y = true) := fun h h2 => by
    rw [hy]
    rw [hu] at h
    rw [hx] at h2
    exact may_less h _ _ h2
  have oka : CnOk a := ⟨oa.1, oa.2.1⟩
  have okb : CnOk b := ⟨ob.1, ob.2.1⟩
  have KL : Hid (∀ w', Rows w' va intF a.vs → Rows w' vb intF b.vs → Calls Try.prog 18 #[.agg #[.int .i64 a.g, .bool a.b0, .bool a.b1, .bool a.b2, .bool a.b3, .bool a.b4, .bool a.b5, .bool a.b6, .bool a.b7, .bool a.b8, .bool a.b9, va], .agg #[.int .i64 b.g, .bool b.b0, .bool b.b1, .bool b.b2, .bool b.b3, .bool b.b4, .bool b.b5, .bool b.b6, .bool b.b7, .bool b.b8, .bool b.b9, vb]] w' fun e w'' => e = .returned (.bool u) ∧ Below w'.heap.size w' w'') := fun w' h1 h2 => by
    rw [hu]; exact less_any a b va vb w' h1 h2 oka.1 okb.1 oka.2 okb.2
  have KX : Hid (∀ w', Rows w' pv ruC p.rules → Rows w' va intF a.vs → Calls Try.prog 15 #[.agg #[pv, .int .i64 p.dflt, .int .i64 p.c0, .int .i64 p.c1, .int .i64 p.c2, .int .i64 p.c3, .int .i64 p.c4, .int .i64 p.c5, .int .i64 p.c6, .int .i64 p.c7, .int .i64 p.c8, .int .i64 p.c9, .int .i64 p.c10], .agg #[.int .i64 a.g, .bool a.b0, .bool a.b1, .bool a.b2, .bool a.b3, .bool a.b4, .bool a.b5, .bool a.b6, .bool a.b7, .bool a.b8, .bool a.b9, va], .agg #[.string (txt c.name), .string (txt c.value), .string (txt c.domain), .string (txt c.path), .bool c.hostOnly, .bool c.secure, .bool c.httpOnly, .bool c.lasting, .int .i64 c.site, .int .i64 c.expiry, .int .i64 c.created, .int .i64 c.used, .int .i64 c.no]] w' fun e w'' => e = .returned (.bool x) ∧ Below w'.heap.size w' w'') := fun w' h1 h2 => by
    rw [hx]; exact lets_any p pv a va c w' op h1 h2 oka.max oc
  have KY : Hid (∀ w', Rows w' pv ruC p.rules → Rows w' vb intF b.vs → Calls Try.prog 15 #[.agg #[pv, .int .i64 p.dflt, .int .i64 p.c0, .int .i64 p.c1, .int .i64 p.c2, .int .i64 p.c3, .int .i64 p.c4, .int .i64 p.c5, .int .i64 p.c6, .int .i64 p.c7, .int .i64 p.c8, .int .i64 p.c9, .int .i64 p.c10], .agg #[.int .i64 b.g, .bool b.b0, .bool b.b1, .bool b.b2, .bool b.b3, .bool b.b4, .bool b.b5, .bool b.b6, .bool b.b7, .bool b.b8, .bool b.b9, vb], .agg #[.string (txt c.name), .string (txt c.value), .string (txt c.domain), .string (txt c.path), .bool c.hostOnly, .bool c.secure, .bool c.httpOnly, .bool c.lasting, .int .i64 c.site, .int .i64 c.expiry, .int .i64 c.created, .int .i64 c.used, .int .i64 c.no]] w' fun e w'' => e = .returned (.bool y) ∧ Below w'.heap.size w' w'') := fun w' h1 h2 => by
    rw [hy]; exact lets_any p pv b vb c w' op h1 h2 okb.max oc
  simp only [ckC]
  obtain ⟨W0, hW0⟩ : ∃ W0, W0 = ((((w.alloc (.cells #[pv, .int .i64 p.dflt, .int .i64 p.c0, .int .i64 p.c1, .int .i64 p.c2, .int .i64 p.c3, .int .i64 p.c4, .int .i64 p.c5, .int .i64 p.c6, .int .i64 p.c7, .int .i64 p.c8, .int .i64 p.c9, .int .i64 p.c10] 25)).alloc (.cells #[.int .i64 a.g, .bool a.b0, .bool a.b1, .bool a.b2, .bool a.b3, .bool a.b4, .bool a.b5, .bool a.b6, .bool a.b7, .bool a.b8, .bool a.b9, va] 29)).alloc (.cells #[.int .i64 b.g, .bool b.b0, .bool b.b1, .bool b.b2, .bool b.b3, .bool b.b4, .bool b.b5, .bool b.b6, .bool b.b7, .bool b.b8, .bool b.b9, vb] 29)).alloc (.cells #[.string (txt c.name), .string (txt c.value), .string (txt c.domain), .string (txt c.path), .bool c.hostOnly, .bool c.secure, .bool c.httpOnly, .bool c.lasting, .int .i64 c.site, .int .i64 c.expiry, .int .i64 c.created, .int .i64 c.used, .int .i64 c.no] 31)) := ⟨_, rfl⟩
  have P : Hid (PB W0 w.heap.size p pv) := by
    rw [hW0]
    have h := PB.new w p pv 25 rp
    exact (((h.below (below_new _ _)).below (below_new _ _)).below (below_new _ _))
  have A : Hid (CB W0 (w.heap.size + 1) a va) := by
    rw [hW0]
    have h := CB.new (w.alloc (.cells #[pv, .int .i64 p.dflt, .int .i64 p.c0, .int .i64 p.c1, .int .i64 p.c2, .int .i64 p.c3, .int .i64 p.c4, .int .i64 p.c5, .int .i64 p.c6, .int .i64 p.c7, .int .i64 p.c8, .int .i64 p.c9, .int .i64 p.c10] 25)) a va 29 (Rows.below ra (below_new _ _) (Nat.le_refl _))
    rw [show (w.alloc (.cells #[pv, .int .i64 p.dflt, .int .i64 p.c0, .int .i64 p.c1, .int .i64 p.c2, .int .i64 p.c3, .int .i64 p.c4, .int .i64 p.c5, .int .i64 p.c6, .int .i64 p.c7, .int .i64 p.c8, .int .i64 p.c9, .int .i64 p.c10] 25)).heap.size = w.heap.size + 1 from by simp] at h
    exact ((h.below (below_new _ _)).below (below_new _ _))
  have B : Hid (CB W0 (w.heap.size + 1 + 1) b vb) := by
    rw [hW0]
    have h := CB.new ((w.alloc (.cells #[pv, .int .i64 p.dflt, .int .i64 p.c0, .int .i64 p.c1, .int .i64 p.c2, .int .i64 p.c3, .int .i64 p.c4, .int .i64 p.c5, .int .i64 p.c6, .int .i64 p.c7, .int .i64 p.c8, .int .i64 p.c9, .int .i64 p.c10] 25)).alloc (.cells #[.int .i64 a.g, .bool a.b0, .bool a.b1, .bool a.b2, .bool a.b3, .bool a.b4, .bool a.b5, .bool a.b6, .bool a.b7, .bool a.b8, .bool a.b9, va] 29)) b vb 29 (Rows.below (Rows.below rb (below_new _ _) (Nat.le_refl _)) (below_new _ _) (Nat.le_refl _))
    rw [show ((w.alloc (.cells #[pv, .int .i64 p.dflt, .int .i64 p.c0, .int .i64 p.c1, .int .i64 p.c2, .int .i64 p.c3, .int .i64 p.c4, .int .i64 p.c5, .int .i64 p.c6, .int .i64 p.c7, .int .i64 p.c8, .int .i64 p.c9, .int .i64 p.c10] 25)).alloc (.cells #[.int .i64 a.g, .bool a.b0, .bool a.b1, .bool a.b2, .bool a.b3, .bool a.b4, .bool a.b5, .bool a.b6, .bool a.b7, .bool a.b8, .bool a.b9, va] 29)).heap.size = w.heap.size + 1 + 1 from by simp] at h
    exact (h.below (below_new _ _))
  have C : Hid (KB W0 (w.heap.size + 1 + 1 + 1) c) := by
    rw [hW0]
    have h := KB.new (((w.alloc (.cells #[pv, .int .i64 p.dflt, .int .i64 p.c0, .int .i64 p.c1, .int .i64 p.c2, .int .i64 p.c3, .int .i64 p.c4, .int .i64 p.c5, .int .i64 p.c6, .int .i64 p.c7, .int .i64 p.c8, .int .i64 p.c9, .int .i64 p.c10] 25)).alloc (.cells #[.int .i64 a.g, .bool a.b0, .bool a.b1, .bool a.b2, .bool a.b3, .bool a.b4, .bool a.b5, .bool a.b6, .bool a.b7, .bool a.b8, .bool a.b9, va] 29)).alloc (.cells #[.int .i64 b.g, .bool b.b0, .bool b.b1, .bool b.b2, .bool b.b3, .bool b.b4, .bool b.b5, .bool b.b6, .bool b.b7, .bool b.b8, .bool b.b9, vb] 29)) c 31
    rw [show (((w.alloc (.cells #[pv, .int .i64 p.dflt, .int .i64 p.c0, .int .i64 p.c1, .int .i64 p.c2, .int .i64 p.c3, .int .i64 p.c4, .int .i64 p.c5, .int .i64 p.c6, .int .i64 p.c7, .int .i64 p.c8, .int .i64 p.c9, .int .i64 p.c10] 25)).alloc (.cells #[.int .i64 a.g, .bool a.b0, .bool a.b1, .bool a.b2, .bool a.b3, .bool a.b4, .bool a.b5, .bool a.b6, .bool a.b7, .bool a.b8, .bool a.b9, va] 29)).alloc (.cells #[.int .i64 b.g, .bool b.b0, .bool b.b1, .bool b.b2, .bool b.b3, .bool b.b4, .bool b.b5, .bool b.b6, .bool b.b7, .bool b.b8, .bool b.b9, vb] 29)).heap.size = w.heap.size + 1 + 1 + 1 from by simp] at h
    exact h
  have S : Hid (Below w.heap.size w W0) := by rw [hW0]; exact next (next (next (below_new _ _) (below_new _ _)) (below_new _ _)) (below_new _ _)
  have HW0 : Hid _ := hW0
  clear rp op ra oa rb ob oc hu hx hy oka okb hW0
  go_enter Try.func6, Try.ntmps6
  go_upto_region 1 with fail
  rw [← HW0.out]
  clear HW0
  go_wp2_with fail
  refine (policyBegun_any _).mono ?_
  rintro e Wn1 ⟨rfl, hb1⟩
  replace P : Hid (PB Wn1 w.heap.size p pv) := P.out.below hb1
  replace A : Hid (CB Wn1 (w.heap.size + 1) a va) := A.out.below hb1
  replace B : Hid (CB Wn1 (w.heap.size + 1 + 1) b vb) := B.out.below hb1
  replace C : Hid (KB Wn1 (w.heap.size + 1 + 1 + 1) c) := C.out.below hb1
  replace S : Hid (Below w.heap.size w Wn1) := next S.out hb1
  clear hb1
  have x0 := A.out.row.cell 0 rfl
  have x1 := A.out.row.cell 1 rfl
  have x2 := A.out.row.cell 2 rfl
  have x3 := A.out.row.cell 3 rfl
  have x4 := A.out.row.cell 4 rfl
  have x5 := A.out.row.cell 5 rfl
  have x6 := A.out.row.cell 6 rfl
  have x7 := A.out.row.cell 7 rfl
  have x8 := A.out.row.cell 8 rfl
  have x9 := A.out.row.cell 9 rfl
  have x10 := A.out.row.cell 10 rfl
  have x11 := A.out.row.cell 11 rfl
  have y0 := B.out.row.cell 0 rfl
  have y1 := B.out.row.cell 1 rfl
  have y2 := B.out.row.cell 2 rfl
  have y3 := B.out.row.cell 3 rfl
  have y4 := B.out.row.cell 4 rfl
  have y5 := B.out.row.cell 5 rfl
  have y6 := B.out.row.cell 6 rfl
  have y7 := B.out.row.cell 7 rfl
  have y8 := B.out.row.cell 8 rfl
  have y9 := B.out.row.cell 9 rfl
  have y10 := B.out.row.cell 10 rfl
  have y11 := B.out.row.cell 11 rfl
  go_wp2_with fail
  refine (KL.out _ A.out.rows B.out.rows).mono ?_
  rintro e Wn2 ⟨rfl, hb2⟩
  clear x0 x1 x2 x3 x4 x5 x6 x7 x8 x9 x10 x11 y0 y1 y2 y3 y4 y5 y6 y7 y8 y9 y10 y11
  replace P : Hid (PB Wn2 w.heap.size p pv) := P.out.below hb2
  replace A : Hid (CB Wn2 (w.heap.size + 1) a va) := A.out.below hb2
  replace B : Hid (CB Wn2 (w.heap.size + 1 + 1) b vb) := B.out.below hb2
  replace C : Hid (KB Wn2 (w.heap.size + 1 + 1 + 1) c) := C.out.below hb2
  replace S : Hid (Below w.heap.size w Wn2) := next S.out hb2
  clear hb2
  cases u
  · go_wp2_with fail
    go_ret
    exact ⟨rfl, S.out⟩
  have x0 := P.out.row.cell 0 rfl
  have x1 := P.out.row.cell 1 rfl
  have x2 := P.out.row.cell 2 rfl
  have x3 := P.out.row.cell 3 rfl
  have x4 := P.out.row.cell 4 rfl
  have x5 := P.out.row.cell 5 rfl
  have x6 := P.out.row.cell 6 rfl
  have x7 := P.out.row.cell 7 rfl
  have x8 := P.out.row.cell 8 rfl
  have x9 := P.out.row.cell 9 rfl
  have x10 := P.out.row.cell 10 rfl
  have x11 := P.out.row.cell 11 rfl
  have x12 := P.out.row.cell 12 rfl
  have y0 := A.out.row.cell 0 rfl
  have y1 := A.out.row.cell 1 rfl
  have y2 := A.out.row.cell 2 rfl
  have y3 := A.out.row.cell 3 rfl
  have y4 := A.out.row.cell 4 rfl
  have y5 := A.out.row.cell 5 rfl
  have y6 := A.out.row.cell 6 rfl
  have y7 := A.out.row.cell 7 rfl
  have y8 := A.out.row.cell 8 rfl
  have y9 := A.out.row.cell 9 rfl
  have y10 := A.out.row.cell 10 rfl
  have y11 := A.out.row.cell 11 rfl
  have z0 := C.out.row.cell 0 rfl
  have z1 := C.out.row.cell 1 rfl
  have z2 := C.out.row.cell 2 rfl
  have z3 := C.out.row.cell 3 rfl
  have z4 := C.out.row.cell 4 rfl
  have z5 := C.out.row.cell 5 rfl
  have z6 := C.out.row.cell 6 rfl
  have z7 := C.out.row.cell 7 rfl
  have z8 := C.out.row.cell 8 rfl
  have z9 := C.out.row.cell 9 rfl
  have z10 := C.out.row.cell 10 rfl
  have z11 := C.out.row.cell 11 rfl
  have z12 := C.out.row.cell 12 rfl
  go_wp2_with fail
  refine (KX.out _ P.out.rows A.out.rows).mono ?_
  rintro e Wn3 ⟨rfl, hb3⟩
  clear x0 x1 x2 x3 x4 x5 x6 x7 x8 x9 x10 x11 x12 y0 y1 y2 y3 y4 y5 y6 y7 y8 y9 y10 y11 z0 z1 z2 z3 z4 z5 z6 z7 z8 z9 z10 z11 z12
  replace P : Hid (PB Wn3 w.heap.size p pv) := P.out.below hb3
  replace A : Hid (CB Wn3 (w.heap.size + 1) a va) := A.out.below hb3
  replace B : Hid (CB Wn3 (w.heap.size + 1 + 1) b vb) := B.out.below hb3
  replace C : Hid (KB Wn3 (w.heap.size + 1 + 1 + 1) c) := C.out.below hb3
  replace S : Hid (Below w.heap.size w Wn3) := next S.out hb3
  clear hb3
  cases x
  · go_wp2_with fail
    go_ret
    exact ⟨rfl, S.out⟩
  have hy : y = true := HU.out (by trivial) (by trivial)
  subst hy
  have x0 := P.out.row.cell 0 rfl
  have x1 := P.out.row.cell 1 rfl
  have x2 := P.out.row.cell 2 rfl
  have x3 := P.out.row.cell 3 rfl
  have x4 := P.out.row.cell 4 rfl
  have x5 := P.out.row.cell 5 rfl
  have x6 := P.out.row.cell 6 rfl
  have x7 := P.out.row.cell 7 rfl
  have x8 := P.out.row.cell 8 rfl
  have x9 := P.out.row.cell 9 rfl
  have x10 := P.out.row.cell 10 rfl
  have x11 := P.out.row.cell 11 rfl
  have x12 := P.out.row.cell 12 rfl
  have y0 := B.out.row.cell 0 rfl
  have y1 := B.out.row.cell 1 rfl
  have y2 := B.out.row.cell 2 rfl
  have y3 := B.out.row.cell 3 rfl
  have y4 := B.out.row.cell 4 rfl
  have y5 := B.out.row.cell 5 rfl
  have y6 := B.out.row.cell 6 rfl
  have y7 := B.out.row.cell 7 rfl
  have y8 := B.out.row.cell 8 rfl
  have y9 := B.out.row.cell 9 rfl
  have y10 := B.out.row.cell 10 rfl
  have y11 := B.out.row.cell 11 rfl
  have z0 := C.out.row.cell 0 rfl
  have z1 := C.out.row.cell 1 rfl
  have z2 := C.out.row.cell 2 rfl
  have z3 := C.out.row.cell 3 rfl
  have z4 := C.out.row.cell 4 rfl
  have z5 := C.out.row.cell 5 rfl
  have z6 := C.out.row.cell 6 rfl
  have z7 := C.out.row.cell 7 rfl
  have z8 := C.out.row.cell 8 rfl
  have z9 := C.out.row.cell 9 rfl
  have z10 := C.out.row.cell 10 rfl
  have z11 := C.out.row.cell 11 rfl
  have z12 := C.out.row.cell 12 rfl
  go_wp2_with fail
  refine (KY.out _ P.out.rows B.out.rows).mono ?_
  rintro e Wn4 ⟨rfl, hb4⟩
  clear x0 x1 x2 x3 x4 x5 x6 x7 x8 x9 x10 x11 x12 y0 y1 y2 y3 y4 y5 y6 y7 y8 y9 y10 y11 z0 z1 z2 z3 z4 z5 z6 z7 z8 z9 z10 z11 z12
  replace P : Hid (PB Wn4 w.heap.size p pv) := P.out.below hb4
  replace A : Hid (CB Wn4 (w.heap.size + 1) a va) := A.out.below hb4
  replace B : Hid (CB Wn4 (w.heap.size + 1 + 1) b vb) := B.out.below hb4
  replace C : Hid (KB Wn4 (w.heap.size + 1 + 1 + 1) c) := C.out.below hb4
  replace S : Hid (Below w.heap.size w Wn4) := next S.out hb4
  clear hb4
  go_wp2_with fail
  go_ret
  exact ⟨rfl, S.out⟩
set_option maxRecDepth 100000 in
theorem lifted (os : Os) (started : os.Started) (H : Type) (enc : TypeId × Value → H) :
    ReturnsInHanded {} Try.checked os 6 .any (Rows.policyLessSpec.pre6 enc Try.prog Try.f6 Rows.policyLessRow.domain false) (Rows.policyLessSpec.post enc Try.prog Try.f6 false true false false) := by
  refine returnsInHanded_of_change_sized (C := Try.checked) own started (by kernel_rfl) Try.func6
    (ChangeSpec.witness6 (enc := enc) (C := Try.checked) false ⟨#[], #[.agg #[.slice none 0 0, .int .i64 0, .int .i64 0, .int .i64 0, .int .i64 0, .int .i64 0, .int .i64 0, .int .i64 0, .int .i64 0, .int .i64 0, .int .i64 0, .int .i64 0, .int .i64 0], .agg #[.int .i64 0, .bool false, .bool false, .bool false, .bool false, .bool false, .bool false, .bool false, .bool false, .bool false, .bool false, .slice none 0 0], .agg #[.int .i64 0, .bool false, .bool false, .bool false, .bool false, .bool false, .bool false, .bool false, .bool false, .bool false, .bool false, .slice none 0 0], .agg #[.string ByteArray.empty, .string ByteArray.empty, .string ByteArray.empty, .string ByteArray.empty, .bool false, .bool false, .bool false, .bool false, .int .i64 0, .int .i64 0, .int .i64 0, .int .i64 0, .int .i64 0]], []⟩ 8 (by kernel_rfl) (by kernel_rfl) (by kernel_rfl) (by kernel_rfl)) ?_
  intro W base args ds gs before hval0 hW hcnd hsz0 _
  have hsz : (DataW.weightsEach Try.prog (Try.f6.params.toList ++ Rows.policyLessSpec.plain.varTypes Try.prog) (ds ++ gs)).all (· ≤ reachBytes) = true := hsz0
  have hval : ∀ (j : Nat) t v, Try.f6.params[j]? = some t → args[j]? = some v → Value.okWide Try.prog W .any base t v := hval0
  have hW' := hW
  obtain ⟨p, q, hA0, hV, rfl, hfz, hnd⟩ := hW
  have hA : DataW.TrodAll enc Try.prog W 0 (fun _ => true) true Try.f6.params.toList args.toList ds p := hA0
  rw [Try.params6] at hA hval hsz
  obtain ⟨v0, vs0, d0, ds0, p0, q0, hargs, rfl, rfl, h0, r0⟩ := trodAll_cons hA
  obtain ⟨v1, vs1, d1, ds1, p1, q1, rfl, rfl, rfl, h1, r1⟩ := trodAll_cons r0
  obtain ⟨v2, vs2, d2, ds2, p2, q2, rfl, rfl, rfl, h2, r2⟩ := trodAll_cons r1
  obtain ⟨v3, vs3, d3, ds3, p3, q3, rfl, rfl, rfl, h3, r3⟩ := trodAll_cons r2
  obtain ⟨rfl, rfl, rfl⟩ := trodAll_nil r3
  obtain rfl : args = #[v0, v1, v2, v3] := by cases args; simp_all
  obtain ⟨rfl, rfl⟩ := trodVars_none hV
  have k0 := h0
  have lt0 : ∀ x ∈ p0, x.block < W.heap.size := by obtain ⟨m, hm⟩ := k0; exact DataW.trod_lt m _ _ _ hm
  have k1 := h1
  have lt1 : ∀ x ∈ p1, x.block < W.heap.size := by obtain ⟨m, hm⟩ := k1; exact DataW.trod_lt m _ _ _ hm
  have k2 := h2
  have lt2 : ∀ x ∈ p2, x.block < W.heap.size := by obtain ⟨m, hm⟩ := k2; exact DataW.trod_lt m _ _ _ hm
  have k3 := h3
  have lt3 : ∀ x ∈ p3, x.block < W.heap.size := by obtain ⟨m, hm⟩ := k3; exact DataW.trod_lt m _ _ _ hm
  obtain ⟨po0, pv0, rfl, rd0, ok0, bk0⟩ := open_policy (hval 0 25 v0 rfl rfl) k0 140737488351232 (fits_each hsz (j := 0) (t := 25) rfl rfl)
  obtain ⟨c1, vv1, rfl, rd1, ok1, bk1⟩ := open_consent (hval 1 29 v1 rfl rfl) k1 140737488351232 (fits_each hsz (j := 1) (t := 29) rfl rfl)
  obtain ⟨c2, vv2, rfl, rd2, ok2, bk2⟩ := open_consent (hval 2 29 v2 rfl rfl) k2 140737488351232 (fits_each hsz (j := 2) (t := 29) rfl rfl)
  obtain ⟨l3, rfl, ok3, bk3⟩ := open_cookie (hval 3 31 v3 rfl rfl) k3 140737488351232 (fits_each hsz (j := 3) (t := 31) rfl rfl)
  clear hA0 hval0
  refine (walk po0 pv0 c1 vv1 c2 vv2 l3 W rd0 ok0 rd1 ok1 rd2 ok2 ok3).mono fun e W' ⟨he, bel⟩ => ?_
  subst he
  exact ⟨_, rfl, _, _, _, [], _, [], hW', trodAll_mk1 (shut_bool Try.underlying4 _), (trodAll_cons_mk (Below.trod laidOut (by kernel_rfl) (of_decide_eq_true (by kernel_rfl)) k0 bel lt0) (trodAll_cons_mk (Below.trod laidOut (by kernel_rfl) (of_decide_eq_true (by kernel_rfl)) k1 bel lt1) (trodAll_cons_mk (Below.trod laidOut (by kernel_rfl) (of_decide_eq_true (by kernel_rfl)) k2 bel lt2) (trodAll_cons_mk (Below.trod laidOut (by kernel_rfl) (of_decide_eq_true (by kernel_rfl)) k3 bel lt3) trodAll_mk0)))), rfl, bel.frame _, fun h => by cases h⟩

theorem proved : Rows.PolicyLessSaid :=
  OpenClaim.holds_of_wide 6 Try.f6 rfl rfl rfl rfl rfl rfl rfl ⟨rfl, rfl, rfl, rfl, rfl⟩ rfl rfl rfl rfl rfl (by kernel_rfl) Try.func6 (by kernel_rfl)
    (of_decide_eq_true (by kernel_rfl)) (by unfold Func.isWrapper; first | (rw [if_pos (by decide +kernel)]; kernel_rfl) | (rw [if_neg (by decide +kernel)]; exact ⟨rfl, rfl⟩))
    (fun os started H enc _ => lifted os started H enc)
#print axioms proved
end Go.Proofs.Ytmjcgkjkhpjgbaa.policyLess
