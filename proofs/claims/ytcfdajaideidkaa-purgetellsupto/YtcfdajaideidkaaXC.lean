/- The contracts of package purge's check and Gate. The contract of Purge. What purging makes of a jar, plainly. No walk. -/
import Derived.Test.YtcfdajaideidkaaXB
import Derived.Test.YtcfdajaideidkaaXI
import Derived.Test.YtcfdajaideidkaaXK
import Derived.Test.YtcfdajaideidkaaGrantD
import Derived.OwnWalk
import Derived.Test.YtcfdajaideidkaaXA
namespace Go.Proofs.Ytcfdajaideidkaa
open Go.RowKit
set_option linter.all false
set_option maxRecDepth 100000
set_option maxRecDepth 100000

/-- what is wrong ahead of purging -/
def chPu (j : Ja) (p : Po) (g : Cn) (now : Int) : Int := if chJ j = 0 then (if chP p = 0 then (if chC g = 0 then (if momB now then 0 else 3) else chC g) else chP p) else chJ j
/-- may a cookie be kept, and as what? -/
def gateE (p : Po) (g : Cn) (c : Ck) : Int := if chP p = 0 then (if chC g = 0 then (if capE p c = 0 then (if letsP p g c then 0 else 8) else capE p c) else chC g) else chP p
def gateC (p : Po) (g : Cn) (c : Ck) : Ck := if gateE p g c = 0 then clampC p c else ckZ
set_option maxHeartbeats 16000000 in
theorem pcheck_any (j : Ja) (jv : Value) (p : Po) (pv : Value) (g : Cn) (gv : Value) (now : Int) (w : World) (rj : Rows w jv ckC j.cks) (oj : JaOk 140737488351232 j) (rp : Rows w pv ruC p.rules) (op : PoOk 140737488351232 p) (rg : Rows w gv intF g.vs) (og : CnOk g) :
    Calls Try.prog 21 #[.agg #[jv, .int .i64 j.next], .agg #[pv, .int .i64 p.dflt, .int .i64 p.c0, .int .i64 p.c1, .int .i64 p.c2, .int .i64 p.c3, .int .i64 p.c4, .int .i64 p.c5, .int .i64 p.c6, .int .i64 p.c7, .int .i64 p.c8, .int .i64 p.c9, .int .i64 p.c10], .agg #[.int .i64 g.g, .bool g.b0, .bool g.b1, .bool g.b2, .bool g.b3, .bool g.b4, .bool g.b5, .bool g.b6, .bool g.b7, .bool g.b8, .bool g.b9, gv], .int .i64 now] w fun e w' => e = .returned (.int .i64 (chPu j p g now)) ∧ Below w.heap.size w w' := by
  obtain ⟨z, hz⟩ : ∃ z, z = chPu j p g now := ⟨_, rfl⟩
  obtain ⟨e1, h1⟩ : ∃ e, e = chJ j := ⟨_, rfl⟩
  obtain ⟨e2, h2⟩ : ∃ e, e = chP p := ⟨_, rfl⟩
  obtain ⟨e3, h3⟩ : ∃ e, e = chC g := ⟨_, rfl⟩
  obtain ⟨m, hm⟩ : ∃ m, m = momB now := ⟨_, rfl⟩
  rw [← hz]
  have HZ : Hid (z = if e1 = 0 then (if e2 = 0 then (if e3 = 0 then (if m then 0 else 3) else e3) else e2) else e1) := by show _ = _; rw [hz, h1, h2, h3, hm]; rfl
  have KJ : Hid (∀ w', Rows w' jv ckC j.cks → Calls Try.prog 13 #[.agg #[jv, .int .i64 j.next]] w' fun e w'' => e = .returned (.int .i64 e1) ∧ Below w'.heap.size w' w'') := fun w' r => by rw [h1]; exact jarCheck_any j jv w' r oj
  have KP : Hid (∀ w', Rows w' pv ruC p.rules → Calls Try.prog 22 #[.agg #[pv, .int .i64 p.dflt, .int .i64 p.c0, .int .i64 p.c1, .int .i64 p.c2, .int .i64 p.c3, .int .i64 p.c4, .int .i64 p.c5, .int .i64 p.c6, .int .i64 p.c7, .int .i64 p.c8, .int .i64 p.c9, .int .i64 p.c10]] w' fun e w'' => e = .returned (.int .i64 e2) ∧ Below w'.heap.size w' w'') := fun w' r => by rw [h2]; exact polCheck_any p pv w' r op.len op.rules
  have KG : Hid (∀ w', Rows w' gv intF g.vs → Calls Try.prog 23 #[.agg #[.int .i64 g.g, .bool g.b0, .bool g.b1, .bool g.b2, .bool g.b3, .bool g.b4, .bool g.b5, .bool g.b6, .bool g.b7, .bool g.b8, .bool g.b9, gv]] w' fun e w'' => e = .returned (.int .i64 e3) ∧ Below w'.heap.size w' w'') := fun w' r => by rw [h3]; exact check_any g gv w' r og.max
  have KA : Hid ((m = false → ∀ w', Calls Try.prog 51 #[.int .i64 now, .int .i64 0] w' fun e w'' => e = .returned (.tuple #[.int .i64 0, .int .i64 3]) ∧ w'' = w') ∧ (m = true → ∀ w', Calls Try.prog 51 #[.int .i64 now, .int .i64 0] w' fun e w'' => e = .returned (.tuple #[.int .i64 (addN now 0), .int .i64 0]) ∧ w'' = w')) :=
    ⟨fun h w' => add_no now 0 (hm.symm.trans h) w', fun h w' => add_yes now 0 (hm.symm.trans h) (by decide) w'⟩
  obtain ⟨W0, hW0⟩ : ∃ W0, W0 = (((w.alloc (.cells #[jv, .int .i64 j.next] 24)).alloc (.cells #[pv, .int .i64 p.dflt, .int .i64 p.c0, .int .i64 p.c1, .int .i64 p.c2, .int .i64 p.c3, .int .i64 p.c4, .int .i64 p.c5, .int .i64 p.c6, .int .i64 p.c7, .int .i64 p.c8, .int .i64 p.c9, .int .i64 p.c10] 28)).alloc (.cells #[.int .i64 g.g, .bool g.b0, .bool g.b1, .bool g.b2, .bool g.b3, .bool g.b4, .bool g.b5, .bool g.b6, .bool g.b7, .bool g.b8, .bool g.b9, gv] 32)) := ⟨_, rfl⟩
  have J : Hid (JB W0 w.heap.size j jv) := by
    rw [hW0]
    have h := JB.new w j jv 24 rj
    exact ((h.below (below_new _ _)).below (below_new _ _))
  have P : Hid (PB W0 (w.heap.size + 1) p pv) := by
    rw [hW0]
    have h := PB.new (w.alloc (.cells #[jv, .int .i64 j.next] 24)) p pv 28 (Rows.below rp (below_new _ _) (Nat.le_refl _))
    rw [show (w.alloc (.cells #[jv, .int .i64 j.next] 24)).heap.size = w.heap.size + 1 from by simp] at h
    exact (h.below (below_new _ _))
  have G : Hid (CB W0 (w.heap.size + 1 + 1) g gv) := by
    rw [hW0]
    have h := CB.new ((w.alloc (.cells #[jv, .int .i64 j.next] 24)).alloc (.cells #[pv, .int .i64 p.dflt, .int .i64 p.c0, .int .i64 p.c1, .int .i64 p.c2, .int .i64 p.c3, .int .i64 p.c4, .int .i64 p.c5, .int .i64 p.c6, .int .i64 p.c7, .int .i64 p.c8, .int .i64 p.c9, .int .i64 p.c10] 28)) g gv 32 (Rows.below (Rows.below rg (below_new _ _) (Nat.le_refl _)) (below_new _ _) (Nat.le_refl _))
    rw [show ((w.alloc (.cells #[jv, .int .i64 j.next] 24)).alloc (.cells #[pv, .int .i64 p.dflt, .int .i64 p.c0, .int .i64 p.c1, .int .i64 p.c2, .int .i64 p.c3, .int .i64 p.c4, .int .i64 p.c5, .int .i64 p.c6, .int .i64 p.c7, .int .i64 p.c8, .int .i64 p.c9, .int .i64 p.c10] 28)).heap.size = w.heap.size + 1 + 1 from by simp] at h
    exact h
  have S : Hid (Below w.heap.size w W0) := by rw [hW0]; exact next (next (below_new _ _) (below_new _ _)) (below_new _ _)
  have HW0 : Hid _ := hW0
  clear rj oj rp op rg og hz h1 h2 h3 hm hW0
  go_enter Try.func21, Try.ntmps21
  go_upto_region 1 with fail
  rw [← HW0.out]
  clear HW0
  have x0 := J.out.row.cell 0 rfl
  have x1 := J.out.row.cell 1 rfl
  go_wp2_with fail
  refine (KJ.out _ J.out.rows).mono ?_
  rintro e Wn1 ⟨rfl, hb1⟩
  clear x0 x1
  replace J : Hid (JB Wn1 w.heap.size j jv) := J.out.below hb1
  replace P : Hid (PB Wn1 (w.heap.size + 1) p pv) := P.out.below hb1
  replace G : Hid (CB Wn1 (w.heap.size + 1 + 1) g gv) := G.out.below hb1
  replace S : Hid (Below w.heap.size w Wn1) := next S.out hb1
  clear hb1
  by_cases he1 : e1 = 0
  rotate_left
  · have q : (e1 != 0) = true := by rw [bne_iff_ne]; exact he1
    have HZ1 : Hid (z = e1) := by show _ = _; rw [HZ.out]; simp only [if_neg he1]
    clear he1
    go_wp2_with fail
    go_ret
    exact ⟨by rw [HZ1.out]; rfl, S.out⟩
  have qe1 : (e1 != 0) = false := by rw [he1]; rfl
  have HHe1 : Hid (e1 = 0) := he1
  clear he1
  have x0 := P.out.row.cell 0 rfl
  have x1 := P.out.row.cell 1 rfl
  have x2 := P.out.row.cell 2 rfl
  have x3 := P.out.row.cell 3 rfl
  have x4 := P.out.row.cell 4 rfl
  have x5 := P.out.row.cell 5 rfl
  have x6 := P.out.row.cell 6 rfl
  have x7 := P.out.row.cell 7 rfl
  have x8 := P.out.row.cell 8 rfl
  have x9 := P.out.row.cell 9 rfl
  have x10 := P.out.row.cell 10 rfl
  have x11 := P.out.row.cell 11 rfl
  have x12 := P.out.row.cell 12 rfl
  go_wp2_with fail
  refine (KP.out _ P.out.rows).mono ?_
  rintro e Wn2 ⟨rfl, hb2⟩
  clear x0 x1 x2 x3 x4 x5 x6 x7 x8 x9 x10 x11 x12
  replace J : Hid (JB Wn2 w.heap.size j jv) := J.out.below hb2
  replace P : Hid (PB Wn2 (w.heap.size + 1) p pv) := P.out.below hb2
  replace G : Hid (CB Wn2 (w.heap.size + 1 + 1) g gv) := G.out.below hb2
  replace S : Hid (Below w.heap.size w Wn2) := next S.out hb2
  clear hb2
  by_cases he2 : e2 = 0
  rotate_left
  · have q : (e2 != 0) = true := by rw [bne_iff_ne]; exact he2
    have HZ1 : Hid (z = e2) := by show _ = _; rw [HZ.out]; rw [if_pos HHe1.out]; simp only [if_neg he2]
    clear he2
    go_wp2_with fail
    go_ret
    exact ⟨by rw [HZ1.out]; rfl, S.out⟩
  have qe2 : (e2 != 0) = false := by rw [he2]; rfl
  have HHe2 : Hid (e2 = 0) := he2
  clear he2
  have x0 := G.out.row.cell 0 rfl
  have x1 := G.out.row.cell 1 rfl
  have x2 := G.out.row.cell 2 rfl
  have x3 := G.out.row.cell 3 rfl
  have x4 := G.out.row.cell 4 rfl
  have x5 := G.out.row.cell 5 rfl
  have x6 := G.out.row.cell 6 rfl
  have x7 := G.out.row.cell 7 rfl
  have x8 := G.out.row.cell 8 rfl
  have x9 := G.out.row.cell 9 rfl
  have x10 := G.out.row.cell 10 rfl
  have x11 := G.out.row.cell 11 rfl
  go_wp2_with fail
  refine (KG.out _ G.out.rows).mono ?_
  rintro e Wn3 ⟨rfl, hb3⟩
  clear x0 x1 x2 x3 x4 x5 x6 x7 x8 x9 x10 x11
  replace J : Hid (JB Wn3 w.heap.size j jv) := J.out.below hb3
  replace P : Hid (PB Wn3 (w.heap.size + 1) p pv) := P.out.below hb3
  replace G : Hid (CB Wn3 (w.heap.size + 1 + 1) g gv) := G.out.below hb3
  replace S : Hid (Below w.heap.size w Wn3) := next S.out hb3
  clear hb3
  by_cases he3 : e3 = 0
  rotate_left
  · have q : (e3 != 0) = true := by rw [bne_iff_ne]; exact he3
    have HZ1 : Hid (z = e3) := by show _ = _; rw [HZ.out]; rw [if_pos HHe1.out, if_pos HHe2.out]; simp only [if_neg he3]
    clear he3
    go_wp2_with fail
    go_ret
    exact ⟨by rw [HZ1.out]; rfl, S.out⟩
  have qe3 : (e3 != 0) = false := by rw [he3]; rfl
  have HHe3 : Hid (e3 = 0) := he3
  clear he3
  cases m
  · have HZ1 : Hid (z = 3) := by show _ = _; rw [HZ.out, if_pos HHe1.out, if_pos HHe2.out, if_pos HHe3.out]; rfl
    go_wp2_with fail
    refine (KA.out.1 (by first | rfl | trivial) _).mono ?_
    rintro e wa ⟨rfl, hwa⟩
    subst wa
    go_wp2_with fail
    go_ret
    exact ⟨by rw [HZ1.out]; rfl, S.out⟩
  · have HZ1 : Hid (z = 0) := by show _ = _; rw [HZ.out, if_pos HHe1.out, if_pos HHe2.out, if_pos HHe3.out]; rfl
    go_wp2_with fail
    refine (KA.out.2 (by first | rfl | trivial) _).mono ?_
    rintro e wa ⟨rfl, hwa⟩
    subst wa
    go_wp2_with fail
    go_ret
    exact ⟨by rw [HZ1.out]; rfl, S.out⟩
set_option maxHeartbeats 16000000 in
theorem gate_any (p : Po) (pv : Value) (g : Cn) (gv : Value) (c : Ck) (w : World) (rp : Rows w pv ruC p.rules) (op : PoOk 140737488351232 p) (rg : Rows w gv intF g.vs) (og : CnOk g) (oc : CkOk 140737488351232 c) :
    Calls Try.prog 8 #[.agg #[pv, .int .i64 p.dflt, .int .i64 p.c0, .int .i64 p.c1, .int .i64 p.c2, .int .i64 p.c3, .int .i64 p.c4, .int .i64 p.c5, .int .i64 p.c6, .int .i64 p.c7, .int .i64 p.c8, .int .i64 p.c9, .int .i64 p.c10], .agg #[.int .i64 g.g, .bool g.b0, .bool g.b1, .bool g.b2, .bool g.b3, .bool g.b4, .bool g.b5, .bool g.b6, .bool g.b7, .bool g.b8, .bool g.b9, gv], .agg #[.string (txt c.name), .string (txt c.value), .string (txt c.domain), .string (txt c.path), .bool c.hostOnly, .bool c.secure, .bool c.httpOnly, .bool c.lasting, .int .i64 c.site, .int .i64 c.expiry, .int .i64 c.created, .int .i64 c.used, .int .i64 c.no]] w fun e w' => e = .returned (.tuple #[.agg (ckC (gateC p g c)).toArray, .int .i64 (gateE p g c)]) ∧ Below w.heap.size w w' := by
  obtain ⟨E, hE⟩ : ∃ E, E = gateE p g c := ⟨_, rfl⟩
  obtain ⟨d, hd⟩ : ∃ d, d = gateC p g c := ⟨_, rfl⟩
  obtain ⟨e1, h1⟩ : ∃ e, e = chP p := ⟨_, rfl⟩
  obtain ⟨e2, h2⟩ : ∃ e, e = chC g := ⟨_, rfl⟩
  obtain ⟨e3, h3⟩ : ∃ e, e = capE p c := ⟨_, rfl⟩
  obtain ⟨q4, h4⟩ : ∃ q, q = letsP p g c := ⟨_, rfl⟩
  obtain ⟨k, hk⟩ : ∃ k, k = clampC p c := ⟨_, rfl⟩
  rw [← hE, ← hd]
  have HE : Hid (E = if e1 = 0 then (if e2 = 0 then (if e3 = 0 then (if q4 then 0 else 8) else e3) else e2) else e1) := by show _ = _; rw [hE, h1, h2, h3, h4]; rfl
  have HD : Hid (d = if E = 0 then k else ckZ) := by show _ = _; rw [hd, hE, hk]; rfl
  have KP : Hid (∀ w', Rows w' pv ruC p.rules → Calls Try.prog 22 #[.agg #[pv, .int .i64 p.dflt, .int .i64 p.c0, .int .i64 p.c1, .int .i64 p.c2, .int .i64 p.c3, .int .i64 p.c4, .int .i64 p.c5, .int .i64 p.c6, .int .i64 p.c7, .int .i64 p.c8, .int .i64 p.c9, .int .i64 p.c10]] w' fun e w'' => e = .returned (.int .i64 e1) ∧ Below w'.heap.size w' w'') := fun w' r => by rw [h1]; exact polCheck_any p pv w' r op.len op.rules
  have KG : Hid (∀ w', Rows w' gv intF g.vs → Calls Try.prog 23 #[.agg #[.int .i64 g.g, .bool g.b0, .bool g.b1, .bool g.b2, .bool g.b3, .bool g.b4, .bool g.b5, .bool g.b6, .bool g.b7, .bool g.b8, .bool g.b9, gv]] w' fun e w'' => e = .returned (.int .i64 e2) ∧ Below w'.heap.size w' w'') := fun w' r => by rw [h2]; exact check_any g gv w' r og.max
  have KC : Hid (∀ w', Rows w' pv ruC p.rules → Calls Try.prog 24 #[.agg #[pv, .int .i64 p.dflt, .int .i64 p.c0, .int .i64 p.c1, .int .i64 p.c2, .int .i64 p.c3, .int .i64 p.c4, .int .i64 p.c5, .int .i64 p.c6, .int .i64 p.c7, .int .i64 p.c8, .int .i64 p.c9, .int .i64 p.c10], .agg #[.string (txt c.name), .string (txt c.value), .string (txt c.domain), .string (txt c.path), .bool c.hostOnly, .bool c.secure, .bool c.httpOnly, .bool c.lasting, .int .i64 c.site, .int .i64 c.expiry, .int .i64 c.created, .int .i64 c.used, .int .i64 c.no]] w' fun e w'' => e = .returned (.tuple #[.agg #[.string (txt k.name), .string (txt k.value), .string (txt k.domain), .string (txt k.path), .bool k.hostOnly, .bool k.secure, .bool k.httpOnly, .bool k.lasting, .int .i64 k.site, .int .i64 k.expiry, .int .i64 k.created, .int .i64 k.used, .int .i64 k.no], .int .i64 e3]) ∧ Below w'.heap.size w' w'') := fun w' r => by rw [hk, h3]; exact clamp_any p pv c w' r op oc
  have KL : Hid (∀ w', Rows w' pv ruC p.rules → Rows w' gv intF g.vs → Calls Try.prog 15 #[.agg #[pv, .int .i64 p.dflt, .int .i64 p.c0, .int .i64 p.c1, .int .i64 p.c2, .int .i64 p.c3, .int .i64 p.c4, .int .i64 p.c5, .int .i64 p.c6, .int .i64 p.c7, .int .i64 p.c8, .int .i64 p.c9, .int .i64 p.c10], .agg #[.int .i64 g.g, .bool g.b0, .bool g.b1, .bool g.b2, .bool g.b3, .bool g.b4, .bool g.b5, .bool g.b6, .bool g.b7, .bool g.b8, .bool g.b9, gv], .agg #[.string (txt c.name), .string (txt c.value), .string (txt c.domain), .string (txt c.path), .bool c.hostOnly, .bool c.secure, .bool c.httpOnly, .bool c.lasting, .int .i64 c.site, .int .i64 c.expiry, .int .i64 c.created, .int .i64 c.used, .int .i64 c.no]] w' fun e w'' => e = .returned (.bool q4) ∧ Below w'.heap.size w' w'') := fun w' r1 r2 => by rw [h4]; exact lets_any p pv g gv c w' op r1 r2 og.max oc
  obtain ⟨W0, hW0⟩ : ∃ W0, W0 = ((((w.alloc (.cells #[pv, .int .i64 p.dflt, .int .i64 p.c0, .int .i64 p.c1, .int .i64 p.c2, .int .i64 p.c3, .int .i64 p.c4, .int .i64 p.c5, .int .i64 p.c6, .int .i64 p.c7, .int .i64 p.c8, .int .i64 p.c9, .int .i64 p.c10] 28)).alloc (.cells #[.int .i64 g.g, .bool g.b0, .bool g.b1, .bool g.b2, .bool g.b3, .bool g.b4, .bool g.b5, .bool g.b6, .bool g.b7, .bool g.b8, .bool g.b9, gv] 32)).alloc (.cells #[.string (txt c.name), .string (txt c.value), .string (txt c.domain), .string (txt c.path), .bool c.hostOnly, .bool c.secure, .bool c.httpOnly, .bool c.lasting, .int .i64 c.site, .int .i64 c.expiry, .int .i64 c.created, .int .i64 c.used, .int .i64 c.no] 34)).alloc (.cells #[.string ⟨#[]⟩, .string ⟨#[]⟩, .string ⟨#[]⟩, .string ⟨#[]⟩, .bool false, .bool false, .bool false, .bool false, .int .i64 0, .int .i64 0, .int .i64 0, .int .i64 0, .int .i64 0] 34)) := ⟨_, rfl⟩
  have P : Hid (PB W0 w.heap.size p pv) := by
    rw [hW0]
    have h := PB.new w p pv 28 rp
    exact (((h.below (below_new _ _)).below (below_new _ _)).below (below_new _ _))
  have G : Hid (CB W0 (w.heap.size + 1) g gv) := by
    rw [hW0]
    have h := CB.new (w.alloc (.cells #[pv, .int .i64 p.dflt, .int .i64 p.c0, .int .i64 p.c1, .int .i64 p.c2, .int .i64 p.c3, .int .i64 p.c4, .int .i64 p.c5, .int .i64 p.c6, .int .i64 p.c7, .int .i64 p.c8, .int .i64 p.c9, .int .i64 p.c10] 28)) g gv 32 (Rows.below rg (below_new _ _) (Nat.le_refl _))
    rw [show (w.alloc (.cells #[pv, .int .i64 p.dflt, .int .i64 p.c0, .int .i64 p.c1, .int .i64 p.c2, .int .i64 p.c3, .int .i64 p.c4, .int .i64 p.c5, .int .i64 p.c6, .int .i64 p.c7, .int .i64 p.c8, .int .i64 p.c9, .int .i64 p.c10] 28)).heap.size = w.heap.size + 1 from by simp] at h
    exact ((h.below (below_new _ _)).below (below_new _ _))
  have C : Hid (KB W0 (w.heap.size + 1 + 1) c) := by
    rw [hW0]
    have h := KB.new ((w.alloc (.cells #[pv, .int .i64 p.dflt, .int .i64 p.c0, .int .i64 p.c1, .int .i64 p.c2, .int .i64 p.c3, .int .i64 p.c4, .int .i64 p.c5, .int .i64 p.c6, .int .i64 p.c7, .int .i64 p.c8, .int .i64 p.c9, .int .i64 p.c10] 28)).alloc (.cells #[.int .i64 g.g, .bool g.b0, .bool g.b1, .bool g.b2, .bool g.b3, .bool g.b4, .bool g.b5, .bool g.b6, .bool g.b7, .bool g.b8, .bool g.b9, gv] 32)) c 34
    rw [show ((w.alloc (.cells #[pv, .int .i64 p.dflt, .int .i64 p.c0, .int .i64 p.c1, .int .i64 p.c2, .int .i64 p.c3, .int .i64 p.c4, .int .i64 p.c5, .int .i64 p.c6, .int .i64 p.c7, .int .i64 p.c8, .int .i64 p.c9, .int .i64 p.c10] 28)).alloc (.cells #[.int .i64 g.g, .bool g.b0, .bool g.b1, .bool g.b2, .bool g.b3, .bool g.b4, .bool g.b5, .bool g.b6, .bool g.b7, .bool g.b8, .bool g.b9, gv] 32)).heap.size = w.heap.size + 1 + 1 from by simp] at h
    exact (h.below (below_new _ _))
  have R : Hid (KB W0 (w.heap.size + 1 + 1 + 1) ckZ) := by
    rw [hW0]
    have h := KB.new (((w.alloc (.cells #[pv, .int .i64 p.dflt, .int .i64 p.c0, .int .i64 p.c1, .int .i64 p.c2, .int .i64 p.c3, .int .i64 p.c4, .int .i64 p.c5, .int .i64 p.c6, .int .i64 p.c7, .int .i64 p.c8, .int .i64 p.c9, .int .i64 p.c10] 28)).alloc (.cells #[.int .i64 g.g, .bool g.b0, .bool g.b1, .bool g.b2, .bool g.b3, .bool g.b4, .bool g.b5, .bool g.b6, .bool g.b7, .bool g.b8, .bool g.b9, gv] 32)).alloc (.cells #[.string (txt c.name), .string (txt c.value), .string (txt c.domain), .string (txt c.path), .bool c.hostOnly, .bool c.secure, .bool c.httpOnly, .bool c.lasting, .int .i64 c.site, .int .i64 c.expiry, .int .i64 c.created, .int .i64 c.used, .int .i64 c.no] 34)) ckZ 34
    rw [show (((w.alloc (.cells #[pv, .int .i64 p.dflt, .int .i64 p.c0, .int .i64 p.c1, .int .i64 p.c2, .int .i64 p.c3, .int .i64 p.c4, .int .i64 p.c5, .int .i64 p.c6, .int .i64 p.c7, .int .i64 p.c8, .int .i64 p.c9, .int .i64 p.c10] 28)).alloc (.cells #[.int .i64 g.g, .bool g.b0, .bool g.b1, .bool g.b2, .bool g.b3, .bool g.b4, .bool g.b5, .bool g.b6, .bool g.b7, .bool g.b8, .bool g.b9, gv] 32)).alloc (.cells #[.string (txt c.name), .string (txt c.value), .string (txt c.domain), .string (txt c.path), .bool c.hostOnly, .bool c.secure, .bool c.httpOnly, .bool c.lasting, .int .i64 c.site, .int .i64 c.expiry, .int .i64 c.created, .int .i64 c.used, .int .i64 c.no] 34)).heap.size = w.heap.size + 1 + 1 + 1 from by simp] at h
    exact h
  have S : Hid (Below w.heap.size w W0) := by rw [hW0]; exact next (next (next (below_new _ _) (below_new _ _)) (below_new _ _)) (below_new _ _)
  have HW0 : Hid _ := hW0
  clear rp op rg og oc hE hd h1 h2 h3 h4 hk hW0
  go_enter Try.func8, Try.ntmps8
  go_upto_region 1 with fail
  rw [← HW0.out]
  clear HW0
  have x0 := P.out.row.cell 0 rfl
  have x1 := P.out.row.cell 1 rfl
  have x2 := P.out.row.cell 2 rfl
  have x3 := P.out.row.cell 3 rfl
  have x4 := P.out.row.cell 4 rfl
  have x5 := P.out.row.cell 5 rfl
  have x6 := P.out.row.cell 6 rfl
  have x7 := P.out.row.cell 7 rfl
  have x8 := P.out.row.cell 8 rfl
  have x9 := P.out.row.cell 9 rfl
  have x10 := P.out.row.cell 10 rfl
  have x11 := P.out.row.cell 11 rfl
  have x12 := P.out.row.cell 12 rfl
  go_wp2_with fail
  refine (KP.out _ P.out.rows).mono ?_
  rintro e Wn1 ⟨rfl, hb1⟩
  clear x0 x1 x2 x3 x4 x5 x6 x7 x8 x9 x10 x11 x12
  replace P : Hid (PB Wn1 w.heap.size p pv) := P.out.below hb1
  replace G : Hid (CB Wn1 (w.heap.size + 1) g gv) := G.out.below hb1
  replace C : Hid (KB Wn1 (w.heap.size + 1 + 1) c) := C.out.below hb1
  replace R : Hid (KB Wn1 (w.heap.size + 1 + 1 + 1) ckZ) := R.out.below hb1
  replace S : Hid (Below w.heap.size w Wn1) := next S.out hb1
  clear hb1
  by_cases he1 : e1 = 0
  rotate_left
  · have q : (e1 != 0) = true := by rw [bne_iff_ne]; exact he1
    have HRET : Hid (Ending.returned (.tuple #[.agg #[.string ⟨#[]⟩, .string ⟨#[]⟩, .string ⟨#[]⟩, .string ⟨#[]⟩, .bool false, .bool false, .bool false, .bool false, .int .i64 0, .int .i64 0, .int .i64 0, .int .i64 0, .int .i64 0], .int .i64 e1]) = Ending.returned (.tuple #[.agg (ckC d).toArray, .int .i64 E])) := by
      show _ = _
      have h1 : E = e1 := by rw [HE.out]; rw [if_neg he1]
      have h2 : d = ckZ := by rw [HD.out, if_neg (by rw [h1]; exact he1)]
      rw [h1, h2]; rfl
    clear he1
    have o0 := R.out.row.cell 0 rfl
    have f0 := R.out.row.frozen 0 rfl
    have o1 := R.out.row.cell 1 rfl
    have f1 := R.out.row.frozen 1 rfl
    have o2 := R.out.row.cell 2 rfl
    have f2 := R.out.row.frozen 2 rfl
    have o3 := R.out.row.cell 3 rfl
    have f3 := R.out.row.frozen 3 rfl
    have o4 := R.out.row.cell 4 rfl
    have f4 := R.out.row.frozen 4 rfl
    have o5 := R.out.row.cell 5 rfl
    have f5 := R.out.row.frozen 5 rfl
    have o6 := R.out.row.cell 6 rfl
    have f6 := R.out.row.frozen 6 rfl
    have o7 := R.out.row.cell 7 rfl
    have f7 := R.out.row.frozen 7 rfl
    have o8 := R.out.row.cell 8 rfl
    have f8 := R.out.row.frozen 8 rfl
    have o9 := R.out.row.cell 9 rfl
    have f9 := R.out.row.frozen 9 rfl
    have o10 := R.out.row.cell 10 rfl
    have f10 := R.out.row.frozen 10 rfl
    have o11 := R.out.row.cell 11 rfl
    have f11 := R.out.row.frozen 11 rfl
    have o12 := R.out.row.cell 12 rfl
    have f12 := R.out.row.frozen 12 rfl
    go_wp2_with fail
    generalize hW2 : World.setCell _ _ _ = W2
    have HP : Hid (LRow W2 (w.heap.size + 1 + 1 + 1) (ckC ckZ)) := by
      rw [← hW2]
      exact ((((((((((((R.out.row.set 0 _).set 1 _).set 2 _).set 3 _).set 4 _).set 5 _).set 6 _).set 7 _).set 8 _).set 9 _).set 10 _).set 11 _).set 12 _
    have HB2 : Hid (Below w.heap.size w W2) := by
      rw [← hW2]
      iterate 13 refine Below.setCell ?_ (show w.heap.size ≤ w.heap.size + 1 + 1 + 1 by omega) _
      exact S.out
    clear hW2 o0 f0 o1 f1 o2 f2 o3 f3 o4 f4 o5 f5 o6 f6 o7 f7 o8 f8 o9 f9 o10 f10 o11 f11 o12 f12 
    have p0 := HP.out.cell 0 rfl
    have p1 := HP.out.cell 1 rfl
    have p2 := HP.out.cell 2 rfl
    have p3 := HP.out.cell 3 rfl
    have p4 := HP.out.cell 4 rfl
    have p5 := HP.out.cell 5 rfl
    have p6 := HP.out.cell 6 rfl
    have p7 := HP.out.cell 7 rfl
    have p8 := HP.out.cell 8 rfl
    have p9 := HP.out.cell 9 rfl
    have p10 := HP.out.cell 10 rfl
    have p11 := HP.out.cell 11 rfl
    have p12 := HP.out.cell 12 rfl
    exact bodyPost_ret (v := .tuple #[.agg #[.string ⟨#[]⟩, .string ⟨#[]⟩, .string ⟨#[]⟩, .string ⟨#[]⟩, .bool false, .bool false, .bool false, .bool false, .int .i64 0, .int .i64 0, .int .i64 0, .int .i64 0, .int .i64 0], .int .i64 e1]) (by simp [results, Try.results8, go_sem, ckZ, txt_nil, p0, p1, p2, p3, p4, p5, p6, p7, p8, p9, p10, p11, p12]) rfl ⟨HRET.out, HB2.out⟩
  have qe1 : (e1 != 0) = false := by rw [he1]; rfl
  have HHe1 : Hid (e1 = 0) := he1
  clear he1
  have x0 := G.out.row.cell 0 rfl
  have x1 := G.out.row.cell 1 rfl
  have x2 := G.out.row.cell 2 rfl
  have x3 := G.out.row.cell 3 rfl
  have x4 := G.out.row.cell 4 rfl
  have x5 := G.out.row.cell 5 rfl
  have x6 := G.out.row.cell 6 rfl
  have x7 := G.out.row.cell 7 rfl
  have x8 := G.out.row.cell 8 rfl
  have x9 := G.out.row.cell 9 rfl
  have x10 := G.out.row.cell 10 rfl
  have x11 := G.out.row.cell 11 rfl
  go_wp2_with fail
  refine (KG.out _ G.out.rows).mono ?_
  rintro e Wn2 ⟨rfl, hb2⟩
  clear x0 x1 x2 x3 x4 x5 x6 x7 x8 x9 x10 x11
  replace P : Hid (PB Wn2 w.heap.size p pv) := P.out.below hb2
  replace G : Hid (CB Wn2 (w.heap.size + 1) g gv) := G.out.below hb2
  replace C : Hid (KB Wn2 (w.heap.size + 1 + 1) c) := C.out.below hb2
  replace R : Hid (KB Wn2 (w.heap.size + 1 + 1 + 1) ckZ) := R.out.below hb2
  replace S : Hid (Below w.heap.size w Wn2) := next S.out hb2
  clear hb2
  by_cases he2 : e2 = 0
  rotate_left
  · have q : (e2 != 0) = true := by rw [bne_iff_ne]; exact he2
    have HRET : Hid (Ending.returned (.tuple #[.agg #[.string ⟨#[]⟩, .string ⟨#[]⟩, .string ⟨#[]⟩, .string ⟨#[]⟩, .bool false, .bool false, .bool false, .bool false, .int .i64 0, .int .i64 0, .int .i64 0, .int .i64 0, .int .i64 0], .int .i64 e2]) = Ending.returned (.tuple #[.agg (ckC d).toArray, .int .i64 E])) := by
      show _ = _
      have h1 : E = e2 := by rw [HE.out]; rw [if_pos HHe1.out]; rw [if_neg he2]
      have h2 : d = ckZ := by rw [HD.out, if_neg (by rw [h1]; exact he2)]
      rw [h1, h2]; rfl
    clear he2
    have o0 := R.out.row.cell 0 rfl
    have f0 := R.out.row.frozen 0 rfl
    have o1 := R.out.row.cell 1 rfl
    have f1 := R.out.row.frozen 1 rfl
    have o2 := R.out.row.cell 2 rfl
    have f2 := R.out.row.frozen 2 rfl
    have o3 := R.out.row.cell 3 rfl
    have f3 := R.out.row.frozen 3 rfl
    have o4 := R.out.row.cell 4 rfl
    have f4 := R.out.row.frozen 4 rfl
    have o5 := R.out.row.cell 5 rfl
    have f5 := R.out.row.frozen 5 rfl
    have o6 := R.out.row.cell 6 rfl
    have f6 := R.out.row.frozen 6 rfl
    have o7 := R.out.row.cell 7 rfl
    have f7 := R.out.row.frozen 7 rfl
    have o8 := R.out.row.cell 8 rfl
    have f8 := R.out.row.frozen 8 rfl
    have o9 := R.out.row.cell 9 rfl
    have f9 := R.out.row.frozen 9 rfl
    have o10 := R.out.row.cell 10 rfl
    have f10 := R.out.row.frozen 10 rfl
    have o11 := R.out.row.cell 11 rfl
    have f11 := R.out.row.frozen 11 rfl
    have o12 := R.out.row.cell 12 rfl
    have f12 := R.out.row.frozen 12 rfl
    go_wp2_with fail
    generalize hW2 : World.setCell _ _ _ = W2
    have HP : Hid (LRow W2 (w.heap.size + 1 + 1 + 1) (ckC ckZ)) := by
      rw [← hW2]
      exact ((((((((((((R.out.row.set 0 _).set 1 _).set 2 _).set 3 _).set 4 _).set 5 _).set 6 _).set 7 _).set 8 _).set 9 _).set 10 _).set 11 _).set 12 _
    have HB2 : Hid (Below w.heap.size w W2) := by
      rw [← hW2]
      iterate 13 refine Below.setCell ?_ (show w.heap.size ≤ w.heap.size + 1 + 1 + 1 by omega) _
      exact S.out
    clear hW2 o0 f0 o1 f1 o2 f2 o3 f3 o4 f4 o5 f5 o6 f6 o7 f7 o8 f8 o9 f9 o10 f10 o11 f11 o12 f12 
    have p0 := HP.out.cell 0 rfl
    have p1 := HP.out.cell 1 rfl
    have p2 := HP.out.cell 2 rfl
    have p3 := HP.out.cell 3 rfl
    have p4 := HP.out.cell 4 rfl
    have p5 := HP.out.cell 5 rfl
    have p6 := HP.out.cell 6 rfl
    have p7 := HP.out.cell 7 rfl
    have p8 := HP.out.cell 8 rfl
    have p9 := HP.out.cell 9 rfl
    have p10 := HP.out.cell 10 rfl
    have p11 := HP.out.cell 11 rfl
    have p12 := HP.out.cell 12 rfl
    exact bodyPost_ret (v := .tuple #[.agg #[.string ⟨#[]⟩, .string ⟨#[]⟩, .string ⟨#[]⟩, .string ⟨#[]⟩, .bool false, .bool false, .bool false, .bool false, .int .i64 0, .int .i64 0, .int .i64 0, .int .i64 0, .int .i64 0], .int .i64 e2]) (by simp [results, Try.results8, go_sem, ckZ, txt_nil, p0, p1, p2, p3, p4, p5, p6, p7, p8, p9, p10, p11, p12]) rfl ⟨HRET.out, HB2.out⟩
  have qe2 : (e2 != 0) = false := by rw [he2]; rfl
  have HHe2 : Hid (e2 = 0) := he2
  clear he2
  have x0 := P.out.row.cell 0 rfl
  have x1 := P.out.row.cell 1 rfl
  have x2 := P.out.row.cell 2 rfl
  have x3 := P.out.row.cell 3 rfl
  have x4 := P.out.row.cell 4 rfl
  have x5 := P.out.row.cell 5 rfl
  have x6 := P.out.row.cell 6 rfl
  have x7 := P.out.row.cell 7 rfl
  have x8 := P.out.row.cell 8 rfl
  have x9 := P.out.row.cell 9 rfl
  have x10 := P.out.row.cell 10 rfl
  have x11 := P.out.row.cell 11 rfl
  have x12 := P.out.row.cell 12 rfl
  have y0 := C.out.row.cell 0 rfl
  have y1 := C.out.row.cell 1 rfl
  have y2 := C.out.row.cell 2 rfl
  have y3 := C.out.row.cell 3 rfl
  have y4 := C.out.row.cell 4 rfl
  have y5 := C.out.row.cell 5 rfl
  have y6 := C.out.row.cell 6 rfl
  have y7 := C.out.row.cell 7 rfl
  have y8 := C.out.row.cell 8 rfl
  have y9 := C.out.row.cell 9 rfl
  have y10 := C.out.row.cell 10 rfl
  have y11 := C.out.row.cell 11 rfl
  have y12 := C.out.row.cell 12 rfl
  go_wp2_with fail
  refine (KC.out _ P.out.rows).mono ?_
  rintro e v3 ⟨rfl, hb3⟩
  clear x0 x1 x2 x3 x4 x5 x6 x7 x8 x9 x10 x11 x12 y0 y1 y2 y3 y4 y5 y6 y7 y8 y9 y10 y11 y12
  obtain ⟨W3, hW3⟩ : ∃ W3, W3 = v3.alloc (.cells #[.string (txt k.name), .string (txt k.value), .string (txt k.domain), .string (txt k.path), .bool k.hostOnly, .bool k.secure, .bool k.httpOnly, .bool k.lasting, .int .i64 k.site, .int .i64 k.expiry, .int .i64 k.created, .int .i64 k.used, .int .i64 k.no] 34) := ⟨_, rfl⟩
  have hc3 : Below Wn2.heap.size Wn2 W3 := by rw [hW3]; exact next hb3 (below_new _ _)
  replace P : Hid (PB W3 w.heap.size p pv) := P.out.below hc3
  replace G : Hid (CB W3 (w.heap.size + 1) g gv) := G.out.below hc3
  replace C : Hid (KB W3 (w.heap.size + 1 + 1) c) := C.out.below hc3
  replace R : Hid (KB W3 (w.heap.size + 1 + 1 + 1) ckZ) := R.out.below hc3
  replace S : Hid (Below w.heap.size w W3) := next S.out hc3
  have D : Hid (KB W3 v3.heap.size k) := by rw [hW3]; exact KB.new v3 k 34
  have HW3 : Hid _ := hW3
  clear hb3 hc3 hW3
  go_upto_region 8 with fail
  rw [← HW3.out]
  clear HW3
  by_cases he3 : e3 = 0
  rotate_left
  · have q : (e3 != 0) = true := by rw [bne_iff_ne]; exact he3
    have HRET : Hid (Ending.returned (.tuple #[.agg #[.string ⟨#[]⟩, .string ⟨#[]⟩, .string ⟨#[]⟩, .string ⟨#[]⟩, .bool false, .bool false, .bool false, .bool false, .int .i64 0, .int .i64 0, .int .i64 0, .int .i64 0, .int .i64 0], .int .i64 e3]) = Ending.returned (.tuple #[.agg (ckC d).toArray, .int .i64 E])) := by
      show _ = _
      have h1 : E = e3 := by rw [HE.out]; rw [if_pos HHe1.out, if_pos HHe2.out]; rw [if_neg he3]
      have h2 : d = ckZ := by rw [HD.out, if_neg (by rw [h1]; exact he3)]
      rw [h1, h2]; rfl
    clear he3
    have o0 := R.out.row.cell 0 rfl
    have f0 := R.out.row.frozen 0 rfl
    have o1 := R.out.row.cell 1 rfl
    have f1 := R.out.row.frozen 1 rfl
    have o2 := R.out.row.cell 2 rfl
    have f2 := R.out.row.frozen 2 rfl
    have o3 := R.out.row.cell 3 rfl
    have f3 := R.out.row.frozen 3 rfl
    have o4 := R.out.row.cell 4 rfl
    have f4 := R.out.row.frozen 4 rfl
    have o5 := R.out.row.cell 5 rfl
    have f5 := R.out.row.frozen 5 rfl
    have o6 := R.out.row.cell 6 rfl
    have f6 := R.out.row.frozen 6 rfl
    have o7 := R.out.row.cell 7 rfl
    have f7 := R.out.row.frozen 7 rfl
    have o8 := R.out.row.cell 8 rfl
    have f8 := R.out.row.frozen 8 rfl
    have o9 := R.out.row.cell 9 rfl
    have f9 := R.out.row.frozen 9 rfl
    have o10 := R.out.row.cell 10 rfl
    have f10 := R.out.row.frozen 10 rfl
    have o11 := R.out.row.cell 11 rfl
    have f11 := R.out.row.frozen 11 rfl
    have o12 := R.out.row.cell 12 rfl
    have f12 := R.out.row.frozen 12 rfl
    go_wp2_with fail
    generalize hW2 : World.setCell _ _ _ = W2
    have HP : Hid (LRow W2 (w.heap.size + 1 + 1 + 1) (ckC ckZ)) := by
      rw [← hW2]
      exact ((((((((((((R.out.row.set 0 _).set 1 _).set 2 _).set 3 _).set 4 _).set 5 _).set 6 _).set 7 _).set 8 _).set 9 _).set 10 _).set 11 _).set 12 _
    have HB2 : Hid (Below w.heap.size w W2) := by
      rw [← hW2]
      iterate 13 refine Below.setCell ?_ (show w.heap.size ≤ w.heap.size + 1 + 1 + 1 by omega) _
      exact S.out
    clear hW2 o0 f0 o1 f1 o2 f2 o3 f3 o4 f4 o5 f5 o6 f6 o7 f7 o8 f8 o9 f9 o10 f10 o11 f11 o12 f12 
    have p0 := HP.out.cell 0 rfl
    have p1 := HP.out.cell 1 rfl
    have p2 := HP.out.cell 2 rfl
    have p3 := HP.out.cell 3 rfl
    have p4 := HP.out.cell 4 rfl
    have p5 := HP.out.cell 5 rfl
    have p6 := HP.out.cell 6 rfl
    have p7 := HP.out.cell 7 rfl
    have p8 := HP.out.cell 8 rfl
    have p9 := HP.out.cell 9 rfl
    have p10 := HP.out.cell 10 rfl
    have p11 := HP.out.cell 11 rfl
    have p12 := HP.out.cell 12 rfl
    exact bodyPost_ret (v := .tuple #[.agg #[.string ⟨#[]⟩, .string ⟨#[]⟩, .string ⟨#[]⟩, .string ⟨#[]⟩, .bool false, .bool false, .bool false, .bool false, .int .i64 0, .int .i64 0, .int .i64 0, .int .i64 0, .int .i64 0], .int .i64 e3]) (by simp [results, Try.results8, go_sem, ckZ, txt_nil, p0, p1, p2, p3, p4, p5, p6, p7, p8, p9, p10, p11, p12]) rfl ⟨HRET.out, HB2.out⟩
  have qe3 : (e3 != 0) = false := by rw [he3]; rfl
  have HHe3 : Hid (e3 = 0) := he3
  clear he3
  have x0 := P.out.row.cell 0 rfl
  have x1 := P.out.row.cell 1 rfl
  have x2 := P.out.row.cell 2 rfl
  have x3 := P.out.row.cell 3 rfl
  have x4 := P.out.row.cell 4 rfl
  have x5 := P.out.row.cell 5 rfl
  have x6 := P.out.row.cell 6 rfl
  have x7 := P.out.row.cell 7 rfl
  have x8 := P.out.row.cell 8 rfl
  have x9 := P.out.row.cell 9 rfl
  have x10 := P.out.row.cell 10 rfl
  have x11 := P.out.row.cell 11 rfl
  have x12 := P.out.row.cell 12 rfl
  have y0 := G.out.row.cell 0 rfl
  have y1 := G.out.row.cell 1 rfl
  have y2 := G.out.row.cell 2 rfl
  have y3 := G.out.row.cell 3 rfl
  have y4 := G.out.row.cell 4 rfl
  have y5 := G.out.row.cell 5 rfl
  have y6 := G.out.row.cell 6 rfl
  have y7 := G.out.row.cell 7 rfl
  have y8 := G.out.row.cell 8 rfl
  have y9 := G.out.row.cell 9 rfl
  have y10 := G.out.row.cell 10 rfl
  have y11 := G.out.row.cell 11 rfl
  have z0 := C.out.row.cell 0 rfl
  have z1 := C.out.row.cell 1 rfl
  have z2 := C.out.row.cell 2 rfl
  have z3 := C.out.row.cell 3 rfl
  have z4 := C.out.row.cell 4 rfl
  have z5 := C.out.row.cell 5 rfl
  have z6 := C.out.row.cell 6 rfl
  have z7 := C.out.row.cell 7 rfl
  have z8 := C.out.row.cell 8 rfl
  have z9 := C.out.row.cell 9 rfl
  have z10 := C.out.row.cell 10 rfl
  have z11 := C.out.row.cell 11 rfl
  have z12 := C.out.row.cell 12 rfl
  go_wp2_with fail
  refine (KL.out _ P.out.rows G.out.rows).mono ?_
  rintro e Wn4 ⟨rfl, hb4⟩
  clear x0 x1 x2 x3 x4 x5 x6 x7 x8 x9 x10 x11 x12 y0 y1 y2 y3 y4 y5 y6 y7 y8 y9 y10 y11 z0 z1 z2 z3 z4 z5 z6 z7 z8 z9 z10 z11 z12
  replace P : Hid (PB Wn4 w.heap.size p pv) := P.out.below hb4
  replace G : Hid (CB Wn4 (w.heap.size + 1) g gv) := G.out.below hb4
  replace C : Hid (KB Wn4 (w.heap.size + 1 + 1) c) := C.out.below hb4
  replace R : Hid (KB Wn4 (w.heap.size + 1 + 1 + 1) ckZ) := R.out.below hb4
  replace D : Hid (KB Wn4 v3.heap.size k) := D.out.below hb4
  replace S : Hid (Below w.heap.size w Wn4) := next S.out hb4
  clear hb4
  cases q4
  · have HRET : Hid (Ending.returned (.tuple #[.agg #[.string ⟨#[]⟩, .string ⟨#[]⟩, .string ⟨#[]⟩, .string ⟨#[]⟩, .bool false, .bool false, .bool false, .bool false, .int .i64 0, .int .i64 0, .int .i64 0, .int .i64 0, .int .i64 0], .int .i64 8]) = Ending.returned (.tuple #[.agg (ckC d).toArray, .int .i64 E])) := by
      show _ = _
      have h1 : E = 8 := by rw [HE.out, if_pos HHe1.out, if_pos HHe2.out, if_pos HHe3.out]; rfl
      have h2 : d = ckZ := by rw [HD.out, if_neg (by rw [h1]; decide)]
      rw [h1, h2]; rfl
    have o0 := R.out.row.cell 0 rfl
    have f0 := R.out.row.frozen 0 rfl
    have o1 := R.out.row.cell 1 rfl
    have f1 := R.out.row.frozen 1 rfl
    have o2 := R.out.row.cell 2 rfl
    have f2 := R.out.row.frozen 2 rfl
    have o3 := R.out.row.cell 3 rfl
    have f3 := R.out.row.frozen 3 rfl
    have o4 := R.out.row.cell 4 rfl
    have f4 := R.out.row.frozen 4 rfl
    have o5 := R.out.row.cell 5 rfl
    have f5 := R.out.row.frozen 5 rfl
    have o6 := R.out.row.cell 6 rfl
    have f6 := R.out.row.frozen 6 rfl
    have o7 := R.out.row.cell 7 rfl
    have f7 := R.out.row.frozen 7 rfl
    have o8 := R.out.row.cell 8 rfl
    have f8 := R.out.row.frozen 8 rfl
    have o9 := R.out.row.cell 9 rfl
    have f9 := R.out.row.frozen 9 rfl
    have o10 := R.out.row.cell 10 rfl
    have f10 := R.out.row.frozen 10 rfl
    have o11 := R.out.row.cell 11 rfl
    have f11 := R.out.row.frozen 11 rfl
    have o12 := R.out.row.cell 12 rfl
    have f12 := R.out.row.frozen 12 rfl
    go_wp2_with fail
    generalize hW2 : World.setCell _ _ _ = W2
    have HP : Hid (LRow W2 (w.heap.size + 1 + 1 + 1) (ckC ckZ)) := by
      rw [← hW2]
      exact ((((((((((((R.out.row.set 0 _).set 1 _).set 2 _).set 3 _).set 4 _).set 5 _).set 6 _).set 7 _).set 8 _).set 9 _).set 10 _).set 11 _).set 12 _
    have HB2 : Hid (Below w.heap.size w W2) := by
      rw [← hW2]
      iterate 13 refine Below.setCell ?_ (show w.heap.size ≤ w.heap.size + 1 + 1 + 1 by omega) _
      exact S.out
    clear hW2 o0 f0 o1 f1 o2 f2 o3 f3 o4 f4 o5 f5 o6 f6 o7 f7 o8 f8 o9 f9 o10 f10 o11 f11 o12 f12 
    have p0 := HP.out.cell 0 rfl
    have p1 := HP.out.cell 1 rfl
    have p2 := HP.out.cell 2 rfl
    have p3 := HP.out.cell 3 rfl
    have p4 := HP.out.cell 4 rfl
    have p5 := HP.out.cell 5 rfl
    have p6 := HP.out.cell 6 rfl
    have p7 := HP.out.cell 7 rfl
    have p8 := HP.out.cell 8 rfl
    have p9 := HP.out.cell 9 rfl
    have p10 := HP.out.cell 10 rfl
    have p11 := HP.out.cell 11 rfl
    have p12 := HP.out.cell 12 rfl
    exact bodyPost_ret (v := .tuple #[.agg #[.string ⟨#[]⟩, .string ⟨#[]⟩, .string ⟨#[]⟩, .string ⟨#[]⟩, .bool false, .bool false, .bool false, .bool false, .int .i64 0, .int .i64 0, .int .i64 0, .int .i64 0, .int .i64 0], .int .i64 8]) (by simp [results, Try.results8, go_sem, ckZ, txt_nil, p0, p1, p2, p3, p4, p5, p6, p7, p8, p9, p10, p11, p12]) rfl ⟨HRET.out, HB2.out⟩
  · have HRET : Hid (Ending.returned (.tuple #[.agg #[.string (txt k.name), .string (txt k.value), .string (txt k.domain), .string (txt k.path), .bool k.hostOnly, .bool k.secure, .bool k.httpOnly, .bool k.lasting, .int .i64 k.site, .int .i64 k.expiry, .int .i64 k.created, .int .i64 k.used, .int .i64 k.no], .int .i64 0]) = Ending.returned (.tuple #[.agg (ckC d).toArray, .int .i64 E])) := by
      show _ = _
      have h1 : E = 0 := by rw [HE.out, if_pos HHe1.out, if_pos HHe2.out, if_pos HHe3.out]; rfl
      have h2 : d = k := by rw [HD.out, if_pos h1]
      rw [h1, h2]; rfl
    have x0 := D.out.row.cell 0 rfl
    have x1 := D.out.row.cell 1 rfl
    have x2 := D.out.row.cell 2 rfl
    have x3 := D.out.row.cell 3 rfl
    have x4 := D.out.row.cell 4 rfl
    have x5 := D.out.row.cell 5 rfl
    have x6 := D.out.row.cell 6 rfl
    have x7 := D.out.row.cell 7 rfl
    have x8 := D.out.row.cell 8 rfl
    have x9 := D.out.row.cell 9 rfl
    have x10 := D.out.row.cell 10 rfl
    have x11 := D.out.row.cell 11 rfl
    have x12 := D.out.row.cell 12 rfl
    have o0 := R.out.row.cell 0 rfl
    have f0 := R.out.row.frozen 0 rfl
    have o1 := R.out.row.cell 1 rfl
    have f1 := R.out.row.frozen 1 rfl
    have o2 := R.out.row.cell 2 rfl
    have f2 := R.out.row.frozen 2 rfl
    have o3 := R.out.row.cell 3 rfl
    have f3 := R.out.row.frozen 3 rfl
    have o4 := R.out.row.cell 4 rfl
    have f4 := R.out.row.frozen 4 rfl
    have o5 := R.out.row.cell 5 rfl
    have f5 := R.out.row.frozen 5 rfl
    have o6 := R.out.row.cell 6 rfl
    have f6 := R.out.row.frozen 6 rfl
    have o7 := R.out.row.cell 7 rfl
    have f7 := R.out.row.frozen 7 rfl
    have o8 := R.out.row.cell 8 rfl
    have f8 := R.out.row.frozen 8 rfl
    have o9 := R.out.row.cell 9 rfl
    have f9 := R.out.row.frozen 9 rfl
    have o10 := R.out.row.cell 10 rfl
    have f10 := R.out.row.frozen 10 rfl
    have o11 := R.out.row.cell 11 rfl
    have f11 := R.out.row.frozen 11 rfl
    have o12 := R.out.row.cell 12 rfl
    have f12 := R.out.row.frozen 12 rfl
    go_wp2_with fail
    generalize hW2 : World.setCell _ _ _ = W2
    have HP : Hid (LRow W2 (w.heap.size + 1 + 1 + 1) (ckC k)) := by
      rw [← hW2]
      exact ((((((((((((R.out.row.set 0 _).set 1 _).set 2 _).set 3 _).set 4 _).set 5 _).set 6 _).set 7 _).set 8 _).set 9 _).set 10 _).set 11 _).set 12 _
    have HB2 : Hid (Below w.heap.size w W2) := by
      rw [← hW2]
      iterate 13 refine Below.setCell ?_ (show w.heap.size ≤ w.heap.size + 1 + 1 + 1 by omega) _
      exact S.out
    clear hW2 o0 f0 o1 f1 o2 f2 o3 f3 o4 f4 o5 f5 o6 f6 o7 f7 o8 f8 o9 f9 o10 f10 o11 f11 o12 f12 x0 x1 x2 x3 x4 x5 x6 x7 x8 x9 x10 x11 x12
    have p0 := HP.out.cell 0 rfl
    have p1 := HP.out.cell 1 rfl
    have p2 := HP.out.cell 2 rfl
    have p3 := HP.out.cell 3 rfl
    have p4 := HP.out.cell 4 rfl
    have p5 := HP.out.cell 5 rfl
    have p6 := HP.out.cell 6 rfl
    have p7 := HP.out.cell 7 rfl
    have p8 := HP.out.cell 8 rfl
    have p9 := HP.out.cell 9 rfl
    have p10 := HP.out.cell 10 rfl
    have p11 := HP.out.cell 11 rfl
    have p12 := HP.out.cell 12 rfl
    exact bodyPost_ret (v := .tuple #[.agg #[.string (txt k.name), .string (txt k.value), .string (txt k.domain), .string (txt k.path), .bool k.hostOnly, .bool k.secure, .bool k.httpOnly, .bool k.lasting, .int .i64 k.site, .int .i64 k.expiry, .int .i64 k.created, .int .i64 k.used, .int .i64 k.no], .int .i64 0]) (by simp [results, Try.results8, go_sem, ckZ, p0, p1, p2, p3, p4, p5, p6, p7, p8, p9, p10, p11, p12]) rfl ⟨HRET.out, HB2.out⟩
end Go.Proofs.Ytcfdajaideidkaa
namespace Go.Proofs.Ytcfdajaideidkaa
open Go.RowKit
set_option linter.all false
set_option maxRecDepth 100000
set_option maxRecDepth 100000

/-- what a cookie is kept as, and a list -/
def keep1 (p : Po) (g : Cn) (now : Int) (c : Ck) : Option Ck := if gateE p g c = 0 ∧ liveB (gateC p g c) now = true then some (gateC p g c) else none
def keepL (p : Po) (g : Cn) (now : Int) (l : List Ck) : List Ck := l.filterMap (keep1 p g now)
theorem keepL_len (p : Po) (g : Cn) (now : Int) (l : List Ck) : (keepL p g now l).length ≤ l.length := List.length_filterMap_le _ _
def purJ (j : Ja) (p : Po) (g : Cn) (now : Int) : Ja := if chPu j p g now = 0 then ⟨keepL p g now j.cks, j.next⟩ else ⟨[], 0⟩
def purN (j : Ja) (p : Po) (g : Cn) (now : Int) : Int := if chPu j p g now = 0 then (j.cks.length : Int) - ((keepL p g now j.cks).length : Int) else 0
theorem chJ_len {j : Ja} (h : chJ j = 0) : j.cks.length ≤ 12 := by
  unfold chJ at h
  split at h
  · cases h
  · omega
theorem chPu_jar {j : Ja} {p : Po} {g : Cn} {now : Int} (h : chPu j p g now = 0) : chJ j = 0 := by
  unfold chPu at h
  split at h
  · assumption
  · exact h
set_option maxHeartbeats 16000000 in
theorem purge_any (j : Ja) (jv : Value) (p : Po) (pv : Value) (g : Cn) (gv : Value) (now : Int) (w : World) (rj : Rows w jv ckC j.cks) (oj : JaOk 140737488351232 j) (rp : Rows w pv ruC p.rules) (op : PoOk 140737488351232 p) (rg : Rows w gv intF g.vs) (og : CnOk g) :
    Calls Try.prog 7 #[.agg #[jv, .int .i64 j.next], .agg #[pv, .int .i64 p.dflt, .int .i64 p.c0, .int .i64 p.c1, .int .i64 p.c2, .int .i64 p.c3, .int .i64 p.c4, .int .i64 p.c5, .int .i64 p.c6, .int .i64 p.c7, .int .i64 p.c8, .int .i64 p.c9, .int .i64 p.c10], .agg #[.int .i64 g.g, .bool g.b0, .bool g.b1, .bool g.b2, .bool g.b3, .bool g.b4, .bool g.b5, .bool g.b6, .bool g.b7, .bool g.b8, .bool g.b9, gv], .int .i64 now] w fun e w' => ∃ v', e = .returned (.tuple #[.agg #[v', .int .i64 (purJ j p g now).next], .int .i64 (purN j p g now), .int .i64 (chPu j p g now)]) ∧ w'.ownsRow w.heap.size 34 13 v' (purJ j p g now).cks.length ((purJ j p g now).cks.flatMap ckC) ∧ Below w.heap.size w w' := by
  obtain ⟨ad, cap, rfl⟩ := rj.shape
  obtain ⟨E, hE⟩ : ∃ e, e = chPu j p g now := ⟨_, rfl⟩
  obtain ⟨OJ, hOJ⟩ : ∃ e, e = purJ j p g now := ⟨_, rfl⟩
  obtain ⟨ON, hON⟩ : ∃ e, e = purN j p g now := ⟨_, rfl⟩
  obtain ⟨l, hl⟩ : ∃ l, l = j.cks := ⟨_, rfl⟩
  obtain ⟨n, hn⟩ : ∃ n, n = l.length := ⟨_, rfl⟩
  rw [← hE, ← hOJ, ← hON]
  have hn' : n = j.cks.length := by rw [hn, hl]
  rw [← hn'] at rj ⊢
  have HN : Hid (n = l.length) := hn
  have HOJ : Hid (OJ = if E = 0 then ⟨keepL p g now l, j.next⟩ else ⟨[], 0⟩) := by show _ = _; rw [hOJ, hE, hl]; rfl
  have HON : Hid (ON = if E = 0 then (l.length : Int) - ((keepL p g now l).length : Int) else 0) := by show _ = _; rw [hON, hE, hl]; rfl
  have HN12 : Hid (E = 0 → n ≤ 12) := fun h => by rw [hn']; exact chJ_len (chPu_jar (by rw [← hE]; exact h))
  have HR : Hid (Rows w (.slice ad n cap) ckC l) := by rw [hl]; exact rj
  have HRP : Hid (Rows w pv ruC p.rules) := rp
  have HRG : Hid (Rows w gv intF g.vs) := rg
  have HOP : Hid (PoOk 140737488351232 p) := op
  have HOG : Hid (CnOk g) := og
  have HCK : Hid (∀ c ∈ l, CkOk 140737488351232 c) := by rw [hl]; exact oj.cks
  have KK : Hid (∀ w', Rows w' (.slice ad n cap) ckC j.cks → Rows w' pv ruC p.rules → Rows w' gv intF g.vs → Calls Try.prog 21 #[.agg #[(.slice ad n cap), .int .i64 j.next], .agg #[pv, .int .i64 p.dflt, .int .i64 p.c0, .int .i64 p.c1, .int .i64 p.c2, .int .i64 p.c3, .int .i64 p.c4, .int .i64 p.c5, .int .i64 p.c6, .int .i64 p.c7, .int .i64 p.c8, .int .i64 p.c9, .int .i64 p.c10], .agg #[.int .i64 g.g, .bool g.b0, .bool g.b1, .bool g.b2, .bool g.b3, .bool g.b4, .bool g.b5, .bool g.b6, .bool g.b7, .bool g.b8, .bool g.b9, gv], .int .i64 now] w' fun e w'' => e = .returned (.int .i64 E) ∧ Below w'.heap.size w' w'') := fun w' r1 r2 r3 => by rw [hE]; exact pcheck_any j _ p pv g gv now w' r1 oj r2 op r3 og
  obtain ⟨i0, hi, hz0, hz1, hz2⟩ := infoCk
  obtain ⟨W0, hW0⟩ : ∃ W0, W0 = ((((w.alloc (.cells #[(.slice ad n cap), .int .i64 j.next] 24)).alloc (.cells #[pv, .int .i64 p.dflt, .int .i64 p.c0, .int .i64 p.c1, .int .i64 p.c2, .int .i64 p.c3, .int .i64 p.c4, .int .i64 p.c5, .int .i64 p.c6, .int .i64 p.c7, .int .i64 p.c8, .int .i64 p.c9, .int .i64 p.c10] 28)).alloc (.cells #[.int .i64 g.g, .bool g.b0, .bool g.b1, .bool g.b2, .bool g.b3, .bool g.b4, .bool g.b5, .bool g.b6, .bool g.b7, .bool g.b8, .bool g.b9, gv] 32)).alloc (.cells #[.slice none 0 0, .int .i64 0] 24)) := ⟨_, rfl⟩
  have J : Hid (JB W0 w.heap.size j (.slice ad n cap)) := by
    rw [hW0]
    have h := JB.new w j (.slice ad n cap) 24 rj
    exact (((h.below (below_new _ _)).below (below_new _ _)).below (below_new _ _))
  have P : Hid (PB W0 (w.heap.size + 1) p pv) := by
    rw [hW0]
    have h := PB.new (w.alloc (.cells #[(.slice ad n cap), .int .i64 j.next] 24)) p pv 28 (Rows.below rp (below_new _ _) (Nat.le_refl _))
    rw [show (w.alloc (.cells #[(.slice ad n cap), .int .i64 j.next] 24)).heap.size = w.heap.size + 1 from by simp] at h
    exact ((h.below (below_new _ _)).below (below_new _ _))
  have G : Hid (CB W0 (w.heap.size + 1 + 1) g gv) := by
    rw [hW0]
    have h := CB.new ((w.alloc (.cells #[(.slice ad n cap), .int .i64 j.next] 24)).alloc (.cells #[pv, .int .i64 p.dflt, .int .i64 p.c0, .int .i64 p.c1, .int .i64 p.c2, .int .i64 p.c3, .int .i64 p.c4, .int .i64 p.c5, .int .i64 p.c6, .int .i64 p.c7, .int .i64 p.c8, .int .i64 p.c9, .int .i64 p.c10] 28)) g gv 32 (Rows.below (Rows.below rg (below_new _ _) (Nat.le_refl _)) (below_new _ _) (Nat.le_refl _))
    rw [show ((w.alloc (.cells #[(.slice ad n cap), .int .i64 j.next] 24)).alloc (.cells #[pv, .int .i64 p.dflt, .int .i64 p.c0, .int .i64 p.c1, .int .i64 p.c2, .int .i64 p.c3, .int .i64 p.c4, .int .i64 p.c5, .int .i64 p.c6, .int .i64 p.c7, .int .i64 p.c8, .int .i64 p.c9, .int .i64 p.c10] 28)).heap.size = w.heap.size + 1 + 1 from by simp] at h
    exact (h.below (below_new _ _))
  have R : Hid (QB W0 (w.heap.size + 1 + 1 + 1) [.slice none 0 0, .int .i64 0]) := by
    rw [hW0]
    have h := QB.new (((w.alloc (.cells #[(.slice ad n cap), .int .i64 j.next] 24)).alloc (.cells #[pv, .int .i64 p.dflt, .int .i64 p.c0, .int .i64 p.c1, .int .i64 p.c2, .int .i64 p.c3, .int .i64 p.c4, .int .i64 p.c5, .int .i64 p.c6, .int .i64 p.c7, .int .i64 p.c8, .int .i64 p.c9, .int .i64 p.c10] 28)).alloc (.cells #[.int .i64 g.g, .bool g.b0, .bool g.b1, .bool g.b2, .bool g.b3, .bool g.b4, .bool g.b5, .bool g.b6, .bool g.b7, .bool g.b8, .bool g.b9, gv] 32)) [.slice none 0 0, .int .i64 0] 24
    rw [show (((w.alloc (.cells #[(.slice ad n cap), .int .i64 j.next] 24)).alloc (.cells #[pv, .int .i64 p.dflt, .int .i64 p.c0, .int .i64 p.c1, .int .i64 p.c2, .int .i64 p.c3, .int .i64 p.c4, .int .i64 p.c5, .int .i64 p.c6, .int .i64 p.c7, .int .i64 p.c8, .int .i64 p.c9, .int .i64 p.c10] 28)).alloc (.cells #[.int .i64 g.g, .bool g.b0, .bool g.b1, .bool g.b2, .bool g.b3, .bool g.b4, .bool g.b5, .bool g.b6, .bool g.b7, .bool g.b8, .bool g.b9, gv] 32)).heap.size = w.heap.size + 1 + 1 + 1 from by simp] at h
    exact h
  have S : Hid (Below w.heap.size w W0) := by rw [hW0]; exact next (next (next (below_new _ _) (below_new _ _)) (below_new _ _)) (below_new _ _)
  have HW0 : Hid _ := hW0
  clear rj oj rp op rg og hE hOJ hON hl hn hn' hW0
  go_enter Try.func7, Try.ntmps7
  go_upto_region 1 with fail
  rw [← HW0.out]
  clear HW0
  have x0 := J.out.row.cell 0 rfl
  have x1 := J.out.row.cell 1 rfl
  have y0 := P.out.row.cell 0 rfl
  have y1 := P.out.row.cell 1 rfl
  have y2 := P.out.row.cell 2 rfl
  have y3 := P.out.row.cell 3 rfl
  have y4 := P.out.row.cell 4 rfl
  have y5 := P.out.row.cell 5 rfl
  have y6 := P.out.row.cell 6 rfl
  have y7 := P.out.row.cell 7 rfl
  have y8 := P.out.row.cell 8 rfl
  have y9 := P.out.row.cell 9 rfl
  have y10 := P.out.row.cell 10 rfl
  have y11 := P.out.row.cell 11 rfl
  have y12 := P.out.row.cell 12 rfl
  have z0 := G.out.row.cell 0 rfl
  have z1 := G.out.row.cell 1 rfl
  have z2 := G.out.row.cell 2 rfl
  have z3 := G.out.row.cell 3 rfl
  have z4 := G.out.row.cell 4 rfl
  have z5 := G.out.row.cell 5 rfl
  have z6 := G.out.row.cell 6 rfl
  have z7 := G.out.row.cell 7 rfl
  have z8 := G.out.row.cell 8 rfl
  have z9 := G.out.row.cell 9 rfl
  have z10 := G.out.row.cell 10 rfl
  have z11 := G.out.row.cell 11 rfl
  go_wp2_with fail
  refine (KK.out _ J.out.rows P.out.rows G.out.rows).mono ?_
  rintro e Wn1 ⟨rfl, hb1⟩
  clear x0 x1 y0 y1 y2 y3 y4 y5 y6 y7 y8 y9 y10 y11 y12 z0 z1 z2 z3 z4 z5 z6 z7 z8 z9 z10 z11
  replace J : Hid (JB Wn1 w.heap.size j (.slice ad n cap)) := J.out.below hb1
  replace P : Hid (PB Wn1 (w.heap.size + 1) p pv) := P.out.below hb1
  replace G : Hid (CB Wn1 (w.heap.size + 1 + 1) g gv) := G.out.below hb1
  replace R : Hid (QB Wn1 (w.heap.size + 1 + 1 + 1) [.slice none 0 0, .int .i64 0]) := R.out.below hb1
  replace S : Hid (Below w.heap.size w Wn1) := next S.out hb1
  clear hb1
  by_cases he0 : E = 0
  rotate_left
  · have q : (E != 0) = true := by rw [bne_iff_ne]; exact he0
    have HX1 : Hid (OJ = ⟨[], 0⟩ ∧ ON = 0) := by show _ ∧ _; rw [HOJ.out, HON.out, if_neg he0, if_neg he0]; exact ⟨rfl, rfl⟩
    have RR := R.out.row
    have HRR : Hid _ := RR
    have o0 := RR.cell 0 rfl
    have f0 := RR.frozen 0 rfl
    have o1 := RR.cell 1 rfl
    have f1 := RR.frozen 1 rfl
    clear he0 RR
    go_wp2_with fail
    rename Hid (LRow _ _ _) => RR
    generalize hW2 : World.setCell _ _ _ = W2
    have HP : Hid (LRow W2 (w.heap.size + 1 + 1 + 1) [.slice none 0 0, .int .i64 0]) := by
      rw [← hW2]
      exact (RR.out.set 0 _).set 1 _
    have HB2 : Hid (Below w.heap.size w W2) := by
      rw [← hW2]
      iterate 2 refine Below.setCell ?_ (show w.heap.size ≤ w.heap.size + 1 + 1 + 1 by omega) _
      exact S.out
    clear hW2 o0 f0 o1 f1
    have p0 := HP.out.cell 0 rfl
    have p1 := HP.out.cell 1 rfl
    exact bodyPost_ret (v := .tuple #[.agg #[.slice none 0 0, .int .i64 0], .int .i64 0, .int .i64 E]) (by simp [results, Try.results7, go_sem, p0, p1]) rfl ⟨.slice none 0 0, by rw [HX1.out.1, HX1.out.2], by rw [HX1.out.1]; exact World.ownsRow_nil _ _ _ _, HB2.out⟩
  have q : (E != 0) = false := by rw [he0]; rfl
  have HX1 : Hid (OJ = ⟨keepL p g now l, j.next⟩ ∧ ON = (n : Int) - ((keepL p g now l).length : Int)) := by show _ ∧ _; rw [HOJ.out, HON.out, if_pos he0, if_pos he0, HN.out]; exact ⟨rfl, rfl⟩
  have hn12 : n ≤ 12 := HN12.out he0
  have HE0 : Hid (E = 0) := he0
  clear he0
  have x0 := J.out.row.cell 0 rfl
  have x1 := J.out.row.cell 1 rfl
  obtain ⟨W1, hW1⟩ : ∃ W1, W1 = Wn1.alloc (.cells #[.slice none 0 0, .int .i64 j.next] 24) := ⟨_, rfl⟩
  obtain ⟨O, hO⟩ : ∃ O, O = Wn1.heap.size := ⟨_, rfl⟩
  have hc1 : Below Wn1.heap.size Wn1 W1 := by rw [hW1]; exact below_new _ _
  have HS1 : Hid (W1.heap.size = O + 1) := by show _ = _; rw [hW1, hO]; simp
  have U : Hid (QB W1 O [.slice none 0 0, .int .i64 j.next]) := by rw [hW1, hO]; exact QB.new Wn1 [.slice none 0 0, .int .i64 j.next] 24
  have HOw : Hid (w.heap.size + 4 ≤ O) := by have h1 := R.out.lt; show _ ≤ _; rw [hO]; omega
  have HW1 : Hid _ := hW1
  have HO : Hid _ := hO
  clear hW1
  replace J : Hid (JB W1 w.heap.size j (.slice ad n cap)) := J.out.below hc1
  replace P : Hid (PB W1 (w.heap.size + 1) p pv) := P.out.below hc1
  replace G : Hid (CB W1 (w.heap.size + 1 + 1) g gv) := G.out.below hc1
  replace R : Hid (QB W1 (w.heap.size + 1 + 1 + 1) [.slice none 0 0, .int .i64 0]) := R.out.below hc1
  replace S : Hid (Below w.heap.size w W1) := next S.out hc1
  go_upto_region 5 with fail
  rw [← HW1.out, ← HO.out]
  clear HW1 HO hO hc1 x0 x1
  have x0 := J.out.row.cell 0 rfl
  go_wp2_with fail
  clear x0
  go_loopw [32] (fun i wr => ∃ (k : Nat) (vv : Value), k ≤ n ∧ i = .int .i64 (k : Int) ∧ Hid (LRow wr O [vv, .int .i64 j.next]) ∧ wr.ownsRow W1.heap.size 34 13 vv ((keepL p g now (l.take k)).length) ((keepL p g now (l.take k)).flatMap ckC) ∧ Hid (W1.grownBy wr (some O))) (fun i _ => n - (intOf i).toNat)
  case atStart => exact ⟨0, .slice none 0 0, Nat.zero_le _, rfl, U.out.row, World.ownsRow_nil _ _ _ _, ⟨rfl, rfl, rfl, Nat.le_refl _, fun _ _ _ => rfl⟩⟩
  case round =>
    obtain ⟨k, vv, hk, rfl, hrow, hown, hg⟩ := hrel
    obtain ⟨sad, scap, rfl⟩ := g_slice hown
    have HSG : Hid (Below w.heap.size w wr) := S.out.grown hg.out S.out.size (fun q e => by injection e with e; have := HOw.out; omega)
    have HOL : Hid (O < wr.heap.size ∧ W1.heap.size ≤ wr.heap.size) := ⟨by have := hg.out.size; have := HS1.out; omega, hg.out.size⟩
    have Jr : Hid (LRow wr w.heap.size (jaL j (.slice ad n cap))) := row_grown J.out.row hg.out (by have := HS1.out; have := HOw.out; omega) (fun e => by injection e with e; have := HOw.out; omega)
    have Pr : Hid (PB wr (w.heap.size + 1) p pv) := ⟨row_grown P.out.row hg.out (by have := HS1.out; have := HOw.out; omega) (fun e => by injection e with e; have := HOw.out; omega), Rows.below HRP.out HSG.out (Nat.le_refl _)⟩
    have Gr : Hid (CB wr (w.heap.size + 1 + 1) g gv) := ⟨row_grown G.out.row hg.out (by have := HS1.out; have := HOw.out; omega) (fun e => by injection e with e; have := HOw.out; omega), Rows.below HRG.out HSG.out (Nat.le_refl _)⟩
    by_cases hlt : k < n
    · obtain ⟨c, e1⟩ : ∃ r, l[k]? = some r := ⟨_, List.getElem?_eq_getElem (by rw [← HN.out]; exact hlt)⟩
      obtain ⟨bl, ol, rfl, hbl, hcell⟩ := Rows.at HR.out rfl 12 (fun _ => rfl) k c e1
      have cc : ∀ i u, (ckC c)[i]? = some u → wr.cell? ⟨bl, ol + k * 13 + i, none⟩ = some u := fun i u h => (HSG.out.cell (p := ⟨bl, ol + k * 13 + i, none⟩) hbl).trans (hcell i u h)
      have c0 := cc 0 _ rfl
      have c1 := cc 1 _ rfl
      have c2 := cc 2 _ rfl
      have c3 := cc 3 _ rfl
      have c4 := cc 4 _ rfl
      have c5 := cc 5 _ rfl
      have c6 := cc 6 _ rfl
      have c7 := cc 7 _ rfl
      have c8 := cc 8 _ rfl
      have c9 := cc 9 _ rfl
      have c10 := cc 10 _ rfl
      have c11 := cc 11 _ rfl
      have c12 := cc 12 _ rfl
      rw [Nat.add_zero] at c0
      have HCO : Hid (CkOk 140737488351232 c) := HCK.out c (List.mem_of_getElem? e1)
      obtain ⟨E2, hE2⟩ : ∃ E2, E2 = gateE p g c := ⟨_, rfl⟩
      obtain ⟨d, hd⟩ : ∃ d, d = gateC p g c := ⟨_, rfl⟩
      obtain ⟨lv, hlv⟩ : ∃ q, q = liveB d now := ⟨_, rfl⟩
      obtain ⟨m, hm⟩ : ∃ m, m = (keepL p g now (l.take k)).length := ⟨_, rfl⟩
      have hm12 : m ≤ 12 := by rw [hm]; exact Nat.le_trans (keepL_len _ _ _ _) (by rw [List.length_take]; omega)
      have KGt : Hid (∀ w', Rows w' pv ruC p.rules → Rows w' gv intF g.vs → Calls Try.prog 8 #[.agg #[pv, .int .i64 p.dflt, .int .i64 p.c0, .int .i64 p.c1, .int .i64 p.c2, .int .i64 p.c3, .int .i64 p.c4, .int .i64 p.c5, .int .i64 p.c6, .int .i64 p.c7, .int .i64 p.c8, .int .i64 p.c9, .int .i64 p.c10], .agg #[.int .i64 g.g, .bool g.b0, .bool g.b1, .bool g.b2, .bool g.b3, .bool g.b4, .bool g.b5, .bool g.b6, .bool g.b7, .bool g.b8, .bool g.b9, gv], .agg #[.string (txt c.name), .string (txt c.value), .string (txt c.domain), .string (txt c.path), .bool c.hostOnly, .bool c.secure, .bool c.httpOnly, .bool c.lasting, .int .i64 c.site, .int .i64 c.expiry, .int .i64 c.created, .int .i64 c.used, .int .i64 c.no]] w' fun e w'' => e = .returned (.tuple #[.agg #[.string (txt d.name), .string (txt d.value), .string (txt d.domain), .string (txt d.path), .bool d.hostOnly, .bool d.secure, .bool d.httpOnly, .bool d.lasting, .int .i64 d.site, .int .i64 d.expiry, .int .i64 d.created, .int .i64 d.used, .int .i64 d.no], .int .i64 E2]) ∧ Below w'.heap.size w' w'') := fun w' r1 r2 => by rw [hd, hE2]; exact gate_any p pv g gv c w' r1 HOP.out r2 HOG.out HCO.out
      have KLv : Hid (∀ w', Calls Try.prog 16 #[.agg #[.string (txt d.name), .string (txt d.value), .string (txt d.domain), .string (txt d.path), .bool d.hostOnly, .bool d.secure, .bool d.httpOnly, .bool d.lasting, .int .i64 d.site, .int .i64 d.expiry, .int .i64 d.created, .int .i64 d.used, .int .i64 d.no], .int .i64 now] w' fun e w'' => e = .returned (.bool lv) ∧ Below w'.heap.size w' w'') := fun w' => by rw [hlv]; exact live_any d now w'
      have HT1 : Hid (E2 = 0 → lv = true → keepL p g now (l.take (k + 1)) = keepL p g now (l.take k) ++ [d]) := fun h1 h2 => by
        have h0 : keep1 p g now c = some d := by unfold keep1; rw [if_pos ⟨by rw [← hE2]; exact h1, by rw [← hd, ← hlv]; exact h2⟩, hd]
        rw [List.take_succ, e1]; unfold keepL; rw [List.filterMap_append]; simp [h0]
      have HT0 : Hid (¬ (E2 = 0 ∧ lv = true) → keepL p g now (l.take (k + 1)) = keepL p g now (l.take k)) := fun h1 => by
        have h0 : keep1 p g now c = none := by unfold keep1; rw [if_neg (by rw [← hE2, ← hd, ← hlv]; exact h1)]
        rw [List.take_succ, e1]; unfold keepL; rw [List.filterMap_append]; simp [h0]
      rw [← hm] at hown hrow
      have HM : Hid _ := hm
      obtain ⟨W2, hW2⟩ : ∃ W2, W2 = wr.alloc (.cells #[.string (txt c.name), .string (txt c.value), .string (txt c.domain), .string (txt c.path), .bool c.hostOnly, .bool c.secure, .bool c.httpOnly, .bool c.lasting, .int .i64 c.site, .int .i64 c.expiry, .int .i64 c.created, .int .i64 c.used, .int .i64 c.no] 34) := ⟨_, rfl⟩
      have hb2 : Below wr.heap.size wr W2 := by rw [hW2]; exact below_new _ _
      have C : Hid (KB W2 wr.heap.size c) := by rw [hW2]; exact KB.new wr c 34
      have P2 : Hid (PB W2 (w.heap.size + 1) p pv) := Pr.out.below hb2
      have G2 : Hid (CB W2 (w.heap.size + 1 + 1) g gv) := Gr.out.below hb2
      have own2 := own_below hown hb2 (Nat.le_refl _)
      have hrow2 : Hid (LRow W2 O [.slice sad m scap, .int .i64 j.next]) := hrow.out.below hb2 HOL.out.1
      have HG2 : Hid (W1.grownBy W2 (some O)) := g_below hg.out hb2
      have HOL2 : Hid (O < W2.heap.size ∧ W1.heap.size ≤ W2.heap.size) := ⟨Nat.lt_of_lt_of_le HOL.out.1 hb2.size, Nat.le_trans HOL.out.2 hb2.size⟩
      have HW2 : Hid _ := hW2
      clear e1 hcell hbl cc hE2 hd hlv hm hW2 hb2 hown
      go_upto_region 8 with fail
      rw [← HW2.out]
      clear HW2 c0 c1 c2 c3 c4 c5 c6 c7 c8 c9 c10 c11 c12
      have x0 := P2.out.row.cell 0 rfl
      have x1 := P2.out.row.cell 1 rfl
      have x2 := P2.out.row.cell 2 rfl
      have x3 := P2.out.row.cell 3 rfl
      have x4 := P2.out.row.cell 4 rfl
      have x5 := P2.out.row.cell 5 rfl
      have x6 := P2.out.row.cell 6 rfl
      have x7 := P2.out.row.cell 7 rfl
      have x8 := P2.out.row.cell 8 rfl
      have x9 := P2.out.row.cell 9 rfl
      have x10 := P2.out.row.cell 10 rfl
      have x11 := P2.out.row.cell 11 rfl
      have x12 := P2.out.row.cell 12 rfl
      have y0 := G2.out.row.cell 0 rfl
      have y1 := G2.out.row.cell 1 rfl
      have y2 := G2.out.row.cell 2 rfl
      have y3 := G2.out.row.cell 3 rfl
      have y4 := G2.out.row.cell 4 rfl
      have y5 := G2.out.row.cell 5 rfl
      have y6 := G2.out.row.cell 6 rfl
      have y7 := G2.out.row.cell 7 rfl
      have y8 := G2.out.row.cell 8 rfl
      have y9 := G2.out.row.cell 9 rfl
      have y10 := G2.out.row.cell 10 rfl
      have y11 := G2.out.row.cell 11 rfl
      have z0 := C.out.row.cell 0 rfl
      have z1 := C.out.row.cell 1 rfl
      have z2 := C.out.row.cell 2 rfl
      have z3 := C.out.row.cell 3 rfl
      have z4 := C.out.row.cell 4 rfl
      have z5 := C.out.row.cell 5 rfl
      have z6 := C.out.row.cell 6 rfl
      have z7 := C.out.row.cell 7 rfl
      have z8 := C.out.row.cell 8 rfl
      have z9 := C.out.row.cell 9 rfl
      have z10 := C.out.row.cell 10 rfl
      have z11 := C.out.row.cell 11 rfl
      have z12 := C.out.row.cell 12 rfl
      go_wp2_with fail
      refine (KGt.out _ P2.out.rows G2.out.rows).mono ?_
      rintro e w3 ⟨rfl, hb3⟩
      clear x0 z0 x1 z1 x2 z2 x3 z3 x4 z4 x5 z5 x6 z6 x7 z7 x8 z8 x9 z9 x10 z10 x11 z11 x12 z12 y0 y1 y2 y3 y4 y5 y6 y7 y8 y9 y10 y11
      obtain ⟨W3, hW3⟩ : ∃ W3, W3 = w3.alloc (.cells #[.string (txt d.name), .string (txt d.value), .string (txt d.domain), .string (txt d.path), .bool d.hostOnly, .bool d.secure, .bool d.httpOnly, .bool d.lasting, .int .i64 d.site, .int .i64 d.expiry, .int .i64 d.created, .int .i64 d.used, .int .i64 d.no] 34) := ⟨_, rfl⟩
      have hb4 : Below W2.heap.size W2 W3 := by rw [hW3]; exact next hb3 (below_new _ _)
      have D : Hid (KB W3 w3.heap.size d) := by rw [hW3]; exact KB.new w3 d 34
      have own3 := own_below own2 hb4 (Nat.le_refl _)
      have hrow3 : Hid (LRow W3 O [.slice sad m scap, .int .i64 j.next]) := hrow2.out.below hb4 HOL2.out.1
      have HG3 : Hid (W1.grownBy W3 (some O)) := g_below HG2.out hb4
      have HOL3 : Hid (O < W3.heap.size ∧ W1.heap.size ≤ W3.heap.size) := ⟨Nat.lt_of_lt_of_le HOL2.out.1 hb4.size, Nat.le_trans HOL2.out.2 hb4.size⟩
      have HW3 : Hid _ := hW3
      clear hb3 hb4 hW3 own2
      go_upto_region 9 with fail
      rw [← HW3.out]
      clear HW3
      by_cases hE : E2 = 0
      rotate_left
      · have qe : (E2 == 0) = false := by rw [beq_eq_false_iff_ne]; exact hE
        have HT : Hid _ := HT0.out (fun h => hE h.1)
        clear hE
        go_wp2_with fail
        go_roundw
        case rel => exact ⟨k + 1, _, by omega, by push_cast; rfl, hrow3, by rw [HT.out, ← HM.out]; exact own3, HG3⟩
        case measure => simp [intOf]; omega
      have qe : (E2 == 0) = true := by rw [hE]; rfl
      have HE2 : Hid (E2 = 0) := hE
      clear hE
      have x0 := D.out.row.cell 0 rfl
      have x1 := D.out.row.cell 1 rfl
      have x2 := D.out.row.cell 2 rfl
      have x3 := D.out.row.cell 3 rfl
      have x4 := D.out.row.cell 4 rfl
      have x5 := D.out.row.cell 5 rfl
      have x6 := D.out.row.cell 6 rfl
      have x7 := D.out.row.cell 7 rfl
      have x8 := D.out.row.cell 8 rfl
      have x9 := D.out.row.cell 9 rfl
      have x10 := D.out.row.cell 10 rfl
      have x11 := D.out.row.cell 11 rfl
      have x12 := D.out.row.cell 12 rfl
      go_wp2_with fail
      refine (KLv.out _).mono ?_
      rintro e W4 ⟨rfl, hb5⟩
      have D4 : Hid (KB W4 w3.heap.size d) := D.out.below hb5
      have own4 := own_below own3 hb5 (Nat.le_refl _)
      have hrow4 : Hid (LRow W4 O [.slice sad m scap, .int .i64 j.next]) := hrow3.out.below hb5 HOL3.out.1
      have HG4 : Hid (W1.grownBy W4 (some O)) := g_below HG3.out hb5
      have HOL4 : Hid (O < W4.heap.size ∧ W1.heap.size ≤ W4.heap.size) := ⟨Nat.lt_of_lt_of_le HOL3.out.1 hb5.size, Nat.le_trans HOL3.out.2 hb5.size⟩
      clear hb5 own3 x0 x1 x2 x3 x4 x5 x6 x7 x8 x9 x10 x11 x12
      cases lv
      · have HT : Hid _ := HT0.out (fun h => by cases h.2)
        go_wp2_with fail
        go_roundw
        case rel => exact ⟨k + 1, _, by omega, by push_cast; rfl, hrow4, by rw [HT.out, ← HM.out]; exact own4, HG4⟩
        case measure => simp [intOf]; omega
      · have HT : Hid _ := HT1.out HE2.out rfl
        have x0 := D4.out.row.cell 0 rfl
        have x1 := D4.out.row.cell 1 rfl
        have x2 := D4.out.row.cell 2 rfl
        have x3 := D4.out.row.cell 3 rfl
        have x4 := D4.out.row.cell 4 rfl
        have x5 := D4.out.row.cell 5 rfl
        have x6 := D4.out.row.cell 6 rfl
        have x7 := D4.out.row.cell 7 rfl
        have x8 := D4.out.row.cell 8 rfl
        have x9 := D4.out.row.cell 9 rfl
        have x10 := D4.out.row.cell 10 rfl
        have x11 := D4.out.row.cell 11 rfl
        have x12 := D4.out.row.cell 12 rfl
        have c11 := hrow4.out.cell 0 rfl
        go_wp2_with (at_builtin; refine wpList_append_own _ rfl _ _ 22 rfl W1.heap.size 34 i0 _ 13 112 Try.underlying22 hi hz0 hz1 hz2 rfl (by decide) _ _ _ rfl (own4.alloc _) ⟨W4.heap.size, 0, none⟩ 1 1 (ckC d) rfl rfl (cellL_new W4 _ (ckC d) _ rfl) (by simp [ckC, Value.oneCell']) ?c1 ?c2 ?c3 ?_)
        case c1 => unfold maxLen; omega
        case c2 => omega
        case c3 => have := HOL4.out; simp; omega
        intro v5 w5 hown5 hg5 _
        have nbk : ∀ q, (Value.slice sad m scap).ownBlock = some q → W1.heap.size ≤ q := fun q e => (own4.lt q e).1
        have HR5 : Hid (LRow w5 O [.slice sad m scap, .int .i64 j.next]) := row_grown (hrow4.out.below (below_new _ _) HOL4.out.1) hg5 (by have := HOL4.out; simp; omega) (fun e => by have := nbk O e.symm; have := HS1.out; omega)
        have HGG : Hid (W1.grownBy w5 (some O)) := g_grown (g_below HG4.out (below_new _ _)) hg5 nbk
        obtain ⟨sad5, scap5, rfl⟩ := g_slice hown5
        have c0' := HR5.out.cell 0 rfl
        have f0' := HR5.out.frozen 0 rfl
        have HR6 : Hid (LRow (w5.setCell ⟨O, 0, none⟩ (.slice sad5 (m + 1) scap5)) O [.slice sad5 (m + 1) scap5, .int .i64 j.next]) := HR5.out.set 0 _
        have HG6 : Hid (W1.grownBy (w5.setCell ⟨O, 0, none⟩ (.slice sad5 (m + 1) scap5)) (some O)) := g_set HGG.out 0 _
        have HO6 : Hid ((w5.setCell ⟨O, 0, none⟩ (.slice sad5 (m + 1) scap5)).ownsRow W1.heap.size 34 13 (.slice sad5 (m + 1) scap5) (m + 1) ((keepL p g now (l.take k)).flatMap ckC ++ ckC d)) := own_set' hown5 (by have := HS1.out; omega)
        clear c11 hown5 hg5 own4 HR5 HGG
        go_wp2_with fail
        go_roundw
        case rel =>
          refine ⟨k + 1, _, by omega, by push_cast; rfl, HR6, ?_, HG6⟩
          rw [HT.out, List.length_append, List.flatMap_append, ← HM.out]
          have := HO6.out
          simpa using this
        case measure => simp [intOf]; omega
    · obtain rfl : k = n := by omega
      have hall : l.take k = l := by rw [HN.out]; exact List.take_length
      rw [hall] at hown hrow
      obtain ⟨m, hm⟩ : ∃ m, m = (keepL p g now l).length := ⟨_, rfl⟩
      rw [← hm] at hown hrow
      have HM : Hid _ := hm
      have HOWN : Hid _ := hown
      have RR : Hid (LRow wr (w.heap.size + 1 + 1 + 1) [.slice none 0 0, .int .i64 0]) := row_grown R.out.row hg.out (by have := HS1.out; have := HOw.out; omega) (fun e => by injection e with e; have := HOw.out; omega)
      have hm12 : m ≤ 12 := by rw [hm]; exact Nat.le_trans (keepL_len _ _ _ _) (by rw [← HN.out]; exact hn12)
      clear hm hown
      have u0 := hrow.out.cell 0 rfl
      have u1 := hrow.out.cell 1 rfl
      have x0 := Jr.out.cell 0 rfl
      have o0 := RR.out.cell 0 rfl
      have f0 := RR.out.frozen 0 rfl
      have o1 := RR.out.cell 1 rfl
      have f1 := RR.out.frozen 1 rfl
      have hne1 : ¬ O = w.heap.size + 1 + 1 + 1 := by have := HOw.out; omega
      have hne2 : ¬ w.heap.size + 1 + 1 + 1 = O := by have := HOw.out; omega
      have hne3 : ¬ w.heap.size + 1 + 1 + 1 = w.heap.size := by omega
      have hne4 : ¬ w.heap.size = w.heap.size + 1 + 1 + 1 := by omega
      go_wp2_with fail
      go_region
      all_goals
        go_wp2_with fail
        generalize hW2 : World.drew _ = W2
        have HP : Hid (LRow W2 (w.heap.size + 1 + 1 + 1) [.slice sad m scap, .int .i64 j.next]) := by
          rw [← hW2]
          exact ⟨((RR.out.set 0 _).set 1 _).all⟩
        have HBr : Hid (Below w.heap.size w wr) := S.out.grown hg.out S.out.size (fun q e => by injection e with e; have := HOw.out; omega)
        have HB2 : Hid (Below w.heap.size w W2) := by
          rw [← hW2]
          refine Below.drew ?_
          iterate 2 refine Below.setCell ?_ (show w.heap.size ≤ w.heap.size + 1 + 1 + 1 by omega) _
          exact HBr.out
        have HOW2 : Hid (W2.ownsRow w.heap.size 34 13 (.slice sad m scap) m ((keepL p g now l).flatMap ckC)) := by
          have h6 : w.heap.size + 1 + 1 + 1 < W1.heap.size := by have := HOw.out; have := HS1.out; omega
          have hX : W2.ownsRow W1.heap.size 34 13 (.slice sad m scap) m ((keepL p g now l).flatMap ckC) := by
            rw [← hW2]
            show World.ownsRow (World.setCell _ _ _) _ _ _ _ _ _
            iterate 2 refine own_set' ?_ h6
            exact HOWN.out
          exact g_lower hX S.out.size
        clear hW2 o0 f0 o1 f1 u0 u1 x0
        have p0 := HP.out.cell 0 rfl
        have p1 := HP.out.cell 1 rfl
        exact bodyPost_ret (v := .tuple #[.agg #[.slice sad m scap, .int .i64 j.next], .int .i64 ((k : Int) - (m : Int)), .int .i64 0]) (by simp [results, Try.results7, go_sem, p0, p1]) rfl ⟨.slice sad m scap, by rw [HX1.out.1, HX1.out.2, HE0.out, HM.out], by rw [HX1.out.1]; show World.ownsRow _ _ _ _ _ _ _; rw [← HM.out]; exact HOW2.out, HB2.out⟩
end Go.Proofs.Ytcfdajaideidkaa
namespace Go.Proofs.Ytcfdajaideidkaa
open Go.RowKit
set_option linter.all false
set_option maxRecDepth 100000

/-! what is kept -/
def cut (p : Po) (c : Ck) : Ck := { c with expiry := min c.expiry (capN p c) }
theorem chPu_zero (j : Ja) (p : Po) (g : Cn) (now : Int) : chPu j p g now = 0 ↔ chJ j = 0 ∧ chP p = 0 ∧ chC g = 0 ∧ momB now = true := by
  unfold chPu
  by_cases h1 : chJ j = 0
  · rw [if_pos h1]
    by_cases h2 : chP p = 0
    · rw [if_pos h2]
      by_cases h3 : chC g = 0
      · rw [if_pos h3]
        cases h4 : momB now
        · simp
        · simp [h1, h2, h3]
      · rw [if_neg h3]; exact ⟨fun h => absurd h h3, fun h => absurd h.2.2.1 h3⟩
    · rw [if_neg h2]; exact ⟨fun h => absurd h h2, fun h => absurd h.2.1 h2⟩
  · rw [if_neg h1]; exact ⟨fun h => absurd h h1, fun h => absurd h.1 h1⟩
theorem capE_zero {p : Po} {c : Ck} (hp : chP p = 0) (hm : momB c.created = true) : capE p c = 0 := by unfold capE; rw [if_pos hp, if_pos hm]
theorem gate_yes {p : Po} {g : Cn} {c : Ck} (hp : chP p = 0) (hg : chC g = 0) (hm : momB c.created = true) : gateE p g c = if letsP p g c = true then 0 else 8 := by
  unfold gateE; rw [if_pos hp, if_pos hg, if_pos (capE_zero hp hm)]
theorem gateC_yes {p : Po} {g : Cn} {c : Ck} (hp : chP p = 0) (hg : chC g = 0) (hm : momB c.created = true) (hl : letsP p g c = true) : gateC p g c = cut p c := by
  unfold gateC
  rw [if_pos (by rw [gate_yes hp hg hm, if_pos hl])]
  unfold clampC
  rw [if_pos (capE_zero hp hm)]; rfl
theorem keep1_yes {p : Po} {g : Cn} {now : Int} {c : Ck} (hp : chP p = 0) (hg : chC g = 0) (hm : momB c.created = true) :
    keep1 p g now c = if letsP p g c = true ∧ now < min c.expiry (capN p c) then some (cut p c) else none := by
  unfold keep1
  by_cases hl : letsP p g c = true
  · rw [gate_yes hp hg hm, if_pos hl, gateC_yes hp hg hm hl]
    have e : (liveB (cut p c) now = true) ↔ now < min c.expiry (capN p c) := by unfold liveB cut; simp
    by_cases h2 : now < min c.expiry (capN p c)
    · rw [if_pos ⟨rfl, e.2 h2⟩, if_pos ⟨hl, h2⟩]
    · rw [if_neg (fun h => h2 (e.1 h.2)), if_neg (fun h => h2 h.2)]
  · rw [gate_yes hp hg hm, if_neg hl, if_neg (fun h => absurd h.1 (by decide)), if_neg (fun h => hl h.1)]
theorem cut_like (p : Po) (c : Ck) : LikeK (cut p c) c := ⟨rfl, rfl, rfl, rfl, rfl, rfl⟩
theorem cut_lets (p : Po) (g : Cn) (c : Ck) : letsP p g (cut p c) = letsP p g c := rfl
theorem cut_cap (p : Po) (c : Ck) : capN p (cut p c) = capN p c := rfl
theorem cut_cut (p : Po) (c : Ck) : cut p (cut p c) = cut p c := by
  show ({ c with expiry := min (min c.expiry (capN p c)) (capN p c) } : Ck) = { c with expiry := min c.expiry (capN p c) }
  rw [show min (min c.expiry (capN p c)) (capN p c) = min c.expiry (capN p c) by omega]
theorem cut_min (p : Po) (c : Ck) : min (cut p c).expiry (capN p (cut p c)) = min c.expiry (capN p c) := by
  show min (min c.expiry (capN p c)) (capN p c) = _
  omega
theorem keep1_like {p : Po} {g : Cn} {now : Int} (hp : chP p = 0) (hg : chC g = 0) {c d : Ck} (hm : momB c.created = true) (h : keep1 p g now c = some d) : d = cut p c ∧ letsP p g c = true ∧ now < min c.expiry (capN p c) := by
  rw [keep1_yes hp hg hm] at h
  split at h
  · rename_i h2; injection h with h; exact ⟨h.symm, h2⟩
  · cases h
theorem moms {j : Ja} (h : chJ j = 0) : ∀ c ∈ j.cks, momB c.created = true := fun c hc => (((chJ_char j).1 h).2.1.each c hc).1.1
theorem keepL_in {p : Po} {g : Cn} {now : Int} {l : List Ck} (hm : ∀ c ∈ l, momB c.created = true) (hp : chP p = 0) (hg : chC g = 0) {d : Ck} (h : d ∈ keepL p g now l) : ∃ c ∈ l, d = cut p c ∧ letsP p g c = true ∧ now < min c.expiry (capN p c) := by
  obtain ⟨c, hc, hcd⟩ := List.mem_filterMap.1 h
  exact ⟨c, hc, keep1_like hp hg (hm c hc) hcd⟩
theorem keepL_jar {j : Ja} {p : Po} {g : Cn} {now : Int} (h : chPu j p g now = 0) : chJ ⟨keepL p g now j.cks, j.next⟩ = 0 := by
  obtain ⟨h1, h2, h3, h4⟩ := (chPu_zero j p g now).1 h
  have hm := moms h1
  -- a map that is like outside the list too
  have e : keepL p g now j.cks = j.cks.filterMap (fun c => if momB c.created = true then keep1 p g now c else none) := by
    unfold keepL
    refine fm_congr fun c hc => ?_
    rw [if_pos (hm c hc)]
  rw [e]
  refine chJ_filterMap j _ (fun c d hcd => ?_) h1
  split at hcd
  · rename_i hmc
    rw [(keep1_like h2 h3 hmc hcd).1]; exact cut_like p c
  · cases hcd
theorem keepL_twice {p : Po} {g h : Cn} {now : Int} {l : List Ck} (hm : ∀ c ∈ l, momB c.created = true) (hp : chP p = 0) (hg : chC g = 0) (hh : chC h = 0) (k : Cn) (hk : chC k = 0) (hl : ∀ c ∈ l, letsP p k c = (letsP p g c && letsP p h c)) :
    keepL p h now (keepL p g now l) = keepL p k now l := by
  unfold keepL
  rw [List.filterMap_filterMap]
  refine fm_congr fun c hc => ?_
  rw [keep1_yes hp hg (hm c hc), keep1_yes hp hk (hm c hc), hl c hc]
  by_cases h1 : letsP p g c = true ∧ now < min c.expiry (capN p c)
  · rw [if_pos h1]
    show (some (cut p c)).bind (keep1 p h now) = _
    rw [Option.bind_some, keep1_yes hp hh (show momB (cut p c).created = true from hm c hc), cut_lets, cut_min, cut_cut, h1.1, Bool.true_and]
  · rw [if_neg h1]
    show (none : Option Ck).bind _ = _
    rw [Option.bind_none]
    by_cases h2 : (letsP p g c && letsP p h c) = true ∧ now < min c.expiry (capN p c)
    · exact absurd ⟨((Bool.and_eq_true _ _).mp h2.1).1, h2.2⟩ h1
    · rw [if_neg h2]
theorem keepL_same {p : Po} {g : Cn} {now : Int} {l : List Ck} (hm : ∀ c ∈ l, momB c.created = true) (hp : chP p = 0) (hg : chC g = 0) : keepL p g now (keepL p g now l) = keepL p g now l :=
  keepL_twice hm hp hg hg g hg (fun c _ => by simp)
/-! what is purged is a jar of the machine -/
theorem addN_rng (n s : Int) : -11644473600 ≤ addN n s ∧ addN n s ≤ 253402300799 := by unfold addN; split <;> (try split) <;> omega
theorem capN_rng (p : Po) (c : Ck) : -11644473600 ≤ capN p c ∧ capN p c ≤ 253402300799 := by
  unfold capN
  split
  · split
    · exact addN_rng _ _
    · omega
  · omega
theorem exp_ok' {m : Nat} {c : Ck} (h : CkOk m c) (n : Int) (hn : -11644473600 ≤ n ∧ n ≤ 253402300799) : CkOk m { c with expiry := min c.expiry n } :=
  ⟨h.name, h.value, h.domain, h.path, h.site, by have := h.expiry; show i64B (min c.expiry n); unfold i64B at this ⊢; omega, h.created, h.used, h.no⟩
theorem ckZ_ok : CkOk 140737488351232 ckZ := ⟨by decide, by decide, by decide, by decide, by simp [ckZ, i64B], by simp [ckZ, i64B], by simp [ckZ, i64B], by simp [ckZ, i64B], by simp [ckZ, i64B]⟩
theorem gateC_ok {p : Po} {g : Cn} {c : Ck} (h : CkOk 140737488351232 c) : CkOk 140737488351232 (gateC p g c) := by
  unfold gateC
  split
  · unfold clampC
    split
    · exact exp_ok' h _ (capN_rng p c)
    · exact ckZ_ok
  · exact ckZ_ok
theorem keepL_ok {p : Po} {g : Cn} {now : Int} {l : List Ck} (h : ∀ c ∈ l, CkOk 140737488351232 c) : ∀ d ∈ keepL p g now l, CkOk 140737488351232 d := fun d hd => by
  obtain ⟨c, hc, hcd⟩ := List.mem_filterMap.1 hd
  unfold keep1 at hcd
  split at hcd
  · injection hcd with hcd; rw [← hcd]; exact gateC_ok (h c hc)
  · cases hcd
theorem purJ_ok {j : Ja} {p : Po} {g : Cn} {now : Int} (h : JaOk 140737488351232 j) : JaOk 140737488351232 (purJ j p g now) := by
  unfold purJ
  split
  · exact ⟨Nat.le_trans (keepL_len _ _ _ _) h.len, keepL_ok h.cks, h.next⟩
  · exact ⟨Nat.zero_le _, fun c hc => absurd hc (by simp), by show i64B 0; unfold i64B; omega⟩
theorem JaOk.max {j : Ja} (h : JaOk 140737488351232 j) : j.cks.length ≤ maxLen := by have := h.len; unfold maxLen; omega
theorem lets_meet {p : Po} {g h : Cn} (e : bothE g h = 0) (c : Ck) : letsP p (bothR (fun x y => x && y) g h) c = (letsP p g c && letsP p h c) := may_meet e _ _
theorem purJ_yes {j : Ja} {p : Po} {g : Cn} {now : Int} (h : chPu j p g now = 0) : purJ j p g now = ⟨keepL p g now j.cks, j.next⟩ := by unfold purJ; rw [if_pos h]
theorem pu_meet {j : Ja} {p : Po} {g h : Cn} {now : Int} (e : bothE g h = 0) (h1 : chPu j p g now = 0) (h2 : chPu j p h now = 0) :
    chPu (purJ j p g now) p h now = 0 ∧ chPu (purJ j p h now) p g now = 0 ∧ chPu j p (bothR (fun x y => x && y) g h) now = 0 ∧ purJ (purJ j p g now) p h now = purJ (purJ j p h now) p g now ∧ purJ (purJ j p g now) p h now = purJ j p (bothR (fun x y => x && y) g h) now := by
  obtain ⟨j1, p1, g1, n1⟩ := (chPu_zero _ _ _ _).1 h1
  obtain ⟨_, _, k1, _⟩ := (chPu_zero _ _ _ _).1 h2
  have hm := moms j1
  have m1 : chC (bothR (fun x y => x && y) g h) = 0 := by rw [(both_ok _ g h e).2.2.2]; exact (both_ok _ g h e).2.2.1
  have a1 := keepL_jar h1
  have a2 := keepL_jar h2
  have e1 : chPu (purJ j p g now) p h now = 0 := by rw [purJ_yes h1]; exact (chPu_zero _ _ _ _).2 ⟨a1, p1, k1, n1⟩
  have e2 : chPu (purJ j p h now) p g now = 0 := by rw [purJ_yes h2]; exact (chPu_zero _ _ _ _).2 ⟨a2, p1, g1, n1⟩
  have e3 : chPu j p (bothR (fun x y => x && y) g h) now = 0 := (chPu_zero _ _ _ _).2 ⟨j1, p1, m1, n1⟩
  have k := keepL_twice (now := now) hm p1 g1 k1 _ m1 (fun c _ => lets_meet e c)
  have k' := keepL_twice (now := now) hm p1 k1 g1 _ m1 (fun c _ => by rw [lets_meet e c, Bool.and_comm])
  refine ⟨e1, e2, e3, ?_, ?_⟩
  · rw [purJ_yes e1, purJ_yes e2, purJ_yes h1, purJ_yes h2]
    show (⟨keepL p h now (keepL p g now j.cks), j.next⟩ : Ja) = ⟨keepL p g now (keepL p h now j.cks), j.next⟩
    rw [k, k']
  · rw [purJ_yes e1, purJ_yes h1, purJ_yes e3]
    show (⟨keepL p h now (keepL p g now j.cks), j.next⟩ : Ja) = ⟨_, j.next⟩
    rw [k]
end Go.Proofs.Ytcfdajaideidkaa
