/- PolicyTells: for all policies, consents and cookies whose texts and lists are bounded as the statement says: Check, Kind and Lets answer just what the document says. -/
import Derived.Test.YtmjcgkjkhpjgbaaRefW
import Derived.Test.YtmjcgkjkhpjgbaaPolicyS
import Derived.Test.YtmjcgkjkhpjgbaaOpen
import Derived.Test.YtmjcgkjkhpjgbaaOpenF
import Derived.Test.YtmjcgkjkhpjgbaaOpenG
import Derived.Test.YtmjcgkjkhpjgbaaOpenP
import Derived.Test.YtmjcgkjkhpjgbaaRows
namespace Go.Proofs.Ytmjcgkjkhpjgbaa.policyTells
open Go.ChangeShapes Go.WideShapes Go.ChangeAt Go.RowKit
open Go.ChangeMaps (open_string shut_string)
set_option linter.all false
set_option maxRecDepth 100000

set_option maxHeartbeats 16000000 in
theorem walk (p : Po) (pv : Value) (g : Cn) (gv : Value) (c : Ck) (w : World) (rp : Rows w pv ruC p.rules) (op0 : PoOk maxLen p) (rg : Rows w gv intF g.vs) (og : g.vs.length ≤ maxLen ∧ inR g.vs ∧ (-9223372036854775808 ≤ g.g ∧ g.g ≤ 9223372036854775807)) (oc0 : CkOk maxLen c)
    (hk : poBulk p + (1 + (g.vs.map fun _ => 1).sum) + wCookie.bulk c ≤ 1099511627776) :
    Calls Try.prog 3 #[.agg #[pv, .int .i64 p.dflt, .int .i64 p.c0, .int .i64 p.c1, .int .i64 p.c2, .int .i64 p.c3, .int .i64 p.c4, .int .i64 p.c5, .int .i64 p.c6, .int .i64 p.c7, .int .i64 p.c8, .int .i64 p.c9, .int .i64 p.c10], .agg #[.int .i64 g.g, .bool g.b0, .bool g.b1, .bool g.b2, .bool g.b3, .bool g.b4, .bool g.b5, .bool g.b6, .bool g.b7, .bool g.b8, .bool g.b9, gv], .agg (ckC c).toArray] w fun e w' => e = .returned (.bool true) ∧ Below w.heap.size w w' := by
  have op : PoOk 140737488351232 p := po_small op0 (by omega)
  have oc : CkOk 140737488351232 c := (ck_small oc0 (by omega)).1
  have hd : (c.domain.length + 1) * 16 ≤ 140737488355328 := (ck_small oc0 (by omega)).2
  obtain ⟨a, ha⟩ : ∃ a, a = (kindP p c).1 := ⟨_, rfl⟩
  obtain ⟨b, hb⟩ : ∃ b, b = (kindP p c).2 := ⟨_, rfl⟩
  obtain ⟨z, hz⟩ : ∃ z, z = chP p := ⟨_, rfl⟩
  obtain ⟨y, hy⟩ : ∃ y, y = letsP p g c := ⟨_, rfl⟩
  have KK : Hid (∀ w', Rows w' pv ruC p.rules → Calls Try.prog 10 #[.agg #[pv, .int .i64 p.dflt, .int .i64 p.c0, .int .i64 p.c1, .int .i64 p.c2, .int .i64 p.c3, .int .i64 p.c4, .int .i64 p.c5, .int .i64 p.c6, .int .i64 p.c7, .int .i64 p.c8, .int .i64 p.c9, .int .i64 p.c10], .agg #[.string (txt c.name), .string (txt c.value), .string (txt c.domain), .string (txt c.path), .bool c.hostOnly, .bool c.secure, .bool c.httpOnly, .bool c.lasting, .int .i64 c.site, .int .i64 c.expiry, .int .i64 c.created, .int .i64 c.used, .int .i64 c.no]] w' fun e w'' => e = .returned (.tuple #[.int .i64 a, .int .i64 b]) ∧ Below w'.heap.size w' w'') := fun w' h1 => by rw [ha, hb]; exact kind_any p pv c w' h1 op.len op.rules oc
  have KO : Hid (∀ w', Rows w' pv ruC p.rules → Calls Try.prog 11 #[.agg #[pv, .int .i64 p.dflt, .int .i64 p.c0, .int .i64 p.c1, .int .i64 p.c2, .int .i64 p.c3, .int .i64 p.c4, .int .i64 p.c5, .int .i64 p.c6, .int .i64 p.c7, .int .i64 p.c8, .int .i64 p.c9, .int .i64 p.c10], .agg #[.string (txt c.name), .string (txt c.value), .string (txt c.domain), .string (txt c.path), .bool c.hostOnly, .bool c.secure, .bool c.httpOnly, .bool c.lasting, .int .i64 c.site, .int .i64 c.expiry, .int .i64 c.created, .int .i64 c.used, .int .i64 c.no]] w' fun e w'' => e = .returned (.tuple #[.int .i64 a, .int .i64 b]) ∧ Below w'.heap.size w' w'') := fun w' h1 => by rw [ha, hb]; exact kindOf_any p pv c w' h1 op.len op.rules oc hd
  have KC : Hid (∀ w', Rows w' pv ruC p.rules → Calls Try.prog 13 #[.agg #[pv, .int .i64 p.dflt, .int .i64 p.c0, .int .i64 p.c1, .int .i64 p.c2, .int .i64 p.c3, .int .i64 p.c4, .int .i64 p.c5, .int .i64 p.c6, .int .i64 p.c7, .int .i64 p.c8, .int .i64 p.c9, .int .i64 p.c10]] w' fun e w'' => e = .returned (.int .i64 z) ∧ Below w'.heap.size w' w'') := fun w' h1 => by rw [hz]; exact polCheck_any p pv w' h1 op.len op.rules
  have KD : Hid (∀ w', Rows w' pv ruC p.rules → Calls Try.prog 14 #[.agg #[pv, .int .i64 p.dflt, .int .i64 p.c0, .int .i64 p.c1, .int .i64 p.c2, .int .i64 p.c3, .int .i64 p.c4, .int .i64 p.c5, .int .i64 p.c6, .int .i64 p.c7, .int .i64 p.c8, .int .i64 p.c9, .int .i64 p.c10]] w' fun e w'' => e = .returned (.int .i64 z) ∧ Below w'.heap.size w' w'') := fun w' h1 => by rw [hz]; exact polCheckOf_any p pv w' h1 op.len op.rules
  have KL : Hid (∀ w', Rows w' pv ruC p.rules → Rows w' gv intF g.vs → Calls Try.prog 15 #[.agg #[pv, .int .i64 p.dflt, .int .i64 p.c0, .int .i64 p.c1, .int .i64 p.c2, .int .i64 p.c3, .int .i64 p.c4, .int .i64 p.c5, .int .i64 p.c6, .int .i64 p.c7, .int .i64 p.c8, .int .i64 p.c9, .int .i64 p.c10], .agg #[.int .i64 g.g, .bool g.b0, .bool g.b1, .bool g.b2, .bool g.b3, .bool g.b4, .bool g.b5, .bool g.b6, .bool g.b7, .bool g.b8, .bool g.b9, gv], .agg #[.string (txt c.name), .string (txt c.value), .string (txt c.domain), .string (txt c.path), .bool c.hostOnly, .bool c.secure, .bool c.httpOnly, .bool c.lasting, .int .i64 c.site, .int .i64 c.expiry, .int .i64 c.created, .int .i64 c.used, .int .i64 c.no]] w' fun e w'' => e = .returned (.bool y) ∧ Below w'.heap.size w' w'') := fun w' h1 h2 => by rw [hy]; exact lets_any p pv g gv c w' op h1 h2 og.1 oc
  have KM : Hid (∀ w', Rows w' pv ruC p.rules → Rows w' gv intF g.vs → Calls Try.prog 16 #[.agg #[pv, .int .i64 p.dflt, .int .i64 p.c0, .int .i64 p.c1, .int .i64 p.c2, .int .i64 p.c3, .int .i64 p.c4, .int .i64 p.c5, .int .i64 p.c6, .int .i64 p.c7, .int .i64 p.c8, .int .i64 p.c9, .int .i64 p.c10], .agg #[.int .i64 g.g, .bool g.b0, .bool g.b1, .bool g.b2, .bool g.b3, .bool g.b4, .bool g.b5, .bool g.b6, .bool g.b7, .bool g.b8, .bool g.b9, gv], .agg #[.string (txt c.name), .string (txt c.value), .string (txt c.domain), .string (txt c.path), .bool c.hostOnly, .bool c.secure, .bool c.httpOnly, .bool c.lasting, .int .i64 c.site, .int .i64 c.expiry, .int .i64 c.created, .int .i64 c.used, .int .i64 c.no]] w' fun e w'' => e = .returned (.bool y) ∧ Below w'.heap.size w' w'') := fun w' h1 h2 => by rw [hy]; exact letsOf_any p pv g gv c w' op h1 h2 og.1 oc hd
  simp only [ckC]
  obtain ⟨W0, hW0⟩ : ∃ W0, W0 = (((w.alloc (.cells #[pv, .int .i64 p.dflt, .int .i64 p.c0, .int .i64 p.c1, .int .i64 p.c2, .int .i64 p.c3, .int .i64 p.c4, .int .i64 p.c5, .int .i64 p.c6, .int .i64 p.c7, .int .i64 p.c8, .int .i64 p.c9, .int .i64 p.c10] 25)).alloc (.cells #[.int .i64 g.g, .bool g.b0, .bool g.b1, .bool g.b2, .bool g.b3, .bool g.b4, .bool g.b5, .bool g.b6, .bool g.b7, .bool g.b8, .bool g.b9, gv] 29)).alloc (.cells #[.string (txt c.name), .string (txt c.value), .string (txt c.domain), .string (txt c.path), .bool c.hostOnly, .bool c.secure, .bool c.httpOnly, .bool c.lasting, .int .i64 c.site, .int .i64 c.expiry, .int .i64 c.created, .int .i64 c.used, .int .i64 c.no] 31)) := ⟨_, rfl⟩
  have P : Hid (PB W0 w.heap.size p pv) := by
    rw [hW0]
    have h := PB.new w p pv 25 rp
    exact ((h.below (below_new _ _)).below (below_new _ _))
  have G : Hid (CB W0 (w.heap.size + 1) g gv) := by
    rw [hW0]
    have h := CB.new (w.alloc (.cells #[pv, .int .i64 p.dflt, .int .i64 p.c0, .int .i64 p.c1, .int .i64 p.c2, .int .i64 p.c3, .int .i64 p.c4, .int .i64 p.c5, .int .i64 p.c6, .int .i64 p.c7, .int .i64 p.c8, .int .i64 p.c9, .int .i64 p.c10] 25)) g gv 29 (Rows.below rg (below_new _ _) (Nat.le_refl _))
    rw [show (w.alloc (.cells #[pv, .int .i64 p.dflt, .int .i64 p.c0, .int .i64 p.c1, .int .i64 p.c2, .int .i64 p.c3, .int .i64 p.c4, .int .i64 p.c5, .int .i64 p.c6, .int .i64 p.c7, .int .i64 p.c8, .int .i64 p.c9, .int .i64 p.c10] 25)).heap.size = w.heap.size + 1 from by simp] at h
    exact (h.below (below_new _ _))
  have C : Hid (KB W0 (w.heap.size + 1 + 1) c) := by
    rw [hW0]
    have h := KB.new ((w.alloc (.cells #[pv, .int .i64 p.dflt, .int .i64 p.c0, .int .i64 p.c1, .int .i64 p.c2, .int .i64 p.c3, .int .i64 p.c4, .int .i64 p.c5, .int .i64 p.c6, .int .i64 p.c7, .int .i64 p.c8, .int .i64 p.c9, .int .i64 p.c10] 25)).alloc (.cells #[.int .i64 g.g, .bool g.b0, .bool g.b1, .bool g.b2, .bool g.b3, .bool g.b4, .bool g.b5, .bool g.b6, .bool g.b7, .bool g.b8, .bool g.b9, gv] 29)) c 31
    rw [show ((w.alloc (.cells #[pv, .int .i64 p.dflt, .int .i64 p.c0, .int .i64 p.c1, .int .i64 p.c2, .int .i64 p.c3, .int .i64 p.c4, .int .i64 p.c5, .int .i64 p.c6, .int .i64 p.c7, .int .i64 p.c8, .int .i64 p.c9, .int .i64 p.c10] 25)).alloc (.cells #[.int .i64 g.g, .bool g.b0, .bool g.b1, .bool g.b2, .bool g.b3, .bool g.b4, .bool g.b5, .bool g.b6, .bool g.b7, .bool g.b8, .bool g.b9, gv] 29)).heap.size = w.heap.size + 1 + 1 from by simp] at h
    exact h
  have S : Hid (Below w.heap.size w W0) := by rw [hW0]; exact next (next (below_new _ _) (below_new _ _)) (below_new _ _)
  have HW0 : Hid _ := hW0
  clear rp op0 rg og oc0 hk op oc hd ha hb hz hy hW0
  go_enter Try.func3, Try.ntmps3
  go_upto_region 1 with fail
  rw [← HW0.out]
  clear HW0
  have x0 := P.out.row.cell 0 rfl
  have x1 := P.out.row.cell 1 rfl
  have x2 := P.out.row.cell 2 rfl
  have x3 := P.out.row.cell 3 rfl
  have x4 := P.out.row.cell 4 rfl
  have x5 := P.out.row.cell 5 rfl
  have x6 := P.out.row.cell 6 rfl
  have x7 := P.out.row.cell 7 rfl
  have x8 := P.out.row.cell 8 rfl
  have x9 := P.out.row.cell 9 rfl
  have x10 := P.out.row.cell 10 rfl
  have x11 := P.out.row.cell 11 rfl
  have x12 := P.out.row.cell 12 rfl
  have y0 := C.out.row.cell 0 rfl
  have y1 := C.out.row.cell 1 rfl
  have y2 := C.out.row.cell 2 rfl
  have y3 := C.out.row.cell 3 rfl
  have y4 := C.out.row.cell 4 rfl
  have y5 := C.out.row.cell 5 rfl
  have y6 := C.out.row.cell 6 rfl
  have y7 := C.out.row.cell 7 rfl
  have y8 := C.out.row.cell 8 rfl
  have y9 := C.out.row.cell 9 rfl
  have y10 := C.out.row.cell 10 rfl
  have y11 := C.out.row.cell 11 rfl
  have y12 := C.out.row.cell 12 rfl
  go_wp2_with fail
  refine (KK.out _ P.out.rows).mono ?_
  rintro e Wn1 ⟨rfl, hb1⟩
  clear x0 x1 x2 x3 x4 x5 x6 x7 x8 x9 x10 x11 x12 y0 y1 y2 y3 y4 y5 y6 y7 y8 y9 y10 y11 y12
  replace P : Hid (PB Wn1 w.heap.size p pv) := P.out.below hb1
  replace G : Hid (CB Wn1 (w.heap.size + 1) g gv) := G.out.below hb1
  replace C : Hid (KB Wn1 (w.heap.size + 1 + 1) c) := C.out.below hb1
  replace S : Hid (Below w.heap.size w Wn1) := next S.out hb1
  clear hb1
  have x0 := P.out.row.cell 0 rfl
  have x1 := P.out.row.cell 1 rfl
  have x2 := P.out.row.cell 2 rfl
  have x3 := P.out.row.cell 3 rfl
  have x4 := P.out.row.cell 4 rfl
  have x5 := P.out.row.cell 5 rfl
  have x6 := P.out.row.cell 6 rfl
  have x7 := P.out.row.cell 7 rfl
  have x8 := P.out.row.cell 8 rfl
  have x9 := P.out.row.cell 9 rfl
  have x10 := P.out.row.cell 10 rfl
  have x11 := P.out.row.cell 11 rfl
  have x12 := P.out.row.cell 12 rfl
  have y0 := C.out.row.cell 0 rfl
  have y1 := C.out.row.cell 1 rfl
  have y2 := C.out.row.cell 2 rfl
  have y3 := C.out.row.cell 3 rfl
  have y4 := C.out.row.cell 4 rfl
  have y5 := C.out.row.cell 5 rfl
  have y6 := C.out.row.cell 6 rfl
  have y7 := C.out.row.cell 7 rfl
  have y8 := C.out.row.cell 8 rfl
  have y9 := C.out.row.cell 9 rfl
  have y10 := C.out.row.cell 10 rfl
  have y11 := C.out.row.cell 11 rfl
  have y12 := C.out.row.cell 12 rfl
  go_wp2_with fail
  refine (KO.out _ P.out.rows).mono ?_
  rintro e Wn2 ⟨rfl, hb2⟩
  clear x0 x1 x2 x3 x4 x5 x6 x7 x8 x9 x10 x11 x12 y0 y1 y2 y3 y4 y5 y6 y7 y8 y9 y10 y11 y12
  replace P : Hid (PB Wn2 w.heap.size p pv) := P.out.below hb2
  replace G : Hid (CB Wn2 (w.heap.size + 1) g gv) := G.out.below hb2
  replace C : Hid (KB Wn2 (w.heap.size + 1 + 1) c) := C.out.below hb2
  replace S : Hid (Below w.heap.size w Wn2) := next S.out hb2
  clear hb2
  have x0 : ∀ w', Below Wn2.heap.size Wn2 w' → w'.cell? ⟨w.heap.size, 0, none⟩ = some (pv) := fun w' h => (P.out.below h).row.cell 0 rfl
  have x1 : ∀ w', Below Wn2.heap.size Wn2 w' → w'.cell? ⟨w.heap.size, 1, none⟩ = some (.int .i64 p.dflt) := fun w' h => (P.out.below h).row.cell 1 rfl
  have x2 : ∀ w', Below Wn2.heap.size Wn2 w' → w'.cell? ⟨w.heap.size, 2, none⟩ = some (.int .i64 p.c0) := fun w' h => (P.out.below h).row.cell 2 rfl
  have x3 : ∀ w', Below Wn2.heap.size Wn2 w' → w'.cell? ⟨w.heap.size, 3, none⟩ = some (.int .i64 p.c1) := fun w' h => (P.out.below h).row.cell 3 rfl
  have x4 : ∀ w', Below Wn2.heap.size Wn2 w' → w'.cell? ⟨w.heap.size, 4, none⟩ = some (.int .i64 p.c2) := fun w' h => (P.out.below h).row.cell 4 rfl
  have x5 : ∀ w', Below Wn2.heap.size Wn2 w' → w'.cell? ⟨w.heap.size, 5, none⟩ = some (.int .i64 p.c3) := fun w' h => (P.out.below h).row.cell 5 rfl
  have x6 : ∀ w', Below Wn2.heap.size Wn2 w' → w'.cell? ⟨w.heap.size, 6, none⟩ = some (.int .i64 p.c4) := fun w' h => (P.out.below h).row.cell 6 rfl
  have x7 : ∀ w', Below Wn2.heap.size Wn2 w' → w'.cell? ⟨w.heap.size, 7, none⟩ = some (.int .i64 p.c5) := fun w' h => (P.out.below h).row.cell 7 rfl
  have x8 : ∀ w', Below Wn2.heap.size Wn2 w' → w'.cell? ⟨w.heap.size, 8, none⟩ = some (.int .i64 p.c6) := fun w' h => (P.out.below h).row.cell 8 rfl
  have x9 : ∀ w', Below Wn2.heap.size Wn2 w' → w'.cell? ⟨w.heap.size, 9, none⟩ = some (.int .i64 p.c7) := fun w' h => (P.out.below h).row.cell 9 rfl
  have x10 : ∀ w', Below Wn2.heap.size Wn2 w' → w'.cell? ⟨w.heap.size, 10, none⟩ = some (.int .i64 p.c8) := fun w' h => (P.out.below h).row.cell 10 rfl
  have x11 : ∀ w', Below Wn2.heap.size Wn2 w' → w'.cell? ⟨w.heap.size, 11, none⟩ = some (.int .i64 p.c9) := fun w' h => (P.out.below h).row.cell 11 rfl
  have x12 : ∀ w', Below Wn2.heap.size Wn2 w' → w'.cell? ⟨w.heap.size, 12, none⟩ = some (.int .i64 p.c10) := fun w' h => (P.out.below h).row.cell 12 rfl
  have y0 : ∀ w', Below Wn2.heap.size Wn2 w' → w'.cell? ⟨(w.heap.size + 1), 0, none⟩ = some (.int .i64 g.g) := fun w' h => (G.out.below h).row.cell 0 rfl
  have y1 : ∀ w', Below Wn2.heap.size Wn2 w' → w'.cell? ⟨(w.heap.size + 1), 1, none⟩ = some (.bool g.b0) := fun w' h => (G.out.below h).row.cell 1 rfl
  have y2 : ∀ w', Below Wn2.heap.size Wn2 w' → w'.cell? ⟨(w.heap.size + 1), 2, none⟩ = some (.bool g.b1) := fun w' h => (G.out.below h).row.cell 2 rfl
  have y3 : ∀ w', Below Wn2.heap.size Wn2 w' → w'.cell? ⟨(w.heap.size + 1), 3, none⟩ = some (.bool g.b2) := fun w' h => (G.out.below h).row.cell 3 rfl
  have y4 : ∀ w', Below Wn2.heap.size Wn2 w' → w'.cell? ⟨(w.heap.size + 1), 4, none⟩ = some (.bool g.b3) := fun w' h => (G.out.below h).row.cell 4 rfl
  have y5 : ∀ w', Below Wn2.heap.size Wn2 w' → w'.cell? ⟨(w.heap.size + 1), 5, none⟩ = some (.bool g.b4) := fun w' h => (G.out.below h).row.cell 5 rfl
  have y6 : ∀ w', Below Wn2.heap.size Wn2 w' → w'.cell? ⟨(w.heap.size + 1), 6, none⟩ = some (.bool g.b5) := fun w' h => (G.out.below h).row.cell 6 rfl
  have y7 : ∀ w', Below Wn2.heap.size Wn2 w' → w'.cell? ⟨(w.heap.size + 1), 7, none⟩ = some (.bool g.b6) := fun w' h => (G.out.below h).row.cell 7 rfl
  have y8 : ∀ w', Below Wn2.heap.size Wn2 w' → w'.cell? ⟨(w.heap.size + 1), 8, none⟩ = some (.bool g.b7) := fun w' h => (G.out.below h).row.cell 8 rfl
  have y9 : ∀ w', Below Wn2.heap.size Wn2 w' → w'.cell? ⟨(w.heap.size + 1), 9, none⟩ = some (.bool g.b8) := fun w' h => (G.out.below h).row.cell 9 rfl
  have y10 : ∀ w', Below Wn2.heap.size Wn2 w' → w'.cell? ⟨(w.heap.size + 1), 10, none⟩ = some (.bool g.b9) := fun w' h => (G.out.below h).row.cell 10 rfl
  have y11 : ∀ w', Below Wn2.heap.size Wn2 w' → w'.cell? ⟨(w.heap.size + 1), 11, none⟩ = some (gv) := fun w' h => (G.out.below h).row.cell 11 rfl
  have z0 : ∀ w', Below Wn2.heap.size Wn2 w' → w'.cell? ⟨(w.heap.size + 1 + 1), 0, none⟩ = some (.string (txt c.name)) := fun w' h => (C.out.below h).row.cell 0 rfl
  have z1 : ∀ w', Below Wn2.heap.size Wn2 w' → w'.cell? ⟨(w.heap.size + 1 + 1), 1, none⟩ = some (.string (txt c.value)) := fun w' h => (C.out.below h).row.cell 1 rfl
  have z2 : ∀ w', Below Wn2.heap.size Wn2 w' → w'.cell? ⟨(w.heap.size + 1 + 1), 2, none⟩ = some (.string (txt c.domain)) := fun w' h => (C.out.below h).row.cell 2 rfl
  have z3 : ∀ w', Below Wn2.heap.size Wn2 w' → w'.cell? ⟨(w.heap.size + 1 + 1), 3, none⟩ = some (.string (txt c.path)) := fun w' h => (C.out.below h).row.cell 3 rfl
  have z4 : ∀ w', Below Wn2.heap.size Wn2 w' → w'.cell? ⟨(w.heap.size + 1 + 1), 4, none⟩ = some (.bool c.hostOnly) := fun w' h => (C.out.below h).row.cell 4 rfl
  have z5 : ∀ w', Below Wn2.heap.size Wn2 w' → w'.cell? ⟨(w.heap.size + 1 + 1), 5, none⟩ = some (.bool c.secure) := fun w' h => (C.out.below h).row.cell 5 rfl
  have z6 : ∀ w', Below Wn2.heap.size Wn2 w' → w'.cell? ⟨(w.heap.size + 1 + 1), 6, none⟩ = some (.bool c.httpOnly) := fun w' h => (C.out.below h).row.cell 6 rfl
  have z7 : ∀ w', Below Wn2.heap.size Wn2 w' → w'.cell? ⟨(w.heap.size + 1 + 1), 7, none⟩ = some (.bool c.lasting) := fun w' h => (C.out.below h).row.cell 7 rfl
  have z8 : ∀ w', Below Wn2.heap.size Wn2 w' → w'.cell? ⟨(w.heap.size + 1 + 1), 8, none⟩ = some (.int .i64 c.site) := fun w' h => (C.out.below h).row.cell 8 rfl
  have z9 : ∀ w', Below Wn2.heap.size Wn2 w' → w'.cell? ⟨(w.heap.size + 1 + 1), 9, none⟩ = some (.int .i64 c.expiry) := fun w' h => (C.out.below h).row.cell 9 rfl
  have z10 : ∀ w', Below Wn2.heap.size Wn2 w' → w'.cell? ⟨(w.heap.size + 1 + 1), 10, none⟩ = some (.int .i64 c.created) := fun w' h => (C.out.below h).row.cell 10 rfl
  have z11 : ∀ w', Below Wn2.heap.size Wn2 w' → w'.cell? ⟨(w.heap.size + 1 + 1), 11, none⟩ = some (.int .i64 c.used) := fun w' h => (C.out.below h).row.cell 11 rfl
  have z12 : ∀ w', Below Wn2.heap.size Wn2 w' → w'.cell? ⟨(w.heap.size + 1 + 1), 12, none⟩ = some (.int .i64 c.no) := fun w' h => (C.out.below h).row.cell 12 rfl
  go_upto_region 3 with fail
  go_region_held3 (fun w' => Below Wn2.heap.size Wn2 w') (first | assumption | exact (Below.refl _ Wn2).drew | exact Below.drew (by assumption) | fail)
    (first
    | (go_at_call 12; refine (policyBegun_any _).mono ?_; rintro e wN ⟨rfl, hbN⟩; have hSN : Below Wn2.heap.size Wn2 wN := Below.trans (by first | assumption | exact (Below.refl _ Wn2).drew) (hbN.mono (Below.size (by first | assumption | exact (Below.refl _ Wn2).drew))); clear hbN)
    | (go_at_call 13; refine (KC.out _ (Rows.below P.out.rows (by first | assumption | exact (Below.refl _ Wn2).drew) (Nat.le_refl _))).mono ?_; rintro e wN ⟨rfl, hbN⟩; have hSN : Below Wn2.heap.size Wn2 wN := Below.trans (by first | assumption | exact (Below.refl _ Wn2).drew) (hbN.mono (Below.size (by first | assumption | exact (Below.refl _ Wn2).drew))); clear hbN)
    | (go_at_call 14; refine (KD.out _ (Rows.below P.out.rows (by first | assumption | exact (Below.refl _ Wn2).drew) (Nat.le_refl _))).mono ?_; rintro e wN ⟨rfl, hbN⟩; have hSN : Below Wn2.heap.size Wn2 wN := Below.trans (by first | assumption | exact (Below.refl _ Wn2).drew) (hbN.mono (Below.size (by first | assumption | exact (Below.refl _ Wn2).drew))); clear hbN)
    | (go_at_call 15; refine (KL.out _ (Rows.below P.out.rows (by first | assumption | exact (Below.refl _ Wn2).drew) (Nat.le_refl _)) (Rows.below G.out.rows (by first | assumption | exact (Below.refl _ Wn2).drew) (Nat.le_refl _))).mono ?_; rintro e wN ⟨rfl, hbN⟩; have hSN : Below Wn2.heap.size Wn2 wN := Below.trans (by first | assumption | exact (Below.refl _ Wn2).drew) (hbN.mono (Below.size (by first | assumption | exact (Below.refl _ Wn2).drew))); clear hbN)
    | (go_at_call 16; refine (KM.out _ (Rows.below P.out.rows (by first | assumption | exact (Below.refl _ Wn2).drew) (Nat.le_refl _)) (Rows.below G.out.rows (by first | assumption | exact (Below.refl _ Wn2).drew) (Nat.le_refl _))).mono ?_; rintro e wN ⟨rfl, hbN⟩; have hSN : Below Wn2.heap.size Wn2 wN := Below.trans (by first | assumption | exact (Below.refl _ Wn2).drew) (hbN.mono (Below.size (by first | assumption | exact (Below.refl _ Wn2).drew))); clear hbN)
    | fail)
  go_wp2_with fail
  go_ret
  exact ⟨rfl, next S.out (by assumption)⟩
set_option maxRecDepth 100000 in
theorem lifted (os : Os) (started : os.Started) (H : Type) (enc : TypeId × Value → H) (F : Stop.Interp) :
    ReturnsInHanded {} Try.checked os 3 .any ((Rows.OpenSpec.upto Rows.policyTellsSpec).pre6 enc Try.prog Try.f3 Rows.policyTellsUptoRow.domain false) (((Rows.OpenSpec.upto Rows.policyTellsSpec).at F).post enc Try.prog Try.f3 false true false false) := by
  refine returnsInHanded_of_cond (C := Try.checked) (s := (Rows.OpenSpec.upto Rows.policyTellsSpec)) (k := Rows.uptoSmall) rfl own started (by kernel_rfl) Try.func3
    (OpenSpec.witness (enc := enc) (C := Try.checked) (s := (Rows.OpenSpec.upto Rows.policyTellsSpec)) (k := Rows.uptoSmall) rfl false ⟨#[], #[.agg #[.slice none 0 0, .int .i64 0, .int .i64 0, .int .i64 0, .int .i64 0, .int .i64 0, .int .i64 0, .int .i64 0, .int .i64 0, .int .i64 0, .int .i64 0, .int .i64 0, .int .i64 0], .agg #[.int .i64 0, .bool false, .bool false, .bool false, .bool false, .bool false, .bool false, .bool false, .bool false, .bool false, .bool false, .slice none 0 0], .agg #[.string ByteArray.empty, .string ByteArray.empty, .string ByteArray.empty, .string ByteArray.empty, .bool false, .bool false, .bool false, .bool false, .int .i64 0, .int .i64 0, .int .i64 0, .int .i64 0, .int .i64 0]], []⟩ 8 (by kernel_rfl) (by kernel_rfl) (by kernel_rfl)
      (x := ([.agg [.nil, .lit (.int .i64 0), .agg [.lit (.int .i64 0), .lit (.int .i64 0), .lit (.int .i64 0), .lit (.int .i64 0), .lit (.int .i64 0), .lit (.int .i64 0), .lit (.int .i64 0), .lit (.int .i64 0), .lit (.int .i64 0), .lit (.int .i64 0), .lit (.int .i64 0)]], .agg [.lit (.int .i64 0), .agg [.lit (.bool false), .lit (.bool false), .lit (.bool false), .lit (.bool false), .lit (.bool false), .lit (.bool false), .lit (.bool false), .lit (.bool false), .lit (.bool false), .lit (.bool false)], .nil], .agg [.lit (.string []), .lit (.string []), .lit (.string []), .lit (.string []), .lit (.bool false), .lit (.bool false), .lit (.bool false), .lit (.bool false), .lit (.int .i64 0), .lit (.int .i64 0), .lit (.int .i64 0), .lit (.int .i64 0), .lit (.int .i64 0)]], [], [])) (by kernel_rfl) rfl (by kernel_rfl)) ?_
  intro W base args ds gs before hval0 hW hcnd hk _
  have hval : ∀ (j : Nat) t v, Try.f3.params[j]? = some t → args[j]? = some v → Value.okWide Try.prog W .any base t v := hval0
  have hW' := hW
  obtain ⟨p, q, hA0, hV, rfl, hfz, hnd⟩ := hW
  have hA : DataW.TrodAll enc Try.prog W 0 (fun _ => true) true Try.f3.params.toList args.toList ds p := hA0
  rw [Try.params3] at hA hval
  obtain ⟨v0, vs0, d0, ds0, p0, q0, hargs, rfl, rfl, h0, r0⟩ := trodAll_cons hA
  obtain ⟨v1, vs1, d1, ds1, p1, q1, rfl, rfl, rfl, h1, r1⟩ := trodAll_cons r0
  obtain ⟨v2, vs2, d2, ds2, p2, q2, rfl, rfl, rfl, h2, r2⟩ := trodAll_cons r1
  obtain ⟨rfl, rfl, rfl⟩ := trodAll_nil r2
  obtain rfl : args = #[v0, v1, v2] := by cases args; simp_all
  obtain ⟨rfl, rfl⟩ := trodVars_none hV
  have k0 := h0
  have lt0 : ∀ x ∈ p0, x.block < W.heap.size := by obtain ⟨m, hm⟩ := k0; exact DataW.trod_lt m _ _ _ hm
  have k1 := h1
  have lt1 : ∀ x ∈ p1, x.block < W.heap.size := by obtain ⟨m, hm⟩ := k1; exact DataW.trod_lt m _ _ _ hm
  have k2 := h2
  have lt2 : ∀ x ∈ p2, x.block < W.heap.size := by obtain ⟨m, hm⟩ := k2; exact DataW.trod_lt m _ _ _ hm
  obtain ⟨po0, pv0, rfl, rd0, ok0, bk0⟩ := open_policy (hval 0 25 v0 rfl rfl) k0 maxLen (fits_max _)
  obtain ⟨c1, vv1, rfl, rd1, ok1, bk1⟩ := open_consent (hval 1 29 v1 rfl rfl) k1 maxLen (fits_max _)
  obtain ⟨l2, rfl, ok2, bk2⟩ := open_cookie (hval 2 31 v2 rfl rfl) k2 maxLen (fits_max _)
  have hbulk := bulk_of hk
  simp only [List.cons_append, List.nil_append, List.append_nil, Rows.uptoBulkAll] at hbulk
  have hbk0 := bk0
  have hbk1 := bk1
  have hbk2 := bk2
  clear hA0 hval0
  refine (walk po0 pv0 c1 vv1 l2 W rd0 ok0 rd1 ok1 ok2 (by omega)).mono fun e W' ⟨he, bel⟩ => ?_
  subst he
  exact ⟨_, rfl, _, _, _, [], _, [], hW', trodAll_mk1 (shut_bool Try.underlying4 _), (trodAll_cons_mk (Below.trod laidOut (by kernel_rfl) (of_decide_eq_true (by kernel_rfl)) k0 bel lt0) (trodAll_cons_mk (Below.trod laidOut (by kernel_rfl) (of_decide_eq_true (by kernel_rfl)) k1 bel lt1) (trodAll_cons_mk (Below.trod laidOut (by kernel_rfl) (of_decide_eq_true (by kernel_rfl)) k2 bel lt2) trodAll_mk0))), rfl, bel.frame _, fun h => by cases h⟩

theorem proved : Rows.PolicyTellsUptoSaid :=
  OpenClaim.holds_of_cond 3 Try.f3 rfl rfl rfl rfl rfl rfl rfl ⟨rfl, rfl, rfl, rfl, rfl⟩ rfl rfl rfl rfl rfl (by kernel_rfl) Try.func3 (by kernel_rfl)
    (of_decide_eq_true (by kernel_rfl)) (by unfold Func.isWrapper; first | (rw [if_pos (by decide +kernel)]; kernel_rfl) | (rw [if_neg (by decide +kernel)]; exact ⟨rfl, rfl⟩))
    (fun os started H enc _ F => lifted os started H enc F)
#print axioms proved
end Go.Proofs.Ytmjcgkjkhpjgbaa.policyTells
