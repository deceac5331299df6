/- CapTells: for all policies and cookies whose texts and lists are bounded as the statement says: Latest and Clamp answer just what the document says. -/
import Derived.Test.YtmjcgkjkhpjgbaaRefW
import Derived.Test.YtmjcgkjkhpjgbaaPolicyG
import Derived.Test.YtmjcgkjkhpjgbaaPolicyS
import Derived.Test.YtmjcgkjkhpjgbaaCkEq
import Derived.Test.YtmjcgkjkhpjgbaaOpen
import Derived.Test.YtmjcgkjkhpjgbaaOpenF
import Derived.Test.YtmjcgkjkhpjgbaaOpenP
import Derived.Test.YtmjcgkjkhpjgbaaRows
namespace Go.Proofs.Ytmjcgkjkhpjgbaa.capTells
open Go.ChangeShapes Go.WideShapes Go.ChangeAt Go.RowKit
open Go.ChangeMaps (open_string shut_string)
set_option linter.all false
set_option maxRecDepth 100000

set_option maxHeartbeats 16000000 in
theorem walk (p : Po) (pv : Value) (c : Ck) (w : World) (rp : Rows w pv ruC p.rules) (op0 : PoOk maxLen p) (oc0 : CkOk maxLen c)
    (hk : poBulk p + wCookie.bulk c ≤ 1099511627776) :
    Calls Try.prog 7 #[.agg #[pv, .int .i64 p.dflt, .int .i64 p.c0, .int .i64 p.c1, .int .i64 p.c2, .int .i64 p.c3, .int .i64 p.c4, .int .i64 p.c5, .int .i64 p.c6, .int .i64 p.c7, .int .i64 p.c8, .int .i64 p.c9, .int .i64 p.c10], .agg (ckC c).toArray] w fun e w' => e = .returned (.bool true) ∧ Below w.heap.size w w' := by
  have op : PoOk 140737488351232 p := po_small op0 (by omega)
  have oc : CkOk 140737488351232 c := (ck_small oc0 (by omega)).1
  have hd : (c.domain.length + 1) * 16 ≤ 140737488355328 := (ck_small oc0 (by omega)).2
  obtain ⟨N, hN⟩ : ∃ N, N = capN p c := ⟨_, rfl⟩
  obtain ⟨E, hE⟩ : ∃ E, E = capE p c := ⟨_, rfl⟩
  obtain ⟨d, hdd⟩ : ∃ d, d = clampC p c := ⟨_, rfl⟩
  have KL : Hid (∀ w', Rows w' pv ruC p.rules → Calls Try.prog 19 #[.agg #[pv, .int .i64 p.dflt, .int .i64 p.c0, .int .i64 p.c1, .int .i64 p.c2, .int .i64 p.c3, .int .i64 p.c4, .int .i64 p.c5, .int .i64 p.c6, .int .i64 p.c7, .int .i64 p.c8, .int .i64 p.c9, .int .i64 p.c10], .agg #[.string (txt c.name), .string (txt c.value), .string (txt c.domain), .string (txt c.path), .bool c.hostOnly, .bool c.secure, .bool c.httpOnly, .bool c.lasting, .int .i64 c.site, .int .i64 c.expiry, .int .i64 c.created, .int .i64 c.used, .int .i64 c.no]] w' fun e w'' => e = .returned (.tuple #[.int .i64 N, .int .i64 E]) ∧ Below w'.heap.size w' w'') := fun w' h1 => by rw [hN, hE]; exact latest_any p pv c w' h1 op oc
  have KM : Hid (∀ w', Rows w' pv ruC p.rules → Calls Try.prog 21 #[.agg #[pv, .int .i64 p.dflt, .int .i64 p.c0, .int .i64 p.c1, .int .i64 p.c2, .int .i64 p.c3, .int .i64 p.c4, .int .i64 p.c5, .int .i64 p.c6, .int .i64 p.c7, .int .i64 p.c8, .int .i64 p.c9, .int .i64 p.c10], .agg #[.string (txt c.name), .string (txt c.value), .string (txt c.domain), .string (txt c.path), .bool c.hostOnly, .bool c.secure, .bool c.httpOnly, .bool c.lasting, .int .i64 c.site, .int .i64 c.expiry, .int .i64 c.created, .int .i64 c.used, .int .i64 c.no]] w' fun e w'' => e = .returned (.tuple #[.int .i64 N, .int .i64 E]) ∧ Below w'.heap.size w' w'') := fun w' h1 => by rw [hN, hE]; exact latestOf_any p pv c w' h1 op oc hd
  have KC : Hid (∀ w', Rows w' pv ruC p.rules → Calls Try.prog 20 #[.agg #[pv, .int .i64 p.dflt, .int .i64 p.c0, .int .i64 p.c1, .int .i64 p.c2, .int .i64 p.c3, .int .i64 p.c4, .int .i64 p.c5, .int .i64 p.c6, .int .i64 p.c7, .int .i64 p.c8, .int .i64 p.c9, .int .i64 p.c10], .agg #[.string (txt c.name), .string (txt c.value), .string (txt c.domain), .string (txt c.path), .bool c.hostOnly, .bool c.secure, .bool c.httpOnly, .bool c.lasting, .int .i64 c.site, .int .i64 c.expiry, .int .i64 c.created, .int .i64 c.used, .int .i64 c.no]] w' fun e w'' => e = .returned (.tuple #[.agg #[.string (txt d.name), .string (txt d.value), .string (txt d.domain), .string (txt d.path), .bool d.hostOnly, .bool d.secure, .bool d.httpOnly, .bool d.lasting, .int .i64 d.site, .int .i64 d.expiry, .int .i64 d.created, .int .i64 d.used, .int .i64 d.no], .int .i64 E]) ∧ Below w'.heap.size w' w'') := fun w' h1 => by rw [hE, hdd]; exact clamp_any p pv c w' h1 op oc
  have KD : Hid (∀ w', Rows w' pv ruC p.rules → Calls Try.prog 22 #[.agg #[pv, .int .i64 p.dflt, .int .i64 p.c0, .int .i64 p.c1, .int .i64 p.c2, .int .i64 p.c3, .int .i64 p.c4, .int .i64 p.c5, .int .i64 p.c6, .int .i64 p.c7, .int .i64 p.c8, .int .i64 p.c9, .int .i64 p.c10], .agg #[.string (txt c.name), .string (txt c.value), .string (txt c.domain), .string (txt c.path), .bool c.hostOnly, .bool c.secure, .bool c.httpOnly, .bool c.lasting, .int .i64 c.site, .int .i64 c.expiry, .int .i64 c.created, .int .i64 c.used, .int .i64 c.no]] w' fun e w'' => e = .returned (.tuple #[.agg #[.string (txt d.name), .string (txt d.value), .string (txt d.domain), .string (txt d.path), .bool d.hostOnly, .bool d.secure, .bool d.httpOnly, .bool d.lasting, .int .i64 d.site, .int .i64 d.expiry, .int .i64 d.created, .int .i64 d.used, .int .i64 d.no], .int .i64 E]) ∧ Below w'.heap.size w' w'') := fun w' h1 => by rw [hE, hdd]; exact clampOf_any p pv c w' h1 op oc hd
  have qd : ∀ w : World, (Op.equalIn 10000 31 (.agg #[.string (txt d.name), .string (txt d.value), .string (txt d.domain), .string (txt d.path), .bool d.hostOnly, .bool d.secure, .bool d.httpOnly, .bool d.lasting, .int .i64 d.site, .int .i64 d.expiry, .int .i64 d.created, .int .i64 d.used, .int .i64 d.no]) (.agg #[.string (txt d.name), .string (txt d.value), .string (txt d.domain), .string (txt d.path), .bool d.hostOnly, .bool d.secure, .bool d.httpOnly, .bool d.lasting, .int .i64 d.site, .int .i64 d.expiry, .int .i64 d.created, .int .i64 d.used, .int .i64 d.no])).run Try.prog w = .ok true w := fun w => by
    have k := ck_eqIn d d w
    rw [(eqC_iff d d).2 rfl] at k
    exact k
  simp only [ckC]
  obtain ⟨W0, hW0⟩ : ∃ W0, W0 = ((w.alloc (.cells #[pv, .int .i64 p.dflt, .int .i64 p.c0, .int .i64 p.c1, .int .i64 p.c2, .int .i64 p.c3, .int .i64 p.c4, .int .i64 p.c5, .int .i64 p.c6, .int .i64 p.c7, .int .i64 p.c8, .int .i64 p.c9, .int .i64 p.c10] 25)).alloc (.cells #[.string (txt c.name), .string (txt c.value), .string (txt c.domain), .string (txt c.path), .bool c.hostOnly, .bool c.secure, .bool c.httpOnly, .bool c.lasting, .int .i64 c.site, .int .i64 c.expiry, .int .i64 c.created, .int .i64 c.used, .int .i64 c.no] 31)) := ⟨_, rfl⟩
  have P : Hid (PB W0 w.heap.size p pv) := by
    rw [hW0]
    have h := PB.new w p pv 25 rp
    exact (h.below (below_new _ _))
  have C : Hid (KB W0 (w.heap.size + 1) c) := by
    rw [hW0]
    have h := KB.new (w.alloc (.cells #[pv, .int .i64 p.dflt, .int .i64 p.c0, .int .i64 p.c1, .int .i64 p.c2, .int .i64 p.c3, .int .i64 p.c4, .int .i64 p.c5, .int .i64 p.c6, .int .i64 p.c7, .int .i64 p.c8, .int .i64 p.c9, .int .i64 p.c10] 25)) c 31
    rw [show (w.alloc (.cells #[pv, .int .i64 p.dflt, .int .i64 p.c0, .int .i64 p.c1, .int .i64 p.c2, .int .i64 p.c3, .int .i64 p.c4, .int .i64 p.c5, .int .i64 p.c6, .int .i64 p.c7, .int .i64 p.c8, .int .i64 p.c9, .int .i64 p.c10] 25)).heap.size = w.heap.size + 1 from by simp] at h
    exact h
  have S : Hid (Below w.heap.size w W0) := by rw [hW0]; exact next (below_new _ _) (below_new _ _)
  have HW0 : Hid _ := hW0
  clear rp op0 oc0 hk op oc hd hN hE hdd hW0
  go_enter Try.func7, Try.ntmps7
  go_upto_region 1 with fail
  rw [← HW0.out]
  clear HW0
  have x0 := P.out.row.cell 0 rfl
  have x1 := P.out.row.cell 1 rfl
  have x2 := P.out.row.cell 2 rfl
  have x3 := P.out.row.cell 3 rfl
  have x4 := P.out.row.cell 4 rfl
  have x5 := P.out.row.cell 5 rfl
  have x6 := P.out.row.cell 6 rfl
  have x7 := P.out.row.cell 7 rfl
  have x8 := P.out.row.cell 8 rfl
  have x9 := P.out.row.cell 9 rfl
  have x10 := P.out.row.cell 10 rfl
  have x11 := P.out.row.cell 11 rfl
  have x12 := P.out.row.cell 12 rfl
  have y0 := C.out.row.cell 0 rfl
  have y1 := C.out.row.cell 1 rfl
  have y2 := C.out.row.cell 2 rfl
  have y3 := C.out.row.cell 3 rfl
  have y4 := C.out.row.cell 4 rfl
  have y5 := C.out.row.cell 5 rfl
  have y6 := C.out.row.cell 6 rfl
  have y7 := C.out.row.cell 7 rfl
  have y8 := C.out.row.cell 8 rfl
  have y9 := C.out.row.cell 9 rfl
  have y10 := C.out.row.cell 10 rfl
  have y11 := C.out.row.cell 11 rfl
  have y12 := C.out.row.cell 12 rfl
  go_wp2_with fail
  refine (KL.out _ P.out.rows).mono ?_
  rintro e Wn1 ⟨rfl, hb1⟩
  clear x0 x1 x2 x3 x4 x5 x6 x7 x8 x9 x10 x11 x12 y0 y1 y2 y3 y4 y5 y6 y7 y8 y9 y10 y11 y12
  replace P : Hid (PB Wn1 w.heap.size p pv) := P.out.below hb1
  replace C : Hid (KB Wn1 (w.heap.size + 1) c) := C.out.below hb1
  replace S : Hid (Below w.heap.size w Wn1) := next S.out hb1
  clear hb1
  have x0 := P.out.row.cell 0 rfl
  have x1 := P.out.row.cell 1 rfl
  have x2 := P.out.row.cell 2 rfl
  have x3 := P.out.row.cell 3 rfl
  have x4 := P.out.row.cell 4 rfl
  have x5 := P.out.row.cell 5 rfl
  have x6 := P.out.row.cell 6 rfl
  have x7 := P.out.row.cell 7 rfl
  have x8 := P.out.row.cell 8 rfl
  have x9 := P.out.row.cell 9 rfl
  have x10 := P.out.row.cell 10 rfl
  have x11 := P.out.row.cell 11 rfl
  have x12 := P.out.row.cell 12 rfl
  have y0 := C.out.row.cell 0 rfl
  have y1 := C.out.row.cell 1 rfl
  have y2 := C.out.row.cell 2 rfl
  have y3 := C.out.row.cell 3 rfl
  have y4 := C.out.row.cell 4 rfl
  have y5 := C.out.row.cell 5 rfl
  have y6 := C.out.row.cell 6 rfl
  have y7 := C.out.row.cell 7 rfl
  have y8 := C.out.row.cell 8 rfl
  have y9 := C.out.row.cell 9 rfl
  have y10 := C.out.row.cell 10 rfl
  have y11 := C.out.row.cell 11 rfl
  have y12 := C.out.row.cell 12 rfl
  go_wp2_with fail
  refine (KC.out _ P.out.rows).mono ?_
  rintro e v2 ⟨rfl, hb2⟩
  clear x0 x1 x2 x3 x4 x5 x6 x7 x8 x9 x10 x11 x12 y0 y1 y2 y3 y4 y5 y6 y7 y8 y9 y10 y11 y12
  obtain ⟨W2, hW2⟩ : ∃ W2, W2 = v2.alloc (.cells #[.string (txt d.name), .string (txt d.value), .string (txt d.domain), .string (txt d.path), .bool d.hostOnly, .bool d.secure, .bool d.httpOnly, .bool d.lasting, .int .i64 d.site, .int .i64 d.expiry, .int .i64 d.created, .int .i64 d.used, .int .i64 d.no] 31) := ⟨_, rfl⟩
  have hc2 : Below Wn1.heap.size Wn1 W2 := by rw [hW2]; exact next hb2 (below_new _ _)
  replace P : Hid (PB W2 w.heap.size p pv) := P.out.below hc2
  replace C : Hid (KB W2 (w.heap.size + 1) c) := C.out.below hc2
  replace S : Hid (Below w.heap.size w W2) := next S.out hc2
  have D : Hid (KB W2 v2.heap.size d) := by rw [hW2]; exact KB.new v2 d 31
  have HW2 : Hid _ := hW2
  clear hb2 hc2 hW2
  go_upto_region 3 with fail
  rw [← HW2.out]
  clear HW2
  have x0 := P.out.row.cell 0 rfl
  have x1 := P.out.row.cell 1 rfl
  have x2 := P.out.row.cell 2 rfl
  have x3 := P.out.row.cell 3 rfl
  have x4 := P.out.row.cell 4 rfl
  have x5 := P.out.row.cell 5 rfl
  have x6 := P.out.row.cell 6 rfl
  have x7 := P.out.row.cell 7 rfl
  have x8 := P.out.row.cell 8 rfl
  have x9 := P.out.row.cell 9 rfl
  have x10 := P.out.row.cell 10 rfl
  have x11 := P.out.row.cell 11 rfl
  have x12 := P.out.row.cell 12 rfl
  have y0 := C.out.row.cell 0 rfl
  have y1 := C.out.row.cell 1 rfl
  have y2 := C.out.row.cell 2 rfl
  have y3 := C.out.row.cell 3 rfl
  have y4 := C.out.row.cell 4 rfl
  have y5 := C.out.row.cell 5 rfl
  have y6 := C.out.row.cell 6 rfl
  have y7 := C.out.row.cell 7 rfl
  have y8 := C.out.row.cell 8 rfl
  have y9 := C.out.row.cell 9 rfl
  have y10 := C.out.row.cell 10 rfl
  have y11 := C.out.row.cell 11 rfl
  have y12 := C.out.row.cell 12 rfl
  go_wp2_with fail
  refine (KM.out _ P.out.rows).mono ?_
  rintro e Wn3 ⟨rfl, hb3⟩
  clear x0 x1 x2 x3 x4 x5 x6 x7 x8 x9 x10 x11 x12 y0 y1 y2 y3 y4 y5 y6 y7 y8 y9 y10 y11 y12
  replace P : Hid (PB Wn3 w.heap.size p pv) := P.out.below hb3
  replace C : Hid (KB Wn3 (w.heap.size + 1) c) := C.out.below hb3
  replace D : Hid (KB Wn3 v2.heap.size d) := D.out.below hb3
  replace S : Hid (Below w.heap.size w Wn3) := next S.out hb3
  clear hb3
  have x0 := P.out.row.cell 0 rfl
  have x1 := P.out.row.cell 1 rfl
  have x2 := P.out.row.cell 2 rfl
  have x3 := P.out.row.cell 3 rfl
  have x4 := P.out.row.cell 4 rfl
  have x5 := P.out.row.cell 5 rfl
  have x6 := P.out.row.cell 6 rfl
  have x7 := P.out.row.cell 7 rfl
  have x8 := P.out.row.cell 8 rfl
  have x9 := P.out.row.cell 9 rfl
  have x10 := P.out.row.cell 10 rfl
  have x11 := P.out.row.cell 11 rfl
  have x12 := P.out.row.cell 12 rfl
  have y0 := C.out.row.cell 0 rfl
  have y1 := C.out.row.cell 1 rfl
  have y2 := C.out.row.cell 2 rfl
  have y3 := C.out.row.cell 3 rfl
  have y4 := C.out.row.cell 4 rfl
  have y5 := C.out.row.cell 5 rfl
  have y6 := C.out.row.cell 6 rfl
  have y7 := C.out.row.cell 7 rfl
  have y8 := C.out.row.cell 8 rfl
  have y9 := C.out.row.cell 9 rfl
  have y10 := C.out.row.cell 10 rfl
  have y11 := C.out.row.cell 11 rfl
  have y12 := C.out.row.cell 12 rfl
  go_wp2_with fail
  refine (KD.out _ P.out.rows).mono ?_
  rintro e v4 ⟨rfl, hb4⟩
  clear x0 x1 x2 x3 x4 x5 x6 x7 x8 x9 x10 x11 x12 y0 y1 y2 y3 y4 y5 y6 y7 y8 y9 y10 y11 y12
  obtain ⟨W4, hW4⟩ : ∃ W4, W4 = v4.alloc (.cells #[.string (txt d.name), .string (txt d.value), .string (txt d.domain), .string (txt d.path), .bool d.hostOnly, .bool d.secure, .bool d.httpOnly, .bool d.lasting, .int .i64 d.site, .int .i64 d.expiry, .int .i64 d.created, .int .i64 d.used, .int .i64 d.no] 31) := ⟨_, rfl⟩
  have hc4 : Below Wn3.heap.size Wn3 W4 := by rw [hW4]; exact next hb4 (below_new _ _)
  replace P : Hid (PB W4 w.heap.size p pv) := P.out.below hc4
  replace C : Hid (KB W4 (w.heap.size + 1) c) := C.out.below hc4
  replace D : Hid (KB W4 v2.heap.size d) := D.out.below hc4
  replace S : Hid (Below w.heap.size w W4) := next S.out hc4
  have X : Hid (KB W4 v4.heap.size d) := by rw [hW4]; exact KB.new v4 d 31
  have HW4 : Hid _ := hW4
  clear hb4 hc4 hW4
  go_upto_region 5 with fail
  rw [← HW4.out]
  clear HW4
  go_wp2_with fail
  refine (capBegun_any _).mono ?_
  rintro e Wn5 ⟨rfl, hb5⟩
  replace P : Hid (PB Wn5 w.heap.size p pv) := P.out.below hb5
  replace C : Hid (KB Wn5 (w.heap.size + 1) c) := C.out.below hb5
  replace D : Hid (KB Wn5 v2.heap.size d) := D.out.below hb5
  replace X : Hid (KB Wn5 v4.heap.size d) := X.out.below hb5
  replace S : Hid (Below w.heap.size w Wn5) := next S.out hb5
  clear hb5
  have x0 := D.out.row.cell 0 rfl
  have x1 := D.out.row.cell 1 rfl
  have x2 := D.out.row.cell 2 rfl
  have x3 := D.out.row.cell 3 rfl
  have x4 := D.out.row.cell 4 rfl
  have x5 := D.out.row.cell 5 rfl
  have x6 := D.out.row.cell 6 rfl
  have x7 := D.out.row.cell 7 rfl
  have x8 := D.out.row.cell 8 rfl
  have x9 := D.out.row.cell 9 rfl
  have x10 := D.out.row.cell 10 rfl
  have x11 := D.out.row.cell 11 rfl
  have x12 := D.out.row.cell 12 rfl
  have y0 := X.out.row.cell 0 rfl
  have y1 := X.out.row.cell 1 rfl
  have y2 := X.out.row.cell 2 rfl
  have y3 := X.out.row.cell 3 rfl
  have y4 := X.out.row.cell 4 rfl
  have y5 := X.out.row.cell 5 rfl
  have y6 := X.out.row.cell 6 rfl
  have y7 := X.out.row.cell 7 rfl
  have y8 := X.out.row.cell 8 rfl
  have y9 := X.out.row.cell 9 rfl
  have y10 := X.out.row.cell 10 rfl
  have y11 := X.out.row.cell 11 rfl
  have y12 := X.out.row.cell 12 rfl
  go_wp2_with fail
  go_ret
  exact ⟨rfl, S.out⟩
set_option maxRecDepth 100000 in
theorem lifted (os : Os) (started : os.Started) (H : Type) (enc : TypeId × Value → H) (F : Stop.Interp) :
    ReturnsInHanded {} Try.checked os 7 .any ((Rows.OpenSpec.upto Rows.capTellsSpec).pre6 enc Try.prog Try.f7 Rows.capTellsUptoRow.domain false) (((Rows.OpenSpec.upto Rows.capTellsSpec).at F).post enc Try.prog Try.f7 false true false false) := by
  refine returnsInHanded_of_cond (C := Try.checked) (s := (Rows.OpenSpec.upto Rows.capTellsSpec)) (k := Rows.uptoSmall) rfl own started (by kernel_rfl) Try.func7
    (OpenSpec.witness (enc := enc) (C := Try.checked) (s := (Rows.OpenSpec.upto Rows.capTellsSpec)) (k := Rows.uptoSmall) rfl false ⟨#[], #[.agg #[.slice none 0 0, .int .i64 0, .int .i64 0, .int .i64 0, .int .i64 0, .int .i64 0, .int .i64 0, .int .i64 0, .int .i64 0, .int .i64 0, .int .i64 0, .int .i64 0, .int .i64 0], .agg #[.string ByteArray.empty, .string ByteArray.empty, .string ByteArray.empty, .string ByteArray.empty, .bool false, .bool false, .bool false, .bool false, .int .i64 0, .int .i64 0, .int .i64 0, .int .i64 0, .int .i64 0]], []⟩ 8 (by kernel_rfl) (by kernel_rfl) (by kernel_rfl)
      (x := ([.agg [.nil, .lit (.int .i64 0), .agg [.lit (.int .i64 0), .lit (.int .i64 0), .lit (.int .i64 0), .lit (.int .i64 0), .lit (.int .i64 0), .lit (.int .i64 0), .lit (.int .i64 0), .lit (.int .i64 0), .lit (.int .i64 0), .lit (.int .i64 0), .lit (.int .i64 0)]], .agg [.lit (.string []), .lit (.string []), .lit (.string []), .lit (.string []), .lit (.bool false), .lit (.bool false), .lit (.bool false), .lit (.bool false), .lit (.int .i64 0), .lit (.int .i64 0), .lit (.int .i64 0), .lit (.int .i64 0), .lit (.int .i64 0)]], [], [])) (by kernel_rfl) rfl (by kernel_rfl)) ?_
  intro W base args ds gs before hval0 hW hcnd hk _
  have hval : ∀ (j : Nat) t v, Try.f7.params[j]? = some t → args[j]? = some v → Value.okWide Try.prog W .any base t v := hval0
  have hW' := hW
  obtain ⟨p, q, hA0, hV, rfl, hfz, hnd⟩ := hW
  have hA : DataW.TrodAll enc Try.prog W 0 (fun _ => true) true Try.f7.params.toList args.toList ds p := hA0
  rw [Try.params7] at hA hval
  obtain ⟨v0, vs0, d0, ds0, p0, q0, hargs, rfl, rfl, h0, r0⟩ := trodAll_cons hA
  obtain ⟨v1, vs1, d1, ds1, p1, q1, rfl, rfl, rfl, h1, r1⟩ := trodAll_cons r0
  obtain ⟨rfl, rfl, rfl⟩ := trodAll_nil r1
  obtain rfl : args = #[v0, v1] := by cases args; simp_all
  obtain ⟨rfl, rfl⟩ := trodVars_none hV
  have k0 := h0
  have lt0 : ∀ x ∈ p0, x.block < W.heap.size := by obtain ⟨m, hm⟩ := k0; exact DataW.trod_lt m _ _ _ hm
  have k1 := h1
  have lt1 : ∀ x ∈ p1, x.block < W.heap.size := by obtain ⟨m, hm⟩ := k1; exact DataW.trod_lt m _ _ _ hm
  obtain ⟨po0, pv0, rfl, rd0, ok0, bk0⟩ := open_policy (hval 0 25 v0 rfl rfl) k0 maxLen (fits_max _)
  obtain ⟨l1, rfl, ok1, bk1⟩ := open_cookie (hval 1 31 v1 rfl rfl) k1 maxLen (fits_max _)
  have hbulk := bulk_of hk
  simp only [List.cons_append, List.nil_append, List.append_nil, Rows.uptoBulkAll] at hbulk
  have hbk0 := bk0
  have hbk1 := bk1
  clear hA0 hval0
  refine (walk po0 pv0 l1 W rd0 ok0 ok1 (by omega)).mono fun e W' ⟨he, bel⟩ => ?_
  subst he
  exact ⟨_, rfl, _, _, _, [], _, [], hW', trodAll_mk1 (shut_bool Try.underlying4 _), (trodAll_cons_mk (Below.trod laidOut (by kernel_rfl) (of_decide_eq_true (by kernel_rfl)) k0 bel lt0) (trodAll_cons_mk (Below.trod laidOut (by kernel_rfl) (of_decide_eq_true (by kernel_rfl)) k1 bel lt1) trodAll_mk0)), rfl, bel.frame _, fun h => by cases h⟩

theorem proved : Rows.CapTellsUptoSaid :=
  OpenClaim.holds_of_cond 7 Try.f7 rfl rfl rfl rfl rfl rfl rfl ⟨rfl, rfl, rfl, rfl, rfl⟩ rfl rfl rfl rfl rfl (by kernel_rfl) Try.func7 (by kernel_rfl)
    (of_decide_eq_true (by kernel_rfl)) (by unfold Func.isWrapper; first | (rw [if_pos (by decide +kernel)]; kernel_rfl) | (rw [if_neg (by decide +kernel)]; exact ⟨rfl, rfl⟩))
    (fun os started H enc _ F => lifted os started H enc F)
#print axioms proved
end Go.Proofs.Ytmjcgkjkhpjgbaa.capTells
