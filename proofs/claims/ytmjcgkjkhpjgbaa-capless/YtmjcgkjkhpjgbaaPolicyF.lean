/- The contract of Clamp. -/
import Derived.Test.YtmjcgkjkhpjgbaaPolicyE
namespace Go.Proofs.Ytmjcgkjkhpjgbaa
open Go.RowKit
set_option linter.all false
set_option maxRecDepth 100000

theorem txt_nil : txt [] = ⟨#[]⟩ := rfl
set_option maxHeartbeats 16000000 in
theorem clamp_any (p : Po) (pv : Value) (c : Ck) (w : World) (rp : Rows w pv ruC p.rules) (op : PoOk 140737488351232 p) (oc : CkOk 140737488351232 c) :
    Calls Try.prog 20 #[.agg #[pv, .int .i64 p.dflt, .int .i64 p.c0, .int .i64 p.c1, .int .i64 p.c2, .int .i64 p.c3, .int .i64 p.c4, .int .i64 p.c5, .int .i64 p.c6, .int .i64 p.c7, .int .i64 p.c8, .int .i64 p.c9, .int .i64 p.c10], .agg #[.string (txt c.name), .string (txt c.value), .string (txt c.domain), .string (txt c.path), .bool c.hostOnly, .bool c.secure, .bool c.httpOnly, .bool c.lasting, .int .i64 c.site, .int .i64 c.expiry, .int .i64 c.created, .int .i64 c.used, .int .i64 c.no]] w fun e w' => e = .returned (.tuple #[.agg (ckC (clampC p c)).toArray, .int .i64 (capE p c)]) ∧ Below w.heap.size w w' := by
  obtain ⟨N, hN⟩ : ∃ N, N = capN p c := ⟨_, rfl⟩
  obtain ⟨E, hE⟩ : ∃ E, E = capE p c := ⟨_, rfl⟩
  obtain ⟨d, hd⟩ : ∃ d, d = clampC p c := ⟨_, rfl⟩
  obtain ⟨mm, hmm⟩ : ∃ m, m = min c.expiry N := ⟨_, rfl⟩
  rw [← hE, ← hd]
  have HD : Hid (d = if E = 0 then { c with expiry := min c.expiry N } else ckZ) := by show _ = _; rw [hd, hE, hN]; rfl
  have HMM : Hid (mm = min c.expiry N) := hmm
  have KL : Hid (∀ w', Rows w' pv ruC p.rules → Calls Try.prog 19 #[.agg #[pv, .int .i64 p.dflt, .int .i64 p.c0, .int .i64 p.c1, .int .i64 p.c2, .int .i64 p.c3, .int .i64 p.c4, .int .i64 p.c5, .int .i64 p.c6, .int .i64 p.c7, .int .i64 p.c8, .int .i64 p.c9, .int .i64 p.c10], .agg #[.string (txt c.name), .string (txt c.value), .string (txt c.domain), .string (txt c.path), .bool c.hostOnly, .bool c.secure, .bool c.httpOnly, .bool c.lasting, .int .i64 c.site, .int .i64 c.expiry, .int .i64 c.created, .int .i64 c.used, .int .i64 c.no]] w' fun e w'' => e = .returned (.tuple #[.int .i64 N, .int .i64 E]) ∧ Below w'.heap.size w' w'') := fun w' h1 => by rw [hN, hE]; exact latest_any p pv c w' h1 op oc
  obtain ⟨W0, hW0⟩ : ∃ W0, W0 = (((w.alloc (.cells #[pv, .int .i64 p.dflt, .int .i64 p.c0, .int .i64 p.c1, .int .i64 p.c2, .int .i64 p.c3, .int .i64 p.c4, .int .i64 p.c5, .int .i64 p.c6, .int .i64 p.c7, .int .i64 p.c8, .int .i64 p.c9, .int .i64 p.c10] 25)).alloc (.cells #[.string (txt c.name), .string (txt c.value), .string (txt c.domain), .string (txt c.path), .bool c.hostOnly, .bool c.secure, .bool c.httpOnly, .bool c.lasting, .int .i64 c.site, .int .i64 c.expiry, .int .i64 c.created, .int .i64 c.used, .int .i64 c.no] 31)).alloc (.cells #[.string ⟨#[]⟩, .string ⟨#[]⟩, .string ⟨#[]⟩, .string ⟨#[]⟩, .bool false, .bool false, .bool false, .bool false, .int .i64 0, .int .i64 0, .int .i64 0, .int .i64 0, .int .i64 0] 31)) := ⟨_, rfl⟩
  have P : Hid (PB W0 w.heap.size p pv) := by
    rw [hW0]
    have h := PB.new w p pv 25 rp
    exact ((h.below (below_new _ _)).below (below_new _ _))
  have C : Hid (KB W0 (w.heap.size + 1) c) := by
    rw [hW0]
    have h := KB.new (w.alloc (.cells #[pv, .int .i64 p.dflt, .int .i64 p.c0, .int .i64 p.c1, .int .i64 p.c2, .int .i64 p.c3, .int .i64 p.c4, .int .i64 p.c5, .int .i64 p.c6, .int .i64 p.c7, .int .i64 p.c8, .int .i64 p.c9, .int .i64 p.c10] 25)) c 31
    rw [show (w.alloc (.cells #[pv, .int .i64 p.dflt, .int .i64 p.c0, .int .i64 p.c1, .int .i64 p.c2, .int .i64 p.c3, .int .i64 p.c4, .int .i64 p.c5, .int .i64 p.c6, .int .i64 p.c7, .int .i64 p.c8, .int .i64 p.c9, .int .i64 p.c10] 25)).heap.size = w.heap.size + 1 from by simp] at h
    exact (h.below (below_new _ _))
  have R : Hid (KB W0 (w.heap.size + 1 + 1) ckZ) := by
    rw [hW0]
    have h := KB.new ((w.alloc (.cells #[pv, .int .i64 p.dflt, .int .i64 p.c0, .int .i64 p.c1, .int .i64 p.c2, .int .i64 p.c3, .int .i64 p.c4, .int .i64 p.c5, .int .i64 p.c6, .int .i64 p.c7, .int .i64 p.c8, .int .i64 p.c9, .int .i64 p.c10] 25)).alloc (.cells #[.string (txt c.name), .string (txt c.value), .string (txt c.domain), .string (txt c.path), .bool c.hostOnly, .bool c.secure, .bool c.httpOnly, .bool c.lasting, .int .i64 c.site, .int .i64 c.expiry, .int .i64 c.created, .int .i64 c.used, .int .i64 c.no] 31)) ckZ 31
    rw [show ((w.alloc (.cells #[pv, .int .i64 p.dflt, .int .i64 p.c0, .int .i64 p.c1, .int .i64 p.c2, .int .i64 p.c3, .int .i64 p.c4, .int .i64 p.c5, .int .i64 p.c6, .int .i64 p.c7, .int .i64 p.c8, .int .i64 p.c9, .int .i64 p.c10] 25)).alloc (.cells #[.string (txt c.name), .string (txt c.value), .string (txt c.domain), .string (txt c.path), .bool c.hostOnly, .bool c.secure, .bool c.httpOnly, .bool c.lasting, .int .i64 c.site, .int .i64 c.expiry, .int .i64 c.created, .int .i64 c.used, .int .i64 c.no] 31)).heap.size = w.heap.size + 1 + 1 from by simp] at h
    exact h
  have S : Hid (Below w.heap.size w W0) := by rw [hW0]; exact next (next (below_new _ _) (below_new _ _)) (below_new _ _)
  have HW0 : Hid _ := hW0
  clear rp op oc hN hE hd hmm hW0
  go_enter Try.func20, Try.ntmps20
  go_upto_region 1 with fail
  rw [← HW0.out]
  clear HW0
  have x0 := P.out.row.cell 0 rfl
  have x1 := P.out.row.cell 1 rfl
  have x2 := P.out.row.cell 2 rfl
  have x3 := P.out.row.cell 3 rfl
  have x4 := P.out.row.cell 4 rfl
  have x5 := P.out.row.cell 5 rfl
  have x6 := P.out.row.cell 6 rfl
  have x7 := P.out.row.cell 7 rfl
  have x8 := P.out.row.cell 8 rfl
  have x9 := P.out.row.cell 9 rfl
  have x10 := P.out.row.cell 10 rfl
  have x11 := P.out.row.cell 11 rfl
  have x12 := P.out.row.cell 12 rfl
  have y0 := C.out.row.cell 0 rfl
  have y1 := C.out.row.cell 1 rfl
  have y2 := C.out.row.cell 2 rfl
  have y3 := C.out.row.cell 3 rfl
  have y4 := C.out.row.cell 4 rfl
  have y5 := C.out.row.cell 5 rfl
  have y6 := C.out.row.cell 6 rfl
  have y7 := C.out.row.cell 7 rfl
  have y8 := C.out.row.cell 8 rfl
  have y9 := C.out.row.cell 9 rfl
  have y10 := C.out.row.cell 10 rfl
  have y11 := C.out.row.cell 11 rfl
  have y12 := C.out.row.cell 12 rfl
  go_wp2_with fail
  refine (KL.out _ P.out.rows).mono ?_
  rintro e Wn1 ⟨rfl, hb1⟩
  clear x0 x1 x2 x3 x4 x5 x6 x7 x8 x9 x10 x11 x12 y0 y1 y2 y3 y4 y5 y6 y7 y8 y9 y10 y11 y12
  replace P : Hid (PB Wn1 w.heap.size p pv) := P.out.below hb1
  replace C : Hid (KB Wn1 (w.heap.size + 1) c) := C.out.below hb1
  replace R : Hid (KB Wn1 (w.heap.size + 1 + 1) ckZ) := R.out.below hb1
  replace S : Hid (Below w.heap.size w Wn1) := next S.out hb1
  clear hb1
  by_cases he0 : E = 0
  rotate_left
  · have q : (E != 0) = true := by rw [bne_iff_ne]; exact he0
    have HRET : Hid (Ending.returned (.tuple #[.agg #[.string ⟨#[]⟩, .string ⟨#[]⟩, .string ⟨#[]⟩, .string ⟨#[]⟩, .bool false, .bool false, .bool false, .bool false, .int .i64 0, .int .i64 0, .int .i64 0, .int .i64 0, .int .i64 0], .int .i64 E]) = Ending.returned (.tuple #[.agg (ckC d).toArray, .int .i64 E])) := by show _ = _; rw [HD.out, if_neg he0]; rfl
    clear he0
    have o0 := R.out.row.cell 0 rfl
    have f0 := R.out.row.frozen 0 rfl
    have o1 := R.out.row.cell 1 rfl
    have f1 := R.out.row.frozen 1 rfl
    have o2 := R.out.row.cell 2 rfl
    have f2 := R.out.row.frozen 2 rfl
    have o3 := R.out.row.cell 3 rfl
    have f3 := R.out.row.frozen 3 rfl
    have o4 := R.out.row.cell 4 rfl
    have f4 := R.out.row.frozen 4 rfl
    have o5 := R.out.row.cell 5 rfl
    have f5 := R.out.row.frozen 5 rfl
    have o6 := R.out.row.cell 6 rfl
    have f6 := R.out.row.frozen 6 rfl
    have o7 := R.out.row.cell 7 rfl
    have f7 := R.out.row.frozen 7 rfl
    have o8 := R.out.row.cell 8 rfl
    have f8 := R.out.row.frozen 8 rfl
    have o9 := R.out.row.cell 9 rfl
    have f9 := R.out.row.frozen 9 rfl
    have o10 := R.out.row.cell 10 rfl
    have f10 := R.out.row.frozen 10 rfl
    have o11 := R.out.row.cell 11 rfl
    have f11 := R.out.row.frozen 11 rfl
    have o12 := R.out.row.cell 12 rfl
    have f12 := R.out.row.frozen 12 rfl
    go_wp2_with fail
    generalize hW2 : World.setCell _ _ _ = W2
    have HP : Hid (LRow W2 (w.heap.size + 1 + 1) (ckC ckZ)) := by
      rw [← hW2]
      exact ((((((((((((R.out.row.set 0 _).set 1 _).set 2 _).set 3 _).set 4 _).set 5 _).set 6 _).set 7 _).set 8 _).set 9 _).set 10 _).set 11 _).set 12 _
    have HB2 : Hid (Below w.heap.size w W2) := by
      rw [← hW2]
      iterate 13 refine Below.setCell ?_ (show w.heap.size ≤ w.heap.size + 1 + 1 by omega) _
      exact S.out
    clear hW2 o0 f0 o1 f1 o2 f2 o3 f3 o4 f4 o5 f5 o6 f6 o7 f7 o8 f8 o9 f9 o10 f10 o11 f11 o12 f12
    have p0 := HP.out.cell 0 rfl
    have p1 := HP.out.cell 1 rfl
    have p2 := HP.out.cell 2 rfl
    have p3 := HP.out.cell 3 rfl
    have p4 := HP.out.cell 4 rfl
    have p5 := HP.out.cell 5 rfl
    have p6 := HP.out.cell 6 rfl
    have p7 := HP.out.cell 7 rfl
    have p8 := HP.out.cell 8 rfl
    have p9 := HP.out.cell 9 rfl
    have p10 := HP.out.cell 10 rfl
    have p11 := HP.out.cell 11 rfl
    have p12 := HP.out.cell 12 rfl
    exact bodyPost_ret (v := .tuple #[.agg #[.string ⟨#[]⟩, .string ⟨#[]⟩, .string ⟨#[]⟩, .string ⟨#[]⟩, .bool false, .bool false, .bool false, .bool false, .int .i64 0, .int .i64 0, .int .i64 0, .int .i64 0, .int .i64 0], .int .i64 E]) (by simp [results, Try.results20, go_sem, ckZ, txt_nil, p0, p1, p2, p3, p4, p5, p6, p7, p8, p9, p10, p11, p12]) rfl ⟨HRET.out, HB2.out⟩
  have q : (E != 0) = false := by rw [he0]; rfl
  have HRET : Hid (Ending.returned (.tuple #[.agg #[.string (txt c.name), .string (txt c.value), .string (txt c.domain), .string (txt c.path), .bool c.hostOnly, .bool c.secure, .bool c.httpOnly, .bool c.lasting, .int .i64 c.site, .int .i64 mm, .int .i64 c.created, .int .i64 c.used, .int .i64 c.no], .int .i64 0]) = Ending.returned (.tuple #[.agg (ckC d).toArray, .int .i64 E])) := by show _ = _; rw [HD.out, if_pos he0, he0, HMM.out]; rfl
  have hmin : min c.expiry N = mm := HMM.out.symm
  clear he0
  obtain ⟨W3, hW3⟩ : ∃ W3, W3 = Wn1.setCell ⟨w.heap.size + 1, 9, none⟩ (.int .i64 mm) := ⟨_, rfl⟩
  have C3 : Hid (LRow W3 (w.heap.size + 1) (ckC { c with expiry := mm })) := by rw [hW3]; exact C.out.row.set 9 (.int .i64 mm)
  have R3 : Hid (LRow W3 (w.heap.size + 1 + 1) (ckC ckZ)) := by rw [hW3]; exact rowSet R.out.row (by omega)
  have S3 : Hid (Below w.heap.size w W3) := by rw [hW3]; exact S.out.setCell (p := ⟨w.heap.size + 1, 9, none⟩) (Nat.le_succ _) _
  have HW3 : Hid _ := hW3
  clear hW3
  have x9 := C.out.row.cell 9 rfl
  have y9 := C.out.row.frozen 9 rfl
  go_upto_region 5 with fail
  rw [← HW3.out]
  clear HW3 x9 y9
  have x0 := C3.out.cell 0 rfl
  have o0 := R3.out.cell 0 rfl
  have f0 := R3.out.frozen 0 rfl
  have x1 := C3.out.cell 1 rfl
  have o1 := R3.out.cell 1 rfl
  have f1 := R3.out.frozen 1 rfl
  have x2 := C3.out.cell 2 rfl
  have o2 := R3.out.cell 2 rfl
  have f2 := R3.out.frozen 2 rfl
  have x3 := C3.out.cell 3 rfl
  have o3 := R3.out.cell 3 rfl
  have f3 := R3.out.frozen 3 rfl
  have x4 := C3.out.cell 4 rfl
  have o4 := R3.out.cell 4 rfl
  have f4 := R3.out.frozen 4 rfl
  have x5 := C3.out.cell 5 rfl
  have o5 := R3.out.cell 5 rfl
  have f5 := R3.out.frozen 5 rfl
  have x6 := C3.out.cell 6 rfl
  have o6 := R3.out.cell 6 rfl
  have f6 := R3.out.frozen 6 rfl
  have x7 := C3.out.cell 7 rfl
  have o7 := R3.out.cell 7 rfl
  have f7 := R3.out.frozen 7 rfl
  have x8 := C3.out.cell 8 rfl
  have o8 := R3.out.cell 8 rfl
  have f8 := R3.out.frozen 8 rfl
  have x9 := C3.out.cell 9 rfl
  have o9 := R3.out.cell 9 rfl
  have f9 := R3.out.frozen 9 rfl
  have x10 := C3.out.cell 10 rfl
  have o10 := R3.out.cell 10 rfl
  have f10 := R3.out.frozen 10 rfl
  have x11 := C3.out.cell 11 rfl
  have o11 := R3.out.cell 11 rfl
  have f11 := R3.out.frozen 11 rfl
  have x12 := C3.out.cell 12 rfl
  have o12 := R3.out.cell 12 rfl
  have f12 := R3.out.frozen 12 rfl
  go_wp2_with fail
  generalize hW2 : World.setCell _ _ _ = W2
  have HP : Hid (LRow W2 (w.heap.size + 1 + 1) (ckC { c with expiry := mm })) := by
    rw [← hW2]
    exact ((((((((((((R3.out.set 0 _).set 1 _).set 2 _).set 3 _).set 4 _).set 5 _).set 6 _).set 7 _).set 8 _).set 9 _).set 10 _).set 11 _).set 12 _
  have HB2 : Hid (Below w.heap.size w W2) := by
    rw [← hW2]
    iterate 13 refine Below.setCell ?_ (show w.heap.size ≤ w.heap.size + 1 + 1 by omega) _
    exact S3.out
  clear hW2 o0 f0 o1 f1 o2 f2 o3 f3 o4 f4 o5 f5 o6 f6 o7 f7 o8 f8 o9 f9 o10 f10 o11 f11 o12 f12 x0 x1 x2 x3 x4 x5 x6 x7 x8 x9 x10 x11 x12
  have p0 := HP.out.cell 0 rfl
  have p1 := HP.out.cell 1 rfl
  have p2 := HP.out.cell 2 rfl
  have p3 := HP.out.cell 3 rfl
  have p4 := HP.out.cell 4 rfl
  have p5 := HP.out.cell 5 rfl
  have p6 := HP.out.cell 6 rfl
  have p7 := HP.out.cell 7 rfl
  have p8 := HP.out.cell 8 rfl
  have p9 := HP.out.cell 9 rfl
  have p10 := HP.out.cell 10 rfl
  have p11 := HP.out.cell 11 rfl
  have p12 := HP.out.cell 12 rfl
  exact bodyPost_ret (v := .tuple #[.agg #[.string (txt c.name), .string (txt c.value), .string (txt c.domain), .string (txt c.path), .bool c.hostOnly, .bool c.secure, .bool c.httpOnly, .bool c.lasting, .int .i64 c.site, .int .i64 mm, .int .i64 c.created, .int .i64 c.used, .int .i64 c.no], .int .i64 0]) (by simp [results, Try.results20, go_sem, ckZ, p0, p1, p2, p3, p4, p5, p6, p7, p8, p9, p10, p11, p12]) rfl ⟨HRET.out, HB2.out⟩
end Go.Proofs.Ytmjcgkjkhpjgbaa
