/- The contracts of Latest and Clamp, and what must be in any case of caps. -/
import Derived.Test.YtmjcgkjkhpjgbaaPolicyK
import Derived.Test.YtmjcgkjkhpjgbaaClockB
import Derived.Deep.RegionHeld3
namespace Go.Proofs.Ytmjcgkjkhpjgbaa
open Go.RowKit
set_option linter.all false
set_option maxRecDepth 100000

def capE (p : Po) (c : Ck) : Int := if chP p = 0 then (if momB c.created then 0 else 3) else chP p
def capN (p : Po) (c : Ck) : Int := if chP p = 0 then (if momB c.created then addN c.created (p.caps[(kindP p c).1.toNat]?.getD 0) else 0) else 0
def clampC (p : Po) (c : Ck) : Ck := if capE p c = 0 then { c with expiry := min c.expiry (capN p c) } else ckZ
theorem poL_cap (p : Po) (pv : Value) (a : Nat) (ha : a < 11) : (poL p pv)[2 + a]? = some (.int .i64 (p.caps[a]?.getD 0)) := by
  rcases eleven a ha with rfl | rfl | rfl | rfl | rfl | rfl | rfl | rfl | rfl | rfl | rfl <;> rfl
theorem cap_i64 {p : Po} {m : Nat} (h : PoOk m p) (a : Nat) : i64B (p.caps[a]?.getD 0) := by
  cases e : p.caps[a]? with
  | none => show i64B 0; unfold i64B; omega
  | some x => exact h.caps x (List.mem_of_getElem? e)
set_option maxHeartbeats 8000000 in
theorem latest_any (p : Po) (pv : Value) (c : Ck) (w : World) (rp : Rows w pv ruC p.rules) (op : PoOk 140737488351232 p) (oc : CkOk 140737488351232 c) :
    Calls Try.prog 19 #[.agg #[pv, .int .i64 p.dflt, .int .i64 p.c0, .int .i64 p.c1, .int .i64 p.c2, .int .i64 p.c3, .int .i64 p.c4, .int .i64 p.c5, .int .i64 p.c6, .int .i64 p.c7, .int .i64 p.c8, .int .i64 p.c9, .int .i64 p.c10], .agg #[.string (txt c.name), .string (txt c.value), .string (txt c.domain), .string (txt c.path), .bool c.hostOnly, .bool c.secure, .bool c.httpOnly, .bool c.lasting, .int .i64 c.site, .int .i64 c.expiry, .int .i64 c.created, .int .i64 c.used, .int .i64 c.no]] w fun e w' => e = .returned (.tuple #[.int .i64 (capN p c), .int .i64 (capE p c)]) ∧ Below w.heap.size w w' := by
  obtain ⟨N, hN⟩ : ∃ N, N = capN p c := ⟨_, rfl⟩
  obtain ⟨E, hE⟩ : ∃ E, E = capE p c := ⟨_, rfl⟩
  obtain ⟨z, hz⟩ : ∃ z, z = chP p := ⟨_, rfl⟩
  obtain ⟨a, ha⟩ : ∃ a, a = (kindP p c).1.toNat := ⟨_, rfl⟩
  obtain ⟨ai, hai⟩ : ∃ ai, ai = (kindP p c).1 := ⟨_, rfl⟩
  obtain ⟨b, hb⟩ : ∃ b, b = (kindP p c).2 := ⟨_, rfl⟩
  obtain ⟨s, hs⟩ : ∃ s, s = p.caps[a]?.getD 0 := ⟨_, rfl⟩
  have HSS : Hid (s = p.caps[a]?.getD 0) := hs
  have KC : Hid (∀ w', Rows w' pv ruC p.rules → Calls Try.prog 13 #[.agg #[pv, .int .i64 p.dflt, .int .i64 p.c0, .int .i64 p.c1, .int .i64 p.c2, .int .i64 p.c3, .int .i64 p.c4, .int .i64 p.c5, .int .i64 p.c6, .int .i64 p.c7, .int .i64 p.c8, .int .i64 p.c9, .int .i64 p.c10]] w' fun e w'' => e = .returned (.int .i64 z) ∧ Below w'.heap.size w' w'') := fun w' h1 => by rw [hz]; exact polCheck_any p pv w' h1 op.len op.rules
  have KK0 : ∀ w', Rows w' pv ruC p.rules → Calls Try.prog 10 #[.agg #[pv, .int .i64 p.dflt, .int .i64 p.c0, .int .i64 p.c1, .int .i64 p.c2, .int .i64 p.c3, .int .i64 p.c4, .int .i64 p.c5, .int .i64 p.c6, .int .i64 p.c7, .int .i64 p.c8, .int .i64 p.c9, .int .i64 p.c10], .agg #[.string (txt c.name), .string (txt c.value), .string (txt c.domain), .string (txt c.path), .bool c.hostOnly, .bool c.secure, .bool c.httpOnly, .bool c.lasting, .int .i64 c.site, .int .i64 c.expiry, .int .i64 c.created, .int .i64 c.used, .int .i64 c.no]] w' fun e w'' => e = .returned (.tuple #[.int .i64 ai, .int .i64 b]) ∧ Below w'.heap.size w' w'' := fun w' h1 => by rw [hai, hb]; exact kind_any p pv c w' h1 op.len op.rules oc
  have HNZ : Hid (¬ z = 0 → N = 0 ∧ E = z) := fun h => by
    rw [hz] at h
    rw [hN, hE, hz]
    unfold capN capE
    rw [if_neg h, if_neg h]; exact ⟨rfl, rfl⟩
  have HYZ : Hid (z = 0 → a < 11 ∧ ∀ w', Calls Try.prog 36 #[.int .i64 c.created, .int .i64 s] w' fun e w'' => e = .returned (.tuple #[.int .i64 N, .int .i64 E]) ∧ w'' = w') := fun h => by
    rw [hz] at h
    have hr := kindP_range h c
    refine ⟨by rw [ha]; omega, fun w' => ?_⟩
    rw [hN, hE]
    unfold capN capE
    rw [if_pos h, if_pos h, hs, ha]
    cases hm : momB c.created
    · exact add_no c.created _ hm w'
    · exact add_yes c.created _ hm (cap_i64 op _) w'
  have HAI : Hid (z = 0 → ai = (a : Int)) := fun h => by
    rw [hz] at h
    have hr := kindP_range h c
    rw [hai, ha]; omega
  rw [← hN, ← hE]
  by_cases hz1 : z = 0
  · obtain rfl : ai = (a : Int) := HAI.out hz1
    have KK : Hid (∀ w', Rows w' pv ruC p.rules → Calls Try.prog 10 #[.agg #[pv, .int .i64 p.dflt, .int .i64 p.c0, .int .i64 p.c1, .int .i64 p.c2, .int .i64 p.c3, .int .i64 p.c4, .int .i64 p.c5, .int .i64 p.c6, .int .i64 p.c7, .int .i64 p.c8, .int .i64 p.c9, .int .i64 p.c10], .agg #[.string (txt c.name), .string (txt c.value), .string (txt c.domain), .string (txt c.path), .bool c.hostOnly, .bool c.secure, .bool c.httpOnly, .bool c.lasting, .int .i64 c.site, .int .i64 c.expiry, .int .i64 c.created, .int .i64 c.used, .int .i64 c.no]] w' fun e w'' => e = .returned (.tuple #[.int .i64 (a : Int), .int .i64 b]) ∧ Below w'.heap.size w' w'') := KK0
    clear KK0 hz1 HAI
    obtain ⟨W0, hW0⟩ : ∃ W0, W0 = ((w.alloc (.cells #[pv, .int .i64 p.dflt, .int .i64 p.c0, .int .i64 p.c1, .int .i64 p.c2, .int .i64 p.c3, .int .i64 p.c4, .int .i64 p.c5, .int .i64 p.c6, .int .i64 p.c7, .int .i64 p.c8, .int .i64 p.c9, .int .i64 p.c10] 25)).alloc (.cells #[.string (txt c.name), .string (txt c.value), .string (txt c.domain), .string (txt c.path), .bool c.hostOnly, .bool c.secure, .bool c.httpOnly, .bool c.lasting, .int .i64 c.site, .int .i64 c.expiry, .int .i64 c.created, .int .i64 c.used, .int .i64 c.no] 31)) := ⟨_, rfl⟩
    have P : Hid (PB W0 w.heap.size p pv) := by
      rw [hW0]
      have h := PB.new w p pv 25 rp
      exact (h.below (below_new _ _))
    have C : Hid (KB W0 (w.heap.size + 1) c) := by
      rw [hW0]
      have h := KB.new (w.alloc (.cells #[pv, .int .i64 p.dflt, .int .i64 p.c0, .int .i64 p.c1, .int .i64 p.c2, .int .i64 p.c3, .int .i64 p.c4, .int .i64 p.c5, .int .i64 p.c6, .int .i64 p.c7, .int .i64 p.c8, .int .i64 p.c9, .int .i64 p.c10] 25)) c 31
      rw [show (w.alloc (.cells #[pv, .int .i64 p.dflt, .int .i64 p.c0, .int .i64 p.c1, .int .i64 p.c2, .int .i64 p.c3, .int .i64 p.c4, .int .i64 p.c5, .int .i64 p.c6, .int .i64 p.c7, .int .i64 p.c8, .int .i64 p.c9, .int .i64 p.c10] 25)).heap.size = w.heap.size + 1 from by simp] at h
      exact h
    have S : Hid (Below w.heap.size w W0) := by rw [hW0]; exact next (below_new _ _) (below_new _ _)
    have HW0 : Hid _ := hW0
    clear rp op oc hN hE hz ha hai hb hs hW0
    go_enter Try.func19, Try.ntmps19
    go_upto_region 1 with fail
    rw [← HW0.out]
    clear HW0
    have x0 := P.out.row.cell 0 rfl
    have x1 := P.out.row.cell 1 rfl
    have x2 := P.out.row.cell 2 rfl
    have x3 := P.out.row.cell 3 rfl
    have x4 := P.out.row.cell 4 rfl
    have x5 := P.out.row.cell 5 rfl
    have x6 := P.out.row.cell 6 rfl
    have x7 := P.out.row.cell 7 rfl
    have x8 := P.out.row.cell 8 rfl
    have x9 := P.out.row.cell 9 rfl
    have x10 := P.out.row.cell 10 rfl
    have x11 := P.out.row.cell 11 rfl
    have x12 := P.out.row.cell 12 rfl
    go_wp2_with fail
    refine (KC.out _ P.out.rows).mono ?_
    rintro e Wn1 ⟨rfl, hb1⟩
    clear x0 x1 x2 x3 x4 x5 x6 x7 x8 x9 x10 x11 x12
    replace P : Hid (PB Wn1 w.heap.size p pv) := P.out.below hb1
    replace C : Hid (KB Wn1 (w.heap.size + 1) c) := C.out.below hb1
    replace S : Hid (Below w.heap.size w Wn1) := next S.out hb1
    clear hb1
    by_cases hz0 : z = 0
    rotate_left
    · have q : (z != 0) = true := by rw [bne_iff_ne]; exact hz0
      have HX : Hid (N = 0 ∧ E = z) := HNZ.out hz0
      clear hz0
      go_wp2_with fail
      go_ret2
      exact ⟨by rw [HX.out.1, HX.out.2]; rfl, S.out⟩
    have q : (z != 0) = false := by rw [hz0]; rfl
    obtain ⟨ha, KA⟩ := HYZ.out hz0
    have ha2 : (a : Int) < 11 := by omega
    have ha3 : (0 : Int) ≤ (a : Int) := by omega
    have KAD : Hid _ := KA
    clear KA hz0 HYZ HNZ
    have x0 := P.out.row.cell 0 rfl
    have x1 := P.out.row.cell 1 rfl
    have x2 := P.out.row.cell 2 rfl
    have x3 := P.out.row.cell 3 rfl
    have x4 := P.out.row.cell 4 rfl
    have x5 := P.out.row.cell 5 rfl
    have x6 := P.out.row.cell 6 rfl
    have x7 := P.out.row.cell 7 rfl
    have x8 := P.out.row.cell 8 rfl
    have x9 := P.out.row.cell 9 rfl
    have x10 := P.out.row.cell 10 rfl
    have x11 := P.out.row.cell 11 rfl
    have x12 := P.out.row.cell 12 rfl
    have y0 := C.out.row.cell 0 rfl
    have y1 := C.out.row.cell 1 rfl
    have y2 := C.out.row.cell 2 rfl
    have y3 := C.out.row.cell 3 rfl
    have y4 := C.out.row.cell 4 rfl
    have y5 := C.out.row.cell 5 rfl
    have y6 := C.out.row.cell 6 rfl
    have y7 := C.out.row.cell 7 rfl
    have y8 := C.out.row.cell 8 rfl
    have y9 := C.out.row.cell 9 rfl
    have y10 := C.out.row.cell 10 rfl
    have y11 := C.out.row.cell 11 rfl
    have y12 := C.out.row.cell 12 rfl
    go_wp2_with fail
    refine (KK.out _ P.out.rows).mono ?_
    rintro e Wn2 ⟨rfl, hb2⟩
    clear x0 x1 x2 x3 x4 x5 x6 x7 x8 x9 x10 x11 x12 y0 y1 y2 y3 y4 y5 y6 y7 y8 y9 y10 y11 y12
    replace P : Hid (PB Wn2 w.heap.size p pv) := P.out.below hb2
    replace C : Hid (KB Wn2 (w.heap.size + 1) c) := C.out.below hb2
    replace S : Hid (Below w.heap.size w Wn2) := next S.out hb2
    clear hb2
    have e10 : ∀ w', Below Wn2.heap.size Wn2 w' → w'.cell? ⟨w.heap.size + 1, 10, none⟩ = some (.int .i64 c.created) := fun w' h => (C.out.below h).row.cell 10 rfl
    have ecap : ∀ w', Below Wn2.heap.size Wn2 w' → w'.cell? ⟨w.heap.size, 2 + a, none⟩ = some (.int .i64 s) := fun w' h => (P.out.below h).row.cell (2 + a) (by rw [HSS.out]; exact poL_cap p pv a ha)
    go_upto_region 5 with fail
    go_region_held3 (fun w' => Below Wn2.heap.size Wn2 w') (first | assumption | exact (Below.refl _ Wn2).drew | exact Below.drew (by assumption) | fail)
      (first
      | (go_at_call 36; refine (KAD.out _).mono ?_; rintro e wN ⟨rfl, hwN⟩; have hSN : Below Wn2.heap.size Wn2 wN := by rw [hwN]; first | assumption | exact (Below.refl _ Wn2).drew
         clear hwN)
      | fail)
    go_wp2_with fail
    go_ret2
    exact ⟨rfl, next S.out (by assumption)⟩
  · have HX : Hid (N = 0 ∧ E = z) := HNZ.out hz1
    have q : (z != 0) = true := by rw [bne_iff_ne]; exact hz1
    obtain ⟨W0, hW0⟩ : ∃ W0, W0 = ((w.alloc (.cells #[pv, .int .i64 p.dflt, .int .i64 p.c0, .int .i64 p.c1, .int .i64 p.c2, .int .i64 p.c3, .int .i64 p.c4, .int .i64 p.c5, .int .i64 p.c6, .int .i64 p.c7, .int .i64 p.c8, .int .i64 p.c9, .int .i64 p.c10] 25)).alloc (.cells #[.string (txt c.name), .string (txt c.value), .string (txt c.domain), .string (txt c.path), .bool c.hostOnly, .bool c.secure, .bool c.httpOnly, .bool c.lasting, .int .i64 c.site, .int .i64 c.expiry, .int .i64 c.created, .int .i64 c.used, .int .i64 c.no] 31)) := ⟨_, rfl⟩
    have P : Hid (PB W0 w.heap.size p pv) := by
      rw [hW0]
      have h := PB.new w p pv 25 rp
      exact (h.below (below_new _ _))
    have C : Hid (KB W0 (w.heap.size + 1) c) := by
      rw [hW0]
      have h := KB.new (w.alloc (.cells #[pv, .int .i64 p.dflt, .int .i64 p.c0, .int .i64 p.c1, .int .i64 p.c2, .int .i64 p.c3, .int .i64 p.c4, .int .i64 p.c5, .int .i64 p.c6, .int .i64 p.c7, .int .i64 p.c8, .int .i64 p.c9, .int .i64 p.c10] 25)) c 31
      rw [show (w.alloc (.cells #[pv, .int .i64 p.dflt, .int .i64 p.c0, .int .i64 p.c1, .int .i64 p.c2, .int .i64 p.c3, .int .i64 p.c4, .int .i64 p.c5, .int .i64 p.c6, .int .i64 p.c7, .int .i64 p.c8, .int .i64 p.c9, .int .i64 p.c10] 25)).heap.size = w.heap.size + 1 from by simp] at h
      exact h
    have S : Hid (Below w.heap.size w W0) := by rw [hW0]; exact next (below_new _ _) (below_new _ _)
    have HW0 : Hid _ := hW0
    clear rp op oc hN hE hz ha hai hb hs hW0 KK0 HNZ HYZ HAI hz1
    go_enter Try.func19, Try.ntmps19
    go_upto_region 1 with fail
    rw [← HW0.out]
    clear HW0
    have x0 := P.out.row.cell 0 rfl
    have x1 := P.out.row.cell 1 rfl
    have x2 := P.out.row.cell 2 rfl
    have x3 := P.out.row.cell 3 rfl
    have x4 := P.out.row.cell 4 rfl
    have x5 := P.out.row.cell 5 rfl
    have x6 := P.out.row.cell 6 rfl
    have x7 := P.out.row.cell 7 rfl
    have x8 := P.out.row.cell 8 rfl
    have x9 := P.out.row.cell 9 rfl
    have x10 := P.out.row.cell 10 rfl
    have x11 := P.out.row.cell 11 rfl
    have x12 := P.out.row.cell 12 rfl
    go_wp2_with fail
    refine (KC.out _ P.out.rows).mono ?_
    rintro e w1 ⟨rfl, hb1⟩
    have S1 : Hid _ := next S.out hb1
    clear hb1
    go_wp2_with fail
    go_ret2
    exact ⟨by rw [HX.out.1, HX.out.2]; rfl, S1.out⟩
end Go.Proofs.Ytmjcgkjkhpjgbaa
