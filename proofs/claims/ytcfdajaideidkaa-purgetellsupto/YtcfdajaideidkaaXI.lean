/- The contracts of Latest and Clamp, and what must be in any case of caps. The contract of Clamp. What must be in any case of caps. -/
import Derived.Test.YtcfdajaideidkaaPolicyK
import Derived.Test.YtcfdajaideidkaaClockB
import Derived.Deep.RegionHeld3
import Derived.Deep.Cut
import Derived.Deep.CutRange
import Derived.Deep.RegionWith
namespace Go.Proofs.Ytcfdajaideidkaa
open Go.RowKit
set_option linter.all false
set_option maxRecDepth 100000
set_option maxRecDepth 100000

def capE (p : Po) (c : Ck) : Int := if chP p = 0 then (if momB c.created then 0 else 3) else chP p
def capN (p : Po) (c : Ck) : Int := if chP p = 0 then (if momB c.created then addN c.created (p.caps[(kindP p c).1.toNat]?.getD 0) else 0) else 0
def clampC (p : Po) (c : Ck) : Ck := if capE p c = 0 then { c with expiry := min c.expiry (capN p c) } else ckZ
theorem poL_cap (p : Po) (pv : Value) (a : Nat) (ha : a < 11) : (poL p pv)[2 + a]? = some (.int .i64 (p.caps[a]?.getD 0)) := by
  rcases eleven a ha with rfl | rfl | rfl | rfl | rfl | rfl | rfl | rfl | rfl | rfl | rfl <;> rfl
theorem cap_i64 {p : Po} {m : Nat} (h : PoOk m p) (a : Nat) : i64B (p.caps[a]?.getD 0) := by
  cases e : p.caps[a]? with
  | none => show i64B 0; unfold i64B; omega
  | some x => exact h.caps x (List.mem_of_getElem? e)
set_option maxHeartbeats 8000000 in
theorem latest_any (p : Po) (pv : Value) (c : Ck) (w : World) (rp : Rows w pv ruC p.rules) (op : PoOk 140737488351232 p) (oc : CkOk 140737488351232 c) :
    Calls Try.prog 54 #[.agg #[pv, .int .i64 p.dflt, .int .i64 p.c0, .int .i64 p.c1, .int .i64 p.c2, .int .i64 p.c3, .int .i64 p.c4, .int .i64 p.c5, .int .i64 p.c6, .int .i64 p.c7, .int .i64 p.c8, .int .i64 p.c9, .int .i64 p.c10], .agg #[.string (txt c.name), .string (txt c.value), .string (txt c.domain), .string (txt c.path), .bool c.hostOnly, .bool c.secure, .bool c.httpOnly, .bool c.lasting, .int .i64 c.site, .int .i64 c.expiry, .int .i64 c.created, .int .i64 c.used, .int .i64 c.no]] w fun e w' => e = .returned (.tuple #[.int .i64 (capN p c), .int .i64 (capE p c)]) ∧ Below w.heap.size w w' := by
  obtain ⟨N, hN⟩ : ∃ N, N = capN p c := ⟨_, rfl⟩
  obtain ⟨E, hE⟩ : ∃ E, E = capE p c := ⟨_, rfl⟩
  obtain ⟨z, hz⟩ : ∃ z, z = chP p := ⟨_, rfl⟩
  obtain ⟨a, ha⟩ : ∃ a, a = (kindP p c).1.toNat := ⟨_, rfl⟩
  obtain ⟨ai, hai⟩ : ∃ ai, ai = (kindP p c).1 := ⟨_, rfl⟩
  obtain ⟨b, hb⟩ : ∃ b, b = (kindP p c).2 := ⟨_, rfl⟩
  obtain ⟨s, hs⟩ : ∃ s, s = p.caps[a]?.getD 0 := ⟨_, rfl⟩
  have HSS : Hid (s = p.caps[a]?.getD 0) := hs
  have KC : Hid (∀ w', Rows w' pv ruC p.rules → Calls Try.prog 22 #[.agg #[pv, .int .i64 p.dflt, .int .i64 p.c0, .int .i64 p.c1, .int .i64 p.c2, .int .i64 p.c3, .int .i64 p.c4, .int .i64 p.c5, .int .i64 p.c6, .int .i64 p.c7, .int .i64 p.c8, .int .i64 p.c9, .int .i64 p.c10]] w' fun e w'' => e = .returned (.int .i64 z) ∧ Below w'.heap.size w' w'') := fun w' h1 => by rw [hz]; exact polCheck_any p pv w' h1 op.len op.rules
  have KK0 : ∀ w', Rows w' pv ruC p.rules → Calls Try.prog 40 #[.agg #[pv, .int .i64 p.dflt, .int .i64 p.c0, .int .i64 p.c1, .int .i64 p.c2, .int .i64 p.c3, .int .i64 p.c4, .int .i64 p.c5, .int .i64 p.c6, .int .i64 p.c7, .int .i64 p.c8, .int .i64 p.c9, .int .i64 p.c10], .agg #[.string (txt c.name), .string (txt c.value), .string (txt c.domain), .string (txt c.path), .bool c.hostOnly, .bool c.secure, .bool c.httpOnly, .bool c.lasting, .int .i64 c.site, .int .i64 c.expiry, .int .i64 c.created, .int .i64 c.used, .int .i64 c.no]] w' fun e w'' => e = .returned (.tuple #[.int .i64 ai, .int .i64 b]) ∧ Below w'.heap.size w' w'' := fun w' h1 => by rw [hai, hb]; exact kind_any p pv c w' h1 op.len op.rules oc
  have HNZ : Hid (¬ z = 0 → N = 0 ∧ E = z) := fun h => by
    rw [hz] at h
    rw [hN, hE, hz]
    unfold capN capE
    rw [if_neg h, if_neg h]; exact ⟨rfl, rfl⟩
  have HYZ : Hid (z = 0 → a < 11 ∧ ∀ w', Calls Try.prog 51 #[.int .i64 c.created, .int .i64 s] w' fun e w'' => e = .returned (.tuple #[.int .i64 N, .int .i64 E]) ∧ w'' = w') := fun h => by
    rw [hz] at h
    have hr := kindP_range h c
    refine ⟨by rw [ha]; omega, fun w' => ?_⟩
    rw [hN, hE]
    unfold capN capE
    rw [if_pos h, if_pos h, hs, ha]
    cases hm : momB c.created
    · exact add_no c.created _ hm w'
    · exact add_yes c.created _ hm (cap_i64 op _) w'
  have HAI : Hid (z = 0 → ai = (a : Int)) := fun h => by
    rw [hz] at h
    have hr := kindP_range h c
    rw [hai, ha]; omega
  rw [← hN, ← hE]
  by_cases hz1 : z = 0
  · obtain rfl : ai = (a : Int) := HAI.out hz1
    have KK : Hid (∀ w', Rows w' pv ruC p.rules → Calls Try.prog 40 #[.agg #[pv, .int .i64 p.dflt, .int .i64 p.c0, .int .i64 p.c1, .int .i64 p.c2, .int .i64 p.c3, .int .i64 p.c4, .int .i64 p.c5, .int .i64 p.c6, .int .i64 p.c7, .int .i64 p.c8, .int .i64 p.c9, .int .i64 p.c10], .agg #[.string (txt c.name), .string (txt c.value), .string (txt c.domain), .string (txt c.path), .bool c.hostOnly, .bool c.secure, .bool c.httpOnly, .bool c.lasting, .int .i64 c.site, .int .i64 c.expiry, .int .i64 c.created, .int .i64 c.used, .int .i64 c.no]] w' fun e w'' => e = .returned (.tuple #[.int .i64 (a : Int), .int .i64 b]) ∧ Below w'.heap.size w' w'') := KK0
    clear KK0 hz1 HAI
    obtain ⟨W0, hW0⟩ : ∃ W0, W0 = ((w.alloc (.cells #[pv, .int .i64 p.dflt, .int .i64 p.c0, .int .i64 p.c1, .int .i64 p.c2, .int .i64 p.c3, .int .i64 p.c4, .int .i64 p.c5, .int .i64 p.c6, .int .i64 p.c7, .int .i64 p.c8, .int .i64 p.c9, .int .i64 p.c10] 28)).alloc (.cells #[.string (txt c.name), .string (txt c.value), .string (txt c.domain), .string (txt c.path), .bool c.hostOnly, .bool c.secure, .bool c.httpOnly, .bool c.lasting, .int .i64 c.site, .int .i64 c.expiry, .int .i64 c.created, .int .i64 c.used, .int .i64 c.no] 34)) := ⟨_, rfl⟩
    have P : Hid (PB W0 w.heap.size p pv) := by
      rw [hW0]
      have h := PB.new w p pv 28 rp
      exact (h.below (below_new _ _))
    have C : Hid (KB W0 (w.heap.size + 1) c) := by
      rw [hW0]
      have h := KB.new (w.alloc (.cells #[pv, .int .i64 p.dflt, .int .i64 p.c0, .int .i64 p.c1, .int .i64 p.c2, .int .i64 p.c3, .int .i64 p.c4, .int .i64 p.c5, .int .i64 p.c6, .int .i64 p.c7, .int .i64 p.c8, .int .i64 p.c9, .int .i64 p.c10] 28)) c 34
      rw [show (w.alloc (.cells #[pv, .int .i64 p.dflt, .int .i64 p.c0, .int .i64 p.c1, .int .i64 p.c2, .int .i64 p.c3, .int .i64 p.c4, .int .i64 p.c5, .int .i64 p.c6, .int .i64 p.c7, .int .i64 p.c8, .int .i64 p.c9, .int .i64 p.c10] 28)).heap.size = w.heap.size + 1 from by simp] at h
      exact h
    have S : Hid (Below w.heap.size w W0) := by rw [hW0]; exact next (below_new _ _) (below_new _ _)
    have HW0 : Hid _ := hW0
    clear rp op oc hN hE hz ha hai hb hs hW0
    go_enter Try.func54, Try.ntmps54
    go_upto_region 1 with fail
    rw [← HW0.out]
    clear HW0
    have x0 := P.out.row.cell 0 rfl
    have x1 := P.out.row.cell 1 rfl
    have x2 := P.out.row.cell 2 rfl
    have x3 := P.out.row.cell 3 rfl
    have x4 := P.out.row.cell 4 rfl
    have x5 := P.out.row.cell 5 rfl
    have x6 := P.out.row.cell 6 rfl
    have x7 := P.out.row.cell 7 rfl
    have x8 := P.out.row.cell 8 rfl
    have x9 := P.out.row.cell 9 rfl
    have x10 := P.out.row.cell 10 rfl
    have x11 := P.out.row.cell 11 rfl
    have x12 := P.out.row.cell 12 rfl
    go_wp2_with fail
    refine (KC.out _ P.out.rows).mono ?_
    rintro e Wn1 ⟨rfl, hb1⟩
    clear x0 x1 x2 x3 x4 x5 x6 x7 x8 x9 x10 x11 x12
    replace P : Hid (PB Wn1 w.heap.size p pv) := P.out.below hb1
    replace C : Hid (KB Wn1 (w.heap.size + 1) c) := C.out.below hb1
    replace S : Hid (Below w.heap.size w Wn1) := next S.out hb1
    clear hb1
    by_cases hz0 : z = 0
    rotate_left
    · have q : (z != 0) = true := by rw [bne_iff_ne]; exact hz0
      have HX : Hid (N = 0 ∧ E = z) := HNZ.out hz0
      clear hz0
      go_wp2_with fail
      go_ret2
      exact ⟨by rw [HX.out.1, HX.out.2]; rfl, S.out⟩
    have q : (z != 0) = false := by rw [hz0]; rfl
    obtain ⟨ha, KA⟩ := HYZ.out hz0
    have ha2 : (a : Int) < 11 := by omega
    have ha3 : (0 : Int) ≤ (a : Int) := by omega
    have KAD : Hid _ := KA
    clear KA hz0 HYZ HNZ
    have x0 := P.out.row.cell 0 rfl
    have x1 := P.out.row.cell 1 rfl
    have x2 := P.out.row.cell 2 rfl
    have x3 := P.out.row.cell 3 rfl
    have x4 := P.out.row.cell 4 rfl
    have x5 := P.out.row.cell 5 rfl
    have x6 := P.out.row.cell 6 rfl
    have x7 := P.out.row.cell 7 rfl
    have x8 := P.out.row.cell 8 rfl
    have x9 := P.out.row.cell 9 rfl
    have x10 := P.out.row.cell 10 rfl
    have x11 := P.out.row.cell 11 rfl
    have x12 := P.out.row.cell 12 rfl
    have y0 := C.out.row.cell 0 rfl
    have y1 := C.out.row.cell 1 rfl
    have y2 := C.out.row.cell 2 rfl
    have y3 := C.out.row.cell 3 rfl
    have y4 := C.out.row.cell 4 rfl
    have y5 := C.out.row.cell 5 rfl
    have y6 := C.out.row.cell 6 rfl
    have y7 := C.out.row.cell 7 rfl
    have y8 := C.out.row.cell 8 rfl
    have y9 := C.out.row.cell 9 rfl
    have y10 := C.out.row.cell 10 rfl
    have y11 := C.out.row.cell 11 rfl
    have y12 := C.out.row.cell 12 rfl
    go_wp2_with fail
    refine (KK.out _ P.out.rows).mono ?_
    rintro e Wn2 ⟨rfl, hb2⟩
    clear x0 x1 x2 x3 x4 x5 x6 x7 x8 x9 x10 x11 x12 y0 y1 y2 y3 y4 y5 y6 y7 y8 y9 y10 y11 y12
    replace P : Hid (PB Wn2 w.heap.size p pv) := P.out.below hb2
    replace C : Hid (KB Wn2 (w.heap.size + 1) c) := C.out.below hb2
    replace S : Hid (Below w.heap.size w Wn2) := next S.out hb2
    clear hb2
    have e10 : ∀ w', Below Wn2.heap.size Wn2 w' → w'.cell? ⟨w.heap.size + 1, 10, none⟩ = some (.int .i64 c.created) := fun w' h => (C.out.below h).row.cell 10 rfl
    have ecap : ∀ w', Below Wn2.heap.size Wn2 w' → w'.cell? ⟨w.heap.size, 2 + a, none⟩ = some (.int .i64 s) := fun w' h => (P.out.below h).row.cell (2 + a) (by rw [HSS.out]; exact poL_cap p pv a ha)
    go_upto_region 5 with fail
    go_region_held3 (fun w' => Below Wn2.heap.size Wn2 w') (first | assumption | exact (Below.refl _ Wn2).drew | exact Below.drew (by assumption) | fail)
      (first
      | (go_at_call 51; refine (KAD.out _).mono ?_; rintro e wN ⟨rfl, hwN⟩; have hSN : Below Wn2.heap.size Wn2 wN := by rw [hwN]; first | assumption | exact (Below.refl _ Wn2).drew
         clear hwN)
      | fail)
    go_wp2_with fail
    go_ret2
    exact ⟨rfl, next S.out (by assumption)⟩
  · have HX : Hid (N = 0 ∧ E = z) := HNZ.out hz1
    have q : (z != 0) = true := by rw [bne_iff_ne]; exact hz1
    obtain ⟨W0, hW0⟩ : ∃ W0, W0 = ((w.alloc (.cells #[pv, .int .i64 p.dflt, .int .i64 p.c0, .int .i64 p.c1, .int .i64 p.c2, .int .i64 p.c3, .int .i64 p.c4, .int .i64 p.c5, .int .i64 p.c6, .int .i64 p.c7, .int .i64 p.c8, .int .i64 p.c9, .int .i64 p.c10] 28)).alloc (.cells #[.string (txt c.name), .string (txt c.value), .string (txt c.domain), .string (txt c.path), .bool c.hostOnly, .bool c.secure, .bool c.httpOnly, .bool c.lasting, .int .i64 c.site, .int .i64 c.expiry, .int .i64 c.created, .int .i64 c.used, .int .i64 c.no] 34)) := ⟨_, rfl⟩
    have P : Hid (PB W0 w.heap.size p pv) := by
      rw [hW0]
      have h := PB.new w p pv 28 rp
      exact (h.below (below_new _ _))
    have C : Hid (KB W0 (w.heap.size + 1) c) := by
      rw [hW0]
      have h := KB.new (w.alloc (.cells #[pv, .int .i64 p.dflt, .int .i64 p.c0, .int .i64 p.c1, .int .i64 p.c2, .int .i64 p.c3, .int .i64 p.c4, .int .i64 p.c5, .int .i64 p.c6, .int .i64 p.c7, .int .i64 p.c8, .int .i64 p.c9, .int .i64 p.c10] 28)) c 34
      rw [show (w.alloc (.cells #[pv, .int .i64 p.dflt, .int .i64 p.c0, .int .i64 p.c1, .int .i64 p.c2, .int .i64 p.c3, .int .i64 p.c4, .int .i64 p.c5, .int .i64 p.c6, .int .i64 p.c7, .int .i64 p.c8, .int .i64 p.c9, .int .i64 p.c10] 28)).heap.size = w.heap.size + 1 from by simp] at h
      exact h
    have S : Hid (Below w.heap.size w W0) := by rw [hW0]; exact next (below_new _ _) (below_new _ _)
    have HW0 : Hid _ := hW0
    clear rp op oc hN hE hz ha hai hb hs hW0 KK0 HNZ HYZ HAI hz1
    go_enter Try.func54, Try.ntmps54
    go_upto_region 1 with fail
    rw [← HW0.out]
    clear HW0
    have x0 := P.out.row.cell 0 rfl
    have x1 := P.out.row.cell 1 rfl
    have x2 := P.out.row.cell 2 rfl
    have x3 := P.out.row.cell 3 rfl
    have x4 := P.out.row.cell 4 rfl
    have x5 := P.out.row.cell 5 rfl
    have x6 := P.out.row.cell 6 rfl
    have x7 := P.out.row.cell 7 rfl
    have x8 := P.out.row.cell 8 rfl
    have x9 := P.out.row.cell 9 rfl
    have x10 := P.out.row.cell 10 rfl
    have x11 := P.out.row.cell 11 rfl
    have x12 := P.out.row.cell 12 rfl
    go_wp2_with fail
    refine (KC.out _ P.out.rows).mono ?_
    rintro e w1 ⟨rfl, hb1⟩
    have S1 : Hid _ := next S.out hb1
    clear hb1
    go_wp2_with fail
    go_ret2
    exact ⟨by rw [HX.out.1, HX.out.2]; rfl, S1.out⟩
end Go.Proofs.Ytcfdajaideidkaa
namespace Go.Proofs.Ytcfdajaideidkaa
open Go.RowKit
set_option linter.all false
set_option maxRecDepth 100000
set_option maxRecDepth 100000

theorem txt_nil : txt [] = ⟨#[]⟩ := rfl
set_option maxHeartbeats 16000000 in
theorem clamp_any (p : Po) (pv : Value) (c : Ck) (w : World) (rp : Rows w pv ruC p.rules) (op : PoOk 140737488351232 p) (oc : CkOk 140737488351232 c) :
    Calls Try.prog 24 #[.agg #[pv, .int .i64 p.dflt, .int .i64 p.c0, .int .i64 p.c1, .int .i64 p.c2, .int .i64 p.c3, .int .i64 p.c4, .int .i64 p.c5, .int .i64 p.c6, .int .i64 p.c7, .int .i64 p.c8, .int .i64 p.c9, .int .i64 p.c10], .agg #[.string (txt c.name), .string (txt c.value), .string (txt c.domain), .string (txt c.path), .bool c.hostOnly, .bool c.secure, .bool c.httpOnly, .bool c.lasting, .int .i64 c.site, .int .i64 c.expiry, .int .i64 c.created, .int .i64 c.used, .int .i64 c.no]] w fun e w' => e = .returned (.tuple #[.agg (ckC (clampC p c)).toArray, .int .i64 (capE p c)]) ∧ Below w.heap.size w w' := by
  obtain ⟨N, hN⟩ : ∃ N, N = capN p c := ⟨_, rfl⟩
  obtain ⟨E, hE⟩ : ∃ E, E = capE p c := ⟨_, rfl⟩
  obtain ⟨d, hd⟩ : ∃ d, d = clampC p c := ⟨_, rfl⟩
  obtain ⟨mm, hmm⟩ : ∃ m, m = min c.expiry N := ⟨_, rfl⟩
  rw [← hE, ← hd]
  have HD : Hid (d = if E = 0 then { c with expiry := min c.expiry N } else ckZ) := by show _ = _; rw [hd, hE, hN]; rfl
  have HMM : Hid (mm = min c.expiry N) := hmm
  have KL : Hid (∀ w', Rows w' pv ruC p.rules → Calls Try.prog 54 #[.agg #[pv, .int .i64 p.dflt, .int .i64 p.c0, .int .i64 p.c1, .int .i64 p.c2, .int .i64 p.c3, .int .i64 p.c4, .int .i64 p.c5, .int .i64 p.c6, .int .i64 p.c7, .int .i64 p.c8, .int .i64 p.c9, .int .i64 p.c10], .agg #[.string (txt c.name), .string (txt c.value), .string (txt c.domain), .string (txt c.path), .bool c.hostOnly, .bool c.secure, .bool c.httpOnly, .bool c.lasting, .int .i64 c.site, .int .i64 c.expiry, .int .i64 c.created, .int .i64 c.used, .int .i64 c.no]] w' fun e w'' => e = .returned (.tuple #[.int .i64 N, .int .i64 E]) ∧ Below w'.heap.size w' w'') := fun w' h1 => by rw [hN, hE]; exact latest_any p pv c w' h1 op oc
  obtain ⟨W0, hW0⟩ : ∃ W0, W0 = (((w.alloc (.cells #[pv, .int .i64 p.dflt, .int .i64 p.c0, .int .i64 p.c1, .int .i64 p.c2, .int .i64 p.c3, .int .i64 p.c4, .int .i64 p.c5, .int .i64 p.c6, .int .i64 p.c7, .int .i64 p.c8, .int .i64 p.c9, .int .i64 p.c10] 28)).alloc (.cells #[.string (txt c.name), .string (txt c.value), .string (txt c.domain), .string (txt c.path), .bool c.hostOnly, .bool c.secure, .bool c.httpOnly, .bool c.lasting, .int .i64 c.site, .int .i64 c.expiry, .int .i64 c.created, .int .i64 c.used, .int .i64 c.no] 34)).alloc (.cells #[.string ⟨#[]⟩, .string ⟨#[]⟩, .string ⟨#[]⟩, .string ⟨#[]⟩, .bool false, .bool false, .bool false, .bool false, .int .i64 0, .int .i64 0, .int .i64 0, .int .i64 0, .int .i64 0] 34)) := ⟨_, rfl⟩
  have P : Hid (PB W0 w.heap.size p pv) := by
    rw [hW0]
    have h := PB.new w p pv 28 rp
    exact ((h.below (below_new _ _)).below (below_new _ _))
  have C : Hid (KB W0 (w.heap.size + 1) c) := by
    rw [hW0]
    have h := KB.new (w.alloc (.cells #[pv, .int .i64 p.dflt, .int .i64 p.c0, .int .i64 p.c1, .int .i64 p.c2, .int .i64 p.c3, .int .i64 p.c4, .int .i64 p.c5, .int .i64 p.c6, .int .i64 p.c7, .int .i64 p.c8, .int .i64 p.c9, .int .i64 p.c10] 28)) c 34
    rw [show (w.alloc (.cells #[pv, .int .i64 p.dflt, .int .i64 p.c0, .int .i64 p.c1, .int .i64 p.c2, .int .i64 p.c3, .int .i64 p.c4, .int .i64 p.c5, .int .i64 p.c6, .int .i64 p.c7, .int .i64 p.c8, .int .i64 p.c9, .int .i64 p.c10] 28)).heap.size = w.heap.size + 1 from by simp] at h
    exact (h.below (below_new _ _))
  have R : Hid (KB W0 (w.heap.size + 1 + 1) ckZ) := by
    rw [hW0]
    have h := KB.new ((w.alloc (.cells #[pv, .int .i64 p.dflt, .int .i64 p.c0, .int .i64 p.c1, .int .i64 p.c2, .int .i64 p.c3, .int .i64 p.c4, .int .i64 p.c5, .int .i64 p.c6, .int .i64 p.c7, .int .i64 p.c8, .int .i64 p.c9, .int .i64 p.c10] 28)).alloc (.cells #[.string (txt c.name), .string (txt c.value), .string (txt c.domain), .string (txt c.path), .bool c.hostOnly, .bool c.secure, .bool c.httpOnly, .bool c.lasting, .int .i64 c.site, .int .i64 c.expiry, .int .i64 c.created, .int .i64 c.used, .int .i64 c.no] 34)) ckZ 34
    rw [show ((w.alloc (.cells #[pv, .int .i64 p.dflt, .int .i64 p.c0, .int .i64 p.c1, .int .i64 p.c2, .int .i64 p.c3, .int .i64 p.c4, .int .i64 p.c5, .int .i64 p.c6, .int .i64 p.c7, .int .i64 p.c8, .int .i64 p.c9, .int .i64 p.c10] 28)).alloc (.cells #[.string (txt c.name), .string (txt c.value), .string (txt c.domain), .string (txt c.path), .bool c.hostOnly, .bool c.secure, .bool c.httpOnly, .bool c.lasting, .int .i64 c.site, .int .i64 c.expiry, .int .i64 c.created, .int .i64 c.used, .int .i64 c.no] 34)).heap.size = w.heap.size + 1 + 1 from by simp] at h
    exact h
  have S : Hid (Below w.heap.size w W0) := by rw [hW0]; exact next (next (below_new _ _) (below_new _ _)) (below_new _ _)
  have HW0 : Hid _ := hW0
  clear rp op oc hN hE hd hmm hW0
  go_enter Try.func24, Try.ntmps24
  go_upto_region 1 with fail
  rw [← HW0.out]
  clear HW0
  have x0 := P.out.row.cell 0 rfl
  have x1 := P.out.row.cell 1 rfl
  have x2 := P.out.row.cell 2 rfl
  have x3 := P.out.row.cell 3 rfl
  have x4 := P.out.row.cell 4 rfl
  have x5 := P.out.row.cell 5 rfl
  have x6 := P.out.row.cell 6 rfl
  have x7 := P.out.row.cell 7 rfl
  have x8 := P.out.row.cell 8 rfl
  have x9 := P.out.row.cell 9 rfl
  have x10 := P.out.row.cell 10 rfl
  have x11 := P.out.row.cell 11 rfl
  have x12 := P.out.row.cell 12 rfl
  have y0 := C.out.row.cell 0 rfl
  have y1 := C.out.row.cell 1 rfl
  have y2 := C.out.row.cell 2 rfl
  have y3 := C.out.row.cell 3 rfl
  have y4 := C.out.row.cell 4 rfl
  have y5 := C.out.row.cell 5 rfl
  have y6 := C.out.row.cell 6 rfl
  have y7 := C.out.row.cell 7 rfl
  have y8 := C.out.row.cell 8 rfl
  have y9 := C.out.row.cell 9 rfl
  have y10 := C.out.row.cell 10 rfl
  have y11 := C.out.row.cell 11 rfl
  have y12 := C.out.row.cell 12 rfl
  go_wp2_with fail
  refine (KL.out _ P.out.rows).mono ?_
  rintro e Wn1 ⟨rfl, hb1⟩
  clear x0 x1 x2 x3 x4 x5 x6 x7 x8 x9 x10 x11 x12 y0 y1 y2 y3 y4 y5 y6 y7 y8 y9 y10 y11 y12
  replace P : Hid (PB Wn1 w.heap.size p pv) := P.out.below hb1
  replace C : Hid (KB Wn1 (w.heap.size + 1) c) := C.out.below hb1
  replace R : Hid (KB Wn1 (w.heap.size + 1 + 1) ckZ) := R.out.below hb1
  replace S : Hid (Below w.heap.size w Wn1) := next S.out hb1
  clear hb1
  by_cases he0 : E = 0
  rotate_left
  · have q : (E != 0) = true := by rw [bne_iff_ne]; exact he0
    have HRET : Hid (Ending.returned (.tuple #[.agg #[.string ⟨#[]⟩, .string ⟨#[]⟩, .string ⟨#[]⟩, .string ⟨#[]⟩, .bool false, .bool false, .bool false, .bool false, .int .i64 0, .int .i64 0, .int .i64 0, .int .i64 0, .int .i64 0], .int .i64 E]) = Ending.returned (.tuple #[.agg (ckC d).toArray, .int .i64 E])) := by show _ = _; rw [HD.out, if_neg he0]; rfl
    clear he0
    have o0 := R.out.row.cell 0 rfl
    have f0 := R.out.row.frozen 0 rfl
    have o1 := R.out.row.cell 1 rfl
    have f1 := R.out.row.frozen 1 rfl
    have o2 := R.out.row.cell 2 rfl
    have f2 := R.out.row.frozen 2 rfl
    have o3 := R.out.row.cell 3 rfl
    have f3 := R.out.row.frozen 3 rfl
    have o4 := R.out.row.cell 4 rfl
    have f4 := R.out.row.frozen 4 rfl
    have o5 := R.out.row.cell 5 rfl
    have f5 := R.out.row.frozen 5 rfl
    have o6 := R.out.row.cell 6 rfl
    have f6 := R.out.row.frozen 6 rfl
    have o7 := R.out.row.cell 7 rfl
    have f7 := R.out.row.frozen 7 rfl
    have o8 := R.out.row.cell 8 rfl
    have f8 := R.out.row.frozen 8 rfl
    have o9 := R.out.row.cell 9 rfl
    have f9 := R.out.row.frozen 9 rfl
    have o10 := R.out.row.cell 10 rfl
    have f10 := R.out.row.frozen 10 rfl
    have o11 := R.out.row.cell 11 rfl
    have f11 := R.out.row.frozen 11 rfl
    have o12 := R.out.row.cell 12 rfl
    have f12 := R.out.row.frozen 12 rfl
    go_wp2_with fail
    generalize hW2 : World.setCell _ _ _ = W2
    have HP : Hid (LRow W2 (w.heap.size + 1 + 1) (ckC ckZ)) := by
      rw [← hW2]
      exact ((((((((((((R.out.row.set 0 _).set 1 _).set 2 _).set 3 _).set 4 _).set 5 _).set 6 _).set 7 _).set 8 _).set 9 _).set 10 _).set 11 _).set 12 _
    have HB2 : Hid (Below w.heap.size w W2) := by
      rw [← hW2]
      iterate 13 refine Below.setCell ?_ (show w.heap.size ≤ w.heap.size + 1 + 1 by omega) _
      exact S.out
    clear hW2 o0 f0 o1 f1 o2 f2 o3 f3 o4 f4 o5 f5 o6 f6 o7 f7 o8 f8 o9 f9 o10 f10 o11 f11 o12 f12
    have p0 := HP.out.cell 0 rfl
    have p1 := HP.out.cell 1 rfl
    have p2 := HP.out.cell 2 rfl
    have p3 := HP.out.cell 3 rfl
    have p4 := HP.out.cell 4 rfl
    have p5 := HP.out.cell 5 rfl
    have p6 := HP.out.cell 6 rfl
    have p7 := HP.out.cell 7 rfl
    have p8 := HP.out.cell 8 rfl
    have p9 := HP.out.cell 9 rfl
    have p10 := HP.out.cell 10 rfl
    have p11 := HP.out.cell 11 rfl
    have p12 := HP.out.cell 12 rfl
    exact bodyPost_ret (v := .tuple #[.agg #[.string ⟨#[]⟩, .string ⟨#[]⟩, .string ⟨#[]⟩, .string ⟨#[]⟩, .bool false, .bool false, .bool false, .bool false, .int .i64 0, .int .i64 0, .int .i64 0, .int .i64 0, .int .i64 0], .int .i64 E]) (by simp [results, Try.results24, go_sem, ckZ, txt_nil, p0, p1, p2, p3, p4, p5, p6, p7, p8, p9, p10, p11, p12]) rfl ⟨HRET.out, HB2.out⟩
  have q : (E != 0) = false := by rw [he0]; rfl
  have HRET : Hid (Ending.returned (.tuple #[.agg #[.string (txt c.name), .string (txt c.value), .string (txt c.domain), .string (txt c.path), .bool c.hostOnly, .bool c.secure, .bool c.httpOnly, .bool c.lasting, .int .i64 c.site, .int .i64 mm, .int .i64 c.created, .int .i64 c.used, .int .i64 c.no], .int .i64 0]) = Ending.returned (.tuple #[.agg (ckC d).toArray, .int .i64 E])) := by show _ = _; rw [HD.out, if_pos he0, he0, HMM.out]; rfl
  have hmin : min c.expiry N = mm := HMM.out.symm
  clear he0
  obtain ⟨W3, hW3⟩ : ∃ W3, W3 = Wn1.setCell ⟨w.heap.size + 1, 9, none⟩ (.int .i64 mm) := ⟨_, rfl⟩
  have C3 : Hid (LRow W3 (w.heap.size + 1) (ckC { c with expiry := mm })) := by rw [hW3]; exact C.out.row.set 9 (.int .i64 mm)
  have R3 : Hid (LRow W3 (w.heap.size + 1 + 1) (ckC ckZ)) := by rw [hW3]; exact rowSet R.out.row (by omega)
  have S3 : Hid (Below w.heap.size w W3) := by rw [hW3]; exact S.out.setCell (p := ⟨w.heap.size + 1, 9, none⟩) (Nat.le_succ _) _
  have HW3 : Hid _ := hW3
  clear hW3
  have x9 := C.out.row.cell 9 rfl
  have y9 := C.out.row.frozen 9 rfl
  go_upto_region 5 with fail
  rw [← HW3.out]
  clear HW3 x9 y9
  have x0 := C3.out.cell 0 rfl
  have o0 := R3.out.cell 0 rfl
  have f0 := R3.out.frozen 0 rfl
  have x1 := C3.out.cell 1 rfl
  have o1 := R3.out.cell 1 rfl
  have f1 := R3.out.frozen 1 rfl
  have x2 := C3.out.cell 2 rfl
  have o2 := R3.out.cell 2 rfl
  have f2 := R3.out.frozen 2 rfl
  have x3 := C3.out.cell 3 rfl
  have o3 := R3.out.cell 3 rfl
  have f3 := R3.out.frozen 3 rfl
  have x4 := C3.out.cell 4 rfl
  have o4 := R3.out.cell 4 rfl
  have f4 := R3.out.frozen 4 rfl
  have x5 := C3.out.cell 5 rfl
  have o5 := R3.out.cell 5 rfl
  have f5 := R3.out.frozen 5 rfl
  have x6 := C3.out.cell 6 rfl
  have o6 := R3.out.cell 6 rfl
  have f6 := R3.out.frozen 6 rfl
  have x7 := C3.out.cell 7 rfl
  have o7 := R3.out.cell 7 rfl
  have f7 := R3.out.frozen 7 rfl
  have x8 := C3.out.cell 8 rfl
  have o8 := R3.out.cell 8 rfl
  have f8 := R3.out.frozen 8 rfl
  have x9 := C3.out.cell 9 rfl
  have o9 := R3.out.cell 9 rfl
  have f9 := R3.out.frozen 9 rfl
  have x10 := C3.out.cell 10 rfl
  have o10 := R3.out.cell 10 rfl
  have f10 := R3.out.frozen 10 rfl
  have x11 := C3.out.cell 11 rfl
  have o11 := R3.out.cell 11 rfl
  have f11 := R3.out.frozen 11 rfl
  have x12 := C3.out.cell 12 rfl
  have o12 := R3.out.cell 12 rfl
  have f12 := R3.out.frozen 12 rfl
  go_wp2_with fail
  generalize hW2 : World.setCell _ _ _ = W2
  have HP : Hid (LRow W2 (w.heap.size + 1 + 1) (ckC { c with expiry := mm })) := by
    rw [← hW2]
    exact ((((((((((((R3.out.set 0 _).set 1 _).set 2 _).set 3 _).set 4 _).set 5 _).set 6 _).set 7 _).set 8 _).set 9 _).set 10 _).set 11 _).set 12 _
  have HB2 : Hid (Below w.heap.size w W2) := by
    rw [← hW2]
    iterate 13 refine Below.setCell ?_ (show w.heap.size ≤ w.heap.size + 1 + 1 by omega) _
    exact S3.out
  clear hW2 o0 f0 o1 f1 o2 f2 o3 f3 o4 f4 o5 f5 o6 f6 o7 f7 o8 f8 o9 f9 o10 f10 o11 f11 o12 f12 x0 x1 x2 x3 x4 x5 x6 x7 x8 x9 x10 x11 x12
  have p0 := HP.out.cell 0 rfl
  have p1 := HP.out.cell 1 rfl
  have p2 := HP.out.cell 2 rfl
  have p3 := HP.out.cell 3 rfl
  have p4 := HP.out.cell 4 rfl
  have p5 := HP.out.cell 5 rfl
  have p6 := HP.out.cell 6 rfl
  have p7 := HP.out.cell 7 rfl
  have p8 := HP.out.cell 8 rfl
  have p9 := HP.out.cell 9 rfl
  have p10 := HP.out.cell 10 rfl
  have p11 := HP.out.cell 11 rfl
  have p12 := HP.out.cell 12 rfl
  exact bodyPost_ret (v := .tuple #[.agg #[.string (txt c.name), .string (txt c.value), .string (txt c.domain), .string (txt c.path), .bool c.hostOnly, .bool c.secure, .bool c.httpOnly, .bool c.lasting, .int .i64 c.site, .int .i64 mm, .int .i64 c.created, .int .i64 c.used, .int .i64 c.no], .int .i64 0]) (by simp [results, Try.results24, go_sem, ckZ, p0, p1, p2, p3, p4, p5, p6, p7, p8, p9, p10, p11, p12]) rfl ⟨HRET.out, HB2.out⟩
end Go.Proofs.Ytcfdajaideidkaa
namespace Go.Proofs.Ytcfdajaideidkaa
open Go.RowKit
set_option linter.all false
set_option maxRecDepth 100000
set_option maxRecDepth 100000

theorem keepA {w w' : World} (h : Below w.heap.size w w') (o : Obj) : Below w.heap.size w (w'.alloc o) := h.alloc h.size o
theorem LRow.cells13 {W : World} {B : Nat} {a0 a1 a2 a3 a4 a5 a6 a7 a8 a9 a10 a11 a12 : Value} (h : LRow W B [a0, a1, a2, a3, a4, a5, a6, a7, a8, a9, a10, a11, a12]) : W.cell? ⟨B, 0, none⟩ = some a0 ∧ W.cell? ⟨B, 1, none⟩ = some a1 ∧ W.cell? ⟨B, 2, none⟩ = some a2 ∧ W.cell? ⟨B, 3, none⟩ = some a3 ∧ W.cell? ⟨B, 4, none⟩ = some a4 ∧ W.cell? ⟨B, 5, none⟩ = some a5 ∧ W.cell? ⟨B, 6, none⟩ = some a6 ∧ W.cell? ⟨B, 7, none⟩ = some a7 ∧ W.cell? ⟨B, 8, none⟩ = some a8 ∧ W.cell? ⟨B, 9, none⟩ = some a9 ∧ W.cell? ⟨B, 10, none⟩ = some a10 ∧ W.cell? ⟨B, 11, none⟩ = some a11 ∧ W.cell? ⟨B, 12, none⟩ = some a12 := ⟨h.cell 0 rfl, h.cell 1 rfl, h.cell 2 rfl, h.cell 3 rfl, h.cell 4 rfl, h.cell 5 rfl, h.cell 6 rfl, h.cell 7 rfl, h.cell 8 rfl, h.cell 9 rfl, h.cell 10 rfl, h.cell 11 rfl, h.cell 12 rfl⟩
theorem LRow.frozen13 {W : World} {B : Nat} {a0 a1 a2 a3 a4 a5 a6 a7 a8 a9 a10 a11 a12 : Value} (h : LRow W B [a0, a1, a2, a3, a4, a5, a6, a7, a8, a9, a10, a11, a12]) : W.frozen? ⟨B, 0, none⟩ = false ∧ W.frozen? ⟨B, 1, none⟩ = false ∧ W.frozen? ⟨B, 2, none⟩ = false ∧ W.frozen? ⟨B, 3, none⟩ = false ∧ W.frozen? ⟨B, 4, none⟩ = false ∧ W.frozen? ⟨B, 5, none⟩ = false ∧ W.frozen? ⟨B, 6, none⟩ = false ∧ W.frozen? ⟨B, 7, none⟩ = false ∧ W.frozen? ⟨B, 8, none⟩ = false ∧ W.frozen? ⟨B, 9, none⟩ = false ∧ W.frozen? ⟨B, 10, none⟩ = false ∧ W.frozen? ⟨B, 11, none⟩ = false ∧ W.frozen? ⟨B, 12, none⟩ = false := ⟨h.frozen 0 rfl, h.frozen 1 rfl, h.frozen 2 rfl, h.frozen 3 rfl, h.frozen 4 rfl, h.frozen 5 rfl, h.frozen 6 rfl, h.frozen 7 rfl, h.frozen 8 rfl, h.frozen 9 rfl, h.frozen 10 rfl, h.frozen 11 rfl, h.frozen 12 rfl⟩
theorem set13 {W W0 : World} {A B : Nat} {a0 a1 a2 a3 a4 a5 a6 a7 a8 a9 a10 a11 a12 : Value} (h : LRow W B [a0, a1, a2, a3, a4, a5, a6, a7, a8, a9, a10, a11, a12]) (b : Below A W0 W) (hA : A ≤ B) (x0 x1 x2 x3 x4 x5 x6 x7 x8 x9 x10 x11 x12 : Value) : LRow (((((((((((((W.setCell ⟨B, 0, none⟩ x0).setCell ⟨B, 1, none⟩ x1).setCell ⟨B, 2, none⟩ x2).setCell ⟨B, 3, none⟩ x3).setCell ⟨B, 4, none⟩ x4).setCell ⟨B, 5, none⟩ x5).setCell ⟨B, 6, none⟩ x6).setCell ⟨B, 7, none⟩ x7).setCell ⟨B, 8, none⟩ x8).setCell ⟨B, 9, none⟩ x9).setCell ⟨B, 10, none⟩ x10).setCell ⟨B, 11, none⟩ x11).setCell ⟨B, 12, none⟩ x12) B [x0, x1, x2, x3, x4, x5, x6, x7, x8, x9, x10, x11, x12] ∧ Below A W0 (((((((((((((W.setCell ⟨B, 0, none⟩ x0).setCell ⟨B, 1, none⟩ x1).setCell ⟨B, 2, none⟩ x2).setCell ⟨B, 3, none⟩ x3).setCell ⟨B, 4, none⟩ x4).setCell ⟨B, 5, none⟩ x5).setCell ⟨B, 6, none⟩ x6).setCell ⟨B, 7, none⟩ x7).setCell ⟨B, 8, none⟩ x8).setCell ⟨B, 9, none⟩ x9).setCell ⟨B, 10, none⟩ x10).setCell ⟨B, 11, none⟩ x11).setCell ⟨B, 12, none⟩ x12) :=
  ⟨(((((((((((((h.set 0 x0).set 1 x1).set 2 x2).set 3 x3).set 4 x4).set 5 x5).set 6 x6).set 7 x7).set 8 x8).set 9 x9).set 10 x10).set 11 x11).set 12 x12), (((((((((((((b.setCell (p := ⟨B, 0, none⟩) hA x0).setCell (p := ⟨B, 1, none⟩) hA x1).setCell (p := ⟨B, 2, none⟩) hA x2).setCell (p := ⟨B, 3, none⟩) hA x3).setCell (p := ⟨B, 4, none⟩) hA x4).setCell (p := ⟨B, 5, none⟩) hA x5).setCell (p := ⟨B, 6, none⟩) hA x6).setCell (p := ⟨B, 7, none⟩) hA x7).setCell (p := ⟨B, 8, none⟩) hA x8).setCell (p := ⟨B, 9, none⟩) hA x9).setCell (p := ⟨B, 10, none⟩) hA x10).setCell (p := ⟨B, 11, none⟩) hA x11).setCell (p := ⟨B, 12, none⟩) hA x12)⟩
def cX : Ck := { cIdt with name := [120] }
def cY : Ck := { cX with created := 253402300800 }
theorem cX_ok : CkOk 140737488351232 cX := ⟨by simp [cX, cIdt], by simp [cX, cIdt], by simp [cX, cIdt], by simp [cX, cIdt], by simp [cX, cIdt, i64B], by simp [cX, cIdt, i64B], by simp [cX, cIdt, i64B], by simp [cX, cIdt, i64B], by simp [cX, cIdt, i64B]⟩
theorem cY_ok : CkOk 140737488351232 cY := ⟨by simp [cY, cX, cIdt], by simp [cY, cX, cIdt], by simp [cY, cX, cIdt], by simp [cY, cX, cIdt], by simp [cY, cX, cIdt, i64B], by simp [cY, cX, cIdt, i64B], by simp [cY, cX, cIdt, i64B], by simp [cY, cX, cIdt, i64B], by simp [cY, cX, cIdt, i64B]⟩
theorem cb1 : capN poR cIdt = 1100 ∧ capE poR cIdt = 0 := by decide +kernel
theorem cb2' : capN poR cX = 1060 ∧ capE poR cX = 0 := by decide +kernel
theorem cb2 : clampC poR cX = cX ∧ capE poR cX = 0 := ⟨by unfold clampC; rw [cb2'.1, cb2'.2]; rfl, cb2'.2⟩
theorem cb3' : capE poR cY = 3 := by decide +kernel
theorem cb3 : clampC poR cY = ckZ ∧ capE poR cY = 3 := ⟨by unfold clampC; rw [cb3']; rfl, cb3'⟩
end Go.Proofs.Ytcfdajaideidkaa
