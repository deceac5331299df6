/- CapTwice: for every policy and cookie: whoever is clamped twice is clamped once: it expires no later than Latest, nor later than before, and at one of both; nothing else changes. No condition. -/
import Derived.Test.YtmjcgkjkhpjgbaaPolicyG
import Derived.Test.YtmjcgkjkhpjgbaaCkEq
import Derived.Test.YtmjcgkjkhpjgbaaOpen
import Derived.Test.YtmjcgkjkhpjgbaaOpenF
import Derived.Test.YtmjcgkjkhpjgbaaOpenP
import Derived.Test.YtmjcgkjkhpjgbaaRows
namespace Go.Proofs.Ytmjcgkjkhpjgbaa.capTwice
open Go.ChangeShapes Go.WideShapes Go.ChangeAt Go.RowKit
open Go.ChangeMaps (open_string shut_string)
set_option linter.all false
set_option maxRecDepth 100000

theorem addN_range (n s : Int) : -11644473600 ≤ addN n s ∧ addN n s ≤ 253402300799 := by unfold addN; split <;> (try split) <;> omega
theorem capN_range (p : Po) (c : Ck) : -11644473600 ≤ capN p c ∧ capN p c ≤ 253402300799 := by
  unfold capN
  split
  · split
    · exact addN_range _ _
    · omega
  · omega
theorem exp_ok {m : Nat} {c : Ck} (h : CkOk m c) (n : Int) (hn : -11644473600 ≤ n ∧ n ≤ 253402300799) : CkOk m { c with expiry := min c.expiry n } :=
  ⟨h.name, h.value, h.domain, h.path, h.site, by have := h.expiry; show i64B (min c.expiry n); unfold i64B at this ⊢; omega, h.created, h.used, h.no⟩
theorem cap_same (p : Po) (c : Ck) (e : Int) : capE p { c with expiry := e } = capE p c ∧ capN p { c with expiry := e } = capN p c := ⟨rfl, rfl⟩
set_option maxHeartbeats 16000000 in
theorem walk (p : Po) (pv : Value) (c : Ck) (w : World) (rp : Rows w pv ruC p.rules) (op : PoOk 140737488351232 p) (oc : CkOk 140737488351232 c) :
    Calls Try.prog 8 #[.agg #[pv, .int .i64 p.dflt, .int .i64 p.c0, .int .i64 p.c1, .int .i64 p.c2, .int .i64 p.c3, .int .i64 p.c4, .int .i64 p.c5, .int .i64 p.c6, .int .i64 p.c7, .int .i64 p.c8, .int .i64 p.c9, .int .i64 p.c10], .agg (ckC c).toArray] w fun e w' => e = .returned (.bool true) ∧ Below w.heap.size w w' := by
  obtain ⟨N, hN⟩ : ∃ N, N = capN p c := ⟨_, rfl⟩
  obtain ⟨E, hE⟩ : ∃ E, E = capE p c := ⟨_, rfl⟩
  obtain ⟨mm, hmm⟩ : ∃ m, m = min c.expiry N := ⟨_, rfl⟩
  simp only [ckC]
  by_cases he0 : E = 0
  rotate_left
  · have q : (E != 0) = true := by rw [bne_iff_ne]; exact he0
    have KZ : Hid (∀ w', Rows w' pv ruC p.rules → Calls Try.prog 20 #[.agg #[pv, .int .i64 p.dflt, .int .i64 p.c0, .int .i64 p.c1, .int .i64 p.c2, .int .i64 p.c3, .int .i64 p.c4, .int .i64 p.c5, .int .i64 p.c6, .int .i64 p.c7, .int .i64 p.c8, .int .i64 p.c9, .int .i64 p.c10], .agg #[.string (txt c.name), .string (txt c.value), .string (txt c.domain), .string (txt c.path), .bool c.hostOnly, .bool c.secure, .bool c.httpOnly, .bool c.lasting, .int .i64 c.site, .int .i64 c.expiry, .int .i64 c.created, .int .i64 c.used, .int .i64 c.no]] w' fun e w'' => e = .returned (.tuple #[.agg #[.string ⟨#[]⟩, .string ⟨#[]⟩, .string ⟨#[]⟩, .string ⟨#[]⟩, .bool false, .bool false, .bool false, .bool false, .int .i64 0, .int .i64 0, .int .i64 0, .int .i64 0, .int .i64 0], .int .i64 E]) ∧ Below w'.heap.size w' w'') := fun w' h1 => by
      have k := clamp_any p pv c w' h1 op oc
      rw [show clampC p c = ckZ from by unfold clampC; rw [← hE, if_neg he0], ← hE] at k
      exact k
    have qz : ∀ w : World, (Op.equalIn 10000 31 (.agg #[.string (txt ckZ.name), .string (txt ckZ.value), .string (txt ckZ.domain), .string (txt ckZ.path), .bool ckZ.hostOnly, .bool ckZ.secure, .bool ckZ.httpOnly, .bool ckZ.lasting, .int .i64 ckZ.site, .int .i64 ckZ.expiry, .int .i64 ckZ.created, .int .i64 ckZ.used, .int .i64 ckZ.no]) (.agg #[.string ⟨#[]⟩, .string ⟨#[]⟩, .string ⟨#[]⟩, .string ⟨#[]⟩, .bool false, .bool false, .bool false, .bool false, .int .i64 0, .int .i64 0, .int .i64 0, .int .i64 0, .int .i64 0])).run Try.prog w = .ok true w := fun w => by
      have k := ck_eqIn ckZ ckZ w
      rw [(eqC_iff ckZ ckZ).2 rfl] at k
      exact k
    obtain ⟨W0, hW0⟩ : ∃ W0, W0 = ((w.alloc (.cells #[pv, .int .i64 p.dflt, .int .i64 p.c0, .int .i64 p.c1, .int .i64 p.c2, .int .i64 p.c3, .int .i64 p.c4, .int .i64 p.c5, .int .i64 p.c6, .int .i64 p.c7, .int .i64 p.c8, .int .i64 p.c9, .int .i64 p.c10] 25)).alloc (.cells #[.string (txt c.name), .string (txt c.value), .string (txt c.domain), .string (txt c.path), .bool c.hostOnly, .bool c.secure, .bool c.httpOnly, .bool c.lasting, .int .i64 c.site, .int .i64 c.expiry, .int .i64 c.created, .int .i64 c.used, .int .i64 c.no] 31)) := ⟨_, rfl⟩
    have P : Hid (PB W0 w.heap.size p pv) := by
      rw [hW0]
      have h := PB.new w p pv 25 rp
      exact (h.below (below_new _ _))
    have C : Hid (KB W0 (w.heap.size + 1) c) := by
      rw [hW0]
      have h := KB.new (w.alloc (.cells #[pv, .int .i64 p.dflt, .int .i64 p.c0, .int .i64 p.c1, .int .i64 p.c2, .int .i64 p.c3, .int .i64 p.c4, .int .i64 p.c5, .int .i64 p.c6, .int .i64 p.c7, .int .i64 p.c8, .int .i64 p.c9, .int .i64 p.c10] 25)) c 31
      rw [show (w.alloc (.cells #[pv, .int .i64 p.dflt, .int .i64 p.c0, .int .i64 p.c1, .int .i64 p.c2, .int .i64 p.c3, .int .i64 p.c4, .int .i64 p.c5, .int .i64 p.c6, .int .i64 p.c7, .int .i64 p.c8, .int .i64 p.c9, .int .i64 p.c10] 25)).heap.size = w.heap.size + 1 from by simp] at h
      exact h
    have S : Hid (Below w.heap.size w W0) := by rw [hW0]; exact next (below_new _ _) (below_new _ _)
    have HW0 : Hid _ := hW0
    clear rp op oc hN hE hmm hW0 he0
    go_enter Try.func8, Try.ntmps8
    go_upto_region 1 with fail
    rw [← HW0.out]
    clear HW0
    have x0 := P.out.row.cell 0 rfl
    have x1 := P.out.row.cell 1 rfl
    have x2 := P.out.row.cell 2 rfl
    have x3 := P.out.row.cell 3 rfl
    have x4 := P.out.row.cell 4 rfl
    have x5 := P.out.row.cell 5 rfl
    have x6 := P.out.row.cell 6 rfl
    have x7 := P.out.row.cell 7 rfl
    have x8 := P.out.row.cell 8 rfl
    have x9 := P.out.row.cell 9 rfl
    have x10 := P.out.row.cell 10 rfl
    have x11 := P.out.row.cell 11 rfl
    have x12 := P.out.row.cell 12 rfl
    have y0 := C.out.row.cell 0 rfl
    have y1 := C.out.row.cell 1 rfl
    have y2 := C.out.row.cell 2 rfl
    have y3 := C.out.row.cell 3 rfl
    have y4 := C.out.row.cell 4 rfl
    have y5 := C.out.row.cell 5 rfl
    have y6 := C.out.row.cell 6 rfl
    have y7 := C.out.row.cell 7 rfl
    have y8 := C.out.row.cell 8 rfl
    have y9 := C.out.row.cell 9 rfl
    have y10 := C.out.row.cell 10 rfl
    have y11 := C.out.row.cell 11 rfl
    have y12 := C.out.row.cell 12 rfl
    go_wp2_with fail
    refine (KZ.out _ P.out.rows).mono ?_
    rintro e v1 ⟨rfl, hb1⟩
    clear x0 x1 x2 x3 x4 x5 x6 x7 x8 x9 x10 x11 x12 y0 y1 y2 y3 y4 y5 y6 y7 y8 y9 y10 y11 y12
    obtain ⟨W1, hW1⟩ : ∃ W1, W1 = v1.alloc (.cells #[.string ⟨#[]⟩, .string ⟨#[]⟩, .string ⟨#[]⟩, .string ⟨#[]⟩, .bool false, .bool false, .bool false, .bool false, .int .i64 0, .int .i64 0, .int .i64 0, .int .i64 0, .int .i64 0] 31) := ⟨_, rfl⟩
    have hc1 : Below W0.heap.size W0 W1 := by rw [hW1]; exact next hb1 (below_new _ _)
    replace P : Hid (PB W1 w.heap.size p pv) := P.out.below hc1
    replace C : Hid (KB W1 (w.heap.size + 1) c) := C.out.below hc1
    replace S : Hid (Below w.heap.size w W1) := next S.out hc1
    have D : Hid (KB W1 v1.heap.size ckZ) := by rw [hW1]; exact KB.new v1 ckZ 31
    have HW1 : Hid _ := hW1
    clear hb1 hc1 hW1
    go_upto_region 2 with fail
    rw [← HW1.out]
    clear HW1
    go_wp2_with fail
    refine (capBegun_any _).mono ?_
    rintro e Wn2 ⟨rfl, hb2⟩
    replace P : Hid (PB Wn2 w.heap.size p pv) := P.out.below hb2
    replace C : Hid (KB Wn2 (w.heap.size + 1) c) := C.out.below hb2
    replace D : Hid (KB Wn2 v1.heap.size ckZ) := D.out.below hb2
    replace S : Hid (Below w.heap.size w Wn2) := next S.out hb2
    clear hb2
    have x0 := D.out.row.cell 0 rfl
    have x1 := D.out.row.cell 1 rfl
    have x2 := D.out.row.cell 2 rfl
    have x3 := D.out.row.cell 3 rfl
    have x4 := D.out.row.cell 4 rfl
    have x5 := D.out.row.cell 5 rfl
    have x6 := D.out.row.cell 6 rfl
    have x7 := D.out.row.cell 7 rfl
    have x8 := D.out.row.cell 8 rfl
    have x9 := D.out.row.cell 9 rfl
    have x10 := D.out.row.cell 10 rfl
    have x11 := D.out.row.cell 11 rfl
    have x12 := D.out.row.cell 12 rfl
    go_wp2_with fail
    go_ret
    exact ⟨rfl, S.out⟩
  have HMM : Hid (mm = min c.expiry N) := hmm
  have hd : CkOk 140737488351232 { c with expiry := mm } := by rw [hmm, hN]; exact exp_ok oc _ (capN_range p c)
  have K1 : Hid (∀ w', Rows w' pv ruC p.rules → Calls Try.prog 20 #[.agg #[pv, .int .i64 p.dflt, .int .i64 p.c0, .int .i64 p.c1, .int .i64 p.c2, .int .i64 p.c3, .int .i64 p.c4, .int .i64 p.c5, .int .i64 p.c6, .int .i64 p.c7, .int .i64 p.c8, .int .i64 p.c9, .int .i64 p.c10], .agg #[.string (txt c.name), .string (txt c.value), .string (txt c.domain), .string (txt c.path), .bool c.hostOnly, .bool c.secure, .bool c.httpOnly, .bool c.lasting, .int .i64 c.site, .int .i64 c.expiry, .int .i64 c.created, .int .i64 c.used, .int .i64 c.no]] w' fun e w'' => e = .returned (.tuple #[.agg #[.string (txt c.name), .string (txt c.value), .string (txt c.domain), .string (txt c.path), .bool c.hostOnly, .bool c.secure, .bool c.httpOnly, .bool c.lasting, .int .i64 c.site, .int .i64 mm, .int .i64 c.created, .int .i64 c.used, .int .i64 c.no], .int .i64 0]) ∧ Below w'.heap.size w' w'') := fun w' h1 => by
    have k := clamp_any p pv c w' h1 op oc
    rw [show clampC p c = { c with expiry := mm } from by unfold clampC; rw [← hE, if_pos he0, ← hN, ← hmm], ← hE, he0] at k
    exact k
  have K2 : Hid (∀ w', Rows w' pv ruC p.rules → Calls Try.prog 20 #[.agg #[pv, .int .i64 p.dflt, .int .i64 p.c0, .int .i64 p.c1, .int .i64 p.c2, .int .i64 p.c3, .int .i64 p.c4, .int .i64 p.c5, .int .i64 p.c6, .int .i64 p.c7, .int .i64 p.c8, .int .i64 p.c9, .int .i64 p.c10], .agg #[.string (txt c.name), .string (txt c.value), .string (txt c.domain), .string (txt c.path), .bool c.hostOnly, .bool c.secure, .bool c.httpOnly, .bool c.lasting, .int .i64 c.site, .int .i64 mm, .int .i64 c.created, .int .i64 c.used, .int .i64 c.no]] w' fun e w'' => e = .returned (.tuple #[.agg #[.string (txt c.name), .string (txt c.value), .string (txt c.domain), .string (txt c.path), .bool c.hostOnly, .bool c.secure, .bool c.httpOnly, .bool c.lasting, .int .i64 c.site, .int .i64 mm, .int .i64 c.created, .int .i64 c.used, .int .i64 c.no], .int .i64 0]) ∧ Below w'.heap.size w' w'') := fun w' h1 => by
    have k := clamp_any p pv { c with expiry := mm } w' h1 op hd
    have e1 : capE p { c with expiry := mm } = 0 := by rw [(cap_same p c mm).1, ← hE]; exact he0
    have e2 : min mm N = mm := by omega
    have e3 : clampC p { c with expiry := mm } = { c with expiry := mm } := by
      unfold clampC
      rw [if_pos e1, (cap_same p c mm).2, ← hN]
      show ({ c with expiry := min mm N } : Ck) = _
      rw [e2]
    rw [e3, e1] at k
    exact k
  have KL : Hid (∀ w', Rows w' pv ruC p.rules → Calls Try.prog 19 #[.agg #[pv, .int .i64 p.dflt, .int .i64 p.c0, .int .i64 p.c1, .int .i64 p.c2, .int .i64 p.c3, .int .i64 p.c4, .int .i64 p.c5, .int .i64 p.c6, .int .i64 p.c7, .int .i64 p.c8, .int .i64 p.c9, .int .i64 p.c10], .agg #[.string (txt c.name), .string (txt c.value), .string (txt c.domain), .string (txt c.path), .bool c.hostOnly, .bool c.secure, .bool c.httpOnly, .bool c.lasting, .int .i64 c.site, .int .i64 c.expiry, .int .i64 c.created, .int .i64 c.used, .int .i64 c.no]] w' fun e w'' => e = .returned (.tuple #[.int .i64 N, .int .i64 0]) ∧ Below w'.heap.size w' w'') := fun w' h1 => by
    have k := latest_any p pv c w' h1 op oc
    rw [← hN, ← hE, he0] at k
    exact k
  have qd : ∀ w : World, (Op.equalIn 10000 31 (.agg #[.string (txt c.name), .string (txt c.value), .string (txt c.domain), .string (txt c.path), .bool c.hostOnly, .bool c.secure, .bool c.httpOnly, .bool c.lasting, .int .i64 c.site, .int .i64 mm, .int .i64 c.created, .int .i64 c.used, .int .i64 c.no]) (.agg #[.string (txt c.name), .string (txt c.value), .string (txt c.domain), .string (txt c.path), .bool c.hostOnly, .bool c.secure, .bool c.httpOnly, .bool c.lasting, .int .i64 c.site, .int .i64 mm, .int .i64 c.created, .int .i64 c.used, .int .i64 c.no])).run Try.prog w = .ok true w := fun w => by
    have k := ck_eqIn { c with expiry := mm } { c with expiry := mm } w
    rw [(eqC_iff { c with expiry := mm } { c with expiry := mm }).2 rfl] at k
    exact k
  have qc : ∀ w : World, (Op.equalIn 10000 31 (.agg #[.string (txt c.name), .string (txt c.value), .string (txt c.domain), .string (txt c.path), .bool c.hostOnly, .bool c.secure, .bool c.httpOnly, .bool c.lasting, .int .i64 c.site, .int .i64 c.expiry, .int .i64 c.created, .int .i64 c.used, .int .i64 c.no]) (.agg #[.string (txt c.name), .string (txt c.value), .string (txt c.domain), .string (txt c.path), .bool c.hostOnly, .bool c.secure, .bool c.httpOnly, .bool c.lasting, .int .i64 c.site, .int .i64 c.expiry, .int .i64 c.created, .int .i64 c.used, .int .i64 c.no])).run Try.prog w = .ok true w := fun w => by
    have k := ck_eqIn c c w
    rw [(eqC_iff c c).2 rfl] at k
    exact k
  obtain ⟨W0, hW0⟩ : ∃ W0, W0 = ((w.alloc (.cells #[pv, .int .i64 p.dflt, .int .i64 p.c0, .int .i64 p.c1, .int .i64 p.c2, .int .i64 p.c3, .int .i64 p.c4, .int .i64 p.c5, .int .i64 p.c6, .int .i64 p.c7, .int .i64 p.c8, .int .i64 p.c9, .int .i64 p.c10] 25)).alloc (.cells #[.string (txt c.name), .string (txt c.value), .string (txt c.domain), .string (txt c.path), .bool c.hostOnly, .bool c.secure, .bool c.httpOnly, .bool c.lasting, .int .i64 c.site, .int .i64 c.expiry, .int .i64 c.created, .int .i64 c.used, .int .i64 c.no] 31)) := ⟨_, rfl⟩
  have P : Hid (PB W0 w.heap.size p pv) := by
    rw [hW0]
    have h := PB.new w p pv 25 rp
    exact (h.below (below_new _ _))
  have C : Hid (KB W0 (w.heap.size + 1) c) := by
    rw [hW0]
    have h := KB.new (w.alloc (.cells #[pv, .int .i64 p.dflt, .int .i64 p.c0, .int .i64 p.c1, .int .i64 p.c2, .int .i64 p.c3, .int .i64 p.c4, .int .i64 p.c5, .int .i64 p.c6, .int .i64 p.c7, .int .i64 p.c8, .int .i64 p.c9, .int .i64 p.c10] 25)) c 31
    rw [show (w.alloc (.cells #[pv, .int .i64 p.dflt, .int .i64 p.c0, .int .i64 p.c1, .int .i64 p.c2, .int .i64 p.c3, .int .i64 p.c4, .int .i64 p.c5, .int .i64 p.c6, .int .i64 p.c7, .int .i64 p.c8, .int .i64 p.c9, .int .i64 p.c10] 25)).heap.size = w.heap.size + 1 from by simp] at h
    exact h
  have S : Hid (Below w.heap.size w W0) := by rw [hW0]; exact next (below_new _ _) (below_new _ _)
  have HW0 : Hid _ := hW0
  clear rp op oc hN hE hmm hW0 he0 hd
  go_enter Try.func8, Try.ntmps8
  go_upto_region 1 with fail
  rw [← HW0.out]
  clear HW0
  have x0 := P.out.row.cell 0 rfl
  have x1 := P.out.row.cell 1 rfl
  have x2 := P.out.row.cell 2 rfl
  have x3 := P.out.row.cell 3 rfl
  have x4 := P.out.row.cell 4 rfl
  have x5 := P.out.row.cell 5 rfl
  have x6 := P.out.row.cell 6 rfl
  have x7 := P.out.row.cell 7 rfl
  have x8 := P.out.row.cell 8 rfl
  have x9 := P.out.row.cell 9 rfl
  have x10 := P.out.row.cell 10 rfl
  have x11 := P.out.row.cell 11 rfl
  have x12 := P.out.row.cell 12 rfl
  have y0 := C.out.row.cell 0 rfl
  have y1 := C.out.row.cell 1 rfl
  have y2 := C.out.row.cell 2 rfl
  have y3 := C.out.row.cell 3 rfl
  have y4 := C.out.row.cell 4 rfl
  have y5 := C.out.row.cell 5 rfl
  have y6 := C.out.row.cell 6 rfl
  have y7 := C.out.row.cell 7 rfl
  have y8 := C.out.row.cell 8 rfl
  have y9 := C.out.row.cell 9 rfl
  have y10 := C.out.row.cell 10 rfl
  have y11 := C.out.row.cell 11 rfl
  have y12 := C.out.row.cell 12 rfl
  go_wp2_with fail
  refine (K1.out _ P.out.rows).mono ?_
  rintro e v1 ⟨rfl, hb1⟩
  have HLT1 : Hid (w.heap.size + 1 < v1.heap.size) := Nat.lt_of_lt_of_le (cell_in (C.out.row.cell 0 rfl)) hb1.size
  clear x0 x1 x2 x3 x4 x5 x6 x7 x8 x9 x10 x11 x12 y0 y1 y2 y3 y4 y5 y6 y7 y8 y9 y10 y11 y12
  obtain ⟨W1, hW1⟩ : ∃ W1, W1 = v1.alloc (.cells #[.string (txt c.name), .string (txt c.value), .string (txt c.domain), .string (txt c.path), .bool c.hostOnly, .bool c.secure, .bool c.httpOnly, .bool c.lasting, .int .i64 c.site, .int .i64 mm, .int .i64 c.created, .int .i64 c.used, .int .i64 c.no] 31) := ⟨_, rfl⟩
  have hc1 : Below W0.heap.size W0 W1 := by rw [hW1]; exact next hb1 (below_new _ _)
  replace P : Hid (PB W1 w.heap.size p pv) := P.out.below hc1
  replace C : Hid (KB W1 (w.heap.size + 1) c) := C.out.below hc1
  replace S : Hid (Below w.heap.size w W1) := next S.out hc1
  have D : Hid (KB W1 v1.heap.size { c with expiry := mm }) := by rw [hW1]; exact KB.new v1 { c with expiry := mm } 31
  have HW1 : Hid _ := hW1
  clear hb1 hc1 hW1
  go_upto_region 2 with fail
  rw [← HW1.out]
  clear HW1
  go_wp2_with fail
  refine (capBegun_any _).mono ?_
  rintro e Wn2 ⟨rfl, hb2⟩
  replace P : Hid (PB Wn2 w.heap.size p pv) := P.out.below hb2
  replace C : Hid (KB Wn2 (w.heap.size + 1) c) := C.out.below hb2
  replace D : Hid (KB Wn2 v1.heap.size { c with expiry := mm }) := D.out.below hb2
  replace S : Hid (Below w.heap.size w Wn2) := next S.out hb2
  clear hb2
  have x0 := P.out.row.cell 0 rfl
  have x1 := P.out.row.cell 1 rfl
  have x2 := P.out.row.cell 2 rfl
  have x3 := P.out.row.cell 3 rfl
  have x4 := P.out.row.cell 4 rfl
  have x5 := P.out.row.cell 5 rfl
  have x6 := P.out.row.cell 6 rfl
  have x7 := P.out.row.cell 7 rfl
  have x8 := P.out.row.cell 8 rfl
  have x9 := P.out.row.cell 9 rfl
  have x10 := P.out.row.cell 10 rfl
  have x11 := P.out.row.cell 11 rfl
  have x12 := P.out.row.cell 12 rfl
  have y0 := C.out.row.cell 0 rfl
  have y1 := C.out.row.cell 1 rfl
  have y2 := C.out.row.cell 2 rfl
  have y3 := C.out.row.cell 3 rfl
  have y4 := C.out.row.cell 4 rfl
  have y5 := C.out.row.cell 5 rfl
  have y6 := C.out.row.cell 6 rfl
  have y7 := C.out.row.cell 7 rfl
  have y8 := C.out.row.cell 8 rfl
  have y9 := C.out.row.cell 9 rfl
  have y10 := C.out.row.cell 10 rfl
  have y11 := C.out.row.cell 11 rfl
  have y12 := C.out.row.cell 12 rfl
  go_wp2_with fail
  refine (KL.out _ P.out.rows).mono ?_
  rintro e Wn3 ⟨rfl, hb3⟩
  clear x0 x1 x2 x3 x4 x5 x6 x7 x8 x9 x10 x11 x12 y0 y1 y2 y3 y4 y5 y6 y7 y8 y9 y10 y11 y12
  replace P : Hid (PB Wn3 w.heap.size p pv) := P.out.below hb3
  replace C : Hid (KB Wn3 (w.heap.size + 1) c) := C.out.below hb3
  replace D : Hid (KB Wn3 v1.heap.size { c with expiry := mm }) := D.out.below hb3
  replace S : Hid (Below w.heap.size w Wn3) := next S.out hb3
  clear hb3
  have x0 := P.out.row.cell 0 rfl
  have x1 := P.out.row.cell 1 rfl
  have x2 := P.out.row.cell 2 rfl
  have x3 := P.out.row.cell 3 rfl
  have x4 := P.out.row.cell 4 rfl
  have x5 := P.out.row.cell 5 rfl
  have x6 := P.out.row.cell 6 rfl
  have x7 := P.out.row.cell 7 rfl
  have x8 := P.out.row.cell 8 rfl
  have x9 := P.out.row.cell 9 rfl
  have x10 := P.out.row.cell 10 rfl
  have x11 := P.out.row.cell 11 rfl
  have x12 := P.out.row.cell 12 rfl
  have y0 := D.out.row.cell 0 rfl
  have y1 := D.out.row.cell 1 rfl
  have y2 := D.out.row.cell 2 rfl
  have y3 := D.out.row.cell 3 rfl
  have y4 := D.out.row.cell 4 rfl
  have y5 := D.out.row.cell 5 rfl
  have y6 := D.out.row.cell 6 rfl
  have y7 := D.out.row.cell 7 rfl
  have y8 := D.out.row.cell 8 rfl
  have y9 := D.out.row.cell 9 rfl
  have y10 := D.out.row.cell 10 rfl
  have y11 := D.out.row.cell 11 rfl
  have y12 := D.out.row.cell 12 rfl
  go_wp2_with fail
  refine (K2.out _ P.out.rows).mono ?_
  rintro e v4 ⟨rfl, hb4⟩
  clear x0 x1 x2 x3 x4 x5 x6 x7 x8 x9 x10 x11 x12 y0 y1 y2 y3 y4 y5 y6 y7 y8 y9 y10 y11 y12
  obtain ⟨W4, hW4⟩ : ∃ W4, W4 = v4.alloc (.cells #[.string (txt c.name), .string (txt c.value), .string (txt c.domain), .string (txt c.path), .bool c.hostOnly, .bool c.secure, .bool c.httpOnly, .bool c.lasting, .int .i64 c.site, .int .i64 mm, .int .i64 c.created, .int .i64 c.used, .int .i64 c.no] 31) := ⟨_, rfl⟩
  have hc4 : Below Wn3.heap.size Wn3 W4 := by rw [hW4]; exact next hb4 (below_new _ _)
  replace P : Hid (PB W4 w.heap.size p pv) := P.out.below hc4
  replace C : Hid (KB W4 (w.heap.size + 1) c) := C.out.below hc4
  replace D : Hid (KB W4 v1.heap.size { c with expiry := mm }) := D.out.below hc4
  replace S : Hid (Below w.heap.size w W4) := next S.out hc4
  have G : Hid (KB W4 v4.heap.size { c with expiry := mm }) := by rw [hW4]; exact KB.new v4 { c with expiry := mm } 31
  have HW4 : Hid _ := hW4
  clear hb4 hc4 hW4
  go_upto_region 8 with fail
  rw [← HW4.out]
  clear HW4
  have x0 := G.out.row.cell 0 rfl
  have x1 := G.out.row.cell 1 rfl
  have x2 := G.out.row.cell 2 rfl
  have x3 := G.out.row.cell 3 rfl
  have x4 := G.out.row.cell 4 rfl
  have x5 := G.out.row.cell 5 rfl
  have x6 := G.out.row.cell 6 rfl
  have x7 := G.out.row.cell 7 rfl
  have x8 := G.out.row.cell 8 rfl
  have x9 := G.out.row.cell 9 rfl
  have x10 := G.out.row.cell 10 rfl
  have x11 := G.out.row.cell 11 rfl
  have x12 := G.out.row.cell 12 rfl
  have y0 := D.out.row.cell 0 rfl
  have y1 := D.out.row.cell 1 rfl
  have y2 := D.out.row.cell 2 rfl
  have y3 := D.out.row.cell 3 rfl
  have y4 := D.out.row.cell 4 rfl
  have y5 := D.out.row.cell 5 rfl
  have y6 := D.out.row.cell 6 rfl
  have y7 := D.out.row.cell 7 rfl
  have y8 := D.out.row.cell 8 rfl
  have y9 := D.out.row.cell 9 rfl
  have y10 := D.out.row.cell 10 rfl
  have y11 := D.out.row.cell 11 rfl
  have y12 := D.out.row.cell 12 rfl
  have z9 := C.out.row.cell 9 rfl
  have HNE : Hid (w.heap.size + 1 ≠ v1.heap.size) := fun e => by have h1 := HLT1.out; rw [e] at h1; exact Nat.lt_irrefl _ h1
  have HLE : Hid (w.heap.size ≤ v1.heap.size) := Nat.le_of_lt (Nat.lt_of_succ_lt HLT1.out)
  by_cases hle : c.expiry ≤ N
  · have hm : mm = c.expiry := by rw [HMM.out]; omega
    subst hm
    have g1 : ¬ N < c.expiry := by omega
    have g3 : (c.expiry != c.expiry) = false := by simp
    clear HMM
    by_cases he : c.expiry = N
    · have g2 : (c.expiry != N) = false := by rw [he]; simp
      clear he
      obtain ⟨W9, hW9⟩ : ∃ W9, W9 = W4.setCell ⟨v1.heap.size, 9, none⟩ (.int .i64 c.expiry) := ⟨_, rfl⟩
      have D9 : Hid (LRow W9 v1.heap.size (ckC c)) := by rw [hW9]; exact D.out.row.set 9 _
      have C9 : Hid (LRow W9 (w.heap.size + 1) (ckC c)) := by rw [hW9]; exact rowSet C.out.row HNE.out
      have S9 : Hid (Below w.heap.size w W9) := by rw [hW9]; exact S.out.setCell (p := ⟨v1.heap.size, 9, none⟩) HLE.out _
      have u9 := D.out.row.frozen 9 rfl
      have HW9 : Hid _ := hW9
      clear hW9
      go_upto_region 11 with fail
      rw [← HW9.out]
      clear HW9 u9 z9 x0 y0 x1 y1 x2 y2 x3 y3 x4 y4 x5 y5 x6 y6 x7 y7 x8 y8 x9 y9 x10 y10 x11 y11 x12 y12
      have x0 := D9.out.cell 0 rfl
      have y0 := C9.out.cell 0 rfl
      have x1 := D9.out.cell 1 rfl
      have y1 := C9.out.cell 1 rfl
      have x2 := D9.out.cell 2 rfl
      have y2 := C9.out.cell 2 rfl
      have x3 := D9.out.cell 3 rfl
      have y3 := C9.out.cell 3 rfl
      have x4 := D9.out.cell 4 rfl
      have y4 := C9.out.cell 4 rfl
      have x5 := D9.out.cell 5 rfl
      have y5 := C9.out.cell 5 rfl
      have x6 := D9.out.cell 6 rfl
      have y6 := C9.out.cell 6 rfl
      have x7 := D9.out.cell 7 rfl
      have y7 := C9.out.cell 7 rfl
      have x8 := D9.out.cell 8 rfl
      have y8 := C9.out.cell 8 rfl
      have x9 := D9.out.cell 9 rfl
      have y9 := C9.out.cell 9 rfl
      have x10 := D9.out.cell 10 rfl
      have y10 := C9.out.cell 10 rfl
      have x11 := D9.out.cell 11 rfl
      have y11 := C9.out.cell 11 rfl
      have x12 := D9.out.cell 12 rfl
      have y12 := C9.out.cell 12 rfl
      go_wp2_with fail
      go_ret
      exact ⟨rfl, S9.out⟩
    · have g2 : (c.expiry != N) = true := by rw [bne_iff_ne]; exact he
      clear he
      obtain ⟨W9, hW9⟩ : ∃ W9, W9 = W4.setCell ⟨v1.heap.size, 9, none⟩ (.int .i64 c.expiry) := ⟨_, rfl⟩
      have D9 : Hid (LRow W9 v1.heap.size (ckC c)) := by rw [hW9]; exact D.out.row.set 9 _
      have C9 : Hid (LRow W9 (w.heap.size + 1) (ckC c)) := by rw [hW9]; exact rowSet C.out.row HNE.out
      have S9 : Hid (Below w.heap.size w W9) := by rw [hW9]; exact S.out.setCell (p := ⟨v1.heap.size, 9, none⟩) HLE.out _
      have u9 := D.out.row.frozen 9 rfl
      have HW9 : Hid _ := hW9
      clear hW9
      go_upto_region 11 with fail
      rw [← HW9.out]
      clear HW9 u9 z9 x0 y0 x1 y1 x2 y2 x3 y3 x4 y4 x5 y5 x6 y6 x7 y7 x8 y8 x9 y9 x10 y10 x11 y11 x12 y12
      have x0 := D9.out.cell 0 rfl
      have y0 := C9.out.cell 0 rfl
      have x1 := D9.out.cell 1 rfl
      have y1 := C9.out.cell 1 rfl
      have x2 := D9.out.cell 2 rfl
      have y2 := C9.out.cell 2 rfl
      have x3 := D9.out.cell 3 rfl
      have y3 := C9.out.cell 3 rfl
      have x4 := D9.out.cell 4 rfl
      have y4 := C9.out.cell 4 rfl
      have x5 := D9.out.cell 5 rfl
      have y5 := C9.out.cell 5 rfl
      have x6 := D9.out.cell 6 rfl
      have y6 := C9.out.cell 6 rfl
      have x7 := D9.out.cell 7 rfl
      have y7 := C9.out.cell 7 rfl
      have x8 := D9.out.cell 8 rfl
      have y8 := C9.out.cell 8 rfl
      have x9 := D9.out.cell 9 rfl
      have y9 := C9.out.cell 9 rfl
      have x10 := D9.out.cell 10 rfl
      have y10 := C9.out.cell 10 rfl
      have x11 := D9.out.cell 11 rfl
      have y11 := C9.out.cell 11 rfl
      have x12 := D9.out.cell 12 rfl
      have y12 := C9.out.cell 12 rfl
      go_wp2_with fail
      go_ret
      exact ⟨rfl, S9.out⟩
  · have hm : mm = N := by rw [HMM.out]; omega
    subst hm
    have g1 : ¬ c.expiry < mm := by omega
    have g2 : ¬ mm < mm := by omega
    have g3 : (mm != mm) = false := by simp
    clear HMM
    obtain ⟨W9, hW9⟩ : ∃ W9, W9 = W4.setCell ⟨v1.heap.size, 9, none⟩ (.int .i64 c.expiry) := ⟨_, rfl⟩
    have D9 : Hid (LRow W9 v1.heap.size (ckC c)) := by rw [hW9]; exact D.out.row.set 9 _
    have C9 : Hid (LRow W9 (w.heap.size + 1) (ckC c)) := by rw [hW9]; exact rowSet C.out.row HNE.out
    have S9 : Hid (Below w.heap.size w W9) := by rw [hW9]; exact S.out.setCell (p := ⟨v1.heap.size, 9, none⟩) HLE.out _
    have u9 := D.out.row.frozen 9 rfl
    have HW9 : Hid _ := hW9
    clear hW9
    go_upto_region 11 with fail
    rw [← HW9.out]
    clear HW9 u9 z9 x0 y0 x1 y1 x2 y2 x3 y3 x4 y4 x5 y5 x6 y6 x7 y7 x8 y8 x9 y9 x10 y10 x11 y11 x12 y12
    have x0 := D9.out.cell 0 rfl
    have y0 := C9.out.cell 0 rfl
    have x1 := D9.out.cell 1 rfl
    have y1 := C9.out.cell 1 rfl
    have x2 := D9.out.cell 2 rfl
    have y2 := C9.out.cell 2 rfl
    have x3 := D9.out.cell 3 rfl
    have y3 := C9.out.cell 3 rfl
    have x4 := D9.out.cell 4 rfl
    have y4 := C9.out.cell 4 rfl
    have x5 := D9.out.cell 5 rfl
    have y5 := C9.out.cell 5 rfl
    have x6 := D9.out.cell 6 rfl
    have y6 := C9.out.cell 6 rfl
    have x7 := D9.out.cell 7 rfl
    have y7 := C9.out.cell 7 rfl
    have x8 := D9.out.cell 8 rfl
    have y8 := C9.out.cell 8 rfl
    have x9 := D9.out.cell 9 rfl
    have y9 := C9.out.cell 9 rfl
    have x10 := D9.out.cell 10 rfl
    have y10 := C9.out.cell 10 rfl
    have x11 := D9.out.cell 11 rfl
    have y11 := C9.out.cell 11 rfl
    have x12 := D9.out.cell 12 rfl
    have y12 := C9.out.cell 12 rfl
    go_wp2_with fail
    go_ret
    exact ⟨rfl, S9.out⟩
set_option maxRecDepth 100000 in
theorem lifted (os : Os) (started : os.Started) (H : Type) (enc : TypeId × Value → H) :
    ReturnsInHanded {} Try.checked os 8 .any (Rows.capTwiceSpec.pre6 enc Try.prog Try.f8 Rows.capTwiceRow.domain false) (Rows.capTwiceSpec.post enc Try.prog Try.f8 false true false false) := by
  refine returnsInHanded_of_change_sized (C := Try.checked) own started (by kernel_rfl) Try.func8
    (ChangeSpec.witness6 (enc := enc) (C := Try.checked) false ⟨#[], #[.agg #[.slice none 0 0, .int .i64 0, .int .i64 0, .int .i64 0, .int .i64 0, .int .i64 0, .int .i64 0, .int .i64 0, .int .i64 0, .int .i64 0, .int .i64 0, .int .i64 0, .int .i64 0], .agg #[.string ByteArray.empty, .string ByteArray.empty, .string ByteArray.empty, .string ByteArray.empty, .bool false, .bool false, .bool false, .bool false, .int .i64 0, .int .i64 0, .int .i64 0, .int .i64 0, .int .i64 0]], []⟩ 8 (by kernel_rfl) (by kernel_rfl) (by kernel_rfl) (by kernel_rfl)) ?_
  intro W base args ds gs before hval0 hW hcnd hsz0 _
  have hsz : (DataW.weightsEach Try.prog (Try.f8.params.toList ++ Rows.capTwiceSpec.plain.varTypes Try.prog) (ds ++ gs)).all (· ≤ reachBytes) = true := hsz0
  have hval : ∀ (j : Nat) t v, Try.f8.params[j]? = some t → args[j]? = some v → Value.okWide Try.prog W .any base t v := hval0
  have hW' := hW
  obtain ⟨p, q, hA0, hV, rfl, hfz, hnd⟩ := hW
  have hA : DataW.TrodAll enc Try.prog W 0 (fun _ => true) true Try.f8.params.toList args.toList ds p := hA0
  rw [Try.params8] at hA hval hsz
  obtain ⟨v0, vs0, d0, ds0, p0, q0, hargs, rfl, rfl, h0, r0⟩ := trodAll_cons hA
  obtain ⟨v1, vs1, d1, ds1, p1, q1, rfl, rfl, rfl, h1, r1⟩ := trodAll_cons r0
  obtain ⟨rfl, rfl, rfl⟩ := trodAll_nil r1
  obtain rfl : args = #[v0, v1] := by cases args; simp_all
  obtain ⟨rfl, rfl⟩ := trodVars_none hV
  have k0 := h0
  have lt0 : ∀ x ∈ p0, x.block < W.heap.size := by obtain ⟨m, hm⟩ := k0; exact DataW.trod_lt m _ _ _ hm
  have k1 := h1
  have lt1 : ∀ x ∈ p1, x.block < W.heap.size := by obtain ⟨m, hm⟩ := k1; exact DataW.trod_lt m _ _ _ hm
  obtain ⟨po0, pv0, rfl, rd0, ok0, bk0⟩ := open_policy (hval 0 25 v0 rfl rfl) k0 140737488351232 (fits_each hsz (j := 0) (t := 25) rfl rfl)
  obtain ⟨l1, rfl, ok1, bk1⟩ := open_cookie (hval 1 31 v1 rfl rfl) k1 140737488351232 (fits_each hsz (j := 1) (t := 31) rfl rfl)
  clear hA0 hval0
  refine (walk po0 pv0 l1 W rd0 ok0 ok1).mono fun e W' ⟨he, bel⟩ => ?_
  subst he
  exact ⟨_, rfl, _, _, _, [], _, [], hW', trodAll_mk1 (shut_bool Try.underlying4 _), (trodAll_cons_mk (Below.trod laidOut (by kernel_rfl) (of_decide_eq_true (by kernel_rfl)) k0 bel lt0) (trodAll_cons_mk (Below.trod laidOut (by kernel_rfl) (of_decide_eq_true (by kernel_rfl)) k1 bel lt1) trodAll_mk0)), rfl, bel.frame _, fun h => by cases h⟩

theorem proved : Rows.CapTwiceSaid :=
  OpenClaim.holds_of_wide 8 Try.f8 rfl rfl rfl rfl rfl rfl rfl ⟨rfl, rfl, rfl, rfl, rfl⟩ rfl rfl rfl rfl rfl (by kernel_rfl) Try.func8 (by kernel_rfl)
    (of_decide_eq_true (by kernel_rfl)) (by unfold Func.isWrapper; first | (rw [if_pos (by decide +kernel)]; kernel_rfl) | (rw [if_neg (by decide +kernel)]; exact ⟨rfl, rfl⟩))
    (fun os started H enc _ => lifted os started H enc)
#print axioms proved
end Go.Proofs.Ytmjcgkjkhpjgbaa.capTwice
