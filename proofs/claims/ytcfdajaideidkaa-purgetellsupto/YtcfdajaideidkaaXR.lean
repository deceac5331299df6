/- The document's own answer: which rules name a cookie, and what it is for. The document's own answer: is a policy right? The document's own answer: what a cookie is for. The document's own answer: is one of a list; what may be done. Contracts of package clock: the moment of a time, the time of a moment. The reference's way with days, by eras of 400 years that begin with a March: it comes to the same numbers. No walk. Contracts of the reference on moments. The document's own answer: what is let, and how long cookies last. The document's own answer: has one all that another has; may a consent be written. -/
import Derived.Test.YtcfdajaideidkaaPolicyK
import Derived.Test.YtcfdajaideidkaaHostC
import Derived.Test.YtcfdajaideidkaaHostB
import Derived.Deep.RegionHeld3
import Derived.Deep.Cut
import Derived.Deep.CutRange
import Derived.Deep.RegionWith
import Derived.BigQuiet
import Derived.Test.YtcfdajaideidkaaGrantC
import Derived.Test.YtcfdajaideidkaaGrantK
import Derived.Test.YtcfdajaideidkaaClockB
import Derived.Test.YtcfdajaideidkaaXI
namespace Go.Proofs.Ytcfdajaideidkaa
open Go.RowKit
set_option linter.all false
set_option maxRecDepth 100000
set_option maxRecDepth 100000

set_option maxHeartbeats 1000000 in
theorem begins_any (s p : ByteArray) (w : World) (hs : s.size ≤ maxLen) :
    Calls Try.prog 69 #[.string s, .string p] w fun e w' => e = .returned (.bool (Lib.hasPrefix s.data.toList p.data.toList)) ∧ w' = w := by
  unfold maxLen at hs
  have HR : Hid _ := Lib.hasPrefix_raw s p
  by_cases h : p.size ≤ s.size
  · go_enter Try.func69, Try.ntmps69
    go_wp2_with fail
    go_ret
    refine ⟨?_, rfl⟩
    rw [← HR.out]
    simp [h]
  · go_enter Try.func69, Try.ntmps69
    go_wp2_with fail
    go_ret
    refine ⟨?_, rfl⟩
    rw [← HR.out]
    simp [h]
set_option maxHeartbeats 8000000 in
theorem namesOf_any (r : Ru) (c : Ck) (w : World) (hn : c.name.length ≤ 140737488351232) (ht : r.text.length ≤ 140737488351232) (hd : (c.domain.length + 1) * 16 ≤ 140737488355328) :
    Calls Try.prog 60 #[.agg #[.int .i64 r.kind, .string (txt r.text), .int .i64 r.purpose, .int .i64 r.vendor], .agg #[.string (txt c.name), .string (txt c.value), .string (txt c.domain), .string (txt c.path), .bool c.hostOnly, .bool c.secure, .bool c.httpOnly, .bool c.lasting, .int .i64 c.site, .int .i64 c.expiry, .int .i64 c.created, .int .i64 c.used, .int .i64 c.no]] w fun e w' => e = .returned (.bool (namesR r c)) ∧ Below w.heap.size w w' := by
  obtain ⟨z, hz⟩ : ∃ z, z = namesR r c := ⟨_, rfl⟩
  rw [← hz]
  have KB' : Hid (∀ w', Calls Try.prog 69 #[.string (txt c.name), .string (txt r.text)] w' fun e w'' => e = .returned (.bool (Lib.hasPrefix c.name r.text)) ∧ w'' = w') := fun w' => begins_any (txt c.name) (txt r.text) w' (by show c.name.length ≤ maxLen; unfold maxLen; omega)
  have KM : Hid (∀ w', Calls Try.prog 70 #[.string (txt c.domain), .string (txt r.text)] w' fun e w'' => e = .returned (.bool (matchL c.domain r.text)) ∧ Below w'.heap.size w' w'') := fun w' => isMatch_any (txt c.domain) (txt r.text) w' hd (by show r.text.length ≤ maxLen; unfold maxLen; omega)
  have HRAW : Hid _ := Lib.hasSuffix_raw (txt c.name) (txt r.text)
  obtain ⟨W0, hW0⟩ : ∃ W0, W0 = ((w.alloc (.cells #[.int .i64 r.kind, .string (txt r.text), .int .i64 r.purpose, .int .i64 r.vendor] 83)).alloc (.cells #[.string (txt c.name), .string (txt c.value), .string (txt c.domain), .string (txt c.path), .bool c.hostOnly, .bool c.secure, .bool c.httpOnly, .bool c.lasting, .int .i64 c.site, .int .i64 c.expiry, .int .i64 c.created, .int .i64 c.used, .int .i64 c.no] 34)) := ⟨_, rfl⟩
  have R : Hid (RB W0 w.heap.size r) := by
    rw [hW0]
    have h := RB.new w r 83
    exact (h.below (below_new _ _))
  have C : Hid (KB W0 (w.heap.size + 1) c) := by
    rw [hW0]
    have h := KB.new (w.alloc (.cells #[.int .i64 r.kind, .string (txt r.text), .int .i64 r.purpose, .int .i64 r.vendor] 83)) c 34
    rw [show (w.alloc (.cells #[.int .i64 r.kind, .string (txt r.text), .int .i64 r.purpose, .int .i64 r.vendor] 83)).heap.size = w.heap.size + 1 from by simp] at h
    exact h
  have S : Hid (Below w.heap.size w W0) := by rw [hW0]; exact next (below_new _ _) (below_new _ _)
  have HW0 : Hid _ := hW0
  have hs1 : (txt c.name).size = c.name.length := txt_size _
  have hs2 : (txt r.text).size = r.text.length := txt_size _
  clear hW0
  by_cases h1 : r.kind = 1
  · skip
    have HZ0 : Hid (z = (c.name == r.text)) := by show _ = _; rw [hz]; unfold namesR; rw [if_pos h1]
    have n1 : (r.kind == 1) = true := by rw [beq_iff_eq]; exact h1
    obtain ⟨b, hb⟩ : ∃ b, b = (c.name == r.text) := ⟨_, rfl⟩
    have yb : ((txt c.name).toList == (txt r.text).toList) = b := by
      rw [hb]
      by_cases e : c.name = r.text
      · rw [tx_t _ _ e, e]; simp
      · rw [tx_f _ _ e]; exact ((beq_eq_false_iff_ne).2 e).symm
    have HZ : Hid (z = b) := by show _ = _; rw [HZ0.out, ← hb]
    clear h1 hz hb HZ0
    go_enter Try.func60, Try.ntmps60
    go_upto_region 1 with fail
    rw [← HW0.out]
    clear HW0
    have x0 := R.out.row.cell 0 rfl
    have x1 := R.out.row.cell 1 rfl
    have x2 := R.out.row.cell 2 rfl
    have x3 := R.out.row.cell 3 rfl
    have y0 := C.out.row.cell 0 rfl
    have y1 := C.out.row.cell 1 rfl
    have y2 := C.out.row.cell 2 rfl
    have y3 := C.out.row.cell 3 rfl
    have y4 := C.out.row.cell 4 rfl
    have y5 := C.out.row.cell 5 rfl
    have y6 := C.out.row.cell 6 rfl
    have y7 := C.out.row.cell 7 rfl
    have y8 := C.out.row.cell 8 rfl
    have y9 := C.out.row.cell 9 rfl
    have y10 := C.out.row.cell 10 rfl
    have y11 := C.out.row.cell 11 rfl
    have y12 := C.out.row.cell 12 rfl
    go_wp2_with fail
    go_quiet (fail)
    go_wp2_with fail
    go_ret
    exact ⟨by rw [HZ.out]; rfl, next S.out (by first | exact Below.refl _ _ | exact (Below.refl _ _).drew | exact ⟨rfl, rfl, rfl, Nat.le_refl _, fun _ _ => rfl⟩)⟩
  by_cases h2 : r.kind = 2
  · skip
    have HZ0 : Hid (z = (Lib.hasPrefix c.name r.text)) := by show _ = _; rw [hz]; unfold namesR; rw [if_neg h1]; rw [if_pos h2]
    have n1 : (r.kind == 1) = false := by rw [beq_eq_false_iff_ne]; exact h1
    have n2 : (r.kind == 2) = true := by rw [beq_iff_eq]; exact h2
    clear h1 h2 hz
    go_enter Try.func60, Try.ntmps60
    go_upto_region 1 with fail
    rw [← HW0.out]
    clear HW0
    have x0 := R.out.row.cell 0 rfl
    have x1 := R.out.row.cell 1 rfl
    have x2 := R.out.row.cell 2 rfl
    have x3 := R.out.row.cell 3 rfl
    have y0 := C.out.row.cell 0 rfl
    have y1 := C.out.row.cell 1 rfl
    have y2 := C.out.row.cell 2 rfl
    have y3 := C.out.row.cell 3 rfl
    have y4 := C.out.row.cell 4 rfl
    have y5 := C.out.row.cell 5 rfl
    have y6 := C.out.row.cell 6 rfl
    have y7 := C.out.row.cell 7 rfl
    have y8 := C.out.row.cell 8 rfl
    have y9 := C.out.row.cell 9 rfl
    have y10 := C.out.row.cell 10 rfl
    have y11 := C.out.row.cell 11 rfl
    have y12 := C.out.row.cell 12 rfl
    go_wp2_with fail
    go_quiet (fail)
    go_wp2_with fail
    refine (KB'.out _).mono ?_
    rintro e w1 ⟨rfl, rfl⟩
    go_wp2_with fail
    go_ret
    exact ⟨by rw [HZ0.out]; rfl, next S.out ⟨rfl, rfl, rfl, Nat.le_refl _, fun _ _ => rfl⟩⟩
  by_cases h3 : r.kind = 3
  · skip
    have HZ0 : Hid (z = (Lib.hasSuffix c.name r.text)) := by show _ = _; rw [hz]; unfold namesR; rw [if_neg h1]; rw [if_neg h2]; rw [if_pos h3]
    have n1 : (r.kind == 1) = false := by rw [beq_eq_false_iff_ne]; exact h1
    have n2 : (r.kind == 2) = false := by rw [beq_eq_false_iff_ne]; exact h2
    have n3 : (r.kind == 3) = true := by rw [beq_iff_eq]; exact h3
    clear h1 h2 h3 hz
    by_cases hle : r.text.length ≤ c.name.length
    · have e1 : ((c.name.length : Int) - (r.text.length : Int)).toNat = c.name.length - r.text.length := by omega
      go_enter Try.func60, Try.ntmps60
      go_upto_region 1 with fail
      rw [← HW0.out]
      clear HW0
      have x0 := R.out.row.cell 0 rfl
      have x1 := R.out.row.cell 1 rfl
      have x2 := R.out.row.cell 2 rfl
      have x3 := R.out.row.cell 3 rfl
      have y0 := C.out.row.cell 0 rfl
      have y1 := C.out.row.cell 1 rfl
      have y2 := C.out.row.cell 2 rfl
      have y3 := C.out.row.cell 3 rfl
      have y4 := C.out.row.cell 4 rfl
      have y5 := C.out.row.cell 5 rfl
      have y6 := C.out.row.cell 6 rfl
      have y7 := C.out.row.cell 7 rfl
      have y8 := C.out.row.cell 8 rfl
      have y9 := C.out.row.cell 9 rfl
      have y10 := C.out.row.cell 10 rfl
      have y11 := C.out.row.cell 11 rfl
      have y12 := C.out.row.cell 12 rfl
      go_wp2_with fail
      go_quiet (fail)
      go_wp2_with fail
      go_quiet (fail)
      go_wp2_with fail
      go_ret
      refine ⟨?_, next S.out (by first | exact Below.refl _ _ | exact (Below.refl _ _).drew | exact ⟨rfl, rfl, rfl, Nat.le_refl _, fun _ _ => rfl⟩)⟩
      rw [HZ0.out]
      rw [show Lib.hasSuffix c.name r.text = _ from HRAW.out.symm, hs1, hs2]
      simp [hle]
    · skip
      go_enter Try.func60, Try.ntmps60
      go_upto_region 1 with fail
      rw [← HW0.out]
      clear HW0
      have x0 := R.out.row.cell 0 rfl
      have x1 := R.out.row.cell 1 rfl
      have x2 := R.out.row.cell 2 rfl
      have x3 := R.out.row.cell 3 rfl
      have y0 := C.out.row.cell 0 rfl
      have y1 := C.out.row.cell 1 rfl
      have y2 := C.out.row.cell 2 rfl
      have y3 := C.out.row.cell 3 rfl
      have y4 := C.out.row.cell 4 rfl
      have y5 := C.out.row.cell 5 rfl
      have y6 := C.out.row.cell 6 rfl
      have y7 := C.out.row.cell 7 rfl
      have y8 := C.out.row.cell 8 rfl
      have y9 := C.out.row.cell 9 rfl
      have y10 := C.out.row.cell 10 rfl
      have y11 := C.out.row.cell 11 rfl
      have y12 := C.out.row.cell 12 rfl
      go_wp2_with fail
      go_quiet (fail)
      go_wp2_with fail
      go_quiet (fail)
      go_wp2_with fail
      go_ret
      refine ⟨?_, next S.out (by first | exact Below.refl _ _ | exact (Below.refl _ _).drew | exact ⟨rfl, rfl, rfl, Nat.le_refl _, fun _ _ => rfl⟩)⟩
      rw [HZ0.out]
      rw [show Lib.hasSuffix c.name r.text = _ from HRAW.out.symm, hs1, hs2]
      simp [hle]
  by_cases h4 : r.kind = 4
  · skip
    have HZ0 : Hid (z = (matchL c.domain r.text)) := by show _ = _; rw [hz]; unfold namesR; rw [if_neg h1]; rw [if_neg h2]; rw [if_neg h3]; rw [if_pos h4]
    have n1 : (r.kind == 1) = false := by rw [beq_eq_false_iff_ne]; exact h1
    have n2 : (r.kind == 2) = false := by rw [beq_eq_false_iff_ne]; exact h2
    have n3 : (r.kind == 3) = false := by rw [beq_eq_false_iff_ne]; exact h3
    have n4 : (r.kind == 4) = true := by rw [beq_iff_eq]; exact h4
    clear h1 h2 h3 h4 hz
    go_enter Try.func60, Try.ntmps60
    go_upto_region 1 with fail
    rw [← HW0.out]
    clear HW0
    have x0 := R.out.row.cell 0 rfl
    have x1 := R.out.row.cell 1 rfl
    have x2 := R.out.row.cell 2 rfl
    have x3 := R.out.row.cell 3 rfl
    have y0 := C.out.row.cell 0 rfl
    have y1 := C.out.row.cell 1 rfl
    have y2 := C.out.row.cell 2 rfl
    have y3 := C.out.row.cell 3 rfl
    have y4 := C.out.row.cell 4 rfl
    have y5 := C.out.row.cell 5 rfl
    have y6 := C.out.row.cell 6 rfl
    have y7 := C.out.row.cell 7 rfl
    have y8 := C.out.row.cell 8 rfl
    have y9 := C.out.row.cell 9 rfl
    have y10 := C.out.row.cell 10 rfl
    have y11 := C.out.row.cell 11 rfl
    have y12 := C.out.row.cell 12 rfl
    go_wp2_with fail
    go_quiet (fail)
    go_wp2_with fail
    refine (KM.out _).mono ?_
    rintro e w1 ⟨rfl, hb1⟩
    have S1 : Hid (Below w.heap.size w w1) := next S.out (next (below_drewN' _ _ _) hb1)
    go_wp2_with fail
    go_ret
    exact ⟨by rw [HZ0.out]; rfl, S1.out⟩
  have HZ : Hid (z = false) := by show _ = _; rw [hz]; unfold namesR; rw [if_neg h1, if_neg h2, if_neg h3, if_neg h4]
  have n1 : (r.kind == 1) = false := by rw [beq_eq_false_iff_ne]; exact h1
  have n2 : (r.kind == 2) = false := by rw [beq_eq_false_iff_ne]; exact h2
  have n3 : (r.kind == 3) = false := by rw [beq_eq_false_iff_ne]; exact h3
  have n4 : (r.kind == 4) = false := by rw [beq_eq_false_iff_ne]; exact h4
  clear h1 h2 h3 h4 hz
  go_enter Try.func60, Try.ntmps60
  go_upto_region 1 with fail
  rw [← HW0.out]
  clear HW0
  have x0 := R.out.row.cell 0 rfl
  have x1 := R.out.row.cell 1 rfl
  have x2 := R.out.row.cell 2 rfl
  have x3 := R.out.row.cell 3 rfl
  have y0 := C.out.row.cell 0 rfl
  have y1 := C.out.row.cell 1 rfl
  have y2 := C.out.row.cell 2 rfl
  have y3 := C.out.row.cell 3 rfl
  have y4 := C.out.row.cell 4 rfl
  have y5 := C.out.row.cell 5 rfl
  have y6 := C.out.row.cell 6 rfl
  have y7 := C.out.row.cell 7 rfl
  have y8 := C.out.row.cell 8 rfl
  have y9 := C.out.row.cell 9 rfl
  have y10 := C.out.row.cell 10 rfl
  have y11 := C.out.row.cell 11 rfl
  have y12 := C.out.row.cell 12 rfl
  go_wp2_with fail
  go_quiet (fail)
  go_wp2_with fail
  go_ret
  exact ⟨by rw [HZ.out]; rfl, next S.out (by first | exact Below.refl _ _ | exact (Below.refl _ _).drew | exact ⟨rfl, rfl, rfl, Nat.le_refl _, fun _ _ => rfl⟩)⟩
end Go.Proofs.Ytcfdajaideidkaa
namespace Go.Proofs.Ytcfdajaideidkaa
open Go.RowKit
set_option linter.all false
set_option maxRecDepth 100000
set_option maxRecDepth 100000

set_option maxHeartbeats 400000 in
theorem isHostP_any (t : List UInt8) (w : World) (ht : t.length ≤ maxLen) : Calls Try.prog 56 #[.string (txt t)] w fun e w' => e = .returned (.bool (canonB t)) ∧ Below w.heap.size w w' := by
  obtain ⟨z, hz⟩ : ∃ z, z = canonE t := ⟨_, rfl⟩
  obtain ⟨u, hu⟩ : ∃ u, u = canonL t := ⟨_, rfl⟩
  have KC : Hid (Calls Try.prog 67 #[.string (txt t)] w fun e w' => e = .returned (.tuple #[.string (txt u), .int .i64 z]) ∧ Below w.heap.size w w') := by rw [hz, hu]; exact hostOf_any (txt t) w ht
  have HR : Hid (canonB t = (decide (z = 0) && (u == t))) := by rw [hz, hu]; rfl
  clear hz hu ht
  go_enter Try.func56, Try.ntmps56
  go_wp2_with fail
  refine KC.out.mono ?_
  rintro e w1 ⟨rfl, hb1⟩
  have HB1 : Hid _ := hb1
  clear hb1
  by_cases h1 : z = 0
  · have q : (z == 0) = true := by rw [h1]; rfl
    by_cases h2 : u = t
    · have y := tx_t u t h2
      have hr : Hid (canonB t = true) := by show _ = _; rw [HR.out, decide_eq_true h1, h2]; simp
      clear h1 h2
      go_wp2_with fail
      go_ret
      exact ⟨by rw [hr.out]; rfl, HB1.out⟩
    · have y := tx_f u t h2
      have hr : Hid (canonB t = false) := by show _ = _; rw [HR.out, (beq_eq_false_iff_ne).2 h2, Bool.and_false]
      clear h1 h2
      go_wp2_with fail
      go_ret
      exact ⟨by rw [hr.out]; rfl, HB1.out⟩
  · have q : (z == 0) = false := by rw [beq_eq_false_iff_ne]; exact h1
    have hr : Hid (canonB t = false) := by show _ = _; rw [HR.out, decide_eq_false h1, Bool.false_and]
    clear h1
    go_wp2_with fail
    go_ret
    exact ⟨by rw [hr.out]; rfl, HB1.out⟩
theorem poL_capQ (p : Po) (pv : Value) (a : Nat) (ha : a < 11) : (poL p pv)[2 + a]? = some (.int .i64 (p.caps[a]?.getD 0)) := by
  rcases eleven a ha with rfl | rfl | rfl | rfl | rfl | rfl | rfl | rfl | rfl | rfl | rfl <;> rfl
set_option maxHeartbeats 16000000 in
theorem polCheckOf_any (p : Po) (v : Value) (w : World) (hr : Rows w v ruC p.rules) (hm : p.rules.length ≤ 140737488351232) (ho : ∀ r ∈ p.rules, RuOk 140737488351232 r) :
    Calls Try.prog 26 #[.agg #[v, .int .i64 p.dflt, .int .i64 p.c0, .int .i64 p.c1, .int .i64 p.c2, .int .i64 p.c3, .int .i64 p.c4, .int .i64 p.c5, .int .i64 p.c6, .int .i64 p.c7, .int .i64 p.c8, .int .i64 p.c9, .int .i64 p.c10]] w fun e w' => e = .returned (.int .i64 (chP p)) ∧ Below w.heap.size w w' := by
  obtain ⟨ad, cap, rfl⟩ := hr.shape
  obtain ⟨z, hz⟩ : ∃ z, z = chP p := ⟨_, rfl⟩
  rw [← hz]
  have HZ : Hid _ := hz
  obtain ⟨l, hl⟩ : ∃ l, l = p.rules := ⟨_, rfl⟩
  have HL : Hid _ := hl
  rw [← hl] at hr hm ho ⊢
  obtain ⟨n, hn⟩ : ∃ n, n = l.length := ⟨_, rfl⟩
  have HN : Hid _ := hn
  rw [← hn] at hm ⊢
  have HR : Hid (Rows w (.slice ad n cap) ruC l) := by rw [HN.out]; exact hr
  have HO : Hid _ := ho
  obtain ⟨W0, hW0⟩ : ∃ W0, W0 = w.alloc (.cells #[.slice ad n cap, .int .i64 p.dflt, .int .i64 p.c0, .int .i64 p.c1, .int .i64 p.c2, .int .i64 p.c3, .int .i64 p.c4, .int .i64 p.c5, .int .i64 p.c6, .int .i64 p.c7, .int .i64 p.c8, .int .i64 p.c9, .int .i64 p.c10] 28) := ⟨_, rfl⟩
  have HB0 : Hid (Below w.heap.size w W0) := by rw [hW0]; exact (Below.refl _ w).alloc (Nat.le_refl _) _
  have HLP : Hid (LRow W0 w.heap.size (poL p (.slice ad n cap))) := by
    rw [hW0]
    exact LRow.new w (poL p (.slice ad n cap)) 28
  have HLT : Hid (w.heap.size < W0.heap.size) := by show _ < _; rw [hW0]; simp
  have HW0 : Hid _ := hW0
  clear hz hl hn hr ho hW0
  go_enter Try.func26, Try.ntmps26
  go_upto_region 1 with fail
  rw [← HW0.out]
  clear HW0
  have p0 := HLP.out.cell 0 rfl
  by_cases h12 : 12 < n
  · have HZ2 : Hid (z = 2) := by show _ = _; rw [HZ.out]; unfold chP; rw [if_pos (by rw [← HL.out, ← HN.out]; exact h12)]
    go_wp2_with fail
    go_ret
    exact ⟨by rw [HZ2.out]; rfl, HB0.out⟩
  have HZ1 : Hid (z = if chRs l = 0 then (if p.dflt < 0 ∨ 10 < p.dflt then 3 else if p.caps.all capB then 0 else 3) else chRs l) := by show _ = _; rw [HZ.out]; unfold chP; rw [if_neg (by rw [← HL.out, ← HN.out]; exact h12), ← HL.out]
  go_wp2_with fail
  clear p0
  go_loopw [3] (fun i wr => ∃ k : Nat, k ≤ n ∧ i = .int .i64 k ∧ Hid (∀ (j : Nat) x, j < k → l[j]? = some x → chRu x = 0) ∧ Hid (Below W0.heap.size W0 wr)) (fun i _ => n - (intOf i).toNat)
  case atStart => exact ⟨0, Nat.zero_le _, rfl, fun _ _ h _ => absurd h (by omega), Below.refl _ _⟩
  case round =>
    obtain ⟨k, hk, rfl, hall, hb⟩ := hrel
    have p0 := (HLP.out.below hb.out HLT.out).cell 0 rfl
    by_cases hlt : k < n
    · obtain ⟨r, e1⟩ : ∃ r, l[k]? = some r := ⟨_, List.getElem?_eq_getElem (by rw [← HN.out]; exact hlt)⟩
      obtain ⟨bl, ol, rfl, hbl, hcell⟩ := Rows.at HR.out rfl 3 (fun _ => rfl) k r e1
      have cc : ∀ i u, (ruC r)[i]? = some u → wr.cell? ⟨bl, ol + k * 4 + i, none⟩ = some u := fun i u h => by
        have h1 := (HB0.out.cell (p := ⟨bl, ol + k * 4 + i, none⟩) hbl).trans (hcell i u h)
        exact (hb.out.cell (p := ⟨bl, ol + k * 4 + i, none⟩) (cell_in h1)).trans h1
      have c0 := cc 0 _ rfl
      have c1 := cc 1 _ rfl
      have c2 := cc 2 _ rfl
      have c3 := cc 3 _ rfl
      rw [Nat.add_zero] at c0
      obtain ⟨y, hy⟩ : ∃ y, y = chRu r := ⟨_, rfl⟩
      have HY : Hid _ := hy
      have HE : Hid _ := e1
      obtain ⟨W1, hW1⟩ : ∃ W1, W1 = wr.alloc (.cells #[.int .i64 r.kind, .string (txt r.text), .int .i64 r.purpose, .int .i64 r.vendor] 83) := ⟨_, rfl⟩
      have R1 : Hid (LRow W1 wr.heap.size (ruC r)) := by rw [hW1]; exact LRow.new wr (ruC r) 83
      have S1W : Hid (Below W0.heap.size W0 W1) := by rw [hW1]; exact hb.out.alloc hb.out.size _
      have S1 : Hid (Below w.heap.size w W1) := next HB0.out S1W.out
      have HRU : Hid (∀ n : Int, ¬ n = 0 → y = n → z = n) := fun n hn0 hyn => by
        have h := chRs_at l k r HE.out (fun j x hj hx => hall.out j x hj hx)
        rw [← HY.out, hyn, if_neg hn0] at h
        rw [HZ1.out, h, if_neg hn0]
      have HTX : Hid (r.text.length ≤ 140737488351232) := (HO.out r (List.mem_of_getElem? e1)).text
      have htx := HTX.out
      have HW1 : Hid _ := hW1
      clear e1 hcell hbl cc hy hW1
      go_upto_region 7 with fail
      rw [← HW1.out]
      clear HW1 c0 c1 c2 c3 p0
      have x0 := R1.out.cell 0 rfl
      have x1 := R1.out.cell 1 rfl
      have x2 := R1.out.cell 2 rfl
      have x3 := R1.out.cell 3 rfl
      by_cases h1 : r.kind < 1
      · have HZX : Hid (z = 7) := HRU.out 7 (by decide) (by rw [HY.out]; unfold chRu; rw [if_pos (.inl h1)])
        go_wp2_with fail
        go_ret
        exact ⟨by rw [HZX.out]; rfl, S1.out⟩
      by_cases h2 : 4 < r.kind
      · have HZX : Hid (z = 7) := HRU.out 7 (by decide) (by rw [HY.out]; unfold chRu; rw [if_pos (.inr h2)])
        go_wp2_with fail
        go_ret
        exact ⟨by rw [HZX.out]; rfl, S1.out⟩
      have HY1 : Hid (y = if r.text = [] ∨ 400 < r.text.length ∨ (r.kind = 4 ∧ canonB r.text = false) then 1 else if (r.purpose < 0 ∨ 10 < r.purpose) ∨ (r.vendor < 0 ∨ 40 < r.vendor) then 3 else 0) := by show _ = _; rw [HY.out]; unfold chRu; rw [if_neg (by omega)]
      have hsz : (txt r.text).size = r.text.length := txt_size _
      by_cases h3 : r.text = []
      · have q3 : ((r.text.length : Int) == 0) = true := by rw [h3]; rfl
        have HZX : Hid (z = 1) := HRU.out 1 (by decide) (by rw [HY1.out, if_pos (.inl h3)])
        clear h3
        go_wp2_with fail
        go_ret
        exact ⟨by rw [HZX.out]; rfl, S1.out⟩
      have q3 : ((r.text.length : Int) == 0) = false := by
        rw [beq_eq_false_iff_ne]
        intro h
        exact h3 (List.length_eq_zero_iff.1 (by omega))
      by_cases h4 : 400 < r.text.length
      · have HZX : Hid (z = 1) := HRU.out 1 (by decide) (by rw [HY1.out, if_pos (.inr (.inl h4))])
        clear h3
        go_wp2_with fail
        go_ret
        exact ⟨by rw [HZX.out]; rfl, S1.out⟩
      by_cases h5 : r.kind = 4
      · have q5 : (r.kind == 4) = true := by rw [h5]; rfl
        have HYC0 : Hid (canonB r.text = false → y = 1) := fun h => by rw [HY1.out, if_pos (.inr (.inr ⟨h5, h⟩))]
        have HYC1 : Hid (canonB r.text = true → y = if (r.purpose < 0 ∨ 10 < r.purpose) ∨ (r.vendor < 0 ∨ 40 < r.vendor) then 3 else 0) := fun h => by
          rw [HY1.out, if_neg]
          rintro (e | e | ⟨_, e⟩)
          · exact h3 e
          · exact h4 e
          · rw [h] at e; cases e
        obtain ⟨cb, hcb⟩ : ∃ b, b = canonB r.text := ⟨_, rfl⟩
        have KH : Hid (∀ w', Calls Try.prog 56 #[.string (txt r.text)] w' fun e w'' => e = .returned (.bool cb) ∧ Below w'.heap.size w' w'') := fun w' => by rw [hcb]; exact isHostP_any r.text w' (by unfold maxLen; omega)
        rw [← hcb] at HYC0 HYC1
        clear h3 h5 hcb HY1
        go_wp2_with fail
        refine (KH.out _).mono ?_
        rintro e w2 ⟨rfl, hb2⟩
        replace S1W : Hid (Below W0.heap.size W0 w2) := next S1W.out hb2
        replace S1 : Hid (Below w.heap.size w w2) := next S1.out hb2
        have R2 := R1.out.below hb2 (cell_in x0)
        clear hb2 x0 x1 x2 x3
        have x0 := R2.cell 0 rfl
        have x1 := R2.cell 1 rfl
        have x2 := R2.cell 2 rfl
        have x3 := R2.cell 3 rfl
        clear R2
        cases cb
        · have HZX : Hid (z = 1) := HRU.out 1 (by decide) (HYC0.out rfl)
          go_wp2_with fail
          go_ret
          exact ⟨by rw [HZX.out]; rfl, S1.out⟩
        have HYC : Hid (y = if (r.purpose < 0 ∨ 10 < r.purpose) ∨ (r.vendor < 0 ∨ 40 < r.vendor) then 3 else 0) := HYC1.out rfl
        clear HYC0 HYC1
        by_cases g1 : r.purpose < 0
        · have HZX : Hid (z = 3) := HRU.out 3 (by decide) (by rw [HYC.out]; rw [if_pos (.inl (.inl g1))])
          go_wp2_with fail
          go_ret
          exact ⟨by rw [HZX.out]; rfl, S1.out⟩
        by_cases g2 : 10 < r.purpose
        · have HZX : Hid (z = 3) := HRU.out 3 (by decide) (by rw [HYC.out]; rw [if_pos (.inl (.inr g2))])
          go_wp2_with fail
          go_ret
          exact ⟨by rw [HZX.out]; rfl, S1.out⟩
        by_cases g3 : r.vendor < 0
        · have HZX : Hid (z = 3) := HRU.out 3 (by decide) (by rw [HYC.out]; rw [if_pos (.inr (.inl g3))])
          go_wp2_with fail
          go_ret
          exact ⟨by rw [HZX.out]; rfl, S1.out⟩
        by_cases g4 : 40 < r.vendor
        · have HZX : Hid (z = 3) := HRU.out 3 (by decide) (by rw [HYC.out]; rw [if_pos (.inr (.inr g4))])
          go_wp2_with fail
          go_ret
          exact ⟨by rw [HZX.out]; rfl, S1.out⟩
        have HA : Hid (∀ (j : Nat) x, j < k + 1 → l[j]? = some x → chRu x = 0) := fun j x hj hx => by
          by_cases e : j = k
          · rw [e, HE.out] at hx
            injection hx with hx
            rw [← hx, ← HY.out, HYC.out, if_neg (by omega)]
          · exact hall.out j x (by omega) hx
        go_wp2_with fail
        go_roundw
        case rel => exact ⟨k + 1, by omega, by go_num, HA, S1W⟩
        case measure => simp [intOf]; omega
      · have q5 : (r.kind == 4) = false := by rw [beq_eq_false_iff_ne]; exact h5
        have HYC : Hid (y = if (r.purpose < 0 ∨ 10 < r.purpose) ∨ (r.vendor < 0 ∨ 40 < r.vendor) then 3 else 0) := by
          show _ = _
          rw [HY1.out, if_neg]
          rintro (e | e | ⟨e, _⟩)
          · exact h3 e
          · exact h4 e
          · exact h5 e
        clear h3 h5 HY1
        by_cases g1 : r.purpose < 0
        · have HZX : Hid (z = 3) := HRU.out 3 (by decide) (by rw [HYC.out]; rw [if_pos (.inl (.inl g1))])
          go_wp2_with fail
          go_ret
          exact ⟨by rw [HZX.out]; rfl, S1.out⟩
        by_cases g2 : 10 < r.purpose
        · have HZX : Hid (z = 3) := HRU.out 3 (by decide) (by rw [HYC.out]; rw [if_pos (.inl (.inr g2))])
          go_wp2_with fail
          go_ret
          exact ⟨by rw [HZX.out]; rfl, S1.out⟩
        by_cases g3 : r.vendor < 0
        · have HZX : Hid (z = 3) := HRU.out 3 (by decide) (by rw [HYC.out]; rw [if_pos (.inr (.inl g3))])
          go_wp2_with fail
          go_ret
          exact ⟨by rw [HZX.out]; rfl, S1.out⟩
        by_cases g4 : 40 < r.vendor
        · have HZX : Hid (z = 3) := HRU.out 3 (by decide) (by rw [HYC.out]; rw [if_pos (.inr (.inr g4))])
          go_wp2_with fail
          go_ret
          exact ⟨by rw [HZX.out]; rfl, S1.out⟩
        have HA : Hid (∀ (j : Nat) x, j < k + 1 → l[j]? = some x → chRu x = 0) := fun j x hj hx => by
          by_cases e : j = k
          · rw [e, HE.out] at hx
            injection hx with hx
            rw [← hx, ← HY.out, HYC.out, if_neg (by omega)]
          · exact hall.out j x (by omega) hx
        go_wp2_with fail
        go_roundw
        case rel => exact ⟨k + 1, by omega, by go_num, HA, S1W⟩
        case measure => simp [intOf]; omega
    · have HZ3 : Hid (z = if p.dflt < 0 ∨ 10 < p.dflt then 3 else if p.caps.all capB then 0 else 3) := by
        show _ = _
        rw [HZ1.out, if_pos (chRs_all l fun j x hx => hall.out j x (by have := (List.getElem?_eq_some_iff.1 hx).1; rw [← HN.out] at this; omega) hx)]
      have HBr : Hid (Below w.heap.size w wr) := next HB0.out hb.out
      have HLr : Hid (LRow wr w.heap.size (poL p (.slice ad n cap))) := HLP.out.below hb.out HLT.out
      have p1 := HLr.out.cell 1 rfl
      clear hall hb hk
      obtain ⟨Wc, hWc⟩ : ∃ W, W = wr := ⟨_, rfl⟩
      rw [← hWc] at HBr HLr p1 p0 ⊢
      clear hWc
      by_cases g1 : p.dflt < 0
      · have HZX : Hid (z = 3) := by show _ = _; rw [HZ3.out, if_pos (.inl g1)]
        go_wp2_with fail
        go_ret
        exact ⟨by rw [HZX.out]; rfl, HBr.out⟩
      by_cases g2 : 10 < p.dflt
      · have HZX : Hid (z = 3) := by show _ = _; rw [HZ3.out, if_pos (.inr g2)]
        go_wp2_with fail
        go_ret
        exact ⟨by rw [HZX.out]; rfl, HBr.out⟩
      have HZ4 : Hid (z = if p.caps.all capB then 0 else 3) := by show _ = _; rw [HZ3.out, if_neg (by omega)]
      go_wp2_with fail
      clear p0 p1 g1 g2
      go_loopw [5] (fun i wq => ∃ k : Nat, k ≤ 11 ∧ i = .int .i64 k ∧ Hid (∀ (j : Nat), j < k → capB (p.caps[j]?.getD 0) = true) ∧ wq = Wc) (fun i _ => 11 - (intOf i).toNat)
      case atStart => exact ⟨0, Nat.zero_le _, rfl, fun _ h => absurd h (by omega), rfl⟩
      case round =>
        obtain ⟨k, hk, rfl, hall, hwq⟩ := hrel
        subst hwq
        by_cases hlt : k < 11
        · obtain ⟨y, hy⟩ : ∃ y, y = p.caps[k]?.getD 0 := ⟨_, rfl⟩
          have cy : wr.cell? ⟨w.heap.size, 2 + k, none⟩ = some (.int .i64 y) := HLr.out.cell (2 + k) (by rw [hy]; exact poL_capQ p _ k hlt)
          have HY : Hid _ := hy
          clear hy
          have bad : capB y = false → z = 3 := fun h0 => by
            rw [HZ4.out, if_neg]
            intro h
            have hk2 : k < p.caps.length := hlt
            have := List.all_eq_true.1 h y (by rw [HY.out, List.getElem?_eq_getElem hk2]; exact List.getElem_mem hk2)
            rw [h0] at this; cases this
          have HBAD : Hid _ := bad
          clear bad
          by_cases g3 : y < 1
          · have HZX : Hid (z = 3) := HBAD.out (by unfold capB; rw [decide_eq_false (by omega), Bool.false_and])
            go_wp2_with fail
            go_ret
            exact ⟨by rw [HZX.out]; rfl, HBr.out⟩
          by_cases g4 : 1000000000 < y
          · have HZX : Hid (z = 3) := HBAD.out (by unfold capB; rw [decide_eq_false (p := y ≤ 1000000000) (by omega), Bool.and_false])
            go_wp2_with fail
            go_ret
            exact ⟨by rw [HZX.out]; rfl, HBr.out⟩
          have HA : Hid (∀ (j : Nat), j < k + 1 → capB (p.caps[j]?.getD 0) = true) := fun j hj => by
            by_cases e : j = k
            · rw [e, ← HY.out]; unfold capB; rw [decide_eq_true (by omega), decide_eq_true (p := y ≤ 1000000000) (by omega)]; rfl
            · exact hall.out j (by omega)
          go_wp2_with fail
          go_roundw
          case rel => exact ⟨k + 1, by omega, by go_num, HA, by first | trivial | rfl⟩
          case measure => simp [intOf]; omega
        · have HZX : Hid (z = 0) := by
            show _ = _
            rw [HZ4.out, if_pos]
            rw [List.all_eq_true]
            intro x hx
            obtain ⟨j, hj⟩ := List.getElem?_of_mem hx
            have hj2 : j < 11 := (List.getElem?_eq_some_iff.1 hj).1
            have := hall.out j (by omega)
            rw [hj] at this; exact this
          go_wp2_with fail
          go_ret
          exact ⟨by rw [HZX.out]; rfl, HBr.out⟩
end Go.Proofs.Ytcfdajaideidkaa
namespace Go.Proofs.Ytcfdajaideidkaa
open Go.RowKit
set_option linter.all false
set_option maxRecDepth 100000
set_option maxRecDepth 100000

set_option maxHeartbeats 16000000 in
theorem kindOf_any (p : Po) (v : Value) (c : Ck) (w : World) (hr : Rows w v ruC p.rules) (hm : p.rules.length ≤ 140737488351232) (ho : ∀ r ∈ p.rules, RuOk 140737488351232 r) (hc : CkOk 140737488351232 c) (hd : (c.domain.length + 1) * 16 ≤ 140737488355328) :
    Calls Try.prog 38 #[.agg #[v, .int .i64 p.dflt, .int .i64 p.c0, .int .i64 p.c1, .int .i64 p.c2, .int .i64 p.c3, .int .i64 p.c4, .int .i64 p.c5, .int .i64 p.c6, .int .i64 p.c7, .int .i64 p.c8, .int .i64 p.c9, .int .i64 p.c10], .agg #[.string (txt c.name), .string (txt c.value), .string (txt c.domain), .string (txt c.path), .bool c.hostOnly, .bool c.secure, .bool c.httpOnly, .bool c.lasting, .int .i64 c.site, .int .i64 c.expiry, .int .i64 c.created, .int .i64 c.used, .int .i64 c.no]] w fun e w' => e = .returned (.tuple #[.int .i64 (kindP p c).1, .int .i64 (kindP p c).2]) ∧ Below w.heap.size w w' := by
  obtain ⟨ad, cap, rfl⟩ := hr.shape
  obtain ⟨P', hP⟩ : ∃ P, P = (kindP p c).1 := ⟨_, rfl⟩
  obtain ⟨V', hV⟩ : ∃ V, V = (kindP p c).2 := ⟨_, rfl⟩
  rw [← hP, ← hV]
  obtain ⟨l, hl⟩ : ∃ l, l = p.rules := ⟨_, rfl⟩
  have HLL : Hid (l = p.rules) := hl
  rw [← hl] at hm ho ⊢
  have HK : Hid (kindL l p.dflt c = (P', V')) := by show _ = _; rw [hl, hP, hV]; rfl
  obtain ⟨n, hn⟩ : ∃ n, n = l.length := ⟨_, rfl⟩
  have HN : Hid _ := hn
  rw [← hn] at hm ⊢
  have hr2 : Rows w (.slice ad n cap) ruC p.rules := by rw [hn, hl]; exact hr
  have KN : Hid (∀ (r : Ru), r ∈ l → ∀ w', Calls Try.prog 60 #[.agg #[.int .i64 r.kind, .string (txt r.text), .int .i64 r.purpose, .int .i64 r.vendor], .agg #[.string (txt c.name), .string (txt c.value), .string (txt c.domain), .string (txt c.path), .bool c.hostOnly, .bool c.secure, .bool c.httpOnly, .bool c.lasting, .int .i64 c.site, .int .i64 c.expiry, .int .i64 c.created, .int .i64 c.used, .int .i64 c.no]] w' fun e w'' => e = .returned (.bool (namesR r c)) ∧ Below w'.heap.size w' w'') := fun r h w' => namesOf_any r c w' hc.name (ho r h).text hd
  obtain ⟨W0, hW0⟩ : ∃ W0, W0 = ((w.alloc (.cells #[(.slice ad n cap), .int .i64 p.dflt, .int .i64 p.c0, .int .i64 p.c1, .int .i64 p.c2, .int .i64 p.c3, .int .i64 p.c4, .int .i64 p.c5, .int .i64 p.c6, .int .i64 p.c7, .int .i64 p.c8, .int .i64 p.c9, .int .i64 p.c10] 28)).alloc (.cells #[.string (txt c.name), .string (txt c.value), .string (txt c.domain), .string (txt c.path), .bool c.hostOnly, .bool c.secure, .bool c.httpOnly, .bool c.lasting, .int .i64 c.site, .int .i64 c.expiry, .int .i64 c.created, .int .i64 c.used, .int .i64 c.no] 34)) := ⟨_, rfl⟩
  have P : Hid (PB W0 w.heap.size p (.slice ad n cap)) := by
    rw [hW0]
    have h := PB.new w p (.slice ad n cap) 28 hr2
    exact (h.below (below_new _ _))
  have C : Hid (KB W0 (w.heap.size + 1) c) := by
    rw [hW0]
    have h := KB.new (w.alloc (.cells #[(.slice ad n cap), .int .i64 p.dflt, .int .i64 p.c0, .int .i64 p.c1, .int .i64 p.c2, .int .i64 p.c3, .int .i64 p.c4, .int .i64 p.c5, .int .i64 p.c6, .int .i64 p.c7, .int .i64 p.c8, .int .i64 p.c9, .int .i64 p.c10] 28)) c 34
    rw [show (w.alloc (.cells #[(.slice ad n cap), .int .i64 p.dflt, .int .i64 p.c0, .int .i64 p.c1, .int .i64 p.c2, .int .i64 p.c3, .int .i64 p.c4, .int .i64 p.c5, .int .i64 p.c6, .int .i64 p.c7, .int .i64 p.c8, .int .i64 p.c9, .int .i64 p.c10] 28)).heap.size = w.heap.size + 1 from by simp] at h
    exact h
  have S : Hid (Below w.heap.size w W0) := by rw [hW0]; exact next (below_new _ _) (below_new _ _)
  have HW0 : Hid _ := hW0
  clear hP hV hn hr ho hc hd hl hr2 hW0
  go_enter Try.func38, Try.ntmps38
  go_upto_region 1 with fail
  rw [← HW0.out]
  clear HW0
  have p0 := P.out.row.cell 0 rfl
  have p1 := P.out.row.cell 1 rfl
  go_wp2_with fail
  clear p0 p1
  go_loopw [6, 7, 8] (fun a b i wr => ∃ (k : Nat) (ii : Int), k ≤ n ∧ i = .int .i64 ii ∧ Hid (ii = (k : Int) - 1) ∧ (∃ (x y : Int), a = .int .i64 x ∧ b = .int .i64 y ∧ Hid (kindL (l.drop k) p.dflt c = (x, y))) ∧ Hid (Below W0.heap.size W0 wr)) (fun _ _ i _ => (intOf i + 1).toNat)
  case atStart => exact ⟨n, (n : Int) - 1, Nat.le_refl _, rfl, rfl, ⟨p.dflt, 0, rfl, rfl, by show _ = _; rw [List.drop_eq_nil_of_le (by rw [← HN.out]; exact Nat.le_refl _)]; rfl⟩, Below.refl _ _⟩
  case round =>
    obtain ⟨k, ii, hk, rfl, hii, ⟨x, y, rfl, rfl, hxy⟩, hb⟩ := hrel
    cases k with
    | zero =>
      have g : ¬ (0 : Int) ≤ ii := by have := hii.out; omega
      have HX : Hid (x = P' ∧ y = V') := by
        have h := hxy.out
        rw [List.drop_zero, HK.out] at h
        injection h with h1 h2
        exact ⟨h1.symm, h2.symm⟩
      clear hk
      go_wp2_with fail
      go_ret2
      exact ⟨by rw [← HX.out.1, ← HX.out.2]; rfl, next S.out hb.out⟩
    | succ j =>
      obtain rfl : ii = (j : Int) := by have := hii.out; omega
      have hlt : j < n := by omega
      obtain ⟨r, e1⟩ : ∃ r, l[j]? = some r := ⟨_, List.getElem?_eq_getElem (by rw [← HN.out]; exact hlt)⟩
      have PR : Hid (PB wr w.heap.size p (.slice ad n cap)) := P.out.below hb.out
      have CR : Hid (KB wr (w.heap.size + 1) c) := C.out.below hb.out
      obtain ⟨bl, ol, rfl, hbl, hcell⟩ := Rows.at PR.out.rows rfl 3 (fun _ => rfl) j r (by rw [← HLL.out]; exact e1)
      have cc : ∀ w', Below wr.heap.size wr w' → ∀ i u, (ruC r)[i]? = some u → w'.cell? ⟨bl, ol + j * 4 + i, none⟩ = some u := fun w' h i u hu => (h.cell (p := ⟨bl, ol + j * 4 + i, none⟩) hbl).trans (hcell i u hu)
      have d0 : ∀ w', Below wr.heap.size wr w' → w'.cell? ⟨bl, ol + j * 4, none⟩ = some (.int .i64 r.kind) := fun w' h => cc w' h 0 _ rfl
      have d1 : ∀ w', Below wr.heap.size wr w' → w'.cell? ⟨bl, ol + j * 4 + 1, none⟩ = some (.string (txt r.text)) := fun w' h => cc w' h 1 _ rfl
      have d2 : ∀ w', Below wr.heap.size wr w' → w'.cell? ⟨bl, ol + j * 4 + 2, none⟩ = some (.int .i64 r.purpose) := fun w' h => cc w' h 2 _ rfl
      have d3 : ∀ w', Below wr.heap.size wr w' → w'.cell? ⟨bl, ol + j * 4 + 3, none⟩ = some (.int .i64 r.vendor) := fun w' h => cc w' h 3 _ rfl
      have f0 : ∀ w', Below wr.heap.size wr w' → w'.cell? ⟨w.heap.size, 0, none⟩ = some (.slice (some ⟨bl, ol, none⟩) n cap) := fun w' h => (PR.out.below h).row.cell 0 rfl
      have y0 : ∀ w', Below wr.heap.size wr w' → w'.cell? ⟨w.heap.size + 1, 0, none⟩ = some (.string (txt c.name)) := fun w' h => (CR.out.below h).row.cell 0 rfl
      have y1 : ∀ w', Below wr.heap.size wr w' → w'.cell? ⟨w.heap.size + 1, 1, none⟩ = some (.string (txt c.value)) := fun w' h => (CR.out.below h).row.cell 1 rfl
      have y2 : ∀ w', Below wr.heap.size wr w' → w'.cell? ⟨w.heap.size + 1, 2, none⟩ = some (.string (txt c.domain)) := fun w' h => (CR.out.below h).row.cell 2 rfl
      have y3 : ∀ w', Below wr.heap.size wr w' → w'.cell? ⟨w.heap.size + 1, 3, none⟩ = some (.string (txt c.path)) := fun w' h => (CR.out.below h).row.cell 3 rfl
      have y4 : ∀ w', Below wr.heap.size wr w' → w'.cell? ⟨w.heap.size + 1, 4, none⟩ = some (.bool c.hostOnly) := fun w' h => (CR.out.below h).row.cell 4 rfl
      have y5 : ∀ w', Below wr.heap.size wr w' → w'.cell? ⟨w.heap.size + 1, 5, none⟩ = some (.bool c.secure) := fun w' h => (CR.out.below h).row.cell 5 rfl
      have y6 : ∀ w', Below wr.heap.size wr w' → w'.cell? ⟨w.heap.size + 1, 6, none⟩ = some (.bool c.httpOnly) := fun w' h => (CR.out.below h).row.cell 6 rfl
      have y7 : ∀ w', Below wr.heap.size wr w' → w'.cell? ⟨w.heap.size + 1, 7, none⟩ = some (.bool c.lasting) := fun w' h => (CR.out.below h).row.cell 7 rfl
      have y8 : ∀ w', Below wr.heap.size wr w' → w'.cell? ⟨w.heap.size + 1, 8, none⟩ = some (.int .i64 c.site) := fun w' h => (CR.out.below h).row.cell 8 rfl
      have y9 : ∀ w', Below wr.heap.size wr w' → w'.cell? ⟨w.heap.size + 1, 9, none⟩ = some (.int .i64 c.expiry) := fun w' h => (CR.out.below h).row.cell 9 rfl
      have y10 : ∀ w', Below wr.heap.size wr w' → w'.cell? ⟨w.heap.size + 1, 10, none⟩ = some (.int .i64 c.created) := fun w' h => (CR.out.below h).row.cell 10 rfl
      have y11 : ∀ w', Below wr.heap.size wr w' → w'.cell? ⟨w.heap.size + 1, 11, none⟩ = some (.int .i64 c.used) := fun w' h => (CR.out.below h).row.cell 11 rfl
      have y12 : ∀ w', Below wr.heap.size wr w' → w'.cell? ⟨w.heap.size + 1, 12, none⟩ = some (.int .i64 c.no) := fun w' h => (CR.out.below h).row.cell 12 rfl
      obtain ⟨nm, hnm⟩ : ∃ b, b = namesR r c := ⟨_, rfl⟩
      have KR : Hid (∀ w', Calls Try.prog 60 #[.agg #[.int .i64 r.kind, .string (txt r.text), .int .i64 r.purpose, .int .i64 r.vendor], .agg #[.string (txt c.name), .string (txt c.value), .string (txt c.domain), .string (txt c.path), .bool c.hostOnly, .bool c.secure, .bool c.httpOnly, .bool c.lasting, .int .i64 c.site, .int .i64 c.expiry, .int .i64 c.created, .int .i64 c.used, .int .i64 c.no]] w' fun e w'' => e = .returned (.bool nm) ∧ Below w'.heap.size w' w'') := by rw [hnm]; exact KN.out r (List.mem_of_getElem? e1)
      have HD : Hid ((if nm then (r.purpose, r.vendor) else (x, y)) = kindL (l.drop j) p.dflt c) := by show _ = _; rw [kindL_drop l p.dflt c j r e1, hnm, hxy.out]
      have f0r := f0 wr (Below.refl _ _)
      have hj0 : (0 : Int) ≤ (j : Int) := by omega
      have hj1 : (j : Int) < (n : Int) := by omega
      have CC2 : Hid _ := cc
      clear e1 hcell hbl cc hnm hii hxy
      go_upto_region 5 with fail
      go_region_held3 (fun w' => Below wr.heap.size wr w') (first | assumption | exact (Below.refl _ wr).drew | exact Below.drew (by assumption) | fail)
        (first
        | (go_at_call 60; refine (KR.out _).mono ?_; rintro e w1 ⟨rfl, hbN⟩; have hX1 : Below wr.heap.size wr w1 := Below.trans (by first | assumption | exact (Below.refl _ wr).drew) (hbN.mono (Below.size (by first | assumption | exact (Below.refl _ wr).drew))); clear hbN)
        | fail)
      cases nm
      · have H2 : Hid (kindL (l.drop j) p.dflt c = (x, y)) := HD.out.symm
        have HB1 : Hid (Below W0.heap.size W0 w1) := next hb.out hX1
        clear hX1 d0 d1 d2 d3 f0 f0r y0 y1 y2 y3 y4 y5 y6 y7 y8 y9 y10 y11 y12
        go_wp2_with fail
        go_roundw
        case rel => exact ⟨j, (j : Int) - 1, by omega, by go_num, rfl, ⟨x, y, rfl, rfl, H2⟩, HB1⟩
        case measure => first | (simp [intOf]; done) | (simp [intOf]; omega)
      · have H2 : Hid (kindL (l.drop j) p.dflt c = (r.purpose, r.vendor)) := HD.out.symm
        have HB1 : Hid (Below W0.heap.size W0 (w1.drewN 1)) := (next hb.out hX1).trans (below_drewN' _ _ _)
        have HB1' : Hid (Below W0.heap.size W0 w1) := next hb.out hX1
        have z0 := f0 w1 hX1
        have z2 := d2 w1 hX1
        have z3 := d3 w1 hX1
        clear hX1 d0 d1 d2 d3 f0 f0r y0 y1 y2 y3 y4 y5 y6 y7 y8 y9 y10 y11 y12
        go_wp2_with fail
        go_quiet (fail)
        go_wp2_with fail
        go_roundw
        case rel => exact ⟨j, (j : Int) - 1, by omega, by go_num, rfl, ⟨r.purpose, r.vendor, rfl, rfl, H2⟩, HB1'.out.trans (below_drewN' _ _ _)⟩
        case measure => first | (simp [intOf]; done) | (simp [intOf]; omega)
end Go.Proofs.Ytcfdajaideidkaa
namespace Go.Proofs.Ytcfdajaideidkaa
open Go.RowKit
set_option linter.all false
set_option maxRecDepth 100000
set_option maxRecDepth 100000

set_option maxHeartbeats 2000000 in
theorem hasV_any (v : Value) (l : List Int) (x : Int) (w : World) (hr : Rows w v intF l) (hm : l.length ≤ maxLen) :
    Calls Try.prog 68 #[v, .int .i64 x] w fun e w' => e = .returned (.bool (l.contains x)) ∧ w' = w := by
  obtain ⟨ad, cap, rfl⟩ := hr.shape
  obtain ⟨z, hz⟩ : ∃ z, z = l.contains x := ⟨_, rfl⟩
  rw [← hz]
  obtain ⟨n, hn⟩ : ∃ n, n = l.length := ⟨_, rfl⟩
  have HR : Hid (Rows w (.slice ad n cap) intF l) := by rw [hn]; exact hr
  have HZ1 : Hid (x ∈ l → z = true) := fun h => by rw [hz]; exact List.contains_iff_mem.2 h
  have HZ0 : Hid ((∀ (j : Nat) y, l[j]? = some y → y ≠ x) → z = false) := fun h => by
    rw [hz]
    cases hc : l.contains x
    · rfl
    · obtain ⟨j, hj⟩ := List.getElem?_of_mem (List.contains_iff_mem.1 hc)
      exact absurd rfl (h j x hj)
  have HN : Hid _ := hn
  rw [← hn] at hm ⊢
  unfold maxLen at hm
  clear hr hz hn
  go_enter Try.func68, Try.ntmps68
  go_wp2_with fail
  go_loopw [5] (fun i wr => ∃ k : Nat, k ≤ n ∧ i = .int .i64 k ∧ Hid (∀ (j : Nat) y, j < k → l[j]? = some y → y ≠ x) ∧ wr = w) (fun i _ => n - (intOf i).toNat)
  case atStart => exact ⟨0, Nat.zero_le _, rfl, fun _ _ h _ => absurd h (by omega), rfl⟩
  case round =>
    obtain ⟨k, hk, rfl, hall, hwr⟩ := hrel
    subst hwr
    by_cases hlt : k < n
    · obtain ⟨y, e1⟩ : ∃ y, l[k]? = some y := ⟨_, List.getElem?_eq_getElem (by rw [← HN.out]; exact hlt)⟩
      obtain ⟨bl, ol, rfl, hbl, hcell⟩ := Rows.at HR.out rfl 0 (fun _ => rfl) k y e1
      have c0 := hcell 0 _ rfl
      rw [show ol + k * (0 + 1) + 0 = ol + k by omega] at c0
      have HE : Hid _ := e1
      clear e1 hcell hbl
      by_cases hxy : y = x
      · have q : (y == x) = true := by rw [hxy]; simp
        have HX : Hid (z = true) := HZ1.out (by rw [← hxy]; exact List.mem_of_getElem? HE.out)
        clear hxy
        go_wp2_with fail
        go_ret
        exact ⟨by rw [HX.out]; rfl, by first | trivial | rfl⟩
      · have q : (y == x) = false := by rw [beq_eq_false_iff_ne]; exact hxy
        have HA : Hid (∀ (j : Nat) y, j < k + 1 → l[j]? = some y → y ≠ x) := fun j u hj hu => by
          by_cases e : j = k
          · rw [e, HE.out] at hu
            injection hu with hu
            rw [← hu]; exact hxy
          · exact hall.out j u (by omega) hu
        clear hxy
        go_wp2_with fail
        go_roundw
        case rel => exact ⟨k + 1, by omega, by go_num, HA, by first | trivial | rfl⟩
        case measure => simp [intOf]; omega
    · have HX : Hid (z = false) := HZ0.out fun j y hj => hall.out j y (by have := (List.getElem?_eq_some_iff.1 hj).1; rw [← HN.out] at this; omega) hj
      go_wp2_with fail
      go_ret
      exact ⟨by rw [HX.out]; rfl, by first | trivial | rfl⟩
def mayPre (c : Cn) (p : Int) (k : Nat) : Bool := decide (p = 0) || (List.range k).any fun j => decide (p = (j : Int) + 1) && c.ps[j]?.getD false
theorem mayPre_succ (c : Cn) (p : Int) (k : Nat) : mayPre c p (k + 1) = (mayPre c p k || (decide (p = (k : Int) + 1) && c.ps[k]?.getD false)) := by
  unfold mayPre
  rw [List.range_succ, List.any_append]
  simp only [List.any_cons, List.any_nil, Bool.or_false, Bool.or_assoc]
theorem mayPre_ten (c : Cn) (p : Int) : mayPre c p 10 = (decide (p = 0) || purC c p) := by
  unfold mayPre
  congr 1
  rw [Bool.eq_iff_iff, List.any_eq_true]
  constructor
  · rintro ⟨j, hj, h⟩
    rw [Bool.and_eq_true, decide_eq_true_eq] at h
    have hj := List.mem_range.1 hj
    unfold purC
    rw [decide_eq_true (show 1 ≤ p by omega), decide_eq_true (show p ≤ 10 by omega), show (p - 1).toNat = j by omega, h.2]; rfl
  · intro h
    unfold purC at h
    rw [Bool.and_eq_true, Bool.and_eq_true, decide_eq_true_eq, decide_eq_true_eq] at h
    obtain ⟨⟨h1, h2⟩, h3⟩ := h
    refine ⟨(p - 1).toNat, List.mem_range.2 (by omega), ?_⟩
    rw [Bool.and_eq_true, decide_eq_true_eq]
    exact ⟨by omega, h3⟩
set_option maxHeartbeats 8000000 in
theorem mayOf_any (c : Cn) (v : Value) (p n : Int) (w : World) (hr : Rows w v intF c.vs) (hm : c.vs.length ≤ maxLen) (hp : -9223372036854775808 ≤ p ∧ p ≤ 9223372036854775807) (hn : -9223372036854775808 ≤ n ∧ n ≤ 9223372036854775807) :
    Calls Try.prog 57 #[.agg #[.int .i64 c.g, .bool c.b0, .bool c.b1, .bool c.b2, .bool c.b3, .bool c.b4, .bool c.b5, .bool c.b6, .bool c.b7, .bool c.b8, .bool c.b9, v], .int .i64 p, .int .i64 n] w fun e w' => e = .returned (.bool (mayC c p n)) ∧ Below w.heap.size w w' := by
  obtain ⟨z, hz⟩ : ∃ z, z = mayC c p n := ⟨_, rfl⟩
  obtain ⟨y, hy⟩ : ∃ y, y = c.vs.contains n := ⟨_, rfl⟩
  have HZ : Hid (z = (mayPre c p 10 && (decide (n = 0) || y))) := by show _ = _; rw [hz, hy, mayPre_ten]; rfl
  have KH : Hid (∀ w', Rows w' v intF c.vs → Calls Try.prog 68 #[v, .int .i64 n] w' fun e w'' => e = .returned (.bool y) ∧ w'' = w') := fun w' h => by rw [hy]; exact hasV_any v c.vs n w' h hm
  rw [← hz]
  obtain ⟨W0, hW0⟩ : ∃ W0, W0 = (w.alloc (.cells #[.int .i64 c.g, .bool c.b0, .bool c.b1, .bool c.b2, .bool c.b3, .bool c.b4, .bool c.b5, .bool c.b6, .bool c.b7, .bool c.b8, .bool c.b9, v] 32)) := ⟨_, rfl⟩
  have C : Hid (CB W0 w.heap.size c v) := by
    rw [hW0]
    have h := CB.new w c v 32 hr
    exact h
  have S : Hid (Below w.heap.size w W0) := by rw [hW0]; exact below_new _ _
  have HW0 : Hid _ := hW0
  have HP : Hid (-9223372036854775808 ≤ p ∧ p ≤ 9223372036854775807) := hp
  clear hz hy hr hm hn hW0
  go_enter Try.func57, Try.ntmps57
  go_upto_region 1 with fail
  rw [← HW0.out]
  clear HW0
  obtain ⟨b0, hb0⟩ : ∃ b, b = decide (p = 0) := ⟨_, rfl⟩
  have hq0 : (p == 0) = b0 := by
    rw [hb0]
    by_cases e : p = 0
    · rw [decide_eq_true e, e]; rfl
    · rw [decide_eq_false e]; exact (beq_eq_false_iff_ne).2 e
  have HB0 : Hid (b0 = mayPre c p 0) := by show _ = _; rw [hb0]; unfold mayPre; simp
  clear hb0
  go_wp2_with fail
  clear hq0
  go_loopw [7, 8] (fun a i wr => ∃ (k : Nat) (b : Bool), k ≤ 10 ∧ i = .int .i64 k ∧ a = .bool b ∧ Hid (b = mayPre c p k) ∧ wr = W0) (fun _ i _ => 10 - (intOf i).toNat)
  case atStart => exact ⟨0, b0, Nat.zero_le _, rfl, rfl, HB0, rfl⟩
  case round =>
    obtain ⟨k, b, hk, rfl, rfl, hbb, hwr⟩ := hrel
    subst hwr
    by_cases hlt : k < 10
    · obtain ⟨x, hx⟩ : ∃ x, x = c.ps[k]?.getD false := ⟨_, rfl⟩
      have cx : wr.cell? ⟨w.heap.size, 1 + k, none⟩ = some (.bool x) := by rw [hx]; exact C.out.row.cell (1 + k) (ps_get c v k hlt)
      have HS : Hid (mayPre c p (k + 1) = (b || (decide (p = (k : Int) + 1) && x))) := by show _ = _; rw [mayPre_succ, ← hbb.out, ← hx]
      clear hx
      cases b
      · by_cases e : p = (k : Int) + 1
        · have q : (p == (k : Int) + 1) = true := by rw [e]; simp
          have H2 : Hid (x = mayPre c p (k + 1)) := by show _ = _; rw [HS.out, decide_eq_true e]; simp
          clear e
          go_wp2_with fail
          go_roundw
          case rel => exact ⟨k + 1, x, by omega, by go_num, rfl, H2, by first | trivial | rfl⟩
          case measure => simp [intOf]; omega
        · have q : (p == (k : Int) + 1) = false := by rw [beq_eq_false_iff_ne]; exact e
          have H2 : Hid (false = mayPre c p (k + 1)) := by show _ = _; rw [HS.out, decide_eq_false e]; simp
          clear e
          go_wp2_with fail
          go_roundw
          case rel => exact ⟨k + 1, false, by omega, by go_num, rfl, H2, by first | trivial | rfl⟩
          case measure => simp [intOf]; omega
      · have H2 : Hid (true = mayPre c p (k + 1)) := by show _ = _; rw [HS.out]; simp
        go_wp2_with fail
        go_roundw
        case rel => exact ⟨k + 1, true, by omega, by go_num, rfl, H2, by first | trivial | rfl⟩
        case measure => simp [intOf]; omega
    · have HZ2 : Hid (z = (b && (decide (n = 0) || y))) := by show _ = _; rw [HZ.out, hbb.out, show k = 10 by omega]
      have c11 := C.out.row.cell 11 rfl
      cases b
      · have HX : Hid (z = false) := by show _ = _; rw [HZ2.out]; rfl
        go_wp2_with fail
        go_ret
        exact ⟨by rw [HX.out]; rfl, S.out⟩
      · by_cases hn0 : n = 0
        · have q : (n == 0) = true := by rw [hn0]; rfl
          have HX : Hid (z = true) := by show _ = _; rw [HZ2.out, decide_eq_true hn0]; rfl
          clear hn0
          go_wp2_with fail
          go_ret
          exact ⟨by rw [HX.out]; rfl, S.out⟩
        · have q : (n == 0) = false := by rw [beq_eq_false_iff_ne]; exact hn0
          have HX : Hid (z = y) := by show _ = _; rw [HZ2.out, decide_eq_false hn0]; simp
          clear hn0
          go_wp2_with fail
          refine (KH.out _ C.out.rows).mono ?_
          rintro e w2 ⟨rfl, rfl⟩
          go_wp2_with fail
          go_ret
          exact ⟨by rw [HX.out]; rfl, S.out⟩
end Go.Proofs.Ytcfdajaideidkaa
namespace Go.Proofs.Ytcfdajaideidkaa
open Go.RowKit
set_option linter.all false
set_option maxRecDepth 100000

def ofV (y m d h i s : Int) : Int := if vldB y m d h i s then momOf y m d h i s else 0
def ofE (y m d h i s : Int) : Int := if vldB y m d h i s then 0 else 3
theorem of_yes {y m d h i s : Int} (hv : vldB y m d h i s = true) : ofV y m d h i s = momOf y m d h i s ∧ ofE y m d h i s = 0 := by unfold ofV ofE; rw [hv]; exact ⟨rfl, rfl⟩
theorem of_no {y m d h i s : Int} (hv : vldB y m d h i s = false) : ofV y m d h i s = 0 ∧ ofE y m d h i s = 3 := by unfold ofV ofE; rw [hv]; exact ⟨rfl, rfl⟩
theorem vld_no {y m d h i s : Int} (hn : ¬ (1601 ≤ y ∧ y ≤ 9999 ∧ 1 ≤ m ∧ m ≤ 12 ∧ 1 ≤ d ∧ d ≤ dim y m ∧ 0 ≤ h ∧ h ≤ 23 ∧ 0 ≤ i ∧ i ≤ 59 ∧ 0 ≤ s ∧ s ≤ 59)) : vldB y m d h i s = false := by
  rw [← Bool.not_eq_true, vldB_iff]; exact hn
/-- the first k things of a time are within their bounds -/
def okTo (y m d h i s : Int) (k : Nat) : Prop :=
  (0 < k → 1601 ≤ y ∧ y ≤ 9999) ∧ (1 < k → 1 ≤ m ∧ m ≤ 12) ∧ (2 < k → 1 ≤ d ∧ d ≤ 31) ∧ (3 < k → 0 ≤ h ∧ h ≤ 23) ∧ (4 < k → 0 ≤ i ∧ i ≤ 59) ∧ (5 < k → 0 ≤ s ∧ s ≤ 59)

end Go.Proofs.Ytcfdajaideidkaa
namespace Go.Proofs.Ytcfdajaideidkaa
open Go.RowKit
set_option linter.all false
set_option maxRecDepth 100000

/-- the reference's day's number -/
def dnY (y m : Int) : Int := if m < 3 then y - 1 else y
def dnM (m : Int) : Int := if m < 3 then m + 9 else m - 3
def dnV (y m d : Int) : Int := dnY y m / 400 * 146097 + dnY y m % 400 * 365 + dnY y m % 400 / 4 - dnY y m % 400 / 100 + (153 * dnM m + 2) / 5 + d - 1 - 719468
theorem era_eq (y : Int) : y / 400 * 146097 + y % 400 * 365 + y % 400 / 4 - y % 400 / 100 = y * 365 + y / 4 - y / 100 + y / 400 := by
  have h1 : y / 4 = y / 400 * 100 + y % 400 / 4 := by omega
  have h2 : y / 100 = y / 400 * 4 + y % 400 / 100 := by omega
  omega
theorem dby_flat (y : Int) : dby y = (y - 1) * 365 + (y - 1) / 4 - (y - 1) / 100 + (y - 1) / 400 - 584388 := by unfold dby; omega
theorem dby_step (y : Int) : dby (y + 1) = dby y + 365 + lp y := by
  unfold lp
  cases h : lpB y
  · have hn : ¬ (y % 4 = 0 ∧ (y % 100 ≠ 0 ∨ y % 400 = 0)) := by rw [← lpB_iff, h]; simp
    simp only [Bool.false_eq_true, if_false]
    unfold dby; omega
  · have hn := (lpB_iff y).1 h
    simp only [if_true]
    unfold dby; omega
theorem dn_eq (y m d : Int) (h1 : 1 ≤ m) (h2 : m ≤ 12) : dnV y m d + 134774 = num y m d := by
  unfold dnV
  rw [era_eq]
  have hs := dby_step y
  have hf := dby_flat y
  have hf1 := dby_flat (y + 1)
  rw [show y + 1 - 1 = y from by omega] at hf1
  unfold num
  rcases months m h1 h2 with rfl | rfl | rfl | rfl | rfl | rfl | rfl | rfl | rfl | rfl | rfl | rfl <;> simp [dnY, dnM, cum, cumB] <;> omega

/-- the year in an era, and the day in it -/
def yE (x : Int) : Int := (x - x / 1460 + x / 36524 - x / 146096) / 365
def dE (x : Int) : Int := x - (365 * yE x + yE x / 4 - yE x / 100)
theorem e_c1 (q r t u x : Int) (hq : 0 ≤ q ∧ q ≤ 3) (hr : 0 ≤ r ∧ r ≤ 24) (ht : 0 ≤ t ∧ t ≤ 3) (hu : 0 ≤ u ∧ u ≤ 365) (ex : x = q * 36524 + r * 1461 + t * 365 + u) :
    (q = 3 ∧ r = 24 ∧ t = 3 ∧ u = 365 ∧ x / 146096 = 1 ∧ x / 36524 = 4) ∨ (¬ (q = 3 ∧ r = 24 ∧ t = 3 ∧ u = 365) ∧ x / 146096 = 0) := by
  by_cases hc : q = 3 ∧ r = 24 ∧ t = 3 ∧ u = 365
  · left
    obtain ⟨rfl, rfl, rfl, rfl⟩ := hc
    subst ex
    decide
  · right
    refine ⟨hc, ?_⟩
    have : x < 146096 := by omega
    have : 0 ≤ x := by omega
    clear ex hc
    omega
theorem e_c2 (q r t u x : Int) (hq : 0 ≤ q ∧ q ≤ 3) (hr : 0 ≤ r ∧ r ≤ 24) (ht : 0 ≤ t ∧ t ≤ 3) (hu : 0 ≤ u ∧ u ≤ 365) (hl : r = 24 ∧ u = 365 → q = 3) (h3 : u = 365 → t = 3) (ex : x = q * 36524 + r * 1461 + t * 365 + u)
    (hc : ¬ (q = 3 ∧ r = 24 ∧ t = 3 ∧ u = 365)) : x / 36524 = q := by
  have h : r * 1461 + t * 365 + u < 36524 := by
    by_cases h24 : r = 24
    · by_cases h365 : u = 365
      · exact absurd ⟨hl ⟨h24, h365⟩, h24, h3 h365, h365⟩ hc
      · omega
    · omega
  have h0 : 0 ≤ r * 1461 + t * 365 + u := by omega
  have ex' : x = q * 36524 + (r * 1461 + t * 365 + u) := by omega
  generalize r * 1461 + t * 365 + u = z at *
  clear ex hc hl h3 hr ht hu
  omega
theorem e_c3 (q r t u x : Int) (hq : 0 ≤ q ∧ q ≤ 3) (hr : 0 ≤ r ∧ r ≤ 24) (ht : 0 ≤ t ∧ t ≤ 3) (hu : 0 ≤ u ∧ u ≤ 365) (h3 : u = 365 → t = 3) (ex : x = q * 36524 + r * 1461 + t * 365 + u) :
    ∃ ε : Int, x / 1460 = 25 * q + r + ε ∧ (0 ≤ ε ∧ ε ≤ 1) ∧ (u = 0 → ε = 0) ∧ (u = 365 → ε = 1) := by
  have ex' : x = 1460 * (25 * q + r) + (24 * q + r + 365 * t + u) := by omega
  have hz : 0 ≤ 24 * q + r + 365 * t + u ∧ 24 * q + r + 365 * t + u < 2920 := by omega
  have hz0 : u = 0 → 24 * q + r + 365 * t + u < 1460 := by omega
  have hz1 : u = 365 → 1460 ≤ 24 * q + r + 365 * t + u := by intro h; have := h3 h; omega
  generalize 24 * q + r + 365 * t + u = z at *
  generalize 25 * q + r = a at *
  clear ex hq hr ht hu h3
  refine ⟨x / 1460 - a, by omega, by omega, ?_, ?_⟩
  · intro h; have := hz0 h; omega
  · intro h; have := hz1 h; omega
theorem e_y (q r t u x : Int) (hq : 0 ≤ q ∧ q ≤ 3) (hr : 0 ≤ r ∧ r ≤ 24) (ht : 0 ≤ t ∧ t ≤ 3) (hu : 0 ≤ u ∧ u ≤ 365) (hl : r = 24 ∧ u = 365 → q = 3) (h3 : u = 365 → t = 3) (ex : x = q * 36524 + r * 1461 + t * 365 + u) :
    yE x = q * 100 + r * 4 + t := by
  obtain ⟨ε, c3, c4, c5, c6⟩ := e_c3 q r t u x hq hr ht hu h3 ex
  rcases e_c1 q r t u x hq hr ht hu ex with ⟨rfl, rfl, rfl, rfl, c1, c2⟩ | ⟨hc, c1⟩
  · subst ex
    decide
  · have c2 := e_c2 q r t u x hq hr ht hu hl h3 ex hc
    unfold yE
    rw [c1, c2, c3]
    have hlo : 0 ≤ u - ε ∧ u - ε < 365 := by omega
    have e : x - (25 * q + r + ε) + q - 0 = (q * 100 + r * 4 + t) * 365 + (u - ε) := by omega
    rw [e]
    generalize u - ε = z at *
    generalize q * 100 + r * 4 + t = y at *
    clear ex e c1 c2 c3 c4 c5 c6 hc hl h3 hq hr ht hu
    omega
theorem e_d (q r t u x : Int) (hq : 0 ≤ q ∧ q ≤ 3) (hr : 0 ≤ r ∧ r ≤ 24) (ht : 0 ≤ t ∧ t ≤ 3) (ex : x = q * 36524 + r * 1461 + t * 365 + u) (hy : yE x = q * 100 + r * 4 + t) : dE x = u := by
  unfold dE
  rw [hy]
  have q4 : (q * 100 + r * 4 + t) / 4 = q * 25 + r := by omega
  have q100 : (q * 100 + r * 4 + t) / 100 = q := by omega
  rw [q4, q100]; omega
theorem e_parts (x : Int) (h0 : 0 ≤ x) (h1 : x < 146097) : ∃ q r t u : Int, (0 ≤ q ∧ q ≤ 3) ∧ (0 ≤ r ∧ r ≤ 24) ∧ (0 ≤ t ∧ t ≤ 3) ∧ (0 ≤ u ∧ u ≤ 365) ∧ (r = 24 ∧ u = 365 → q = 3) ∧ (u = 365 → t = 3) ∧ x = q * 36524 + r * 1461 + t * 365 + u := by
  have e0 : k0 x = 0 := by unfold k0; omega
  have er0 : r0 x = x := by unfold r0; rw [e0]; omega
  have a1 : 0 ≤ k1 x ∧ k1 x ≤ 3 ∧ 0 ≤ r1 x ∧ (r1 x < 36524 ∨ k1 x = 3 ∧ r1 x ≤ 36524) := by unfold r1 k1; rw [er0]; omega
  have a2 : 0 ≤ k2 x ∧ k2 x ≤ 24 ∧ 0 ≤ r2 x ∧ (r2 x < 1461) ∧ (k2 x = 24 → r2 x ≤ 1459 ∨ k1 x = 3 ∧ r2 x ≤ 1460) := by unfold r2 k2; omega
  have a3 : 0 ≤ k3 x ∧ k3 x ≤ 3 ∧ 0 ≤ doy x ∧ (doy x < 365 ∨ k3 x = 3 ∧ doy x = 365 ∧ r2 x = 1460) := by unfold doy k3; omega
  have e2 : r1 x = r0 x - k1 x * 36524 := rfl
  have e3 : r2 x = r1 x - k2 x * 1461 := rfl
  have e4 : doy x = r2 x - k3 x * 365 := rfl
  refine ⟨k1 x, k2 x, k3 x, doy x, ⟨a1.1, a1.2.1⟩, ⟨a2.1, a2.2.1⟩, ⟨a3.1, a3.2.1⟩, ⟨a3.2.2.1, ?_⟩, ?_, ?_, ?_⟩
  · rcases a3.2.2.2 with h | ⟨_, h, _⟩
    · exact Int.le_of_lt h
    · rw [h]; decide
  · intro h
    rcases a3.2.2.2 with h3 | ⟨h3, h4, h5⟩
    · rw [h.2] at h3; exact absurd h3 (by decide)
    · rcases a2.2.2.2.2 h.1 with h6 | h6
      · rw [h5] at h6; exact absurd h6 (by decide)
      · exact h6.1
  · intro h
    rcases a3.2.2.2 with h3 | ⟨h3, _, _⟩
    · rw [h] at h3; exact absurd h3 (by decide)
    · exact h3
  · rw [e4, e3, e2, er0]; omega
theorem era_ok (x : Int) (h0 : 0 ≤ x) (h1 : x < 146097) : 0 ≤ yE x ∧ yE x ≤ 399 ∧ 0 ≤ dE x ∧ (dE x < 365 ∨ dE x = 365 ∧ lpB (yE x + 1) = true) := by
  obtain ⟨q, r, t, u, hq, hr, ht, hu, hl, h3, ex⟩ := e_parts x h0 h1
  have hy := e_y q r t u x hq hr ht hu hl h3 ex
  have hd := e_d q r t u x hq hr ht ex hy
  rw [hd, hy]
  clear ex hd hy h0 h1
  refine ⟨by omega, by omega, hu.1, ?_⟩
  by_cases h : u = 365
  · right
    refine ⟨h, ?_⟩
    rw [lpB_iff]
    have h3' := h3 h
    by_cases h24 : r = 24
    · have := hl ⟨h24, h⟩
      subst this; subst h24; subst h3'
      decide
    · subst h3'
      constructor
      · omega
      · left; omega
  · left; omega

/-- the reference's time of a day -/
def eD (n : Int) : Int := dayN n + 584694
def eY (n : Int) : Int := eD n / 146097 * 400 + yE (eD n % 146097)
def eK (n : Int) : Int := dE (eD n % 146097)
def eM (n : Int) : Int := (5 * eK n + 2) / 153
set_option maxHeartbeats 1000000 in
theorem era_time (n : Int) (hn : momB n = true) : tM n = (if 9 < eM n then eM n - 9 else eM n + 3) ∧ tY n = (if 9 < eM n then eY n + 1 else eY n) ∧ tD n = eK n - (153 * eM n + 2) / 5 + 1 ∧ 0 ≤ eM n ∧ eM n ≤ 11 ∧ 0 ≤ eK n ∧ eK n ≤ 365 ∧ 0 ≤ yE (eD n % 146097) ∧ yE (eD n % 146097) ≤ 399 := by
  have hn' := (momB_iff n).1 hn
  have hd : 0 ≤ dayN n ∧ dayN n ≤ 3067670 := by unfold dayN; omega
  have hx : 0 ≤ eD n % 146097 ∧ eD n % 146097 < 146097 := by omega
  obtain ⟨y0, y1, d0, d1⟩ := era_ok (eD n % 146097) hx.1 hx.2
  have hk : 0 ≤ eK n ∧ eK n ≤ 365 := by unfold eK; omega
  have hm : 0 ≤ eM n ∧ eM n ≤ 11 := by unfold eM; omega
  have hm2 : (153 * eM n + 2) / 5 ≤ eK n ∧ (eM n < 11 → eK n < (153 * (eM n + 1) + 2) / 5) := by unfold eM; omega
  obtain ⟨M, hM⟩ : ∃ M, M = if 9 < eM n then eM n - 9 else eM n + 3 := ⟨_, rfl⟩
  obtain ⟨Y, hY⟩ : ∃ Y, Y = if 9 < eM n then eY n + 1 else eY n := ⟨_, rfl⟩
  obtain ⟨D, hD⟩ : ∃ D, D = eK n - (153 * eM n + 2) / 5 + 1 := ⟨_, rfl⟩
  have hM1 : 1 ≤ M ∧ M ≤ 12 := by rw [hM]; split <;> omega
  have hdm : dnM M = eM n := by unfold dnM; rw [hM]; by_cases h : 9 < eM n <;> simp only [h, if_true, if_false] <;> (split <;> omega)
  have hdy : dnY Y M = eY n := by unfold dnY; rw [hM, hY]; by_cases h : 9 < eM n <;> simp only [h, if_true, if_false] <;> (split <;> omega)
  have hnum : num Y M D = dayN n := by
    rw [← dn_eq Y M D hM1.1 hM1.2]
    unfold dnV
    rw [hdy, hdm, hD]
    have e1 : eY n / 400 = eD n / 146097 := by unfold eY; omega
    have e2 : eY n % 400 = yE (eD n % 146097) := by unfold eY; omega
    rw [e1, e2]
    have e3 : eK n = eD n % 146097 - (365 * yE (eD n % 146097) + yE (eD n % 146097) / 4 - yE (eD n % 146097) / 100) := rfl
    have e4 : eD n = dayN n + 584694 := rfl
    omega
  have hdim : 1 ≤ D ∧ D ≤ dim Y M := by
    refine ⟨by omega, ?_⟩
    by_cases h11 : eM n = 11
    · have : M = 2 := by rw [hM, h11]; rfl
      subst this
      have hlp := lp_01 Y
      have ed : dim Y 2 = 28 + lp Y := by unfold dim; simp
      rw [ed, hD, h11]
      rcases d1 with h | ⟨h, hl⟩
      · have : eK n < 365 := h
        omega
      · have : eK n = 365 := h
        have hl2 : lpB Y = true := by
          rw [hY, h11]
          rw [lpB_iff] at hl ⊢
          unfold eY
          simp only [show (9 : Int) < 11 from by omega, if_true]
          omega
        have : lp Y = 1 := by unfold lp; rw [hl2]; rfl
        omega
    · have hk2 := hm2.2 (by omega)
      have hmm : eM n = 0 ∨ eM n = 1 ∨ eM n = 2 ∨ eM n = 3 ∨ eM n = 4 ∨ eM n = 5 ∨ eM n = 6 ∨ eM n = 7 ∨ eM n = 8 ∨ eM n = 9 ∨ eM n = 10 := by omega
      rw [hD]
      rcases hmm with h | h | h | h | h | h | h | h | h | h | h <;> (rw [h] at hM hk2 ⊢; simp at hM; subst hM; simp [dim]; omega)
  have hYb : 1601 ≤ Y ∧ Y ≤ 9999 := by
    have hc := cum_bd Y M hM1.1 (by omega)
    have hcs := cum_succ Y M hM1.1 hM1.2
    have hcm := cum_mono Y (M + 1) 13 (by omega) (by omega) (by omega)
    rw [cum_13] at hcm
    have hst := dby_step Y
    have hnn : dby Y + cum Y M + D - 1 = dayN n := hnum
    constructor
    · rcases Int.lt_or_le Y 1601 with h | h
      · have : dby (Y + 1) ≤ 0 := by unfold dby; omega
        omega
      · exact h
    · rcases Int.lt_or_le 9999 Y with h | h
      · have : 3067671 ≤ dby Y := by unfold dby; omega
        omega
      · exact h
  have hv : vldB Y M D (tH n) (tI n) (tS n) = true := by
    rw [vldB_iff]
    have h1 : 0 ≤ tH n ∧ tH n ≤ 23 := by unfold tH secN; omega
    have h2 : 0 ≤ tI n ∧ tI n ≤ 59 := by unfold tI secN; omega
    have h3 : 0 ≤ tS n ∧ tS n ≤ 59 := by unfold tS secN; omega
    omega
  have hmo : momOf Y M D (tH n) (tI n) (tS n) = n := by
    unfold momOf
    rw [hnum]
    have hs0 : 0 ≤ secN n := by unfold secN; omega
    have hh : tH n * 3600 + tI n * 60 + tS n = secN n := by unfold tH tI tS; omega
    have ds : dayN n * 86400 + secN n = n + 11644473600 := by unfold dayN secN; omega
    omega
  have ht := time_of Y M D (tH n) (tI n) (tS n) hv
  rw [hmo] at ht
  exact ⟨ht.2.1.trans hM, ht.1.trans hY, ht.2.2.1.trans hD, hm.1, hm.2, hk.1, hk.2, y0, y1⟩
end Go.Proofs.Ytcfdajaideidkaa
namespace Go.Proofs.Ytcfdajaideidkaa
open Go.RowKit
set_option linter.all false
set_option maxRecDepth 100000

set_option maxHeartbeats 400000 in
theorem noMoment_any (n : Int) (w : World) : Calls Try.prog 28 #[.int .i64 n] w fun e w' => e = .returned (.bool (!momB n)) ∧ w' = w := by
  by_cases h1 : n < -11644473600
  · have e : momB n = false := by rw [← Bool.not_eq_true, momB_iff]; omega
    rw [e]; clear e
    go_enter Try.func28, Try.ntmps28
    go_wp2
    go_ret
    exact ⟨rfl, rfl⟩
  · by_cases h2 : 253402300799 < n
    · have e : momB n = false := by rw [← Bool.not_eq_true, momB_iff]; omega
      rw [e]; clear e
      go_enter Try.func28, Try.ntmps28
      go_wp2
      go_ret
      exact ⟨rfl, rfl⟩
    · have e : momB n = true := (momB_iff n).2 (by omega)
      rw [e]; clear e
      go_enter Try.func28, Try.ntmps28
      go_wp2
      go_ret
      exact ⟨rfl, rfl⟩
/-- the reference's days of a month: none, if it is none -/
def mdV (y m : Int) : Int := if m < 1 ∨ 12 < m then 0 else dim y m
set_option maxHeartbeats 400000 in
theorem addOf_yes (n s : Int) (h : momB n = true) (hs : -9223372036854775808 ≤ s ∧ s ≤ 9223372036854775807) (w : World) : Calls Try.prog 39 #[.int .i64 n, .int .i64 s] w fun e w' => e = .returned (.tuple #[.int .i64 (addN n s), .int .i64 0]) ∧ w' = w := by
  have hn := (momB_iff n).1 h
  have H : Hid _ := h
  have HW : Hid (addN n s = if 253402300799 - n < s then 253402300799 else if s < -11644473600 - n then -11644473600 else n + s) := rfl
  clear h
  by_cases h1 : 253402300799 - n < s
  · go_enter Try.func39, Try.ntmps39
    go_wp2_with (go_at_call 28; refine (noMoment_any _ _).mono ?_; rw [H.out]; rintro e w' ⟨rfl, rfl⟩)
    go_ret2
    refine ⟨?_, rfl⟩
    rw [HW.out, if_pos h1]; rfl
  · by_cases h2 : s < -11644473600 - n
    · go_enter Try.func39, Try.ntmps39
      go_wp2_with (go_at_call 28; refine (noMoment_any _ _).mono ?_; rw [H.out]; rintro e w' ⟨rfl, rfl⟩)
      go_ret2
      refine ⟨?_, rfl⟩
      rw [HW.out, if_neg (by omega), if_pos h2]; rfl
    · go_enter Try.func39, Try.ntmps39
      go_wp2_with (go_at_call 28; refine (noMoment_any _ _).mono ?_; rw [H.out]; rintro e w' ⟨rfl, rfl⟩)
      go_ret2
      refine ⟨?_, rfl⟩
      rw [HW.out, if_neg (by omega), if_neg (by omega)]; rfl
theorem addOf_no (n s : Int) (h : momB n = false) (w : World) : Calls Try.prog 39 #[.int .i64 n, .int .i64 s] w fun e w' => e = .returned (.tuple #[.int .i64 0, .int .i64 3]) ∧ w' = w := by
  have H : Hid _ := h
  clear h
  go_enter Try.func39, Try.ntmps39
  go_wp2_with (go_at_call 28; refine (noMoment_any _ _).mono ?_; rw [H.out]; rintro e w' ⟨rfl, rfl⟩)
  go_ret2
  exact ⟨rfl, rfl⟩
end Go.Proofs.Ytcfdajaideidkaa
namespace Go.Proofs.Ytcfdajaideidkaa
open Go.RowKit
set_option linter.all false
set_option maxRecDepth 100000
set_option maxRecDepth 100000

set_option maxHeartbeats 4000000 in
theorem letsOf_any (p : Po) (v : Value) (g : Cn) (gv : Value) (c : Ck) (w : World) (hp : PoOk 140737488351232 p) (hr : Rows w v ruC p.rules) (hg : Rows w gv intF g.vs) (hgm : g.vs.length ≤ maxLen) (hc : CkOk 140737488351232 c) (hd : (c.domain.length + 1) * 16 ≤ 140737488355328) :
    Calls Try.prog 30 #[.agg #[v, .int .i64 p.dflt, .int .i64 p.c0, .int .i64 p.c1, .int .i64 p.c2, .int .i64 p.c3, .int .i64 p.c4, .int .i64 p.c5, .int .i64 p.c6, .int .i64 p.c7, .int .i64 p.c8, .int .i64 p.c9, .int .i64 p.c10], .agg #[.int .i64 g.g, .bool g.b0, .bool g.b1, .bool g.b2, .bool g.b3, .bool g.b4, .bool g.b5, .bool g.b6, .bool g.b7, .bool g.b8, .bool g.b9, gv], .agg #[.string (txt c.name), .string (txt c.value), .string (txt c.domain), .string (txt c.path), .bool c.hostOnly, .bool c.secure, .bool c.httpOnly, .bool c.lasting, .int .i64 c.site, .int .i64 c.expiry, .int .i64 c.created, .int .i64 c.used, .int .i64 c.no]] w fun e w' => e = .returned (.bool (letsP p g c)) ∧ Below w.heap.size w w' := by
  obtain ⟨a, ha⟩ : ∃ a, a = (kindP p c).1 := ⟨_, rfl⟩
  obtain ⟨b, hb⟩ : ∃ b, b = (kindP p c).2 := ⟨_, rfl⟩
  obtain ⟨z, hz⟩ : ∃ z, z = letsP p g c := ⟨_, rfl⟩
  rw [← hz]
  have KK : Hid (∀ w', Below w.heap.size w w' → Calls Try.prog 38 #[.agg #[v, .int .i64 p.dflt, .int .i64 p.c0, .int .i64 p.c1, .int .i64 p.c2, .int .i64 p.c3, .int .i64 p.c4, .int .i64 p.c5, .int .i64 p.c6, .int .i64 p.c7, .int .i64 p.c8, .int .i64 p.c9, .int .i64 p.c10], .agg #[.string (txt c.name), .string (txt c.value), .string (txt c.domain), .string (txt c.path), .bool c.hostOnly, .bool c.secure, .bool c.httpOnly, .bool c.lasting, .int .i64 c.site, .int .i64 c.expiry, .int .i64 c.created, .int .i64 c.used, .int .i64 c.no]] w' fun e w'' => e = .returned (.tuple #[.int .i64 a, .int .i64 b]) ∧ Below w'.heap.size w' w'') := fun w' h => by
    rw [ha, hb]; exact kindOf_any p v c w' (Rows.below hr h (Nat.le_refl _)) hp.len hp.rules hc hd
  have KM : Hid (∀ w', Below w.heap.size w w' → Calls Try.prog 57 #[.agg #[.int .i64 g.g, .bool g.b0, .bool g.b1, .bool g.b2, .bool g.b3, .bool g.b4, .bool g.b5, .bool g.b6, .bool g.b7, .bool g.b8, .bool g.b9, gv], .int .i64 a, .int .i64 b] w' fun e w'' => e = .returned (.bool z) ∧ Below w'.heap.size w' w'') := fun w' h => by
    rw [hz, ha, hb]; exact mayOf_any g gv _ _ w' (Rows.below hg h (Nat.le_refl _)) hgm (kindP_i64 hp c).1 (kindP_i64 hp c).2
  obtain ⟨W0, hW0⟩ : ∃ W0, W0 = ((w.alloc (.cells #[v, .int .i64 p.dflt, .int .i64 p.c0, .int .i64 p.c1, .int .i64 p.c2, .int .i64 p.c3, .int .i64 p.c4, .int .i64 p.c5, .int .i64 p.c6, .int .i64 p.c7, .int .i64 p.c8, .int .i64 p.c9, .int .i64 p.c10] 28)).alloc (.cells #[.int .i64 g.g, .bool g.b0, .bool g.b1, .bool g.b2, .bool g.b3, .bool g.b4, .bool g.b5, .bool g.b6, .bool g.b7, .bool g.b8, .bool g.b9, gv] 32)).alloc (.cells #[.string (txt c.name), .string (txt c.value), .string (txt c.domain), .string (txt c.path), .bool c.hostOnly, .bool c.secure, .bool c.httpOnly, .bool c.lasting, .int .i64 c.site, .int .i64 c.expiry, .int .i64 c.created, .int .i64 c.used, .int .i64 c.no] 34) := ⟨_, rfl⟩
  have HB0 : Hid (Below w.heap.size w W0) := by rw [hW0]; exact next (next ((Below.refl _ w).alloc (Nat.le_refl _) _) ((Below.refl _ _).alloc (Nat.le_refl _) _)) ((Below.refl _ _).alloc (Nat.le_refl _) _)
  have n1 : ∀ (W : World) (o : Obj), Below W.heap.size W (W.alloc o) := fun W o => (Below.refl _ W).alloc (Nat.le_refl _) o
  have HLP : Hid (LRow W0 w.heap.size (poL p v)) := by
    rw [hW0]
    exact ((LRow.new w (poL p v) 28).below (n1 _ _) (by simp)).below (n1 _ _) (by simp; omega)
  have HLG : Hid (LRow W0 (w.heap.size + 1) (cnL g gv)) := by
    rw [hW0]
    have h := LRow.new (w.alloc (.cells #[v, .int .i64 p.dflt, .int .i64 p.c0, .int .i64 p.c1, .int .i64 p.c2, .int .i64 p.c3, .int .i64 p.c4, .int .i64 p.c5, .int .i64 p.c6, .int .i64 p.c7, .int .i64 p.c8, .int .i64 p.c9, .int .i64 p.c10] 28)) (cnL g gv) 32
    rw [show (w.alloc (.cells #[v, .int .i64 p.dflt, .int .i64 p.c0, .int .i64 p.c1, .int .i64 p.c2, .int .i64 p.c3, .int .i64 p.c4, .int .i64 p.c5, .int .i64 p.c6, .int .i64 p.c7, .int .i64 p.c8, .int .i64 p.c9, .int .i64 p.c10] 28)).heap.size = w.heap.size + 1 from by simp] at h
    exact h.below (n1 _ _) (by simp)
  have HLC : Hid (LRow W0 (w.heap.size + 1 + 1) (ckC c)) := by
    rw [hW0]
    have h := LRow.new ((w.alloc (.cells #[v, .int .i64 p.dflt, .int .i64 p.c0, .int .i64 p.c1, .int .i64 p.c2, .int .i64 p.c3, .int .i64 p.c4, .int .i64 p.c5, .int .i64 p.c6, .int .i64 p.c7, .int .i64 p.c8, .int .i64 p.c9, .int .i64 p.c10] 28)).alloc (.cells #[.int .i64 g.g, .bool g.b0, .bool g.b1, .bool g.b2, .bool g.b3, .bool g.b4, .bool g.b5, .bool g.b6, .bool g.b7, .bool g.b8, .bool g.b9, gv] 32)) (ckC c) 34
    rw [show ((w.alloc (.cells #[v, .int .i64 p.dflt, .int .i64 p.c0, .int .i64 p.c1, .int .i64 p.c2, .int .i64 p.c3, .int .i64 p.c4, .int .i64 p.c5, .int .i64 p.c6, .int .i64 p.c7, .int .i64 p.c8, .int .i64 p.c9, .int .i64 p.c10] 28)).alloc (.cells #[.int .i64 g.g, .bool g.b0, .bool g.b1, .bool g.b2, .bool g.b3, .bool g.b4, .bool g.b5, .bool g.b6, .bool g.b7, .bool g.b8, .bool g.b9, gv] 32)).heap.size = w.heap.size + 1 + 1 from by simp] at h
    exact h
  have HLT : Hid (w.heap.size + 1 + 1 < W0.heap.size) := by show _ < _; rw [hW0]; simp
  have HW0 : Hid _ := hW0
  clear ha hb hz hp hr hg hgm hc hd hW0 n1
  go_enter Try.func30, Try.ntmps30
  go_upto_region 1 with fail
  rw [← HW0.out]
  clear HW0
  have p0 := HLP.out.cell 0 rfl
  have p1 := HLP.out.cell 1 rfl
  have p2 := HLP.out.cell 2 rfl
  have p3 := HLP.out.cell 3 rfl
  have p4 := HLP.out.cell 4 rfl
  have p5 := HLP.out.cell 5 rfl
  have p6 := HLP.out.cell 6 rfl
  have p7 := HLP.out.cell 7 rfl
  have p8 := HLP.out.cell 8 rfl
  have p9 := HLP.out.cell 9 rfl
  have p10 := HLP.out.cell 10 rfl
  have p11 := HLP.out.cell 11 rfl
  have p12 := HLP.out.cell 12 rfl
  have x0 := HLC.out.cell 0 rfl
  have x1 := HLC.out.cell 1 rfl
  have x2 := HLC.out.cell 2 rfl
  have x3 := HLC.out.cell 3 rfl
  have x4 := HLC.out.cell 4 rfl
  have x5 := HLC.out.cell 5 rfl
  have x6 := HLC.out.cell 6 rfl
  have x7 := HLC.out.cell 7 rfl
  have x8 := HLC.out.cell 8 rfl
  have x9 := HLC.out.cell 9 rfl
  have x10 := HLC.out.cell 10 rfl
  have x11 := HLC.out.cell 11 rfl
  have x12 := HLC.out.cell 12 rfl
  go_wp2_with fail
  refine (KK.out _ HB0.out).mono ?_
  rintro e w1 ⟨rfl, hb1⟩
  have HB1 : Hid _ := next HB0.out hb1
  have L1 : Hid _ := HLG.out.below hb1 (Nat.lt_of_succ_lt HLT.out)
  clear hb1 p0 x0 p1 x1 p2 x2 p3 x3 p4 x4 p5 x5 p6 x6 p7 x7 p8 x8 p9 x9 p10 x10 p11 x11 p12 x12
  have g0 := L1.out.cell 0 rfl
  have g1 := L1.out.cell 1 rfl
  have g2 := L1.out.cell 2 rfl
  have g3 := L1.out.cell 3 rfl
  have g4 := L1.out.cell 4 rfl
  have g5 := L1.out.cell 5 rfl
  have g6 := L1.out.cell 6 rfl
  have g7 := L1.out.cell 7 rfl
  have g8 := L1.out.cell 8 rfl
  have g9 := L1.out.cell 9 rfl
  have g10 := L1.out.cell 10 rfl
  have g11 := L1.out.cell 11 rfl
  go_wp2_with fail
  refine (KM.out _ HB1.out).mono ?_
  rintro e w2 ⟨rfl, hb2⟩
  go_wp2_with fail
  go_ret
  exact ⟨rfl, next HB1.out hb2⟩
set_option maxHeartbeats 8000000 in
theorem latestOf_any (p : Po) (pv : Value) (c : Ck) (w : World) (rp : Rows w pv ruC p.rules) (op : PoOk 140737488351232 p) (oc : CkOk 140737488351232 c) (hd : (c.domain.length + 1) * 16 ≤ 140737488355328) :
    Calls Try.prog 14 #[.agg #[pv, .int .i64 p.dflt, .int .i64 p.c0, .int .i64 p.c1, .int .i64 p.c2, .int .i64 p.c3, .int .i64 p.c4, .int .i64 p.c5, .int .i64 p.c6, .int .i64 p.c7, .int .i64 p.c8, .int .i64 p.c9, .int .i64 p.c10], .agg #[.string (txt c.name), .string (txt c.value), .string (txt c.domain), .string (txt c.path), .bool c.hostOnly, .bool c.secure, .bool c.httpOnly, .bool c.lasting, .int .i64 c.site, .int .i64 c.expiry, .int .i64 c.created, .int .i64 c.used, .int .i64 c.no]] w fun e w' => e = .returned (.tuple #[.int .i64 (capN p c), .int .i64 (capE p c)]) ∧ Below w.heap.size w w' := by
  obtain ⟨N, hN⟩ : ∃ N, N = capN p c := ⟨_, rfl⟩
  obtain ⟨E, hE⟩ : ∃ E, E = capE p c := ⟨_, rfl⟩
  obtain ⟨z, hz⟩ : ∃ z, z = chP p := ⟨_, rfl⟩
  obtain ⟨a, ha⟩ : ∃ a, a = (kindP p c).1.toNat := ⟨_, rfl⟩
  obtain ⟨ai, hai⟩ : ∃ ai, ai = (kindP p c).1 := ⟨_, rfl⟩
  obtain ⟨b, hb⟩ : ∃ b, b = (kindP p c).2 := ⟨_, rfl⟩
  obtain ⟨s, hs⟩ : ∃ s, s = p.caps[a]?.getD 0 := ⟨_, rfl⟩
  have HSS : Hid (s = p.caps[a]?.getD 0) := hs
  have KC : Hid (∀ w', Rows w' pv ruC p.rules → Calls Try.prog 26 #[.agg #[pv, .int .i64 p.dflt, .int .i64 p.c0, .int .i64 p.c1, .int .i64 p.c2, .int .i64 p.c3, .int .i64 p.c4, .int .i64 p.c5, .int .i64 p.c6, .int .i64 p.c7, .int .i64 p.c8, .int .i64 p.c9, .int .i64 p.c10]] w' fun e w'' => e = .returned (.int .i64 z) ∧ Below w'.heap.size w' w'') := fun w' h1 => by rw [hz]; exact polCheckOf_any p pv w' h1 op.len op.rules
  have KK0 : ∀ w', Rows w' pv ruC p.rules → Calls Try.prog 38 #[.agg #[pv, .int .i64 p.dflt, .int .i64 p.c0, .int .i64 p.c1, .int .i64 p.c2, .int .i64 p.c3, .int .i64 p.c4, .int .i64 p.c5, .int .i64 p.c6, .int .i64 p.c7, .int .i64 p.c8, .int .i64 p.c9, .int .i64 p.c10], .agg #[.string (txt c.name), .string (txt c.value), .string (txt c.domain), .string (txt c.path), .bool c.hostOnly, .bool c.secure, .bool c.httpOnly, .bool c.lasting, .int .i64 c.site, .int .i64 c.expiry, .int .i64 c.created, .int .i64 c.used, .int .i64 c.no]] w' fun e w'' => e = .returned (.tuple #[.int .i64 ai, .int .i64 b]) ∧ Below w'.heap.size w' w'' := fun w' h1 => by rw [hai, hb]; exact kindOf_any p pv c w' h1 op.len op.rules oc hd
  have HNZ : Hid (¬ z = 0 → N = 0 ∧ E = z) := fun h => by
    rw [hz] at h
    rw [hN, hE, hz]
    unfold capN capE
    rw [if_neg h, if_neg h]; exact ⟨rfl, rfl⟩
  have HYZ : Hid (z = 0 → a < 11 ∧ ∀ w', Calls Try.prog 39 #[.int .i64 c.created, .int .i64 s] w' fun e w'' => e = .returned (.tuple #[.int .i64 N, .int .i64 E]) ∧ w'' = w') := fun h => by
    rw [hz] at h
    have hr := kindP_range h c
    refine ⟨by rw [ha]; omega, fun w' => ?_⟩
    rw [hN, hE]
    unfold capN capE
    rw [if_pos h, if_pos h, hs, ha]
    cases hm : momB c.created
    · exact addOf_no c.created _ hm w'
    · exact addOf_yes c.created _ hm (cap_i64 op _) w'
  have HAI : Hid (z = 0 → ai = (a : Int)) := fun h => by
    rw [hz] at h
    have hr := kindP_range h c
    rw [hai, ha]; omega
  rw [← hN, ← hE]
  by_cases hz1 : z = 0
  · obtain rfl : ai = (a : Int) := HAI.out hz1
    have KK : Hid (∀ w', Rows w' pv ruC p.rules → Calls Try.prog 38 #[.agg #[pv, .int .i64 p.dflt, .int .i64 p.c0, .int .i64 p.c1, .int .i64 p.c2, .int .i64 p.c3, .int .i64 p.c4, .int .i64 p.c5, .int .i64 p.c6, .int .i64 p.c7, .int .i64 p.c8, .int .i64 p.c9, .int .i64 p.c10], .agg #[.string (txt c.name), .string (txt c.value), .string (txt c.domain), .string (txt c.path), .bool c.hostOnly, .bool c.secure, .bool c.httpOnly, .bool c.lasting, .int .i64 c.site, .int .i64 c.expiry, .int .i64 c.created, .int .i64 c.used, .int .i64 c.no]] w' fun e w'' => e = .returned (.tuple #[.int .i64 (a : Int), .int .i64 b]) ∧ Below w'.heap.size w' w'') := KK0
    clear KK0 hz1 HAI
    obtain ⟨W0, hW0⟩ : ∃ W0, W0 = ((w.alloc (.cells #[pv, .int .i64 p.dflt, .int .i64 p.c0, .int .i64 p.c1, .int .i64 p.c2, .int .i64 p.c3, .int .i64 p.c4, .int .i64 p.c5, .int .i64 p.c6, .int .i64 p.c7, .int .i64 p.c8, .int .i64 p.c9, .int .i64 p.c10] 28)).alloc (.cells #[.string (txt c.name), .string (txt c.value), .string (txt c.domain), .string (txt c.path), .bool c.hostOnly, .bool c.secure, .bool c.httpOnly, .bool c.lasting, .int .i64 c.site, .int .i64 c.expiry, .int .i64 c.created, .int .i64 c.used, .int .i64 c.no] 34)) := ⟨_, rfl⟩
    have P : Hid (PB W0 w.heap.size p pv) := by
      rw [hW0]
      have h := PB.new w p pv 28 rp
      exact (h.below (below_new _ _))
    have C : Hid (KB W0 (w.heap.size + 1) c) := by
      rw [hW0]
      have h := KB.new (w.alloc (.cells #[pv, .int .i64 p.dflt, .int .i64 p.c0, .int .i64 p.c1, .int .i64 p.c2, .int .i64 p.c3, .int .i64 p.c4, .int .i64 p.c5, .int .i64 p.c6, .int .i64 p.c7, .int .i64 p.c8, .int .i64 p.c9, .int .i64 p.c10] 28)) c 34
      rw [show (w.alloc (.cells #[pv, .int .i64 p.dflt, .int .i64 p.c0, .int .i64 p.c1, .int .i64 p.c2, .int .i64 p.c3, .int .i64 p.c4, .int .i64 p.c5, .int .i64 p.c6, .int .i64 p.c7, .int .i64 p.c8, .int .i64 p.c9, .int .i64 p.c10] 28)).heap.size = w.heap.size + 1 from by simp] at h
      exact h
    have S : Hid (Below w.heap.size w W0) := by rw [hW0]; exact next (below_new _ _) (below_new _ _)
    have HW0 : Hid _ := hW0
    clear rp op oc hd hN hE hz ha hai hb hs hW0
    go_enter Try.func14, Try.ntmps14
    go_upto_region 1 with fail
    rw [← HW0.out]
    clear HW0
    have x0 := P.out.row.cell 0 rfl
    have x1 := P.out.row.cell 1 rfl
    have x2 := P.out.row.cell 2 rfl
    have x3 := P.out.row.cell 3 rfl
    have x4 := P.out.row.cell 4 rfl
    have x5 := P.out.row.cell 5 rfl
    have x6 := P.out.row.cell 6 rfl
    have x7 := P.out.row.cell 7 rfl
    have x8 := P.out.row.cell 8 rfl
    have x9 := P.out.row.cell 9 rfl
    have x10 := P.out.row.cell 10 rfl
    have x11 := P.out.row.cell 11 rfl
    have x12 := P.out.row.cell 12 rfl
    go_wp2_with fail
    refine (KC.out _ P.out.rows).mono ?_
    rintro e Wn1 ⟨rfl, hb1⟩
    clear x0 x1 x2 x3 x4 x5 x6 x7 x8 x9 x10 x11 x12
    replace P : Hid (PB Wn1 w.heap.size p pv) := P.out.below hb1
    replace C : Hid (KB Wn1 (w.heap.size + 1) c) := C.out.below hb1
    replace S : Hid (Below w.heap.size w Wn1) := next S.out hb1
    clear hb1
    by_cases hz0 : z = 0
    rotate_left
    · have q : (z != 0) = true := by rw [bne_iff_ne]; exact hz0
      have HX : Hid (N = 0 ∧ E = z) := HNZ.out hz0
      clear hz0
      go_wp2_with fail
      go_ret2
      exact ⟨by rw [HX.out.1, HX.out.2]; rfl, S.out⟩
    have q : (z != 0) = false := by rw [hz0]; rfl
    obtain ⟨ha, KA⟩ := HYZ.out hz0
    have ha2 : (a : Int) < 11 := by omega
    have ha3 : (0 : Int) ≤ (a : Int) := by omega
    have KAD : Hid _ := KA
    clear KA hz0 HYZ HNZ
    have x0 := P.out.row.cell 0 rfl
    have x1 := P.out.row.cell 1 rfl
    have x2 := P.out.row.cell 2 rfl
    have x3 := P.out.row.cell 3 rfl
    have x4 := P.out.row.cell 4 rfl
    have x5 := P.out.row.cell 5 rfl
    have x6 := P.out.row.cell 6 rfl
    have x7 := P.out.row.cell 7 rfl
    have x8 := P.out.row.cell 8 rfl
    have x9 := P.out.row.cell 9 rfl
    have x10 := P.out.row.cell 10 rfl
    have x11 := P.out.row.cell 11 rfl
    have x12 := P.out.row.cell 12 rfl
    have y0 := C.out.row.cell 0 rfl
    have y1 := C.out.row.cell 1 rfl
    have y2 := C.out.row.cell 2 rfl
    have y3 := C.out.row.cell 3 rfl
    have y4 := C.out.row.cell 4 rfl
    have y5 := C.out.row.cell 5 rfl
    have y6 := C.out.row.cell 6 rfl
    have y7 := C.out.row.cell 7 rfl
    have y8 := C.out.row.cell 8 rfl
    have y9 := C.out.row.cell 9 rfl
    have y10 := C.out.row.cell 10 rfl
    have y11 := C.out.row.cell 11 rfl
    have y12 := C.out.row.cell 12 rfl
    go_wp2_with fail
    refine (KK.out _ P.out.rows).mono ?_
    rintro e Wn2 ⟨rfl, hb2⟩
    clear x0 x1 x2 x3 x4 x5 x6 x7 x8 x9 x10 x11 x12 y0 y1 y2 y3 y4 y5 y6 y7 y8 y9 y10 y11 y12
    replace P : Hid (PB Wn2 w.heap.size p pv) := P.out.below hb2
    replace C : Hid (KB Wn2 (w.heap.size + 1) c) := C.out.below hb2
    replace S : Hid (Below w.heap.size w Wn2) := next S.out hb2
    clear hb2
    have e10 : ∀ w', Below Wn2.heap.size Wn2 w' → w'.cell? ⟨w.heap.size + 1, 10, none⟩ = some (.int .i64 c.created) := fun w' h => (C.out.below h).row.cell 10 rfl
    have ecap : ∀ w', Below Wn2.heap.size Wn2 w' → w'.cell? ⟨w.heap.size, 2 + a, none⟩ = some (.int .i64 s) := fun w' h => (P.out.below h).row.cell (2 + a) (by rw [HSS.out]; exact poL_cap p pv a ha)
    go_upto_region 5 with fail
    go_region_held3 (fun w' => Below Wn2.heap.size Wn2 w') (first | assumption | exact (Below.refl _ Wn2).drew | exact Below.drew (by assumption) | fail)
      (first
      | (go_at_call 39; refine (KAD.out _).mono ?_; rintro e wN ⟨rfl, hwN⟩; have hSN : Below Wn2.heap.size Wn2 wN := by rw [hwN]; first | assumption | exact (Below.refl _ Wn2).drew
         clear hwN)
      | fail)
    go_wp2_with fail
    go_ret2
    exact ⟨rfl, next S.out (by assumption)⟩
  · have HX : Hid (N = 0 ∧ E = z) := HNZ.out hz1
    have q : (z != 0) = true := by rw [bne_iff_ne]; exact hz1
    obtain ⟨W0, hW0⟩ : ∃ W0, W0 = ((w.alloc (.cells #[pv, .int .i64 p.dflt, .int .i64 p.c0, .int .i64 p.c1, .int .i64 p.c2, .int .i64 p.c3, .int .i64 p.c4, .int .i64 p.c5, .int .i64 p.c6, .int .i64 p.c7, .int .i64 p.c8, .int .i64 p.c9, .int .i64 p.c10] 28)).alloc (.cells #[.string (txt c.name), .string (txt c.value), .string (txt c.domain), .string (txt c.path), .bool c.hostOnly, .bool c.secure, .bool c.httpOnly, .bool c.lasting, .int .i64 c.site, .int .i64 c.expiry, .int .i64 c.created, .int .i64 c.used, .int .i64 c.no] 34)) := ⟨_, rfl⟩
    have P : Hid (PB W0 w.heap.size p pv) := by
      rw [hW0]
      have h := PB.new w p pv 28 rp
      exact (h.below (below_new _ _))
    have C : Hid (KB W0 (w.heap.size + 1) c) := by
      rw [hW0]
      have h := KB.new (w.alloc (.cells #[pv, .int .i64 p.dflt, .int .i64 p.c0, .int .i64 p.c1, .int .i64 p.c2, .int .i64 p.c3, .int .i64 p.c4, .int .i64 p.c5, .int .i64 p.c6, .int .i64 p.c7, .int .i64 p.c8, .int .i64 p.c9, .int .i64 p.c10] 28)) c 34
      rw [show (w.alloc (.cells #[pv, .int .i64 p.dflt, .int .i64 p.c0, .int .i64 p.c1, .int .i64 p.c2, .int .i64 p.c3, .int .i64 p.c4, .int .i64 p.c5, .int .i64 p.c6, .int .i64 p.c7, .int .i64 p.c8, .int .i64 p.c9, .int .i64 p.c10] 28)).heap.size = w.heap.size + 1 from by simp] at h
      exact h
    have S : Hid (Below w.heap.size w W0) := by rw [hW0]; exact next (below_new _ _) (below_new _ _)
    have HW0 : Hid _ := hW0
    clear rp op oc hd hN hE hz ha hai hb hs hW0 KK0 HNZ HYZ HAI hz1
    go_enter Try.func14, Try.ntmps14
    go_upto_region 1 with fail
    rw [← HW0.out]
    clear HW0
    have x0 := P.out.row.cell 0 rfl
    have x1 := P.out.row.cell 1 rfl
    have x2 := P.out.row.cell 2 rfl
    have x3 := P.out.row.cell 3 rfl
    have x4 := P.out.row.cell 4 rfl
    have x5 := P.out.row.cell 5 rfl
    have x6 := P.out.row.cell 6 rfl
    have x7 := P.out.row.cell 7 rfl
    have x8 := P.out.row.cell 8 rfl
    have x9 := P.out.row.cell 9 rfl
    have x10 := P.out.row.cell 10 rfl
    have x11 := P.out.row.cell 11 rfl
    have x12 := P.out.row.cell 12 rfl
    go_wp2_with fail
    refine (KC.out _ P.out.rows).mono ?_
    rintro e w1 ⟨rfl, hb1⟩
    have S1 : Hid _ := next S.out hb1
    clear hb1
    go_wp2_with fail
    go_ret2
    exact ⟨by rw [HX.out.1, HX.out.2]; rfl, S1.out⟩
set_option maxHeartbeats 16000000 in
theorem clampOf_any (p : Po) (pv : Value) (c : Ck) (w : World) (rp : Rows w pv ruC p.rules) (op : PoOk 140737488351232 p) (oc : CkOk 140737488351232 c) (hdm : (c.domain.length + 1) * 16 ≤ 140737488355328) :
    Calls Try.prog 31 #[.agg #[pv, .int .i64 p.dflt, .int .i64 p.c0, .int .i64 p.c1, .int .i64 p.c2, .int .i64 p.c3, .int .i64 p.c4, .int .i64 p.c5, .int .i64 p.c6, .int .i64 p.c7, .int .i64 p.c8, .int .i64 p.c9, .int .i64 p.c10], .agg #[.string (txt c.name), .string (txt c.value), .string (txt c.domain), .string (txt c.path), .bool c.hostOnly, .bool c.secure, .bool c.httpOnly, .bool c.lasting, .int .i64 c.site, .int .i64 c.expiry, .int .i64 c.created, .int .i64 c.used, .int .i64 c.no]] w fun e w' => e = .returned (.tuple #[.agg (ckC (clampC p c)).toArray, .int .i64 (capE p c)]) ∧ Below w.heap.size w w' := by
  obtain ⟨N, hN⟩ : ∃ N, N = capN p c := ⟨_, rfl⟩
  obtain ⟨E, hE⟩ : ∃ E, E = capE p c := ⟨_, rfl⟩
  obtain ⟨d, hd⟩ : ∃ d, d = clampC p c := ⟨_, rfl⟩
  obtain ⟨mm, hmm⟩ : ∃ m, m = min c.expiry N := ⟨_, rfl⟩
  rw [← hE, ← hd]
  have HD : Hid (d = if E = 0 then { c with expiry := min c.expiry N } else ckZ) := by show _ = _; rw [hd, hE, hN]; rfl
  have HMM : Hid (mm = min c.expiry N) := hmm
  have KL : Hid (∀ w', Rows w' pv ruC p.rules → Calls Try.prog 14 #[.agg #[pv, .int .i64 p.dflt, .int .i64 p.c0, .int .i64 p.c1, .int .i64 p.c2, .int .i64 p.c3, .int .i64 p.c4, .int .i64 p.c5, .int .i64 p.c6, .int .i64 p.c7, .int .i64 p.c8, .int .i64 p.c9, .int .i64 p.c10], .agg #[.string (txt c.name), .string (txt c.value), .string (txt c.domain), .string (txt c.path), .bool c.hostOnly, .bool c.secure, .bool c.httpOnly, .bool c.lasting, .int .i64 c.site, .int .i64 c.expiry, .int .i64 c.created, .int .i64 c.used, .int .i64 c.no]] w' fun e w'' => e = .returned (.tuple #[.int .i64 N, .int .i64 E]) ∧ Below w'.heap.size w' w'') := fun w' h1 => by rw [hN, hE]; exact latestOf_any p pv c w' h1 op oc hdm
  obtain ⟨W0, hW0⟩ : ∃ W0, W0 = (((w.alloc (.cells #[pv, .int .i64 p.dflt, .int .i64 p.c0, .int .i64 p.c1, .int .i64 p.c2, .int .i64 p.c3, .int .i64 p.c4, .int .i64 p.c5, .int .i64 p.c6, .int .i64 p.c7, .int .i64 p.c8, .int .i64 p.c9, .int .i64 p.c10] 28)).alloc (.cells #[.string (txt c.name), .string (txt c.value), .string (txt c.domain), .string (txt c.path), .bool c.hostOnly, .bool c.secure, .bool c.httpOnly, .bool c.lasting, .int .i64 c.site, .int .i64 c.expiry, .int .i64 c.created, .int .i64 c.used, .int .i64 c.no] 34)).alloc (.cells #[.string ⟨#[]⟩, .string ⟨#[]⟩, .string ⟨#[]⟩, .string ⟨#[]⟩, .bool false, .bool false, .bool false, .bool false, .int .i64 0, .int .i64 0, .int .i64 0, .int .i64 0, .int .i64 0] 34)) := ⟨_, rfl⟩
  have P : Hid (PB W0 w.heap.size p pv) := by
    rw [hW0]
    have h := PB.new w p pv 28 rp
    exact ((h.below (below_new _ _)).below (below_new _ _))
  have C : Hid (KB W0 (w.heap.size + 1) c) := by
    rw [hW0]
    have h := KB.new (w.alloc (.cells #[pv, .int .i64 p.dflt, .int .i64 p.c0, .int .i64 p.c1, .int .i64 p.c2, .int .i64 p.c3, .int .i64 p.c4, .int .i64 p.c5, .int .i64 p.c6, .int .i64 p.c7, .int .i64 p.c8, .int .i64 p.c9, .int .i64 p.c10] 28)) c 34
    rw [show (w.alloc (.cells #[pv, .int .i64 p.dflt, .int .i64 p.c0, .int .i64 p.c1, .int .i64 p.c2, .int .i64 p.c3, .int .i64 p.c4, .int .i64 p.c5, .int .i64 p.c6, .int .i64 p.c7, .int .i64 p.c8, .int .i64 p.c9, .int .i64 p.c10] 28)).heap.size = w.heap.size + 1 from by simp] at h
    exact (h.below (below_new _ _))
  have R : Hid (KB W0 (w.heap.size + 1 + 1) ckZ) := by
    rw [hW0]
    have h := KB.new ((w.alloc (.cells #[pv, .int .i64 p.dflt, .int .i64 p.c0, .int .i64 p.c1, .int .i64 p.c2, .int .i64 p.c3, .int .i64 p.c4, .int .i64 p.c5, .int .i64 p.c6, .int .i64 p.c7, .int .i64 p.c8, .int .i64 p.c9, .int .i64 p.c10] 28)).alloc (.cells #[.string (txt c.name), .string (txt c.value), .string (txt c.domain), .string (txt c.path), .bool c.hostOnly, .bool c.secure, .bool c.httpOnly, .bool c.lasting, .int .i64 c.site, .int .i64 c.expiry, .int .i64 c.created, .int .i64 c.used, .int .i64 c.no] 34)) ckZ 34
    rw [show ((w.alloc (.cells #[pv, .int .i64 p.dflt, .int .i64 p.c0, .int .i64 p.c1, .int .i64 p.c2, .int .i64 p.c3, .int .i64 p.c4, .int .i64 p.c5, .int .i64 p.c6, .int .i64 p.c7, .int .i64 p.c8, .int .i64 p.c9, .int .i64 p.c10] 28)).alloc (.cells #[.string (txt c.name), .string (txt c.value), .string (txt c.domain), .string (txt c.path), .bool c.hostOnly, .bool c.secure, .bool c.httpOnly, .bool c.lasting, .int .i64 c.site, .int .i64 c.expiry, .int .i64 c.created, .int .i64 c.used, .int .i64 c.no] 34)).heap.size = w.heap.size + 1 + 1 from by simp] at h
    exact h
  have S : Hid (Below w.heap.size w W0) := by rw [hW0]; exact next (next (below_new _ _) (below_new _ _)) (below_new _ _)
  have HW0 : Hid _ := hW0
  clear rp op oc hdm hN hE hd hmm hW0
  go_enter Try.func31, Try.ntmps31
  go_upto_region 1 with fail
  rw [← HW0.out]
  clear HW0
  have x0 := P.out.row.cell 0 rfl
  have x1 := P.out.row.cell 1 rfl
  have x2 := P.out.row.cell 2 rfl
  have x3 := P.out.row.cell 3 rfl
  have x4 := P.out.row.cell 4 rfl
  have x5 := P.out.row.cell 5 rfl
  have x6 := P.out.row.cell 6 rfl
  have x7 := P.out.row.cell 7 rfl
  have x8 := P.out.row.cell 8 rfl
  have x9 := P.out.row.cell 9 rfl
  have x10 := P.out.row.cell 10 rfl
  have x11 := P.out.row.cell 11 rfl
  have x12 := P.out.row.cell 12 rfl
  have y0 := C.out.row.cell 0 rfl
  have y1 := C.out.row.cell 1 rfl
  have y2 := C.out.row.cell 2 rfl
  have y3 := C.out.row.cell 3 rfl
  have y4 := C.out.row.cell 4 rfl
  have y5 := C.out.row.cell 5 rfl
  have y6 := C.out.row.cell 6 rfl
  have y7 := C.out.row.cell 7 rfl
  have y8 := C.out.row.cell 8 rfl
  have y9 := C.out.row.cell 9 rfl
  have y10 := C.out.row.cell 10 rfl
  have y11 := C.out.row.cell 11 rfl
  have y12 := C.out.row.cell 12 rfl
  go_wp2_with fail
  refine (KL.out _ P.out.rows).mono ?_
  rintro e Wn1 ⟨rfl, hb1⟩
  clear x0 x1 x2 x3 x4 x5 x6 x7 x8 x9 x10 x11 x12 y0 y1 y2 y3 y4 y5 y6 y7 y8 y9 y10 y11 y12
  replace P : Hid (PB Wn1 w.heap.size p pv) := P.out.below hb1
  replace C : Hid (KB Wn1 (w.heap.size + 1) c) := C.out.below hb1
  replace R : Hid (KB Wn1 (w.heap.size + 1 + 1) ckZ) := R.out.below hb1
  replace S : Hid (Below w.heap.size w Wn1) := next S.out hb1
  clear hb1
  by_cases he0 : E = 0
  rotate_left
  · have q : (E != 0) = true := by rw [bne_iff_ne]; exact he0
    have HRET : Hid (Ending.returned (.tuple #[.agg #[.string ⟨#[]⟩, .string ⟨#[]⟩, .string ⟨#[]⟩, .string ⟨#[]⟩, .bool false, .bool false, .bool false, .bool false, .int .i64 0, .int .i64 0, .int .i64 0, .int .i64 0, .int .i64 0], .int .i64 E]) = Ending.returned (.tuple #[.agg (ckC d).toArray, .int .i64 E])) := by show _ = _; rw [HD.out, if_neg he0]; rfl
    clear he0
    have o0 := R.out.row.cell 0 rfl
    have f0 := R.out.row.frozen 0 rfl
    have o1 := R.out.row.cell 1 rfl
    have f1 := R.out.row.frozen 1 rfl
    have o2 := R.out.row.cell 2 rfl
    have f2 := R.out.row.frozen 2 rfl
    have o3 := R.out.row.cell 3 rfl
    have f3 := R.out.row.frozen 3 rfl
    have o4 := R.out.row.cell 4 rfl
    have f4 := R.out.row.frozen 4 rfl
    have o5 := R.out.row.cell 5 rfl
    have f5 := R.out.row.frozen 5 rfl
    have o6 := R.out.row.cell 6 rfl
    have f6 := R.out.row.frozen 6 rfl
    have o7 := R.out.row.cell 7 rfl
    have f7 := R.out.row.frozen 7 rfl
    have o8 := R.out.row.cell 8 rfl
    have f8 := R.out.row.frozen 8 rfl
    have o9 := R.out.row.cell 9 rfl
    have f9 := R.out.row.frozen 9 rfl
    have o10 := R.out.row.cell 10 rfl
    have f10 := R.out.row.frozen 10 rfl
    have o11 := R.out.row.cell 11 rfl
    have f11 := R.out.row.frozen 11 rfl
    have o12 := R.out.row.cell 12 rfl
    have f12 := R.out.row.frozen 12 rfl
    go_wp2_with fail
    generalize hW2 : World.setCell _ _ _ = W2
    have HP : Hid (LRow W2 (w.heap.size + 1 + 1) (ckC ckZ)) := by
      rw [← hW2]
      exact ((((((((((((R.out.row.set 0 _).set 1 _).set 2 _).set 3 _).set 4 _).set 5 _).set 6 _).set 7 _).set 8 _).set 9 _).set 10 _).set 11 _).set 12 _
    have HB2 : Hid (Below w.heap.size w W2) := by
      rw [← hW2]
      iterate 13 refine Below.setCell ?_ (show w.heap.size ≤ w.heap.size + 1 + 1 by omega) _
      exact S.out
    clear hW2 o0 f0 o1 f1 o2 f2 o3 f3 o4 f4 o5 f5 o6 f6 o7 f7 o8 f8 o9 f9 o10 f10 o11 f11 o12 f12
    have p0 := HP.out.cell 0 rfl
    have p1 := HP.out.cell 1 rfl
    have p2 := HP.out.cell 2 rfl
    have p3 := HP.out.cell 3 rfl
    have p4 := HP.out.cell 4 rfl
    have p5 := HP.out.cell 5 rfl
    have p6 := HP.out.cell 6 rfl
    have p7 := HP.out.cell 7 rfl
    have p8 := HP.out.cell 8 rfl
    have p9 := HP.out.cell 9 rfl
    have p10 := HP.out.cell 10 rfl
    have p11 := HP.out.cell 11 rfl
    have p12 := HP.out.cell 12 rfl
    exact bodyPost_ret (v := .tuple #[.agg #[.string ⟨#[]⟩, .string ⟨#[]⟩, .string ⟨#[]⟩, .string ⟨#[]⟩, .bool false, .bool false, .bool false, .bool false, .int .i64 0, .int .i64 0, .int .i64 0, .int .i64 0, .int .i64 0], .int .i64 E]) (by simp [results, Try.results31, go_sem, ckZ, txt_nil, p0, p1, p2, p3, p4, p5, p6, p7, p8, p9, p10, p11, p12]) rfl ⟨HRET.out, HB2.out⟩
  have q : (E != 0) = false := by rw [he0]; rfl
  have HRET : Hid (Ending.returned (.tuple #[.agg #[.string (txt c.name), .string (txt c.value), .string (txt c.domain), .string (txt c.path), .bool c.hostOnly, .bool c.secure, .bool c.httpOnly, .bool c.lasting, .int .i64 c.site, .int .i64 mm, .int .i64 c.created, .int .i64 c.used, .int .i64 c.no], .int .i64 0]) = Ending.returned (.tuple #[.agg (ckC d).toArray, .int .i64 E])) := by show _ = _; rw [HD.out, if_pos he0, he0, HMM.out]; rfl
  clear he0
  by_cases hgt : N < c.expiry
  · obtain rfl : mm = N := by rw [HMM.out]; omega
    clear HMM HD
    obtain ⟨W3, hW3⟩ : ∃ W3, W3 = Wn1.setCell ⟨w.heap.size + 1, 9, none⟩ (.int .i64 mm) := ⟨_, rfl⟩
    have C3 : Hid (LRow W3 (w.heap.size + 1) (ckC { c with expiry := mm })) := by rw [hW3]; exact C.out.row.set 9 (.int .i64 mm)
    have R3 : Hid (LRow W3 (w.heap.size + 1 + 1) (ckC ckZ)) := by rw [hW3]; exact rowSet R.out.row (by omega)
    have S3 : Hid (Below w.heap.size w W3) := by rw [hW3]; exact S.out.setCell (p := ⟨w.heap.size + 1, 9, none⟩) (Nat.le_succ _) _
    have HW3 : Hid _ := hW3
    clear hW3
    have x9 := C.out.row.cell 9 rfl
    have y9 := C.out.row.frozen 9 rfl
    go_upto_region 6 with fail
    rw [← HW3.out]
    clear HW3 x9 y9
    have x0 := C3.out.cell 0 rfl
    have o0 := R3.out.cell 0 rfl
    have f0 := R3.out.frozen 0 rfl
    have x1 := C3.out.cell 1 rfl
    have o1 := R3.out.cell 1 rfl
    have f1 := R3.out.frozen 1 rfl
    have x2 := C3.out.cell 2 rfl
    have o2 := R3.out.cell 2 rfl
    have f2 := R3.out.frozen 2 rfl
    have x3 := C3.out.cell 3 rfl
    have o3 := R3.out.cell 3 rfl
    have f3 := R3.out.frozen 3 rfl
    have x4 := C3.out.cell 4 rfl
    have o4 := R3.out.cell 4 rfl
    have f4 := R3.out.frozen 4 rfl
    have x5 := C3.out.cell 5 rfl
    have o5 := R3.out.cell 5 rfl
    have f5 := R3.out.frozen 5 rfl
    have x6 := C3.out.cell 6 rfl
    have o6 := R3.out.cell 6 rfl
    have f6 := R3.out.frozen 6 rfl
    have x7 := C3.out.cell 7 rfl
    have o7 := R3.out.cell 7 rfl
    have f7 := R3.out.frozen 7 rfl
    have x8 := C3.out.cell 8 rfl
    have o8 := R3.out.cell 8 rfl
    have f8 := R3.out.frozen 8 rfl
    have x9 := C3.out.cell 9 rfl
    have o9 := R3.out.cell 9 rfl
    have f9 := R3.out.frozen 9 rfl
    have x10 := C3.out.cell 10 rfl
    have o10 := R3.out.cell 10 rfl
    have f10 := R3.out.frozen 10 rfl
    have x11 := C3.out.cell 11 rfl
    have o11 := R3.out.cell 11 rfl
    have f11 := R3.out.frozen 11 rfl
    have x12 := C3.out.cell 12 rfl
    have o12 := R3.out.cell 12 rfl
    have f12 := R3.out.frozen 12 rfl
    go_wp2_with fail
    generalize hW2 : World.setCell _ _ _ = W2
    have HP : Hid (LRow W2 (w.heap.size + 1 + 1) (ckC { c with expiry := mm })) := by
      rw [← hW2]
      exact ((((((((((((R3.out.set 0 _).set 1 _).set 2 _).set 3 _).set 4 _).set 5 _).set 6 _).set 7 _).set 8 _).set 9 _).set 10 _).set 11 _).set 12 _
    have HB2 : Hid (Below w.heap.size w W2) := by
      rw [← hW2]
      iterate 13 refine Below.setCell ?_ (show w.heap.size ≤ w.heap.size + 1 + 1 by omega) _
      exact S3.out
    clear hW2 o0 f0 o1 f1 o2 f2 o3 f3 o4 f4 o5 f5 o6 f6 o7 f7 o8 f8 o9 f9 o10 f10 o11 f11 o12 f12 x0 x1 x2 x3 x4 x5 x6 x7 x8 x9 x10 x11 x12
    have p0 := HP.out.cell 0 rfl
    have p1 := HP.out.cell 1 rfl
    have p2 := HP.out.cell 2 rfl
    have p3 := HP.out.cell 3 rfl
    have p4 := HP.out.cell 4 rfl
    have p5 := HP.out.cell 5 rfl
    have p6 := HP.out.cell 6 rfl
    have p7 := HP.out.cell 7 rfl
    have p8 := HP.out.cell 8 rfl
    have p9 := HP.out.cell 9 rfl
    have p10 := HP.out.cell 10 rfl
    have p11 := HP.out.cell 11 rfl
    have p12 := HP.out.cell 12 rfl
    exact bodyPost_ret (v := .tuple #[.agg #[.string (txt c.name), .string (txt c.value), .string (txt c.domain), .string (txt c.path), .bool c.hostOnly, .bool c.secure, .bool c.httpOnly, .bool c.lasting, .int .i64 c.site, .int .i64 mm, .int .i64 c.created, .int .i64 c.used, .int .i64 c.no], .int .i64 0]) (by simp [results, Try.results31, go_sem, ckZ, p0, p1, p2, p3, p4, p5, p6, p7, p8, p9, p10, p11, p12]) rfl ⟨HRET.out, HB2.out⟩
  · obtain rfl : mm = c.expiry := by rw [HMM.out]; omega
    clear HMM HD
    have x9 := C.out.row.cell 9 rfl
    go_upto_region 6 with fail
    clear x9
    have x0 := C.out.row.cell 0 rfl
    have o0 := R.out.row.cell 0 rfl
    have f0 := R.out.row.frozen 0 rfl
    have x1 := C.out.row.cell 1 rfl
    have o1 := R.out.row.cell 1 rfl
    have f1 := R.out.row.frozen 1 rfl
    have x2 := C.out.row.cell 2 rfl
    have o2 := R.out.row.cell 2 rfl
    have f2 := R.out.row.frozen 2 rfl
    have x3 := C.out.row.cell 3 rfl
    have o3 := R.out.row.cell 3 rfl
    have f3 := R.out.row.frozen 3 rfl
    have x4 := C.out.row.cell 4 rfl
    have o4 := R.out.row.cell 4 rfl
    have f4 := R.out.row.frozen 4 rfl
    have x5 := C.out.row.cell 5 rfl
    have o5 := R.out.row.cell 5 rfl
    have f5 := R.out.row.frozen 5 rfl
    have x6 := C.out.row.cell 6 rfl
    have o6 := R.out.row.cell 6 rfl
    have f6 := R.out.row.frozen 6 rfl
    have x7 := C.out.row.cell 7 rfl
    have o7 := R.out.row.cell 7 rfl
    have f7 := R.out.row.frozen 7 rfl
    have x8 := C.out.row.cell 8 rfl
    have o8 := R.out.row.cell 8 rfl
    have f8 := R.out.row.frozen 8 rfl
    have x9 := C.out.row.cell 9 rfl
    have o9 := R.out.row.cell 9 rfl
    have f9 := R.out.row.frozen 9 rfl
    have x10 := C.out.row.cell 10 rfl
    have o10 := R.out.row.cell 10 rfl
    have f10 := R.out.row.frozen 10 rfl
    have x11 := C.out.row.cell 11 rfl
    have o11 := R.out.row.cell 11 rfl
    have f11 := R.out.row.frozen 11 rfl
    have x12 := C.out.row.cell 12 rfl
    have o12 := R.out.row.cell 12 rfl
    have f12 := R.out.row.frozen 12 rfl
    go_wp2_with fail
    generalize hW2 : World.setCell _ _ _ = W2
    have HP : Hid (LRow W2 (w.heap.size + 1 + 1) (ckC { c with expiry := c.expiry })) := by
      rw [← hW2]
      exact ((((((((((((R.out.row.set 0 _).set 1 _).set 2 _).set 3 _).set 4 _).set 5 _).set 6 _).set 7 _).set 8 _).set 9 _).set 10 _).set 11 _).set 12 _
    have HB2 : Hid (Below w.heap.size w W2) := by
      rw [← hW2]
      iterate 13 refine Below.setCell ?_ (show w.heap.size ≤ w.heap.size + 1 + 1 by omega) _
      exact S.out
    clear hW2 o0 f0 o1 f1 o2 f2 o3 f3 o4 f4 o5 f5 o6 f6 o7 f7 o8 f8 o9 f9 o10 f10 o11 f11 o12 f12 x0 x1 x2 x3 x4 x5 x6 x7 x8 x9 x10 x11 x12
    have p0 := HP.out.cell 0 rfl
    have p1 := HP.out.cell 1 rfl
    have p2 := HP.out.cell 2 rfl
    have p3 := HP.out.cell 3 rfl
    have p4 := HP.out.cell 4 rfl
    have p5 := HP.out.cell 5 rfl
    have p6 := HP.out.cell 6 rfl
    have p7 := HP.out.cell 7 rfl
    have p8 := HP.out.cell 8 rfl
    have p9 := HP.out.cell 9 rfl
    have p10 := HP.out.cell 10 rfl
    have p11 := HP.out.cell 11 rfl
    have p12 := HP.out.cell 12 rfl
    exact bodyPost_ret (v := .tuple #[.agg #[.string (txt c.name), .string (txt c.value), .string (txt c.domain), .string (txt c.path), .bool c.hostOnly, .bool c.secure, .bool c.httpOnly, .bool c.lasting, .int .i64 c.site, .int .i64 c.expiry, .int .i64 c.created, .int .i64 c.used, .int .i64 c.no], .int .i64 0]) (by simp [results, Try.results31, go_sem, ckZ, p0, p1, p2, p3, p4, p5, p6, p7, p8, p9, p10, p11, p12]) rfl ⟨HRET.out, HB2.out⟩
end Go.Proofs.Ytcfdajaideidkaa
namespace Go.Proofs.Ytcfdajaideidkaa
open Go.RowKit
set_option linter.all false
set_option maxRecDepth 100000
set_option maxRecDepth 100000

set_option maxHeartbeats 8000000 in
theorem cCheck_any (c : Cn) (v : Value) (w : World) (hr : Rows w v intF c.vs) (hm : c.vs.length ≤ maxLen) :
    Calls Try.prog 27 #[.agg #[.int .i64 c.g, .bool c.b0, .bool c.b1, .bool c.b2, .bool c.b3, .bool c.b4, .bool c.b5, .bool c.b6, .bool c.b7, .bool c.b8, .bool c.b9, v]] w fun e w' => e = .returned (.int .i64 (chC c)) ∧ Below w.heap.size w w' := by
  obtain ⟨ad, cap, rfl⟩ := hr.shape
  obtain ⟨z, hz⟩ : ∃ z, z = chC c := ⟨_, rfl⟩
  rw [← hz]
  have HZ : Hid _ := hz
  obtain ⟨n, hn⟩ : ∃ n, n = c.vs.length := ⟨_, rfl⟩
  have HN : Hid _ := hn
  rw [← hn] at hm ⊢
  have hr2 : Rows w (.slice ad n cap) intF c.vs := by rw [hn]; exact hr
  obtain ⟨W0, hW0⟩ : ∃ W0, W0 = (w.alloc (.cells #[.int .i64 c.g, .bool c.b0, .bool c.b1, .bool c.b2, .bool c.b3, .bool c.b4, .bool c.b5, .bool c.b6, .bool c.b7, .bool c.b8, .bool c.b9, (.slice ad n cap)] 32)) := ⟨_, rfl⟩
  have A : Hid (CB W0 w.heap.size c (.slice ad n cap)) := by
    rw [hW0]
    have h := CB.new w c (.slice ad n cap) 32 hr2
    exact h
  have S : Hid (Below w.heap.size w W0) := by rw [hW0]; exact below_new _ _
  have HW0 : Hid _ := hW0
  unfold maxLen at hm
  clear hz hn hr hr2 hW0
  go_enter Try.func27, Try.ntmps27
  go_upto_region 1 with fail
  rw [← HW0.out]
  clear HW0
  have c0 := A.out.row.cell 0 rfl
  by_cases g1 : c.g < 0
  · have HZ3 : Hid (z = 3) := by show _ = _; rw [HZ.out]; unfold chC; rw [if_pos (.inl g1)]
    go_wp2_with fail
    go_ret
    exact ⟨by rw [HZ3.out]; rfl, S.out⟩
  by_cases g2 : 68719476735 < c.g
  · have HZ3 : Hid (z = 3) := by show _ = _; rw [HZ.out]; unfold chC; rw [if_pos (.inr g2)]
    go_wp2_with fail
    go_ret
    exact ⟨by rw [HZ3.out]; rfl, S.out⟩
  have HZV : Hid (z = chV 0 c.vs) := by show _ = _; rw [HZ.out]; unfold chC; rw [if_neg (by omega)]
  go_wp2_with fail
  clear c0 g1 g2
  go_loopw [3] (fun i wr => ∃ (k m : Nat), k ≤ n ∧ i = .int .i64 k ∧ Hid (chV 0 (c.vs.take k) = 0) ∧ wr = W0.drewN m) (fun i _ => n - (intOf i).toNat)
  case atStart => exact ⟨0, 0, Nat.zero_le _, rfl, rfl, rfl⟩
  case round =>
    obtain ⟨k, m, hk, rfl, hall, hwq⟩ := hrel
    obtain ⟨Wq, hWq⟩ : ∃ W, W = wr := ⟨_, rfl⟩
    rw [← hWq] at hwq ⊢
    clear hWq
    have AQ : Hid (CB Wq w.heap.size c (.slice ad n cap)) := by rw [hwq]; exact ⟨⟨A.out.row.all⟩, A.out.rows⟩
    have SQ : Hid (Below w.heap.size w Wq) := by rw [hwq]; exact S.out.trans (below_drewN' _ _ _)
    have HWQ : Hid _ := hwq
    clear hwq
    have acq := AQ.out.row.cell 11 rfl
    by_cases hlt : k < n
    · obtain ⟨x, e1⟩ : ∃ x, c.vs[k]? = some x := ⟨_, List.getElem?_eq_getElem (by rw [← HN.out]; exact hlt)⟩
      obtain ⟨bl, ol, had, hbl, hcell⟩ := Rows.at AQ.out.rows rfl 0 (fun _ => rfl) k x e1
      subst had
      have c0 : Wq.cell? ⟨bl, ol + k, none⟩ = some (.int .i64 x) := by
        have h1 := hcell 0 _ rfl
        rw [show ol + k * (0 + 1) + 0 = ol + k by omega] at h1
        exact h1
      have hk1 : (k : Int) < (n : Int) := by omega
      cases k with
      | zero =>
        rw [Nat.add_zero] at c0
        have HD : Hid _ := chV_at 0 c.vs 0 x e1 rfl 0 rfl
        have HTK : Hid _ := chV_take 0 c.vs 0 x e1 rfl 0 rfl
        clear e1 hcell hbl
        by_cases h1 : x < 1
        · have HZ3 : Hid (z = 3) := by show _ = _; rw [HZV.out, HD.out, if_pos (.inl h1)]
          go_wp2_with fail
          go_ret
          exact ⟨by rw [HZ3.out]; rfl, SQ.out⟩
        by_cases h2 : 40 < x
        · have HZ3 : Hid (z = 3) := by show _ = _; rw [HZV.out, HD.out, if_pos (.inr h2)]
          go_wp2_with fail
          go_ret
          exact ⟨by rw [HZ3.out]; rfl, SQ.out⟩
        have HT2 : Hid _ := HTK.out (by omega) (by omega)
        go_wp2_with fail
        go_quiet (fail)
        go_wp2_with fail
        go_roundw
        case rel => exact ⟨1, _, by omega, by go_num, HT2, by rw [HWQ.out]; exact World.drewN_drewN _ _ _⟩
        case measure => simp [intOf]; omega
      | succ j =>
        obtain ⟨y, e2⟩ : ∃ y, c.vs[j]? = some y := ⟨_, List.getElem?_eq_getElem (by rw [← HN.out]; omega)⟩
        obtain ⟨bl2, ol2, had2, hbl2, hcell2⟩ := Rows.at AQ.out.rows rfl 0 (fun _ => rfl) j y e2
        injection had2 with had2
        injection had2 with hb1 hb2 _
        subst hb1 hb2
        have c1 : Wq.cell? ⟨bl, ol + j, none⟩ = some (.int .i64 y) := by
          have h1 := hcell2 0 _ rfl
          rw [show ol + j * (0 + 1) + 0 = ol + j by omega] at h1
          exact h1
        have hlast : y = (c.vs.take (j + 1)).getLast?.getD 0 := by rw [List.take_succ, e2]; simp
        have HD : Hid _ := chV_at 0 c.vs (j + 1) x e1 hall.out y hlast
        have HTK : Hid _ := chV_take 0 c.vs (j + 1) x e1 hall.out y hlast
        have hw1 : IntKind.i64.wrap (((j + 1 : Nat) : Int) - 1) = (j : Int) := by rw [IntWalk.i64_in _ (by omega)]; omega
        have hj1 : ((j + 1 : Nat) : Int) - 1 = (j : Int) := by omega
        have hj2 : (j : Int) < (n : Int) := by omega
        have hj3 : (0 : Int) < ((j + 1 : Nat) : Int) := by omega
        clear e1 hcell hbl e2 hcell2 hbl2 hlast
        by_cases h1 : x < 1
        · have HZ3 : Hid (z = 3) := by show _ = _; rw [HZV.out, HD.out, if_pos (.inl h1)]
          go_wp2_with fail
          go_ret
          exact ⟨by rw [HZ3.out]; rfl, SQ.out⟩
        by_cases h2 : 40 < x
        · have HZ3 : Hid (z = 3) := by show _ = _; rw [HZV.out, HD.out, if_pos (.inr h2)]
          go_wp2_with fail
          go_ret
          exact ⟨by rw [HZ3.out]; rfl, SQ.out⟩
        by_cases h3 : x ≤ y
        · have HZ4 : Hid (z = 4) := by show _ = _; rw [HZV.out, HD.out, if_neg (by omega), if_pos h3]
          go_wp2_with fail
          go_quiet (fail)
          go_wp2_with fail
          go_ret
          exact ⟨by rw [HZ4.out]; rfl, SQ.out.trans (below_drewN' _ _ _)⟩
        have HT2 : Hid _ := HTK.out (by omega) h3
        go_wp2_with fail
        go_quiet (fail)
        go_wp2_with fail
        go_roundw
        case rel => exact ⟨j + 1 + 1, _, by omega, by go_num, HT2, by rw [HWQ.out]; exact World.drewN_drewN _ _ _⟩
        case measure => simp [intOf]; omega
    · have HZ0 : Hid (z = 0) := by
        show _ = _
        have h := hall.out
        rw [List.take_of_length_le (by rw [← HN.out]; omega)] at h
        rw [HZV.out, h]
      go_wp2_with fail
      go_ret
      exact ⟨by rw [HZ0.out]; rfl, SQ.out⟩
end Go.Proofs.Ytcfdajaideidkaa
