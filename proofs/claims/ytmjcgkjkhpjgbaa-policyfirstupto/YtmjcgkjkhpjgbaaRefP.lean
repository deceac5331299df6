/- The document's own answer: which rules name a cookie, and what it is for. -/
import Derived.Test.YtmjcgkjkhpjgbaaPolicyK
import Derived.Test.YtmjcgkjkhpjgbaaHostC
import Derived.Test.YtmjcgkjkhpjgbaaHostB
import Derived.Deep.RegionHeld3
import Derived.Deep.Cut
import Derived.Deep.CutRange
import Derived.Deep.RegionWith
import Derived.BigQuiet
namespace Go.Proofs.Ytmjcgkjkhpjgbaa
open Go.RowKit
set_option linter.all false
set_option maxRecDepth 100000

set_option maxHeartbeats 1000000 in
theorem begins_any (s p : ByteArray) (w : World) (hs : s.size ≤ maxLen) :
    Calls Try.prog 32 #[.string s, .string p] w fun e w' => e = .returned (.bool (Lib.hasPrefix s.data.toList p.data.toList)) ∧ w' = w := by
  unfold maxLen at hs
  have HR : Hid _ := Lib.hasPrefix_raw s p
  by_cases h : p.size ≤ s.size
  · go_enter Try.func32, Try.ntmps32
    go_wp2_with fail
    go_ret
    refine ⟨?_, rfl⟩
    rw [← HR.out]
    simp [h]
  · go_enter Try.func32, Try.ntmps32
    go_wp2_with fail
    go_ret
    refine ⟨?_, rfl⟩
    rw [← HR.out]
    simp [h]
set_option maxHeartbeats 8000000 in
theorem namesOf_any (r : Ru) (c : Ck) (w : World) (hn : c.name.length ≤ 140737488351232) (ht : r.text.length ≤ 140737488351232) (hd : (c.domain.length + 1) * 16 ≤ 140737488355328) :
    Calls Try.prog 17 #[.agg #[.int .i64 r.kind, .string (txt r.text), .int .i64 r.purpose, .int .i64 r.vendor], .agg #[.string (txt c.name), .string (txt c.value), .string (txt c.domain), .string (txt c.path), .bool c.hostOnly, .bool c.secure, .bool c.httpOnly, .bool c.lasting, .int .i64 c.site, .int .i64 c.expiry, .int .i64 c.created, .int .i64 c.used, .int .i64 c.no]] w fun e w' => e = .returned (.bool (namesR r c)) ∧ Below w.heap.size w w' := by
  obtain ⟨z, hz⟩ : ∃ z, z = namesR r c := ⟨_, rfl⟩
  rw [← hz]
  have KB' : Hid (∀ w', Calls Try.prog 32 #[.string (txt c.name), .string (txt r.text)] w' fun e w'' => e = .returned (.bool (Lib.hasPrefix c.name r.text)) ∧ w'' = w') := fun w' => begins_any (txt c.name) (txt r.text) w' (by show c.name.length ≤ maxLen; unfold maxLen; omega)
  have KM : Hid (∀ w', Calls Try.prog 33 #[.string (txt c.domain), .string (txt r.text)] w' fun e w'' => e = .returned (.bool (matchL c.domain r.text)) ∧ Below w'.heap.size w' w'') := fun w' => isMatch_any (txt c.domain) (txt r.text) w' hd (by show r.text.length ≤ maxLen; unfold maxLen; omega)
  have HRAW : Hid _ := Lib.hasSuffix_raw (txt c.name) (txt r.text)
  obtain ⟨W0, hW0⟩ : ∃ W0, W0 = ((w.alloc (.cells #[.int .i64 r.kind, .string (txt r.text), .int .i64 r.purpose, .int .i64 r.vendor] 39)).alloc (.cells #[.string (txt c.name), .string (txt c.value), .string (txt c.domain), .string (txt c.path), .bool c.hostOnly, .bool c.secure, .bool c.httpOnly, .bool c.lasting, .int .i64 c.site, .int .i64 c.expiry, .int .i64 c.created, .int .i64 c.used, .int .i64 c.no] 31)) := ⟨_, rfl⟩
  have R : Hid (RB W0 w.heap.size r) := by
    rw [hW0]
    have h := RB.new w r 39
    exact (h.below (below_new _ _))
  have C : Hid (KB W0 (w.heap.size + 1) c) := by
    rw [hW0]
    have h := KB.new (w.alloc (.cells #[.int .i64 r.kind, .string (txt r.text), .int .i64 r.purpose, .int .i64 r.vendor] 39)) c 31
    rw [show (w.alloc (.cells #[.int .i64 r.kind, .string (txt r.text), .int .i64 r.purpose, .int .i64 r.vendor] 39)).heap.size = w.heap.size + 1 from by simp] at h
    exact h
  have S : Hid (Below w.heap.size w W0) := by rw [hW0]; exact next (below_new _ _) (below_new _ _)
  have HW0 : Hid _ := hW0
  have hs1 : (txt c.name).size = c.name.length := txt_size _
  have hs2 : (txt r.text).size = r.text.length := txt_size _
  clear hW0
  by_cases h1 : r.kind = 1
  · skip
    have HZ0 : Hid (z = (c.name == r.text)) := by show _ = _; rw [hz]; unfold namesR; rw [if_pos h1]
    have n1 : (r.kind == 1) = true := by rw [beq_iff_eq]; exact h1
    obtain ⟨b, hb⟩ : ∃ b, b = (c.name == r.text) := ⟨_, rfl⟩
    have yb : ((txt c.name).toList == (txt r.text).toList) = b := by
      rw [hb]
      by_cases e : c.name = r.text
      · rw [tx_t _ _ e, e]; simp
      · rw [tx_f _ _ e]; exact ((beq_eq_false_iff_ne).2 e).symm
    have HZ : Hid (z = b) := by show _ = _; rw [HZ0.out, ← hb]
    clear h1 hz hb HZ0
    go_enter Try.func17, Try.ntmps17
    go_upto_region 1 with fail
    rw [← HW0.out]
    clear HW0
    have x0 := R.out.row.cell 0 rfl
    have x1 := R.out.row.cell 1 rfl
    have x2 := R.out.row.cell 2 rfl
    have x3 := R.out.row.cell 3 rfl
    have y0 := C.out.row.cell 0 rfl
    have y1 := C.out.row.cell 1 rfl
    have y2 := C.out.row.cell 2 rfl
    have y3 := C.out.row.cell 3 rfl
    have y4 := C.out.row.cell 4 rfl
    have y5 := C.out.row.cell 5 rfl
    have y6 := C.out.row.cell 6 rfl
    have y7 := C.out.row.cell 7 rfl
    have y8 := C.out.row.cell 8 rfl
    have y9 := C.out.row.cell 9 rfl
    have y10 := C.out.row.cell 10 rfl
    have y11 := C.out.row.cell 11 rfl
    have y12 := C.out.row.cell 12 rfl
    go_wp2_with fail
    go_quiet (fail)
    go_wp2_with fail
    go_ret
    exact ⟨by rw [HZ.out]; rfl, next S.out (by first | exact Below.refl _ _ | exact (Below.refl _ _).drew | exact ⟨rfl, rfl, rfl, Nat.le_refl _, fun _ _ => rfl⟩)⟩
  by_cases h2 : r.kind = 2
  · skip
    have HZ0 : Hid (z = (Lib.hasPrefix c.name r.text)) := by show _ = _; rw [hz]; unfold namesR; rw [if_neg h1]; rw [if_pos h2]
    have n1 : (r.kind == 1) = false := by rw [beq_eq_false_iff_ne]; exact h1
    have n2 : (r.kind == 2) = true := by rw [beq_iff_eq]; exact h2
    clear h1 h2 hz
    go_enter Try.func17, Try.ntmps17
    go_upto_region 1 with fail
    rw [← HW0.out]
    clear HW0
    have x0 := R.out.row.cell 0 rfl
    have x1 := R.out.row.cell 1 rfl
    have x2 := R.out.row.cell 2 rfl
    have x3 := R.out.row.cell 3 rfl
    have y0 := C.out.row.cell 0 rfl
    have y1 := C.out.row.cell 1 rfl
    have y2 := C.out.row.cell 2 rfl
    have y3 := C.out.row.cell 3 rfl
    have y4 := C.out.row.cell 4 rfl
    have y5 := C.out.row.cell 5 rfl
    have y6 := C.out.row.cell 6 rfl
    have y7 := C.out.row.cell 7 rfl
    have y8 := C.out.row.cell 8 rfl
    have y9 := C.out.row.cell 9 rfl
    have y10 := C.out.row.cell 10 rfl
    have y11 := C.out.row.cell 11 rfl
    have y12 := C.out.row.cell 12 rfl
    go_wp2_with fail
    go_quiet (fail)
    go_wp2_with fail
    refine (KB'.out _).mono ?_
    rintro e w1 ⟨rfl, rfl⟩
    go_wp2_with fail
    go_ret
    exact ⟨by rw [HZ0.out]; rfl, next S.out ⟨rfl, rfl, rfl, Nat.le_refl _, fun _ _ => rfl⟩⟩
  by_cases h3 : r.kind = 3
  · skip
    have HZ0 : Hid (z = (Lib.hasSuffix c.name r.text)) := by show _ = _; rw [hz]; unfold namesR; rw [if_neg h1]; rw [if_neg h2]; rw [if_pos h3]
    have n1 : (r.kind == 1) = false := by rw [beq_eq_false_iff_ne]; exact h1
    have n2 : (r.kind == 2) = false := by rw [beq_eq_false_iff_ne]; exact h2
    have n3 : (r.kind == 3) = true := by rw [beq_iff_eq]; exact h3
    clear h1 h2 h3 hz
    by_cases hle : r.text.length ≤ c.name.length
    · have e1 : ((c.name.length : Int) - (r.text.length : Int)).toNat = c.name.length - r.text.length := by omega
      go_enter Try.func17, Try.ntmps17
      go_upto_region 1 with fail
      rw [← HW0.out]
      clear HW0
      have x0 := R.out.row.cell 0 rfl
      have x1 := R.out.row.cell 1 rfl
      have x2 := R.out.row.cell 2 rfl
      have x3 := R.out.row.cell 3 rfl
      have y0 := C.out.row.cell 0 rfl
      have y1 := C.out.row.cell 1 rfl
      have y2 := C.out.row.cell 2 rfl
      have y3 := C.out.row.cell 3 rfl
      have y4 := C.out.row.cell 4 rfl
      have y5 := C.out.row.cell 5 rfl
      have y6 := C.out.row.cell 6 rfl
      have y7 := C.out.row.cell 7 rfl
      have y8 := C.out.row.cell 8 rfl
      have y9 := C.out.row.cell 9 rfl
      have y10 := C.out.row.cell 10 rfl
      have y11 := C.out.row.cell 11 rfl
      have y12 := C.out.row.cell 12 rfl
      go_wp2_with fail
      go_quiet (fail)
      go_wp2_with fail
      go_quiet (fail)
      go_wp2_with fail
      go_ret
      refine ⟨?_, next S.out (by first | exact Below.refl _ _ | exact (Below.refl _ _).drew | exact ⟨rfl, rfl, rfl, Nat.le_refl _, fun _ _ => rfl⟩)⟩
      rw [HZ0.out]
      rw [show Lib.hasSuffix c.name r.text = _ from HRAW.out.symm, hs1, hs2]
      simp [hle]
    · skip
      go_enter Try.func17, Try.ntmps17
      go_upto_region 1 with fail
      rw [← HW0.out]
      clear HW0
      have x0 := R.out.row.cell 0 rfl
      have x1 := R.out.row.cell 1 rfl
      have x2 := R.out.row.cell 2 rfl
      have x3 := R.out.row.cell 3 rfl
      have y0 := C.out.row.cell 0 rfl
      have y1 := C.out.row.cell 1 rfl
      have y2 := C.out.row.cell 2 rfl
      have y3 := C.out.row.cell 3 rfl
      have y4 := C.out.row.cell 4 rfl
      have y5 := C.out.row.cell 5 rfl
      have y6 := C.out.row.cell 6 rfl
      have y7 := C.out.row.cell 7 rfl
      have y8 := C.out.row.cell 8 rfl
      have y9 := C.out.row.cell 9 rfl
      have y10 := C.out.row.cell 10 rfl
      have y11 := C.out.row.cell 11 rfl
      have y12 := C.out.row.cell 12 rfl
      go_wp2_with fail
      go_quiet (fail)
      go_wp2_with fail
      go_quiet (fail)
      go_wp2_with fail
      go_ret
      refine ⟨?_, next S.out (by first | exact Below.refl _ _ | exact (Below.refl _ _).drew | exact ⟨rfl, rfl, rfl, Nat.le_refl _, fun _ _ => rfl⟩)⟩
      rw [HZ0.out]
      rw [show Lib.hasSuffix c.name r.text = _ from HRAW.out.symm, hs1, hs2]
      simp [hle]
  by_cases h4 : r.kind = 4
  · skip
    have HZ0 : Hid (z = (matchL c.domain r.text)) := by show _ = _; rw [hz]; unfold namesR; rw [if_neg h1]; rw [if_neg h2]; rw [if_neg h3]; rw [if_pos h4]
    have n1 : (r.kind == 1) = false := by rw [beq_eq_false_iff_ne]; exact h1
    have n2 : (r.kind == 2) = false := by rw [beq_eq_false_iff_ne]; exact h2
    have n3 : (r.kind == 3) = false := by rw [beq_eq_false_iff_ne]; exact h3
    have n4 : (r.kind == 4) = true := by rw [beq_iff_eq]; exact h4
    clear h1 h2 h3 h4 hz
    go_enter Try.func17, Try.ntmps17
    go_upto_region 1 with fail
    rw [← HW0.out]
    clear HW0
    have x0 := R.out.row.cell 0 rfl
    have x1 := R.out.row.cell 1 rfl
    have x2 := R.out.row.cell 2 rfl
    have x3 := R.out.row.cell 3 rfl
    have y0 := C.out.row.cell 0 rfl
    have y1 := C.out.row.cell 1 rfl
    have y2 := C.out.row.cell 2 rfl
    have y3 := C.out.row.cell 3 rfl
    have y4 := C.out.row.cell 4 rfl
    have y5 := C.out.row.cell 5 rfl
    have y6 := C.out.row.cell 6 rfl
    have y7 := C.out.row.cell 7 rfl
    have y8 := C.out.row.cell 8 rfl
    have y9 := C.out.row.cell 9 rfl
    have y10 := C.out.row.cell 10 rfl
    have y11 := C.out.row.cell 11 rfl
    have y12 := C.out.row.cell 12 rfl
    go_wp2_with fail
    go_quiet (fail)
    go_wp2_with fail
    refine (KM.out _).mono ?_
    rintro e w1 ⟨rfl, hb1⟩
    have S1 : Hid (Below w.heap.size w w1) := next S.out (next (below_drewN' _ _ _) hb1)
    go_wp2_with fail
    go_ret
    exact ⟨by rw [HZ0.out]; rfl, S1.out⟩
  have HZ : Hid (z = false) := by show _ = _; rw [hz]; unfold namesR; rw [if_neg h1, if_neg h2, if_neg h3, if_neg h4]
  have n1 : (r.kind == 1) = false := by rw [beq_eq_false_iff_ne]; exact h1
  have n2 : (r.kind == 2) = false := by rw [beq_eq_false_iff_ne]; exact h2
  have n3 : (r.kind == 3) = false := by rw [beq_eq_false_iff_ne]; exact h3
  have n4 : (r.kind == 4) = false := by rw [beq_eq_false_iff_ne]; exact h4
  clear h1 h2 h3 h4 hz
  go_enter Try.func17, Try.ntmps17
  go_upto_region 1 with fail
  rw [← HW0.out]
  clear HW0
  have x0 := R.out.row.cell 0 rfl
  have x1 := R.out.row.cell 1 rfl
  have x2 := R.out.row.cell 2 rfl
  have x3 := R.out.row.cell 3 rfl
  have y0 := C.out.row.cell 0 rfl
  have y1 := C.out.row.cell 1 rfl
  have y2 := C.out.row.cell 2 rfl
  have y3 := C.out.row.cell 3 rfl
  have y4 := C.out.row.cell 4 rfl
  have y5 := C.out.row.cell 5 rfl
  have y6 := C.out.row.cell 6 rfl
  have y7 := C.out.row.cell 7 rfl
  have y8 := C.out.row.cell 8 rfl
  have y9 := C.out.row.cell 9 rfl
  have y10 := C.out.row.cell 10 rfl
  have y11 := C.out.row.cell 11 rfl
  have y12 := C.out.row.cell 12 rfl
  go_wp2_with fail
  go_quiet (fail)
  go_wp2_with fail
  go_ret
  exact ⟨by rw [HZ.out]; rfl, next S.out (by first | exact Below.refl _ _ | exact (Below.refl _ _).drew | exact ⟨rfl, rfl, rfl, Nat.le_refl _, fun _ _ => rfl⟩)⟩
end Go.Proofs.Ytmjcgkjkhpjgbaa
