/- The contract of the document's text of a moment. -/
import Derived.Test.YtlabffopbambjabDoorStampR
import Derived.Test.YtlabffopbambjabDoorClockT
namespace Go.Proofs.YtlabffopbambjabDoor
open Go.RowKit
set_option linter.all false

theorem pad_four (y : Nat) : padL 4 y = padL 2 (y / 100) ++ padL 2 (y % 100) := by
  have e1 : y / 10 / 10 / 10 % 10 = y / 100 / 10 % 10 := by omega
  have e2 : y / 10 / 10 % 10 = y / 100 % 10 := by omega
  have e3 : y / 10 % 10 = y % 100 / 10 % 10 := by omega
  have e4 : y % 10 = y % 100 % 10 := by omega
  show [UInt8.ofNat (48 + y / 10 / 10 / 10 % 10), UInt8.ofNat (48 + y / 10 / 10 % 10), UInt8.ofNat (48 + y / 10 % 10), UInt8.ofNat (48 + y % 10)] = [UInt8.ofNat (48 + y / 100 / 10 % 10), UInt8.ofNat (48 + y / 100 % 10), UInt8.ofNat (48 + y % 100 / 10 % 10), UInt8.ofNat (48 + y % 100 % 10)]
  rw [e1, e2, ← e3, ← e4]
theorem two_gen (z : Int) (n : Nat) (hz : z = n) (hn : n < 100) (w : World) : Calls Tryd.prog 37 #[.int .i64 z] w fun e w' => e = .returned (.string (txt (padL 2 n))) ∧ Below w.heap.size w w' := by
  subst hz; exact twoDigits_any n hn w
set_option maxHeartbeats 1000000 in
theorem stampText_no (n : Int) (h : momB n = false) (w : World) : Calls Tryd.prog 17 #[.int .i64 n] w fun e w' => e = .returned (.tuple #[.string (txt []), .int .i64 3]) ∧ Below w.heap.size w w' := by
  have H : Hid _ := h
  clear h
  go_enter Tryd.func17, Tryd.ntmps17
  go_wp2_with fail
  refine (timeOf_no n H.out _).mono ?_
  rintro e w1 ⟨rfl, hb1⟩
  go_wp2_with fail
  go_ret2
  exact ⟨rfl, hb1.alloc hb1.size _⟩
set_option maxHeartbeats 4000000 in
theorem stampText_yes (n : Int) (h : momB n = true) (w : World) : Calls Tryd.prog 17 #[.int .i64 n] w fun e w' => e = .returned (.tuple #[.string (txt (writeL n)), .int .i64 0]) ∧ Below w.heap.size w w' := by
  obtain ⟨k, d, q, y, hh, i, s, ek, bk, ed, bd1, bd2, eq, bq, ey, by1, by2, eh, bh, ei, bi, es, bs, hw⟩ := parts_of n h
  have H : Hid _ := h
  have EK : Hid _ := ek
  have ET : Hid (tY n = y ∧ tM n = (q : Int) + 1 ∧ tD n = d ∧ tH n = hh ∧ tI n = i ∧ tS n = s) := ⟨ey, eq, ed, eh, ei, es⟩
  have HW : Hid _ := hw
  clear h ek ed eq ey eh ei es hw
  go_enter Tryd.func17, Tryd.ntmps17
  go_wp2_with fail
  refine (timeOf_yes n H.out _).mono ?_
  rw [ET.out.1, ET.out.2.1, ET.out.2.2.1, ET.out.2.2.2.1, ET.out.2.2.2.2.1, ET.out.2.2.2.2.2]
  rintro e w1 ⟨rfl, hb1⟩
  go_wp2_with fail
  refine (weekdayOf_yes n H.out _).mono ?_
  rw [EK.out]
  rintro e w2 ⟨rfl, rfl⟩
  go_wp2_with fail
  obtain ⟨W1, hW1⟩ : ∃ W, W = w1.alloc (.cells #[.int .i64 (y : Int), .int .i64 ((q : Int) + 1), .int .i64 (d : Int), .int .i64 (hh : Int), .int .i64 (i : Int), .int .i64 (s : Int)] 23) := ⟨_, rfl⟩
  obtain ⟨W, hW⟩ : ∃ W, W = (W1.alloc (.cells #[.string ⟨#[74, 97, 110]⟩, .string ⟨#[70, 101, 98]⟩, .string ⟨#[77, 97, 114]⟩, .string ⟨#[65, 112, 114]⟩, .string ⟨#[77, 97, 121]⟩, .string ⟨#[74, 117, 110]⟩, .string ⟨#[74, 117, 108]⟩, .string ⟨#[65, 117, 103]⟩, .string ⟨#[83, 101, 112]⟩, .string ⟨#[79, 99, 116]⟩, .string ⟨#[78, 111, 118]⟩, .string ⟨#[68, 101, 99]⟩] 9)).alloc (.cells #[.string ⟨#[83, 117, 110]⟩, .string ⟨#[77, 111, 110]⟩, .string ⟨#[84, 117, 101]⟩, .string ⟨#[87, 101, 100]⟩, .string ⟨#[84, 104, 117]⟩, .string ⟨#[70, 114, 105]⟩, .string ⟨#[83, 97, 116]⟩] 9) := ⟨_, rfl⟩
  have sz1 : W1.heap.size = w1.heap.size + 1 := by rw [hW1]; simp
  have b1 : Below w.heap.size w W1 := by rw [hW1]; exact hb1.alloc hb1.size _
  have b2 : Below W1.heap.size W1 W := by rw [hW]; exact ((Below.refl _ _).alloc (Nat.le_refl _) _).alloc (by simp) _
  have t6 : T6 W w1.heap.size (y : Int) ((q : Int) + 1) (d : Int) (hh : Int) (i : Int) (s : Int) := by
    have h := T6.new w1 (y : Int) ((q : Int) + 1) (d : Int) (hh : Int) (i : Int) (s : Int) 23
    rw [← hW1] at h
    exact h.below b2 (Nat.le_refl _)
  obtain ⟨mn, em1, em2, em3⟩ := mon_at' q bq
  obtain ⟨wk, ew1, ew2, ew3⟩ := week_at k bk
  have cm : W.cell? ⟨w1.heap.size + 1, q, none⟩ = some (.string (txt mn)) := by
    rw [hW, ← sz1]
    have hk12 : q = 0 ∨ q = 1 ∨ q = 2 ∨ q = 3 ∨ q = 4 ∨ q = 5 ∨ q = 6 ∨ q = 7 ∨ q = 8 ∨ q = 9 ∨ q = 10 ∨ q = 11 := by omega
    rcases hk12 with rfl | rfl | rfl | rfl | rfl | rfl | rfl | rfl | rfl | rfl | rfl | rfl <;> (cases em1; simp; rfl)
  have cw : W.cell? ⟨w1.heap.size + 1 + 1, k, none⟩ = some (.string (txt wk)) := by
    rw [hW, ← sz1]
    have hk7 : k = 0 ∨ k = 1 ∨ k = 2 ∨ k = 3 ∨ k = 4 ∨ k = 5 ∨ k = 6 := by omega
    rcases hk7 with rfl | rfl | rfl | rfl | rfl | rfl | rfl <;> (cases ew1; simp; rfl)
  rw [← hW1, ← hW]
  clear hW hW1
  have z2 : ∀ n, (txt (padL 2 n)).size ≤ 2 := fun n => by rw [txt_size, padL_len]; omega
  have za := z2 d
  have zb := z2 (y / 100)
  have zc := z2 (y % 100)
  have zd := z2 hh
  have ze := z2 i
  have zf := z2 s
  have zm : (txt mn).size ≤ 3 := by rw [txt_size]; omega
  have zw : (txt wk).size ≤ 3 := by rw [txt_size]; omega
  have k1 : ({ data := #[44, 32] } : ByteArray).size ≤ 2 := by decide
  have k2 : ({ data := #[32] } : ByteArray).size ≤ 1 := by decide
  have k3 : ({ data := #[58] } : ByteArray).size ≤ 1 := by decide
  have k4 : ({ data := #[32, 71, 77, 84] } : ByteArray).size ≤ 4 := by decide
  have ne : Nonempty (Ext W) := ⟨Ext.of W (Below.refl _ _)⟩
  have x0 := Ext.cell t6.cy
  have x1 := Ext.cell t6.cm
  have x2 := Ext.cell t6.cd
  have x3 := Ext.cell t6.ch
  have x4 := Ext.cell t6.ci
  have x5 := Ext.cell t6.cs
  have xm := Ext.cell cm
  have xw := Ext.cell cw
  clear z2 t6 cm cw em1 em3 ew1 ew3
  refine wp_region_ext (by kernel_rfl) (by kernel_rfl) ?_
  iterate 21 (go_big_quiet_step ((go_at_call 37; exact ext_call (twoDigits_any _ (by omega) _))))
  iterate 5 (go_big_quiet_step ((go_at_call 37; exact ext_call (two_gen _ (y / 100) (by omega) (by omega) _))))
  iterate 1 (go_big_quiet_step ((go_at_call 37; exact ext_call (two_gen _ (y % 100) (by omega) (by omega) _))))
  repeat (go_big_quiet_step ((go_at_call 37; exact ext_call (twoDigits_any _ (by omega) _))))
  refine wpQuiet_nil ?_
  intro w3 hw3
  obtain ⟨x, rfl⟩ := hw3
  go_wp2_with fail
  go_ret2
  refine ⟨?_, next (next b1 b2) x.2⟩
  have e : txt (writeL n) = txt wk ++ { data := #[44, 32] } ++ txt (padL 2 d) ++ { data := #[32] } ++ txt mn ++ { data := #[32] } ++ txt (padL 2 (y / 100)) ++ txt (padL 2 (y % 100)) ++ { data := #[32] } ++ txt (padL 2 hh) ++ { data := #[58] } ++ txt (padL 2 i) ++ { data := #[58] } ++ txt (padL 2 s) ++ { data := #[32, 71, 77, 84] } := by
    rw [HW.out]
    unfold textL
    rw [ew2, em2, pad_four, show ({ data := #[44, 32] } : ByteArray) = txt [44, 32] from rfl, show ({ data := #[32] } : ByteArray) = txt [32] from rfl, show ({ data := #[58] } : ByteArray) = txt [58] from rfl, show ({ data := #[32, 71, 77, 84] } : ByteArray) = txt [32, 71, 77, 84] from rfl]
    simp only [txt_append, List.append_assoc]
  rw [e]; rfl
end Go.Proofs.YtlabffopbambjabDoor
