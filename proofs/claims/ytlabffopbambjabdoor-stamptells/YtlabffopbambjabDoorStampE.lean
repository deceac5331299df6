/- The contract of Write: a moment as text. -/
import Derived.Test.YtlabffopbambjabDoorStampD
import Derived.Deep.OwnRows
namespace Go.Proofs.YtlabffopbambjabDoor
open Go.RowKit
set_option linter.all false

/-- what lies at place j of k when the digits from m on are there -/
def padV (n k m j : Nat) : Value := .int .u8 (if m ≤ j then ((48 + n / 10 ^ (k - 1 - j) % 10 : Nat) : Int) else 0)
theorem padV_step (n k q j : Nat) : padV n k q j = if j = q then .int .u8 (48 + ((n / 10 ^ (k - (q + 1)) : Nat) : Int) % 10) else padV n k (q + 1) j := by
  unfold padV
  by_cases h : j = q
  · subst h
    rw [if_pos (Nat.le_refl _), if_pos rfl, show k - 1 - j = k - (j + 1) by omega]
    rfl
  · rw [if_neg h]
    by_cases h2 : q ≤ j
    · rw [if_pos h2, if_pos (by omega)]
    · rw [if_neg h2, if_neg (by omega)]
theorem padV_all (n k j : Nat) (hj : j < (padL k n).length) : padV n k 0 j = .int .u8 ((padL k n)[j].toNat : Int) := by
  have hk : j < k := by rw [padL_len] at hj; exact hj
  have h := padL_at k n j hk
  rw [List.getElem?_eq_getElem hj] at h
  injection h with h
  rw [h]
  unfold padV
  rw [if_pos (Nat.zero_le _)]
  congr 1
  have : (48 + n / 10 ^ (k - 1 - j) % 10) < 256 := by omega
  rw [UInt8.toNat_ofNat', Nat.mod_eq_of_lt this]
theorem mk2 (w : World) : (Instr.makeSlice 82 (.int .i64 2) (.int .i64 2)).run Tryd.prog w = .ok (.slice (some ⟨w.heap.size, 0, none⟩) 2 2) (w.alloc (.cells #[.int .u8 0, .int .u8 0] 5)) := by
  have h := run_make_row' (P := Tryd.prog) 82 5 (.int .u8 0) 1 Tryd.underlying82 (by kernel_rfl) rfl .i64 .i64 2 (by decide) (by decide) w
  rw [show madeCells #[Value.int .u8 0] 2 = #[.int .u8 0, .int .u8 0] from by kernel_rfl] at h
  exact h
set_option maxHeartbeats 1000000 in
theorem pad2_any (n : Nat) (hn : n ≤ 99999) (w : World) : Calls Tryd.prog 29 #[.int .i64 (n : Int), .int .i64 2] w fun e w' => e = .returned (.string (txt (padL 2 n))) ∧ Below w.heap.size w w' := by
  have hmk := mk2 w
  go_enter Tryd.func29, Tryd.ntmps29
  go_wp2_with fail
  clear hmk
  go_loopw [0, 6] (fun nv iv wr => ∃ m : Nat, m ≤ 2 ∧ iv = .int .i64 ((m : Int) - 1) ∧ nv = .int .i64 ((n / 10 ^ (2 - m) : Nat) : Int) ∧ Row wr w.heap.size 2 (padV n 2 m) ∧ Below w.heap.size w wr) (fun _ iv _ => ((intOf iv) + 1).toNat)
  case atStart =>
    refine ⟨2, by omega, rfl, by simp, fun j hj => ?_, (Below.refl _ _).alloc (Nat.le_refl _) _⟩
    have hjj : j = 0 ∨ j = 1 := by omega
    rcases hjj with rfl | rfl <;> exact ⟨by simp [padV], by simp⟩
  case round =>
    obtain ⟨m, hm, rfl, rfl, hrow, hb⟩ := hrel
    by_cases h0 : m = 0
    · subst h0
      have hcv := run_row_string (P := Tryd.prog) 82 9 5 Tryd.underlying82 Tryd.underlying5 Tryd.underlying9 (cap := 2) (padL 2 n) (padL_len _ _) hrow (padV_all n 2)
      go_wp2_with fail
      go_ret
      exact ⟨rfl, hb⟩
    · obtain ⟨q, rfl⟩ : ∃ q, m = q + 1 := ⟨m - 1, by omega⟩
      have eq : (((q + 1 : Nat) : Int) - 1) = (q : Int) := by omega
      rw [eq]
      clear eq h0
      have hc := hrow.cell q (by omega)
      have hf := hrow.frozen q (by omega)
      have hx : n / 10 ^ (2 - (q + 1)) ≤ 99999 := Nat.le_trans (Nat.div_le_self _ _) hn
      have HX : Hid (n / 10 ^ (2 - (q + 1)) / 10 = n / 10 ^ (2 - q)) := by
        show _ = _
        rw [Nat.div_div_eq_div_mul, show 2 - q = (2 - (q + 1)) + 1 by omega, Nat.pow_succ]
      have HV : Hid _ := padV_step n 2 q
      obtain ⟨x, hxx⟩ : ∃ x, x = n / 10 ^ (2 - (q + 1)) := ⟨_, rfl⟩
      rw [← hxx] at hx HX HV ⊢
      clear hxx
      have l1 : (x : Int) % 10 < 10 := by omega
      have l2 : 0 ≤ (x : Int) % 10 := by omega
      have l3 : (0 : Int) ≤ (x : Int) := by omega
      have q2 : (q : Int) < 2 := by omega
      go_wp2_with fail
      go_roundw
      case rel => exact ⟨q, by omega, rfl, by rw [← HX.out]; simp, (hrow.set q (by omega) _).of_eq (fun j _ => (HV.out j).symm), hb.setCell (Nat.le_refl _) _⟩
      case measure => simp [intOf]
theorem mk4 (w : World) : (Instr.makeSlice 82 (.int .i64 4) (.int .i64 4)).run Tryd.prog w = .ok (.slice (some ⟨w.heap.size, 0, none⟩) 4 4) (w.alloc (.cells #[.int .u8 0, .int .u8 0, .int .u8 0, .int .u8 0] 5)) := by
  have h := run_make_row' (P := Tryd.prog) 82 5 (.int .u8 0) 1 Tryd.underlying82 (by kernel_rfl) rfl .i64 .i64 4 (by decide) (by decide) w
  rw [show madeCells #[Value.int .u8 0] 4 = #[.int .u8 0, .int .u8 0, .int .u8 0, .int .u8 0] from by kernel_rfl] at h
  exact h
set_option maxHeartbeats 1000000 in
theorem pad4_any (n : Nat) (hn : n ≤ 99999) (w : World) : Calls Tryd.prog 29 #[.int .i64 (n : Int), .int .i64 4] w fun e w' => e = .returned (.string (txt (padL 4 n))) ∧ Below w.heap.size w w' := by
  have hmk := mk4 w
  go_enter Tryd.func29, Tryd.ntmps29
  go_wp2_with fail
  clear hmk
  go_loopw [0, 6] (fun nv iv wr => ∃ m : Nat, m ≤ 4 ∧ iv = .int .i64 ((m : Int) - 1) ∧ nv = .int .i64 ((n / 10 ^ (4 - m) : Nat) : Int) ∧ Row wr w.heap.size 4 (padV n 4 m) ∧ Below w.heap.size w wr) (fun _ iv _ => ((intOf iv) + 1).toNat)
  case atStart =>
    refine ⟨4, by omega, rfl, by simp, fun j hj => ?_, (Below.refl _ _).alloc (Nat.le_refl _) _⟩
    have hjj : j = 0 ∨ j = 1 ∨ j = 2 ∨ j = 3 := by omega
    rcases hjj with rfl | rfl | rfl | rfl <;> exact ⟨by simp [padV], by simp⟩
  case round =>
    obtain ⟨m, hm, rfl, rfl, hrow, hb⟩ := hrel
    by_cases h0 : m = 0
    · subst h0
      have hcv := run_row_string (P := Tryd.prog) 82 9 5 Tryd.underlying82 Tryd.underlying5 Tryd.underlying9 (cap := 4) (padL 4 n) (padL_len _ _) hrow (padV_all n 4)
      go_wp2_with fail
      go_ret
      exact ⟨rfl, hb⟩
    · obtain ⟨q, rfl⟩ : ∃ q, m = q + 1 := ⟨m - 1, by omega⟩
      have eq : (((q + 1 : Nat) : Int) - 1) = (q : Int) := by omega
      rw [eq]
      clear eq h0
      have hc := hrow.cell q (by omega)
      have hf := hrow.frozen q (by omega)
      have hx : n / 10 ^ (4 - (q + 1)) ≤ 99999 := Nat.le_trans (Nat.div_le_self _ _) hn
      have HX : Hid (n / 10 ^ (4 - (q + 1)) / 10 = n / 10 ^ (4 - q)) := by
        show _ = _
        rw [Nat.div_div_eq_div_mul, show 4 - q = (4 - (q + 1)) + 1 by omega, Nat.pow_succ]
      have HV : Hid _ := padV_step n 4 q
      obtain ⟨x, hxx⟩ : ∃ x, x = n / 10 ^ (4 - (q + 1)) := ⟨_, rfl⟩
      rw [← hxx] at hx HX HV ⊢
      clear hxx
      have l1 : (x : Int) % 10 < 10 := by omega
      have l2 : 0 ≤ (x : Int) % 10 := by omega
      have l3 : (0 : Int) ≤ (x : Int) := by omega
      have q2 : (q : Int) < 4 := by omega
      go_wp2_with fail
      go_roundw
      case rel => exact ⟨q, by omega, rfl, by rw [← HX.out]; simp, (hrow.set q (by omega) _).of_eq (fun j _ => (HV.out j).symm), hb.setCell (Nat.le_refl _) _⟩
      case measure => simp [intOf]
/-- a moment's text, out of its parts -/
def textL (k d q y h i s : Nat) : List UInt8 := weekNames.getD k [] ++ [44, 32] ++ (padL 2 d ++ [32] ++ monGreat.getD q [] ++ [32] ++ padL 4 y) ++ [32] ++ (padL 2 h ++ [58] ++ padL 2 i ++ [58] ++ padL 2 s) ++ [32, 71, 77, 84]
theorem parts_of (n : Int) (h : momB n = true) : ∃ k d q y hh i s : Nat, wdN n = k ∧ k < 7 ∧ tD n = d ∧ 1 ≤ d ∧ d ≤ 31 ∧ tM n = (q : Int) + 1 ∧ q < 12 ∧ tY n = y ∧ 1601 ≤ y ∧ y ≤ 9999 ∧ tH n = hh ∧ hh ≤ 23 ∧ tI n = i ∧ i ≤ 59 ∧ tS n = s ∧ s ≤ 59 ∧ writeL n = textL k d q y hh i s := by
  obtain ⟨hv, _⟩ := time_ok n h
  have hv := (vldB_iff _ _ _ _ _ _).1 hv
  have hd := dim_bd (tY n) (tM n)
  have hw : 0 ≤ wdN n ∧ wdN n < 7 := by unfold wdN; omega
  refine ⟨(wdN n).toNat, (tD n).toNat, (tM n - 1).toNat, (tY n).toNat, (tH n).toNat, (tI n).toNat, (tS n).toNat, by omega, by omega, by omega, by omega, by omega, by omega, by omega, by omega, by omega, by omega, by omega, by omega, by omega, by omega, by omega, by omega, rfl⟩
theorem week_at (k : Nat) (hk : k < 7) : ∃ x, weekNames[k]? = some x ∧ weekNames.getD k [] = x ∧ x.length = 3 := by
  have hk7 : k = 0 ∨ k = 1 ∨ k = 2 ∨ k = 3 ∨ k = 4 ∨ k = 5 ∨ k = 6 := by omega
  rcases hk7 with rfl | rfl | rfl | rfl | rfl | rfl | rfl <;> exact ⟨_, rfl, rfl, rfl⟩
theorem mon_at' (k : Nat) (hk : k < 12) : ∃ x, monGreat[k]? = some x ∧ monGreat.getD k [] = x ∧ x.length = 3 := by
  have hk12 : k = 0 ∨ k = 1 ∨ k = 2 ∨ k = 3 ∨ k = 4 ∨ k = 5 ∨ k = 6 ∨ k = 7 ∨ k = 8 ∨ k = 9 ∨ k = 10 ∨ k = 11 := by omega
  rcases hk12 with rfl | rfl | rfl | rfl | rfl | rfl | rfl | rfl | rfl | rfl | rfl | rfl <;> exact ⟨_, rfl, rfl, rfl⟩
set_option maxHeartbeats 2000000 in
theorem swrite_yes (n : Int) (h : momB n = true) (w : World) (T : STabs w) : Calls Tryd.prog 15 #[.int .i64 n] w fun e w' => e = .returned (.tuple #[.string (txt (writeL n)), .int .i64 0]) ∧ Below w.heap.size w w' := by
  obtain ⟨k, d, q, y, hh, i, s, ek, bk, ed, bd1, bd2, eq, bq, ey, by1, by2, eh, bh, ei, bi, es, bs, hw⟩ := parts_of n h
  have TH : Hid _ := T
  have H : Hid _ := h
  have EK : Hid _ := ek
  have ET : Hid (tY n = y ∧ tM n = (q : Int) + 1 ∧ tD n = d ∧ tH n = hh ∧ tI n = i ∧ tS n = s) := ⟨ey, eq, ed, eh, ei, es⟩
  have HW : Hid _ := hw
  clear T h ek ed eq ey eh ei es hw
  go_enter Tryd.func15, Tryd.ntmps15
  go_wp2_with fail
  refine (time_yes n H.out _ TH.out.clk).mono ?_
  rw [ET.out.1, ET.out.2.1, ET.out.2.2.1, ET.out.2.2.2.1, ET.out.2.2.2.2.1, ET.out.2.2.2.2.2]
  rintro e w1 ⟨rfl, hb1⟩
  go_wp2_with fail
  refine (weekday_yes n H.out _).mono ?_
  rw [EK.out]
  rintro e w2 ⟨rfl, rfl⟩
  have t6 := T6.new w1 (y : Int) ((q : Int) + 1) (d : Int) (hh : Int) (i : Int) (s : Int) 23
  have g2 : Below w.heap.size w (w1.alloc (.cells #[.int .i64 (y : Int), .int .i64 ((q : Int) + 1), .int .i64 (d : Int), .int .i64 (hh : Int), .int .i64 (i : Int), .int .i64 (s : Int)] 23)) := hb1.alloc hb1.size _
  go_wp2_with fail
  obtain ⟨W, hW⟩ : ∃ W, W = w1.alloc (.cells #[.int .i64 (y : Int), .int .i64 ((q : Int) + 1), .int .i64 (d : Int), .int .i64 (hh : Int), .int .i64 (i : Int), .int .i64 (s : Int)] 23) := ⟨_, rfl⟩
  rw [← hW] at t6 g2 ⊢
  clear hW hb1
  obtain ⟨mn, em1, em2, em3⟩ := mon_at' q bq
  obtain ⟨wk, ew1, ew2, ew3⟩ := week_at k bk
  have TW := TH.out.below g2 (Nat.le_refl _)
  have cm := TW.mons q mn em1
  have cw := TW.week k wk ew1
  have ne : Nonempty (Ext W) := ⟨Ext.of W (Below.refl _ _)⟩
  have x0 := Ext.cell t6.cy
  have x1 := Ext.cell t6.cm
  have x2 := Ext.cell t6.cd
  have xm := Ext.cell cm
  have T6H : Hid _ := t6
  have CW : Hid _ := cw
  have zm : (txt mn).size ≤ 3 := by rw [txt_size]; omega
  have z2 : ∀ n, (txt (padL 2 n)).size ≤ 2 := fun n => by rw [txt_size, padL_len]; omega
  have z4 : ∀ n, (txt (padL 4 n)).size ≤ 4 := fun n => by rw [txt_size, padL_len]; omega
  have zd := z2 d
  have zy := z4 y
  have z1 : ({ data := #[32] } : ByteArray).size ≤ 1 := by decide
  have Z2 : Hid _ := z2
  clear z2 z4 TW cw cm t6 em1 em3 ew1
  refine wp_region_ext (by kernel_rfl) (by kernel_rfl) ?_
  iterate 13 (go_big_quiet_step ((go_at_call 29; exact ext_call (pad2_any _ (by omega) _))))
  repeat (go_big_quiet_step ((go_at_call 29; exact ext_call (pad4_any _ (by omega) _))))
  refine wpQuiet_nil ?_
  intro w3 hw3
  obtain ⟨x, rfl⟩ := hw3
  obtain ⟨W2, hb2⟩ := x
  try simp only
  obtain ⟨on, hon⟩ : ∃ on, on = txt (padL 2 d) ++ { data := #[32] } ++ txt mn ++ { data := #[32] } ++ txt (padL 4 y) := ⟨_, rfl⟩
  rw [← hon]
  have zon : on.size ≤ 11 := by
    rw [hon]; simp only [ByteArray.size_append]; omega
  have HON : Hid _ := hon
  have t62 := T6H.out.below hb2 (Nat.le_refl _)
  have cw2 := (hb2.cell (p := ⟨2, k, none⟩) (cell_in CW.out)).trans CW.out
  clear hon x0 x1 x2 xm ne zd zy
  have ne : Nonempty (Ext W2) := ⟨Ext.of W2 (Below.refl _ _)⟩
  have x3 := Ext.cell t62.ch
  have x4 := Ext.cell t62.ci
  have x5 := Ext.cell t62.cs
  have zh := Z2.out hh
  have zi := Z2.out i
  have zs := Z2.out s
  have zc : ({ data := #[58] } : ByteArray).size ≤ 1 := by decide
  have CW2 : Hid _ := cw2
  clear t62 cw2
  go_wp2_with fail
  refine wp_region_ext (by kernel_rfl) (by kernel_rfl) ?_
  repeat (go_big_quiet_step ((go_at_call 29; exact ext_call (pad2_any _ (by omega) _))))
  refine wpQuiet_nil ?_
  intro w4 hw4
  obtain ⟨x, rfl⟩ := hw4
  obtain ⟨W3, hb3⟩ := x
  try simp only
  obtain ⟨att, hat⟩ : ∃ att, att = txt (padL 2 hh) ++ { data := #[58] } ++ txt (padL 2 i) ++ { data := #[58] } ++ txt (padL 2 s) := ⟨_, rfl⟩
  rw [← hat]
  have zat : att.size ≤ 8 := by
    rw [hat]; simp only [ByteArray.size_append]; omega
  have HAT : Hid _ := hat
  have cw3 := (hb3.cell (p := ⟨2, k, none⟩) (cell_in CW2.out)).trans CW2.out
  have zw : (txt wk).size ≤ 3 := by rw [txt_size]; omega
  have z6 : ({ data := #[44, 32] } : ByteArray).size ≤ 2 := by decide
  have z7 : ({ data := #[32, 71, 77, 84] } : ByteArray).size ≤ 4 := by decide
  clear hat x3 x4 x5 ne zh zi zs ew3
  go_wp2_with fail
  go_ret2
  refine ⟨?_, next (next g2 hb2) hb3⟩
  have e : txt (writeL n) = txt wk ++ { data := #[44, 32] } ++ on ++ { data := #[32] } ++ att ++ { data := #[32, 71, 77, 84] } := by
    rw [HW.out]
    unfold textL
    rw [ew2, em2, HON.out, HAT.out, show ({ data := #[44, 32] } : ByteArray) = txt [44, 32] from rfl, show ({ data := #[32] } : ByteArray) = txt [32] from rfl, show ({ data := #[58] } : ByteArray) = txt [58] from rfl, show ({ data := #[32, 71, 77, 84] } : ByteArray) = txt [32, 71, 77, 84] from rfl]
    simp only [txt_append]
  rw [e]; rfl
set_option maxHeartbeats 1000000 in
theorem swrite_no (n : Int) (h : momB n = false) (w : World) : Calls Tryd.prog 15 #[.int .i64 n] w fun e w' => e = .returned (.tuple #[.string (txt []), .int .i64 3]) ∧ Below w.heap.size w w' := by
  have H : Hid _ := h
  clear h
  go_enter Tryd.func15, Tryd.ntmps15
  go_wp2_with fail
  refine (time_no n H.out _).mono ?_
  rintro e w1 ⟨rfl, hb1⟩
  go_wp2_with fail
  go_ret2
  exact ⟨rfl, hb1.alloc hb1.size _⟩
end Go.Proofs.YtlabffopbambjabDoor
