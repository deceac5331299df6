/- The reference's line: from the end; and whether a cookie stands ahead of another one. -/
import Derived.Test.YtoppjfambomdmaaLineG
namespace Go.Proofs.Ytoppjfambomdmaa
open Go.RowKit
set_option linter.all false
set_option maxRecDepth 100000

theorem wrL_drop (l : List Ck) (j : Nat) (c : Ck) (h : l[j]? = some c) : wrL (l.drop j) = if l.drop (j + 1) = [] then oneL c else oneL c ++ 59 :: 32 :: wrL (l.drop (j + 1)) := by
  obtain ⟨hj, rfl⟩ := List.getElem?_eq_some_iff.1 h
  rw [List.drop_eq_getElem_cons hj]
  cases e : l.drop (j + 1) with
  | nil => rfl
  | cons d r => rfl
theorem wrL_drop_le (l : List Ck) (j : Nat) : (wrL (l.drop j)).length ≤ (wrL l).length := by
  induction j with
  | zero => exact Nat.le_refl _
  | succ j ih =>
    refine Nat.le_trans ?_ ih
    cases e : l[j]? with
    | none =>
      have h : l.length ≤ j := List.getElem?_eq_none_iff.1 e
      rw [List.drop_eq_nil_of_le (by omega)]; exact Nat.zero_le _
    | some c =>
      rw [wrL_drop l j c e]
      split
      · rename_i h; rw [h]; exact Nat.zero_le _
      · rw [List.length_append, List.length_cons, List.length_cons]; omega
theorem wr_nil' : ∀ l : List Ck, wrL l = [] → l = []
  | [], _ => rfl
  | [c], h => by unfold wrL oneL at h; simp at h
  | c :: d :: r, h => by unfold wrL at h; simp at h
theorem oneL_len (c : Ck) : (oneL c).length = c.name.length + c.value.length + 1 := by unfold oneL; simp; omega
set_option maxHeartbeats 4000000 in
theorem lineOf_any (vl : Value) (l : List Ck) (w : World) (hr : Rows w vl ckC l) (hm : l.length ≤ 1048576) (hj : (wrL l).length ≤ 1048576) :
    Calls Try.prog 14 #[vl] w fun e w' => e = .returned (.string (txt (wrL l))) ∧ ∃ n, w' = w.drewN n := by
  obtain ⟨ad, cap, rfl⟩ := hr.shape
  have HR : Hid _ := hr
  have HJ : Hid _ := hj
  clear hr hj
  go_enter Try.func14, Try.ntmps14
  go_wp2_with fail
  go_loopw [3, 4] (fun s i wr => ∃ j n : Nat, j ≤ l.length ∧ i = .int .i64 ((j : Int) - 1) ∧ s = .string (txt (wrL (l.drop j))) ∧ wr = w.drewN n) (fun _ i _ => (intOf i + 1).toNat)
  case atStart => exact ⟨l.length, 0, Nat.le_refl _, by first | rfl | go_num, by rw [List.drop_length]; rfl, rfl⟩
  case round =>
    obtain ⟨j, n, hjl, rfl, rfl, rfl⟩ := hrel
    by_cases h0 : j = 0
    · subst h0
      rw [List.drop_zero]
      go_wp2_with fail
      go_ret
      exact ⟨rfl, n, rfl⟩
    · obtain ⟨i, hi⟩ : ∃ i, j = i + 1 := ⟨j - 1, by omega⟩
      subst hi
      have e1 : (((i + 1 : Nat) : Int) - 1) = (i : Int) := by omega
      rw [e1]
      obtain ⟨c, hc⟩ : ∃ c, l[i]? = some c := ⟨_, List.getElem?_eq_getElem (by omega)⟩
      obtain ⟨bl, ol, rfl, _, hcx⟩ := Rows.at HR.out rfl 12 (fun _ => rfl) i c hc
      have p0 := hcx 0 _ rfl
      have p1 := hcx 1 _ rfl
      rw [Nat.add_zero] at p0
      obtain ⟨r, hrr⟩ : ∃ r, r = wrL (l.drop (i + 1)) := ⟨_, rfl⟩
      have HW := wrL_drop l i c hc
      have HL1 := wrL_drop_le l i
      have HL2 := wrL_drop_le l (i + 1)
      have HJJ := HJ.out
      obtain ⟨nm, hnm⟩ : ∃ x, x = c.name := ⟨_, rfl⟩
      obtain ⟨vv, hvv⟩ : ∃ x, x = c.value := ⟨_, rfl⟩
      have HONE : Hid (oneL c = nm ++ 61 :: vv) := by show _ = _; rw [hnm, hvv]; rfl
      have hob := oneL_len c
      have hl0 : nm.length ≤ 1048576 ∧ vv.length ≤ 1048576 ∧ r.length ≤ 1048576 := by
        rw [HW] at HL1
        rw [hnm, hvv, hrr]
        split at HL1
        · rename_i h
          rw [h]
          have : (wrL ([] : List Ck)).length = 0 := rfl
          omega
        · rw [List.length_append, List.length_cons, List.length_cons] at HL1
          omega
      obtain ⟨b1, b2, b3⟩ := hl0
      have z1 : (txt nm).size ≤ 1048576 := b1
      have z2 : (txt vv).size ≤ 1048576 := b2
      have z3 : (txt r).size ≤ 1048576 := b3
      rw [← hnm] at p0
      rw [← hvv] at p1
      rw [← hrr]
      obtain ⟨X1, hX1⟩ : ∃ X, txt nm ++ (⟨#[61]⟩ : ByteArray) = X := ⟨_, rfl⟩
      obtain ⟨X2, hX2⟩ : ∃ X, X1 ++ txt vv = X := ⟨_, rfl⟩
      have HX2 : Hid (X2 = txt (nm ++ 61 :: vv)) := by
        show _ = _
        rw [← hX2, ← hX1, show (⟨#[61]⟩ : ByteArray) = txt [61] from rfl, txt_append, txt_append]; simp
      have s1 : X1.size ≤ 1048577 := by rw [← hX1, show (⟨#[61]⟩ : ByteArray) = txt [61] from rfl, txt_append, txt_size, List.length_append]; simp; omega
      have s2 : X2.size ≤ 2097153 := by rw [HX2.out, txt_size, List.length_append, List.length_cons]; omega
      have k1 : (txt nm).size + 1 ≤ 9223372036854775807 := by omega
      have k1' : ¬ 9223372036854775807 < (txt nm).size + 1 := by omega
      have k2 : X1.size + (txt vv).size ≤ 9223372036854775807 := by omega
      have k2' : ¬ 9223372036854775807 < X1.size + (txt vv).size := by omega
      have hil : (i : Int) < (l.length : Int) := by omega
      clear e1 hcx HL1 HL2 HJJ hob b1 b2 b3 hnm hvv hc
      by_cases hlast : l.drop (i + 1) = []
      · have hle : l.length = i + 1 := by have := congrArg List.length hlast; rw [List.length_drop, List.length_nil] at this; omega
        have hr0 : r = [] := by rw [hrr, hlast]; rfl
        have HWW : Hid (wrL (l.drop i) = nm ++ 61 :: vv) := by show _ = _; rw [HW, if_pos hlast, HONE.out]
        have g1 := nil_tt r hr0
        have g1' : ((txt r).toList != []) = false := by simp only [bne, g1]; rfl
        have g2 : ¬ (i : Int) < (l.length : Int) - 1 := by omega
        have HR0 : Hid _ := hr0
        clear HW hrr hlast hr0 hle
        have k3 : X2.size + (txt r).size ≤ 9223372036854775807 := by omega
        have k3' : ¬ 9223372036854775807 < X2.size + (txt r).size := by omega
        have HFIN : Hid (X2 ++ txt r = txt (wrL (l.drop i))) := by
          show _ = _
          rw [HWW.out, HX2.out, HR0.out, txt_append, List.append_nil]
        go_wp2_with fail
        go_quiet (fail)
        go_wp2_with fail
        go_roundw
        case rel => exact ⟨i, _, by omega, rfl, by rw [HFIN.out], by first | rfl | exact World.drewN_drewN _ _ _⟩
        case measure => simp [intOf] <;> omega
      · have hr0 : r ≠ [] := by
          intro e
          rw [hrr] at e
          exact hlast (wr_nil' _ e)
        have HWW : Hid (wrL (l.drop i) = nm ++ 61 :: vv ++ 59 :: 32 :: r) := by show _ = _; rw [HW, if_neg hlast, HONE.out, hrr]
        have g1 := nil_ff r hr0
        have g1' : ((txt r).toList != []) = true := by simp only [bne, g1]; rfl
        obtain ⟨Y, hY⟩ : ∃ Y, (⟨#[59, 32]⟩ : ByteArray) ++ txt r = Y := ⟨_, rfl⟩
        have HYY : Hid (Y = txt (59 :: 32 :: r)) := by
          show _ = _
          rw [← hY, show (⟨#[59, 32]⟩ : ByteArray) = txt [59, 32] from rfl, txt_append]; rfl
        have s4 : Y.size ≤ 1048578 := by rw [HYY.out, txt_size, List.length_cons, List.length_cons]; have : r.length ≤ 1048576 := z3; omega
        have k4 : 2 + (txt r).size ≤ 9223372036854775807 := by omega
        have k4' : ¬ 9223372036854775807 < 2 + (txt r).size := by omega
        have k3 : X2.size + Y.size ≤ 9223372036854775807 := by omega
        have k3' : ¬ 9223372036854775807 < X2.size + Y.size := by omega
        have HFIN : Hid (X2 ++ Y = txt (wrL (l.drop i))) := by
          show _ = _
          rw [HWW.out, HX2.out, HYY.out, txt_append]
        clear HW hrr hlast hr0
        go_wp2_with fail
        go_quiet (fail)
        go_wp2_with fail
        go_roundw
        case rel => exact ⟨i, _, by omega, rfl, by rw [HFIN.out], by first | rfl | exact World.drewN_drewN _ _ _⟩
        case measure => simp [intOf] <;> omega
end Go.Proofs.Ytoppjfambomdmaa
