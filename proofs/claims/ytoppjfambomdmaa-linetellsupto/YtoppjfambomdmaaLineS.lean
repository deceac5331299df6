/- Are two lists of cookies one? And of attributes? The contracts of the reference's SameCookies, SameAttrs. -/
import Derived.Test.YtoppjfambomdmaaSortE
import Derived.Test.YtoppjfambomdmaaLineC
import Derived.Test.YtoppjfambomdmaaKit3
import Derived.Test.YtoppjfambomdmaaKit4
import Derived.Laws.StructEq
namespace Go.Proofs.Ytoppjfambomdmaa
open Go.RowKit
set_option linter.all false
set_option maxRecDepth 100000

theorem txt_eq (a b : List UInt8) : ((txt a).toList = (txt b).toList) ↔ a = b := by
  rw [Lib.toList_data, Lib.toList_data]
  exact Iff.rfl
def eqC (a b : Ck) : Bool :=
  a.name == b.name && a.value == b.value && a.domain == b.domain && a.path == b.path && a.hostOnly == b.hostOnly && a.secure == b.secure && a.httpOnly == b.httpOnly && a.lasting == b.lasting && a.site == b.site && a.expiry == b.expiry && a.created == b.created && a.used == b.used && a.no == b.no
theorem eqC_iff (a b : Ck) : eqC a b = true ↔ a = b := by
  obtain ⟨a1, a2, a3, a4, a5, a6, a7, a8, a9, a10, a11, a12, a13⟩ := a
  obtain ⟨b1, b2, b3, b4, b5, b6, b7, b8, b9, b10, b11, b12, b13⟩ := b
  simp only [eqC, Bool.and_eq_true, beq_iff_eq, Ck.mk.injEq, and_assoc]
set_option maxHeartbeats 4000000 in
theorem ck_eqIn (a b : Ck) : ∀ w : World, (Op.equalIn 10000 34 (.agg (ckC a).toArray) (.agg (ckC b).toArray)).run Try.prog w =   .ok (eqC a b) w := fun w => by
  obtain ⟨a1, a2, a3, a4, a5, a6, a7, a8, a9, a10, a11, a12, a13⟩ := a
  obtain ⟨b1, b2, b3, b4, b5, b6, b7, b8, b9, b10, b11, b12, b13⟩ := b
  simp only [ckC]
  go_simp
  simp only [txt_eq]
  unfold eqC
  by_cases h1 : a1 = b1
  case neg => rw [if_neg h1]; simp [h1]
  by_cases h2 : a2 = b2
  case neg => rw [if_pos h1, if_neg h2]; simp [h2]
  by_cases h3 : a3 = b3
  case neg => rw [if_pos h1, if_pos h2, if_neg h3]; simp [h3]
  by_cases h4 : a4 = b4
  case neg => rw [if_pos h1, if_pos h2, if_pos h3, if_neg h4]; simp [h4]
  by_cases h5 : a5 = b5
  case neg => rw [if_pos h1, if_pos h2, if_pos h3, if_pos h4, if_neg h5]; simp [h5]
  by_cases h6 : a6 = b6
  case neg => rw [if_pos h1, if_pos h2, if_pos h3, if_pos h4, if_pos h5, if_neg h6]; simp [h6]
  by_cases h7 : a7 = b7
  case neg => rw [if_pos h1, if_pos h2, if_pos h3, if_pos h4, if_pos h5, if_pos h6, if_neg h7]; simp [h7]
  by_cases h8 : a8 = b8
  case neg => rw [if_pos h1, if_pos h2, if_pos h3, if_pos h4, if_pos h5, if_pos h6, if_pos h7, if_neg h8]; simp [h8]
  rw [if_pos h1, if_pos h2, if_pos h3, if_pos h4, if_pos h5, if_pos h6, if_pos h7, if_pos h8]
  subst h1 h2 h3 h4 h5 h6 h7 h8
  by_cases h9 : a9 = b9
  case neg => rw [if_neg h9]; simp [h9]
  by_cases h10 : a10 = b10
  case neg => rw [if_pos h9, if_neg h10]; simp [h10]
  by_cases h11 : a11 = b11
  case neg => rw [if_pos h9, if_pos h10, if_neg h11]; simp [h11]
  by_cases h12 : a12 = b12
  case neg => rw [if_pos h9, if_pos h10, if_pos h11, if_neg h12]; simp [h12]
  by_cases h13 : a13 = b13
  case neg => rw [if_pos h9, if_pos h10, if_pos h11, if_pos h12, if_neg h13]; simp [h13]
  rw [if_pos h9, if_pos h10, if_pos h11, if_pos h12, if_pos h13]
  subst h9 h10 h11 h12 h13
  simp
/-- are two lists one? -/
def eqL : List Ck → List Ck → Bool
  | [], [] => true
  | a :: r, b :: q => eqC a b && eqL r q
  | _, _ => false
theorem eqL_iff (l r : List Ck) : eqL l r = true ↔ l = r := by
  induction l generalizing r with
  | nil => cases r <;> simp [eqL]
  | cons a l ih => cases r with
    | nil => simp [eqL]
    | cons b r => simp [eqL, eqC_iff, ih]
theorem eqL_no {l r : List Ck} (h : l ≠ r) : eqL l r = false := by
  rw [← Bool.not_eq_true, eqL_iff]; exact h
set_option maxHeartbeats 4000000 in
theorem sameCk_any (va vb : Value) (a b : List Ck) (w : World) (ha : Rows w va ckC a) (hb : Rows w vb ckC b) (hma : a.length ≤ maxLen) (hmb : b.length ≤ maxLen) :
    Calls Try.prog 10 #[va, vb] w fun e w' => e = .returned (.bool (eqL a b)) ∧ ∃ n, w' = w.drewN n := by
  obtain ⟨ada, capa, rfl⟩ := ha.shape
  obtain ⟨adb, capb, rfl⟩ := hb.shape
  have HRA : Hid _ := ha
  have HRB : Hid _ := hb
  unfold maxLen at hma hmb
  obtain ⟨q, hq⟩ : ∃ q, q = eqL a b := ⟨_, rfl⟩
  rw [← hq]
  have HQ : Hid _ := hq
  clear ha hb hq
  by_cases hl : a.length = b.length
  · have HL : Hid _ := hl
    have z2 : ((a.length : Int) != (b.length : Int)) = false := by rw [hl]; simp
    have z2' : ((a.length : Int) == (b.length : Int)) = true := by rw [hl]; simp
    clear hl
    go_enter Try.func10, Try.ntmps10
    go_wp2_with fail
    go_loopw [5] (fun i wr => ∃ k n : Nat, k ≤ a.length ∧ i = .int .i64 k ∧ wr = w.drewN n ∧ Hid (∀ (j : Nat) x y, a[j]? = some x → b[j]? = some y → j < k → x = y)) (fun i _ => a.length - (intOf i).toNat)
    case atStart => exact ⟨0, 0, Nat.zero_le _, rfl, rfl, fun _ _ _ _ _ h => absurd h (by omega)⟩
    case round =>
      obtain ⟨k, n, hk, rfl, rfl, hall⟩ := hrel
      by_cases hlt : k < a.length
      · have hltb : k < b.length := by have := HL.out; omega
        obtain ⟨x, hx⟩ : ∃ x, a[k]? = some x := ⟨_, List.getElem?_eq_getElem hlt⟩
        obtain ⟨y, hy⟩ : ∃ y, b[k]? = some y := ⟨_, List.getElem?_eq_getElem hltb⟩
        obtain ⟨ba, oa, rfl, hbla, hcla⟩ := Rows.at HRA.out rfl 12 (fun _ => rfl) k _ hx
        obtain ⟨bb, ob, rfl, hblb, hclb⟩ := Rows.at HRB.out rfl 12 (fun _ => rfl) k _ hy
        have p0 := hcla 0 _ rfl
        have p1 := hcla 1 _ rfl
        have p2 := hcla 2 _ rfl
        have p3 := hcla 3 _ rfl
        have p4 := hcla 4 _ rfl
        have p5 := hcla 5 _ rfl
        have p6 := hcla 6 _ rfl
        have p7 := hcla 7 _ rfl
        have p8 := hcla 8 _ rfl
        have p9 := hcla 9 _ rfl
        have p10 := hcla 10 _ rfl
        have p11 := hcla 11 _ rfl
        have p12 := hcla 12 _ rfl
        have q0 := hclb 0 _ rfl
        have q1 := hclb 1 _ rfl
        have q2 := hclb 2 _ rfl
        have q3 := hclb 3 _ rfl
        have q4 := hclb 4 _ rfl
        have q5 := hclb 5 _ rfl
        have q6 := hclb 6 _ rfl
        have q7 := hclb 7 _ rfl
        have q8 := hclb 8 _ rfl
        have q9 := hclb 9 _ rfl
        have q10 := hclb 10 _ rfl
        have q11 := hclb 11 _ rfl
        have q12 := hclb 12 _ rfl
        rw [Nat.add_zero] at p0 q0
        have HX : Hid _ := hx
        have HY : Hid _ := hy
        have hE := ck_eqIn x y
        simp only [ckC] at hE
        obtain ⟨e, he⟩ : ∃ e, e = eqC x y := ⟨_, rfl⟩
        have HEE : Hid _ := he
        rw [← he] at hE
        clear hx hy hcla hclb he
        cases e
        · have HT : Hid (q = false) := by
            show _ = _
            rw [HQ.out]
            refine eqL_no (fun e => ?_)
            have h1 : x = y := by
              have h2 := HX.out
              rw [e, HY.out] at h2
              injection h2 with h2
              exact h2.symm
            have := HEE.out
            rw [(eqC_iff x y).2 h1] at this
            cases this
          go_wp2_with fail
          go_quiet (fail)
          go_wp2_with fail
          go_ret
          exact ⟨by rw [HT.out]; rfl, _, World.drewN_drewN _ _ _⟩
        · have HXY : Hid (x = y) := (eqC_iff x y).1 HEE.out.symm
          go_wp2_with fail
          go_quiet (fail)
          go_wp2_with fail
          go_roundw
          case rel =>
            refine ⟨k + 1, _, by omega, by go_num, by first | rfl | exact World.drewN_drewN _ _ _, fun j x' y' hj hj2 hlt2 => ?_⟩
            by_cases e : j = k
            · subst e
              rw [HX.out] at hj
              rw [HY.out] at hj2
              injection hj with hj
              injection hj2 with hj2
              rw [← hj, ← hj2]; exact HXY.out
            · exact hall.out j x' y' hj hj2 (by omega)
          case measure => simp [intOf]; omega
      · have HT : Hid (q = true) := by
          show _ = _
          rw [HQ.out, eqL_iff]
          apply List.ext_getElem?
          intro j
          have hll := HL.out
          rcases Nat.lt_or_ge j a.length with hj | hj
          · have e1 := List.getElem?_eq_getElem hj
            have e2 := List.getElem?_eq_getElem (l := b) (i := j) (by omega)
            rw [e1, e2, hall.out j _ _ e1 e2 (by omega)]
          · rw [List.getElem?_eq_none hj, List.getElem?_eq_none (by omega)]
        go_wp2_with fail
        go_ret
        exact ⟨by rw [HT.out]; rfl, n, rfl⟩
  · have z2 : ((a.length : Int) != (b.length : Int)) = true := by rw [bne_iff_ne]; omega
    have z2' : ((a.length : Int) == (b.length : Int)) = false := by rw [beq_eq_false_iff_ne]; omega
    have HT : Hid (q = false) := HQ.out.trans (eqL_no (fun e => hl (by rw [e])))
    clear hl
    go_enter Try.func10, Try.ntmps10
    go_wp2_with fail
    go_ret
    exact ⟨by rw [HT.out]; rfl, 0, rfl⟩
end Go.Proofs.Ytoppjfambomdmaa
