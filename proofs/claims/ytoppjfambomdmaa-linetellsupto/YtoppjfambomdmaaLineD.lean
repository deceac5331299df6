/- Are two lists of names and values one? What the statements on lines ask first. -/
import Derived.Test.YtoppjfambomdmaaLineB
import Derived.Test.YtoppjfambomdmaaLineS
namespace Go.Proofs.Ytoppjfambomdmaa
open Go.RowKit
set_option linter.all false
set_option maxRecDepth 100000

def eqQ (a b : Pr) : Bool := a.1 == b.1 && a.2 == b.2
theorem eqQ_iff (a b : Pr) : eqQ a b = true ↔ a = b := by
  obtain ⟨a1, a2⟩ := a
  obtain ⟨b1, b2⟩ := b
  simp only [eqQ, Bool.and_eq_true, beq_iff_eq, Prod.mk.injEq]
theorem pr_eqIn (a b : Pr) : ∀ w : World, (Op.equalIn 10000 39 (.agg (prF a).toArray) (.agg (prF b).toArray)).run Try.prog w = .ok (eqQ a b) w := fun w => by
  obtain ⟨a1, a2⟩ := a
  obtain ⟨b1, b2⟩ := b
  simp only [prF]
  go_simp
  simp only [txt_eq]
  unfold eqQ
  by_cases h1 : a1 = b1
  case neg => rw [if_neg h1]; simp [h1]
  by_cases h2 : a2 = b2
  case neg => rw [if_pos h1, if_neg h2]; simp [h2]
  rw [if_pos h1, if_pos h2]
  subst h1 h2
  simp
def eqP : List Pr → List Pr → Bool
  | [], [] => true
  | a :: r, b :: q => eqQ a b && eqP r q
  | _, _ => false
theorem eqP_iff (l r : List Pr) : eqP l r = true ↔ l = r := by
  induction l generalizing r with
  | nil => cases r <;> simp [eqP]
  | cons a l ih => cases r with
    | nil => simp [eqP]
    | cons b r => simp [eqP, eqQ_iff, ih]
theorem eqP_no {l r : List Pr} (h : l ≠ r) : eqP l r = false := by
  rw [← Bool.not_eq_true, eqP_iff]; exact h
set_option maxHeartbeats 4000000 in
theorem sameAt_any (va vb : Value) (a b : List Pr) (w : World) (ha : Rows w va prF a) (hb : Rows w vb prF b) (hma : a.length ≤ maxLen) (hmb : b.length ≤ maxLen) :
    Calls Try.prog 15 #[va, vb] w fun e w' => e = .returned (.bool (eqP a b)) ∧ ∃ n, w' = w.drewN n := by
  obtain ⟨ada, capa, rfl⟩ := ha.shape
  obtain ⟨adb, capb, rfl⟩ := hb.shape
  have HRA : Hid _ := ha
  have HRB : Hid _ := hb
  unfold maxLen at hma hmb
  obtain ⟨q, hq⟩ : ∃ q, q = eqP a b := ⟨_, rfl⟩
  rw [← hq]
  have HQ : Hid _ := hq
  clear ha hb hq
  by_cases hl : a.length = b.length
  · have HL : Hid _ := hl
    have z2 : ((a.length : Int) != (b.length : Int)) = false := by rw [hl]; simp
    have z2' : ((a.length : Int) == (b.length : Int)) = true := by rw [hl]; simp
    clear hl
    go_enter Try.func15, Try.ntmps15
    go_wp2_with fail
    go_loopw [5] (fun i wr => ∃ k n : Nat, k ≤ a.length ∧ i = .int .i64 k ∧ wr = w.drewN n ∧ Hid (∀ (j : Nat) x y, a[j]? = some x → b[j]? = some y → j < k → x = y)) (fun i _ => a.length - (intOf i).toNat)
    case atStart => exact ⟨0, 0, Nat.zero_le _, rfl, rfl, fun _ _ _ _ _ h => absurd h (by omega)⟩
    case round =>
      obtain ⟨k, n, hk, rfl, rfl, hall⟩ := hrel
      by_cases hlt : k < a.length
      · have hltb : k < b.length := by have := HL.out; omega
        obtain ⟨x, hx⟩ : ∃ x, a[k]? = some x := ⟨_, List.getElem?_eq_getElem hlt⟩
        obtain ⟨y, hy⟩ : ∃ y, b[k]? = some y := ⟨_, List.getElem?_eq_getElem hltb⟩
        obtain ⟨ba, oa, rfl, hbla, hcla⟩ := Rows.at HRA.out rfl 1 (fun _ => rfl) k _ hx
        obtain ⟨bb, ob, rfl, hblb, hclb⟩ := Rows.at HRB.out rfl 1 (fun _ => rfl) k _ hy
        have p0 := hcla 0 _ rfl
        have p1 := hcla 1 _ rfl
        have q0 := hclb 0 _ rfl
        have q1 := hclb 1 _ rfl
        rw [Nat.add_zero] at p0 q0
        have HX : Hid _ := hx
        have HY : Hid _ := hy
        have hE := pr_eqIn x y
        simp only [prF] at hE
        obtain ⟨e, he⟩ : ∃ e, e = eqQ x y := ⟨_, rfl⟩
        have HEE : Hid _ := he
        rw [← he] at hE
        clear hx hy hcla hclb he
        cases e
        · have HT : Hid (q = false) := by
            show _ = _
            rw [HQ.out]
            refine eqP_no (fun e => ?_)
            have h1 : x = y := by
              have h2 := HX.out
              rw [e, HY.out] at h2
              injection h2 with h2
              exact h2.symm
            have := HEE.out
            rw [(eqQ_iff x y).2 h1] at this
            cases this
          go_wp2_with fail
          go_quiet (fail)
          go_wp2_with fail
          go_ret
          exact ⟨by rw [HT.out]; rfl, _, World.drewN_drewN _ _ _⟩
        · have HXY : Hid (x = y) := (eqQ_iff x y).1 HEE.out.symm
          go_wp2_with fail
          go_quiet (fail)
          go_wp2_with fail
          go_roundw
          case rel =>
            refine ⟨k + 1, _, by omega, by go_num, by first | rfl | exact World.drewN_drewN _ _ _, fun j x' y' hj hj2 hlt2 => ?_⟩
            by_cases e : j = k
            · subst e
              rw [HX.out] at hj
              rw [HY.out] at hj2
              injection hj with hj
              injection hj2 with hj2
              rw [← hj, ← hj2]; exact HXY.out
            · exact hall.out j x' y' hj hj2 (by omega)
          case measure => simp [intOf]; omega
      · have HT : Hid (q = true) := by
          show _ = _
          rw [HQ.out, eqP_iff]
          apply List.ext_getElem?
          intro j
          have hll := HL.out
          rcases Nat.lt_or_ge j a.length with hj | hj
          · have e1 := List.getElem?_eq_getElem hj
            have e2 := List.getElem?_eq_getElem (l := b) (i := j) (by omega)
            rw [e1, e2, hall.out j _ _ e1 e2 (by omega)]
          · rw [List.getElem?_eq_none hj, List.getElem?_eq_none (by omega)]
        go_wp2_with fail
        go_ret
        exact ⟨by rw [HT.out]; rfl, n, rfl⟩
  · have z2 : ((a.length : Int) != (b.length : Int)) = true := by rw [bne_iff_ne]; omega
    have z2' : ((a.length : Int) == (b.length : Int)) = false := by rw [beq_eq_false_iff_ne]; omega
    have HT : Hid (q = false) := HQ.out.trans (eqP_no (fun e => hl (by rw [e])))
    clear hl
    go_enter Try.func15, Try.ntmps15
    go_wp2_with fail
    go_ret
    exact ⟨by rw [HT.out]; rfl, 0, rfl⟩
end Go.Proofs.Ytoppjfambomdmaa
