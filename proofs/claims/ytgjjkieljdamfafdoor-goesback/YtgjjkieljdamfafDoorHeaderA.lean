/- Contracts: barred, has, whole, pair. -/
import Derived.Test.YtgjjkieljdamfafDoorHeaderM
import Derived.Test.YtgjjkieljdamfafDoorKit3
namespace Go.Proofs.YtgjjkieljdamfafDoor
open Go.RowKit
set_option linter.all false
set_option maxRecDepth 100000

set_option maxHeartbeats 400000 in
theorem barred_any (c : UInt8) (w : World) :
    Calls Tryd.prog 55 #[.int .u8 (c.toNat : Int)] w fun e w' => e = .returned (.bool (barU c)) ∧ w' = w := by
  have HB : Hid _ := barU_i c
  have hl := u8_lt c
  obtain ⟨r, hr⟩ : ∃ r, r = barU c := ⟨_, rfl⟩
  have HR : Hid _ := hr
  rw [← hr]
  clear hr
  by_cases h1 : (c.toNat : Int) < 32
  · by_cases h2 : (c.toNat : Int) = 9
    · have e2 : ((c.toNat : Int) != 9) = false := by rw [h2]; rfl
      have HT : Hid (r = false) := by show _ = _; rw [HR.out, ← Bool.not_eq_true, HB.out]; omega
      have e3 : ((c.toNat : Int) == 127) = false := by rw [beq_eq_false_iff_ne]; omega
      clear h2
      go_enter Tryd.func55, Tryd.ntmps55
      go_wp2_with fail
      go_ret
      refine ⟨?_, rfl⟩
      rw [HT.out]; rfl
    · have e2 : ((c.toNat : Int) != 9) = true := by rw [bne_iff_ne]; exact h2
      have HT : Hid (r = true) := by show _ = _; rw [HR.out, HB.out]; omega
      clear h2
      go_enter Tryd.func55, Tryd.ntmps55
      go_wp2_with fail
      go_ret
      refine ⟨?_, rfl⟩
      rw [HT.out]; rfl
  · by_cases h2 : (c.toNat : Int) = 127
    · have e3 : ((c.toNat : Int) == 127) = true := by rw [h2]; rfl
      have HT : Hid (r = true) := by show _ = _; rw [HR.out, HB.out]; omega
      clear h2
      go_enter Tryd.func55, Tryd.ntmps55
      go_wp2_with fail
      go_ret
      refine ⟨?_, rfl⟩
      rw [HT.out]; rfl
    · have e3 : ((c.toNat : Int) == 127) = false := by rw [beq_eq_false_iff_ne]; exact h2
      have HT : Hid (r = false) := by show _ = _; rw [HR.out, ← Bool.not_eq_true, HB.out]; omega
      clear h2
      go_enter Tryd.func55, Tryd.ntmps55
      go_wp2_with fail
      go_ret
      refine ⟨?_, rfl⟩
      rw [HT.out]; rfl
set_option maxHeartbeats 400000 in
theorem whole1_any (c : UInt8) (B : Nat) (ends : ByteArray) (w : World) (hc : w.cell? ⟨B, 0, none⟩ = some (.string ends)) (he : ends.size ≤ 9) :
    Calls Tryd.prog 54 #[.int .u8 (c.toNat : Int), .pointer (some ⟨B, 0, none⟩)] w fun e w' => e = .returned (.bool (endP ends.data.toList c)) ∧ w' = w := by
  have hi := Lib.indexByte_ge ends.data.toList c
  obtain ⟨z, hz⟩ : ∃ z, z = barU c := ⟨_, rfl⟩
  have HE : Hid (endP ends.data.toList c = (z || decide (0 ≤ Lib.indexByte ends.data.toList c))) := by
    show _ = _
    unfold endP; rw [Lib.contains_iff_indexByte, hz]
  have HZ : Hid _ := hz
  clear hz
  cases z
  · go_enter Tryd.func54, Tryd.ntmps54
    go_wp2_with (go_at_call 55; refine (barred_any _ _).mono ?_; rw [← HZ.out]; rintro e w' ⟨rfl, rfl⟩)
    refine (idx_any _ _ _).mono ?_
    rintro e w' ⟨rfl, rfl⟩
    go_wp2_with fail
    all_goals go_ret
    all_goals refine ⟨?_, rfl⟩
    all_goals rw [HE.out]
    all_goals simp [*]
  · go_enter Tryd.func54, Tryd.ntmps54
    go_wp2_with (go_at_call 55; refine (barred_any _ _).mono ?_; rw [← HZ.out]; rintro e w' ⟨rfl, rfl⟩)
    go_ret
    refine ⟨?_, rfl⟩
    rw [HE.out]; rfl
set_option maxHeartbeats 1000000 in
theorem hHas_any (g : Nat) (p : UInt8 → Bool) (he : ∀ args w, (callFunc g args).run Tryd.prog w = .ok (.enter g args) w)
    (s : ByteArray) (w : World) (hs : s.size ≤ maxLen) (hg : ∀ (c : UInt8) (k : Nat), Calls Tryd.prog g #[.int .u8 (c.toNat : Int)] w fun e w' => e = .returned (.bool (p c)) ∧ w' = w) :
    Calls Tryd.prog 53 #[.string s, .func (.func g) #[] #[]] w fun e w' => e = .returned (.bool (hasP p s.data.toList)) ∧ w' = w := by
  unfold maxLen at hs
  have HG : Hid _ := hg
  clear hg
  go_enter Tryd.func53, Tryd.ntmps53
  go_wp2
  go_loop [8] (fun i => ∃ k : Nat, k ≤ s.size ∧ i = .int .i64 k ∧ Hid (∀ (j : Nat) c, s.data.toList[j]? = some c → j < k → p c = false)) (fun i => s.size - (intOf i).toNat)
  case atStart => exact ⟨0, Nat.zero_le _, rfl, fun _ _ _ h => absurd h (by omega)⟩
  case round =>
    obtain ⟨k, hk, rfl, hb⟩ := hrel
    by_cases hlt : k < s.size
    · have HE : Hid (s.data.toList[k]? = some s[k]) := get_of s k hlt
      cases htk : p s[k]
      · go_wp2_with fail
        refine (HG.out _ 0).mono ?_
        rw [htk]
        rintro e w' ⟨rfl, rfl⟩
        go_wp2_with fail
        go_round
        case rel =>
          refine ⟨k + 1, by omega, by go_num, fun j c hj hlt2 => ?_⟩
          by_cases e : j = k
          · subst e
            rw [HE.out] at hj
            injection hj with hj
            rw [← hj]; exact htk
          · exact hb.out j c hj (by omega)
        case measure => simp [intOf]; omega
      · have HT : Hid (hasP p s.data.toList = true) := hasP_yes p _ k _ HE.out htk
        go_wp2_with fail
        refine (HG.out _ 0).mono ?_
        rw [htk]
        rintro e w' ⟨rfl, rfl⟩
        go_wp2_with fail
        go_ret
        refine ⟨?_, rfl⟩
        rw [HT.out]; rfl
    · have HT : Hid (hasP p s.data.toList = false) := hasP_no p _ (fun j c hj => hb.out j c hj (by have := (List.getElem?_eq_some_iff.1 hj).1; simp at this; omega))
      go_wp2_with fail
      go_ret
      refine ⟨?_, rfl⟩
      rw [HT.out]; rfl
set_option maxHeartbeats 1000000 in
theorem has1_any (g : Nat) (q : Value) (p : UInt8 → Bool) (he : ∀ args w, (callFunc g args).run Tryd.prog w = .ok (.enter g args) w)
    (s : ByteArray) (w : World) (hs : s.size ≤ maxLen) (hg : ∀ (c : UInt8) (k : Nat), Calls Tryd.prog g #[.int .u8 (c.toNat : Int), q] w fun e w' => e = .returned (.bool (p c)) ∧ w' = w) :
    Calls Tryd.prog 53 #[.string s, .func (.func g) #[] #[q]] w fun e w' => e = .returned (.bool (hasP p s.data.toList)) ∧ w' = w := by
  unfold maxLen at hs
  have HG : Hid _ := hg
  clear hg
  go_enter Tryd.func53, Tryd.ntmps53
  go_wp2
  go_loop [8] (fun i => ∃ k : Nat, k ≤ s.size ∧ i = .int .i64 k ∧ Hid (∀ (j : Nat) c, s.data.toList[j]? = some c → j < k → p c = false)) (fun i => s.size - (intOf i).toNat)
  case atStart => exact ⟨0, Nat.zero_le _, rfl, fun _ _ _ h => absurd h (by omega)⟩
  case round =>
    obtain ⟨k, hk, rfl, hb⟩ := hrel
    by_cases hlt : k < s.size
    · have HE : Hid (s.data.toList[k]? = some s[k]) := get_of s k hlt
      cases htk : p s[k]
      · go_wp2_with fail
        refine (HG.out _ 0).mono ?_
        rw [htk]
        rintro e w' ⟨rfl, rfl⟩
        go_wp2_with fail
        go_round
        case rel =>
          refine ⟨k + 1, by omega, by go_num, fun j c hj hlt2 => ?_⟩
          by_cases e : j = k
          · subst e
            rw [HE.out] at hj
            injection hj with hj
            rw [← hj]; exact htk
          · exact hb.out j c hj (by omega)
        case measure => simp [intOf]; omega
      · have HT : Hid (hasP p s.data.toList = true) := hasP_yes p _ k _ HE.out htk
        go_wp2_with fail
        refine (HG.out _ 0).mono ?_
        rw [htk]
        rintro e w' ⟨rfl, rfl⟩
        go_wp2_with fail
        go_ret
        refine ⟨?_, rfl⟩
        rw [HT.out]; rfl
    · have HT : Hid (hasP p s.data.toList = false) := hasP_no p _ (fun j c hj => hb.out j c hj (by have := (List.getElem?_eq_some_iff.1 hj).1; simp at this; omega))
      go_wp2_with fail
      go_ret
      refine ⟨?_, rfl⟩
      rw [HT.out]; rfl
theorem has_barred (s : ByteArray) (w : World) (hs : s.size ≤ maxLen) :
    Calls Tryd.prog 53 #[.string s, .func (.func 55) #[] #[]] w fun e w' => e = .returned (.bool (hasP barU s.data.toList)) ∧ w' = w :=
  hHas_any _ barU (enters_of Tryd.func55 (by kernel_rfl) rfl) s w hs (fun c _ => barred_any c w)
theorem has_ends (s ends : ByteArray) (B : Nat) (w : World) (hs : s.size ≤ maxLen) (hc : w.cell? ⟨B, 0, none⟩ = some (.string ends)) (he : ends.size ≤ 9) :
    Calls Tryd.prog 53 #[.string s, .func (.func 54) #[] #[.pointer (some ⟨B, 0, none⟩)]] w fun e w' => e = .returned (.bool (hasP (endP ends.data.toList) s.data.toList)) ∧ w' = w :=
  has1_any _ _ (endP ends.data.toList) (enters_of Tryd.func54 (by kernel_rfl) rfl) s w hs (fun c _ => whole1_any c B ends w hc he)
set_option maxHeartbeats 1000000 in
theorem whole_any (s ends : ByteArray) (w : World) (hs : s.size ≤ maxLen) (he : ends.size ≤ 9) :
    Calls Tryd.prog 30 #[.string s, .string ends] w fun e w' => e = .returned (.bool (wholeL ends.data.toList s.data.toList)) ∧ Below w.heap.size w w' := by
  have HS : Hid _ := hs
  have hb0 : Below w.heap.size w (w.alloc (.cells #[.string ends] 9)) := (Below.refl _ _).alloc (Nat.le_refl _) _
  have hc : (w.alloc (.cells #[.string ends] 9)).cell? ⟨w.heap.size, 0, none⟩ = some (.string ends) := by simp
  obtain ⟨t, ht⟩ : ∃ t, t = trimL s.data.toList := ⟨_, rfl⟩
  have HT : Hid _ := ht
  obtain ⟨z, hz⟩ : ∃ z, z = hasP (endP ends.data.toList) s.data.toList := ⟨_, rfl⟩
  have HZ : Hid _ := hz
  by_cases h : s.data.toList = t
  · have HW : Hid (wholeL ends.data.toList s.data.toList = !z) := by
      show _ = _
      unfold wholeL; rw [hz, ← ht, ← h]; simp
    have e1 : (s.toList == (txt t).toList) = true := same_t _ _ h
    clear ht hz h
    go_enter Tryd.func30, Tryd.ntmps30
    go_wp2_with (go_at_call 49; refine (trim_any _ _ HS.out).mono ?_; rw [← HT.out]; rintro e w' ⟨rfl, rfl⟩)
    refine (has_ends s ends _ _ HS.out hc he).mono ?_
    rw [← HZ.out]
    rintro e w' ⟨rfl, rfl⟩
    go_wp2_with fail
    go_ret
    refine ⟨?_, hb0⟩
    rw [HW.out]; rfl
  · have HW : Hid (wholeL ends.data.toList s.data.toList = false) := by
      show _ = _
      unfold wholeL; rw [← ht, beq_eq_false_iff_ne.2 h]; rfl
    have e1 : (s.toList == (txt t).toList) = false := same_f _ _ h
    clear ht hz h
    go_enter Tryd.func30, Tryd.ntmps30
    go_wp2_with (go_at_call 49; refine (trim_any _ _ HS.out).mono ?_; rw [← HT.out]; rintro e w' ⟨rfl, rfl⟩)
    go_ret
    refine ⟨?_, hb0⟩
    rw [HW.out]; rfl
end Go.Proofs.YtgjjkieljdamfafDoor
