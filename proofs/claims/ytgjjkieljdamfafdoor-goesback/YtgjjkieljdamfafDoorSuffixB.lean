/- Contracts: is a text a host as it is compared, the program's and the reference's; what is wrong with a rule; rules laid into a map. -/
import Derived.Test.YtgjjkieljdamfafDoorSuffixA
namespace Go.Proofs.YtgjjkieljdamfafDoor
open Go.RowKit Go.Maps
set_option linter.all false
set_option maxRecDepth 100000

theorem canB_ok (s : ByteArray) (h : canonE s.data.toList = 0) : canB s.data.toList = ((txt (canonL s.data.toList)).toList == s.toList) := by
  unfold canB
  rw [h, Lib.toList_data, Lib.toList_data, txt_toList]; rfl
theorem canB_bad (l : List UInt8) (h : canonE l ≠ 0) : canB l = false := by
  unfold canB
  rw [show (canonE l == 0) = false by rw [beq_eq_false_iff_ne]; exact h]; rfl
set_option maxHeartbeats 1000000 in
theorem canonical_any (s : ByteArray) (w : World) (hs : s.size ≤ maxLen) :
    Calls Tryd.prog 74 #[.string s] w fun e w' => e = .returned (.bool (canB s.data.toList)) ∧ Below w.heap.size w w' := by
  have HS : Hid _ := hs
  clear hs
  by_cases h0 : canonE s.data.toList = 0
  · have H0 : Hid _ := h0
    have HB : Hid _ := canB_ok s h0
    clear h0
    go_enter Tryd.func74, Tryd.ntmps74
    go_wp2_with fail
    refine (canon_any _ _ HS.out).mono ?_
    rw [H0.out]
    rintro e w1 ⟨rfl, hb1⟩
    go_wp2_with fail
    go_ret
    refine ⟨?_, hb1⟩
    rw [HB.out]; rfl
  · have HB : Hid _ := canB_bad _ h0
    obtain ⟨E, hE⟩ : ∃ E, E = canonE s.data.toList := ⟨_, rfl⟩
    rw [← hE] at h0
    have h0b : (E == 0) = false := by rw [beq_eq_false_iff_ne]; exact h0
    have HE : Hid _ := hE
    clear hE h0
    go_enter Tryd.func74, Tryd.ntmps74
    go_wp2_with fail
    refine (canon_any _ _ HS.out).mono ?_
    rw [← HE.out]
    rintro e w1 ⟨rfl, hb1⟩
    go_wp2_with fail
    go_ret
    refine ⟨?_, hb1⟩
    rw [HB.out]; rfl
/-- block B holds a rule -/
structure S2 (W : World) (B : Nat) (z : Int) (s : ByteArray) : Prop where
  ck : W.cell? ⟨B, 0, none⟩ = some (.int .i64 z)
  cn : W.cell? ⟨B, 1, none⟩ = some (.string s)
theorem S2.below {W W' : World} {A B : Nat} {z : Int} {s : ByteArray} (t : S2 W B z s) (hb : Below A W W') (hA : W.heap.size ≤ A) : S2 W' B z s :=
  have hB := Nat.lt_of_lt_of_le (cell_in t.ck) hA
  ⟨(hb.cell (p := ⟨B, 0, none⟩) hB).trans t.ck, (hb.cell (p := ⟨B, 1, none⟩) hB).trans t.cn⟩
theorem S2.new (w : World) (z : Int) (s : ByteArray) (t : TypeId) : S2 (w.alloc (.cells #[.int .i64 z, .string s] t)) w.heap.size z s := ⟨by simp, by simp⟩
theorem rule_kind (r : Int × List UInt8) (h : kindB r.1 = false) : ruleE r = 7 := by unfold ruleE; rw [h]; rfl
theorem rule_bad (r : Int × List UInt8) (h : kindB r.1 = true) (h2 : formB r = false) : ruleE r = 1 := by unfold ruleE; rw [h, h2]; rfl
theorem rule_ok (r : Int × List UInt8) (h : kindB r.1 = true) (h2 : formB r = true) : ruleE r = 0 := by unfold ruleE; rw [h, h2]; rfl
theorem kind_three (z : Int) (h : kindB z = true) : z = 1 ∨ z = 2 ∨ z = 3 := by
  unfold kindB at h
  simp only [Bool.or_eq_true, beq_iff_eq] at h
  omega
theorem kind_none (z : Int) (h : kindB z = false) : z ≠ 1 ∧ z ≠ 2 ∧ z ≠ 3 := by
  unfold kindB at h
  simp only [Bool.or_eq_false_iff, beq_eq_false_iff_ne] at h
  exact ⟨h.1.1, h.1.2, h.2⟩
set_option maxHeartbeats 2000000 in
theorem checkRule_one (z : Int) (hz : z = 1 ∨ z = 2) (s : ByteArray) (w : World) (hs : s.size ≤ maxLen) :
    Calls Tryd.prog 51 #[.agg #[.int .i64 z, .string s]] w fun e w' => e = .returned (.int .i64 (ruleE (z, s.data.toList))) ∧ Below w.heap.size w w' := by
  have HS : Hid _ := hs
  clear hs
  have hk : kindB z = true := by rcases hz with rfl | rfl <;> rfl
  have hn3 : (z == 3) = false := by rcases hz with rfl | rfl <;> rfl
  have S0 := S2.new w z s 63
  have B0 : Below w.heap.size w (w.alloc (.cells #[.int .i64 z, .string s] 63)) := (Below.refl _ _).alloc (Nat.le_refl _) _
  cases hc : canB s.data.toList
  · have HR : Hid (ruleE (z, s.data.toList) = 1) := rule_bad _ hk (by unfold formB; simp only; rw [hc]; rfl)
    have HC : Hid _ := hc
    clear hc hk
    rcases hz with rfl | rfl
    all_goals
      go_enter Tryd.func51, Tryd.ntmps51
      go_wp2_with fail
      refine (canonical_any _ _ HS.out).mono ?_
      rw [HC.out]
      rintro e w1 ⟨rfl, hb1⟩
      obtain ⟨ck, cn⟩ := S0.below hb1 (Nat.le_refl _)
      go_wp2_with fail
      go_ret
      refine ⟨?_, next B0 hb1⟩
      rw [HR.out]; rfl
  · cases ha : addrL s.data.toList
    · have HR : Hid (ruleE (z, s.data.toList) = 0) := rule_ok _ hk (by unfold formB; simp only; rw [hc, ha, hn3]; rfl)
      have HC : Hid _ := hc
      have HA : Hid _ := ha
      clear hc hk ha hn3
      rcases hz with rfl | rfl
      all_goals
        go_enter Tryd.func51, Tryd.ntmps51
        go_wp2_with fail
        refine (canonical_any _ _ HS.out).mono ?_
        rw [HC.out]
        rintro e w1 ⟨rfl, hb1⟩
        have S1 := S0.below hb1 (Nat.le_refl _)
        obtain ⟨ck, cn⟩ := id S1
        go_wp2_with fail
        refine (address_any _ _ HS.out).mono ?_
        rw [HA.out]
        rintro e w2 ⟨rfl, hb2⟩
        have S3 := S1.below hb2 (Nat.le_refl _)
        clear ck cn
        obtain ⟨ck, cn⟩ := id S3
        go_wp2_with fail
        refine (cut_any s 46 _ HS.out).mono ?_
        rintro e w3 ⟨rfl, n3, rfl⟩
        have S4 : S2 (w2.drewN n3) w.heap.size _ s := S3.below (below_drewN' _ _ _) (Nat.le_refl _)
        clear ck cn
        obtain ⟨ck, cn⟩ := id S4
        go_wp2_with fail
        go_ret
        refine ⟨?_, next (next (next B0 hb1) hb2) (below_drewN' _ _ _)⟩
        rw [HR.out]; rfl
    · have HR : Hid (ruleE (z, s.data.toList) = 1) := rule_bad _ hk (by unfold formB; simp only; rw [hc, ha]; rfl)
      have HC : Hid _ := hc
      have HA : Hid _ := ha
      clear hc hk ha hn3
      rcases hz with rfl | rfl
      all_goals
        go_enter Tryd.func51, Tryd.ntmps51
        go_wp2_with fail
        refine (canonical_any _ _ HS.out).mono ?_
        rw [HC.out]
        rintro e w1 ⟨rfl, hb1⟩
        have S1 := S0.below hb1 (Nat.le_refl _)
        obtain ⟨ck, cn⟩ := id S1
        go_wp2_with fail
        refine (address_any _ _ HS.out).mono ?_
        rw [HA.out]
        rintro e w2 ⟨rfl, hb2⟩
        have S3 := S1.below hb2 (Nat.le_refl _)
        clear ck cn
        obtain ⟨ck, cn⟩ := id S3
        go_wp2_with fail
        go_ret
        refine ⟨?_, next (next B0 hb1) hb2⟩
        rw [HR.out]; rfl
set_option maxHeartbeats 2000000 in
theorem checkRule_three (s : ByteArray) (w : World) (hs : s.size ≤ maxLen) :
    Calls Tryd.prog 51 #[.agg #[.int .i64 3, .string s]] w fun e w' => e = .returned (.int .i64 (ruleE (3, s.data.toList))) ∧ Below w.heap.size w w' := by
  have HS : Hid _ := hs
  clear hs
  have hk : kindB 3 = true := rfl
  have S0 := S2.new w 3 s 63
  have B0 : Below w.heap.size w (w.alloc (.cells #[.int .i64 3, .string s] 63)) := (Below.refl _ _).alloc (Nat.le_refl _) _
  cases hc : canB s.data.toList
  · have HR : Hid (ruleE (3, s.data.toList) = 1) := rule_bad _ hk (by unfold formB; simp only; rw [hc]; rfl)
    have HC : Hid _ := hc
    clear hc hk
    go_enter Tryd.func51, Tryd.ntmps51
    go_wp2_with fail
    refine (canonical_any _ _ HS.out).mono ?_
    rw [HC.out]
    rintro e w1 ⟨rfl, hb1⟩
    obtain ⟨ck, cn⟩ := S0.below hb1 (Nat.le_refl _)
    go_wp2_with fail
    go_ret
    refine ⟨?_, next B0 hb1⟩
    rw [HR.out]; rfl
  · cases ha : addrL s.data.toList
    · cases hd : hasB s.data.toList 46
      · have HR : Hid (ruleE (3, s.data.toList) = 1) := rule_bad _ hk (by unfold formB; simp only; rw [hc, ha, hd]; rfl)
        have HC : Hid _ := hc
        have HA : Hid _ := ha
        have HD : Hid _ := hd
        clear hc hk ha hd
        go_enter Tryd.func51, Tryd.ntmps51
        go_wp2_with fail
        refine (canonical_any _ _ HS.out).mono ?_
        rw [HC.out]
        rintro e w1 ⟨rfl, hb1⟩
        have S1 := S0.below hb1 (Nat.le_refl _)
        obtain ⟨ck, cn⟩ := id S1
        go_wp2_with fail
        refine (address_any _ _ HS.out).mono ?_
        rw [HA.out]
        rintro e w2 ⟨rfl, hb2⟩
        have S3 := S1.below hb2 (Nat.le_refl _)
        clear ck cn
        obtain ⟨ck, cn⟩ := id S3
        go_wp2_with fail
        refine (cut_any s 46 _ HS.out).mono ?_
        rw [HD.out]
        rintro e w3 ⟨rfl, n3, rfl⟩
        have S4 : S2 (w2.drewN n3) w.heap.size _ s := S3.below (below_drewN' _ _ _) (Nat.le_refl _)
        clear ck cn
        obtain ⟨ck, cn⟩ := id S4
        go_wp2_with fail
        go_ret
        refine ⟨?_, next (next (next B0 hb1) hb2) (below_drewN' _ _ _)⟩
        rw [HR.out]; rfl
      · have HR : Hid (ruleE (3, s.data.toList) = 0) := rule_ok _ hk (by unfold formB; simp only; rw [hc, ha, hd]; rfl)
        have HC : Hid _ := hc
        have HA : Hid _ := ha
        have HD : Hid _ := hd
        clear hc hk ha hd
        go_enter Tryd.func51, Tryd.ntmps51
        go_wp2_with fail
        refine (canonical_any _ _ HS.out).mono ?_
        rw [HC.out]
        rintro e w1 ⟨rfl, hb1⟩
        have S1 := S0.below hb1 (Nat.le_refl _)
        obtain ⟨ck, cn⟩ := id S1
        go_wp2_with fail
        refine (address_any _ _ HS.out).mono ?_
        rw [HA.out]
        rintro e w2 ⟨rfl, hb2⟩
        have S3 := S1.below hb2 (Nat.le_refl _)
        clear ck cn
        obtain ⟨ck, cn⟩ := id S3
        go_wp2_with fail
        refine (cut_any s 46 _ HS.out).mono ?_
        rw [HD.out]
        rintro e w3 ⟨rfl, n3, rfl⟩
        have S4 : S2 (w2.drewN n3) w.heap.size _ s := S3.below (below_drewN' _ _ _) (Nat.le_refl _)
        clear ck cn
        obtain ⟨ck, cn⟩ := id S4
        go_wp2_with fail
        go_ret
        refine ⟨?_, next (next (next B0 hb1) hb2) (below_drewN' _ _ _)⟩
        rw [HR.out]; rfl
    · have HR : Hid (ruleE (3, s.data.toList) = 1) := rule_bad _ hk (by unfold formB; simp only; rw [hc, ha]; rfl)
      have HC : Hid _ := hc
      have HA : Hid _ := ha
      clear hc hk ha
      go_enter Tryd.func51, Tryd.ntmps51
      go_wp2_with fail
      refine (canonical_any _ _ HS.out).mono ?_
      rw [HC.out]
      rintro e w1 ⟨rfl, hb1⟩
      have S1 := S0.below hb1 (Nat.le_refl _)
      obtain ⟨ck, cn⟩ := id S1
      go_wp2_with fail
      refine (address_any _ _ HS.out).mono ?_
      rw [HA.out]
      rintro e w2 ⟨rfl, hb2⟩
      have S3 := S1.below hb2 (Nat.le_refl _)
      clear ck cn
      obtain ⟨ck, cn⟩ := id S3
      go_wp2_with fail
      go_ret
      refine ⟨?_, next (next B0 hb1) hb2⟩
      rw [HR.out]; rfl
set_option maxHeartbeats 2000000 in
theorem checkRule_any (z : Int) (s : ByteArray) (w : World) (hs : s.size ≤ maxLen) :
    Calls Tryd.prog 51 #[.agg #[.int .i64 z, .string s]] w fun e w' => e = .returned (.int .i64 (ruleE (z, s.data.toList))) ∧ Below w.heap.size w w' := by
  cases hk : kindB z
  · obtain ⟨h1, h2, h3⟩ := kind_none z hk
    have HR : Hid (ruleE (z, s.data.toList) = 7) := rule_kind _ hk
    have B0 : Below w.heap.size w (w.alloc (.cells #[.int .i64 z, .string s] 63)) := (Below.refl _ _).alloc (Nat.le_refl _) _
    have h1b : (z != 1) = true := by rw [bne_iff_ne]; exact h1
    have h2b : (z != 2) = true := by rw [bne_iff_ne]; exact h2
    have h3b : (z != 3) = true := by rw [bne_iff_ne]; exact h3
    clear h1 h2 h3 hk
    go_enter Tryd.func51, Tryd.ntmps51
    go_wp2_with fail
    go_ret
    refine ⟨?_, B0⟩
    rw [HR.out]; rfl
  · rcases kind_three z hk with rfl | rfl | rfl
    · exact checkRule_one 1 (.inl rfl) s w hs
    · exact checkRule_one 2 (.inr rfl) s w hs
    · exact checkRule_three s w hs
end Go.Proofs.YtgjjkieljdamfafDoor
