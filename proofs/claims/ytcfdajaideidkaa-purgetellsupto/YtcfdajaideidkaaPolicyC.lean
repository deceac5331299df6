/- The contracts of Check of a policy. -/
import Derived.Test.YtcfdajaideidkaaPolicyB
namespace Go.Proofs.Ytcfdajaideidkaa
open Go.RowKit
set_option linter.all false
set_option maxRecDepth 100000
set_option maxRecDepth 100000

set_option maxHeartbeats 400000 in
theorem within_any (n a b : Int) (w : World) : Calls Try.prog 53 #[.int .i64 n, .int .i64 a, .int .i64 b] w fun e w' => e = .returned (.bool (decide (a ≤ n) && decide (n ≤ b))) ∧ w' = w := by
  by_cases h1 : a ≤ n
  · by_cases h2 : n ≤ b
    · have hr : (decide (a ≤ n) && decide (n ≤ b)) = true := by rw [decide_eq_true h1, decide_eq_true h2]; rfl
      rw [hr]
      clear hr
      go_enter Try.func53, Try.ntmps53
      go_wp2
      go_ret
      exact ⟨rfl, rfl⟩
    · have hr : (decide (a ≤ n) && decide (n ≤ b)) = false := by rw [decide_eq_false h2, Bool.and_false]
      rw [hr]
      clear hr
      go_enter Try.func53, Try.ntmps53
      go_wp2
      go_ret
      exact ⟨rfl, rfl⟩
  · have hr : (decide (a ≤ n) && decide (n ≤ b)) = false := by rw [decide_eq_false h1, Bool.false_and]
    rw [hr]
    clear hr
    go_enter Try.func53, Try.ntmps53
    go_wp2
    go_ret
    exact ⟨rfl, rfl⟩
set_option maxHeartbeats 400000 in
theorem canonical_any (t : List UInt8) (w : World) (ht : t.length ≤ maxLen) : Calls Try.prog 66 #[.string (txt t)] w fun e w' => e = .returned (.bool (canonB t)) ∧ Below w.heap.size w w' := by
  obtain ⟨z, hz⟩ : ∃ z, z = canonE t := ⟨_, rfl⟩
  obtain ⟨u, hu⟩ : ∃ u, u = canonL t := ⟨_, rfl⟩
  have KC : Hid (Calls Try.prog 77 #[.string (txt t)] w fun e w' => e = .returned (.tuple #[.string (txt u), .int .i64 z]) ∧ Below w.heap.size w w') := by rw [hz, hu]; exact canon_any (txt t) w ht
  have HR : Hid (canonB t = (decide (z = 0) && (u == t))) := by rw [hz, hu]; rfl
  clear hz hu ht
  go_enter Try.func66, Try.ntmps66
  go_wp2_with fail
  refine KC.out.mono ?_
  rintro e w1 ⟨rfl, hb1⟩
  have HB1 : Hid _ := hb1
  clear hb1
  by_cases h1 : z = 0
  · have q : (z == 0) = true := by rw [h1]; rfl
    by_cases h2 : u = t
    · have y := tx_t u t h2
      have hr : Hid (canonB t = true) := by show _ = _; rw [HR.out, decide_eq_true h1, h2]; simp
      clear h1 h2
      go_wp2_with fail
      go_ret
      exact ⟨by rw [hr.out]; rfl, HB1.out⟩
    · have y := tx_f u t h2
      have hr : Hid (canonB t = false) := by show _ = _; rw [HR.out, (beq_eq_false_iff_ne).2 h2, Bool.and_false]
      clear h1 h2
      go_wp2_with fail
      go_ret
      exact ⟨by rw [hr.out]; rfl, HB1.out⟩
  · have q : (z == 0) = false := by rw [beq_eq_false_iff_ne]; exact h1
    have hr : Hid (canonB t = false) := by show _ = _; rw [HR.out, decide_eq_false h1, Bool.false_and]
    clear h1
    go_wp2_with fail
    go_ret
    exact ⟨by rw [hr.out]; rfl, HB1.out⟩
theorem namer_any (r : Ru) (w : World) : Calls Try.prog 61 #[.agg #[.int .i64 r.kind, .string (txt r.text), .int .i64 r.purpose, .int .i64 r.vendor]] w fun e w' => (∃ v, e = .returned (.tuple #[v, .bool (decide (1 ≤ r.kind) && decide (r.kind ≤ 4))])) ∧ Below w.heap.size w w' := by
  have hb : Below w.heap.size w (w.alloc (.cells #[.int .i64 r.kind, .string (txt r.text), .int .i64 r.purpose, .int .i64 r.vendor] 83)) := (Below.refl _ w).alloc (Nat.le_refl _) _
  by_cases h1 : r.kind = 1
  · refine (namer1_any r w h1).mono ?_
    rintro e w' ⟨rfl, rfl⟩
    exact ⟨⟨_, by rw [h1]; rfl⟩, hb⟩
  by_cases h2 : r.kind = 2
  · refine (namer2_any r w h2).mono ?_
    rintro e w' ⟨rfl, rfl⟩
    exact ⟨⟨_, by rw [h2]; rfl⟩, hb⟩
  by_cases h3 : r.kind = 3
  · refine (namer3_any r w h3).mono ?_
    rintro e w' ⟨rfl, rfl⟩
    exact ⟨⟨_, by rw [h3]; rfl⟩, hb⟩
  by_cases h4 : r.kind = 4
  · refine (namer4_any r w h4).mono ?_
    rintro e w' ⟨rfl, rfl⟩
    exact ⟨⟨_, by rw [h4]; rfl⟩, hb⟩
  refine (namer0_any r w h1 h2 h3 h4).mono ?_
  rintro e w' ⟨rfl, rfl⟩
  refine ⟨⟨.nilIface, ?_⟩, hb⟩
  have e : (decide (1 ≤ r.kind) && decide (r.kind ≤ 4)) = false := by
    by_cases h : 1 ≤ r.kind
    · rw [decide_eq_false (p := r.kind ≤ 4) (by omega), Bool.and_false]
    · rw [decide_eq_false h, Bool.false_and]
  rw [e]
set_option maxHeartbeats 4000000 in
theorem checkRule_any (r : Ru) (w : World) (ho : RuOk 140737488351232 r) : Calls Try.prog 52 #[.agg #[.int .i64 r.kind, .string (txt r.text), .int .i64 r.purpose, .int .i64 r.vendor]] w fun e w' => e = .returned (.int .i64 (chRu r)) ∧ Below w.heap.size w w' := by
  obtain ⟨z, hz⟩ : ∃ z, z = chRu r := ⟨_, rfl⟩
  rw [← hz]
  have HZ : Hid _ := hz
  obtain ⟨o, hoo⟩ : ∃ o, o = (decide (1 ≤ r.kind) && decide (r.kind ≤ 4)) := ⟨_, rfl⟩
  have KN : Hid (∀ w', Calls Try.prog 61 #[.agg #[.int .i64 r.kind, .string (txt r.text), .int .i64 r.purpose, .int .i64 r.vendor]] w' fun e w'' => (∃ v, e = .returned (.tuple #[v, .bool o])) ∧ Below w'.heap.size w' w'') := fun w' => by rw [hoo]; exact namer_any r w'
  obtain ⟨cb, hcb⟩ : ∃ b, b = canonB r.text := ⟨_, rfl⟩
  have KC : Hid (∀ w', Calls Try.prog 66 #[.string (txt r.text)] w' fun e w'' => e = .returned (.bool cb) ∧ Below w'.heap.size w' w'') := fun w' => by rw [hcb]; exact canonical_any r.text w' (by have := ho.text; unfold maxLen; omega)
  have HCB : Hid _ := hcb
  have HL : Hid (LRow (w.alloc (.cells #[.int .i64 r.kind, .string (txt r.text), .int .i64 r.purpose, .int .i64 r.vendor] 83)) w.heap.size (ruC r)) := LRow.new w (ruC r) 83
  have HB : Hid (Below w.heap.size w (w.alloc (.cells #[.int .i64 r.kind, .string (txt r.text), .int .i64 r.purpose, .int .i64 r.vendor] 83))) := (Below.refl _ w).alloc (Nat.le_refl _) _
  have HO : Hid (o = true → ¬ (r.kind < 1 ∨ 4 < r.kind)) := fun h => by
    rw [hoo, Bool.and_eq_true, decide_eq_true_eq, decide_eq_true_eq] at h
    omega
  have HO0 : Hid (o = false → r.kind < 1 ∨ 4 < r.kind) := fun h => by
    by_cases h1 : 1 ≤ r.kind
    · rw [hoo, decide_eq_true h1, Bool.true_and, decide_eq_false_iff_not] at h
      omega
    · omega
  have HTS : Hid (r.text.length ≤ 140737488351232) := ho.text
  clear hz hoo hcb ho
  go_enter Try.func52, Try.ntmps52
  go_wp2_with fail
  refine (KN.out _).mono ?_
  rintro e w1 ⟨⟨v, rfl⟩, hb1⟩
  have R1 : Hid (LRow w1 w.heap.size (ruC r)) := HL.out.below hb1 (by simp)
  have B1 : Hid (Below w.heap.size w w1) := next HB.out hb1
  clear hb1 KN HL HB
  cases o
  · have HZ7 : Hid (z = 7) := by show _ = _; rw [HZ.out]; unfold chRu; rw [if_pos (HO0.out rfl)]
    go_wp2_with fail
    go_ret
    exact ⟨by rw [HZ7.out]; rfl, B1.out⟩
  have HZ1 : Hid (z = if r.text = [] ∨ 400 < r.text.length ∨ (r.kind = 4 ∧ canonB r.text = false) then 1
  else if (r.purpose < 0 ∨ 10 < r.purpose) ∨ (r.vendor < 0 ∨ 40 < r.vendor) then 3 else 0) := by show _ = _; rw [HZ.out]; unfold chRu; rw [if_neg (HO.out rfl)]
  clear HO HO0 HZ
  have a0 := R1.out.cell 0 rfl
  have a1 := R1.out.cell 1 rfl
  have a2 := R1.out.cell 2 rfl
  have a3 := R1.out.cell 3 rfl
  have hsz : (txt r.text).size = r.text.length := txt_size _
  by_cases h1 : r.text = []
  · have q1 : ((txt r.text).toList == []) = true := by rw [h1, beq_iff_eq, Lib.toList_data]; rfl
    have HZX : Hid (z = 1) := by show _ = _; rw [HZ1.out, if_pos (.inl h1)]
    have h0 : (txt r.text).toList = [] := by rw [h1, Lib.toList_data]; rfl
    clear h1
    go_wp2_with fail
    go_ret
    exact ⟨by rw [HZX.out]; rfl, B1.out⟩
  have q1 : ((txt r.text).toList == []) = false := by
    rw [beq_eq_false_iff_ne, Lib.toList_data]; exact h1
  by_cases h2 : 400 < r.text.length
  · have HZX : Hid (z = 1) := by show _ = _; rw [HZ1.out, if_pos (.inr (.inl h2))]
    clear h1
    go_wp2_with fail
    go_ret
    exact ⟨by rw [HZX.out]; rfl, B1.out⟩
  have rest : ∀ w2 : World, LRow w2 w.heap.size (ruC r) → Below w.heap.size w w2 → Hid (z = if (r.purpose < 0 ∨ 10 < r.purpose) ∨ (r.vendor < 0 ∨ 40 < r.vendor) then 3 else 0) → True := fun _ _ _ _ => trivial
  clear rest
  by_cases h3 : r.kind = 4
  · have q3 : (r.kind == 4) = true := by rw [h3]; rfl
    have H3 : Hid _ := h3
    have H1 : Hid _ := h1
    have H2 : Hid _ := h2
    clear h3 h1
    go_wp2_with fail
    refine (KC.out _).mono ?_
    rintro e w2 ⟨rfl, hb2⟩
    have R2 : Hid (LRow w2 w.heap.size (ruC r)) := R1.out.below hb2 (cell_in a0)
    have B2 : Hid (Below w.heap.size w w2) := next B1.out hb2
    clear hb2 a0 a1 a2 a3
    cases cb
    · have HZX : Hid (z = 1) := by show _ = _; rw [HZ1.out, if_pos (.inr (.inr ⟨H3.out, HCB.out.symm⟩))]
      go_wp2_with fail
      go_ret
      exact ⟨by rw [HZX.out]; rfl, B2.out⟩
    have HZ2 : Hid (z = if (r.purpose < 0 ∨ 10 < r.purpose) ∨ (r.vendor < 0 ∨ 40 < r.vendor) then 3 else 0) := by
      show _ = _
      rw [HZ1.out, if_neg]
      rintro (h | h | ⟨_, h⟩)
      · exact H1.out h
      · exact H2.out h
      · rw [← HCB.out] at h; cases h
    have a2 := R2.out.cell 2 rfl
    have a3 := R2.out.cell 3 rfl
    go_wp2_with fail
    refine (within_any _ _ _ _).mono ?_
    rintro e w3 ⟨rfl, hw3⟩
    subst hw3
    by_cases g1 : 0 ≤ r.purpose ∧ r.purpose ≤ 10
    · have e1 : (decide (0 ≤ r.purpose) && decide (r.purpose ≤ 10)) = true := by rw [decide_eq_true g1.1, decide_eq_true g1.2]; rfl
      rw [e1]
      go_wp2_with fail
      refine (within_any _ _ _ _).mono ?_
      rintro e w4 ⟨rfl, hw4⟩
      subst hw4
      by_cases g2 : 0 ≤ r.vendor ∧ r.vendor ≤ 40
      · have e2 : (decide (0 ≤ r.vendor) && decide (r.vendor ≤ 40)) = true := by rw [decide_eq_true g2.1, decide_eq_true g2.2]; rfl
        rw [e2]
        have HZX : Hid (z = 0) := by show _ = _; rw [HZ2.out, if_neg (by omega)]
        go_wp2_with fail
        go_ret
        exact ⟨by rw [HZX.out]; rfl, B2.out⟩
      · have e2 : (decide (0 ≤ r.vendor) && decide (r.vendor ≤ 40)) = false := by
          cases h : (decide (0 ≤ r.vendor) && decide (r.vendor ≤ 40))
          · rfl
          · rw [Bool.and_eq_true, decide_eq_true_eq, decide_eq_true_eq] at h; exact absurd h g2
        rw [e2]
        have HZX : Hid (z = 3) := by show _ = _; rw [HZ2.out, if_pos (by omega)]
        clear g2
        go_wp2_with fail
        go_ret
        exact ⟨by rw [HZX.out]; rfl, B2.out⟩
    · have e1 : (decide (0 ≤ r.purpose) && decide (r.purpose ≤ 10)) = false := by
        cases h : (decide (0 ≤ r.purpose) && decide (r.purpose ≤ 10))
        · rfl
        · rw [Bool.and_eq_true, decide_eq_true_eq, decide_eq_true_eq] at h; exact absurd h g1
      rw [e1]
      have HZX : Hid (z = 3) := by show _ = _; rw [HZ2.out, if_pos (by omega)]
      clear g1
      go_wp2_with fail
      go_ret
      exact ⟨by rw [HZX.out]; rfl, B2.out⟩
  · have q3 : (r.kind == 4) = false := by rw [beq_eq_false_iff_ne]; exact h3
    have HZ2 : Hid (z = if (r.purpose < 0 ∨ 10 < r.purpose) ∨ (r.vendor < 0 ∨ 40 < r.vendor) then 3 else 0) := by
      show _ = _
      rw [HZ1.out, if_neg]
      rintro (h | h | ⟨h, _⟩)
      · exact h1 h
      · exact h2 h
      · exact h3 h
    have B2 : Hid _ := B1
    clear h1 h3
    go_wp2_with fail
    refine (within_any _ _ _ _).mono ?_
    rintro e w3 ⟨rfl, hw3⟩
    subst hw3
    by_cases g1 : 0 ≤ r.purpose ∧ r.purpose ≤ 10
    · have e1 : (decide (0 ≤ r.purpose) && decide (r.purpose ≤ 10)) = true := by rw [decide_eq_true g1.1, decide_eq_true g1.2]; rfl
      rw [e1]
      go_wp2_with fail
      refine (within_any _ _ _ _).mono ?_
      rintro e w4 ⟨rfl, hw4⟩
      subst hw4
      by_cases g2 : 0 ≤ r.vendor ∧ r.vendor ≤ 40
      · have e2 : (decide (0 ≤ r.vendor) && decide (r.vendor ≤ 40)) = true := by rw [decide_eq_true g2.1, decide_eq_true g2.2]; rfl
        rw [e2]
        have HZX : Hid (z = 0) := by show _ = _; rw [HZ2.out, if_neg (by omega)]
        go_wp2_with fail
        go_ret
        exact ⟨by rw [HZX.out]; rfl, B2.out⟩
      · have e2 : (decide (0 ≤ r.vendor) && decide (r.vendor ≤ 40)) = false := by
          cases h : (decide (0 ≤ r.vendor) && decide (r.vendor ≤ 40))
          · rfl
          · rw [Bool.and_eq_true, decide_eq_true_eq, decide_eq_true_eq] at h; exact absurd h g2
        rw [e2]
        have HZX : Hid (z = 3) := by show _ = _; rw [HZ2.out, if_pos (by omega)]
        clear g2
        go_wp2_with fail
        go_ret
        exact ⟨by rw [HZX.out]; rfl, B2.out⟩
    · have e1 : (decide (0 ≤ r.purpose) && decide (r.purpose ≤ 10)) = false := by
        cases h : (decide (0 ≤ r.purpose) && decide (r.purpose ≤ 10))
        · rfl
        · rw [Bool.and_eq_true, decide_eq_true_eq, decide_eq_true_eq] at h; exact absurd h g1
      rw [e1]
      have HZX : Hid (z = 3) := by show _ = _; rw [HZ2.out, if_pos (by omega)]
      clear g1
      go_wp2_with fail
      go_ret
      exact ⟨by rw [HZX.out]; rfl, B2.out⟩
theorem eleven (k : Nat) (h : k < 11) : k = 0 ∨ k = 1 ∨ k = 2 ∨ k = 3 ∨ k = 4 ∨ k = 5 ∨ k = 6 ∨ k = 7 ∨ k = 8 ∨ k = 9 ∨ k = 10 := by omega
theorem idx_caps (a0 a1 a2 a3 a4 a5 a6 a7 a8 a9 a10 : Int) (k : Nat) (hk : k < 11) (W : World) : (Instr.index 26 (.agg #[.int .i64 a0, .int .i64 a1, .int .i64 a2, .int .i64 a3, .int .i64 a4, .int .i64 a5, .int .i64 a6, .int .i64 a7, .int .i64 a8, .int .i64 a9, .int .i64 a10]) (.int .i64 (k : Int))).run Try.prog W = .ok (.int .i64 ([a0, a1, a2, a3, a4, a5, a6, a7, a8, a9, a10][k]?.getD 0)) W := by
  rcases eleven k hk with rfl | rfl | rfl | rfl | rfl | rfl | rfl | rfl | rfl | rfl | rfl <;> kernel_rfl
set_option maxHeartbeats 8000000 in
theorem polCheck_any (p : Po) (v : Value) (w : World) (hr : Rows w v ruC p.rules) (hm : p.rules.length ≤ 140737488351232) (ho : ∀ r ∈ p.rules, RuOk 140737488351232 r) :
    Calls Try.prog 22 #[.agg #[v, .int .i64 p.dflt, .int .i64 p.c0, .int .i64 p.c1, .int .i64 p.c2, .int .i64 p.c3, .int .i64 p.c4, .int .i64 p.c5, .int .i64 p.c6, .int .i64 p.c7, .int .i64 p.c8, .int .i64 p.c9, .int .i64 p.c10]] w fun e w' => e = .returned (.int .i64 (chP p)) ∧ Below w.heap.size w w' := by
  obtain ⟨ad, cap, rfl⟩ := hr.shape
  obtain ⟨z, hz⟩ : ∃ z, z = chP p := ⟨_, rfl⟩
  rw [← hz]
  have HZ : Hid _ := hz
  obtain ⟨l, hl⟩ : ∃ l, l = p.rules := ⟨_, rfl⟩
  have HL : Hid _ := hl
  rw [← hl] at hr hm ho ⊢
  obtain ⟨n, hn⟩ : ∃ n, n = l.length := ⟨_, rfl⟩
  have HN : Hid _ := hn
  rw [← hn] at hm ⊢
  have HR : Hid (Rows w (.slice ad n cap) ruC l) := by rw [HN.out]; exact hr
  have HO : Hid _ := ho
  obtain ⟨W0, hW0⟩ : ∃ W0, W0 = w.alloc (.cells #[.slice ad n cap, .int .i64 p.dflt, .int .i64 p.c0, .int .i64 p.c1, .int .i64 p.c2, .int .i64 p.c3, .int .i64 p.c4, .int .i64 p.c5, .int .i64 p.c6, .int .i64 p.c7, .int .i64 p.c8, .int .i64 p.c9, .int .i64 p.c10] 28) := ⟨_, rfl⟩
  have HB0 : Hid (Below w.heap.size w W0) := by rw [hW0]; exact (Below.refl _ w).alloc (Nat.le_refl _) _
  have HLP : Hid (LRow W0 w.heap.size (poL p (.slice ad n cap))) := by
    rw [hW0]
    exact LRow.new w (poL p (.slice ad n cap)) 28
  have HLT : Hid (w.heap.size < W0.heap.size) := by show _ < _; rw [hW0]; simp
  have HW0 : Hid _ := hW0
  clear hz hl hn hr ho hW0
  go_enter Try.func22, Try.ntmps22
  go_upto_region 1 with fail
  rw [← HW0.out]
  clear HW0
  have p0 := HLP.out.cell 0 rfl
  by_cases h12 : 12 < n
  · have HZ2 : Hid (z = 2) := by show _ = _; rw [HZ.out]; unfold chP; rw [if_pos (by rw [← HL.out, ← HN.out]; exact h12)]
    go_wp2_with fail
    go_ret
    exact ⟨by rw [HZ2.out]; rfl, HB0.out⟩
  have HZ1 : Hid (z = if chRs l = 0 then (if p.dflt < 0 ∨ 10 < p.dflt then 3 else if p.caps.all capB then 0 else 3) else chRs l) := by show _ = _; rw [HZ.out]; unfold chP; rw [if_neg (by rw [← HL.out, ← HN.out]; exact h12), ← HL.out]
  go_wp2_with fail
  clear p0
  go_loopw [15] (fun i wr => ∃ k : Nat, k ≤ n ∧ i = .int .i64 k ∧ Hid (∀ (j : Nat) x, j < k → l[j]? = some x → chRu x = 0) ∧ Hid (Below W0.heap.size W0 wr)) (fun i _ => n - (intOf i).toNat)
  case atStart => exact ⟨0, Nat.zero_le _, rfl, fun _ _ h _ => absurd h (by omega), Below.refl _ _⟩
  case round =>
    obtain ⟨k, hk, rfl, hall, hb⟩ := hrel
    by_cases hlt : k < n
    · obtain ⟨r, e1⟩ : ∃ r, l[k]? = some r := ⟨_, List.getElem?_eq_getElem (by rw [← HN.out]; exact hlt)⟩
      obtain ⟨bl, ol, rfl, hbl, hcell⟩ := Rows.at HR.out rfl 3 (fun _ => rfl) k r e1
      have cc : ∀ i u, (ruC r)[i]? = some u → wr.cell? ⟨bl, ol + k * 4 + i, none⟩ = some u := fun i u h => by
        have h1 := (HB0.out.cell (p := ⟨bl, ol + k * 4 + i, none⟩) hbl).trans (hcell i u h)
        exact (hb.out.cell (p := ⟨bl, ol + k * 4 + i, none⟩) (cell_in h1)).trans h1
      have c0 := cc 0 _ rfl
      have c1 := cc 1 _ rfl
      have c2 := cc 2 _ rfl
      have c3 := cc 3 _ rfl
      rw [Nat.add_zero] at c0
      obtain ⟨y, hy⟩ : ∃ y, y = chRu r := ⟨_, rfl⟩
      have KR : Hid (∀ w', Calls Try.prog 52 #[.agg #[.int .i64 r.kind, .string (txt r.text), .int .i64 r.purpose, .int .i64 r.vendor]] w' fun e w'' => e = .returned (.int .i64 y) ∧ Below w'.heap.size w' w'') := fun w' => by rw [hy]; exact checkRule_any r w' (HO.out r (List.mem_of_getElem? e1))
      have HY : Hid _ := hy
      have HE : Hid _ := e1
      have BB : Hid (Below W0.heap.size W0 (wr.alloc (.cells #[.int .i64 r.kind, .string (txt r.text), .int .i64 r.purpose, .int .i64 r.vendor] 83))) := hb.out.alloc hb.out.size _
      clear e1 hcell hbl cc hy
      go_wp2_with fail
      refine (KR.out _).mono ?_
      rintro e w1 ⟨rfl, hb1⟩
      have HB1 : Hid (Below W0.heap.size W0 w1) := next BB.out hb1
      clear hb1 KR BB c0 c1 c2 c3
      by_cases hy0 : y = 0
      · have q : (y != 0) = false := by rw [hy0]; rfl
        have HA : Hid (∀ (j : Nat) x, j < k + 1 → l[j]? = some x → chRu x = 0) := fun j x hj hx => by
          by_cases e : j = k
          · rw [e, HE.out] at hx
            injection hx with hx
            rw [← hx, ← HY.out]; exact hy0
          · exact hall.out j x (by omega) hx
        clear hy0
        go_wp2_with fail
        go_roundw
        case rel => exact ⟨k + 1, by omega, by go_num, HA, HB1⟩
        case measure => simp [intOf]; omega
      · have q : (y != 0) = true := by rw [bne_iff_ne]; exact hy0
        have HZY : Hid (z = y) := by
          show _ = _
          have h := chRs_at l k r HE.out (fun j x hj hx => hall.out j x hj hx)
          rw [← HY.out, if_neg hy0] at h
          rw [HZ1.out, h, if_neg hy0]
        clear hy0
        go_wp2_with fail
        go_ret
        exact ⟨by rw [HZY.out]; rfl, next HB0.out HB1.out⟩
    · have HZ3 : Hid (z = if p.dflt < 0 ∨ 10 < p.dflt then 3 else if p.caps.all capB then 0 else 3) := by
        show _ = _
        rw [HZ1.out, if_pos (chRs_all l fun j x hx => hall.out j x (by have := (List.getElem?_eq_some_iff.1 hx).1; rw [← HN.out] at this; omega) hx)]
      have HBr : Hid (Below w.heap.size w wr) := next HB0.out hb.out
      have HLr : Hid (LRow wr w.heap.size (poL p (.slice ad n cap))) := HLP.out.below hb.out HLT.out
      have p1 := HLr.out.cell 1 rfl
      have p2 := HLr.out.cell 2 rfl
      have p3 := HLr.out.cell 3 rfl
      have p4 := HLr.out.cell 4 rfl
      have p5 := HLr.out.cell 5 rfl
      have p6 := HLr.out.cell 6 rfl
      have p7 := HLr.out.cell 7 rfl
      have p8 := HLr.out.cell 8 rfl
      have p9 := HLr.out.cell 9 rfl
      have p10 := HLr.out.cell 10 rfl
      have p11 := HLr.out.cell 11 rfl
      have p12 := HLr.out.cell 12 rfl
      clear hall hb hk
      go_wp2_with fail
      refine (within_any _ _ _ _).mono ?_
      rintro e w3 ⟨rfl, hw3⟩
      subst hw3
      by_cases g1 : 0 ≤ p.dflt ∧ p.dflt ≤ 10
      rotate_left
      · have e1 : (decide (0 ≤ p.dflt) && decide (p.dflt ≤ 10)) = false := by
          cases h : (decide (0 ≤ p.dflt) && decide (p.dflt ≤ 10))
          · rfl
          · rw [Bool.and_eq_true, decide_eq_true_eq, decide_eq_true_eq] at h; exact absurd h g1
        rw [e1]
        have HZX : Hid (z = 3) := by show _ = _; rw [HZ3.out, if_pos (by omega)]
        clear g1
        go_wp2_with fail
        go_ret
        exact ⟨by rw [HZX.out]; rfl, HBr.out⟩
      have e1 : (decide (0 ≤ p.dflt) && decide (p.dflt ≤ 10)) = true := by rw [decide_eq_true g1.1, decide_eq_true g1.2]; rfl
      rw [e1]
      have HZ4 : Hid (z = if p.caps.all capB then 0 else 3) := by show _ = _; rw [HZ3.out, if_neg (by omega)]
      clear g1
      go_wp2_with fail
      clear p1 p2 p3 p4 p5 p6 p7 p8 p9 p10 p11 p12
      go_loopw [31] (fun i wr => ∃ k : Nat, k ≤ 11 ∧ i = .int .i64 k ∧ Hid (∀ (j : Nat), j < k → capB (p.caps[j]?.getD 0) = true) ∧ wr = w3) (fun i _ => 11 - (intOf i).toNat)
      case atStart => exact ⟨0, Nat.zero_le _, rfl, fun _ h => absurd h (by omega), rfl⟩
      case round =>
        obtain ⟨k, hk, rfl, hall, rfl⟩ := hrel
        by_cases hlt : k < 11
        · obtain ⟨y, hy⟩ : ∃ y, y = p.caps[k]?.getD 0 := ⟨_, rfl⟩
          have hid := idx_caps p.c0 p.c1 p.c2 p.c3 p.c4 p.c5 p.c6 p.c7 p.c8 p.c9 p.c10 k hlt
          rw [show ([p.c0, p.c1, p.c2, p.c3, p.c4, p.c5, p.c6, p.c7, p.c8, p.c9, p.c10] : List Int)[k]?.getD 0 = y from hy.symm] at hid
          have HY : Hid _ := hy
          clear hy
          go_wp2_with fail
          refine (within_any _ _ _ _).mono ?_
          rintro e w4 ⟨rfl, hw4⟩
          subst hw4
          cases e2 : (decide (1 ≤ y) && decide (y ≤ 1000000000))
          · have HZX : Hid (z = 3) := by
              show _ = _
              rw [HZ4.out, if_neg]
              intro h
              have hk2 : k < p.caps.length := hlt
              have := List.all_eq_true.1 h y (by rw [HY.out, List.getElem?_eq_getElem hk2]; exact List.getElem_mem hk2)
              unfold capB at this
              rw [e2] at this; cases this
            clear e2
            go_wp2_with fail
            go_ret
            exact ⟨by rw [HZX.out]; rfl, HBr.out⟩
          · have HA : Hid (∀ (j : Nat), j < k + 1 → capB (p.caps[j]?.getD 0) = true) := fun j hj => by
              by_cases e : j = k
              · rw [e, ← HY.out]; exact e2
              · exact hall.out j (by omega)
            clear e2
            go_wp2_with fail
            go_roundw
            case rel => exact ⟨k + 1, by omega, by go_num, HA, by first | trivial | rfl⟩
            case measure => simp [intOf]; omega
        · have HZX : Hid (z = 0) := by
            show _ = _
            rw [HZ4.out, if_pos]
            rw [List.all_eq_true]
            intro x hx
            obtain ⟨j, hj⟩ := List.getElem?_of_mem hx
            have hj2 : j < 11 := (List.getElem?_eq_some_iff.1 hj).1
            have := hall.out j (by omega)
            rw [hj] at this; exact this
          go_wp2_with fail
          go_ret
          exact ⟨by rw [HZX.out]; rfl, HBr.out⟩
end Go.Proofs.Ytcfdajaideidkaa
