/- The contracts of what is granted, and of who is below. -/
import Derived.Test.YtcfdajaideidkaaGrantB
import Derived.Deep.Cut
namespace Go.Proofs.Ytcfdajaideidkaa
open Go.RowKit Go.Maps
set_option linter.all false
set_option maxRecDepth 100000
set_option maxRecDepth 100000

theorem intF_cells {W : World} {ad : Option Addr} {cap : Nat} {l : List Int} (h : Rows W (.slice ad l.length cap) intF l) (hne : l ≠ []) : ∃ b off, ad = some ⟨b, off, none⟩ ∧ ∀ j, j < l.length → W.cell? ⟨b, off + j, none⟩ = some (.int .i64 (l.getD j 0)) := by
  obtain ⟨x, hx⟩ : ∃ x, l[0]? = some x := ⟨_, List.getElem?_eq_getElem (List.length_pos_iff.2 hne)⟩
  obtain ⟨b, o, rfl, hbl, hc⟩ := Rows.at h rfl 0 (fun _ => rfl) 0 x hx
  refine ⟨b, o, rfl, fun j hj => ?_⟩
  obtain ⟨b', o', e, _, hc'⟩ := Rows.at h rfl 0 (fun _ => rfl) j _ (List.getElem?_eq_getElem hj)
  injection e with e
  injection e with e1 e2
  have := hc' 0 _ rfl
  rw [← e1, ← e2, show o + j * (0 + 1) + 0 = o + j by omega] at this
  rw [this, List.getD, List.getElem?_eq_getElem hj]; rfl
theorem contains_any (v : Value) (l : List Int) (x : Int) (w : World) (h : Rows w v intF l) (hm : l.length ≤ maxLen) :
    Calls Try.prog 63 #[v, .int .i64 x] w fun e w' => e = .returned (.bool (l.contains x)) ∧ w' = w := by
  obtain ⟨ad, cap, rfl⟩ := h.shape
  by_cases hne : l = []
  · subst hne
    exact (Try.slices_Contains_int_empty ad cap x w).mono fun e w' h => by simpa using h
  · obtain ⟨b, off, rfl, hc⟩ := intF_cells h hne
    have := Try.slices_Contains_int b off l.length cap l x w (Nat.le_refl _) (by unfold maxLen at hm; omega) hc
    refine this.mono fun e w' h => ?_
    simpa using h
set_option maxHeartbeats 2000000 in
theorem purpose_any (c : Cn) (v : Value) (p : Int) (w : World) (hp : -9223372036854775808 ≤ p ∧ p ≤ 9223372036854775807) :
    Calls Try.prog 62 #[.agg #[.int .i64 c.g, .bool c.b0, .bool c.b1, .bool c.b2, .bool c.b3, .bool c.b4, .bool c.b5, .bool c.b6, .bool c.b7, .bool c.b8, .bool c.b9, v], .int .i64 p] w fun e w' => e = .returned (.bool (purC c p)) ∧ Below w.heap.size w w' := by
  have HBW : Hid (Below w.heap.size w (w.alloc (.cells #[.int .i64 c.g, .bool c.b0, .bool c.b1, .bool c.b2, .bool c.b3, .bool c.b4, .bool c.b5, .bool c.b6, .bool c.b7, .bool c.b8, .bool c.b9, v] 32))) := (Below.refl _ w).alloc (Nat.le_refl _) _
  obtain ⟨z, hz⟩ : ∃ z, z = purC c p := ⟨_, rfl⟩
  rw [← hz]
  have HZ : Hid _ := hz
  clear hz
  by_cases h1 : 1 ≤ p
  · by_cases h2 : p ≤ 10
    · obtain ⟨k, hk⟩ : ∃ k : Nat, p = (k : Int) + 1 := ⟨(p - 1).toNat, by omega⟩
      have hk10 : k < 10 := by omega
      obtain ⟨x, hx⟩ : ∃ x, x = c.ps[k]?.getD false := ⟨_, rfl⟩
      have HZ2 : Hid (z = x) := by
        show _ = _
        rw [HZ.out]; unfold purC
        rw [decide_eq_true h1, decide_eq_true h2, show (p - 1).toNat = k by omega, hx]; rfl
      have hc : ∀ b : Nat, b = w.heap.size → (w.alloc (.cells #[.int .i64 c.g, .bool c.b0, .bool c.b1, .bool c.b2, .bool c.b3, .bool c.b4, .bool c.b5, .bool c.b6, .bool c.b7, .bool c.b8, .bool c.b9, v] 32)).cell? ⟨b, 1 + k, none⟩ = some (.bool x) := fun b hb => by
        rw [hb, hx]
        exact (LRow.new w (cnL c v) 32).cell (1 + k) (ps_get c v k hk10)
      have c0 := hc _ rfl
      have e1 : IntKind.i64.wrap ((k : Int) + 1 - 1) = (k : Int) := by
        rw [show (k : Int) + 1 - 1 = (k : Int) by omega]; exact IntWalk.i64_in _ (by omega)
      have e2 : ((k : Int) + 1 - 1) = (k : Int) := by omega
      have e3 : (1 : Int) ≤ (k : Int) + 1 := by omega
      have e4 : (k : Int) + 1 ≤ 10 := by omega
      subst hk
      clear hx hc h1 h2 hp
      go_enter Try.func62, Try.ntmps62
      go_wp2_with fail
      go_ret
      exact ⟨by rw [HZ2.out]; rfl, HBW.out⟩
    · have HZ2 : Hid (z = false) := by show _ = _; rw [HZ.out]; unfold purC; rw [decide_eq_false h2]; simp
      go_enter Try.func62, Try.ntmps62
      go_wp2_with fail
      go_ret
      exact ⟨by rw [HZ2.out]; rfl, HBW.out⟩
  · have HZ2 : Hid (z = false) := by show _ = _; rw [HZ.out]; unfold purC; rw [decide_eq_false h1]; simp
    go_enter Try.func62, Try.ntmps62
    go_wp2_with fail
    go_ret
    exact ⟨by rw [HZ2.out]; rfl, HBW.out⟩
set_option maxHeartbeats 4000000 in
theorem may_any (c : Cn) (v : Value) (p n : Int) (w : World) (hr : Rows w v intF c.vs) (hm : c.vs.length ≤ maxLen) (hp : -9223372036854775808 ≤ p ∧ p ≤ 9223372036854775807) (hn : -9223372036854775808 ≤ n ∧ n ≤ 9223372036854775807) :
    Calls Try.prog 41 #[.agg #[.int .i64 c.g, .bool c.b0, .bool c.b1, .bool c.b2, .bool c.b3, .bool c.b4, .bool c.b5, .bool c.b6, .bool c.b7, .bool c.b8, .bool c.b9, v], .int .i64 p, .int .i64 n] w fun e w' => e = .returned (.bool (mayC c p n)) ∧ Below w.heap.size w w' := by
  obtain ⟨W0, hW0⟩ : ∃ W0, W0 = w.alloc (.cells #[.int .i64 c.g, .bool c.b0, .bool c.b1, .bool c.b2, .bool c.b3, .bool c.b4, .bool c.b5, .bool c.b6, .bool c.b7, .bool c.b8, .bool c.b9, v] 32) := ⟨_, rfl⟩
  have HB0 : Hid (Below w.heap.size w W0) := by rw [hW0]; exact (Below.refl _ w).alloc (Nat.le_refl _) _
  have HL0 : Hid (LRow W0 w.heap.size (cnL c v)) := by rw [hW0]; exact LRow.new w (cnL c v) 32
  obtain ⟨x, hx⟩ : ∃ x, x = purC c p := ⟨_, rfl⟩
  obtain ⟨y, hy⟩ : ∃ y, y = c.vs.contains n := ⟨_, rfl⟩
  have KP : Hid (∀ w', Calls Try.prog 62 #[.agg #[.int .i64 c.g, .bool c.b0, .bool c.b1, .bool c.b2, .bool c.b3, .bool c.b4, .bool c.b5, .bool c.b6, .bool c.b7, .bool c.b8, .bool c.b9, v], .int .i64 p] w' fun e w'' => e = .returned (.bool x) ∧ Below w'.heap.size w' w'') := fun w' => by rw [hx]; exact purpose_any c v p w' hp
  have KC : Hid (∀ w', Below w.heap.size w w' → Calls Try.prog 63 #[v, .int .i64 n] w' fun e w'' => e = .returned (.bool y) ∧ w'' = w') := fun w' hw' => by rw [hy]; exact contains_any v c.vs n w' (Rows.below hr hw' (Nat.le_refl _)) hm
  obtain ⟨z, hz⟩ : ∃ z, z = mayC c p n := ⟨_, rfl⟩
  have HZ : Hid (z = ((decide (p = 0) || x) && (decide (n = 0) || y))) := by show _ = _; rw [hz, hx, hy]; rfl
  rw [← hz]
  obtain ⟨g, b0, b1, b2, b3, b4, b5, b6, b7, b8, b9, vs⟩ := c
  simp only at hr hm KP KC HL0 hW0 ⊢
  have HW0 : Hid _ := hW0
  have HPP : Hid _ := hp
  clear hx hy hz hr hm hp hn hW0
  go_enter Try.func41, Try.ntmps41
  by_cases hp0 : p = 0
  · have q1 : (p == 0) = true := by rw [hp0]; rfl
    by_cases hn0 : n = 0
    · have q2 : (n == 0) = true := by rw [hn0]; rfl
      have HZ2 : Hid (z = true) := by show _ = _; rw [HZ.out, decide_eq_true hp0, decide_eq_true hn0]; rfl
      clear hp0 hn0
      go_wp2_with fail
      go_ret
      refine ⟨by rw [HZ2.out]; rfl, ?_⟩
      have := HB0.out
      rw [HW0.out] at this; exact this
    · have q2 : (n == 0) = false := by rw [beq_eq_false_iff_ne]; exact hn0
      have HZ2 : Hid (z = y) := by show _ = _; rw [HZ.out, decide_eq_true hp0, decide_eq_false hn0]; simp
      clear hp0 hn0
      go_wp2_with (go_at_call 63; refine (KC.out _ (by have := HB0.out; rw [HW0.out] at this; exact this)).mono ?_; rintro e w' ⟨rfl, rfl⟩)
      go_ret
      refine ⟨by rw [HZ2.out]; rfl, ?_⟩
      have := HB0.out
      rw [HW0.out] at this; exact this
  · have q1 : (p == 0) = false := by rw [beq_eq_false_iff_ne]; exact hp0
    cases x
    · have HZ2 : Hid (z = false) := by show _ = _; rw [HZ.out, decide_eq_false hp0]; rfl
      clear hp0
      go_wp2_with (go_at_call 62; refine (KP.out _).mono ?_; rintro e w1 ⟨rfl, hb1⟩)
      go_ret
      refine ⟨by rw [HZ2.out]; rfl, ?_⟩
      have := HB0.out
      rw [HW0.out] at this; exact this.trans (hb1.mono this.size)
    · by_cases hn0 : n = 0
      · have q2 : (n == 0) = true := by rw [hn0]; rfl
        have HZ2 : Hid (z = true) := by show _ = _; rw [HZ.out, decide_eq_true hn0]; simp
        clear hp0 hn0
        go_wp2_with (go_at_call 62; refine (KP.out _).mono ?_; rintro e w1 ⟨rfl, hb1⟩)
        go_ret
        refine ⟨by rw [HZ2.out]; rfl, ?_⟩
        have := HB0.out
        rw [HW0.out] at this; exact this.trans (hb1.mono this.size)
      · have q2 : (n == 0) = false := by rw [beq_eq_false_iff_ne]; exact hn0
        have HZ2 : Hid (z = y) := by show _ = _; rw [HZ.out, decide_eq_false hn0]; simp
        clear hp0 hn0
        go_wp2_with fail
        refine (KP.out _).mono ?_
        rintro e w1 ⟨rfl, hb1⟩
        have HB1 : Hid (Below w.heap.size w w1) := by
          have h := HB0.out
          rw [HW0.out] at h
          exact h.trans (hb1.mono h.size)
        have c11 : w1.cell? ⟨w.heap.size, 11, none⟩ = some v := by
          have h := HL0.out
          rw [HW0.out] at h
          exact (h.below hb1 (by simp)).cell 11 rfl
        clear hb1
        go_wp2_with fail
        refine (KC.out _ HB1.out).mono ?_
        rintro e w2 ⟨rfl, rfl⟩
        go_wp2_with fail
        go_ret
        exact ⟨by rw [HZ2.out]; rfl, HB1.out⟩
theorem idx_bools (b0 b1 b2 b3 b4 b5 b6 b7 b8 b9 : Bool) (k : Nat) (hk : k < 10) (W : World) : (Instr.index 29 (.agg #[.bool b0, .bool b1, .bool b2, .bool b3, .bool b4, .bool b5, .bool b6, .bool b7, .bool b8, .bool b9]) (.int .i64 (k : Int))).run Try.prog W = .ok (.bool ([b0, b1, b2, b3, b4, b5, b6, b7, b8, b9][k]?.getD false)) W := by
  rcases ten k hk with rfl | rfl | rfl | rfl | rfl | rfl | rfl | rfl | rfl | rfl <;> kernel_rfl
theorem purL_no (a b : Cn) (k : Nat) (hk : k < 10) (ha : a.ps[k]?.getD false = true) (hb : b.ps[k]?.getD false = false) : lessC a b = false := by
  cases h : lessC a b
  · rfl
  · have := ((lessC_iff a b).1 h).1 k hk ha
    rw [hb] at this; cases this
theorem lessV_no (a b : Cn) (v : Int) (ha : v ∈ a.vs) (hb : b.vs.contains v = false) : lessC a b = false := by
  cases h : lessC a b
  · rfl
  · have := ((lessC_iff a b).1 h).2 v (List.contains_iff_mem.2 ha)
    rw [hb] at this; cases this
set_option maxHeartbeats 4000000 in
theorem less_any (a b : Cn) (va vb : Value) (w : World) (hra : Rows w va intF a.vs) (hrb : Rows w vb intF b.vs) (hma : a.vs.length ≤ 140737488351232) (hmb : b.vs.length ≤ 140737488351232) (hia : inR a.vs) (hib : inR b.vs) :
    Calls Try.prog 20 #[.agg #[.int .i64 a.g, .bool a.b0, .bool a.b1, .bool a.b2, .bool a.b3, .bool a.b4, .bool a.b5, .bool a.b6, .bool a.b7, .bool a.b8, .bool a.b9, va], .agg #[.int .i64 b.g, .bool b.b0, .bool b.b1, .bool b.b2, .bool b.b3, .bool b.b4, .bool b.b5, .bool b.b6, .bool b.b7, .bool b.b8, .bool b.b9, vb]] w fun e w' => e = .returned (.bool (lessC a b)) ∧ Below w.heap.size w w' := by
  obtain ⟨ada, capa, rfl⟩ := hra.shape
  obtain ⟨z, hz⟩ : ∃ z, z = lessC a b := ⟨_, rfl⟩
  rw [← hz]
  have HZ : Hid _ := hz
  have HRA : Hid _ := hra
  have HRB : Hid _ := hrb
  have HIA : Hid _ := hia
  have HIB : Hid _ := hib
  have HMB : Hid _ := hmb
  have HV : Hid (∀ w', Below w.heap.size w w' → Calls Try.prog 49 #[.agg #[.int .i64 b.g, .bool b.b0, .bool b.b1, .bool b.b2, .bool b.b3, .bool b.b4, .bool b.b5, .bool b.b6, .bool b.b7, .bool b.b8, .bool b.b9, vb]] w' fun e w'' => (∃ b', e = .returned (.map (some b')) ∧ SetAt w'' b' b.vs) ∧ Below w'.heap.size w' w'') := fun w' hw' => vendorsOf_any b vb w' (Rows.below hrb hw' (Nat.le_refl _)) hmb hib
  obtain ⟨n, hn⟩ : ∃ n, n = a.vs.length := ⟨_, rfl⟩
  rw [← hn] at hma ⊢
  have HN : Hid _ := hn
  obtain ⟨W0, hW0⟩ : ∃ W0, W0 = (w.alloc (.cells #[.int .i64 a.g, .bool a.b0, .bool a.b1, .bool a.b2, .bool a.b3, .bool a.b4, .bool a.b5, .bool a.b6, .bool a.b7, .bool a.b8, .bool a.b9, .slice ada n capa] 32)).alloc (.cells #[.int .i64 b.g, .bool b.b0, .bool b.b1, .bool b.b2, .bool b.b3, .bool b.b4, .bool b.b5, .bool b.b6, .bool b.b7, .bool b.b8, .bool b.b9, vb] 32) := ⟨_, rfl⟩
  have HB0 : Hid (Below w.heap.size w W0) := by rw [hW0]; exact ((Below.refl _ w).alloc (Nat.le_refl _) _).alloc (by simp) _
  have HLA : Hid (LRow W0 w.heap.size (cnL a (.slice ada n capa))) := by
    rw [hW0]
    exact (LRow.new w (cnL a (.slice ada n capa)) 32).below ((Below.refl _ _).alloc (Nat.le_refl _) _) (by simp)
  have HLB : Hid (LRow W0 (w.heap.size + 1) (cnL b vb)) := by
    rw [hW0]
    have h := LRow.new (w.alloc (.cells #[.int .i64 a.g, .bool a.b0, .bool a.b1, .bool a.b2, .bool a.b3, .bool a.b4, .bool a.b5, .bool a.b6, .bool a.b7, .bool a.b8, .bool a.b9, .slice ada n capa] 32)) (cnL b vb) 32
    rw [show (w.alloc (.cells #[.int .i64 a.g, .bool a.b0, .bool a.b1, .bool a.b2, .bool a.b3, .bool a.b4, .bool a.b5, .bool a.b6, .bool a.b7, .bool a.b8, .bool a.b9, .slice ada n capa] 32)).heap.size = w.heap.size + 1 from by simp] at h
    exact h
  have HLT : Hid (w.heap.size + 1 < W0.heap.size) := by show _ < _; rw [hW0]; simp
  have HW0 : Hid _ := hW0
  clear hz hra hrb hia hib hmb hn hW0
  go_enter Try.func20, Try.ntmps20
  go_upto_region 2 with fail
  rw [← HW0.out]
  clear HW0
  go_loop [12] (fun i => ∃ k : Nat, k ≤ 10 ∧ i = .int .i64 k ∧ Hid (∀ j : Nat, j < k → a.ps[j]?.getD false = true → b.ps[j]?.getD false = true)) (fun i => 10 - (intOf i).toNat)
  case atStart => exact ⟨0, Nat.zero_le _, rfl, fun _ h => absurd h (by omega)⟩
  case round =>
    obtain ⟨k, hk, rfl, hall⟩ := hrel
    by_cases hlt : k < 10
    · obtain ⟨x, hx⟩ : ∃ x, x = a.ps[k]?.getD false := ⟨_, rfl⟩
      obtain ⟨y, hy⟩ : ∃ y, y = b.ps[k]?.getD false := ⟨_, rfl⟩
      have cb : W0.cell? ⟨w.heap.size + 1, 1 + k, none⟩ = some (.bool y) := by rw [hy]; exact HLB.out.cell (1 + k) (ps_get b vb k hlt)
      have hid := idx_bools a.b0 a.b1 a.b2 a.b3 a.b4 a.b5 a.b6 a.b7 a.b8 a.b9 k hlt
      rw [show ([a.b0, a.b1, a.b2, a.b3, a.b4, a.b5, a.b6, a.b7, a.b8, a.b9] : List Bool)[k]?.getD false = x from hx.symm] at hid
      have HX : Hid _ := hx
      have HY : Hid _ := hy
      clear hx hy
      cases x
      · go_wp2_with fail
        go_round
        case rel =>
          refine ⟨k + 1, by omega, by go_num, fun j hj ha => ?_⟩
          by_cases e : j = k
          · subst e; rw [← HX.out] at ha; cases ha
          · exact hall.out j (by omega) ha
        case measure => simp [intOf]; omega
      · cases y
        · have HZ0 : Hid (z = false) := by show _ = _; rw [HZ.out]; exact purL_no a b k hlt HX.out.symm HY.out.symm
          go_wp2_with fail
          go_ret
          exact ⟨by rw [HZ0.out]; rfl, HB0.out⟩
        · go_wp2_with fail
          go_round
          case rel =>
            refine ⟨k + 1, by omega, by go_num, fun j hj ha => ?_⟩
            by_cases e : j = k
            · subst e; exact HY.out.symm
            · exact hall.out j (by omega) ha
          case measure => simp [intOf]; omega
    · have HPUR : Hid (∀ j : Nat, j < 10 → a.ps[j]?.getD false = true → b.ps[j]?.getD false = true) := fun j hj => hall.out j (by omega)
      have c0 := HLB.out.cell 0 rfl
      have c1 := HLB.out.cell 1 rfl
      have c2 := HLB.out.cell 2 rfl
      have c3 := HLB.out.cell 3 rfl
      have c4 := HLB.out.cell 4 rfl
      have c5 := HLB.out.cell 5 rfl
      have c6 := HLB.out.cell 6 rfl
      have c7 := HLB.out.cell 7 rfl
      have c8 := HLB.out.cell 8 rfl
      have c9 := HLB.out.cell 9 rfl
      have c10 := HLB.out.cell 10 rfl
      have c11 := HLB.out.cell 11 rfl
      have hk10 : ¬ (k : Int) < 10 := by omega
      clear hlt hall hk
      go_wp2_with fail
      refine (HV.out _ HB0.out).mono ?_
      rintro e w1 ⟨⟨B, rfl, hset⟩, hb1⟩
      have HB1 : Hid (Below w.heap.size w w1) := HB0.out.trans (hb1.mono HB0.out.size)
      have HS1 : Hid _ := hset
      have d11 : w1.cell? ⟨w.heap.size, 11, none⟩ = some (.slice ada n capa) := (HLA.out.below hb1 (Nat.lt_of_succ_lt HLT.out)).cell 11 rfl
      clear hset hb1 c0 c1 c2 c3 c4 c5 c6 c7 c8 c9 c10 c11
      go_wp2_with fail
      go_loopw [30] (fun i wr => ∃ k : Nat, k ≤ n ∧ i = .int .i64 k ∧ Hid (∀ (j : Nat) v, a.vs[j]? = some v → j < k → b.vs.contains v = true) ∧ Hid (Below w1.heap.size w1 wr)) (fun i _ => n - (intOf i).toNat)
      case atStart => exact ⟨0, Nat.zero_le _, rfl, fun _ _ _ h => absurd h (by omega), Below.refl _ _⟩
      case round =>
        obtain ⟨k, hk, rfl, hall, hb⟩ := hrel
        by_cases hlt : k < n
        · obtain ⟨x, e1⟩ : ∃ x, a.vs[k]? = some x := ⟨_, List.getElem?_eq_getElem (by rw [← HN.out]; exact hlt)⟩
          obtain ⟨bl, ol, had, hbl, hcell⟩ := Rows.at HRA.out rfl 0 (fun _ => rfl) k x e1
          subst had
          have c0 : wr.cell? ⟨bl, ol + k, none⟩ = some (.int .i64 x) := by
            have h1 := (HB1.out.cell (p := ⟨bl, ol + k * (0 + 1) + 0, none⟩) hbl).trans (hcell 0 _ rfl)
            have h2 := (hb.out.cell (p := ⟨bl, ol + k * (0 + 1) + 0, none⟩) (cell_in h1)).trans h1
            rw [show ol + k * (0 + 1) + 0 = ol + k by omega] at h2
            exact h2
          obtain ⟨y, hy⟩ : ∃ y, y = b.vs.contains x := ⟨_, rfl⟩
          have KH : Hid (Calls Try.prog 50 #[.map (some B), .int .i64 x] wr fun e w' => e = .returned (.bool y) ∧ Below wr.heap.size wr w') := by
            rw [hy]
            exact has_any B b.vs x wr (SetAt.below HS1.out hb.out) (HIA.out x (List.mem_of_getElem? e1))
          have HE : Hid _ := e1
          have HY : Hid _ := hy
          clear e1 hcell hbl hy
          cases y
          · have HZ0 : Hid (z = false) := by show _ = _; rw [HZ.out]; exact lessV_no a b x (List.mem_of_getElem? HE.out) HY.out.symm
            go_wp2_with fail
            refine KH.out.mono ?_
            rintro e w2 ⟨rfl, hb2⟩
            go_wp2_with fail
            go_ret
            exact ⟨by rw [HZ0.out]; rfl, HB1.out.trans ((next hb.out hb2).mono HB1.out.size)⟩
          · go_wp2_with fail
            refine KH.out.mono ?_
            rintro e w2 ⟨rfl, hb2⟩
            have HB2 : Hid (Below w1.heap.size w1 w2) := next hb.out hb2
            clear hb2
            go_wp2_with fail
            go_roundw
            case rel =>
              refine ⟨k + 1, by omega, by go_num, fun j v hj hlt2 => ?_, HB2⟩
              by_cases e : j = k
              · subst e
                rw [HE.out] at hj
                injection hj with hj
                rw [← hj]; exact HY.out.symm
              · exact hall.out j v hj (by omega)
            case measure => simp [intOf]; omega
        · have HZ1 : Hid (z = true) := by
            show _ = _
            rw [HZ.out, lessC_iff]
            refine ⟨HPUR.out, fun v hv => ?_⟩
            obtain ⟨j, hj⟩ := List.getElem?_of_mem (List.contains_iff_mem.1 hv)
            exact hall.out j v hj (by have := (List.getElem?_eq_some_iff.1 hj).1; rw [← HN.out] at this; omega)
          go_wp2_with fail
          go_ret
          exact ⟨by rw [HZ1.out]; rfl, HB1.out.trans (hb.out.mono HB1.out.size)⟩
end Go.Proofs.Ytcfdajaideidkaa
