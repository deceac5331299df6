/- The document's own answer: is a policy right? -/
import Derived.Test.YtmjcgkjkhpjgbaaRefP
namespace Go.Proofs.Ytmjcgkjkhpjgbaa
open Go.RowKit
set_option linter.all false
set_option maxRecDepth 100000

set_option maxHeartbeats 400000 in
theorem isHostP_any (t : List UInt8) (w : World) (ht : t.length ≤ maxLen) : Calls Try.prog 29 #[.string (txt t)] w fun e w' => e = .returned (.bool (canonB t)) ∧ Below w.heap.size w w' := by
  obtain ⟨z, hz⟩ : ∃ z, z = canonE t := ⟨_, rfl⟩
  obtain ⟨u, hu⟩ : ∃ u, u = canonL t := ⟨_, rfl⟩
  have KC : Hid (Calls Try.prog 44 #[.string (txt t)] w fun e w' => e = .returned (.tuple #[.string (txt u), .int .i64 z]) ∧ Below w.heap.size w w') := by rw [hz, hu]; exact hostOf_any (txt t) w ht
  have HR : Hid (canonB t = (decide (z = 0) && (u == t))) := by rw [hz, hu]; rfl
  clear hz hu ht
  go_enter Try.func29, Try.ntmps29
  go_wp2_with fail
  refine KC.out.mono ?_
  rintro e w1 ⟨rfl, hb1⟩
  have HB1 : Hid _ := hb1
  clear hb1
  by_cases h1 : z = 0
  · have q : (z == 0) = true := by rw [h1]; rfl
    by_cases h2 : u = t
    · have y := tx_t u t h2
      have hr : Hid (canonB t = true) := by show _ = _; rw [HR.out, decide_eq_true h1, h2]; simp
      clear h1 h2
      go_wp2_with fail
      go_ret
      exact ⟨by rw [hr.out]; rfl, HB1.out⟩
    · have y := tx_f u t h2
      have hr : Hid (canonB t = false) := by show _ = _; rw [HR.out, (beq_eq_false_iff_ne).2 h2, Bool.and_false]
      clear h1 h2
      go_wp2_with fail
      go_ret
      exact ⟨by rw [hr.out]; rfl, HB1.out⟩
  · have q : (z == 0) = false := by rw [beq_eq_false_iff_ne]; exact h1
    have hr : Hid (canonB t = false) := by show _ = _; rw [HR.out, decide_eq_false h1, Bool.false_and]
    clear h1
    go_wp2_with fail
    go_ret
    exact ⟨by rw [hr.out]; rfl, HB1.out⟩
theorem poL_capQ (p : Po) (pv : Value) (a : Nat) (ha : a < 11) : (poL p pv)[2 + a]? = some (.int .i64 (p.caps[a]?.getD 0)) := by
  rcases eleven a ha with rfl | rfl | rfl | rfl | rfl | rfl | rfl | rfl | rfl | rfl | rfl <;> rfl
set_option maxHeartbeats 16000000 in
theorem polCheckOf_any (p : Po) (v : Value) (w : World) (hr : Rows w v ruC p.rules) (hm : p.rules.length ≤ 140737488351232) (ho : ∀ r ∈ p.rules, RuOk 140737488351232 r) :
    Calls Try.prog 14 #[.agg #[v, .int .i64 p.dflt, .int .i64 p.c0, .int .i64 p.c1, .int .i64 p.c2, .int .i64 p.c3, .int .i64 p.c4, .int .i64 p.c5, .int .i64 p.c6, .int .i64 p.c7, .int .i64 p.c8, .int .i64 p.c9, .int .i64 p.c10]] w fun e w' => e = .returned (.int .i64 (chP p)) ∧ Below w.heap.size w w' := by
  obtain ⟨ad, cap, rfl⟩ := hr.shape
  obtain ⟨z, hz⟩ : ∃ z, z = chP p := ⟨_, rfl⟩
  rw [← hz]
  have HZ : Hid _ := hz
  obtain ⟨l, hl⟩ : ∃ l, l = p.rules := ⟨_, rfl⟩
  have HL : Hid _ := hl
  rw [← hl] at hr hm ho ⊢
  obtain ⟨n, hn⟩ : ∃ n, n = l.length := ⟨_, rfl⟩
  have HN : Hid _ := hn
  rw [← hn] at hm ⊢
  have HR : Hid (Rows w (.slice ad n cap) ruC l) := by rw [HN.out]; exact hr
  have HO : Hid _ := ho
  obtain ⟨W0, hW0⟩ : ∃ W0, W0 = w.alloc (.cells #[.slice ad n cap, .int .i64 p.dflt, .int .i64 p.c0, .int .i64 p.c1, .int .i64 p.c2, .int .i64 p.c3, .int .i64 p.c4, .int .i64 p.c5, .int .i64 p.c6, .int .i64 p.c7, .int .i64 p.c8, .int .i64 p.c9, .int .i64 p.c10] 25) := ⟨_, rfl⟩
  have HB0 : Hid (Below w.heap.size w W0) := by rw [hW0]; exact (Below.refl _ w).alloc (Nat.le_refl _) _
  have HLP : Hid (LRow W0 w.heap.size (poL p (.slice ad n cap))) := by
    rw [hW0]
    exact LRow.new w (poL p (.slice ad n cap)) 25
  have HLT : Hid (w.heap.size < W0.heap.size) := by show _ < _; rw [hW0]; simp
  have HW0 : Hid _ := hW0
  clear hz hl hn hr ho hW0
  go_enter Try.func14, Try.ntmps14
  go_upto_region 1 with fail
  rw [← HW0.out]
  clear HW0
  have p0 := HLP.out.cell 0 rfl
  by_cases h12 : 12 < n
  · have HZ2 : Hid (z = 2) := by show _ = _; rw [HZ.out]; unfold chP; rw [if_pos (by rw [← HL.out, ← HN.out]; exact h12)]
    go_wp2_with fail
    go_ret
    exact ⟨by rw [HZ2.out]; rfl, HB0.out⟩
  have HZ1 : Hid (z = if chRs l = 0 then (if p.dflt < 0 ∨ 10 < p.dflt then 3 else if p.caps.all capB then 0 else 3) else chRs l) := by show _ = _; rw [HZ.out]; unfold chP; rw [if_neg (by rw [← HL.out, ← HN.out]; exact h12), ← HL.out]
  go_wp2_with fail
  clear p0
  go_loopw [3] (fun i wr => ∃ k : Nat, k ≤ n ∧ i = .int .i64 k ∧ Hid (∀ (j : Nat) x, j < k → l[j]? = some x → chRu x = 0) ∧ Hid (Below W0.heap.size W0 wr)) (fun i _ => n - (intOf i).toNat)
  case atStart => exact ⟨0, Nat.zero_le _, rfl, fun _ _ h _ => absurd h (by omega), Below.refl _ _⟩
  case round =>
    obtain ⟨k, hk, rfl, hall, hb⟩ := hrel
    have p0 := (HLP.out.below hb.out HLT.out).cell 0 rfl
    by_cases hlt : k < n
    · obtain ⟨r, e1⟩ : ∃ r, l[k]? = some r := ⟨_, List.getElem?_eq_getElem (by rw [← HN.out]; exact hlt)⟩
      obtain ⟨bl, ol, rfl, hbl, hcell⟩ := Rows.at HR.out rfl 3 (fun _ => rfl) k r e1
      have cc : ∀ i u, (ruC r)[i]? = some u → wr.cell? ⟨bl, ol + k * 4 + i, none⟩ = some u := fun i u h => by
        have h1 := (HB0.out.cell (p := ⟨bl, ol + k * 4 + i, none⟩) hbl).trans (hcell i u h)
        exact (hb.out.cell (p := ⟨bl, ol + k * 4 + i, none⟩) (cell_in h1)).trans h1
      have c0 := cc 0 _ rfl
      have c1 := cc 1 _ rfl
      have c2 := cc 2 _ rfl
      have c3 := cc 3 _ rfl
      rw [Nat.add_zero] at c0
      obtain ⟨y, hy⟩ : ∃ y, y = chRu r := ⟨_, rfl⟩
      have HY : Hid _ := hy
      have HE : Hid _ := e1
      obtain ⟨W1, hW1⟩ : ∃ W1, W1 = wr.alloc (.cells #[.int .i64 r.kind, .string (txt r.text), .int .i64 r.purpose, .int .i64 r.vendor] 39) := ⟨_, rfl⟩
      have R1 : Hid (LRow W1 wr.heap.size (ruC r)) := by rw [hW1]; exact LRow.new wr (ruC r) 39
      have S1W : Hid (Below W0.heap.size W0 W1) := by rw [hW1]; exact hb.out.alloc hb.out.size _
      have S1 : Hid (Below w.heap.size w W1) := next HB0.out S1W.out
      have HRU : Hid (∀ n : Int, ¬ n = 0 → y = n → z = n) := fun n hn0 hyn => by
        have h := chRs_at l k r HE.out (fun j x hj hx => hall.out j x hj hx)
        rw [← HY.out, hyn, if_neg hn0] at h
        rw [HZ1.out, h, if_neg hn0]
      have HTX : Hid (r.text.length ≤ 140737488351232) := (HO.out r (List.mem_of_getElem? e1)).text
      have htx := HTX.out
      have HW1 : Hid _ := hW1
      clear e1 hcell hbl cc hy hW1
      go_upto_region 7 with fail
      rw [← HW1.out]
      clear HW1 c0 c1 c2 c3 p0
      have x0 := R1.out.cell 0 rfl
      have x1 := R1.out.cell 1 rfl
      have x2 := R1.out.cell 2 rfl
      have x3 := R1.out.cell 3 rfl
      by_cases h1 : r.kind < 1
      · have HZX : Hid (z = 7) := HRU.out 7 (by decide) (by rw [HY.out]; unfold chRu; rw [if_pos (.inl h1)])
        go_wp2_with fail
        go_ret
        exact ⟨by rw [HZX.out]; rfl, S1.out⟩
      by_cases h2 : 4 < r.kind
      · have HZX : Hid (z = 7) := HRU.out 7 (by decide) (by rw [HY.out]; unfold chRu; rw [if_pos (.inr h2)])
        go_wp2_with fail
        go_ret
        exact ⟨by rw [HZX.out]; rfl, S1.out⟩
      have HY1 : Hid (y = if r.text = [] ∨ 400 < r.text.length ∨ (r.kind = 4 ∧ canonB r.text = false) then 1 else if (r.purpose < 0 ∨ 10 < r.purpose) ∨ (r.vendor < 0 ∨ 40 < r.vendor) then 3 else 0) := by show _ = _; rw [HY.out]; unfold chRu; rw [if_neg (by omega)]
      have hsz : (txt r.text).size = r.text.length := txt_size _
      by_cases h3 : r.text = []
      · have q3 : ((r.text.length : Int) == 0) = true := by rw [h3]; rfl
        have HZX : Hid (z = 1) := HRU.out 1 (by decide) (by rw [HY1.out, if_pos (.inl h3)])
        clear h3
        go_wp2_with fail
        go_ret
        exact ⟨by rw [HZX.out]; rfl, S1.out⟩
      have q3 : ((r.text.length : Int) == 0) = false := by
        rw [beq_eq_false_iff_ne]
        intro h
        exact h3 (List.length_eq_zero_iff.1 (by omega))
      by_cases h4 : 400 < r.text.length
      · have HZX : Hid (z = 1) := HRU.out 1 (by decide) (by rw [HY1.out, if_pos (.inr (.inl h4))])
        clear h3
        go_wp2_with fail
        go_ret
        exact ⟨by rw [HZX.out]; rfl, S1.out⟩
      by_cases h5 : r.kind = 4
      · have q5 : (r.kind == 4) = true := by rw [h5]; rfl
        have HYC0 : Hid (canonB r.text = false → y = 1) := fun h => by rw [HY1.out, if_pos (.inr (.inr ⟨h5, h⟩))]
        have HYC1 : Hid (canonB r.text = true → y = if (r.purpose < 0 ∨ 10 < r.purpose) ∨ (r.vendor < 0 ∨ 40 < r.vendor) then 3 else 0) := fun h => by
          rw [HY1.out, if_neg]
          rintro (e | e | ⟨_, e⟩)
          · exact h3 e
          · exact h4 e
          · rw [h] at e; cases e
        obtain ⟨cb, hcb⟩ : ∃ b, b = canonB r.text := ⟨_, rfl⟩
        have KH : Hid (∀ w', Calls Try.prog 29 #[.string (txt r.text)] w' fun e w'' => e = .returned (.bool cb) ∧ Below w'.heap.size w' w'') := fun w' => by rw [hcb]; exact isHostP_any r.text w' (by unfold maxLen; omega)
        rw [← hcb] at HYC0 HYC1
        clear h3 h5 hcb HY1
        go_wp2_with fail
        refine (KH.out _).mono ?_
        rintro e w2 ⟨rfl, hb2⟩
        replace S1W : Hid (Below W0.heap.size W0 w2) := next S1W.out hb2
        replace S1 : Hid (Below w.heap.size w w2) := next S1.out hb2
        have R2 := R1.out.below hb2 (cell_in x0)
        clear hb2 x0 x1 x2 x3
        have x0 := R2.cell 0 rfl
        have x1 := R2.cell 1 rfl
        have x2 := R2.cell 2 rfl
        have x3 := R2.cell 3 rfl
        clear R2
        cases cb
        · have HZX : Hid (z = 1) := HRU.out 1 (by decide) (HYC0.out rfl)
          go_wp2_with fail
          go_ret
          exact ⟨by rw [HZX.out]; rfl, S1.out⟩
        have HYC : Hid (y = if (r.purpose < 0 ∨ 10 < r.purpose) ∨ (r.vendor < 0 ∨ 40 < r.vendor) then 3 else 0) := HYC1.out rfl
        clear HYC0 HYC1
        by_cases g1 : r.purpose < 0
        · have HZX : Hid (z = 3) := HRU.out 3 (by decide) (by rw [HYC.out]; rw [if_pos (.inl (.inl g1))])
          go_wp2_with fail
          go_ret
          exact ⟨by rw [HZX.out]; rfl, S1.out⟩
        by_cases g2 : 10 < r.purpose
        · have HZX : Hid (z = 3) := HRU.out 3 (by decide) (by rw [HYC.out]; rw [if_pos (.inl (.inr g2))])
          go_wp2_with fail
          go_ret
          exact ⟨by rw [HZX.out]; rfl, S1.out⟩
        by_cases g3 : r.vendor < 0
        · have HZX : Hid (z = 3) := HRU.out 3 (by decide) (by rw [HYC.out]; rw [if_pos (.inr (.inl g3))])
          go_wp2_with fail
          go_ret
          exact ⟨by rw [HZX.out]; rfl, S1.out⟩
        by_cases g4 : 40 < r.vendor
        · have HZX : Hid (z = 3) := HRU.out 3 (by decide) (by rw [HYC.out]; rw [if_pos (.inr (.inr g4))])
          go_wp2_with fail
          go_ret
          exact ⟨by rw [HZX.out]; rfl, S1.out⟩
        have HA : Hid (∀ (j : Nat) x, j < k + 1 → l[j]? = some x → chRu x = 0) := fun j x hj hx => by
          by_cases e : j = k
          · rw [e, HE.out] at hx
            injection hx with hx
            rw [← hx, ← HY.out, HYC.out, if_neg (by omega)]
          · exact hall.out j x (by omega) hx
        go_wp2_with fail
        go_roundw
        case rel => exact ⟨k + 1, by omega, by go_num, HA, S1W⟩
        case measure => simp [intOf]; omega
      · have q5 : (r.kind == 4) = false := by rw [beq_eq_false_iff_ne]; exact h5
        have HYC : Hid (y = if (r.purpose < 0 ∨ 10 < r.purpose) ∨ (r.vendor < 0 ∨ 40 < r.vendor) then 3 else 0) := by
          show _ = _
          rw [HY1.out, if_neg]
          rintro (e | e | ⟨e, _⟩)
          · exact h3 e
          · exact h4 e
          · exact h5 e
        clear h3 h5 HY1
        by_cases g1 : r.purpose < 0
        · have HZX : Hid (z = 3) := HRU.out 3 (by decide) (by rw [HYC.out]; rw [if_pos (.inl (.inl g1))])
          go_wp2_with fail
          go_ret
          exact ⟨by rw [HZX.out]; rfl, S1.out⟩
        by_cases g2 : 10 < r.purpose
        · have HZX : Hid (z = 3) := HRU.out 3 (by decide) (by rw [HYC.out]; rw [if_pos (.inl (.inr g2))])
          go_wp2_with fail
          go_ret
          exact ⟨by rw [HZX.out]; rfl, S1.out⟩
        by_cases g3 : r.vendor < 0
        · have HZX : Hid (z = 3) := HRU.out 3 (by decide) (by rw [HYC.out]; rw [if_pos (.inr (.inl g3))])
          go_wp2_with fail
          go_ret
          exact ⟨by rw [HZX.out]; rfl, S1.out⟩
        by_cases g4 : 40 < r.vendor
        · have HZX : Hid (z = 3) := HRU.out 3 (by decide) (by rw [HYC.out]; rw [if_pos (.inr (.inr g4))])
          go_wp2_with fail
          go_ret
          exact ⟨by rw [HZX.out]; rfl, S1.out⟩
        have HA : Hid (∀ (j : Nat) x, j < k + 1 → l[j]? = some x → chRu x = 0) := fun j x hj hx => by
          by_cases e : j = k
          · rw [e, HE.out] at hx
            injection hx with hx
            rw [← hx, ← HY.out, HYC.out, if_neg (by omega)]
          · exact hall.out j x (by omega) hx
        go_wp2_with fail
        go_roundw
        case rel => exact ⟨k + 1, by omega, by go_num, HA, S1W⟩
        case measure => simp [intOf]; omega
    · have HZ3 : Hid (z = if p.dflt < 0 ∨ 10 < p.dflt then 3 else if p.caps.all capB then 0 else 3) := by
        show _ = _
        rw [HZ1.out, if_pos (chRs_all l fun j x hx => hall.out j x (by have := (List.getElem?_eq_some_iff.1 hx).1; rw [← HN.out] at this; omega) hx)]
      have HBr : Hid (Below w.heap.size w wr) := next HB0.out hb.out
      have HLr : Hid (LRow wr w.heap.size (poL p (.slice ad n cap))) := HLP.out.below hb.out HLT.out
      have p1 := HLr.out.cell 1 rfl
      clear hall hb hk
      obtain ⟨Wc, hWc⟩ : ∃ W, W = wr := ⟨_, rfl⟩
      rw [← hWc] at HBr HLr p1 p0 ⊢
      clear hWc
      by_cases g1 : p.dflt < 0
      · have HZX : Hid (z = 3) := by show _ = _; rw [HZ3.out, if_pos (.inl g1)]
        go_wp2_with fail
        go_ret
        exact ⟨by rw [HZX.out]; rfl, HBr.out⟩
      by_cases g2 : 10 < p.dflt
      · have HZX : Hid (z = 3) := by show _ = _; rw [HZ3.out, if_pos (.inr g2)]
        go_wp2_with fail
        go_ret
        exact ⟨by rw [HZX.out]; rfl, HBr.out⟩
      have HZ4 : Hid (z = if p.caps.all capB then 0 else 3) := by show _ = _; rw [HZ3.out, if_neg (by omega)]
      go_wp2_with fail
      clear p0 p1 g1 g2
      go_loopw [5] (fun i wq => ∃ k : Nat, k ≤ 11 ∧ i = .int .i64 k ∧ Hid (∀ (j : Nat), j < k → capB (p.caps[j]?.getD 0) = true) ∧ wq = Wc) (fun i _ => 11 - (intOf i).toNat)
      case atStart => exact ⟨0, Nat.zero_le _, rfl, fun _ h => absurd h (by omega), rfl⟩
      case round =>
        obtain ⟨k, hk, rfl, hall, hwq⟩ := hrel
        subst hwq
        by_cases hlt : k < 11
        · obtain ⟨y, hy⟩ : ∃ y, y = p.caps[k]?.getD 0 := ⟨_, rfl⟩
          have cy : wr.cell? ⟨w.heap.size, 2 + k, none⟩ = some (.int .i64 y) := HLr.out.cell (2 + k) (by rw [hy]; exact poL_capQ p _ k hlt)
          have HY : Hid _ := hy
          clear hy
          have bad : capB y = false → z = 3 := fun h0 => by
            rw [HZ4.out, if_neg]
            intro h
            have hk2 : k < p.caps.length := hlt
            have := List.all_eq_true.1 h y (by rw [HY.out, List.getElem?_eq_getElem hk2]; exact List.getElem_mem hk2)
            rw [h0] at this; cases this
          have HBAD : Hid _ := bad
          clear bad
          by_cases g3 : y < 1
          · have HZX : Hid (z = 3) := HBAD.out (by unfold capB; rw [decide_eq_false (by omega), Bool.false_and])
            go_wp2_with fail
            go_ret
            exact ⟨by rw [HZX.out]; rfl, HBr.out⟩
          by_cases g4 : 1000000000 < y
          · have HZX : Hid (z = 3) := HBAD.out (by unfold capB; rw [decide_eq_false (p := y ≤ 1000000000) (by omega), Bool.and_false])
            go_wp2_with fail
            go_ret
            exact ⟨by rw [HZX.out]; rfl, HBr.out⟩
          have HA : Hid (∀ (j : Nat), j < k + 1 → capB (p.caps[j]?.getD 0) = true) := fun j hj => by
            by_cases e : j = k
            · rw [e, ← HY.out]; unfold capB; rw [decide_eq_true (by omega), decide_eq_true (p := y ≤ 1000000000) (by omega)]; rfl
            · exact hall.out j (by omega)
          go_wp2_with fail
          go_roundw
          case rel => exact ⟨k + 1, by omega, by go_num, HA, by first | trivial | rfl⟩
          case measure => simp [intOf]; omega
        · have HZX : Hid (z = 0) := by
            show _ = _
            rw [HZ4.out, if_pos]
            rw [List.all_eq_true]
            intro x hx
            obtain ⟨j, hj⟩ := List.getElem?_of_mem hx
            have hj2 : j < 11 := (List.getElem?_eq_some_iff.1 hj).1
            have := hall.out j (by omega)
            rw [hj] at this; exact this
          go_wp2_with fail
          go_ret
          exact ⟨by rw [HZX.out]; rfl, HBr.out⟩
end Go.Proofs.Ytmjcgkjkhpjgbaa
