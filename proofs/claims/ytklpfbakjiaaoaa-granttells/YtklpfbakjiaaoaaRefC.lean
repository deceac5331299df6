/- The document's own answer: has one all that another has; may a consent be written. -/
import Derived.Test.YtklpfbakjiaaoaaRefV
namespace Go.Proofs.Ytklpfbakjiaaoaa
open Go.RowKit
set_option linter.all false
set_option maxRecDepth 100000

set_option maxHeartbeats 8000000 in
theorem lessOf_any (a b : Cn) (va vb : Value) (w : World) (ra : Rows w va intF a.vs) (rb : Rows w vb intF b.vs) (ma : a.vs.length ≤ maxLen) (mb : b.vs.length ≤ maxLen) :
    Calls Try.prog 17 #[.agg #[.int .i64 a.g, .bool a.b0, .bool a.b1, .bool a.b2, .bool a.b3, .bool a.b4, .bool a.b5, .bool a.b6, .bool a.b7, .bool a.b8, .bool a.b9, va], .agg #[.int .i64 b.g, .bool b.b0, .bool b.b1, .bool b.b2, .bool b.b3, .bool b.b4, .bool b.b5, .bool b.b6, .bool b.b7, .bool b.b8, .bool b.b9, vb]] w fun e w' => e = .returned (.bool (lessC a b)) ∧ Below w.heap.size w w' := by
  obtain ⟨ad, cap, rfl⟩ := ra.shape
  obtain ⟨z, hz⟩ : ∃ z, z = lessC a b := ⟨_, rfl⟩
  rw [← hz]
  have HZ : Hid _ := hz
  obtain ⟨n, hn⟩ : ∃ n, n = a.vs.length := ⟨_, rfl⟩
  have HN : Hid _ := hn
  rw [← hn] at ma ⊢
  have ra2 : Rows w (.slice ad n cap) intF a.vs := by rw [hn]; exact ra
  have KH : Hid (∀ (x : Int) (w' : World), Rows w' vb intF b.vs → Calls Try.prog 24 #[vb, .int .i64 x] w' fun e w'' => e = .returned (.bool (b.vs.contains x)) ∧ w'' = w') := fun x w' h => hasV_any vb b.vs x w' h mb
  obtain ⟨W0, hW0⟩ : ∃ W0, W0 = ((w.alloc (.cells #[.int .i64 a.g, .bool a.b0, .bool a.b1, .bool a.b2, .bool a.b3, .bool a.b4, .bool a.b5, .bool a.b6, .bool a.b7, .bool a.b8, .bool a.b9, (.slice ad n cap)] 25)).alloc (.cells #[.int .i64 b.g, .bool b.b0, .bool b.b1, .bool b.b2, .bool b.b3, .bool b.b4, .bool b.b5, .bool b.b6, .bool b.b7, .bool b.b8, .bool b.b9, vb] 25)) := ⟨_, rfl⟩
  have A : Hid (CB W0 w.heap.size a (.slice ad n cap)) := by
    rw [hW0]
    have h := CB.new w a (.slice ad n cap) 25 ra2
    exact (h.below (below_new _ _))
  have B : Hid (CB W0 (w.heap.size + 1) b vb) := by
    rw [hW0]
    have h := CB.new (w.alloc (.cells #[.int .i64 a.g, .bool a.b0, .bool a.b1, .bool a.b2, .bool a.b3, .bool a.b4, .bool a.b5, .bool a.b6, .bool a.b7, .bool a.b8, .bool a.b9, (.slice ad n cap)] 25)) b vb 25 (Rows.below rb (below_new _ _) (Nat.le_refl _))
    rw [show (w.alloc (.cells #[.int .i64 a.g, .bool a.b0, .bool a.b1, .bool a.b2, .bool a.b3, .bool a.b4, .bool a.b5, .bool a.b6, .bool a.b7, .bool a.b8, .bool a.b9, (.slice ad n cap)] 25)).heap.size = w.heap.size + 1 from by simp] at h
    exact h
  have S : Hid (Below w.heap.size w W0) := by rw [hW0]; exact next (below_new _ _) (below_new _ _)
  have HW0 : Hid _ := hW0
  unfold maxLen at ma
  clear hz hn ra ra2 rb mb hW0
  go_enter Try.func17, Try.ntmps17
  go_upto_region 1 with fail
  rw [← HW0.out]
  clear HW0
  go_wp2_with fail
  go_loopw [5] (fun i wr => ∃ k : Nat, k ≤ 10 ∧ i = .int .i64 k ∧ Hid (∀ j : Nat, j < k → a.ps[j]?.getD false = true → b.ps[j]?.getD false = true) ∧ wr = W0) (fun i _ => 10 - (intOf i).toNat)
  case atStart => exact ⟨0, Nat.zero_le _, rfl, fun _ h => absurd h (by omega), rfl⟩
  case round =>
    obtain ⟨k, hk, rfl, hall, hwr⟩ := hrel
    subst hwr
    by_cases hlt : k < 10
    · obtain ⟨x, hx⟩ : ∃ x, x = a.ps[k]?.getD false := ⟨_, rfl⟩
      obtain ⟨y, hy⟩ : ∃ y, y = b.ps[k]?.getD false := ⟨_, rfl⟩
      have ca : wr.cell? ⟨w.heap.size, 1 + k, none⟩ = some (.bool x) := by rw [hx]; exact A.out.row.cell (1 + k) (ps_get a _ k hlt)
      have cb : wr.cell? ⟨w.heap.size + 1, 1 + k, none⟩ = some (.bool y) := by rw [hy]; exact B.out.row.cell (1 + k) (ps_get b vb k hlt)
      have HX : Hid _ := hx
      have HY : Hid _ := hy
      clear hx hy
      cases x
      · go_wp2_with fail
        go_roundw
        case rel =>
          refine ⟨k + 1, by omega, by go_num, fun j hj ha => ?_, by first | trivial | rfl⟩
          by_cases e : j = k
          · subst e; rw [← HX.out] at ha; cases ha
          · exact hall.out j (by omega) ha
        case measure => simp [intOf]; omega
      · cases y
        · have HZ0 : Hid (z = false) := by show _ = _; rw [HZ.out]; exact purL_no a b k hlt HX.out.symm HY.out.symm
          go_wp2_with fail
          go_ret
          exact ⟨by rw [HZ0.out]; rfl, S.out⟩
        · go_wp2_with fail
          go_roundw
          case rel =>
            refine ⟨k + 1, by omega, by go_num, fun j hj ha => ?_, by first | trivial | rfl⟩
            by_cases e : j = k
            · subst e; exact HY.out.symm
            · exact hall.out j (by omega) ha
          case measure => simp [intOf]; omega
    · have HPUR : Hid (∀ j : Nat, j < 10 → a.ps[j]?.getD false = true → b.ps[j]?.getD false = true) := fun j hj => hall.out j (by omega)
      clear hall hk
      go_wp2_with fail
      clear hlt
      obtain ⟨W1, hW1⟩ : ∃ W, W = wr := ⟨_, rfl⟩
      rw [← hW1] at A B S ⊢
      clear hW1
      go_loopw [6] (fun i wq => ∃ (k m : Nat), k ≤ n ∧ i = .int .i64 k ∧ Hid (∀ (j : Nat) v, a.vs[j]? = some v → j < k → b.vs.contains v = true) ∧ wq = W1.drewN m) (fun i _ => n - (intOf i).toNat)
      case atStart => exact ⟨0, 0, Nat.zero_le _, rfl, fun _ _ _ h => absurd h (by omega), rfl⟩
      case round =>
        obtain ⟨k, m, hk, rfl, hall, hwq⟩ := hrel
        obtain ⟨Wq, hWq⟩ : ∃ W, W = wr := ⟨_, rfl⟩
        rw [← hWq] at hwq ⊢
        clear hWq
        have AQ : Hid (CB Wq w.heap.size a (.slice ad n cap)) := by rw [hwq]; exact ⟨⟨A.out.row.all⟩, A.out.rows⟩
        have BQ : Hid (CB Wq (w.heap.size + 1) b vb) := by rw [hwq]; exact ⟨⟨B.out.row.all⟩, B.out.rows⟩
        have SQ : Hid (Below w.heap.size w Wq) := by rw [hwq]; exact S.out.trans (below_drewN' _ _ _)
        have HWQ : Hid _ := hwq
        clear hwq
        have ac : ∀ w', Below Wq.heap.size Wq w' → w'.cell? ⟨w.heap.size, 11, none⟩ = some (.slice ad n cap) := fun w' h => (AQ.out.below h).row.cell 11 rfl
        have acq := ac Wq (Below.refl _ _)
        by_cases hlt : k < n
        · obtain ⟨x, e1⟩ : ∃ x, a.vs[k]? = some x := ⟨_, List.getElem?_eq_getElem (by rw [← HN.out]; exact hlt)⟩
          obtain ⟨bl, ol, had, hbl, hcell⟩ := Rows.at AQ.out.rows rfl 0 (fun _ => rfl) k x e1
          subst had
          have c0 : ∀ w', Below Wq.heap.size Wq w' → w'.cell? ⟨bl, ol + k, none⟩ = some (.int .i64 x) := fun w' h => by
            have h1 := hcell 0 _ rfl
            rw [show ol + k * (0 + 1) + 0 = ol + k by omega] at h1
            exact (h.cell (p := ⟨bl, ol + k, none⟩) hbl).trans h1
          have bc : ∀ w', Below Wq.heap.size Wq w' → w'.cell? ⟨w.heap.size + 1, 11, none⟩ = some vb := fun w' h => (BQ.out.below h).row.cell 11 rfl
          obtain ⟨y, hy⟩ : ∃ y, y = b.vs.contains x := ⟨_, rfl⟩
          have KX : Hid (∀ w' : World, Rows w' vb intF b.vs → Calls Try.prog 24 #[vb, .int .i64 x] w' fun e w'' => e = .returned (.bool y) ∧ w'' = w') := by rw [hy]; exact KH.out x
          have HE : Hid _ := e1
          have HY : Hid _ := hy
          have hk0 : (0 : Int) ≤ (k : Int) := by omega
          have hk1 : (k : Int) < (n : Int) := by omega
          clear e1 hcell hbl hy
          go_upto_region 9 with fail
          go_region_held3 (fun w' => Below Wq.heap.size Wq w') (first | assumption | exact (Below.refl _ Wq).drew | exact Below.drew (by assumption) | fail)
            (first
            | (go_at_call 24; refine (KX.out _ (Rows.below BQ.out.rows (by first | assumption | exact (Below.refl _ Wq).drew) (Nat.le_refl _))).mono ?_; rintro e w1 ⟨rfl, hw1⟩; subst hw1)
            | fail)
          clear c0 bc ac acq
          cases y
          · have HZ0 : Hid (z = false) := by show _ = _; rw [HZ.out]; exact lessV_no a b x (List.mem_of_getElem? HE.out) HY.out.symm
            go_wp2_with fail
            go_ret
            exact ⟨by rw [HZ0.out]; rfl, SQ.out.trans (below_drewN' _ _ 1)⟩
          · have HA : Hid (∀ (j : Nat) v, a.vs[j]? = some v → j < k + 1 → b.vs.contains v = true) := fun j v hj hlt2 => by
              by_cases e : j = k
              · subst e
                rw [HE.out] at hj
                injection hj with hj
                rw [← hj]; exact HY.out.symm
              · exact hall.out j v hj (by omega)
            go_wp2_with fail
            go_roundw
            case rel => exact ⟨k + 1, m + 1, by omega, by go_num, HA, by rw [HWQ.out]; rfl⟩
            case measure => simp [intOf]; omega
        · have HZ1 : Hid (z = true) := by
            show _ = _
            rw [HZ.out, lessC_iff]
            refine ⟨HPUR.out, fun v hv => ?_⟩
            obtain ⟨j, hj⟩ := List.getElem?_of_mem (List.contains_iff_mem.1 hv)
            exact hall.out j v hj (by have := (List.getElem?_eq_some_iff.1 hj).1; rw [← HN.out] at this; omega)
          clear ac
          go_wp2_with fail
          go_ret
          exact ⟨by rw [HZ1.out]; rfl, SQ.out⟩
set_option maxHeartbeats 8000000 in
theorem cCheck_any (c : Cn) (v : Value) (w : World) (hr : Rows w v intF c.vs) (hm : c.vs.length ≤ maxLen) :
    Calls Try.prog 23 #[.agg #[.int .i64 c.g, .bool c.b0, .bool c.b1, .bool c.b2, .bool c.b3, .bool c.b4, .bool c.b5, .bool c.b6, .bool c.b7, .bool c.b8, .bool c.b9, v]] w fun e w' => e = .returned (.int .i64 (chC c)) ∧ Below w.heap.size w w' := by
  obtain ⟨ad, cap, rfl⟩ := hr.shape
  obtain ⟨z, hz⟩ : ∃ z, z = chC c := ⟨_, rfl⟩
  rw [← hz]
  have HZ : Hid _ := hz
  obtain ⟨n, hn⟩ : ∃ n, n = c.vs.length := ⟨_, rfl⟩
  have HN : Hid _ := hn
  rw [← hn] at hm ⊢
  have hr2 : Rows w (.slice ad n cap) intF c.vs := by rw [hn]; exact hr
  obtain ⟨W0, hW0⟩ : ∃ W0, W0 = (w.alloc (.cells #[.int .i64 c.g, .bool c.b0, .bool c.b1, .bool c.b2, .bool c.b3, .bool c.b4, .bool c.b5, .bool c.b6, .bool c.b7, .bool c.b8, .bool c.b9, (.slice ad n cap)] 25)) := ⟨_, rfl⟩
  have A : Hid (CB W0 w.heap.size c (.slice ad n cap)) := by
    rw [hW0]
    have h := CB.new w c (.slice ad n cap) 25 hr2
    exact h
  have S : Hid (Below w.heap.size w W0) := by rw [hW0]; exact below_new _ _
  have HW0 : Hid _ := hW0
  unfold maxLen at hm
  clear hz hn hr hr2 hW0
  go_enter Try.func23, Try.ntmps23
  go_upto_region 1 with fail
  rw [← HW0.out]
  clear HW0
  have c0 := A.out.row.cell 0 rfl
  by_cases g1 : c.g < 0
  · have HZ3 : Hid (z = 3) := by show _ = _; rw [HZ.out]; unfold chC; rw [if_pos (.inl g1)]
    go_wp2_with fail
    go_ret
    exact ⟨by rw [HZ3.out]; rfl, S.out⟩
  by_cases g2 : 68719476735 < c.g
  · have HZ3 : Hid (z = 3) := by show _ = _; rw [HZ.out]; unfold chC; rw [if_pos (.inr g2)]
    go_wp2_with fail
    go_ret
    exact ⟨by rw [HZ3.out]; rfl, S.out⟩
  have HZV : Hid (z = chV 0 c.vs) := by show _ = _; rw [HZ.out]; unfold chC; rw [if_neg (by omega)]
  go_wp2_with fail
  clear c0 g1 g2
  go_loopw [3] (fun i wr => ∃ (k m : Nat), k ≤ n ∧ i = .int .i64 k ∧ Hid (chV 0 (c.vs.take k) = 0) ∧ wr = W0.drewN m) (fun i _ => n - (intOf i).toNat)
  case atStart => exact ⟨0, 0, Nat.zero_le _, rfl, rfl, rfl⟩
  case round =>
    obtain ⟨k, m, hk, rfl, hall, hwq⟩ := hrel
    obtain ⟨Wq, hWq⟩ : ∃ W, W = wr := ⟨_, rfl⟩
    rw [← hWq] at hwq ⊢
    clear hWq
    have AQ : Hid (CB Wq w.heap.size c (.slice ad n cap)) := by rw [hwq]; exact ⟨⟨A.out.row.all⟩, A.out.rows⟩
    have SQ : Hid (Below w.heap.size w Wq) := by rw [hwq]; exact S.out.trans (below_drewN' _ _ _)
    have HWQ : Hid _ := hwq
    clear hwq
    have acq := AQ.out.row.cell 11 rfl
    by_cases hlt : k < n
    · obtain ⟨x, e1⟩ : ∃ x, c.vs[k]? = some x := ⟨_, List.getElem?_eq_getElem (by rw [← HN.out]; exact hlt)⟩
      obtain ⟨bl, ol, had, hbl, hcell⟩ := Rows.at AQ.out.rows rfl 0 (fun _ => rfl) k x e1
      subst had
      have c0 : Wq.cell? ⟨bl, ol + k, none⟩ = some (.int .i64 x) := by
        have h1 := hcell 0 _ rfl
        rw [show ol + k * (0 + 1) + 0 = ol + k by omega] at h1
        exact h1
      have hk1 : (k : Int) < (n : Int) := by omega
      cases k with
      | zero =>
        rw [Nat.add_zero] at c0
        have HD : Hid _ := chV_at 0 c.vs 0 x e1 rfl 0 rfl
        have HTK : Hid _ := chV_take 0 c.vs 0 x e1 rfl 0 rfl
        clear e1 hcell hbl
        by_cases h1 : x < 1
        · have HZ3 : Hid (z = 3) := by show _ = _; rw [HZV.out, HD.out, if_pos (.inl h1)]
          go_wp2_with fail
          go_ret
          exact ⟨by rw [HZ3.out]; rfl, SQ.out⟩
        by_cases h2 : 40 < x
        · have HZ3 : Hid (z = 3) := by show _ = _; rw [HZV.out, HD.out, if_pos (.inr h2)]
          go_wp2_with fail
          go_ret
          exact ⟨by rw [HZ3.out]; rfl, SQ.out⟩
        have HT2 : Hid _ := HTK.out (by omega) (by omega)
        go_wp2_with fail
        go_quiet (fail)
        go_wp2_with fail
        go_roundw
        case rel => exact ⟨1, _, by omega, by go_num, HT2, by rw [HWQ.out]; exact World.drewN_drewN _ _ _⟩
        case measure => simp [intOf]; omega
      | succ j =>
        obtain ⟨y, e2⟩ : ∃ y, c.vs[j]? = some y := ⟨_, List.getElem?_eq_getElem (by rw [← HN.out]; omega)⟩
        obtain ⟨bl2, ol2, had2, hbl2, hcell2⟩ := Rows.at AQ.out.rows rfl 0 (fun _ => rfl) j y e2
        injection had2 with had2
        injection had2 with hb1 hb2 _
        subst hb1 hb2
        have c1 : Wq.cell? ⟨bl, ol + j, none⟩ = some (.int .i64 y) := by
          have h1 := hcell2 0 _ rfl
          rw [show ol + j * (0 + 1) + 0 = ol + j by omega] at h1
          exact h1
        have hlast : y = (c.vs.take (j + 1)).getLast?.getD 0 := by rw [List.take_succ, e2]; simp
        have HD : Hid _ := chV_at 0 c.vs (j + 1) x e1 hall.out y hlast
        have HTK : Hid _ := chV_take 0 c.vs (j + 1) x e1 hall.out y hlast
        have hw1 : IntKind.i64.wrap (((j + 1 : Nat) : Int) - 1) = (j : Int) := by rw [IntWalk.i64_in _ (by omega)]; omega
        have hj1 : ((j + 1 : Nat) : Int) - 1 = (j : Int) := by omega
        have hj2 : (j : Int) < (n : Int) := by omega
        have hj3 : (0 : Int) < ((j + 1 : Nat) : Int) := by omega
        clear e1 hcell hbl e2 hcell2 hbl2 hlast
        by_cases h1 : x < 1
        · have HZ3 : Hid (z = 3) := by show _ = _; rw [HZV.out, HD.out, if_pos (.inl h1)]
          go_wp2_with fail
          go_ret
          exact ⟨by rw [HZ3.out]; rfl, SQ.out⟩
        by_cases h2 : 40 < x
        · have HZ3 : Hid (z = 3) := by show _ = _; rw [HZV.out, HD.out, if_pos (.inr h2)]
          go_wp2_with fail
          go_ret
          exact ⟨by rw [HZ3.out]; rfl, SQ.out⟩
        by_cases h3 : x ≤ y
        · have HZ4 : Hid (z = 4) := by show _ = _; rw [HZV.out, HD.out, if_neg (by omega), if_pos h3]
          go_wp2_with fail
          go_quiet (fail)
          go_wp2_with fail
          go_ret
          exact ⟨by rw [HZ4.out]; rfl, SQ.out.trans (below_drewN' _ _ _)⟩
        have HT2 : Hid _ := HTK.out (by omega) h3
        go_wp2_with fail
        go_quiet (fail)
        go_wp2_with fail
        go_roundw
        case rel => exact ⟨j + 1 + 1, _, by omega, by go_num, HT2, by rw [HWQ.out]; exact World.drewN_drewN _ _ _⟩
        case measure => simp [intOf]; omega
    · have HZ0 : Hid (z = 0) := by
        show _ = _
        have h := hall.out
        rw [List.take_of_length_le (by rw [← HN.out]; omega)] at h
        rw [HZV.out, h]
      go_wp2_with fail
      go_ret
      exact ⟨by rw [HZ0.out]; rfl, SQ.out⟩
end Go.Proofs.Ytklpfbakjiaaoaa
