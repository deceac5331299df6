/- The document's own answer: what either has. -/
import Derived.Test.YtklpfbakjiaaoaaRefE
namespace Go.Proofs.Ytklpfbakjiaaoaa
open Go.RowKit
set_option linter.all false
set_option maxRecDepth 100000

set_option maxHeartbeats 64000000 in
theorem joinOf_any (a b : Cn) (va vb : Value) (w : World) (ra : Rows w va intF a.vs) (rb : Rows w vb intF b.vs) (ma : a.vs.length ≤ 140737488351232) (mb : b.vs.length ≤ 140737488351232) :
    Calls Try.prog 11 #[.agg #[.int .i64 a.g, .bool a.b0, .bool a.b1, .bool a.b2, .bool a.b3, .bool a.b4, .bool a.b5, .bool a.b6, .bool a.b7, .bool a.b8, .bool a.b9, va], .agg #[.int .i64 b.g, .bool b.b0, .bool b.b1, .bool b.b2, .bool b.b3, .bool b.b4, .bool b.b5, .bool b.b6, .bool b.b7, .bool b.b8, .bool b.b9, vb]] w fun e w' => ∃ v', e = .returned (.tuple #[.agg (cnL (bothR (fun x y => x || y) a b) v').toArray, .int .i64 (bothE a b)]) ∧ Rows w' v' intF (bothR (fun x y => x || y) a b).vs ∧ Below w.heap.size w w' := by
  obtain ⟨d, hd⟩ : ∃ d, d = bothR (fun x y => x || y) a b := ⟨_, rfl⟩
  obtain ⟨z, hz⟩ : ∃ z, z = bothE a b := ⟨_, rfl⟩
  rw [← hd, ← hz]
  obtain ⟨rc, hrc⟩ : ∃ r, r = bothC (fun x y => x || y) a b := ⟨_, rfl⟩
  obtain ⟨mm, hmm⟩ : ∃ r, r = bothR (fun x y => x && y) a b := ⟨_, rfl⟩
  have HRC : Hid _ := hrc
  have HDR : Hid (¬ z = 0 → d = c0) := fun h => by rw [hz] at h; rw [hd]; unfold bothR; rw [if_neg h]
  have HDC : Hid (z = 0 → d = rc) := fun h => by rw [hz] at h; rw [hd, hrc]; unfold bothR; rw [if_pos h]
  have HMG : Hid (z = 0 → mm.g = max a.g b.g) := fun h => by rw [hz] at h; rw [hmm]; unfold bothR; rw [if_pos h]; rfl
  have HRA : Hid (∀ w', Below w.heap.size w w' → Rows w' va intF a.vs) := fun w' h => Rows.below ra h (Nat.le_refl _)
  have HRB : Hid (∀ w', Below w.heap.size w w' → Rows w' vb intF b.vs) := fun w' h => Rows.below rb h (Nat.le_refl _)
  have KM : Hid (∀ w', Rows w' va intF a.vs → Rows w' vb intF b.vs → Calls Try.prog 10 #[.agg #[.int .i64 a.g, .bool a.b0, .bool a.b1, .bool a.b2, .bool a.b3, .bool a.b4, .bool a.b5, .bool a.b6, .bool a.b7, .bool a.b8, .bool a.b9, va], .agg #[.int .i64 b.g, .bool b.b0, .bool b.b1, .bool b.b2, .bool b.b3, .bool b.b4, .bool b.b5, .bool b.b6, .bool b.b7, .bool b.b8, .bool b.b9, vb]] w' fun e w'' => ∃ v, e = .returned (.tuple #[.agg #[.int .i64 mm.g, .bool mm.b0, .bool mm.b1, .bool mm.b2, .bool mm.b3, .bool mm.b4, .bool mm.b5, .bool mm.b6, .bool mm.b7, .bool mm.b8, .bool mm.b9, v], .int .i64 z]) ∧ Rows w'' v intF mm.vs ∧ Below w'.heap.size w' w'') := fun w' h1 h2 => by
    have h := meetOf_any a b va vb w' h1 h2 ma mb
    rw [← hmm, ← hz] at h
    exact h
  have KHA : Hid (∀ (x : Int) (w' : World), Rows w' va intF a.vs → Calls Try.prog 24 #[va, .int .i64 x] w' fun e w'' => e = .returned (.bool (a.vs.contains x)) ∧ w'' = w') := fun x w' h => hasV_any va a.vs x w' h (by unfold maxLen; omega)
  have KHB : Hid (∀ (x : Int) (w' : World), Rows w' vb intF b.vs → Calls Try.prog 24 #[vb, .int .i64 x] w' fun e w'' => e = .returned (.bool (b.vs.contains x)) ∧ w'' = w') := fun x w' h => hasV_any vb b.vs x w' h (by unfold maxLen; omega)
  obtain ⟨W0, hW0⟩ : ∃ W0, W0 = (((w.alloc (.cells #[.int .i64 a.g, .bool a.b0, .bool a.b1, .bool a.b2, .bool a.b3, .bool a.b4, .bool a.b5, .bool a.b6, .bool a.b7, .bool a.b8, .bool a.b9, va] 25)).alloc (.cells #[.int .i64 b.g, .bool b.b0, .bool b.b1, .bool b.b2, .bool b.b3, .bool b.b4, .bool b.b5, .bool b.b6, .bool b.b7, .bool b.b8, .bool b.b9, vb] 25)).alloc (.cells #[.int .i64 0, .bool false, .bool false, .bool false, .bool false, .bool false, .bool false, .bool false, .bool false, .bool false, .bool false, .slice none 0 0] 25)) := ⟨_, rfl⟩
  have A0 : Hid (CB W0 w.heap.size a va) := by rw [hW0]; exact ((CB.new w a va 25 ra).below (below_new _ _)).below (below_new _ _)
  have B0 : Hid (CB W0 (w.heap.size + 1) b vb) := by
    rw [hW0]
    have h := CB.new (w.alloc (.cells #[.int .i64 a.g, .bool a.b0, .bool a.b1, .bool a.b2, .bool a.b3, .bool a.b4, .bool a.b5, .bool a.b6, .bool a.b7, .bool a.b8, .bool a.b9, va] 25)) b vb 25 (Rows.below rb (below_new _ _) (Nat.le_refl _))
    rw [show (w.alloc (.cells #[.int .i64 a.g, .bool a.b0, .bool a.b1, .bool a.b2, .bool a.b3, .bool a.b4, .bool a.b5, .bool a.b6, .bool a.b7, .bool a.b8, .bool a.b9, va] 25)).heap.size = w.heap.size + 1 from by simp] at h
    exact h.below (below_new _ _)
  have R0 : Hid (LRow W0 (w.heap.size + 1 + 1) (cnL c0 (.slice none 0 0))) := by
    rw [hW0]
    have h := LRow.new ((w.alloc (.cells #[.int .i64 a.g, .bool a.b0, .bool a.b1, .bool a.b2, .bool a.b3, .bool a.b4, .bool a.b5, .bool a.b6, .bool a.b7, .bool a.b8, .bool a.b9, va] 25)).alloc (.cells #[.int .i64 b.g, .bool b.b0, .bool b.b1, .bool b.b2, .bool b.b3, .bool b.b4, .bool b.b5, .bool b.b6, .bool b.b7, .bool b.b8, .bool b.b9, vb] 25)) (cnL c0 (.slice none 0 0)) 25
    rw [show ((w.alloc (.cells #[.int .i64 a.g, .bool a.b0, .bool a.b1, .bool a.b2, .bool a.b3, .bool a.b4, .bool a.b5, .bool a.b6, .bool a.b7, .bool a.b8, .bool a.b9, va] 25)).alloc (.cells #[.int .i64 b.g, .bool b.b0, .bool b.b1, .bool b.b2, .bool b.b3, .bool b.b4, .bool b.b5, .bool b.b6, .bool b.b7, .bool b.b8, .bool b.b9, vb] 25)).heap.size = w.heap.size + 1 + 1 from by simp] at h
    exact h
  have S0 : Hid (Below w.heap.size w W0) := by rw [hW0]; exact next (next (below_new _ _) (below_new _ _)) (below_new _ _)
  have HW0 : Hid _ := hW0
  clear ra rb ma mb hd hz hrc hmm hW0
  go_enter Try.func11, Try.ntmps11
  go_upto_region 1 with fail
  rw [← HW0.out]
  clear HW0
  have x0 := A0.out.row.cell 0 rfl
  have y0 := B0.out.row.cell 0 rfl
  have x1 := A0.out.row.cell 1 rfl
  have y1 := B0.out.row.cell 1 rfl
  have x2 := A0.out.row.cell 2 rfl
  have y2 := B0.out.row.cell 2 rfl
  have x3 := A0.out.row.cell 3 rfl
  have y3 := B0.out.row.cell 3 rfl
  have x4 := A0.out.row.cell 4 rfl
  have y4 := B0.out.row.cell 4 rfl
  have x5 := A0.out.row.cell 5 rfl
  have y5 := B0.out.row.cell 5 rfl
  have x6 := A0.out.row.cell 6 rfl
  have y6 := B0.out.row.cell 6 rfl
  have x7 := A0.out.row.cell 7 rfl
  have y7 := B0.out.row.cell 7 rfl
  have x8 := A0.out.row.cell 8 rfl
  have y8 := B0.out.row.cell 8 rfl
  have x9 := A0.out.row.cell 9 rfl
  have y9 := B0.out.row.cell 9 rfl
  have x10 := A0.out.row.cell 10 rfl
  have y10 := B0.out.row.cell 10 rfl
  have x11 := A0.out.row.cell 11 rfl
  have y11 := B0.out.row.cell 11 rfl
  go_wp2_with fail
  refine (KM.out _ (HRA.out _ S0.out) (HRB.out _ S0.out)).mono ?_
  rintro e v1 ⟨vm, rfl, rm, hb1⟩
  obtain ⟨mad, mcap, rfl⟩ := rm.shape
  clear x0 x1 x2 x3 x4 x5 x6 x7 x8 x9 x10 x11 y0 y1 y2 y3 y4 y5 y6 y7 y8 y9 y10 y11 rm
  obtain ⟨O, hO⟩ : ∃ O, O = v1.heap.size := ⟨_, rfl⟩
  obtain ⟨W3, hW3⟩ : ∃ W, W = v1.alloc (.cells #[.int .i64 mm.g, .bool mm.b0, .bool mm.b1, .bool mm.b2, .bool mm.b3, .bool mm.b4, .bool mm.b5, .bool mm.b6, .bool mm.b7, .bool mm.b8, .bool mm.b9, (.slice mad mm.vs.length mcap)] 25) := ⟨_, rfl⟩
  have S03 : Below W0.heap.size W0 W3 := by rw [hW3]; exact next hb1 (below_new _ _)
  have L3 : Hid (LRow W3 O (cnL mm (.slice mad mm.vs.length mcap))) := by rw [hW3, hO]; exact LRow.new v1 (cnL mm (.slice mad mm.vs.length mcap)) 25
  have A3 : Hid (LRow W3 w.heap.size (cnL a va)) := (A0.out.below S03).row
  have B3 : Hid (LRow W3 (w.heap.size + 1) (cnL b vb)) := (B0.out.below S03).row
  have RR3 : Hid (LRow W3 (w.heap.size + 1 + 1) (cnL c0 (.slice none 0 0))) := R0.out.below S03 (cell_in (R0.out.cell 0 rfl))
  have S3 : Hid (Below w.heap.size w W3) := next S0.out S03
  have HOLL : Hid ((w.heap.size + 1 + 1) < O) := by show _ < _; rw [hO]; exact Nat.lt_of_lt_of_le (cell_in (R0.out.cell 0 rfl)) hb1.size
  have HW3 : Hid _ := hW3
  have HOE : Hid _ := hO
  clear hW3 hO S03 hb1 A0 B0 R0 S0
  go_upto_region 2 with fail
  rw [← HW3.out, ← HOE.out]
  clear HW3 HOE
  by_cases hk1 : z = 0
  rotate_left
  · have q2 : (z != 0) = true := by rw [bne_iff_ne]; exact hk1
    have HZK : Hid (z = z) := rfl
    have HDK : Hid (d = c0) := HDR.out hk1
    clear hk1
    have o0 := RR3.out.cell 0 rfl
    have f0 := RR3.out.frozen 0 rfl
    have o1 := RR3.out.cell 1 rfl
    have f1 := RR3.out.frozen 1 rfl
    have o2 := RR3.out.cell 2 rfl
    have f2 := RR3.out.frozen 2 rfl
    have o3 := RR3.out.cell 3 rfl
    have f3 := RR3.out.frozen 3 rfl
    have o4 := RR3.out.cell 4 rfl
    have f4 := RR3.out.frozen 4 rfl
    have o5 := RR3.out.cell 5 rfl
    have f5 := RR3.out.frozen 5 rfl
    have o6 := RR3.out.cell 6 rfl
    have f6 := RR3.out.frozen 6 rfl
    have o7 := RR3.out.cell 7 rfl
    have f7 := RR3.out.frozen 7 rfl
    have o8 := RR3.out.cell 8 rfl
    have f8 := RR3.out.frozen 8 rfl
    have o9 := RR3.out.cell 9 rfl
    have f9 := RR3.out.frozen 9 rfl
    have o10 := RR3.out.cell 10 rfl
    have f10 := RR3.out.frozen 10 rfl
    have o11 := RR3.out.cell 11 rfl
    have f11 := RR3.out.frozen 11 rfl
    go_wp2_with fail
    generalize hW2 : World.setCell _ _ _ = W2
    have HP : Hid (LRow W2 (w.heap.size + 1 + 1) (cnL c0 (.slice none 0 0))) := by
      rw [← hW2]
      exact (((((((((((RR3.out.set 0 _).set 1 _).set 2 _).set 3 _).set 4 _).set 5 _).set 6 _).set 7 _).set 8 _).set 9 _).set 10 _).set 11 _
    have HB2 : Hid (Below w.heap.size w W2) := by
      rw [← hW2]
      iterate 12 refine Below.setCell ?_ (show w.heap.size ≤ (w.heap.size + 1 + 1) by omega) _
      exact S3.out
    clear hW2 o0 f0 o1 f1 o2 f2 o3 f3 o4 f4 o5 f5 o6 f6 o7 f7 o8 f8 o9 f9 o10 f10 o11 f11
    have p0 := HP.out.cell 0 rfl
    have p1 := HP.out.cell 1 rfl
    have p2 := HP.out.cell 2 rfl
    have p3 := HP.out.cell 3 rfl
    have p4 := HP.out.cell 4 rfl
    have p5 := HP.out.cell 5 rfl
    have p6 := HP.out.cell 6 rfl
    have p7 := HP.out.cell 7 rfl
    have p8 := HP.out.cell 8 rfl
    have p9 := HP.out.cell 9 rfl
    have p10 := HP.out.cell 10 rfl
    have p11 := HP.out.cell 11 rfl
    exact bodyPost_ret (v := .tuple #[.agg #[.int .i64 0, .bool false, .bool false, .bool false, .bool false, .bool false, .bool false, .bool false, .bool false, .bool false, .bool false, .slice none 0 0], .int .i64 z]) (by simp [results, Try.results11, go_sem, cnL, c0, p0, p1, p2, p3, p4, p5, p6, p7, p8, p9, p10, p11]) rfl ⟨_, by rw [HDK.out]; rfl, by rw [HDK.out]; exact ⟨none, 0, rfl, .inl rfl⟩, HB2.out⟩
  have q2 : (z != 0) = false := by rw [hk1]; rfl
  have HZ0 : Hid (z = 0) := hk1
  have HD0 : Hid (d = rc) := HDC.out hk1
  clear hk1 HDR HDC KM
  obtain ⟨G, hG⟩ : ∃ G, G = max a.g b.g := ⟨_, rfl⟩
  obtain ⟨old, hold⟩ : ∃ f : Nat → Bool, f = fun (j : Nat) => mm.ps[j]?.getD false := ⟨_, rfl⟩
  obtain ⟨nw, hnw⟩ : ∃ f : Nat → Bool, f = fun (j : Nat) => a.ps[j]?.getD false || b.ps[j]?.getD false := ⟨_, rfl⟩
  have L4 : Hid (LRow W3 O (rowN G old nw 0 (.slice mad mm.vs.length mcap))) := by
    have e : rowN G old nw 0 (.slice mad mm.vs.length mcap) = cnL mm (.slice mad mm.vs.length mcap) := by rw [hG, hold, ← HMG.out (HZ0.out)]; rfl
    show LRow _ _ _
    rw [e]; exact L3.out
  have HOL : Hid ((w.heap.size + 1 + 1) < O) := HOLL
  have HNW : Hid (∀ k, nw k = (a.ps[k]?.getD false || b.ps[k]?.getD false)) := fun k => by rw [hnw]
  have HEND : Hid (∀ vv, rowN G old nw 10 vv = cnL rc vv) := fun vv => by rw [HRC.out, hnw, hG]; rfl
  clear hold hnw hG L3
  have g11 := L4.out.cell 11 (rowN_v _ _ _ _ _)
  have gf11 := L4.out.frozen 11 (rowN_v _ _ _ _ _)
  obtain ⟨W5, hW5⟩ : ∃ W, W = W3.setCell ⟨O, 11, none⟩ (.slice none 0 0) := ⟨_, rfl⟩
  have R5 : Hid (LRow W5 O (rowN G old nw 0 (.slice none 0 0))) := by rw [hW5]; exact L4.out.set 11 _
  have A5 : Hid (LRow W5 w.heap.size (cnL a va)) := by rw [hW5]; exact rowSetR A3.out (by have := HOL.out; omega)
  have B5 : Hid (LRow W5 (w.heap.size + 1) (cnL b vb)) := by rw [hW5]; exact rowSetR B3.out (by have := HOL.out; omega)
  have RR5 : Hid (LRow W5 (w.heap.size + 1 + 1) (cnL c0 (.slice none 0 0))) := by rw [hW5]; exact rowSetR RR3.out (by have := HOL.out; omega)
  have S5 : Hid (Below w.heap.size w W5) := by rw [hW5]; exact S3.out.setCell (p := ⟨O, 11, none⟩) (show w.heap.size ≤ O by have := HOL.out; omega) _
  have HW5 : Hid _ := hW5
  clear hW5
  go_upto_region 5 with fail
  rw [← HW5.out]
  clear HW5 g11 gf11 A3 B3 RR3 S3 L4 q2
  go_wp2_with fail
  go_loopw [8] (fun i wr => ∃ k : Nat, k ≤ 10 ∧ i = .int .i64 k ∧ Hid (LRow wr O (rowN G old nw k (.slice none 0 0))) ∧ Hid (Below O W5 wr)) (fun i _ => 10 - (intOf i).toNat)
  case atStart => exact ⟨0, Nat.zero_le _, rfl, R5, Below.refl _ _⟩
  case round =>
    obtain ⟨k, hk, rfl, hrow, hb⟩ := hrel
    have AR : Hid (LRow wr w.heap.size (cnL a va)) := A5.out.below hb.out (by have := HOL.out; omega)
    have BR : Hid (LRow wr (w.heap.size + 1) (cnL b vb)) := B5.out.below hb.out (by have := HOL.out; omega)
    by_cases hlt : k < 10
    · obtain ⟨x, hbb⟩ : ∃ b, b = a.ps[k]?.getD false := ⟨_, rfl⟩
      obtain ⟨y, hyy⟩ : ∃ y, y = b.ps[k]?.getD false := ⟨_, rfl⟩
      have cx : wr.cell? ⟨w.heap.size, 1 + k, none⟩ = some (.bool x) := by rw [hbb]; exact AR.out.cell (1 + k) (ps_get a _ k hlt)
      have cy : wr.cell? ⟨w.heap.size + 1, 1 + k, none⟩ = some (.bool y) := by rw [hyy]; exact BR.out.cell (1 + k) (ps_get b _ k hlt)
      obtain ⟨u, hu⟩ := rowN_get G old nw k k hlt (.slice none 0 0)
      have co : wr.cell? ⟨O, 1 + k, none⟩ = some u := hrow.out.cell (1 + k) hu
      have fo : wr.frozen? ⟨O, 1 + k, none⟩ = false := hrow.out.frozen (1 + k) hu
      have HS : Hid (∀ t, nw k = t → LRow (wr.setCell ⟨O, 1 + k, none⟩ (.bool t)) O (rowN G old nw (k + 1) (.slice none 0 0))) := fun t e => by rw [← rowN_set G old nw k hlt, e]; exact hrow.out.set (1 + k) _
      have HBS : Hid (∀ t, Below O W5 (wr.setCell ⟨O, 1 + k, none⟩ t)) := fun t => hb.out.setCell (p := ⟨O, 1 + k, none⟩) (Nat.le_refl _) t
      have HNK : Hid (nw k = (x || y)) := by show _ = _; rw [HNW.out, hbb, hyy]
      have hk2 : (k : Int) < 10 := by omega
      clear hbb hyy hu
      cases x
      · go_wp2_with fail
        go_roundw
        case rel => exact ⟨k + 1, by omega, by go_num, HS.out y (by rw [HNK.out]; rfl), HBS.out _⟩
        case measure => simp [intOf]; omega
      · go_wp2_with fail
        go_roundw
        case rel => exact ⟨k + 1, by omega, by go_num, HS.out true (by rw [HNK.out]; rfl), HBS.out _⟩
        case measure => simp [intOf]; omega
    · obtain ⟨k1, hk1'⟩ : ∃ k1, k1 = k := ⟨_, rfl⟩
      have hk10 : k1 = 10 := by omega
      rw [← hk1'] at hrow hlt ⊢
      rw [hk10] at hrow
      clear hk10 hk1'
      obtain ⟨W6, hW6⟩ : ∃ W, W = wr := ⟨_, rfl⟩
      rw [← hW6] at hrow hb AR BR ⊢
      have RR6 : Hid (LRow W6 (w.heap.size + 1 + 1) (cnL c0 (.slice none 0 0))) := RR5.out.below hb.out HOL.out
      have S6 : Hid (Below w.heap.size w W6) := S5.out.trans (hb.out.mono (by have := HOL.out; omega))
      clear hW6 hk hb A5 B5 R5 RR5 S5
      go_wp2_with fail
      go_loopw [9] (fun i wr => ∃ (k : Nat) (ii : Int) (vv : Value), k ≤ 40 ∧ i = .int .i64 ii ∧ Hid (ii = (k : Int) + 1) ∧ Hid (LRow wr O (rowN G old nw 10 vv)) ∧ wr.ownsRow (O + 1) 3 1 vv (vtake (fun x y => x || y) a b k).length ((vtake (fun x y => x || y) a b k).flatMap intF) ∧ Hid (Below O W6 wr)) (fun i _ => 41 - (intOf i).toNat)
      case atStart => exact ⟨0, 1, (.slice none 0 0), Nat.zero_le _, rfl, rfl, hrow, World.ownsRow_nil _ _ _ _, Below.refl _ _⟩
      case round =>
        obtain ⟨k, ii, vv, hk, rfl, hii, hrw, hown, hb⟩ := hrel
        obtain ⟨sad, scap, rfl⟩ := g_slice hown
        have A7 : Hid (LRow wr w.heap.size (cnL a va)) := AR.out.below hb.out (by have := HOL.out; omega)
        have B7 : Hid (LRow wr (w.heap.size + 1) (cnL b vb)) := BR.out.below hb.out (by have := HOL.out; omega)
        have RR7 : Hid (LRow wr (w.heap.size + 1 + 1) (cnL c0 (.slice none 0 0))) := RR6.out.below hb.out HOL.out
        have S7 : Hid (Below w.heap.size w wr) := S6.out.trans (hb.out.mono (by have := HOL.out; omega))
        have hXw : Hid (O < wr.heap.size) := cell_in (hrw.out.cell 0 rfl)
        have hi1 : 1 ≤ ii := by have := hii.out; omega
        have hi2 : ii ≤ 41 := by have := hii.out; omega
        by_cases hlt : k < 40
        · have hi3 : ii ≤ 40 := by have := hii.out; omega
          obtain ⟨x, hx⟩ : ∃ t, t = a.vs.contains ii := ⟨_, rfl⟩
          obtain ⟨y, hy⟩ : ∃ t, t = b.vs.contains ii := ⟨_, rfl⟩
          have KX : Hid (∀ w' : World, Rows w' va intF a.vs → Calls Try.prog 24 #[va, .int .i64 ii] w' fun e w'' => e = .returned (.bool x) ∧ w'' = w') := by rw [hx]; exact KHA.out ii
          have KY : Hid (∀ w' : World, Rows w' vb intF b.vs → Calls Try.prog 24 #[vb, .int .i64 ii] w' fun e w'' => e = .returned (.bool y) ∧ w'' = w') := by rw [hy]; exact KHB.out ii
          have HA1 : Hid ((x || y) = true → vtake (fun x y => x || y) a b (k + 1) = vtake (fun x y => x || y) a b k ++ [ii]) := fun h => by rw [hii.out]; exact vtake_yes _ a b k hlt (by rw [← hii.out]; show (a.vs.contains ii || b.vs.contains ii) = true; rw [← hx, ← hy]; exact h)
          have HA0 : Hid ((x || y) = false → vtake (fun x y => x || y) a b (k + 1) = vtake (fun x y => x || y) a b k) := fun h => vtake_no _ a b k hlt (by rw [← hii.out]; show (a.vs.contains ii || b.vs.contains ii) = false; rw [← hx, ← hy]; exact h)
          obtain ⟨m, hm⟩ : ∃ m, m = (vtake (fun x y => x || y) a b k).length := ⟨_, rfl⟩
          have hmk : m ≤ k := by rw [hm]; exact vtake_len _ a b k
          obtain ⟨xs, hxs⟩ : ∃ xs, xs = (vtake (fun x y => x || y) a b k).flatMap intF := ⟨_, rfl⟩
          rw [← hm, ← hxs] at hown
          rw [← hm] at hrw
          have HM : Hid _ := hm
          have HXSS : Hid _ := hxs
          have HII : Hid (ii + 1 = ((k + 1 : Nat) : Int) + 1) := by show _ = _; have := hii.out; omega
          have a11 := A7.out.cell 11 rfl
          have b11 := B7.out.cell 11 rfl
          clear hx hy hm hxs hii
          go_wp2_with fail
          refine (KX.out _ (HRA.out _ S7.out)).mono ?_
          rintro e w1 ⟨rfl, hw1⟩
          subst hw1
          have ADD : True := trivial
          cases x
          · go_wp2_with fail
            refine (KY.out _ (HRB.out _ S7.out)).mono ?_
            rintro e w2 ⟨rfl, hw2⟩
            subst hw2
            cases y
            · go_wp2_with fail
              go_roundw
              case rel => exact ⟨k + 1, ii + 1, _, by omega, by go_num, HII, hrw, by rw [HA0.out rfl, ← HM.out, ← HXSS.out]; exact hown, hb⟩
              case measure => simp [intOf]; omega
            · skip
              obtain ⟨i0, hi, hz0, hz1, hz2⟩ := g_infoInt
              have c11 := hrw.out.cell 11 (rowN_v _ _ _ _ _)
              go_wp2_with (at_builtin; refine wpList_append_own _ rfl _ _ 23 rfl (O + 1) 3 i0 (.int .i64 0) 1 8 Try.underlying23 hi hz0 hz1 hz2 rfl (by decide) _ _ _ rfl (hown.alloc _) ⟨w2.heap.size, 0, none⟩ 1 1 [.int .i64 ii] rfl rfl (g_cell1 _ _ _ _ rfl) (by simp [Value.oneCell']) ?c1 ?c2 ?c3 ?_)
              case c1 => unfold maxLen; omega
              case c2 => omega
              case c3 => have := hXw.out; simp; omega
              intro v3 w3 hown3 hg3 _
              have hA3 : Below (O + 1) (w2.alloc (.cells #[.int .i64 ii] 3)) w3 := (Below.refl (O + 1) _).grown hg3 (by have := hXw.out; simp; omega) (fun q e => (hown.lt q e).1)
              obtain ⟨ad3, cap3, rfl⟩ := g_slice hown3
              have R7 : Hid (LRow w3 O (rowN G old nw 10 (.slice sad m scap))) := (hrw.out.below (below_new _ _) hXw.out).below hA3 (Nat.lt_succ_self O)
              have R8 : Hid (LRow (w3.setCell ⟨O, 11, none⟩ (.slice ad3 (m + 1) cap3)) O (rowN G old nw 10 (.slice ad3 (m + 1) cap3))) := R7.out.set 11 _
              have O8 : Hid ((w3.setCell ⟨O, 11, none⟩ (.slice ad3 (m + 1) cap3)).ownsRow (O + 1) 3 1 (.slice ad3 (m + 1) cap3) (m + 1) (xs ++ [.int .i64 ii])) := own_setR hown3 (Nat.lt_succ_self O)
              have B8 : Hid (Below O W6 (w3.setCell ⟨O, 11, none⟩ (.slice ad3 (m + 1) cap3))) := ((hb.out.trans ((below_new _ _).mono (Nat.le_of_lt hXw.out))).trans (hA3.mono (Nat.le_succ O))).setCell (p := ⟨O, 11, none⟩) (Nat.le_refl _) _
              have c7 := R7.out.cell 11 (rowN_v _ _ _ _ _)
              have f7 := R7.out.frozen 11 (rowN_v _ _ _ _ _)
              clear hown3 hg3 hA3 hown hrw R7 hb hi hz0 hz1 hz2 c11 a11 b11
              go_wp2_with fail
              go_roundw
              case rel => exact ⟨k + 1, ii + 1, _, by omega, by go_num, HII, R8, by rw [HA1.out (by first | rfl | trivial), List.length_append, List.flatMap_append, ← HM.out, ← HXSS.out]; exact O8.out, B8⟩
              case measure => simp [intOf]; omega
          · skip
            obtain ⟨i0, hi, hz0, hz1, hz2⟩ := g_infoInt
            have c11 := hrw.out.cell 11 (rowN_v _ _ _ _ _)
            go_wp2_with (at_builtin; refine wpList_append_own _ rfl _ _ 23 rfl (O + 1) 3 i0 (.int .i64 0) 1 8 Try.underlying23 hi hz0 hz1 hz2 rfl (by decide) _ _ _ rfl (hown.alloc _) ⟨w1.heap.size, 0, none⟩ 1 1 [.int .i64 ii] rfl rfl (g_cell1 _ _ _ _ rfl) (by simp [Value.oneCell']) ?c1 ?c2 ?c3 ?_)
            case c1 => unfold maxLen; omega
            case c2 => omega
            case c3 => have := hXw.out; simp; omega
            intro v3 w3 hown3 hg3 _
            have hA3 : Below (O + 1) (w1.alloc (.cells #[.int .i64 ii] 3)) w3 := (Below.refl (O + 1) _).grown hg3 (by have := hXw.out; simp; omega) (fun q e => (hown.lt q e).1)
            obtain ⟨ad3, cap3, rfl⟩ := g_slice hown3
            have R7 : Hid (LRow w3 O (rowN G old nw 10 (.slice sad m scap))) := (hrw.out.below (below_new _ _) hXw.out).below hA3 (Nat.lt_succ_self O)
            have R8 : Hid (LRow (w3.setCell ⟨O, 11, none⟩ (.slice ad3 (m + 1) cap3)) O (rowN G old nw 10 (.slice ad3 (m + 1) cap3))) := R7.out.set 11 _
            have O8 : Hid ((w3.setCell ⟨O, 11, none⟩ (.slice ad3 (m + 1) cap3)).ownsRow (O + 1) 3 1 (.slice ad3 (m + 1) cap3) (m + 1) (xs ++ [.int .i64 ii])) := own_setR hown3 (Nat.lt_succ_self O)
            have B8 : Hid (Below O W6 (w3.setCell ⟨O, 11, none⟩ (.slice ad3 (m + 1) cap3))) := ((hb.out.trans ((below_new _ _).mono (Nat.le_of_lt hXw.out))).trans (hA3.mono (Nat.le_succ O))).setCell (p := ⟨O, 11, none⟩) (Nat.le_refl _) _
            have c7 := R7.out.cell 11 (rowN_v _ _ _ _ _)
            have f7 := R7.out.frozen 11 (rowN_v _ _ _ _ _)
            clear hown3 hg3 hA3 hown hrw R7 hb hi hz0 hz1 hz2 c11 a11 b11
            go_wp2_with fail
            go_roundw
            case rel => exact ⟨k + 1, ii + 1, _, by omega, by go_num, HII, R8, by rw [HA1.out (by first | rfl | trivial), List.length_append, List.flatMap_append, ← HM.out, ← HXSS.out]; exact O8.out, B8⟩
            case measure => simp [intOf]; omega
        · have hi3 : ¬ ii ≤ 40 := by have := hii.out; omega
          have HAL : Hid (vtake (fun x y => x || y) a b k = rc.vs) := by show _ = _; rw [HRC.out, show k = 40 by omega]; exact vtake_all _ a b
          obtain ⟨m, hm2⟩ : ∃ m, m = (vtake (fun x y => x || y) a b k).length := ⟨_, rfl⟩
          rw [← hm2] at hrw hown
          have HRW : Hid (LRow wr O (cnL rc (.slice sad m scap))) := by show LRow _ _ _; rw [← HEND.out]; exact hrw.out
          have HML : Hid (m = rc.vs.length) := by show _ = _; rw [hm2, HAL.out]
          rw [HAL.out] at hown
          have OWN : Hid (wr.ownsRow (O + 1) 3 1 (.slice sad m scap) m (rc.vs.flatMap intF)) := hown
          clear hown hm2 hrw HAL HEND hii
          have z0 := HRW.out.cell 0 rfl
          have o0 := RR7.out.cell 0 rfl
          have f0 := RR7.out.frozen 0 rfl
          have z1 := HRW.out.cell 1 rfl
          have o1 := RR7.out.cell 1 rfl
          have f1 := RR7.out.frozen 1 rfl
          have z2 := HRW.out.cell 2 rfl
          have o2 := RR7.out.cell 2 rfl
          have f2 := RR7.out.frozen 2 rfl
          have z3 := HRW.out.cell 3 rfl
          have o3 := RR7.out.cell 3 rfl
          have f3 := RR7.out.frozen 3 rfl
          have z4 := HRW.out.cell 4 rfl
          have o4 := RR7.out.cell 4 rfl
          have f4 := RR7.out.frozen 4 rfl
          have z5 := HRW.out.cell 5 rfl
          have o5 := RR7.out.cell 5 rfl
          have f5 := RR7.out.frozen 5 rfl
          have z6 := HRW.out.cell 6 rfl
          have o6 := RR7.out.cell 6 rfl
          have f6 := RR7.out.frozen 6 rfl
          have z7 := HRW.out.cell 7 rfl
          have o7 := RR7.out.cell 7 rfl
          have f7 := RR7.out.frozen 7 rfl
          have z8 := HRW.out.cell 8 rfl
          have o8 := RR7.out.cell 8 rfl
          have f8 := RR7.out.frozen 8 rfl
          have z9 := HRW.out.cell 9 rfl
          have o9 := RR7.out.cell 9 rfl
          have f9 := RR7.out.frozen 9 rfl
          have z10 := HRW.out.cell 10 rfl
          have o10 := RR7.out.cell 10 rfl
          have f10 := RR7.out.frozen 10 rfl
          have z11 := HRW.out.cell 11 rfl
          have o11 := RR7.out.cell 11 rfl
          have f11 := RR7.out.frozen 11 rfl
          go_wp2_with fail
          generalize hW2 : World.setCell _ _ _ = W2
          have HP : Hid (LRow W2 (w.heap.size + 1 + 1) (cnL rc (.slice sad m scap))) := by
            rw [← hW2]
            exact (((((((((((RR7.out.set 0 _).set 1 _).set 2 _).set 3 _).set 4 _).set 5 _).set 6 _).set 7 _).set 8 _).set 9 _).set 10 _).set 11 _
          have HB2 : Hid (Below w.heap.size w W2) := by
            rw [← hW2]
            iterate 12 refine Below.setCell ?_ (show w.heap.size ≤ (w.heap.size + 1 + 1) by omega) _
            exact S7.out
          have OW2 : Hid (W2.ownsRow (O + 1) 3 1 (.slice sad m scap) m (rc.vs.flatMap intF)) := by
            rw [← hW2]
            iterate 12 refine own_setR ?_ (show w.heap.size + 1 + 1 < O + 1 by have := HOL.out; omega)
            exact OWN.out
          have RVF : Hid (Rows W2 (.slice sad m scap) intF rc.vs) := by
            have h := Reads.of_own OW2.out
            rw [HML.out] at h ⊢
            exact h
          clear hW2 o0 f0 o1 f1 o2 f2 o3 f3 o4 f4 o5 f5 o6 f6 o7 f7 o8 f8 o9 f9 o10 f10 o11 f11 z0 z1 z2 z3 z4 z5 z6 z7 z8 z9 z10 z11
          have p0 := HP.out.cell 0 rfl
          have p1 := HP.out.cell 1 rfl
          have p2 := HP.out.cell 2 rfl
          have p3 := HP.out.cell 3 rfl
          have p4 := HP.out.cell 4 rfl
          have p5 := HP.out.cell 5 rfl
          have p6 := HP.out.cell 6 rfl
          have p7 := HP.out.cell 7 rfl
          have p8 := HP.out.cell 8 rfl
          have p9 := HP.out.cell 9 rfl
          have p10 := HP.out.cell 10 rfl
          have p11 := HP.out.cell 11 rfl
          exact bodyPost_ret (v := .tuple #[.agg (cnL rc (.slice sad m scap)).toArray, .int .i64 0]) (by simp [results, Try.results11, go_sem, cnL, c0, p0, p1, p2, p3, p4, p5, p6, p7, p8, p9, p10, p11]) rfl ⟨_, by rw [HD0.out, HZ0.out], by rw [HD0.out]; exact RVF.out, HB2.out⟩
end Go.Proofs.Ytklpfbakjiaaoaa
