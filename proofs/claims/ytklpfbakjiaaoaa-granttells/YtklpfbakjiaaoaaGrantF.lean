/- The contracts of Meet and Join themselves. -/
import Derived.Test.YtklpfbakjiaaoaaGrantD
namespace Go.Proofs.Ytklpfbakjiaaoaa
open Go.RowKit Go.Maps
set_option linter.all false
set_option maxRecDepth 100000

set_option maxHeartbeats 4000000 in
theorem meet_any (a b : Cn) (va vb : Value) (w : World) (hra : Rows w va intF a.vs) (hrb : Rows w vb intF b.vs) (hma : a.vs.length ≤ 140737488351232) (hmb : b.vs.length ≤ 140737488351232) (hia : inR a.vs) (hib : inR b.vs) :
    Calls Try.prog 7 #[.agg #[.int .i64 a.g, .bool a.b0, .bool a.b1, .bool a.b2, .bool a.b3, .bool a.b4, .bool a.b5, .bool a.b6, .bool a.b7, .bool a.b8, .bool a.b9, va], .agg #[.int .i64 b.g, .bool b.b0, .bool b.b1, .bool b.b2, .bool b.b3, .bool b.b4, .bool b.b5, .bool b.b6, .bool b.b7, .bool b.b8, .bool b.b9, vb]] w fun e w' => ∃ v, e = .returned (.tuple #[.agg (cnL (bothR (fun x y => x && y) a b) v).toArray, .int .i64 (bothE a b)]) ∧ w'.ownsRow w.heap.size 3 1 v (bothR (fun x y => x && y) a b).vs.length ((bothR (fun x y => x && y) a b).vs.flatMap intF) ∧ Below w.heap.size w w' := by
  obtain ⟨c, hc⟩ : ∃ c, c = bothR (fun x y => x && y) a b := ⟨_, rfl⟩
  obtain ⟨z, hz⟩ : ∃ z, z = bothE a b := ⟨_, rfl⟩
  have KO : Hid (∀ w', Below w.heap.size w w' → Calls Try.prog 20 #[.agg #[.int .i64 a.g, .bool a.b0, .bool a.b1, .bool a.b2, .bool a.b3, .bool a.b4, .bool a.b5, .bool a.b6, .bool a.b7, .bool a.b8, .bool a.b9, va], .agg #[.int .i64 b.g, .bool b.b0, .bool b.b1, .bool b.b2, .bool b.b3, .bool b.b4, .bool b.b5, .bool b.b6, .bool b.b7, .bool b.b8, .bool b.b9, vb], .func (.func 21) #[] #[]] w' fun e w'' => ∃ v, e = .returned (.tuple #[.agg #[.int .i64 c.g, .bool c.b0, .bool c.b1, .bool c.b2, .bool c.b3, .bool c.b4, .bool c.b5, .bool c.b6, .bool c.b7, .bool c.b8, .bool c.b9, v], .int .i64 z]) ∧ w''.ownsRow w'.heap.size 3 1 v c.vs.length (c.vs.flatMap intF) ∧ Below w'.heap.size w' w'') := fun w' h => by
    have := ofBoth_any 21 (fun x y => x && y) keepM (enters_of Try.func21 (by kernel_rfl) rfl) a b va vb w' (Rows.below hra h (Nat.le_refl _)) (Rows.below hrb h (Nat.le_refl _)) hma hmb hia hib
    rw [← hc, ← hz] at this; exact this
  rw [← hc, ← hz]
  obtain ⟨W0, hW0⟩ : ∃ W0, W0 = ((w.alloc (.cells #[.int .i64 a.g, .bool a.b0, .bool a.b1, .bool a.b2, .bool a.b3, .bool a.b4, .bool a.b5, .bool a.b6, .bool a.b7, .bool a.b8, .bool a.b9, va] 25)).alloc (.cells #[.int .i64 b.g, .bool b.b0, .bool b.b1, .bool b.b2, .bool b.b3, .bool b.b4, .bool b.b5, .bool b.b6, .bool b.b7, .bool b.b8, .bool b.b9, vb] 25)).alloc (.cells #[.int .i64 0, .bool false, .bool false, .bool false, .bool false, .bool false, .bool false, .bool false, .bool false, .bool false, .bool false, .slice none 0 0] 25) := ⟨_, rfl⟩
  have HB0 : Hid (Below w.heap.size w W0) := by rw [hW0]; exact (((Below.refl _ w).alloc (Nat.le_refl _) _).alloc (by simp) _).alloc (by simp; omega) _
  have HLA : Hid (LRow W0 w.heap.size (cnL a va)) := by
    rw [hW0]
    exact ((LRow.new w (cnL a va) 25).below ((Below.refl _ _).alloc (Nat.le_refl _) _) (by simp)).below ((Below.refl _ _).alloc (Nat.le_refl _) _) (by simp; omega)
  have HLB : Hid (LRow W0 (w.heap.size + 1) (cnL b vb)) := by
    rw [hW0]
    have h := LRow.new (w.alloc (.cells #[.int .i64 a.g, .bool a.b0, .bool a.b1, .bool a.b2, .bool a.b3, .bool a.b4, .bool a.b5, .bool a.b6, .bool a.b7, .bool a.b8, .bool a.b9, va] 25)) (cnL b vb) 25
    rw [show (w.alloc (.cells #[.int .i64 a.g, .bool a.b0, .bool a.b1, .bool a.b2, .bool a.b3, .bool a.b4, .bool a.b5, .bool a.b6, .bool a.b7, .bool a.b8, .bool a.b9, va] 25)).heap.size = w.heap.size + 1 from by simp] at h
    exact h.below ((Below.refl _ _).alloc (Nat.le_refl _) _) (by simp)
  have HLO : Hid (LRow W0 (w.heap.size + 1 + 1) (cnL c0 (.slice none 0 0))) := by
    rw [hW0]
    have h := LRow.new ((w.alloc (.cells #[.int .i64 a.g, .bool a.b0, .bool a.b1, .bool a.b2, .bool a.b3, .bool a.b4, .bool a.b5, .bool a.b6, .bool a.b7, .bool a.b8, .bool a.b9, va] 25)).alloc (.cells #[.int .i64 b.g, .bool b.b0, .bool b.b1, .bool b.b2, .bool b.b3, .bool b.b4, .bool b.b5, .bool b.b6, .bool b.b7, .bool b.b8, .bool b.b9, vb] 25)) (cnL c0 (.slice none 0 0)) 25
    rw [show ((w.alloc (.cells #[.int .i64 a.g, .bool a.b0, .bool a.b1, .bool a.b2, .bool a.b3, .bool a.b4, .bool a.b5, .bool a.b6, .bool a.b7, .bool a.b8, .bool a.b9, va] 25)).alloc (.cells #[.int .i64 b.g, .bool b.b0, .bool b.b1, .bool b.b2, .bool b.b3, .bool b.b4, .bool b.b5, .bool b.b6, .bool b.b7, .bool b.b8, .bool b.b9, vb] 25)).heap.size = w.heap.size + 1 + 1 from by simp] at h
    exact h
  have HLT : Hid (W0.heap.size = w.heap.size + 3) := by show _ = _; rw [hW0]; simp
  have HW0 : Hid _ := hW0
  clear hz hc hra hrb hia hib hma hmb hW0
  go_enter Try.func7, Try.ntmps7
  go_upto_region 1 with fail
  rw [← HW0.out]
  clear HW0
  have a0 := HLA.out.cell 0 rfl
  have a1 := HLA.out.cell 1 rfl
  have a2 := HLA.out.cell 2 rfl
  have a3 := HLA.out.cell 3 rfl
  have a4 := HLA.out.cell 4 rfl
  have a5 := HLA.out.cell 5 rfl
  have a6 := HLA.out.cell 6 rfl
  have a7 := HLA.out.cell 7 rfl
  have a8 := HLA.out.cell 8 rfl
  have a9 := HLA.out.cell 9 rfl
  have a10 := HLA.out.cell 10 rfl
  have a11 := HLA.out.cell 11 rfl
  have b0 := HLB.out.cell 0 rfl
  have b1 := HLB.out.cell 1 rfl
  have b2 := HLB.out.cell 2 rfl
  have b3 := HLB.out.cell 3 rfl
  have b4 := HLB.out.cell 4 rfl
  have b5 := HLB.out.cell 5 rfl
  have b6 := HLB.out.cell 6 rfl
  have b7 := HLB.out.cell 7 rfl
  have b8 := HLB.out.cell 8 rfl
  have b9 := HLB.out.cell 9 rfl
  have b10 := HLB.out.cell 10 rfl
  have b11 := HLB.out.cell 11 rfl
  go_wp2_with fail
  refine (KO.out _ HB0.out).mono ?_
  rintro e w1 ⟨v1, rfl, hown, hb1⟩
  have HO1 : Hid _ := HLO.out.below hb1 (by have := HLT.out; omega)
  obtain ⟨vad, vcap, rfl⟩ := g_slice hown
  have HOW : Hid _ := hown
  have HB1 : Hid (Below w.heap.size w w1) := HB0.out.trans (hb1.mono HB0.out.size)
  have H6 : Hid (w.heap.size + 1 + 1 < W0.heap.size ∧ w.heap.size ≤ W0.heap.size) := by have := HLT.out; exact ⟨by omega, by omega⟩
  clear hown hb1 a0 b0 a1 b1 a2 b2 a3 b3 a4 b4 a5 b5 a6 b6 a7 b7 a8 b8 a9 b9 a10 b10 a11 b11
  have o0 := HO1.out.cell 0 rfl
  have o1 := HO1.out.cell 1 rfl
  have o2 := HO1.out.cell 2 rfl
  have o3 := HO1.out.cell 3 rfl
  have o4 := HO1.out.cell 4 rfl
  have o5 := HO1.out.cell 5 rfl
  have o6 := HO1.out.cell 6 rfl
  have o7 := HO1.out.cell 7 rfl
  have o8 := HO1.out.cell 8 rfl
  have o9 := HO1.out.cell 9 rfl
  have o10 := HO1.out.cell 10 rfl
  have o11 := HO1.out.cell 11 rfl
  have f0 := HO1.out.frozen 0 rfl
  have f1 := HO1.out.frozen 1 rfl
  have f2 := HO1.out.frozen 2 rfl
  have f3 := HO1.out.frozen 3 rfl
  have f4 := HO1.out.frozen 4 rfl
  have f5 := HO1.out.frozen 5 rfl
  have f6 := HO1.out.frozen 6 rfl
  have f7 := HO1.out.frozen 7 rfl
  have f8 := HO1.out.frozen 8 rfl
  have f9 := HO1.out.frozen 9 rfl
  have f10 := HO1.out.frozen 10 rfl
  have f11 := HO1.out.frozen 11 rfl
  go_wp2_with fail
  generalize hW2 : World.setCell _ _ _ = W2
  have HP : Hid (LRow W2 (w.heap.size + 1 + 1) (cnL c (.slice vad c.vs.length vcap))) := by
    rw [← hW2]
    exact (((((((((((HO1.out.set 0 _).set 1 _).set 2 _).set 3 _).set 4 _).set 5 _).set 6 _).set 7 _).set 8 _).set 9 _).set 10 _).set 11 _
  have HB2 : Hid (Below w.heap.size w W2) := by
    rw [← hW2]
    iterate 12 refine Below.setCell ?_ (show w.heap.size ≤ w.heap.size + 1 + 1 by omega) _
    exact HB1.out
  have HOW2 : Hid (W2.ownsRow w.heap.size 3 1 (.slice vad c.vs.length vcap) c.vs.length (c.vs.flatMap intF)) := by
    have hX : W2.ownsRow W0.heap.size 3 1 (.slice vad c.vs.length vcap) c.vs.length (c.vs.flatMap intF) := by
      rw [← hW2]
      iterate 12 refine own_set' ?_ H6.out.1
      exact HOW.out
    exact g_lower hX H6.out.2
  clear hW2 o0 f0 o1 f1 o2 f2 o3 f3 o4 f4 o5 f5 o6 f6 o7 f7 o8 f8 o9 f9 o10 f10 o11 f11
  have p0 := HP.out.cell 0 rfl
  have p1 := HP.out.cell 1 rfl
  have p2 := HP.out.cell 2 rfl
  have p3 := HP.out.cell 3 rfl
  have p4 := HP.out.cell 4 rfl
  have p5 := HP.out.cell 5 rfl
  have p6 := HP.out.cell 6 rfl
  have p7 := HP.out.cell 7 rfl
  have p8 := HP.out.cell 8 rfl
  have p9 := HP.out.cell 9 rfl
  have p10 := HP.out.cell 10 rfl
  have p11 := HP.out.cell 11 rfl
  exact bodyPost_ret (v := .tuple #[.agg #[.int .i64 c.g, .bool c.b0, .bool c.b1, .bool c.b2, .bool c.b3, .bool c.b4, .bool c.b5, .bool c.b6, .bool c.b7, .bool c.b8, .bool c.b9, .slice vad c.vs.length vcap], .int .i64 z]) (by simp [results, Try.results7, go_sem, p0, p1, p2, p3, p4, p5, p6, p7, p8, p9, p10, p11]) rfl ⟨.slice vad c.vs.length vcap, rfl, HOW2.out, HB2.out⟩
set_option maxHeartbeats 4000000 in
theorem join_any (a b : Cn) (va vb : Value) (w : World) (hra : Rows w va intF a.vs) (hrb : Rows w vb intF b.vs) (hma : a.vs.length ≤ 140737488351232) (hmb : b.vs.length ≤ 140737488351232) (hia : inR a.vs) (hib : inR b.vs) :
    Calls Try.prog 8 #[.agg #[.int .i64 a.g, .bool a.b0, .bool a.b1, .bool a.b2, .bool a.b3, .bool a.b4, .bool a.b5, .bool a.b6, .bool a.b7, .bool a.b8, .bool a.b9, va], .agg #[.int .i64 b.g, .bool b.b0, .bool b.b1, .bool b.b2, .bool b.b3, .bool b.b4, .bool b.b5, .bool b.b6, .bool b.b7, .bool b.b8, .bool b.b9, vb]] w fun e w' => ∃ v, e = .returned (.tuple #[.agg (cnL (bothR (fun x y => x || y) a b) v).toArray, .int .i64 (bothE a b)]) ∧ w'.ownsRow w.heap.size 3 1 v (bothR (fun x y => x || y) a b).vs.length ((bothR (fun x y => x || y) a b).vs.flatMap intF) ∧ Below w.heap.size w w' := by
  obtain ⟨c, hc⟩ : ∃ c, c = bothR (fun x y => x || y) a b := ⟨_, rfl⟩
  obtain ⟨z, hz⟩ : ∃ z, z = bothE a b := ⟨_, rfl⟩
  have KO : Hid (∀ w', Below w.heap.size w w' → Calls Try.prog 20 #[.agg #[.int .i64 a.g, .bool a.b0, .bool a.b1, .bool a.b2, .bool a.b3, .bool a.b4, .bool a.b5, .bool a.b6, .bool a.b7, .bool a.b8, .bool a.b9, va], .agg #[.int .i64 b.g, .bool b.b0, .bool b.b1, .bool b.b2, .bool b.b3, .bool b.b4, .bool b.b5, .bool b.b6, .bool b.b7, .bool b.b8, .bool b.b9, vb], .func (.func 22) #[] #[]] w' fun e w'' => ∃ v, e = .returned (.tuple #[.agg #[.int .i64 c.g, .bool c.b0, .bool c.b1, .bool c.b2, .bool c.b3, .bool c.b4, .bool c.b5, .bool c.b6, .bool c.b7, .bool c.b8, .bool c.b9, v], .int .i64 z]) ∧ w''.ownsRow w'.heap.size 3 1 v c.vs.length (c.vs.flatMap intF) ∧ Below w'.heap.size w' w'') := fun w' h => by
    have := ofBoth_any 22 (fun x y => x || y) keepJ (enters_of Try.func22 (by kernel_rfl) rfl) a b va vb w' (Rows.below hra h (Nat.le_refl _)) (Rows.below hrb h (Nat.le_refl _)) hma hmb hia hib
    rw [← hc, ← hz] at this; exact this
  rw [← hc, ← hz]
  obtain ⟨W0, hW0⟩ : ∃ W0, W0 = ((w.alloc (.cells #[.int .i64 a.g, .bool a.b0, .bool a.b1, .bool a.b2, .bool a.b3, .bool a.b4, .bool a.b5, .bool a.b6, .bool a.b7, .bool a.b8, .bool a.b9, va] 25)).alloc (.cells #[.int .i64 b.g, .bool b.b0, .bool b.b1, .bool b.b2, .bool b.b3, .bool b.b4, .bool b.b5, .bool b.b6, .bool b.b7, .bool b.b8, .bool b.b9, vb] 25)).alloc (.cells #[.int .i64 0, .bool false, .bool false, .bool false, .bool false, .bool false, .bool false, .bool false, .bool false, .bool false, .bool false, .slice none 0 0] 25) := ⟨_, rfl⟩
  have HB0 : Hid (Below w.heap.size w W0) := by rw [hW0]; exact (((Below.refl _ w).alloc (Nat.le_refl _) _).alloc (by simp) _).alloc (by simp; omega) _
  have HLA : Hid (LRow W0 w.heap.size (cnL a va)) := by
    rw [hW0]
    exact ((LRow.new w (cnL a va) 25).below ((Below.refl _ _).alloc (Nat.le_refl _) _) (by simp)).below ((Below.refl _ _).alloc (Nat.le_refl _) _) (by simp; omega)
  have HLB : Hid (LRow W0 (w.heap.size + 1) (cnL b vb)) := by
    rw [hW0]
    have h := LRow.new (w.alloc (.cells #[.int .i64 a.g, .bool a.b0, .bool a.b1, .bool a.b2, .bool a.b3, .bool a.b4, .bool a.b5, .bool a.b6, .bool a.b7, .bool a.b8, .bool a.b9, va] 25)) (cnL b vb) 25
    rw [show (w.alloc (.cells #[.int .i64 a.g, .bool a.b0, .bool a.b1, .bool a.b2, .bool a.b3, .bool a.b4, .bool a.b5, .bool a.b6, .bool a.b7, .bool a.b8, .bool a.b9, va] 25)).heap.size = w.heap.size + 1 from by simp] at h
    exact h.below ((Below.refl _ _).alloc (Nat.le_refl _) _) (by simp)
  have HLO : Hid (LRow W0 (w.heap.size + 1 + 1) (cnL c0 (.slice none 0 0))) := by
    rw [hW0]
    have h := LRow.new ((w.alloc (.cells #[.int .i64 a.g, .bool a.b0, .bool a.b1, .bool a.b2, .bool a.b3, .bool a.b4, .bool a.b5, .bool a.b6, .bool a.b7, .bool a.b8, .bool a.b9, va] 25)).alloc (.cells #[.int .i64 b.g, .bool b.b0, .bool b.b1, .bool b.b2, .bool b.b3, .bool b.b4, .bool b.b5, .bool b.b6, .bool b.b7, .bool b.b8, .bool b.b9, vb] 25)) (cnL c0 (.slice none 0 0)) 25
    rw [show ((w.alloc (.cells #[.int .i64 a.g, .bool a.b0, .bool a.b1, .bool a.b2, .bool a.b3, .bool a.b4, .bool a.b5, .bool a.b6, .bool a.b7, .bool a.b8, .bool a.b9, va] 25)).alloc (.cells #[.int .i64 b.g, .bool b.b0, .bool b.b1, .bool b.b2, .bool b.b3, .bool b.b4, .bool b.b5, .bool b.b6, .bool b.b7, .bool b.b8, .bool b.b9, vb] 25)).heap.size = w.heap.size + 1 + 1 from by simp] at h
    exact h
  have HLT : Hid (W0.heap.size = w.heap.size + 3) := by show _ = _; rw [hW0]; simp
  have HW0 : Hid _ := hW0
  clear hz hc hra hrb hia hib hma hmb hW0
  go_enter Try.func8, Try.ntmps8
  go_upto_region 1 with fail
  rw [← HW0.out]
  clear HW0
  have a0 := HLA.out.cell 0 rfl
  have a1 := HLA.out.cell 1 rfl
  have a2 := HLA.out.cell 2 rfl
  have a3 := HLA.out.cell 3 rfl
  have a4 := HLA.out.cell 4 rfl
  have a5 := HLA.out.cell 5 rfl
  have a6 := HLA.out.cell 6 rfl
  have a7 := HLA.out.cell 7 rfl
  have a8 := HLA.out.cell 8 rfl
  have a9 := HLA.out.cell 9 rfl
  have a10 := HLA.out.cell 10 rfl
  have a11 := HLA.out.cell 11 rfl
  have b0 := HLB.out.cell 0 rfl
  have b1 := HLB.out.cell 1 rfl
  have b2 := HLB.out.cell 2 rfl
  have b3 := HLB.out.cell 3 rfl
  have b4 := HLB.out.cell 4 rfl
  have b5 := HLB.out.cell 5 rfl
  have b6 := HLB.out.cell 6 rfl
  have b7 := HLB.out.cell 7 rfl
  have b8 := HLB.out.cell 8 rfl
  have b9 := HLB.out.cell 9 rfl
  have b10 := HLB.out.cell 10 rfl
  have b11 := HLB.out.cell 11 rfl
  go_wp2_with fail
  refine (KO.out _ HB0.out).mono ?_
  rintro e w1 ⟨v1, rfl, hown, hb1⟩
  have HO1 : Hid _ := HLO.out.below hb1 (by have := HLT.out; omega)
  obtain ⟨vad, vcap, rfl⟩ := g_slice hown
  have HOW : Hid _ := hown
  have HB1 : Hid (Below w.heap.size w w1) := HB0.out.trans (hb1.mono HB0.out.size)
  have H6 : Hid (w.heap.size + 1 + 1 < W0.heap.size ∧ w.heap.size ≤ W0.heap.size) := by have := HLT.out; exact ⟨by omega, by omega⟩
  clear hown hb1 a0 b0 a1 b1 a2 b2 a3 b3 a4 b4 a5 b5 a6 b6 a7 b7 a8 b8 a9 b9 a10 b10 a11 b11
  have o0 := HO1.out.cell 0 rfl
  have o1 := HO1.out.cell 1 rfl
  have o2 := HO1.out.cell 2 rfl
  have o3 := HO1.out.cell 3 rfl
  have o4 := HO1.out.cell 4 rfl
  have o5 := HO1.out.cell 5 rfl
  have o6 := HO1.out.cell 6 rfl
  have o7 := HO1.out.cell 7 rfl
  have o8 := HO1.out.cell 8 rfl
  have o9 := HO1.out.cell 9 rfl
  have o10 := HO1.out.cell 10 rfl
  have o11 := HO1.out.cell 11 rfl
  have f0 := HO1.out.frozen 0 rfl
  have f1 := HO1.out.frozen 1 rfl
  have f2 := HO1.out.frozen 2 rfl
  have f3 := HO1.out.frozen 3 rfl
  have f4 := HO1.out.frozen 4 rfl
  have f5 := HO1.out.frozen 5 rfl
  have f6 := HO1.out.frozen 6 rfl
  have f7 := HO1.out.frozen 7 rfl
  have f8 := HO1.out.frozen 8 rfl
  have f9 := HO1.out.frozen 9 rfl
  have f10 := HO1.out.frozen 10 rfl
  have f11 := HO1.out.frozen 11 rfl
  go_wp2_with fail
  generalize hW2 : World.setCell _ _ _ = W2
  have HP : Hid (LRow W2 (w.heap.size + 1 + 1) (cnL c (.slice vad c.vs.length vcap))) := by
    rw [← hW2]
    exact (((((((((((HO1.out.set 0 _).set 1 _).set 2 _).set 3 _).set 4 _).set 5 _).set 6 _).set 7 _).set 8 _).set 9 _).set 10 _).set 11 _
  have HB2 : Hid (Below w.heap.size w W2) := by
    rw [← hW2]
    iterate 12 refine Below.setCell ?_ (show w.heap.size ≤ w.heap.size + 1 + 1 by omega) _
    exact HB1.out
  have HOW2 : Hid (W2.ownsRow w.heap.size 3 1 (.slice vad c.vs.length vcap) c.vs.length (c.vs.flatMap intF)) := by
    have hX : W2.ownsRow W0.heap.size 3 1 (.slice vad c.vs.length vcap) c.vs.length (c.vs.flatMap intF) := by
      rw [← hW2]
      iterate 12 refine own_set' ?_ H6.out.1
      exact HOW.out
    exact g_lower hX H6.out.2
  clear hW2 o0 f0 o1 f1 o2 f2 o3 f3 o4 f4 o5 f5 o6 f6 o7 f7 o8 f8 o9 f9 o10 f10 o11 f11
  have p0 := HP.out.cell 0 rfl
  have p1 := HP.out.cell 1 rfl
  have p2 := HP.out.cell 2 rfl
  have p3 := HP.out.cell 3 rfl
  have p4 := HP.out.cell 4 rfl
  have p5 := HP.out.cell 5 rfl
  have p6 := HP.out.cell 6 rfl
  have p7 := HP.out.cell 7 rfl
  have p8 := HP.out.cell 8 rfl
  have p9 := HP.out.cell 9 rfl
  have p10 := HP.out.cell 10 rfl
  have p11 := HP.out.cell 11 rfl
  exact bodyPost_ret (v := .tuple #[.agg #[.int .i64 c.g, .bool c.b0, .bool c.b1, .bool c.b2, .bool c.b3, .bool c.b4, .bool c.b5, .bool c.b6, .bool c.b7, .bool c.b8, .bool c.b9, .slice vad c.vs.length vcap], .int .i64 z]) (by simp [results, Try.results8, go_sem, p0, p1, p2, p3, p4, p5, p6, p7, p8, p9, p10, p11]) rfl ⟨.slice vad c.vs.length vcap, rfl, HOW2.out, HB2.out⟩
end Go.Proofs.Ytklpfbakjiaaoaa
