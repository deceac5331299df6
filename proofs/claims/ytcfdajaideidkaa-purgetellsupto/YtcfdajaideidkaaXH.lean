/- The contracts of Meet and Join themselves. The contracts of agreed and Drop. The contract of Drop. The contracts of Meet and Join themselves; of two consents compared. What must be in any case of grants. -/
import Derived.Test.YtcfdajaideidkaaGrantD
import Derived.BigQuiet
import Derived.ChangeKeysEq
import Derived.Deep.Cut
import Derived.Deep.CutRange
import Derived.Deep.RegionWith
namespace Go.Proofs.Ytcfdajaideidkaa
open Go.RowKit Go.Maps
set_option linter.all false
set_option maxRecDepth 100000
set_option maxRecDepth 100000

set_option maxHeartbeats 4000000 in
theorem meet_any (a b : Cn) (va vb : Value) (w : World) (hra : Rows w va intF a.vs) (hrb : Rows w vb intF b.vs) (hma : a.vs.length ≤ 140737488351232) (hmb : b.vs.length ≤ 140737488351232) (hia : inR a.vs) (hib : inR b.vs) :
    Calls Try.prog 18 #[.agg #[.int .i64 a.g, .bool a.b0, .bool a.b1, .bool a.b2, .bool a.b3, .bool a.b4, .bool a.b5, .bool a.b6, .bool a.b7, .bool a.b8, .bool a.b9, va], .agg #[.int .i64 b.g, .bool b.b0, .bool b.b1, .bool b.b2, .bool b.b3, .bool b.b4, .bool b.b5, .bool b.b6, .bool b.b7, .bool b.b8, .bool b.b9, vb]] w fun e w' => ∃ v, e = .returned (.tuple #[.agg (cnL (bothR (fun x y => x && y) a b) v).toArray, .int .i64 (bothE a b)]) ∧ w'.ownsRow w.heap.size 3 1 v (bothR (fun x y => x && y) a b).vs.length ((bothR (fun x y => x && y) a b).vs.flatMap intF) ∧ Below w.heap.size w w' := by
  obtain ⟨c, hc⟩ : ∃ c, c = bothR (fun x y => x && y) a b := ⟨_, rfl⟩
  obtain ⟨z, hz⟩ : ∃ z, z = bothE a b := ⟨_, rfl⟩
  have KO : Hid (∀ w', Below w.heap.size w w' → Calls Try.prog 46 #[.agg #[.int .i64 a.g, .bool a.b0, .bool a.b1, .bool a.b2, .bool a.b3, .bool a.b4, .bool a.b5, .bool a.b6, .bool a.b7, .bool a.b8, .bool a.b9, va], .agg #[.int .i64 b.g, .bool b.b0, .bool b.b1, .bool b.b2, .bool b.b3, .bool b.b4, .bool b.b5, .bool b.b6, .bool b.b7, .bool b.b8, .bool b.b9, vb], .func (.func 47) #[] #[]] w' fun e w'' => ∃ v, e = .returned (.tuple #[.agg #[.int .i64 c.g, .bool c.b0, .bool c.b1, .bool c.b2, .bool c.b3, .bool c.b4, .bool c.b5, .bool c.b6, .bool c.b7, .bool c.b8, .bool c.b9, v], .int .i64 z]) ∧ w''.ownsRow w'.heap.size 3 1 v c.vs.length (c.vs.flatMap intF) ∧ Below w'.heap.size w' w'') := fun w' h => by
    have := ofBoth_any 47 (fun x y => x && y) keepM (enters_of Try.func47 (by kernel_rfl) rfl) a b va vb w' (Rows.below hra h (Nat.le_refl _)) (Rows.below hrb h (Nat.le_refl _)) hma hmb hia hib
    rw [← hc, ← hz] at this; exact this
  rw [← hc, ← hz]
  obtain ⟨W0, hW0⟩ : ∃ W0, W0 = ((w.alloc (.cells #[.int .i64 a.g, .bool a.b0, .bool a.b1, .bool a.b2, .bool a.b3, .bool a.b4, .bool a.b5, .bool a.b6, .bool a.b7, .bool a.b8, .bool a.b9, va] 32)).alloc (.cells #[.int .i64 b.g, .bool b.b0, .bool b.b1, .bool b.b2, .bool b.b3, .bool b.b4, .bool b.b5, .bool b.b6, .bool b.b7, .bool b.b8, .bool b.b9, vb] 32)).alloc (.cells #[.int .i64 0, .bool false, .bool false, .bool false, .bool false, .bool false, .bool false, .bool false, .bool false, .bool false, .bool false, .slice none 0 0] 32) := ⟨_, rfl⟩
  have HB0 : Hid (Below w.heap.size w W0) := by rw [hW0]; exact (((Below.refl _ w).alloc (Nat.le_refl _) _).alloc (by simp) _).alloc (by simp; omega) _
  have HLA : Hid (LRow W0 w.heap.size (cnL a va)) := by
    rw [hW0]
    exact ((LRow.new w (cnL a va) 32).below ((Below.refl _ _).alloc (Nat.le_refl _) _) (by simp)).below ((Below.refl _ _).alloc (Nat.le_refl _) _) (by simp; omega)
  have HLB : Hid (LRow W0 (w.heap.size + 1) (cnL b vb)) := by
    rw [hW0]
    have h := LRow.new (w.alloc (.cells #[.int .i64 a.g, .bool a.b0, .bool a.b1, .bool a.b2, .bool a.b3, .bool a.b4, .bool a.b5, .bool a.b6, .bool a.b7, .bool a.b8, .bool a.b9, va] 32)) (cnL b vb) 32
    rw [show (w.alloc (.cells #[.int .i64 a.g, .bool a.b0, .bool a.b1, .bool a.b2, .bool a.b3, .bool a.b4, .bool a.b5, .bool a.b6, .bool a.b7, .bool a.b8, .bool a.b9, va] 32)).heap.size = w.heap.size + 1 from by simp] at h
    exact h.below ((Below.refl _ _).alloc (Nat.le_refl _) _) (by simp)
  have HLO : Hid (LRow W0 (w.heap.size + 1 + 1) (cnL c0 (.slice none 0 0))) := by
    rw [hW0]
    have h := LRow.new ((w.alloc (.cells #[.int .i64 a.g, .bool a.b0, .bool a.b1, .bool a.b2, .bool a.b3, .bool a.b4, .bool a.b5, .bool a.b6, .bool a.b7, .bool a.b8, .bool a.b9, va] 32)).alloc (.cells #[.int .i64 b.g, .bool b.b0, .bool b.b1, .bool b.b2, .bool b.b3, .bool b.b4, .bool b.b5, .bool b.b6, .bool b.b7, .bool b.b8, .bool b.b9, vb] 32)) (cnL c0 (.slice none 0 0)) 32
    rw [show ((w.alloc (.cells #[.int .i64 a.g, .bool a.b0, .bool a.b1, .bool a.b2, .bool a.b3, .bool a.b4, .bool a.b5, .bool a.b6, .bool a.b7, .bool a.b8, .bool a.b9, va] 32)).alloc (.cells #[.int .i64 b.g, .bool b.b0, .bool b.b1, .bool b.b2, .bool b.b3, .bool b.b4, .bool b.b5, .bool b.b6, .bool b.b7, .bool b.b8, .bool b.b9, vb] 32)).heap.size = w.heap.size + 1 + 1 from by simp] at h
    exact h
  have HLT : Hid (W0.heap.size = w.heap.size + 3) := by show _ = _; rw [hW0]; simp
  have HW0 : Hid _ := hW0
  clear hz hc hra hrb hia hib hma hmb hW0
  go_enter Try.func18, Try.ntmps18
  go_upto_region 1 with fail
  rw [← HW0.out]
  clear HW0
  have a0 := HLA.out.cell 0 rfl
  have a1 := HLA.out.cell 1 rfl
  have a2 := HLA.out.cell 2 rfl
  have a3 := HLA.out.cell 3 rfl
  have a4 := HLA.out.cell 4 rfl
  have a5 := HLA.out.cell 5 rfl
  have a6 := HLA.out.cell 6 rfl
  have a7 := HLA.out.cell 7 rfl
  have a8 := HLA.out.cell 8 rfl
  have a9 := HLA.out.cell 9 rfl
  have a10 := HLA.out.cell 10 rfl
  have a11 := HLA.out.cell 11 rfl
  have b0 := HLB.out.cell 0 rfl
  have b1 := HLB.out.cell 1 rfl
  have b2 := HLB.out.cell 2 rfl
  have b3 := HLB.out.cell 3 rfl
  have b4 := HLB.out.cell 4 rfl
  have b5 := HLB.out.cell 5 rfl
  have b6 := HLB.out.cell 6 rfl
  have b7 := HLB.out.cell 7 rfl
  have b8 := HLB.out.cell 8 rfl
  have b9 := HLB.out.cell 9 rfl
  have b10 := HLB.out.cell 10 rfl
  have b11 := HLB.out.cell 11 rfl
  go_wp2_with fail
  refine (KO.out _ HB0.out).mono ?_
  rintro e w1 ⟨v1, rfl, hown, hb1⟩
  have HO1 : Hid _ := HLO.out.below hb1 (by have := HLT.out; omega)
  obtain ⟨vad, vcap, rfl⟩ := g_slice hown
  have HOW : Hid _ := hown
  have HB1 : Hid (Below w.heap.size w w1) := HB0.out.trans (hb1.mono HB0.out.size)
  have H6 : Hid (w.heap.size + 1 + 1 < W0.heap.size ∧ w.heap.size ≤ W0.heap.size) := by have := HLT.out; exact ⟨by omega, by omega⟩
  clear hown hb1 a0 b0 a1 b1 a2 b2 a3 b3 a4 b4 a5 b5 a6 b6 a7 b7 a8 b8 a9 b9 a10 b10 a11 b11
  have o0 := HO1.out.cell 0 rfl
  have o1 := HO1.out.cell 1 rfl
  have o2 := HO1.out.cell 2 rfl
  have o3 := HO1.out.cell 3 rfl
  have o4 := HO1.out.cell 4 rfl
  have o5 := HO1.out.cell 5 rfl
  have o6 := HO1.out.cell 6 rfl
  have o7 := HO1.out.cell 7 rfl
  have o8 := HO1.out.cell 8 rfl
  have o9 := HO1.out.cell 9 rfl
  have o10 := HO1.out.cell 10 rfl
  have o11 := HO1.out.cell 11 rfl
  have f0 := HO1.out.frozen 0 rfl
  have f1 := HO1.out.frozen 1 rfl
  have f2 := HO1.out.frozen 2 rfl
  have f3 := HO1.out.frozen 3 rfl
  have f4 := HO1.out.frozen 4 rfl
  have f5 := HO1.out.frozen 5 rfl
  have f6 := HO1.out.frozen 6 rfl
  have f7 := HO1.out.frozen 7 rfl
  have f8 := HO1.out.frozen 8 rfl
  have f9 := HO1.out.frozen 9 rfl
  have f10 := HO1.out.frozen 10 rfl
  have f11 := HO1.out.frozen 11 rfl
  go_wp2_with fail
  generalize hW2 : World.setCell _ _ _ = W2
  have HP : Hid (LRow W2 (w.heap.size + 1 + 1) (cnL c (.slice vad c.vs.length vcap))) := by
    rw [← hW2]
    exact (((((((((((HO1.out.set 0 _).set 1 _).set 2 _).set 3 _).set 4 _).set 5 _).set 6 _).set 7 _).set 8 _).set 9 _).set 10 _).set 11 _
  have HB2 : Hid (Below w.heap.size w W2) := by
    rw [← hW2]
    iterate 12 refine Below.setCell ?_ (show w.heap.size ≤ w.heap.size + 1 + 1 by omega) _
    exact HB1.out
  have HOW2 : Hid (W2.ownsRow w.heap.size 3 1 (.slice vad c.vs.length vcap) c.vs.length (c.vs.flatMap intF)) := by
    have hX : W2.ownsRow W0.heap.size 3 1 (.slice vad c.vs.length vcap) c.vs.length (c.vs.flatMap intF) := by
      rw [← hW2]
      iterate 12 refine own_set' ?_ H6.out.1
      exact HOW.out
    exact g_lower hX H6.out.2
  clear hW2 o0 f0 o1 f1 o2 f2 o3 f3 o4 f4 o5 f5 o6 f6 o7 f7 o8 f8 o9 f9 o10 f10 o11 f11
  have p0 := HP.out.cell 0 rfl
  have p1 := HP.out.cell 1 rfl
  have p2 := HP.out.cell 2 rfl
  have p3 := HP.out.cell 3 rfl
  have p4 := HP.out.cell 4 rfl
  have p5 := HP.out.cell 5 rfl
  have p6 := HP.out.cell 6 rfl
  have p7 := HP.out.cell 7 rfl
  have p8 := HP.out.cell 8 rfl
  have p9 := HP.out.cell 9 rfl
  have p10 := HP.out.cell 10 rfl
  have p11 := HP.out.cell 11 rfl
  exact bodyPost_ret (v := .tuple #[.agg #[.int .i64 c.g, .bool c.b0, .bool c.b1, .bool c.b2, .bool c.b3, .bool c.b4, .bool c.b5, .bool c.b6, .bool c.b7, .bool c.b8, .bool c.b9, .slice vad c.vs.length vcap], .int .i64 z]) (by simp [results, Try.results18, go_sem, p0, p1, p2, p3, p4, p5, p6, p7, p8, p9, p10, p11]) rfl ⟨.slice vad c.vs.length vcap, rfl, HOW2.out, HB2.out⟩
set_option maxHeartbeats 4000000 in
theorem join_any (a b : Cn) (va vb : Value) (w : World) (hra : Rows w va intF a.vs) (hrb : Rows w vb intF b.vs) (hma : a.vs.length ≤ 140737488351232) (hmb : b.vs.length ≤ 140737488351232) (hia : inR a.vs) (hib : inR b.vs) :
    Calls Try.prog 42 #[.agg #[.int .i64 a.g, .bool a.b0, .bool a.b1, .bool a.b2, .bool a.b3, .bool a.b4, .bool a.b5, .bool a.b6, .bool a.b7, .bool a.b8, .bool a.b9, va], .agg #[.int .i64 b.g, .bool b.b0, .bool b.b1, .bool b.b2, .bool b.b3, .bool b.b4, .bool b.b5, .bool b.b6, .bool b.b7, .bool b.b8, .bool b.b9, vb]] w fun e w' => ∃ v, e = .returned (.tuple #[.agg (cnL (bothR (fun x y => x || y) a b) v).toArray, .int .i64 (bothE a b)]) ∧ w'.ownsRow w.heap.size 3 1 v (bothR (fun x y => x || y) a b).vs.length ((bothR (fun x y => x || y) a b).vs.flatMap intF) ∧ Below w.heap.size w w' := by
  obtain ⟨c, hc⟩ : ∃ c, c = bothR (fun x y => x || y) a b := ⟨_, rfl⟩
  obtain ⟨z, hz⟩ : ∃ z, z = bothE a b := ⟨_, rfl⟩
  have KO : Hid (∀ w', Below w.heap.size w w' → Calls Try.prog 46 #[.agg #[.int .i64 a.g, .bool a.b0, .bool a.b1, .bool a.b2, .bool a.b3, .bool a.b4, .bool a.b5, .bool a.b6, .bool a.b7, .bool a.b8, .bool a.b9, va], .agg #[.int .i64 b.g, .bool b.b0, .bool b.b1, .bool b.b2, .bool b.b3, .bool b.b4, .bool b.b5, .bool b.b6, .bool b.b7, .bool b.b8, .bool b.b9, vb], .func (.func 64) #[] #[]] w' fun e w'' => ∃ v, e = .returned (.tuple #[.agg #[.int .i64 c.g, .bool c.b0, .bool c.b1, .bool c.b2, .bool c.b3, .bool c.b4, .bool c.b5, .bool c.b6, .bool c.b7, .bool c.b8, .bool c.b9, v], .int .i64 z]) ∧ w''.ownsRow w'.heap.size 3 1 v c.vs.length (c.vs.flatMap intF) ∧ Below w'.heap.size w' w'') := fun w' h => by
    have := ofBoth_any 64 (fun x y => x || y) keepJ (enters_of Try.func64 (by kernel_rfl) rfl) a b va vb w' (Rows.below hra h (Nat.le_refl _)) (Rows.below hrb h (Nat.le_refl _)) hma hmb hia hib
    rw [← hc, ← hz] at this; exact this
  rw [← hc, ← hz]
  obtain ⟨W0, hW0⟩ : ∃ W0, W0 = ((w.alloc (.cells #[.int .i64 a.g, .bool a.b0, .bool a.b1, .bool a.b2, .bool a.b3, .bool a.b4, .bool a.b5, .bool a.b6, .bool a.b7, .bool a.b8, .bool a.b9, va] 32)).alloc (.cells #[.int .i64 b.g, .bool b.b0, .bool b.b1, .bool b.b2, .bool b.b3, .bool b.b4, .bool b.b5, .bool b.b6, .bool b.b7, .bool b.b8, .bool b.b9, vb] 32)).alloc (.cells #[.int .i64 0, .bool false, .bool false, .bool false, .bool false, .bool false, .bool false, .bool false, .bool false, .bool false, .bool false, .slice none 0 0] 32) := ⟨_, rfl⟩
  have HB0 : Hid (Below w.heap.size w W0) := by rw [hW0]; exact (((Below.refl _ w).alloc (Nat.le_refl _) _).alloc (by simp) _).alloc (by simp; omega) _
  have HLA : Hid (LRow W0 w.heap.size (cnL a va)) := by
    rw [hW0]
    exact ((LRow.new w (cnL a va) 32).below ((Below.refl _ _).alloc (Nat.le_refl _) _) (by simp)).below ((Below.refl _ _).alloc (Nat.le_refl _) _) (by simp; omega)
  have HLB : Hid (LRow W0 (w.heap.size + 1) (cnL b vb)) := by
    rw [hW0]
    have h := LRow.new (w.alloc (.cells #[.int .i64 a.g, .bool a.b0, .bool a.b1, .bool a.b2, .bool a.b3, .bool a.b4, .bool a.b5, .bool a.b6, .bool a.b7, .bool a.b8, .bool a.b9, va] 32)) (cnL b vb) 32
    rw [show (w.alloc (.cells #[.int .i64 a.g, .bool a.b0, .bool a.b1, .bool a.b2, .bool a.b3, .bool a.b4, .bool a.b5, .bool a.b6, .bool a.b7, .bool a.b8, .bool a.b9, va] 32)).heap.size = w.heap.size + 1 from by simp] at h
    exact h.below ((Below.refl _ _).alloc (Nat.le_refl _) _) (by simp)
  have HLO : Hid (LRow W0 (w.heap.size + 1 + 1) (cnL c0 (.slice none 0 0))) := by
    rw [hW0]
    have h := LRow.new ((w.alloc (.cells #[.int .i64 a.g, .bool a.b0, .bool a.b1, .bool a.b2, .bool a.b3, .bool a.b4, .bool a.b5, .bool a.b6, .bool a.b7, .bool a.b8, .bool a.b9, va] 32)).alloc (.cells #[.int .i64 b.g, .bool b.b0, .bool b.b1, .bool b.b2, .bool b.b3, .bool b.b4, .bool b.b5, .bool b.b6, .bool b.b7, .bool b.b8, .bool b.b9, vb] 32)) (cnL c0 (.slice none 0 0)) 32
    rw [show ((w.alloc (.cells #[.int .i64 a.g, .bool a.b0, .bool a.b1, .bool a.b2, .bool a.b3, .bool a.b4, .bool a.b5, .bool a.b6, .bool a.b7, .bool a.b8, .bool a.b9, va] 32)).alloc (.cells #[.int .i64 b.g, .bool b.b0, .bool b.b1, .bool b.b2, .bool b.b3, .bool b.b4, .bool b.b5, .bool b.b6, .bool b.b7, .bool b.b8, .bool b.b9, vb] 32)).heap.size = w.heap.size + 1 + 1 from by simp] at h
    exact h
  have HLT : Hid (W0.heap.size = w.heap.size + 3) := by show _ = _; rw [hW0]; simp
  have HW0 : Hid _ := hW0
  clear hz hc hra hrb hia hib hma hmb hW0
  go_enter Try.func42, Try.ntmps42
  go_upto_region 1 with fail
  rw [← HW0.out]
  clear HW0
  have a0 := HLA.out.cell 0 rfl
  have a1 := HLA.out.cell 1 rfl
  have a2 := HLA.out.cell 2 rfl
  have a3 := HLA.out.cell 3 rfl
  have a4 := HLA.out.cell 4 rfl
  have a5 := HLA.out.cell 5 rfl
  have a6 := HLA.out.cell 6 rfl
  have a7 := HLA.out.cell 7 rfl
  have a8 := HLA.out.cell 8 rfl
  have a9 := HLA.out.cell 9 rfl
  have a10 := HLA.out.cell 10 rfl
  have a11 := HLA.out.cell 11 rfl
  have b0 := HLB.out.cell 0 rfl
  have b1 := HLB.out.cell 1 rfl
  have b2 := HLB.out.cell 2 rfl
  have b3 := HLB.out.cell 3 rfl
  have b4 := HLB.out.cell 4 rfl
  have b5 := HLB.out.cell 5 rfl
  have b6 := HLB.out.cell 6 rfl
  have b7 := HLB.out.cell 7 rfl
  have b8 := HLB.out.cell 8 rfl
  have b9 := HLB.out.cell 9 rfl
  have b10 := HLB.out.cell 10 rfl
  have b11 := HLB.out.cell 11 rfl
  go_wp2_with fail
  refine (KO.out _ HB0.out).mono ?_
  rintro e w1 ⟨v1, rfl, hown, hb1⟩
  have HO1 : Hid _ := HLO.out.below hb1 (by have := HLT.out; omega)
  obtain ⟨vad, vcap, rfl⟩ := g_slice hown
  have HOW : Hid _ := hown
  have HB1 : Hid (Below w.heap.size w w1) := HB0.out.trans (hb1.mono HB0.out.size)
  have H6 : Hid (w.heap.size + 1 + 1 < W0.heap.size ∧ w.heap.size ≤ W0.heap.size) := by have := HLT.out; exact ⟨by omega, by omega⟩
  clear hown hb1 a0 b0 a1 b1 a2 b2 a3 b3 a4 b4 a5 b5 a6 b6 a7 b7 a8 b8 a9 b9 a10 b10 a11 b11
  have o0 := HO1.out.cell 0 rfl
  have o1 := HO1.out.cell 1 rfl
  have o2 := HO1.out.cell 2 rfl
  have o3 := HO1.out.cell 3 rfl
  have o4 := HO1.out.cell 4 rfl
  have o5 := HO1.out.cell 5 rfl
  have o6 := HO1.out.cell 6 rfl
  have o7 := HO1.out.cell 7 rfl
  have o8 := HO1.out.cell 8 rfl
  have o9 := HO1.out.cell 9 rfl
  have o10 := HO1.out.cell 10 rfl
  have o11 := HO1.out.cell 11 rfl
  have f0 := HO1.out.frozen 0 rfl
  have f1 := HO1.out.frozen 1 rfl
  have f2 := HO1.out.frozen 2 rfl
  have f3 := HO1.out.frozen 3 rfl
  have f4 := HO1.out.frozen 4 rfl
  have f5 := HO1.out.frozen 5 rfl
  have f6 := HO1.out.frozen 6 rfl
  have f7 := HO1.out.frozen 7 rfl
  have f8 := HO1.out.frozen 8 rfl
  have f9 := HO1.out.frozen 9 rfl
  have f10 := HO1.out.frozen 10 rfl
  have f11 := HO1.out.frozen 11 rfl
  go_wp2_with fail
  generalize hW2 : World.setCell _ _ _ = W2
  have HP : Hid (LRow W2 (w.heap.size + 1 + 1) (cnL c (.slice vad c.vs.length vcap))) := by
    rw [← hW2]
    exact (((((((((((HO1.out.set 0 _).set 1 _).set 2 _).set 3 _).set 4 _).set 5 _).set 6 _).set 7 _).set 8 _).set 9 _).set 10 _).set 11 _
  have HB2 : Hid (Below w.heap.size w W2) := by
    rw [← hW2]
    iterate 12 refine Below.setCell ?_ (show w.heap.size ≤ w.heap.size + 1 + 1 by omega) _
    exact HB1.out
  have HOW2 : Hid (W2.ownsRow w.heap.size 3 1 (.slice vad c.vs.length vcap) c.vs.length (c.vs.flatMap intF)) := by
    have hX : W2.ownsRow W0.heap.size 3 1 (.slice vad c.vs.length vcap) c.vs.length (c.vs.flatMap intF) := by
      rw [← hW2]
      iterate 12 refine own_set' ?_ H6.out.1
      exact HOW.out
    exact g_lower hX H6.out.2
  clear hW2 o0 f0 o1 f1 o2 f2 o3 f3 o4 f4 o5 f5 o6 f6 o7 f7 o8 f8 o9 f9 o10 f10 o11 f11
  have p0 := HP.out.cell 0 rfl
  have p1 := HP.out.cell 1 rfl
  have p2 := HP.out.cell 2 rfl
  have p3 := HP.out.cell 3 rfl
  have p4 := HP.out.cell 4 rfl
  have p5 := HP.out.cell 5 rfl
  have p6 := HP.out.cell 6 rfl
  have p7 := HP.out.cell 7 rfl
  have p8 := HP.out.cell 8 rfl
  have p9 := HP.out.cell 9 rfl
  have p10 := HP.out.cell 10 rfl
  have p11 := HP.out.cell 11 rfl
  exact bodyPost_ret (v := .tuple #[.agg #[.int .i64 c.g, .bool c.b0, .bool c.b1, .bool c.b2, .bool c.b3, .bool c.b4, .bool c.b5, .bool c.b6, .bool c.b7, .bool c.b8, .bool c.b9, .slice vad c.vs.length vcap], .int .i64 z]) (by simp [results, Try.results42, go_sem, p0, p1, p2, p3, p4, p5, p6, p7, p8, p9, p10, p11]) rfl ⟨.slice vad c.vs.length vcap, rfl, HOW2.out, HB2.out⟩
end Go.Proofs.Ytcfdajaideidkaa
namespace Go.Proofs.Ytcfdajaideidkaa
open Go.RowKit Go.Maps
set_option linter.all false
set_option maxRecDepth 100000
set_option maxRecDepth 100000

def agC : Cn := ⟨1000, true, false, false, true, false, false, false, false, false, false, [2, 3, 4, 9]⟩
set_option maxHeartbeats 1000000 in
theorem agreed_any (w : World) : Calls Try.prog 34 #[] w fun e w' => ∃ b, e = .returned (.agg #[.int .i64 1000, .bool true, .bool false, .bool false, .bool true, .bool false, .bool false, .bool false, .bool false, .bool false, .bool false, .slice (some ⟨b, 0, none⟩) 4 4]) ∧ Rows w' (.slice (some ⟨b, 0, none⟩) 4 4) intF agC.vs ∧ Below w.heap.size w w' := by
  obtain ⟨W0, hW0⟩ : ∃ W, W = w.alloc (.cells #[.int .i64 1000, .bool true, .bool false, .bool false, .bool true, .bool false, .bool false, .bool false, .bool false, .bool false, .bool false, .slice (some ⟨w.heap.size + 1, 0, none⟩) 4 4] 32) := ⟨_, rfl⟩
  obtain ⟨W2, hW2⟩ : ∃ W, W = W0.alloc (.cells #[.int .i64 2, .int .i64 3, .int .i64 4, .int .i64 9] 3) := ⟨_, rfl⟩
  have HS0 : W0.heap.size = w.heap.size + 1 := by rw [hW0]; simp
  have HO0 : LRow W0 w.heap.size (cnL agC (.slice (some ⟨w.heap.size + 1, 0, none⟩) 4 4)) := by rw [hW0]; exact LRow.new w (cnL agC (.slice (some ⟨w.heap.size + 1, 0, none⟩) 4 4)) 32
  have HB0 : Below w.heap.size w W0 := by rw [hW0]; exact (Below.refl _ w).alloc (Nat.le_refl _) _
  have n1 : Below W0.heap.size W0 W2 := by rw [hW2]; exact (Below.refl _ W0).alloc (Nat.le_refl _) _
  have HP : Hid (LRow W2 w.heap.size (cnL agC (.slice (some ⟨w.heap.size + 1, 0, none⟩) 4 4))) := HO0.below n1 (by omega)
  have HB2 : Hid (Below w.heap.size w W2) := HB0.trans (n1.mono HB0.size)
  have HR2 : Hid (Rows W2 (.slice (some ⟨w.heap.size + 1, 0, none⟩) 4 4) intF agC.vs) := by rw [hW2]; exact Rows.lit W0 ([2, 3, 4, 9] : List Int) _ _ _ _ _ HS0.symm rfl rfl
  have HW2 : Hid ((w.alloc (.cells #[.int .i64 1000, .bool true, .bool false, .bool false, .bool true, .bool false, .bool false, .bool false, .bool false, .bool false, .bool false, .slice (some ⟨w.heap.size + 1, 0, none⟩) 4 4] 32)).alloc (.cells #[.int .i64 2, .int .i64 3, .int .i64 4, .int .i64 9] 3) = W2) := by show _ = _; rw [hW2, hW0]
  clear hW0 hW2 n1 HS0 HO0 HB0
  go_enter Try.func34, Try.ntmps34
  go_wp2_with fail
  rw [HW2.out]
  clear HW2
  have p0 := HP.out.cell 0 rfl
  have p1 := HP.out.cell 1 rfl
  have p2 := HP.out.cell 2 rfl
  have p3 := HP.out.cell 3 rfl
  have p4 := HP.out.cell 4 rfl
  have p5 := HP.out.cell 5 rfl
  have p6 := HP.out.cell 6 rfl
  have p7 := HP.out.cell 7 rfl
  have p8 := HP.out.cell 8 rfl
  have p9 := HP.out.cell 9 rfl
  have p10 := HP.out.cell 10 rfl
  have p11 := HP.out.cell 11 rfl
  exact bodyPost_ret (v := .agg #[.int .i64 1000, .bool true, .bool false, .bool false, .bool true, .bool false, .bool false, .bool false, .bool false, .bool false, .bool false, .slice (some ⟨w.heap.size + 1, 0, none⟩) 4 4]) (by simp [results, Try.results34, go_sem, agC, p0, p1, p2, p3, p4, p5, p6, p7, p8, p9, p10, p11]) rfl ⟨_, rfl, HR2.out, HB2.out⟩
def dtake (c : Cn) (x : Int) (k : Nat) : List Int := (c.vs.take k).filter fun y => decide (y ≠ x)
theorem dtake_all (c : Cn) (x : Int) (k : Nat) (h : c.vs.length ≤ k) : dtake c x k = c.vs.filter fun y => decide (y ≠ x) := by unfold dtake; rw [List.take_of_length_le h]
theorem dtake_len (c : Cn) (x : Int) (k : Nat) : (dtake c x k).length ≤ k := by
  have h1 := List.length_filter_le (fun y => decide (y ≠ x)) (c.vs.take k)
  have h2 : (c.vs.take k).length ≤ k := by rw [List.length_take]; omega
  unfold dtake; omega
theorem dtake_yes (c : Cn) (x : Int) (k : Nat) (y : Int) (h : c.vs[k]? = some y) (hy : y ≠ x) : dtake c x (k + 1) = dtake c x k ++ [y] := by
  unfold dtake
  rw [List.take_succ, h, List.filter_append]
  congr 1
  show List.filter _ [y] = _
  rw [List.filter_cons_of_pos (by simpa using hy), List.filter_nil]
theorem dtake_no (c : Cn) (x : Int) (k : Nat) (y : Int) (h : c.vs[k]? = some y) (hy : y = x) : dtake c x (k + 1) = dtake c x k := by
  unfold dtake
  rw [List.take_succ, h, List.filter_append]
  show _ ++ List.filter _ [y] = _
  rw [List.filter_cons_of_neg (by simpa using hy), List.filter_nil, List.append_nil]
/-- the consent so far -/
def dropP (c : Cn) (p now : Int) (v : Value) : List Value := .int .i64 now :: ((List.range 10).map (fun (j : Nat) => .bool (c.ps[j]?.getD false && decide (p ≠ (j : Int) + 1))) ++ [v])
theorem dropP_end (c : Cn) (p x now : Int) (v : Value) : dropP c p now v = cnL (dropC c p x now) v := rfl
theorem dropP_zero (c : Cn) (p now : Int) (v : Value) (h : p = 0) : cnL { c with g := now } v = dropP c p now v := by
  subst h
  unfold dropP cnL
  simp [List.range_succ, Cn.ps]
theorem dropP_set (c : Cn) (k : Nat) (hk : k < 10) (now : Int) (v : Value) : (cnL { c with g := now } v).set (1 + k) (.bool false) = dropP c ((k : Int) + 1) now v := by
  rcases ten k hk with rfl | rfl | rfl | rfl | rfl | rfl | rfl | rfl | rfl | rfl <;> simp [dropP, cnL, List.range_succ, Cn.ps]
end Go.Proofs.Ytcfdajaideidkaa
namespace Go.Proofs.Ytcfdajaideidkaa
open Go.RowKit Go.Maps
set_option linter.all false
set_option maxRecDepth 100000
set_option maxRecDepth 100000

theorem chV_len (b : Int) (l : List Int) (hb : 0 ≤ b ∧ b ≤ 40) (h : chV b l = 0) : (l.length : Int) ≤ 40 - b := by
  induction l generalizing b with
  | nil => simp; omega
  | cons v r ih =>
    unfold chV at h
    split at h
    · cases h
    · rename_i h1
      split at h
      · cases h
      · rename_i h2
        have := ih v (by omega) h
        rw [List.length_cons]; omega
theorem chC_len {c : Cn} (h : chC c = 0) : c.vs.length ≤ 40 := by
  unfold chC at h
  split at h
  · cases h
  · have := chV_len 0 c.vs (by omega) h; omega
theorem row_set {W : World} {B O k : Nat} {l : List Value} {x : Value} (h : LRow W B l) (hne : B ≠ O) : LRow (W.setCell ⟨O, k, none⟩ x) B l :=
  ⟨fun j v hj => ⟨by rw [World.cell?_setCell_other _ _ _ _ (by intro e; injection e with e1 _; exact hne e1.symm)]; exact (h.all j v hj).1, by rw [World.frozen?_setCell]; exact (h.all j v hj).2⟩⟩
/-- what came in lies below what the call made -/
theorem src_ne {w W : World} {b off n cap O : Nat} {l : List Int} (h : Rows w (.slice (some ⟨b, off, none⟩) n cap) intF l) (hb : Below w.heap.size w W) (k : Nat) (y : Int) (hk : l[k]? = some y) (hO : w.heap.size ≤ O) (e : b = O) : False := by
  obtain ⟨b', o', e1, hlt, _⟩ := Rows.at h rfl 0 (fun _ => rfl) k y hk
  injection e1 with e1
  injection e1 with e1 _
  omega
set_option maxHeartbeats 16000000 in
theorem drop_any (c : Cn) (v : Value) (p x now : Int) (w : World) (hr : Rows w v intF c.vs) (hm : c.vs.length ≤ 140737488351232) (hp : -9223372036854775808 ≤ p ∧ p ≤ 9223372036854775807) :
    Calls Try.prog 43 #[.agg #[.int .i64 c.g, .bool c.b0, .bool c.b1, .bool c.b2, .bool c.b3, .bool c.b4, .bool c.b5, .bool c.b6, .bool c.b7, .bool c.b8, .bool c.b9, v], .int .i64 p, .int .i64 x, .int .i64 now] w fun e w' => ∃ v', e = .returned (.tuple #[.agg (cnL (dropR c p x now) v').toArray, .int .i64 (dropE c p x now)]) ∧ w'.ownsRow w.heap.size 3 1 v' (dropR c p x now).vs.length ((dropR c p x now).vs.flatMap intF) ∧ Below w.heap.size w w' := by
  obtain ⟨i0, hi, hz0, hz1, hz2⟩ := g_infoInt
  obtain ⟨z, hz⟩ : ∃ z, z = dropE c p x now := ⟨_, rfl⟩
  obtain ⟨ck, hck⟩ : ∃ z, z = chC c := ⟨_, rfl⟩
  have KC : Hid (∀ w', Below w.heap.size w w' → Calls Try.prog 23 #[.agg #[.int .i64 c.g, .bool c.b0, .bool c.b1, .bool c.b2, .bool c.b3, .bool c.b4, .bool c.b5, .bool c.b6, .bool c.b7, .bool c.b8, .bool c.b9, v]] w' fun e w'' => e = .returned (.int .i64 ck) ∧ Below w'.heap.size w' w'') := fun w' h => by rw [hck]; exact check_any c v w' (Rows.below hr h (Nat.le_refl _)) (by unfold maxLen; omega)
  have HZ : Hid _ := hz
  have HCKD : Hid _ := hck
  have HRV : Hid _ := hr
  rw [← hz]
  obtain ⟨ad, cap, hv⟩ := hr.shape
  obtain ⟨n, hn⟩ : ∃ n, n = c.vs.length := ⟨_, rfl⟩
  rw [← hn] at hv hm
  have HN : Hid _ := hn
  subst hv
  obtain ⟨W0, hW0⟩ : ∃ W0, W0 = (w.alloc (.cells #[.int .i64 c.g, .bool c.b0, .bool c.b1, .bool c.b2, .bool c.b3, .bool c.b4, .bool c.b5, .bool c.b6, .bool c.b7, .bool c.b8, .bool c.b9, (.slice ad n cap)] 32)).alloc (.cells #[.int .i64 0, .bool false, .bool false, .bool false, .bool false, .bool false, .bool false, .bool false, .bool false, .bool false, .bool false, .slice none 0 0] 32) := ⟨_, rfl⟩
  have HB0 : Hid (Below w.heap.size w W0) := by rw [hW0]; exact ((Below.refl _ w).alloc (Nat.le_refl _) _).alloc (by simp) _
  have HLA : Hid (LRow W0 w.heap.size (cnL c (.slice ad n cap))) := by
    rw [hW0]
    exact (LRow.new w (cnL c (.slice ad n cap)) 32).below ((Below.refl _ _).alloc (Nat.le_refl _) _) (by simp)
  have HLO : Hid (LRow W0 (w.heap.size + 1) (cnL c0 (.slice none 0 0))) := by
    rw [hW0]
    have h := LRow.new (w.alloc (.cells #[.int .i64 c.g, .bool c.b0, .bool c.b1, .bool c.b2, .bool c.b3, .bool c.b4, .bool c.b5, .bool c.b6, .bool c.b7, .bool c.b8, .bool c.b9, (.slice ad n cap)] 32)) (cnL c0 (.slice none 0 0)) 32
    rw [show (w.alloc (.cells #[.int .i64 c.g, .bool c.b0, .bool c.b1, .bool c.b2, .bool c.b3, .bool c.b4, .bool c.b5, .bool c.b6, .bool c.b7, .bool c.b8, .bool c.b9, (.slice ad n cap)] 32)).heap.size = w.heap.size + 1 from by simp] at h
    exact h
  have HLT : Hid (W0.heap.size = w.heap.size + 2) := by show _ = _; rw [hW0]; simp
  have HW0 : Hid _ := hW0
  clear hz hck hr hW0 hn
  go_enter Try.func43, Try.ntmps43
  go_upto_region 1 with fail
  rw [← HW0.out]
  clear HW0
  have a0 := HLA.out.cell 0 rfl
  have a1 := HLA.out.cell 1 rfl
  have a2 := HLA.out.cell 2 rfl
  have a3 := HLA.out.cell 3 rfl
  have a4 := HLA.out.cell 4 rfl
  have a5 := HLA.out.cell 5 rfl
  have a6 := HLA.out.cell 6 rfl
  have a7 := HLA.out.cell 7 rfl
  have a8 := HLA.out.cell 8 rfl
  have a9 := HLA.out.cell 9 rfl
  have a10 := HLA.out.cell 10 rfl
  have a11 := HLA.out.cell 11 rfl
  go_wp2_with fail
  refine (KC.out _ HB0.out).mono ?_
  rintro e w1 ⟨rfl, hb1⟩
  have HB1 : Hid (Below w.heap.size w w1) := HB0.out.trans (hb1.mono HB0.out.size)
  have HA1 : Hid _ := HLA.out.below hb1 (by have := HLT.out; omega)
  have HO1 : Hid _ := HLO.out.below hb1 (by have := HLT.out; omega)
  have HL1 : Hid (w.heap.size + 2 ≤ w1.heap.size) := by have := hb1.size; have := HLT.out; show _ ≤ _; omega
  clear hb1 a0 a1 a2 a3 a4 a5 a6 a7 a8 a9 a10 a11
  by_cases hck : ck = 0
  · have HCK : Hid (chC c = 0) := by show _ = _; rw [← HCKD.out]; exact hck
    have hne : (ck != 0) = false := by rw [hck]; rfl
    clear hck
    by_cases t1 : p < 0
    · have HZ2 : Hid (z = 3) := by show _ = _; rw [HZ.out]; unfold dropE; rw [if_pos HCK.out]; rw [if_pos (.inl (.inl t1))]
      have HR : Hid (dropR c p x now = c0) := by show _ = _; unfold dropR; rw [if_neg (by rw [← HZ.out, HZ2.out]; decide)]
      have o0 := HO1.out.cell 0 rfl
      have o1 := HO1.out.cell 1 rfl
      have o2 := HO1.out.cell 2 rfl
      have o3 := HO1.out.cell 3 rfl
      have o4 := HO1.out.cell 4 rfl
      have o5 := HO1.out.cell 5 rfl
      have o6 := HO1.out.cell 6 rfl
      have o7 := HO1.out.cell 7 rfl
      have o8 := HO1.out.cell 8 rfl
      have o9 := HO1.out.cell 9 rfl
      have o10 := HO1.out.cell 10 rfl
      have o11 := HO1.out.cell 11 rfl
      have f0 := HO1.out.frozen 0 rfl
      have f1 := HO1.out.frozen 1 rfl
      have f2 := HO1.out.frozen 2 rfl
      have f3 := HO1.out.frozen 3 rfl
      have f4 := HO1.out.frozen 4 rfl
      have f5 := HO1.out.frozen 5 rfl
      have f6 := HO1.out.frozen 6 rfl
      have f7 := HO1.out.frozen 7 rfl
      have f8 := HO1.out.frozen 8 rfl
      have f9 := HO1.out.frozen 9 rfl
      have f10 := HO1.out.frozen 10 rfl
      have f11 := HO1.out.frozen 11 rfl
      go_wp2_with fail
      generalize hW2 : World.setCell _ _ _ = W2
      have HP : Hid (LRow W2 (w.heap.size + 1) (cnL c0 (.slice none 0 0))) := by
        rw [← hW2]
        exact (((((((((((HO1.out.set 0 _).set 1 _).set 2 _).set 3 _).set 4 _).set 5 _).set 6 _).set 7 _).set 8 _).set 9 _).set 10 _).set 11 _
      have HB2 : Hid (Below w.heap.size w W2) := by
        rw [← hW2]
        iterate 12 refine Below.setCell ?_ (show w.heap.size ≤ w.heap.size + 1 by omega) _
        exact HB1.out
      clear hW2 o0 f0 o1 f1 o2 f2 o3 f3 o4 f4 o5 f5 o6 f6 o7 f7 o8 f8 o9 f9 o10 f10 o11 f11
      have p0 := HP.out.cell 0 rfl
      have p1 := HP.out.cell 1 rfl
      have p2 := HP.out.cell 2 rfl
      have p3 := HP.out.cell 3 rfl
      have p4 := HP.out.cell 4 rfl
      have p5 := HP.out.cell 5 rfl
      have p6 := HP.out.cell 6 rfl
      have p7 := HP.out.cell 7 rfl
      have p8 := HP.out.cell 8 rfl
      have p9 := HP.out.cell 9 rfl
      have p10 := HP.out.cell 10 rfl
      have p11 := HP.out.cell 11 rfl
      exact bodyPost_ret (v := .tuple #[.agg #[.int .i64 0, .bool false, .bool false, .bool false, .bool false, .bool false, .bool false, .bool false, .bool false, .bool false, .bool false, .slice none 0 0], .int .i64 3]) (by simp [results, Try.results43, go_sem, c0, p0, p1, p2, p3, p4, p5, p6, p7, p8, p9, p10, p11]) rfl ⟨.slice none 0 0, by rw [HR.out, HZ2.out]; rfl, by rw [HR.out]; exact World.ownsRow_nil _ _ _ _, HB2.out⟩

    by_cases t2 : 10 < p
    · have HZ2 : Hid (z = 3) := by show _ = _; rw [HZ.out]; unfold dropE; rw [if_pos HCK.out]; rw [if_pos (.inl (.inr t2))]
      have HR : Hid (dropR c p x now = c0) := by show _ = _; unfold dropR; rw [if_neg (by rw [← HZ.out, HZ2.out]; decide)]
      have o0 := HO1.out.cell 0 rfl
      have o1 := HO1.out.cell 1 rfl
      have o2 := HO1.out.cell 2 rfl
      have o3 := HO1.out.cell 3 rfl
      have o4 := HO1.out.cell 4 rfl
      have o5 := HO1.out.cell 5 rfl
      have o6 := HO1.out.cell 6 rfl
      have o7 := HO1.out.cell 7 rfl
      have o8 := HO1.out.cell 8 rfl
      have o9 := HO1.out.cell 9 rfl
      have o10 := HO1.out.cell 10 rfl
      have o11 := HO1.out.cell 11 rfl
      have f0 := HO1.out.frozen 0 rfl
      have f1 := HO1.out.frozen 1 rfl
      have f2 := HO1.out.frozen 2 rfl
      have f3 := HO1.out.frozen 3 rfl
      have f4 := HO1.out.frozen 4 rfl
      have f5 := HO1.out.frozen 5 rfl
      have f6 := HO1.out.frozen 6 rfl
      have f7 := HO1.out.frozen 7 rfl
      have f8 := HO1.out.frozen 8 rfl
      have f9 := HO1.out.frozen 9 rfl
      have f10 := HO1.out.frozen 10 rfl
      have f11 := HO1.out.frozen 11 rfl
      go_wp2_with fail
      generalize hW2 : World.setCell _ _ _ = W2
      have HP : Hid (LRow W2 (w.heap.size + 1) (cnL c0 (.slice none 0 0))) := by
        rw [← hW2]
        exact (((((((((((HO1.out.set 0 _).set 1 _).set 2 _).set 3 _).set 4 _).set 5 _).set 6 _).set 7 _).set 8 _).set 9 _).set 10 _).set 11 _
      have HB2 : Hid (Below w.heap.size w W2) := by
        rw [← hW2]
        iterate 12 refine Below.setCell ?_ (show w.heap.size ≤ w.heap.size + 1 by omega) _
        exact HB1.out
      clear hW2 o0 f0 o1 f1 o2 f2 o3 f3 o4 f4 o5 f5 o6 f6 o7 f7 o8 f8 o9 f9 o10 f10 o11 f11
      have p0 := HP.out.cell 0 rfl
      have p1 := HP.out.cell 1 rfl
      have p2 := HP.out.cell 2 rfl
      have p3 := HP.out.cell 3 rfl
      have p4 := HP.out.cell 4 rfl
      have p5 := HP.out.cell 5 rfl
      have p6 := HP.out.cell 6 rfl
      have p7 := HP.out.cell 7 rfl
      have p8 := HP.out.cell 8 rfl
      have p9 := HP.out.cell 9 rfl
      have p10 := HP.out.cell 10 rfl
      have p11 := HP.out.cell 11 rfl
      exact bodyPost_ret (v := .tuple #[.agg #[.int .i64 0, .bool false, .bool false, .bool false, .bool false, .bool false, .bool false, .bool false, .bool false, .bool false, .bool false, .slice none 0 0], .int .i64 3]) (by simp [results, Try.results43, go_sem, c0, p0, p1, p2, p3, p4, p5, p6, p7, p8, p9, p10, p11]) rfl ⟨.slice none 0 0, by rw [HR.out, HZ2.out]; rfl, by rw [HR.out]; exact World.ownsRow_nil _ _ _ _, HB2.out⟩

    by_cases t3 : x < 0
    · have HZ2 : Hid (z = 3) := by show _ = _; rw [HZ.out]; unfold dropE; rw [if_pos HCK.out]; rw [if_pos (.inr (.inl t3))]
      have HR : Hid (dropR c p x now = c0) := by show _ = _; unfold dropR; rw [if_neg (by rw [← HZ.out, HZ2.out]; decide)]
      have o0 := HO1.out.cell 0 rfl
      have o1 := HO1.out.cell 1 rfl
      have o2 := HO1.out.cell 2 rfl
      have o3 := HO1.out.cell 3 rfl
      have o4 := HO1.out.cell 4 rfl
      have o5 := HO1.out.cell 5 rfl
      have o6 := HO1.out.cell 6 rfl
      have o7 := HO1.out.cell 7 rfl
      have o8 := HO1.out.cell 8 rfl
      have o9 := HO1.out.cell 9 rfl
      have o10 := HO1.out.cell 10 rfl
      have o11 := HO1.out.cell 11 rfl
      have f0 := HO1.out.frozen 0 rfl
      have f1 := HO1.out.frozen 1 rfl
      have f2 := HO1.out.frozen 2 rfl
      have f3 := HO1.out.frozen 3 rfl
      have f4 := HO1.out.frozen 4 rfl
      have f5 := HO1.out.frozen 5 rfl
      have f6 := HO1.out.frozen 6 rfl
      have f7 := HO1.out.frozen 7 rfl
      have f8 := HO1.out.frozen 8 rfl
      have f9 := HO1.out.frozen 9 rfl
      have f10 := HO1.out.frozen 10 rfl
      have f11 := HO1.out.frozen 11 rfl
      go_wp2_with fail
      generalize hW2 : World.setCell _ _ _ = W2
      have HP : Hid (LRow W2 (w.heap.size + 1) (cnL c0 (.slice none 0 0))) := by
        rw [← hW2]
        exact (((((((((((HO1.out.set 0 _).set 1 _).set 2 _).set 3 _).set 4 _).set 5 _).set 6 _).set 7 _).set 8 _).set 9 _).set 10 _).set 11 _
      have HB2 : Hid (Below w.heap.size w W2) := by
        rw [← hW2]
        iterate 12 refine Below.setCell ?_ (show w.heap.size ≤ w.heap.size + 1 by omega) _
        exact HB1.out
      clear hW2 o0 f0 o1 f1 o2 f2 o3 f3 o4 f4 o5 f5 o6 f6 o7 f7 o8 f8 o9 f9 o10 f10 o11 f11
      have p0 := HP.out.cell 0 rfl
      have p1 := HP.out.cell 1 rfl
      have p2 := HP.out.cell 2 rfl
      have p3 := HP.out.cell 3 rfl
      have p4 := HP.out.cell 4 rfl
      have p5 := HP.out.cell 5 rfl
      have p6 := HP.out.cell 6 rfl
      have p7 := HP.out.cell 7 rfl
      have p8 := HP.out.cell 8 rfl
      have p9 := HP.out.cell 9 rfl
      have p10 := HP.out.cell 10 rfl
      have p11 := HP.out.cell 11 rfl
      exact bodyPost_ret (v := .tuple #[.agg #[.int .i64 0, .bool false, .bool false, .bool false, .bool false, .bool false, .bool false, .bool false, .bool false, .bool false, .bool false, .slice none 0 0], .int .i64 3]) (by simp [results, Try.results43, go_sem, c0, p0, p1, p2, p3, p4, p5, p6, p7, p8, p9, p10, p11]) rfl ⟨.slice none 0 0, by rw [HR.out, HZ2.out]; rfl, by rw [HR.out]; exact World.ownsRow_nil _ _ _ _, HB2.out⟩

    by_cases t4 : 40 < x
    · have HZ2 : Hid (z = 3) := by show _ = _; rw [HZ.out]; unfold dropE; rw [if_pos HCK.out]; rw [if_pos (.inr (.inr t4))]
      have HR : Hid (dropR c p x now = c0) := by show _ = _; unfold dropR; rw [if_neg (by rw [← HZ.out, HZ2.out]; decide)]
      have o0 := HO1.out.cell 0 rfl
      have o1 := HO1.out.cell 1 rfl
      have o2 := HO1.out.cell 2 rfl
      have o3 := HO1.out.cell 3 rfl
      have o4 := HO1.out.cell 4 rfl
      have o5 := HO1.out.cell 5 rfl
      have o6 := HO1.out.cell 6 rfl
      have o7 := HO1.out.cell 7 rfl
      have o8 := HO1.out.cell 8 rfl
      have o9 := HO1.out.cell 9 rfl
      have o10 := HO1.out.cell 10 rfl
      have o11 := HO1.out.cell 11 rfl
      have f0 := HO1.out.frozen 0 rfl
      have f1 := HO1.out.frozen 1 rfl
      have f2 := HO1.out.frozen 2 rfl
      have f3 := HO1.out.frozen 3 rfl
      have f4 := HO1.out.frozen 4 rfl
      have f5 := HO1.out.frozen 5 rfl
      have f6 := HO1.out.frozen 6 rfl
      have f7 := HO1.out.frozen 7 rfl
      have f8 := HO1.out.frozen 8 rfl
      have f9 := HO1.out.frozen 9 rfl
      have f10 := HO1.out.frozen 10 rfl
      have f11 := HO1.out.frozen 11 rfl
      go_wp2_with fail
      generalize hW2 : World.setCell _ _ _ = W2
      have HP : Hid (LRow W2 (w.heap.size + 1) (cnL c0 (.slice none 0 0))) := by
        rw [← hW2]
        exact (((((((((((HO1.out.set 0 _).set 1 _).set 2 _).set 3 _).set 4 _).set 5 _).set 6 _).set 7 _).set 8 _).set 9 _).set 10 _).set 11 _
      have HB2 : Hid (Below w.heap.size w W2) := by
        rw [← hW2]
        iterate 12 refine Below.setCell ?_ (show w.heap.size ≤ w.heap.size + 1 by omega) _
        exact HB1.out
      clear hW2 o0 f0 o1 f1 o2 f2 o3 f3 o4 f4 o5 f5 o6 f6 o7 f7 o8 f8 o9 f9 o10 f10 o11 f11
      have p0 := HP.out.cell 0 rfl
      have p1 := HP.out.cell 1 rfl
      have p2 := HP.out.cell 2 rfl
      have p3 := HP.out.cell 3 rfl
      have p4 := HP.out.cell 4 rfl
      have p5 := HP.out.cell 5 rfl
      have p6 := HP.out.cell 6 rfl
      have p7 := HP.out.cell 7 rfl
      have p8 := HP.out.cell 8 rfl
      have p9 := HP.out.cell 9 rfl
      have p10 := HP.out.cell 10 rfl
      have p11 := HP.out.cell 11 rfl
      exact bodyPost_ret (v := .tuple #[.agg #[.int .i64 0, .bool false, .bool false, .bool false, .bool false, .bool false, .bool false, .bool false, .bool false, .bool false, .bool false, .slice none 0 0], .int .i64 3]) (by simp [results, Try.results43, go_sem, c0, p0, p1, p2, p3, p4, p5, p6, p7, p8, p9, p10, p11]) rfl ⟨.slice none 0 0, by rw [HR.out, HZ2.out]; rfl, by rw [HR.out]; exact World.ownsRow_nil _ _ _ _, HB2.out⟩

    have HC3 : Hid (¬ ((p < 0 ∨ 10 < p) ∨ (x < 0 ∨ 40 < x))) := by show ¬ _; omega
    have a0 := HA1.out.cell 0 rfl
    by_cases t5 : now < c.g
    · have HZ2 : Hid (z = 4) := by show _ = _; rw [HZ.out]; unfold dropE; rw [if_pos HCK.out]; rw [if_neg HC3.out, if_pos (.inl t5)]
      have HR : Hid (dropR c p x now = c0) := by show _ = _; unfold dropR; rw [if_neg (by rw [← HZ.out, HZ2.out]; decide)]
      have o0 := HO1.out.cell 0 rfl
      have o1 := HO1.out.cell 1 rfl
      have o2 := HO1.out.cell 2 rfl
      have o3 := HO1.out.cell 3 rfl
      have o4 := HO1.out.cell 4 rfl
      have o5 := HO1.out.cell 5 rfl
      have o6 := HO1.out.cell 6 rfl
      have o7 := HO1.out.cell 7 rfl
      have o8 := HO1.out.cell 8 rfl
      have o9 := HO1.out.cell 9 rfl
      have o10 := HO1.out.cell 10 rfl
      have o11 := HO1.out.cell 11 rfl
      have f0 := HO1.out.frozen 0 rfl
      have f1 := HO1.out.frozen 1 rfl
      have f2 := HO1.out.frozen 2 rfl
      have f3 := HO1.out.frozen 3 rfl
      have f4 := HO1.out.frozen 4 rfl
      have f5 := HO1.out.frozen 5 rfl
      have f6 := HO1.out.frozen 6 rfl
      have f7 := HO1.out.frozen 7 rfl
      have f8 := HO1.out.frozen 8 rfl
      have f9 := HO1.out.frozen 9 rfl
      have f10 := HO1.out.frozen 10 rfl
      have f11 := HO1.out.frozen 11 rfl
      go_wp2_with fail
      generalize hW2 : World.setCell _ _ _ = W2
      have HP : Hid (LRow W2 (w.heap.size + 1) (cnL c0 (.slice none 0 0))) := by
        rw [← hW2]
        exact (((((((((((HO1.out.set 0 _).set 1 _).set 2 _).set 3 _).set 4 _).set 5 _).set 6 _).set 7 _).set 8 _).set 9 _).set 10 _).set 11 _
      have HB2 : Hid (Below w.heap.size w W2) := by
        rw [← hW2]
        iterate 12 refine Below.setCell ?_ (show w.heap.size ≤ w.heap.size + 1 by omega) _
        exact HB1.out
      clear hW2 o0 f0 o1 f1 o2 f2 o3 f3 o4 f4 o5 f5 o6 f6 o7 f7 o8 f8 o9 f9 o10 f10 o11 f11
      have p0 := HP.out.cell 0 rfl
      have p1 := HP.out.cell 1 rfl
      have p2 := HP.out.cell 2 rfl
      have p3 := HP.out.cell 3 rfl
      have p4 := HP.out.cell 4 rfl
      have p5 := HP.out.cell 5 rfl
      have p6 := HP.out.cell 6 rfl
      have p7 := HP.out.cell 7 rfl
      have p8 := HP.out.cell 8 rfl
      have p9 := HP.out.cell 9 rfl
      have p10 := HP.out.cell 10 rfl
      have p11 := HP.out.cell 11 rfl
      exact bodyPost_ret (v := .tuple #[.agg #[.int .i64 0, .bool false, .bool false, .bool false, .bool false, .bool false, .bool false, .bool false, .bool false, .bool false, .bool false, .slice none 0 0], .int .i64 4]) (by simp [results, Try.results43, go_sem, c0, p0, p1, p2, p3, p4, p5, p6, p7, p8, p9, p10, p11]) rfl ⟨.slice none 0 0, by rw [HR.out, HZ2.out]; rfl, by rw [HR.out]; exact World.ownsRow_nil _ _ _ _, HB2.out⟩

    by_cases t6 : 68719476735 < now
    · have HZ2 : Hid (z = 4) := by show _ = _; rw [HZ.out]; unfold dropE; rw [if_pos HCK.out]; rw [if_neg HC3.out, if_pos (.inr t6)]
      have HR : Hid (dropR c p x now = c0) := by show _ = _; unfold dropR; rw [if_neg (by rw [← HZ.out, HZ2.out]; decide)]
      have o0 := HO1.out.cell 0 rfl
      have o1 := HO1.out.cell 1 rfl
      have o2 := HO1.out.cell 2 rfl
      have o3 := HO1.out.cell 3 rfl
      have o4 := HO1.out.cell 4 rfl
      have o5 := HO1.out.cell 5 rfl
      have o6 := HO1.out.cell 6 rfl
      have o7 := HO1.out.cell 7 rfl
      have o8 := HO1.out.cell 8 rfl
      have o9 := HO1.out.cell 9 rfl
      have o10 := HO1.out.cell 10 rfl
      have o11 := HO1.out.cell 11 rfl
      have f0 := HO1.out.frozen 0 rfl
      have f1 := HO1.out.frozen 1 rfl
      have f2 := HO1.out.frozen 2 rfl
      have f3 := HO1.out.frozen 3 rfl
      have f4 := HO1.out.frozen 4 rfl
      have f5 := HO1.out.frozen 5 rfl
      have f6 := HO1.out.frozen 6 rfl
      have f7 := HO1.out.frozen 7 rfl
      have f8 := HO1.out.frozen 8 rfl
      have f9 := HO1.out.frozen 9 rfl
      have f10 := HO1.out.frozen 10 rfl
      have f11 := HO1.out.frozen 11 rfl
      go_wp2_with fail
      generalize hW2 : World.setCell _ _ _ = W2
      have HP : Hid (LRow W2 (w.heap.size + 1) (cnL c0 (.slice none 0 0))) := by
        rw [← hW2]
        exact (((((((((((HO1.out.set 0 _).set 1 _).set 2 _).set 3 _).set 4 _).set 5 _).set 6 _).set 7 _).set 8 _).set 9 _).set 10 _).set 11 _
      have HB2 : Hid (Below w.heap.size w W2) := by
        rw [← hW2]
        iterate 12 refine Below.setCell ?_ (show w.heap.size ≤ w.heap.size + 1 by omega) _
        exact HB1.out
      clear hW2 o0 f0 o1 f1 o2 f2 o3 f3 o4 f4 o5 f5 o6 f6 o7 f7 o8 f8 o9 f9 o10 f10 o11 f11
      have p0 := HP.out.cell 0 rfl
      have p1 := HP.out.cell 1 rfl
      have p2 := HP.out.cell 2 rfl
      have p3 := HP.out.cell 3 rfl
      have p4 := HP.out.cell 4 rfl
      have p5 := HP.out.cell 5 rfl
      have p6 := HP.out.cell 6 rfl
      have p7 := HP.out.cell 7 rfl
      have p8 := HP.out.cell 8 rfl
      have p9 := HP.out.cell 9 rfl
      have p10 := HP.out.cell 10 rfl
      have p11 := HP.out.cell 11 rfl
      exact bodyPost_ret (v := .tuple #[.agg #[.int .i64 0, .bool false, .bool false, .bool false, .bool false, .bool false, .bool false, .bool false, .bool false, .bool false, .bool false, .slice none 0 0], .int .i64 4]) (by simp [results, Try.results43, go_sem, c0, p0, p1, p2, p3, p4, p5, p6, p7, p8, p9, p10, p11]) rfl ⟨.slice none 0 0, by rw [HR.out, HZ2.out]; rfl, by rw [HR.out]; exact World.ownsRow_nil _ _ _ _, HB2.out⟩

    have HZ0 : Hid (z = 0) := by show _ = _; rw [HZ.out]; unfold dropE; rw [if_pos HCK.out, if_neg HC3.out, if_neg (by omega)]
    have HR : Hid (dropR c p x now = dropC c p x now) := by show _ = _; unfold dropR; rw [if_pos (by rw [← HZ.out]; exact HZ0.out)]
    have a1 := HA1.out.cell 1 rfl
    have a2 := HA1.out.cell 2 rfl
    have a3 := HA1.out.cell 3 rfl
    have a4 := HA1.out.cell 4 rfl
    have a5 := HA1.out.cell 5 rfl
    have a6 := HA1.out.cell 6 rfl
    have a7 := HA1.out.cell 7 rfl
    have a8 := HA1.out.cell 8 rfl
    have a9 := HA1.out.cell 9 rfl
    have a10 := HA1.out.cell 10 rfl
    go_upto_region 9 with fail
    obtain ⟨O, hO⟩ : ∃ O, O = w1.heap.size := ⟨_, rfl⟩
    obtain ⟨W3, hW3⟩ : ∃ W, W = w1.alloc (.cells #[.int .i64 now, .bool c.b0, .bool c.b1, .bool c.b2, .bool c.b3, .bool c.b4, .bool c.b5, .bool c.b6, .bool c.b7, .bool c.b8, .bool c.b9, .slice none 0 0] 32) := ⟨_, rfl⟩
    rw [← hW3, ← hO]
    have n3 : Below w1.heap.size w1 W3 := by rw [hW3]; exact (Below.refl _ _).alloc (Nat.le_refl _) _
    have R3 : Hid (LRow W3 O (cnL { c with g := now } (.slice none 0 0))) := by rw [hW3, hO]; exact LRow.new w1 (cnL { c with g := now } (.slice none 0 0)) 32
    have HA3 : Hid _ := HA1.out.below n3 (by have := HL1.out; omega)
    have HO3 : Hid _ := HO1.out.below n3 (by have := HL1.out; omega)
    have HB3 : Hid (Below w.heap.size w W3) := HB1.out.trans (n3.mono HB1.out.size)
    have HOL : Hid (w.heap.size + 2 ≤ O ∧ O < W3.heap.size) := ⟨by rw [hO]; exact HL1.out, by rw [hW3, hO]; simp⟩
    have HPP : Hid (0 ≤ p ∧ p ≤ 10) := ⟨by omega, by omega⟩
    clear n3 hW3 hO a0 a1 a2 a3 a4 a5 a6 a7 a8 a9 a10 t1 t2 t3 t4 t5 t6 HA1 HO1 HB1
    by_cases hp0 : p = 0
    · have R4 : Hid (LRow W3 O (dropP c p now (.slice none 0 0))) := by have := R3.out; rw [dropP_zero c p now _ hp0] at this; exact this
      have hp1 : ¬ 0 < p := by omega
      clear hp0
      have HG4 : Hid (Below w.heap.size w W3 ∧ O < W3.heap.size) := ⟨HB3.out, HOL.out.2⟩
      have HA4 : Hid _ := HA3.out
      have HO4 : Hid _ := HO3.out
      go_upto_region 11 with fail
      obtain ⟨W4, hW4⟩ : ∃ W, W = W3 := ⟨_, rfl⟩
      rw [← hW4] at R4 HG4 HA4 HO4 ⊢
      clear hW4 R3 HA3 HO3 HB3
      have a11 := HA4.out.cell 11 rfl
      have HOB : Hid (w.heap.size + 2 ≤ O) := HOL.out.1
      have hn40 : n ≤ 40 := by rw [HN.out]; exact chC_len HCK.out
      have HRW4 : Hid (Rows W4 (.slice ad n cap) intF c.vs) := by rw [HN.out]; rw [HN.out] at HRV; exact Rows.below HRV.out HG4.out.1 (Nat.le_refl _)
      go_wp2_with fail
      clear a11
      go_loopw [57] (fun i wr => ∃ (kk : Nat) (vv : Value), kk ≤ n ∧ i = .int .i64 kk ∧ Hid (LRow wr O (dropP c (p) now vv)) ∧ wr.ownsRow W4.heap.size 3 1 vv (dtake c x kk).length ((dtake c x kk).flatMap intF) ∧ Hid (W4.grownBy wr (some O))) (fun i _ => n - (intOf i).toNat)
      case atStart => exact ⟨0, .slice none 0 0, Nat.zero_le _, rfl, R4.out, World.ownsRow_nil _ _ _ _, ⟨rfl, rfl, rfl, Nat.le_refl _, fun _ _ _ => rfl⟩⟩
      case round =>
        obtain ⟨k2, vv, hk, rfl, hrow, hown, hg⟩ := hrel
        obtain ⟨sad, scap, rfl⟩ := g_slice hown
        by_cases hlt : k2 < n
        · obtain ⟨y, e1⟩ : ∃ y, c.vs[k2]? = some y := ⟨_, List.getElem?_eq_getElem (by rw [← HN.out]; exact hlt)⟩
          obtain ⟨bl, ol, had, hbl, hcell⟩ := Rows.at HRW4.out rfl 0 (fun _ => rfl) k2 y e1
          subst had
          have c0 : wr.cell? ⟨bl, ol + k2, none⟩ = some (.int .i64 y) := by
            have h1 := hcell 0 _ rfl
            rw [show ol + k2 * (0 + 1) + 0 = ol + k2 by omega] at h1
            rw [← h1]
            exact World.cell?_of_block (a := ⟨bl, ol + k2, none⟩) (hg.out.block bl (cell_in h1) (by
              intro e
              injection e with e
              have := src_ne HRV.out HG4.out.1 k2 y e1 (by have := HOB.out; omega) e
              exact this))
          obtain ⟨m, hm2⟩ : ∃ m, m = (dtake c x k2).length := ⟨_, rfl⟩
          have hmk : m ≤ k2 := by rw [hm2]; exact dtake_len c x k2
          rw [← hm2] at hown hrow
          have HMM : Hid _ := hm2
          have HE : Hid _ := e1
          clear e1 hcell hbl hm2
          by_cases hyx : y = x
          · have hn1 : (y != x) = false := by rw [hyx]; simp
            have HTK : Hid _ := dtake_no c x k2 y HE.out hyx
            clear hyx
            go_wp2_with fail
            go_roundw
            case rel => exact ⟨k2 + 1, _, by omega, by go_num, hrow, by rw [HTK.out, ← HMM.out]; exact hown, hg⟩
            case measure => simp [intOf]; omega
          · have hn1 : (y != x) = true := by rw [bne_iff_ne]; exact hyx
            have HTK : Hid _ := dtake_yes c x k2 y HE.out hyx
            have HOr : Hid (O < W4.heap.size ∧ W4.heap.size ≤ wr.heap.size) := ⟨HG4.out.2, hg.out.size⟩
            have c11 := hrow.out.cell 11 rfl
            clear hyx
            go_wp2_with (at_builtin; refine wpList_append_own _ rfl _ _ 30 rfl W4.heap.size 3 i0 (.int .i64 0) 1 8 Try.underlying30 hi hz0 hz1 hz2 rfl (by decide) _ _ _ rfl (hown.alloc _) ⟨wr.heap.size, 0, none⟩ 1 1 [.int .i64 y] rfl rfl (g_cell1 _ _ _ _ rfl) (by simp [Value.oneCell']) ?c1 ?c2 ?c3 ?_)
            case c1 => unfold maxLen; omega
            case c2 => omega
            case c3 => have := HOr.out; simp; omega
            intro v3 w3 hown3 hg3 _
            have nbk : ∀ q, (Value.slice sad m scap).ownBlock = some q → W4.heap.size ≤ q := fun q e => (hown.lt q e).1
            have HR3 : Hid (LRow w3 O (dropP c (p) now (.slice sad m scap))) := row_grown (hrow.out.below ((Below.refl wr.heap.size wr).alloc (Nat.le_refl _) _) (by have := HOr.out; omega)) hg3 (by have := HOr.out; simp; omega) (fun e => by have := nbk O e.symm; have := HOr.out; omega)
            have HGG : Hid (W4.grownBy w3 (some O)) := g_grown (g_below hg.out ((Below.refl wr.heap.size wr).alloc (Nat.le_refl _) _)) hg3 nbk
            obtain ⟨sad3, scap3, rfl⟩ := g_slice hown3
            have c11' := HR3.out.cell 11 rfl
            have f11' := HR3.out.frozen 11 rfl
            have HR4 : Hid (LRow (w3.setCell ⟨O, 11, none⟩ (.slice sad3 (m + 1) scap3)) O (dropP c (p) now (.slice sad3 (m + 1) scap3))) := HR3.out.set 11 _
            have HG5 : Hid (W4.grownBy (w3.setCell ⟨O, 11, none⟩ (.slice sad3 (m + 1) scap3)) (some O)) := g_set HGG.out 11 _
            have HOW : Hid ((w3.setCell ⟨O, 11, none⟩ (.slice sad3 (m + 1) scap3)).ownsRow W4.heap.size 3 1 (.slice sad3 (m + 1) scap3) (m + 1) ((dtake c x k2).flatMap intF ++ [.int .i64 y])) := own_set' hown3 HOr.out.1
            clear c11 hown3 hg3 hown HR3 HGG hrow hg c0
            go_wp2_with fail
            go_roundw
            case rel =>
              refine ⟨k2 + 1, .slice sad3 (m + 1) scap3, by omega, by go_num, HR4, ?_, HG5⟩
              rw [HTK.out, List.length_append, List.flatMap_append, ← HMM.out]
              exact HOW.out
            case measure => simp [intOf]; omega
        · have hkn : k2 = n := by omega
          subst hkn
          have hall : dtake c x k2 = (dropC c (p) x now).vs := dtake_all c x k2 (by rw [← HN.out]; exact Nat.le_refl _)
          rw [hall] at hown hrow
          have HOWN : Hid _ := hown
          have HROW : Hid (LRow wr O (cnL (dropC c (p) x now) (.slice sad (dropC c (p) x now).vs.length scap))) := by rw [← dropP_end]; exact hrow.out
          have HOr : Hid _ := row_grown HO4.out hg.out (by have := HOB.out; have := HG4.out.2; omega) (fun e => by injection e with e; have := HOB.out; omega)
          have HBr : Hid (Below w.heap.size w wr) := HG4.out.1.grown hg.out HG4.out.1.size (fun q e => by injection e with e; have := HOB.out; omega)
          obtain ⟨nb, hnb⟩ : ∃ n, n = (dropC c (p) x now).vs.length := ⟨_, rfl⟩
          rw [← hnb] at HOWN HROW
          have HNB : Hid _ := hnb
          have h6 : Hid (w.heap.size + 1 < W4.heap.size ∧ w.heap.size ≤ W4.heap.size) := by have := HOB.out; have := HG4.out.2; exact ⟨by omega, by omega⟩
          clear hown hrow hall hg hlt hk hnb
          have q0 := HROW.out.cell 0 rfl
          have q1 := HROW.out.cell 1 rfl
          have q2 := HROW.out.cell 2 rfl
          have q3 := HROW.out.cell 3 rfl
          have q4 := HROW.out.cell 4 rfl
          have q5 := HROW.out.cell 5 rfl
          have q6 := HROW.out.cell 6 rfl
          have q7 := HROW.out.cell 7 rfl
          have q8 := HROW.out.cell 8 rfl
          have q9 := HROW.out.cell 9 rfl
          have q10 := HROW.out.cell 10 rfl
          have q11 := HROW.out.cell 11 rfl
          have o0 := HOr.out.cell 0 rfl
          have o1 := HOr.out.cell 1 rfl
          have o2 := HOr.out.cell 2 rfl
          have o3 := HOr.out.cell 3 rfl
          have o4 := HOr.out.cell 4 rfl
          have o5 := HOr.out.cell 5 rfl
          have o6 := HOr.out.cell 6 rfl
          have o7 := HOr.out.cell 7 rfl
          have o8 := HOr.out.cell 8 rfl
          have o9 := HOr.out.cell 9 rfl
          have o10 := HOr.out.cell 10 rfl
          have o11 := HOr.out.cell 11 rfl
          have f0 := HOr.out.frozen 0 rfl
          have f1 := HOr.out.frozen 1 rfl
          have f2 := HOr.out.frozen 2 rfl
          have f3 := HOr.out.frozen 3 rfl
          have f4 := HOr.out.frozen 4 rfl
          have f5 := HOr.out.frozen 5 rfl
          have f6 := HOr.out.frozen 6 rfl
          have f7 := HOr.out.frozen 7 rfl
          have f8 := HOr.out.frozen 8 rfl
          have f9 := HOr.out.frozen 9 rfl
          have f10 := HOr.out.frozen 10 rfl
          have f11 := HOr.out.frozen 11 rfl
          go_wp2_with fail
          generalize hW2 : World.setCell _ _ _ = W2
          have HP : Hid (LRow W2 (w.heap.size + 1) (cnL (dropC c (p) x now) (.slice sad nb scap))) := by
            rw [← hW2]
            exact (((((((((((HOr.out.set 0 _).set 1 _).set 2 _).set 3 _).set 4 _).set 5 _).set 6 _).set 7 _).set 8 _).set 9 _).set 10 _).set 11 _
          have HB2 : Hid (Below w.heap.size w W2) := by
            rw [← hW2]
            iterate 12 refine Below.setCell ?_ (show w.heap.size ≤ w.heap.size + 1 by omega) _
            exact HBr.out
          have HOW2 : Hid (W2.ownsRow w.heap.size 3 1 (.slice sad nb scap) nb ((dropC c (p) x now).vs.flatMap intF)) := by
            have hX : W2.ownsRow W4.heap.size 3 1 (.slice sad nb scap) nb ((dropC c (p) x now).vs.flatMap intF) := by
              rw [← hW2]
              iterate 12 refine own_set' ?_ h6.out.1
              exact HOWN.out
            exact g_lower hX h6.out.2
          clear hW2 q0 o0 f0 q1 o1 f1 q2 o2 f2 q3 o3 f3 q4 o4 f4 q5 o5 f5 q6 o6 f6 q7 o7 f7 q8 o8 f8 q9 o9 f9 q10 o10 f10 q11 o11 f11
          have p0 := HP.out.cell 0 rfl
          have p1 := HP.out.cell 1 rfl
          have p2 := HP.out.cell 2 rfl
          have p3 := HP.out.cell 3 rfl
          have p4 := HP.out.cell 4 rfl
          have p5 := HP.out.cell 5 rfl
          have p6 := HP.out.cell 6 rfl
          have p7 := HP.out.cell 7 rfl
          have p8 := HP.out.cell 8 rfl
          have p9 := HP.out.cell 9 rfl
          have p10 := HP.out.cell 10 rfl
          have p11 := HP.out.cell 11 rfl
          exact bodyPost_ret (v := .tuple #[.agg (cnL (dropC c (p) x now) (.slice sad nb scap)).toArray, .int .i64 0]) (by simp [results, Try.results43, go_sem, dropC, cnL, p0, p1, p2, p3, p4, p5, p6, p7, p8, p9, p10, p11]) rfl ⟨.slice sad nb scap, by rw [HR.out, HZ0.out], by rw [HR.out, ← HNB.out]; exact HOW2.out, HB2.out⟩

    · obtain ⟨k, hk⟩ : ∃ k : Nat, p = (k : Int) + 1 := ⟨(p - 1).toNat, by have := HC3.out; omega⟩
      have hk10 : k < 10 := by have := HC3.out; omega
      obtain ⟨u, hu⟩ : ∃ u, (cnL { c with g := now } (.slice none 0 0))[1 + k]? = some u := ⟨_, ps_get { c with g := now } _ k hk10⟩
      have co : W3.cell? ⟨O, 1 + k, none⟩ = some u := R3.out.cell (1 + k) hu
      have fo : W3.frozen? ⟨O, 1 + k, none⟩ = false := R3.out.frozen (1 + k) hu
      have e1 : IntKind.i64.wrap ((k : Int) + 1 - 1) = (k : Int) := by
        rw [show (k : Int) + 1 - 1 = (k : Int) by omega]; exact IntWalk.i64_in _ (by omega)
      have e2 : ((k : Int) + 1 - 1) = (k : Int) := by omega
      have e3 : (0 : Int) < (k : Int) + 1 := by omega
      subst hk
      have R4 : Hid (LRow (W3.setCell ⟨O, 1 + k, none⟩ (.bool false)) O (dropP c ((k : Int) + 1) now (.slice none 0 0))) := by have := R3.out.set (1 + k) (.bool false); rw [dropP_set c k hk10] at this; exact this
      have HG4 : Hid (Below w.heap.size w (W3.setCell ⟨O, 1 + k, none⟩ (.bool false)) ∧ O < (W3.setCell ⟨O, 1 + k, none⟩ (.bool false)).heap.size) := ⟨HB3.out.setCell (show w.heap.size ≤ O by have := HOL.out; omega) _, by have := HOL.out; simpa using this.2⟩
      have HA4 : Hid (LRow (W3.setCell ⟨O, 1 + k, none⟩ (.bool false)) _ _) := row_set HA3.out (by have := HOL.out; omega)
      have HO4 : Hid (LRow (W3.setCell ⟨O, 1 + k, none⟩ (.bool false)) _ _) := row_set HO3.out (by have := HOL.out; omega)
      clear hu hp0 hp
      go_upto_region 11 with fail
      clear co fo
      obtain ⟨W4, hW4⟩ : ∃ W, W = W3.setCell ⟨O, 1 + k, none⟩ (.bool false) := ⟨_, rfl⟩
      rw [← hW4] at R4 HG4 HA4 HO4 ⊢
      clear hW4 R3 HA3 HO3 HB3
      have a11 := HA4.out.cell 11 rfl
      have HOB : Hid (w.heap.size + 2 ≤ O) := HOL.out.1
      have hn40 : n ≤ 40 := by rw [HN.out]; exact chC_len HCK.out
      have HRW4 : Hid (Rows W4 (.slice ad n cap) intF c.vs) := by rw [HN.out]; rw [HN.out] at HRV; exact Rows.below HRV.out HG4.out.1 (Nat.le_refl _)
      go_wp2_with fail
      clear a11
      go_loopw [57] (fun i wr => ∃ (kk : Nat) (vv : Value), kk ≤ n ∧ i = .int .i64 kk ∧ Hid (LRow wr O (dropP c ((k : Int) + 1) now vv)) ∧ wr.ownsRow W4.heap.size 3 1 vv (dtake c x kk).length ((dtake c x kk).flatMap intF) ∧ Hid (W4.grownBy wr (some O))) (fun i _ => n - (intOf i).toNat)
      case atStart => exact ⟨0, .slice none 0 0, Nat.zero_le _, rfl, R4.out, World.ownsRow_nil _ _ _ _, ⟨rfl, rfl, rfl, Nat.le_refl _, fun _ _ _ => rfl⟩⟩
      case round =>
        obtain ⟨k2, vv, hk, rfl, hrow, hown, hg⟩ := hrel
        obtain ⟨sad, scap, rfl⟩ := g_slice hown
        by_cases hlt : k2 < n
        · obtain ⟨y, e1⟩ : ∃ y, c.vs[k2]? = some y := ⟨_, List.getElem?_eq_getElem (by rw [← HN.out]; exact hlt)⟩
          obtain ⟨bl, ol, had, hbl, hcell⟩ := Rows.at HRW4.out rfl 0 (fun _ => rfl) k2 y e1
          subst had
          have c0 : wr.cell? ⟨bl, ol + k2, none⟩ = some (.int .i64 y) := by
            have h1 := hcell 0 _ rfl
            rw [show ol + k2 * (0 + 1) + 0 = ol + k2 by omega] at h1
            rw [← h1]
            exact World.cell?_of_block (a := ⟨bl, ol + k2, none⟩) (hg.out.block bl (cell_in h1) (by
              intro e
              injection e with e
              have := src_ne HRV.out HG4.out.1 k2 y e1 (by have := HOB.out; omega) e
              exact this))
          obtain ⟨m, hm2⟩ : ∃ m, m = (dtake c x k2).length := ⟨_, rfl⟩
          have hmk : m ≤ k2 := by rw [hm2]; exact dtake_len c x k2
          rw [← hm2] at hown hrow
          have HMM : Hid _ := hm2
          have HE : Hid _ := e1
          clear e1 hcell hbl hm2
          by_cases hyx : y = x
          · have hn1 : (y != x) = false := by rw [hyx]; simp
            have HTK : Hid _ := dtake_no c x k2 y HE.out hyx
            clear hyx
            go_wp2_with fail
            go_roundw
            case rel => exact ⟨k2 + 1, _, by omega, by go_num, hrow, by rw [HTK.out, ← HMM.out]; exact hown, hg⟩
            case measure => simp [intOf]; omega
          · have hn1 : (y != x) = true := by rw [bne_iff_ne]; exact hyx
            have HTK : Hid _ := dtake_yes c x k2 y HE.out hyx
            have HOr : Hid (O < W4.heap.size ∧ W4.heap.size ≤ wr.heap.size) := ⟨HG4.out.2, hg.out.size⟩
            have c11 := hrow.out.cell 11 rfl
            clear hyx
            go_wp2_with (at_builtin; refine wpList_append_own _ rfl _ _ 30 rfl W4.heap.size 3 i0 (.int .i64 0) 1 8 Try.underlying30 hi hz0 hz1 hz2 rfl (by decide) _ _ _ rfl (hown.alloc _) ⟨wr.heap.size, 0, none⟩ 1 1 [.int .i64 y] rfl rfl (g_cell1 _ _ _ _ rfl) (by simp [Value.oneCell']) ?c1 ?c2 ?c3 ?_)
            case c1 => unfold maxLen; omega
            case c2 => omega
            case c3 => have := HOr.out; simp; omega
            intro v3 w3 hown3 hg3 _
            have nbk : ∀ q, (Value.slice sad m scap).ownBlock = some q → W4.heap.size ≤ q := fun q e => (hown.lt q e).1
            have HR3 : Hid (LRow w3 O (dropP c ((k : Int) + 1) now (.slice sad m scap))) := row_grown (hrow.out.below ((Below.refl wr.heap.size wr).alloc (Nat.le_refl _) _) (by have := HOr.out; omega)) hg3 (by have := HOr.out; simp; omega) (fun e => by have := nbk O e.symm; have := HOr.out; omega)
            have HGG : Hid (W4.grownBy w3 (some O)) := g_grown (g_below hg.out ((Below.refl wr.heap.size wr).alloc (Nat.le_refl _) _)) hg3 nbk
            obtain ⟨sad3, scap3, rfl⟩ := g_slice hown3
            have c11' := HR3.out.cell 11 rfl
            have f11' := HR3.out.frozen 11 rfl
            have HR4 : Hid (LRow (w3.setCell ⟨O, 11, none⟩ (.slice sad3 (m + 1) scap3)) O (dropP c ((k : Int) + 1) now (.slice sad3 (m + 1) scap3))) := HR3.out.set 11 _
            have HG5 : Hid (W4.grownBy (w3.setCell ⟨O, 11, none⟩ (.slice sad3 (m + 1) scap3)) (some O)) := g_set HGG.out 11 _
            have HOW : Hid ((w3.setCell ⟨O, 11, none⟩ (.slice sad3 (m + 1) scap3)).ownsRow W4.heap.size 3 1 (.slice sad3 (m + 1) scap3) (m + 1) ((dtake c x k2).flatMap intF ++ [.int .i64 y])) := own_set' hown3 HOr.out.1
            clear c11 hown3 hg3 hown HR3 HGG hrow hg c0
            go_wp2_with fail
            go_roundw
            case rel =>
              refine ⟨k2 + 1, .slice sad3 (m + 1) scap3, by omega, by go_num, HR4, ?_, HG5⟩
              rw [HTK.out, List.length_append, List.flatMap_append, ← HMM.out]
              exact HOW.out
            case measure => simp [intOf]; omega
        · have hkn : k2 = n := by omega
          subst hkn
          have hall : dtake c x k2 = (dropC c ((k : Int) + 1) x now).vs := dtake_all c x k2 (by rw [← HN.out]; exact Nat.le_refl _)
          rw [hall] at hown hrow
          have HOWN : Hid _ := hown
          have HROW : Hid (LRow wr O (cnL (dropC c ((k : Int) + 1) x now) (.slice sad (dropC c ((k : Int) + 1) x now).vs.length scap))) := by rw [← dropP_end]; exact hrow.out
          have HOr : Hid _ := row_grown HO4.out hg.out (by have := HOB.out; have := HG4.out.2; omega) (fun e => by injection e with e; have := HOB.out; omega)
          have HBr : Hid (Below w.heap.size w wr) := HG4.out.1.grown hg.out HG4.out.1.size (fun q e => by injection e with e; have := HOB.out; omega)
          obtain ⟨nb, hnb⟩ : ∃ n, n = (dropC c ((k : Int) + 1) x now).vs.length := ⟨_, rfl⟩
          rw [← hnb] at HOWN HROW
          have HNB : Hid _ := hnb
          have h6 : Hid (w.heap.size + 1 < W4.heap.size ∧ w.heap.size ≤ W4.heap.size) := by have := HOB.out; have := HG4.out.2; exact ⟨by omega, by omega⟩
          clear hown hrow hall hg hlt hk hnb
          have q0 := HROW.out.cell 0 rfl
          have q1 := HROW.out.cell 1 rfl
          have q2 := HROW.out.cell 2 rfl
          have q3 := HROW.out.cell 3 rfl
          have q4 := HROW.out.cell 4 rfl
          have q5 := HROW.out.cell 5 rfl
          have q6 := HROW.out.cell 6 rfl
          have q7 := HROW.out.cell 7 rfl
          have q8 := HROW.out.cell 8 rfl
          have q9 := HROW.out.cell 9 rfl
          have q10 := HROW.out.cell 10 rfl
          have q11 := HROW.out.cell 11 rfl
          have o0 := HOr.out.cell 0 rfl
          have o1 := HOr.out.cell 1 rfl
          have o2 := HOr.out.cell 2 rfl
          have o3 := HOr.out.cell 3 rfl
          have o4 := HOr.out.cell 4 rfl
          have o5 := HOr.out.cell 5 rfl
          have o6 := HOr.out.cell 6 rfl
          have o7 := HOr.out.cell 7 rfl
          have o8 := HOr.out.cell 8 rfl
          have o9 := HOr.out.cell 9 rfl
          have o10 := HOr.out.cell 10 rfl
          have o11 := HOr.out.cell 11 rfl
          have f0 := HOr.out.frozen 0 rfl
          have f1 := HOr.out.frozen 1 rfl
          have f2 := HOr.out.frozen 2 rfl
          have f3 := HOr.out.frozen 3 rfl
          have f4 := HOr.out.frozen 4 rfl
          have f5 := HOr.out.frozen 5 rfl
          have f6 := HOr.out.frozen 6 rfl
          have f7 := HOr.out.frozen 7 rfl
          have f8 := HOr.out.frozen 8 rfl
          have f9 := HOr.out.frozen 9 rfl
          have f10 := HOr.out.frozen 10 rfl
          have f11 := HOr.out.frozen 11 rfl
          go_wp2_with fail
          generalize hW2 : World.setCell _ _ _ = W2
          have HP : Hid (LRow W2 (w.heap.size + 1) (cnL (dropC c ((k : Int) + 1) x now) (.slice sad nb scap))) := by
            rw [← hW2]
            exact (((((((((((HOr.out.set 0 _).set 1 _).set 2 _).set 3 _).set 4 _).set 5 _).set 6 _).set 7 _).set 8 _).set 9 _).set 10 _).set 11 _
          have HB2 : Hid (Below w.heap.size w W2) := by
            rw [← hW2]
            iterate 12 refine Below.setCell ?_ (show w.heap.size ≤ w.heap.size + 1 by omega) _
            exact HBr.out
          have HOW2 : Hid (W2.ownsRow w.heap.size 3 1 (.slice sad nb scap) nb ((dropC c ((k : Int) + 1) x now).vs.flatMap intF)) := by
            have hX : W2.ownsRow W4.heap.size 3 1 (.slice sad nb scap) nb ((dropC c ((k : Int) + 1) x now).vs.flatMap intF) := by
              rw [← hW2]
              iterate 12 refine own_set' ?_ h6.out.1
              exact HOWN.out
            exact g_lower hX h6.out.2
          clear hW2 q0 o0 f0 q1 o1 f1 q2 o2 f2 q3 o3 f3 q4 o4 f4 q5 o5 f5 q6 o6 f6 q7 o7 f7 q8 o8 f8 q9 o9 f9 q10 o10 f10 q11 o11 f11
          have p0 := HP.out.cell 0 rfl
          have p1 := HP.out.cell 1 rfl
          have p2 := HP.out.cell 2 rfl
          have p3 := HP.out.cell 3 rfl
          have p4 := HP.out.cell 4 rfl
          have p5 := HP.out.cell 5 rfl
          have p6 := HP.out.cell 6 rfl
          have p7 := HP.out.cell 7 rfl
          have p8 := HP.out.cell 8 rfl
          have p9 := HP.out.cell 9 rfl
          have p10 := HP.out.cell 10 rfl
          have p11 := HP.out.cell 11 rfl
          exact bodyPost_ret (v := .tuple #[.agg (cnL (dropC c ((k : Int) + 1) x now) (.slice sad nb scap)).toArray, .int .i64 0]) (by simp [results, Try.results43, go_sem, dropC, cnL, p0, p1, p2, p3, p4, p5, p6, p7, p8, p9, p10, p11]) rfl ⟨.slice sad nb scap, by rw [HR.out, HZ0.out], by rw [HR.out, ← HNB.out]; exact HOW2.out, HB2.out⟩

  · have hne : (ck != 0) = true := by rw [bne_iff_ne]; exact hck
    have HZ2 : Hid (z = ck) := by show _ = _; rw [HZ.out, HCKD.out]; unfold dropE; rw [if_neg (by rw [← HCKD.out]; exact hck)]
    have HR : Hid (dropR c p x now = c0) := by show _ = _; unfold dropR; rw [if_neg (by rw [← HZ.out, HZ2.out]; exact hck)]
    clear hck
    have o0 := HO1.out.cell 0 rfl
    have o1 := HO1.out.cell 1 rfl
    have o2 := HO1.out.cell 2 rfl
    have o3 := HO1.out.cell 3 rfl
    have o4 := HO1.out.cell 4 rfl
    have o5 := HO1.out.cell 5 rfl
    have o6 := HO1.out.cell 6 rfl
    have o7 := HO1.out.cell 7 rfl
    have o8 := HO1.out.cell 8 rfl
    have o9 := HO1.out.cell 9 rfl
    have o10 := HO1.out.cell 10 rfl
    have o11 := HO1.out.cell 11 rfl
    have f0 := HO1.out.frozen 0 rfl
    have f1 := HO1.out.frozen 1 rfl
    have f2 := HO1.out.frozen 2 rfl
    have f3 := HO1.out.frozen 3 rfl
    have f4 := HO1.out.frozen 4 rfl
    have f5 := HO1.out.frozen 5 rfl
    have f6 := HO1.out.frozen 6 rfl
    have f7 := HO1.out.frozen 7 rfl
    have f8 := HO1.out.frozen 8 rfl
    have f9 := HO1.out.frozen 9 rfl
    have f10 := HO1.out.frozen 10 rfl
    have f11 := HO1.out.frozen 11 rfl
    go_wp2_with fail
    generalize hW2 : World.setCell _ _ _ = W2
    have HP : Hid (LRow W2 (w.heap.size + 1) (cnL c0 (.slice none 0 0))) := by
      rw [← hW2]
      exact (((((((((((HO1.out.set 0 _).set 1 _).set 2 _).set 3 _).set 4 _).set 5 _).set 6 _).set 7 _).set 8 _).set 9 _).set 10 _).set 11 _
    have HB2 : Hid (Below w.heap.size w W2) := by
      rw [← hW2]
      iterate 12 refine Below.setCell ?_ (show w.heap.size ≤ w.heap.size + 1 by omega) _
      exact HB1.out
    clear hW2 o0 f0 o1 f1 o2 f2 o3 f3 o4 f4 o5 f5 o6 f6 o7 f7 o8 f8 o9 f9 o10 f10 o11 f11
    have p0 := HP.out.cell 0 rfl
    have p1 := HP.out.cell 1 rfl
    have p2 := HP.out.cell 2 rfl
    have p3 := HP.out.cell 3 rfl
    have p4 := HP.out.cell 4 rfl
    have p5 := HP.out.cell 5 rfl
    have p6 := HP.out.cell 6 rfl
    have p7 := HP.out.cell 7 rfl
    have p8 := HP.out.cell 8 rfl
    have p9 := HP.out.cell 9 rfl
    have p10 := HP.out.cell 10 rfl
    have p11 := HP.out.cell 11 rfl
    exact bodyPost_ret (v := .tuple #[.agg #[.int .i64 0, .bool false, .bool false, .bool false, .bool false, .bool false, .bool false, .bool false, .bool false, .bool false, .bool false, .slice none 0 0], .int .i64 ck]) (by simp [results, Try.results43, go_sem, c0, p0, p1, p2, p3, p4, p5, p6, p7, p8, p9, p10, p11]) rfl ⟨.slice none 0 0, by rw [HR.out, HZ2.out]; rfl, by rw [HR.out]; exact World.ownsRow_nil _ _ _ _, HB2.out⟩

end Go.Proofs.Ytcfdajaideidkaa
namespace Go.Proofs.Ytcfdajaideidkaa
open Go.RowKit Go.Maps
set_option linter.all false
set_option maxRecDepth 100000
set_option maxRecDepth 100000

set_option maxHeartbeats 2000000 in
theorem sameI_any (va vb : Value) (a b : List Int) (w : World) (ha : Rows w va intF a) (hb : Rows w vb intF b) (hma : a.length ≤ maxLen) (hmb : b.length ≤ maxLen) :
    Calls Try.prog 45 #[va, vb] w fun e w' => e = .returned (.bool (decide (a = b))) ∧ ∃ n, w' = w.drewN n := by
  obtain ⟨ada, capa, rfl⟩ := ha.shape
  obtain ⟨adb, capb, rfl⟩ := hb.shape
  have HA : Hid _ := ha
  have HB : Hid _ := hb
  obtain ⟨z, hz⟩ : ∃ z, z = decide (a = b) := ⟨_, rfl⟩
  rw [← hz]
  have HZ : Hid _ := hz
  unfold maxLen at hma hmb
  clear ha hb hz
  by_cases hl : a.length = b.length
  · have hne : ((a.length : Int) != (b.length : Int)) = false := by rw [hl]; simp
    go_enter Try.func45, Try.ntmps45
    go_wp2_with fail
    go_loopw [5] (fun i wr => ∃ k n : Nat, k ≤ a.length ∧ i = .int .i64 k ∧ Hid (∀ j : Nat, j < k → a[j]? = b[j]?) ∧ wr = w.drewN n) (fun i _ => a.length - (intOf i).toNat)
    case atStart => exact ⟨0, 0, Nat.zero_le _, rfl, fun _ h => absurd h (by omega), rfl⟩
    case round =>
      obtain ⟨k, n, hk, rfl, hall, rfl⟩ := hrel
      by_cases hlt : k < a.length
      · obtain ⟨x, ex⟩ : ∃ x, a[k]? = some x := ⟨_, List.getElem?_eq_getElem hlt⟩
        obtain ⟨y, ey⟩ : ∃ y, b[k]? = some y := ⟨_, List.getElem?_eq_getElem (by omega)⟩
        obtain ⟨ba, oa, hada, hba, hca⟩ := Rows.at HA.out rfl 0 (fun _ => rfl) k x ex
        obtain ⟨bb, ob, hadb, hbb, hcb⟩ := Rows.at HB.out rfl 0 (fun _ => rfl) k y ey
        subst hada hadb
        have ca0 := hca 0 _ rfl
        have cb0 := hcb 0 _ rfl
        rw [show oa + k * (0 + 1) + 0 = oa + k by omega] at ca0
        rw [show ob + k * (0 + 1) + 0 = ob + k by omega] at cb0
        have CA : ∀ m, (w.drewN m).cell? ⟨ba, oa + k, none⟩ = some (.int .i64 x) := fun m => ca0
        have CB : ∀ m, (w.drewN m).cell? ⟨bb, ob + k, none⟩ = some (.int .i64 y) := fun m => cb0
        have EX : Hid _ := ex
        have EY : Hid _ := ey
        have hlb : (k : Int) < (b.length : Int) := by omega
        clear ex ey hca hcb hba hbb ca0 cb0
        obtain ⟨W, hW⟩ : ∃ W, W = w.drewN n := ⟨_, rfl⟩
        have c1 : W.cell? ⟨ba, oa + k, none⟩ = some (.int .i64 x) := by rw [hW]; exact CA n
        have c2 : W.cell? ⟨bb, ob + k, none⟩ = some (.int .i64 y) := by rw [hW]; exact CB n
        have HW : Hid _ := hW
        rw [← hW]
        clear hW CA CB
        by_cases hxy : x = y
        · have hn : (x != y) = false := by rw [hxy]; simp
          go_wp2_with fail
          go_quiet (fail)
          go_wp2_with fail
          go_roundw
          case rel =>
            refine ⟨k + 1, _, by omega, by go_num, fun j hj => ?_, by rw [HW.out]; exact World.drewN_drewN _ _ _⟩
            by_cases e : j = k
            · subst e; rw [EX.out, EY.out, hxy]
            · exact hall.out j (by omega)
          case measure => simp [intOf]; omega
        · have hn : (x != y) = true := by rw [bne_iff_ne]; exact hxy
          have HF : Hid (z = false) := by
            show _ = _
            rw [HZ.out]
            exact decide_eq_false fun h => hxy (by have h1 := EX.out; rw [h, EY.out] at h1; injection h1 with h1; exact h1.symm)
          go_wp2_with fail
          go_quiet (fail)
          go_wp2_with fail
          go_ret
          exact ⟨by rw [HF.out]; rfl, _, by rw [HW.out]; exact World.drewN_drewN _ _ _⟩
      · have HTT : Hid (z = true) := by
          show _ = _
          rw [HZ.out]
          refine decide_eq_true (List.ext_getElem? fun j => ?_)
          rcases Nat.lt_or_ge j k with h | h
          · exact hall.out j h
          · rw [List.getElem?_eq_none (by omega), List.getElem?_eq_none (by omega)]
        go_wp2_with fail
        go_ret
        exact ⟨by rw [HTT.out]; rfl, n, rfl⟩
  · have hne : ((a.length : Int) != (b.length : Int)) = true := by rw [bne_iff_ne]; omega
    have HF : Hid (z = false) := by
      show _ = _
      rw [HZ.out]; exact decide_eq_false fun h => hl (by rw [h])
    go_enter Try.func45, Try.ntmps45
    go_wp2_with fail
    go_ret
    exact ⟨by rw [HF.out]; rfl, 0, rfl⟩

def sameC (a b : Cn) : Bool := decide (a.g = b.g) && (decide (a.ps = b.ps) && decide (a.vs = b.vs))
theorem sameC_iff (a b : Cn) : sameC a b = true ↔ a = b := by
  unfold sameC
  rw [Bool.and_eq_true, Bool.and_eq_true, decide_eq_true_eq, decide_eq_true_eq, decide_eq_true_eq]
  constructor
  · rintro ⟨h1, h2, h3⟩
    obtain ⟨g, x0, x1, x2, x3, x4, x5, x6, x7, x8, x9, vs⟩ := a
    obtain ⟨g', y0, y1, y2, y3, y4, y5, y6, y7, y8, y9, vs'⟩ := b
    simp only at h1 h3
    unfold Cn.ps at h2
    simp only [List.cons.injEq, and_true] at h2
    obtain ⟨rfl, rfl, rfl, rfl, rfl, rfl, rfl, rfl, rfl, rfl⟩ := h2
    rw [h1, h3]
  · rintro rfl; exact ⟨rfl, rfl, rfl⟩
theorem item_step (xs ys : Array Value) (j : Nat) (is : List Nat) (x y : Bool) (hx : xs[j]? = some (.bool x)) (hy : ys[j]? = some (.bool y)) (w : World) :
    (Op.eqItems 9999 4 1 xs ys (j :: is)).run Try.prog w = if x = y then (Op.eqItems 9999 4 1 xs ys is).run Try.prog w else .ok false w := by
  have hp : Try.prog.plainKey 4 = true := by kernel_rfl
  have p1 : (part 4 xs (j * 1)).run Try.prog w = .ok (.bool x) w := run_part_plain w hp (by rw [Nat.mul_one]; exact hx)
  have p2 : (part 4 ys (j * 1)).run Try.prog w = .ok (.bool y) w := run_part_plain w hp (by rw [Nat.mul_one]; exact hy)
  have p3 : (Op.equalIn 9999 4 (.bool x) (.bool y)).run Try.prog w = .ok (x == y) w := by cases x <;> cases y <;> kernel_rfl
  simp only [Op.eqItems, Sem.run_bind, p1, p2, p3, Result.andThen_ok]
  cases x <;> cases y <;> simp
set_option maxHeartbeats 1000000 in
theorem eq10 (a b : Cn) (w : World) : (Op.equalIn 10000 29 (.agg #[.bool a.b0, .bool a.b1, .bool a.b2, .bool a.b3, .bool a.b4, .bool a.b5, .bool a.b6, .bool a.b7, .bool a.b8, .bool a.b9]) (.agg #[.bool b.b0, .bool b.b1, .bool b.b2, .bool b.b3, .bool b.b4, .bool b.b5, .bool b.b6, .bool b.b7, .bool b.b8, .bool b.b9])).run Try.prog w = .ok (decide (a.ps = b.ps)) w := by
  obtain ⟨g, x0, x1, x2, x3, x4, x5, x6, x7, x8, x9, vs⟩ := a
  obtain ⟨g', y0, y1, y2, y3, y4, y5, y6, y7, y8, y9, vs'⟩ := b
  have hu : Try.prog.underlying 29 = some (.array 10 4) := Try.underlying29
  obtain ⟨i, hi⟩ : ∃ i, Try.prog.info? 4 = some i := by
    have h : (Try.prog.info? 4).isSome = true := by kernel_rfl
    exact Option.isSome_iff_exists.1 h
  have hc : Try.prog.cellsOf 4 = 1 := by kernel_rfl
  have hb := Try.underlying4
  have ez : (Try.prog.info? 4).map (fun i => i.size) = some 1 := by kernel_rfl
  rw [show (10000 : Nat) = 9999 + 1 from rfl, run_equalIn_array w 9999 _ _ hu hi, hc, show List.range 10 = [0, 1, 2, 3, 4, 5, 6, 7, 8, 9] from rfl]
  simp only [Cn.ps]
  rw [item_step _ _ 0 _ x0 y0 rfl rfl w]
  by_cases h0 : x0 = y0
  case neg => rw [if_neg h0]; congr 1; symm; exact decide_eq_false (fun h => h0 (by have h' := congrArg (fun l : List Bool => l[0]?) h; simpa using h'))
  rw [if_pos h0]
  rw [item_step _ _ 1 _ x1 y1 rfl rfl w]
  by_cases h1 : x1 = y1
  case neg => rw [if_neg h1]; congr 1; symm; exact decide_eq_false (fun h => h1 (by have h' := congrArg (fun l : List Bool => l[1]?) h; simpa using h'))
  rw [if_pos h1]
  rw [item_step _ _ 2 _ x2 y2 rfl rfl w]
  by_cases h2 : x2 = y2
  case neg => rw [if_neg h2]; congr 1; symm; exact decide_eq_false (fun h => h2 (by have h' := congrArg (fun l : List Bool => l[2]?) h; simpa using h'))
  rw [if_pos h2]
  rw [item_step _ _ 3 _ x3 y3 rfl rfl w]
  by_cases h3 : x3 = y3
  case neg => rw [if_neg h3]; congr 1; symm; exact decide_eq_false (fun h => h3 (by have h' := congrArg (fun l : List Bool => l[3]?) h; simpa using h'))
  rw [if_pos h3]
  rw [item_step _ _ 4 _ x4 y4 rfl rfl w]
  by_cases h4 : x4 = y4
  case neg => rw [if_neg h4]; congr 1; symm; exact decide_eq_false (fun h => h4 (by have h' := congrArg (fun l : List Bool => l[4]?) h; simpa using h'))
  rw [if_pos h4]
  rw [item_step _ _ 5 _ x5 y5 rfl rfl w]
  by_cases h5 : x5 = y5
  case neg => rw [if_neg h5]; congr 1; symm; exact decide_eq_false (fun h => h5 (by have h' := congrArg (fun l : List Bool => l[5]?) h; simpa using h'))
  rw [if_pos h5]
  rw [item_step _ _ 6 _ x6 y6 rfl rfl w]
  by_cases h6 : x6 = y6
  case neg => rw [if_neg h6]; congr 1; symm; exact decide_eq_false (fun h => h6 (by have h' := congrArg (fun l : List Bool => l[6]?) h; simpa using h'))
  rw [if_pos h6]
  rw [item_step _ _ 7 _ x7 y7 rfl rfl w]
  by_cases h7 : x7 = y7
  case neg => rw [if_neg h7]; congr 1; symm; exact decide_eq_false (fun h => h7 (by have h' := congrArg (fun l : List Bool => l[7]?) h; simpa using h'))
  rw [if_pos h7]
  rw [item_step _ _ 8 _ x8 y8 rfl rfl w]
  by_cases h8 : x8 = y8
  case neg => rw [if_neg h8]; congr 1; symm; exact decide_eq_false (fun h => h8 (by have h' := congrArg (fun l : List Bool => l[8]?) h; simpa using h'))
  rw [if_pos h8]
  rw [item_step _ _ 9 _ x9 y9 rfl rfl w]
  by_cases h9 : x9 = y9
  case neg => rw [if_neg h9]; congr 1; symm; exact decide_eq_false (fun h => h9 (by have h' := congrArg (fun l : List Bool => l[9]?) h; simpa using h'))
  rw [if_pos h9]
  subst h0 h1 h2 h3 h4 h5 h6 h7 h8 h9
  show Result.ok true w = _
  congr 1
  symm
  exact decide_eq_true rfl
set_option maxHeartbeats 4000000 in
theorem sameC_any (a b : Cn) (va vb : Value) (w : World) (ha : Rows w va intF a.vs) (hb : Rows w vb intF b.vs) (hma : a.vs.length ≤ maxLen) (hmb : b.vs.length ≤ maxLen) :
    Calls Try.prog 44 #[.agg #[.int .i64 a.g, .bool a.b0, .bool a.b1, .bool a.b2, .bool a.b3, .bool a.b4, .bool a.b5, .bool a.b6, .bool a.b7, .bool a.b8, .bool a.b9, va], .agg #[.int .i64 b.g, .bool b.b0, .bool b.b1, .bool b.b2, .bool b.b3, .bool b.b4, .bool b.b5, .bool b.b6, .bool b.b7, .bool b.b8, .bool b.b9, vb]] w fun e w' => e = .returned (.bool (sameC a b)) ∧ Below w.heap.size w w' := by
  obtain ⟨x, hx⟩ : ∃ x, x = decide (a.ps = b.ps) := ⟨_, rfl⟩
  obtain ⟨y, hy⟩ : ∃ y, y = decide (a.vs = b.vs) := ⟨_, rfl⟩
  have KI : Hid (∀ w', Below w.heap.size w w' → Calls Try.prog 45 #[va, vb] w' fun e w'' => e = .returned (.bool y) ∧ ∃ n, w'' = w'.drewN n) := fun w' h => by
    rw [hy]; exact sameI_any va vb a.vs b.vs w' (Rows.below ha h (Nat.le_refl _)) (Rows.below hb h (Nat.le_refl _)) hma hmb
  have e10 := eq10 a b
  rw [← hx] at e10
  obtain ⟨z, hz⟩ : ∃ z, z = sameC a b := ⟨_, rfl⟩
  have HZ : Hid (z = (decide (a.g = b.g) && (x && y))) := by show _ = _; rw [hz, hx, hy]; rfl
  rw [← hz]
  have HB0 : Hid (∀ o o', Below w.heap.size w ((w.alloc o).alloc o')) := fun o o' => ((Below.refl _ w).alloc (Nat.le_refl _) o).alloc (by simp) o'
  clear hx hy hz ha hb hma hmb
  go_enter Try.func44, Try.ntmps44
  by_cases hg : a.g = b.g
  · have h1 : (a.g == b.g) = true := by rw [hg]; simp
    cases x
    · have HZ2 : Hid (z = false) := by show _ = _; rw [HZ.out]; simp
      go_wp2_with fail
      go_ret
      exact ⟨by rw [HZ2.out]; rfl, HB0.out _ _⟩
    · have HZ2 : Hid (z = y) := by show _ = _; rw [HZ.out, decide_eq_true hg]; simp
      go_wp2_with fail
      refine (KI.out _ (HB0.out _ _)).mono ?_
      rintro e w1 ⟨rfl, n, rfl⟩
      go_wp2_with fail
      go_ret
      exact ⟨by rw [HZ2.out]; rfl, (HB0.out _ _).trans (below_drewN' _ _ n)⟩
  · have h1 : (a.g == b.g) = false := by rw [beq_eq_false_iff_ne]; exact hg
    have HZ2 : Hid (z = false) := by show _ = _; rw [HZ.out, decide_eq_false hg]; rfl
    go_wp2_with fail
    go_ret
    exact ⟨by rw [HZ2.out]; rfl, HB0.out _ _⟩
end Go.Proofs.Ytcfdajaideidkaa
namespace Go.Proofs.Ytcfdajaideidkaa
open Go.RowKit Go.Maps
set_option linter.all false
set_option maxRecDepth 100000
set_option maxRecDepth 100000

def gbB : Cn := ⟨5, true, false, false, false, false, false, false, false, false, false, [3, 5]⟩
def gbM : Cn := ⟨1000, true, false, false, false, false, false, false, false, false, false, [3]⟩
def gbJ : List Int := [2, 3, 4, 5, 9]
def gbJC : Cn := ⟨1000, true, false, false, true, false, false, false, false, false, false, [2, 3, 4, 5, 9]⟩
def gbD : Cn := ⟨2000, true, false, false, false, false, false, false, false, false, false, [2, 3, 4]⟩
theorem gb1 : bothE agC gbB = 0 ∧ bothR (fun x y => x && y) agC gbB = gbM := by refine ⟨by decide +kernel, ?_⟩; rw [← sameC_iff]; decide +kernel
theorem gb2 : bothE agC gbB = 0 ∧ bothR (fun x y => x || y) agC gbB = gbJC := by refine ⟨by decide +kernel, ?_⟩; rw [← sameC_iff]; decide +kernel
theorem gb3 : dropE agC 4 9 2000 = 0 ∧ dropR agC 4 9 2000 = gbD := by refine ⟨by decide +kernel, ?_⟩; rw [← sameC_iff]; decide +kernel
theorem gb4 : dropE agC 0 0 999 = 4 ∧ dropR agC 0 0 999 = c0 := by refine ⟨by decide +kernel, ?_⟩; rw [← sameC_iff]; decide +kernel
theorem gb5 : mayC agC 4 9 = true ∧ mayC agC 2 0 = false ∧ mayC c0 0 0 = true ∧ lessC agC gbB = false := by decide +kernel
theorem inR_small (l : List Int) (h : l.all (fun z => decide (-9223372036854775808 ≤ z ∧ z ≤ 9223372036854775807)) = true) : inR l := fun z hz => by
  have := List.all_eq_true.1 h z hz
  simpa using this
theorem keep_allocG {w w' : World} (h : Below w.heap.size w w') (o : Obj) : Below w.heap.size w (w'.alloc o) := h.alloc h.size o
theorem LRow.cells12 {W : World} {B : Nat} {a0 a1 a2 a3 a4 a5 a6 a7 a8 a9 a10 a11 : Value} (h : LRow W B [a0, a1, a2, a3, a4, a5, a6, a7, a8, a9, a10, a11]) : W.cell? ⟨B, 0, none⟩ = some a0 ∧ W.cell? ⟨B, 1, none⟩ = some a1 ∧ W.cell? ⟨B, 2, none⟩ = some a2 ∧ W.cell? ⟨B, 3, none⟩ = some a3 ∧ W.cell? ⟨B, 4, none⟩ = some a4 ∧ W.cell? ⟨B, 5, none⟩ = some a5 ∧ W.cell? ⟨B, 6, none⟩ = some a6 ∧ W.cell? ⟨B, 7, none⟩ = some a7 ∧ W.cell? ⟨B, 8, none⟩ = some a8 ∧ W.cell? ⟨B, 9, none⟩ = some a9 ∧ W.cell? ⟨B, 10, none⟩ = some a10 ∧ W.cell? ⟨B, 11, none⟩ = some a11 :=
  ⟨h.cell 0 rfl, h.cell 1 rfl, h.cell 2 rfl, h.cell 3 rfl, h.cell 4 rfl, h.cell 5 rfl, h.cell 6 rfl, h.cell 7 rfl, h.cell 8 rfl, h.cell 9 rfl, h.cell 10 rfl, h.cell 11 rfl⟩
theorem LRow.frozen12 {W : World} {B : Nat} {a0 a1 a2 a3 a4 a5 a6 a7 a8 a9 a10 a11 : Value} (h : LRow W B [a0, a1, a2, a3, a4, a5, a6, a7, a8, a9, a10, a11]) : W.frozen? ⟨B, 0, none⟩ = false ∧ W.frozen? ⟨B, 1, none⟩ = false ∧ W.frozen? ⟨B, 2, none⟩ = false ∧ W.frozen? ⟨B, 3, none⟩ = false ∧ W.frozen? ⟨B, 4, none⟩ = false ∧ W.frozen? ⟨B, 5, none⟩ = false ∧ W.frozen? ⟨B, 6, none⟩ = false ∧ W.frozen? ⟨B, 7, none⟩ = false ∧ W.frozen? ⟨B, 8, none⟩ = false ∧ W.frozen? ⟨B, 9, none⟩ = false ∧ W.frozen? ⟨B, 10, none⟩ = false ∧ W.frozen? ⟨B, 11, none⟩ = false :=
  ⟨h.frozen 0 rfl, h.frozen 1 rfl, h.frozen 2 rfl, h.frozen 3 rfl, h.frozen 4 rfl, h.frozen 5 rfl, h.frozen 6 rfl, h.frozen 7 rfl, h.frozen 8 rfl, h.frozen 9 rfl, h.frozen 10 rfl, h.frozen 11 rfl⟩
theorem set12 {W W0 : World} {A B base : Nat} {e : TypeId} {size n : Nat} {v : Value} {cs : List Value} {a0 a1 a2 a3 a4 a5 a6 a7 a8 a9 a10 a11 : Value} (h : LRow W B [a0, a1, a2, a3, a4, a5, a6, a7, a8, a9, a10, a11]) (o : W.ownsRow base e size v n cs) (b : Below A W0 W) (hlt : B < base) (hA : A ≤ B) (x0 x1 x2 x3 x4 x5 x6 x7 x8 x9 x10 x11 : Value) :
    LRow ((((((((((((W.setCell ⟨B, 0, none⟩ x0).setCell ⟨B, 1, none⟩ x1).setCell ⟨B, 2, none⟩ x2).setCell ⟨B, 3, none⟩ x3).setCell ⟨B, 4, none⟩ x4).setCell ⟨B, 5, none⟩ x5).setCell ⟨B, 6, none⟩ x6).setCell ⟨B, 7, none⟩ x7).setCell ⟨B, 8, none⟩ x8).setCell ⟨B, 9, none⟩ x9).setCell ⟨B, 10, none⟩ x10).setCell ⟨B, 11, none⟩ x11) B [x0, x1, x2, x3, x4, x5, x6, x7, x8, x9, x10, x11] ∧ ((((((((((((W.setCell ⟨B, 0, none⟩ x0).setCell ⟨B, 1, none⟩ x1).setCell ⟨B, 2, none⟩ x2).setCell ⟨B, 3, none⟩ x3).setCell ⟨B, 4, none⟩ x4).setCell ⟨B, 5, none⟩ x5).setCell ⟨B, 6, none⟩ x6).setCell ⟨B, 7, none⟩ x7).setCell ⟨B, 8, none⟩ x8).setCell ⟨B, 9, none⟩ x9).setCell ⟨B, 10, none⟩ x10).setCell ⟨B, 11, none⟩ x11).ownsRow base e size v n cs ∧ Below A W0 ((((((((((((W.setCell ⟨B, 0, none⟩ x0).setCell ⟨B, 1, none⟩ x1).setCell ⟨B, 2, none⟩ x2).setCell ⟨B, 3, none⟩ x3).setCell ⟨B, 4, none⟩ x4).setCell ⟨B, 5, none⟩ x5).setCell ⟨B, 6, none⟩ x6).setCell ⟨B, 7, none⟩ x7).setCell ⟨B, 8, none⟩ x8).setCell ⟨B, 9, none⟩ x9).setCell ⟨B, 10, none⟩ x10).setCell ⟨B, 11, none⟩ x11) :=
  ⟨((((((((((((h.set 0 x0).set 1 x1).set 2 x2).set 3 x3).set 4 x4).set 5 x5).set 6 x6).set 7 x7).set 8 x8).set 9 x9).set 10 x10).set 11 x11), (own_set' (own_set' (own_set' (own_set' (own_set' (own_set' (own_set' (own_set' (own_set' (own_set' (own_set' (own_set' o hlt) hlt) hlt) hlt) hlt) hlt) hlt) hlt) hlt) hlt) hlt) hlt), ((((((((((((b.setCell (p := ⟨B, 0, none⟩) hA x0).setCell (p := ⟨B, 1, none⟩) hA x1).setCell (p := ⟨B, 2, none⟩) hA x2).setCell (p := ⟨B, 3, none⟩) hA x3).setCell (p := ⟨B, 4, none⟩) hA x4).setCell (p := ⟨B, 5, none⟩) hA x5).setCell (p := ⟨B, 6, none⟩) hA x6).setCell (p := ⟨B, 7, none⟩) hA x7).setCell (p := ⟨B, 8, none⟩) hA x8).setCell (p := ⟨B, 9, none⟩) hA x9).setCell (p := ⟨B, 10, none⟩) hA x10).setCell (p := ⟨B, 11, none⟩) hA x11)⟩
set_option maxHeartbeats 16000000 in
theorem grantBegun_any (w : World) : Calls Try.prog 17 #[] w fun e w' => e = .returned (.bool true) ∧ Below w.heap.size w w' := by
  have hga : inR agC.vs := inR_small _ (by decide +kernel)
  have hgb : inR gbB.vs := inR_small _ (by decide +kernel)
  have KM : Hid (∀ w' va vb, Rows w' va intF agC.vs → Rows w' vb intF gbB.vs → Calls Try.prog 18 #[.agg #[.int .i64 1000, .bool true, .bool false, .bool false, .bool true, .bool false, .bool false, .bool false, .bool false, .bool false, .bool false, va], .agg #[.int .i64 5, .bool true, .bool false, .bool false, .bool false, .bool false, .bool false, .bool false, .bool false, .bool false, .bool false, vb]] w' fun e w'' => ∃ v, e = .returned (.tuple #[.agg #[.int .i64 1000, .bool true, .bool false, .bool false, .bool false, .bool false, .bool false, .bool false, .bool false, .bool false, .bool false, v], .int .i64 0]) ∧ w''.ownsRow w'.heap.size 3 1 v 1 (gbM.vs.flatMap intF) ∧ Below w'.heap.size w' w'') := fun w' va vb h1 h2 => by
    have h := meet_any agC gbB va vb w' h1 h2 (by decide) (by decide) hga hgb
    rw [gb1.1, gb1.2] at h
    exact h
  have KJ : Hid (∀ w' va vb, Rows w' va intF agC.vs → Rows w' vb intF gbB.vs → Calls Try.prog 42 #[.agg #[.int .i64 1000, .bool true, .bool false, .bool false, .bool true, .bool false, .bool false, .bool false, .bool false, .bool false, .bool false, va], .agg #[.int .i64 5, .bool true, .bool false, .bool false, .bool false, .bool false, .bool false, .bool false, .bool false, .bool false, .bool false, vb]] w' fun e w'' => ∃ v, e = .returned (.tuple #[.agg #[.int .i64 1000, .bool true, .bool false, .bool false, .bool true, .bool false, .bool false, .bool false, .bool false, .bool false, .bool false, v], .int .i64 0]) ∧ w''.ownsRow w'.heap.size 3 1 v 5 (gbJC.vs.flatMap intF) ∧ Below w'.heap.size w' w'') := fun w' va vb h1 h2 => by
    have h := join_any agC gbB va vb w' h1 h2 (by decide) (by decide) hga hgb
    rw [gb2.1, gb2.2] at h
    exact h
  have KD : Hid (∀ w' va, Rows w' va intF agC.vs → Calls Try.prog 43 #[.agg #[.int .i64 1000, .bool true, .bool false, .bool false, .bool true, .bool false, .bool false, .bool false, .bool false, .bool false, .bool false, va], .int .i64 4, .int .i64 9, .int .i64 2000] w' fun e w'' => ∃ v, e = .returned (.tuple #[.agg #[.int .i64 2000, .bool true, .bool false, .bool false, .bool false, .bool false, .bool false, .bool false, .bool false, .bool false, .bool false, v], .int .i64 0]) ∧ w''.ownsRow w'.heap.size 3 1 v 3 (gbD.vs.flatMap intF) ∧ Below w'.heap.size w' w'') := fun w' va h1 => by
    have h := drop_any agC va 4 9 2000 w' h1 (by decide) (by decide)
    rw [gb3.1, gb3.2] at h
    exact h
  have KE : Hid (∀ w' va, Rows w' va intF agC.vs → Calls Try.prog 43 #[.agg #[.int .i64 1000, .bool true, .bool false, .bool false, .bool true, .bool false, .bool false, .bool false, .bool false, .bool false, .bool false, va], .int .i64 0, .int .i64 0, .int .i64 999] w' fun e w'' => ∃ v, e = .returned (.tuple #[.agg #[.int .i64 0, .bool false, .bool false, .bool false, .bool false, .bool false, .bool false, .bool false, .bool false, .bool false, .bool false, v], .int .i64 4]) ∧ (∃ ad cap, v = .slice ad 0 cap) ∧ Below w'.heap.size w' w'') := fun w' va h1 => by
    have h := drop_any agC va 0 0 999 w' h1 (by decide) (by decide)
    rw [gb4.1, gb4.2] at h
    exact h.mono fun e w'' ⟨v, h1, h2, h3⟩ => ⟨v, h1, g_slice h2, h3⟩
  obtain ⟨W2, hW2⟩ : ∃ W, (w.alloc (.cells #[.int .i64 3, .int .i64 5] 3)).alloc (.cells #[.int .i64 5, .bool true, .bool false, .bool false, .bool false, .bool false, .bool false, .bool false, .bool false, .bool false, .bool false, .slice (some ⟨w.heap.size, 0, none⟩) 2 2] 32) = W := ⟨_, rfl⟩
  have HL2 : Hid (LRow W2 (w.heap.size + 1) (cnL gbB (.slice (some ⟨w.heap.size, 0, none⟩) 2 2))) := by
    rw [← hW2]
    have h := LRow.new (w.alloc (.cells #[.int .i64 3, .int .i64 5] 3)) (cnL gbB (.slice (some ⟨w.heap.size, 0, none⟩) 2 2)) 32
    rw [show (w.alloc (.cells #[.int .i64 3, .int .i64 5] 3)).heap.size = w.heap.size + 1 from by simp] at h
    exact h
  have HB2 : Hid (Below w.heap.size w W2) := by rw [← hW2]; exact ((Below.refl _ w).alloc (Nat.le_refl _) _).alloc (by simp) _
  have HR2 : Hid (Rows W2 (.slice (some ⟨w.heap.size, 0, none⟩) 2 2) intF gbB.vs) := by
    rw [← hW2]
    exact Rows.below (Rows.lit w ([3, 5] : List Int) _ _ _ _ _ rfl rfl rfl) ((Below.refl _ _).alloc (Nat.le_refl _) _) (Nat.le_refl _)
  have HL2' : Hid (w.heap.size + 1 < W2.heap.size) := by show _ < _; rw [← hW2]; simp
  have HW2 : Hid _ := hW2
  clear hW2 hga hgb
  go_enter Try.func17, Try.ntmps17
  go_upto_region 2 with fail
  rw [HW2.out]
  clear HW2
  have BC : Hid (∀ w', Below W2.heap.size W2 w' → w'.cell? ⟨w.heap.size + 1, 0, none⟩ = some (.int .i64 5) ∧ w'.cell? ⟨w.heap.size + 1, 1, none⟩ = some (.bool true) ∧ w'.cell? ⟨w.heap.size + 1, 2, none⟩ = some (.bool false) ∧ w'.cell? ⟨w.heap.size + 1, 3, none⟩ = some (.bool false) ∧ w'.cell? ⟨w.heap.size + 1, 4, none⟩ = some (.bool false) ∧ w'.cell? ⟨w.heap.size + 1, 5, none⟩ = some (.bool false) ∧ w'.cell? ⟨w.heap.size + 1, 6, none⟩ = some (.bool false) ∧ w'.cell? ⟨w.heap.size + 1, 7, none⟩ = some (.bool false) ∧ w'.cell? ⟨w.heap.size + 1, 8, none⟩ = some (.bool false) ∧ w'.cell? ⟨w.heap.size + 1, 9, none⟩ = some (.bool false) ∧ w'.cell? ⟨w.heap.size + 1, 10, none⟩ = some (.bool false) ∧ w'.cell? ⟨w.heap.size + 1, 11, none⟩ = some (.slice (some ⟨w.heap.size, 0, none⟩) 2 2)) := fun w' h => by
    have hr := HL2.out.below h HL2'.out
    exact ⟨hr.cell 0 rfl, hr.cell 1 rfl, hr.cell 2 rfl, hr.cell 3 rfl, hr.cell 4 rfl, hr.cell 5 rfl, hr.cell 6 rfl, hr.cell 7 rfl, hr.cell 8 rfl, hr.cell 9 rfl, hr.cell 10 rfl, hr.cell 11 rfl⟩
  obtain ⟨b0, b1, b2, b3, b4, b5, b6, b7, b8, b9, b10, b11⟩ := BC.out W2 (Below.refl _ _)
  go_cut [2, 3] from 13 to 18 (fun s2 s3 wx => ∃ (p2 : Nat) (ad : Option Addr) (cap : Nat), s2 = .pointer (some ⟨p2, 0, none⟩) ∧ s3 = .int .i64 0 ∧ Hid (LRow wx p2 (cnL gbM (.slice ad 1 cap))) ∧ Hid (Rows wx (.slice ad 1 cap) intF gbM.vs) ∧ Hid (Below W2.heap.size W2 wx))
  case first =>
    have tokA : Hid True := trivial
    have tokB : Hid True := trivial
    obtain ⟨p0, p1, p2, p3, p4, p5, p6, p7, p8, p9, p10, p11⟩ := BC.out (W2.drew.alloc (.cells #[.int .i64 0, .bool false, .bool false, .bool false, .bool false, .bool false, .bool false, .bool false, .bool false, .bool false, .bool false, .slice none 0 0] 32)) (((Below.refl _ W2).drew).alloc (Nat.le_refl _) _)
    obtain ⟨q0, q1, q2, q3, q4, q5, q6, q7, q8, q9, q10, q11⟩ := BC.out (W2.alloc (.cells #[.int .i64 0, .bool false, .bool false, .bool false, .bool false, .bool false, .bool false, .bool false, .bool false, .bool false, .bool false, .slice none 0 0] 32)) ((Below.refl _ W2).alloc (Nat.le_refl _) _)
    go_region_with (first
      | (clear tokA
         refine (agreed_any _).mono ?_
         rintro e w3 ⟨q3, rfl, hr3, hb3⟩
         have hS3 : Below W2.heap.size W2 w3 := Below.trans (by first | exact Below.refl _ W2 | exact (Below.refl _ W2).drew | exact (Below.refl _ W2).alloc (Nat.le_refl _) _ | exact ((Below.refl _ W2).alloc (Nat.le_refl _) _).drew | exact ((Below.refl _ W2).drew).alloc (Nat.le_refl _) _) (hb3.mono (by simp))
         have HR3 : Hid _ := hr3
         obtain ⟨d0, d1, d2, d3, d4, d5, d6, d7, d8, d9, d10, d11⟩ := BC.out w3 hS3
         obtain ⟨e0, e1, e2, e3, e4, e5, e6, e7, e8, e9, e10, e11⟩ := BC.out (w3.alloc (.cells #[.int .i64 0, .bool false, .bool false, .bool false, .bool false, .bool false, .bool false, .bool false, .bool false, .bool false, .bool false, .slice none 0 0] 32)) (keep_allocG hS3 _)
         try (have HNA : Hid (LRow w3 W2.heap.size (cnL c0 (.slice none 0 0))) := (LRow.new W2.drew (cnL c0 (.slice none 0 0)) 32).below hb3 (by simp)
              have HLA : Hid (W2.heap.size < w3.heap.size) := Nat.lt_of_lt_of_le (by simp) hb3.size)
         clear hr3 hb3)
      | (clear tokB
         refine (KM.out _ _ _ ?r1 ?r2).mono ?_
         case r1 => first | exact HR3.out | exact Rows.below HR3.out ((Below.refl _ w3).alloc (Nat.le_refl _) _) (Nat.le_refl _)
         case r2 => exact Rows.below HR2.out (by first | assumption | exact keep_allocG hS3 _ | exact hS3.drew | exact (keep_allocG hS3 _).drew) (Nat.le_refl _)
         rintro e w4 ⟨v4, rfl, own4, hb4⟩
         have hS4 : Below W2.heap.size W2 w4 := Below.trans (by first | assumption | exact keep_allocG hS3 _ | exact hS3.drew | exact (keep_allocG hS3 _).drew) (hb4.mono (by first | exact hS3.size | exact (keep_allocG hS3 _).size | exact hS3.drew.size))
         obtain ⟨ad4, cap4, rfl⟩ := g_slice own4
         have HO4 : Hid _ := own4
         have HB4 : Hid _ := hb4
         try (
           have hN := by first | exact HNA.out.below hb4 HLA.out | exact HNA.out.below hb4 (by simp; exact Nat.lt_succ_of_lt HLA.out) | exact (LRow.new w3 (cnL c0 (.slice none 0 0)) 32).below hb4 (by simp)
           obtain ⟨n0, n1, n2, n3, n4, n5, n6, n7, n8, n9, n10, n11⟩ := hN.cells12
           obtain ⟨z0, z1, z2, z3, z4, z5, z6, z7, z8, z9, z10, z11⟩ := hN.frozen12
           have HNB : Hid _ := set12 hN own4 hS4 (by first | exact HLA.out | exact (by simp; exact Nat.lt_succ_of_lt HLA.out) | simp) (by first | exact Nat.le_refl _ | exact hS3.size) (.int .i64 1000) (.bool true) (.bool false) (.bool false) (.bool false) (.bool false) (.bool false) (.bool false) (.bool false) (.bool false) (.bool false) (.slice ad4 1 cap4)
           clear hN)
         clear own4 hb4))
    all_goals (go_wp2_with fail; go_meet; first | exact ⟨_, ad4, cap4, rfl, rfl, HNB.out.1, Reads.of_own HNB.out.2.1, HNB.out.2.2⟩ | exact ⟨_, ad4, cap4, rfl, rfl, LRow.new w4 (cnL gbM (.slice ad4 1 cap4)) _, Rows.below (Reads.of_own HO4.out) ((Below.refl _ _).alloc (Nat.le_refl _) _) (Nat.le_refl _), hS4.alloc hS4.size _⟩)
  case rest =>
  obtain ⟨p2, ad2, cap2, rfl, rfl, HLM, HRM, HBM⟩ := hcut
  rename World => wM
  clear KM b0 b1 b2 b3 b4 b5 b6 b7 b8 b9 b10 b11
  have BC2 : Hid (∀ w', Below wM.heap.size wM w' → w'.cell? ⟨w.heap.size + 1, 0, none⟩ = some (.int .i64 5) ∧ w'.cell? ⟨w.heap.size + 1, 1, none⟩ = some (.bool true) ∧ w'.cell? ⟨w.heap.size + 1, 2, none⟩ = some (.bool false) ∧ w'.cell? ⟨w.heap.size + 1, 3, none⟩ = some (.bool false) ∧ w'.cell? ⟨w.heap.size + 1, 4, none⟩ = some (.bool false) ∧ w'.cell? ⟨w.heap.size + 1, 5, none⟩ = some (.bool false) ∧ w'.cell? ⟨w.heap.size + 1, 6, none⟩ = some (.bool false) ∧ w'.cell? ⟨w.heap.size + 1, 7, none⟩ = some (.bool false) ∧ w'.cell? ⟨w.heap.size + 1, 8, none⟩ = some (.bool false) ∧ w'.cell? ⟨w.heap.size + 1, 9, none⟩ = some (.bool false) ∧ w'.cell? ⟨w.heap.size + 1, 10, none⟩ = some (.bool false) ∧ w'.cell? ⟨w.heap.size + 1, 11, none⟩ = some (.slice (some ⟨w.heap.size, 0, none⟩) 2 2)) := fun w' h => BC.out w' (Below.trans HBM.out (h.mono HBM.out.size))
  have HR2c : Hid (Rows wM (.slice (some ⟨w.heap.size, 0, none⟩) 2 2) intF gbB.vs) := Rows.below HR2.out HBM.out (Nat.le_refl _)
  obtain ⟨b0, b1, b2, b3, b4, b5, b6, b7, b8, b9, b10, b11⟩ := BC2.out wM (Below.refl _ _)
  go_upto_region 3 with fail
  go_cut [4, 5] from 19 to 24 (fun s4 s5 wx => ∃ (p2 : Nat) (ad : Option Addr) (cap : Nat), s4 = .pointer (some ⟨p2, 0, none⟩) ∧ s5 = .int .i64 0 ∧ Hid (LRow wx p2 (cnL gbJC (.slice ad 5 cap))) ∧ Hid (Rows wx (.slice ad 5 cap) intF gbJC.vs) ∧ Hid (Below wM.heap.size wM wx))
  case first =>
    have tokA : Hid True := trivial
    have tokB : Hid True := trivial
    obtain ⟨p0, p1, p2, p3, p4, p5, p6, p7, p8, p9, p10, p11⟩ := BC2.out (wM.drew.alloc (.cells #[.int .i64 0, .bool false, .bool false, .bool false, .bool false, .bool false, .bool false, .bool false, .bool false, .bool false, .bool false, .slice none 0 0] 32)) (((Below.refl _ wM).drew).alloc (Nat.le_refl _) _)
    obtain ⟨q0, q1, q2, q3, q4, q5, q6, q7, q8, q9, q10, q11⟩ := BC2.out (wM.alloc (.cells #[.int .i64 0, .bool false, .bool false, .bool false, .bool false, .bool false, .bool false, .bool false, .bool false, .bool false, .bool false, .slice none 0 0] 32)) ((Below.refl _ wM).alloc (Nat.le_refl _) _)
    go_region_with (first
      | (clear tokA
         refine (agreed_any _).mono ?_
         rintro e w3 ⟨q3, rfl, hr3, hb3⟩
         have hS3 : Below wM.heap.size wM w3 := Below.trans (by first | exact Below.refl _ wM | exact (Below.refl _ wM).drew | exact (Below.refl _ wM).alloc (Nat.le_refl _) _ | exact ((Below.refl _ wM).alloc (Nat.le_refl _) _).drew | exact ((Below.refl _ wM).drew).alloc (Nat.le_refl _) _) (hb3.mono (by simp))
         have HR3 : Hid _ := hr3
         obtain ⟨d0, d1, d2, d3, d4, d5, d6, d7, d8, d9, d10, d11⟩ := BC2.out w3 hS3
         obtain ⟨e0, e1, e2, e3, e4, e5, e6, e7, e8, e9, e10, e11⟩ := BC2.out (w3.alloc (.cells #[.int .i64 0, .bool false, .bool false, .bool false, .bool false, .bool false, .bool false, .bool false, .bool false, .bool false, .bool false, .slice none 0 0] 32)) (keep_allocG hS3 _)
         try (have HNA : Hid (LRow w3 wM.heap.size (cnL c0 (.slice none 0 0))) := (LRow.new wM.drew (cnL c0 (.slice none 0 0)) 32).below hb3 (by simp)
              have HLA : Hid (wM.heap.size < w3.heap.size) := Nat.lt_of_lt_of_le (by simp) hb3.size)
         clear hr3 hb3)
      | (clear tokB
         refine (KJ.out _ _ _ ?r1 ?r2).mono ?_
         case r1 => first | exact HR3.out | exact Rows.below HR3.out ((Below.refl _ w3).alloc (Nat.le_refl _) _) (Nat.le_refl _)
         case r2 => exact Rows.below HR2c.out (by first | assumption | exact keep_allocG hS3 _ | exact hS3.drew | exact (keep_allocG hS3 _).drew) (Nat.le_refl _)
         rintro e w4 ⟨v4, rfl, own4, hb4⟩
         have hS4 : Below wM.heap.size wM w4 := Below.trans (by first | assumption | exact keep_allocG hS3 _ | exact hS3.drew | exact (keep_allocG hS3 _).drew) (hb4.mono (by first | exact hS3.size | exact (keep_allocG hS3 _).size | exact hS3.drew.size))
         obtain ⟨ad4, cap4, rfl⟩ := g_slice own4
         have HO4 : Hid _ := own4
         have HB4 : Hid _ := hb4
         try (
           have hN := by first | exact HNA.out.below hb4 HLA.out | exact HNA.out.below hb4 (by simp; exact Nat.lt_succ_of_lt HLA.out) | exact (LRow.new w3 (cnL c0 (.slice none 0 0)) 32).below hb4 (by simp)
           obtain ⟨n0, n1, n2, n3, n4, n5, n6, n7, n8, n9, n10, n11⟩ := hN.cells12
           obtain ⟨z0, z1, z2, z3, z4, z5, z6, z7, z8, z9, z10, z11⟩ := hN.frozen12
           have HNB : Hid _ := set12 hN own4 hS4 (by first | exact HLA.out | exact (by simp; exact Nat.lt_succ_of_lt HLA.out) | simp) (by first | exact Nat.le_refl _ | exact hS3.size) (.int .i64 1000) (.bool true) (.bool false) (.bool false) (.bool true) (.bool false) (.bool false) (.bool false) (.bool false) (.bool false) (.bool false) (.slice ad4 5 cap4)
           clear hN)
         clear own4 hb4))
    all_goals (go_wp2_with fail; go_meet; first | exact ⟨_, ad4, cap4, rfl, rfl, HNB.out.1, Reads.of_own HNB.out.2.1, HNB.out.2.2⟩ | exact ⟨_, ad4, cap4, rfl, rfl, LRow.new w4 (cnL gbJC (.slice ad4 5 cap4)) _, Rows.below (Reads.of_own HO4.out) ((Below.refl _ _).alloc (Nat.le_refl _) _) (Nat.le_refl _), hS4.alloc hS4.size _⟩)
  case rest =>
  obtain ⟨p4, ad4, cap4, rfl, rfl, HLJ, HRJ, HBJ⟩ := hcut
  rename World => wJ
  clear KJ b0 b1 b2 b3 b4 b5 b6 b7 b8 b9 b10 b11
  go_upto_region 4 with fail
  go_cut [6, 7] from 25 to 29 (fun s6 s7 wx => ∃ (p6 : Nat) (ad : Option Addr) (cap : Nat), s6 = .pointer (some ⟨p6, 0, none⟩) ∧ s7 = .int .i64 0 ∧ Hid (LRow wx p6 (cnL gbD (.slice ad 3 cap))) ∧ Hid (Rows wx (.slice ad 3 cap) intF gbD.vs) ∧ Hid (Below wJ.heap.size wJ wx))
  case first =>
    have tokA : Hid True := trivial
    have tokB : Hid True := trivial
    go_wp2_with (first
      | (clear tokA
         refine (agreed_any _).mono ?_
         rintro e w3 ⟨q3, rfl, hr3, hb3⟩
         have HR3 : Hid _ := hr3
         have HB3 : Hid _ := hb3
         clear hr3 hb3)
      | (clear tokB
         refine (KD.out _ _ ?r1).mono ?_
         case r1 => exact HR3.out
         rintro e w4 ⟨v4, rfl, own4, hb4⟩
         obtain ⟨ad4, cap4, rfl⟩ := g_slice own4
         have HO4 : Hid _ := own4
         have HB4 : Hid (Below wJ.heap.size wJ w4) := Below.trans HB3.out (hb4.mono HB3.out.size)
         clear own4 hb4))
    trace_state
    go_meet
    exact ⟨_, ad4, cap4, rfl, rfl, LRow.new w4 (cnL gbD (.slice ad4 3 cap4)) _, Rows.below (Reads.of_own HO4.out) ((Below.refl _ _).alloc (Nat.le_refl _) _) (Nat.le_refl _), HB4.out.alloc HB4.out.size _⟩
  case rest =>
  obtain ⟨p6, ad6, cap6, rfl, rfl, HLD, HRD, HBD⟩ := hcut
  rename World => wD
  clear KD
  go_upto_region 5 with fail
  go_cut [8, 9] from 30 to 34 (fun s8 s9 wx => s9 = .int .i64 4 ∧ Hid (Below wD.heap.size wD wx))
  case first =>
    have tokA : Hid True := trivial
    have tokB : Hid True := trivial
    go_wp2_with (first
      | (clear tokA
         refine (agreed_any _).mono ?_
         rintro e w3 ⟨q3, rfl, hr3, hb3⟩
         have HR3 : Hid _ := hr3
         have HB3 : Hid _ := hb3
         clear hr3 hb3)
      | (clear tokB
         refine (KE.out _ _ ?r1).mono ?_
         case r1 => exact HR3.out
         rintro e w4 ⟨v4, rfl, ⟨ad4, cap4, rfl⟩, hb4⟩
         have HB4 : Hid (Below wD.heap.size wD w4) := Below.trans HB3.out (hb4.mono HB3.out.size)
         clear hb4))
    go_meet
    exact ⟨rfl, HB4.out.alloc HB4.out.size _⟩
  case rest =>
  obtain ⟨rfl, HBE⟩ := hcut
  rename World => wE
  clear KE BC BC2
  have HDE : Hid (Below wD.heap.size wD wE) := HBE
  have HJE : Hid (Below wJ.heap.size wJ wE) := Below.trans HBD.out (HDE.out.mono HBD.out.size)
  have HME : Hid (Below wM.heap.size wM wE) := Below.trans HBJ.out (HJE.out.mono HBJ.out.size)
  have HWE : Hid (Below W2.heap.size W2 wE) := Below.trans HBM.out (HME.out.mono HBM.out.size)
  have CE : Hid (∀ w', Below wE.heap.size wE w' → (w'.cell? ⟨p2, 0, none⟩ = some (.int .i64 1000) ∧ w'.cell? ⟨p2, 1, none⟩ = some (.bool true) ∧ w'.cell? ⟨p2, 2, none⟩ = some (.bool false) ∧ w'.cell? ⟨p2, 3, none⟩ = some (.bool false) ∧ w'.cell? ⟨p2, 4, none⟩ = some (.bool false) ∧ w'.cell? ⟨p2, 5, none⟩ = some (.bool false) ∧ w'.cell? ⟨p2, 6, none⟩ = some (.bool false) ∧ w'.cell? ⟨p2, 7, none⟩ = some (.bool false) ∧ w'.cell? ⟨p2, 8, none⟩ = some (.bool false) ∧ w'.cell? ⟨p2, 9, none⟩ = some (.bool false) ∧ w'.cell? ⟨p2, 10, none⟩ = some (.bool false) ∧ w'.cell? ⟨p2, 11, none⟩ = some (.slice ad2 1 cap2)) ∧ (w'.cell? ⟨p4, 11, none⟩ = some (.slice ad4 5 cap4)) ∧ (w'.cell? ⟨p6, 0, none⟩ = some (.int .i64 2000) ∧ w'.cell? ⟨p6, 1, none⟩ = some (.bool true) ∧ w'.cell? ⟨p6, 2, none⟩ = some (.bool false) ∧ w'.cell? ⟨p6, 3, none⟩ = some (.bool false) ∧ w'.cell? ⟨p6, 4, none⟩ = some (.bool false) ∧ w'.cell? ⟨p6, 5, none⟩ = some (.bool false) ∧ w'.cell? ⟨p6, 6, none⟩ = some (.bool false) ∧ w'.cell? ⟨p6, 7, none⟩ = some (.bool false) ∧ w'.cell? ⟨p6, 8, none⟩ = some (.bool false) ∧ w'.cell? ⟨p6, 9, none⟩ = some (.bool false) ∧ w'.cell? ⟨p6, 10, none⟩ = some (.bool false) ∧ w'.cell? ⟨p6, 11, none⟩ = some (.slice ad6 3 cap6)) ∧ (w'.cell? ⟨w.heap.size + 1, 0, none⟩ = some (.int .i64 5) ∧ w'.cell? ⟨w.heap.size + 1, 1, none⟩ = some (.bool true) ∧ w'.cell? ⟨w.heap.size + 1, 2, none⟩ = some (.bool false) ∧ w'.cell? ⟨w.heap.size + 1, 3, none⟩ = some (.bool false) ∧ w'.cell? ⟨w.heap.size + 1, 4, none⟩ = some (.bool false) ∧ w'.cell? ⟨w.heap.size + 1, 5, none⟩ = some (.bool false) ∧ w'.cell? ⟨w.heap.size + 1, 6, none⟩ = some (.bool false) ∧ w'.cell? ⟨w.heap.size + 1, 7, none⟩ = some (.bool false) ∧ w'.cell? ⟨w.heap.size + 1, 8, none⟩ = some (.bool false) ∧ w'.cell? ⟨w.heap.size + 1, 9, none⟩ = some (.bool false) ∧ w'.cell? ⟨w.heap.size + 1, 10, none⟩ = some (.bool false) ∧ w'.cell? ⟨w.heap.size + 1, 11, none⟩ = some (.slice (some ⟨w.heap.size, 0, none⟩) 2 2))) := fun w' h => by
    have hm := HLM.out.below (Below.trans HME.out (h.mono HME.out.size)) (cell_in (HLM.out.cell 0 rfl))
    have hj := HLJ.out.below (Below.trans HJE.out (h.mono HJE.out.size)) (cell_in (HLJ.out.cell 0 rfl))
    have hd := HLD.out.below (Below.trans HDE.out (h.mono HDE.out.size)) (cell_in (HLD.out.cell 0 rfl))
    have hb := HL2.out.below (Below.trans HWE.out (h.mono HWE.out.size)) HL2'.out
    exact ⟨⟨hm.cell 0 rfl, hm.cell 1 rfl, hm.cell 2 rfl, hm.cell 3 rfl, hm.cell 4 rfl, hm.cell 5 rfl, hm.cell 6 rfl, hm.cell 7 rfl, hm.cell 8 rfl, hm.cell 9 rfl, hm.cell 10 rfl, hm.cell 11 rfl⟩, hj.cell 11 rfl, ⟨hd.cell 0 rfl, hd.cell 1 rfl, hd.cell 2 rfl, hd.cell 3 rfl, hd.cell 4 rfl, hd.cell 5 rfl, hd.cell 6 rfl, hd.cell 7 rfl, hd.cell 8 rfl, hd.cell 9 rfl, hd.cell 10 rfl, hd.cell 11 rfl⟩, ⟨hb.cell 0 rfl, hb.cell 1 rfl, hb.cell 2 rfl, hb.cell 3 rfl, hb.cell 4 rfl, hb.cell 5 rfl, hb.cell 6 rfl, hb.cell 7 rfl, hb.cell 8 rfl, hb.cell 9 rfl, hb.cell 10 rfl, hb.cell 11 rfl⟩⟩
  have K1 : Hid (∀ w' vb, Below wE.heap.size wE w' → Rows w' vb intF [3] → Calls Try.prog 44 #[.agg #[.int .i64 1000, .bool true, .bool false, .bool false, .bool false, .bool false, .bool false, .bool false, .bool false, .bool false, .bool false, .slice ad2 1 cap2], .agg #[.int .i64 1000, .bool true, .bool false, .bool false, .bool false, .bool false, .bool false, .bool false, .bool false, .bool false, .bool false, vb]] w' fun e w'' => e = .returned (.bool true) ∧ Below w'.heap.size w' w'') := fun w' vb h hr => by
    have k := sameC_any gbM gbM (.slice ad2 1 cap2) vb w' (Rows.below HRM.out (Below.trans HME.out (h.mono HME.out.size)) (Nat.le_refl _)) hr (by decide) (by decide)
    rw [show sameC gbM gbM = true by decide +kernel] at k
    exact k
  have K2 : Hid (∀ w' vb, Below wE.heap.size wE w' → Rows w' vb intF [2, 3, 4, 5, 9] → Calls Try.prog 45 #[.slice ad4 5 cap4, vb] w' fun e w'' => e = .returned (.bool true) ∧ Below w'.heap.size w' w'') := fun w' vb h hr => by
    have k := sameI_any (.slice ad4 5 cap4) vb gbJC.vs gbJC.vs w' (Rows.below HRJ.out (Below.trans HJE.out (h.mono HJE.out.size)) (Nat.le_refl _)) hr (by decide) (by decide)
    exact k.mono fun e w'' ⟨h1, n, h2⟩ => ⟨by rw [h1]; simp, by rw [h2]; exact below_drewN' _ _ n⟩
  have K3 : Hid (∀ w' vb, Below wE.heap.size wE w' → Rows w' vb intF [2, 3, 4] → Calls Try.prog 44 #[.agg #[.int .i64 2000, .bool true, .bool false, .bool false, .bool false, .bool false, .bool false, .bool false, .bool false, .bool false, .bool false, .slice ad6 3 cap6], .agg #[.int .i64 2000, .bool true, .bool false, .bool false, .bool false, .bool false, .bool false, .bool false, .bool false, .bool false, .bool false, vb]] w' fun e w'' => e = .returned (.bool true) ∧ Below w'.heap.size w' w'') := fun w' vb h hr => by
    have k := sameC_any gbD gbD (.slice ad6 3 cap6) vb w' (Rows.below HRD.out (Below.trans HDE.out (h.mono HDE.out.size)) (Nat.le_refl _)) hr (by decide) (by decide)
    rw [show sameC gbD gbD = true by decide +kernel] at k
    exact k
  have K4 : Hid (∀ w' va, Rows w' va intF agC.vs → Calls Try.prog 41 #[.agg #[.int .i64 1000, .bool true, .bool false, .bool false, .bool true, .bool false, .bool false, .bool false, .bool false, .bool false, .bool false, va], .int .i64 4, .int .i64 9] w' fun e w'' => e = .returned (.bool true) ∧ Below w'.heap.size w' w'') := fun w' va hr => by
    have k := may_any agC va 4 9 w' hr (by decide) (by decide) (by decide)
    rw [gb5.1] at k
    exact k
  have K5 : Hid (∀ w' va, Rows w' va intF agC.vs → Calls Try.prog 41 #[.agg #[.int .i64 1000, .bool true, .bool false, .bool false, .bool true, .bool false, .bool false, .bool false, .bool false, .bool false, .bool false, va], .int .i64 2, .int .i64 0] w' fun e w'' => e = .returned (.bool false) ∧ Below w'.heap.size w' w'') := fun w' va hr => by
    have k := may_any agC va 2 0 w' hr (by decide) (by decide) (by decide)
    rw [gb5.2.1] at k
    exact k
  have K6 : Hid (∀ w', Calls Try.prog 41 #[.agg #[.int .i64 0, .bool false, .bool false, .bool false, .bool false, .bool false, .bool false, .bool false, .bool false, .bool false, .bool false, .slice none 0 0], .int .i64 0, .int .i64 0] w' fun e w'' => e = .returned (.bool true) ∧ Below w'.heap.size w' w'') := fun w' => by
    have k := may_any c0 (.slice none 0 0) 0 0 w' ⟨none, 0, rfl, .inl rfl⟩ (by decide) (by decide) (by decide)
    rw [gb5.2.2.1] at k
    exact k
  have K7 : Hid (∀ w' va, Below wE.heap.size wE w' → Rows w' va intF agC.vs → Calls Try.prog 20 #[.agg #[.int .i64 1000, .bool true, .bool false, .bool false, .bool true, .bool false, .bool false, .bool false, .bool false, .bool false, .bool false, va], .agg #[.int .i64 5, .bool true, .bool false, .bool false, .bool false, .bool false, .bool false, .bool false, .bool false, .bool false, .bool false, .slice (some ⟨w.heap.size, 0, none⟩) 2 2]] w' fun e w'' => e = .returned (.bool false) ∧ Below w'.heap.size w' w'') := fun w' va h hr => by
    have k := less_any agC gbB va (.slice (some ⟨w.heap.size, 0, none⟩) 2 2) w' hr (Rows.below HR2.out (Below.trans HWE.out (h.mono HWE.out.size)) (Nat.le_refl _)) (by decide) (by decide) (inR_small _ (by decide +kernel)) (inR_small _ (by decide +kernel))
    rw [gb5.2.2.2] at k
    exact k
  have m0 : ∀ w', Below wE.heap.size wE w' → w'.cell? ⟨p2, 0, none⟩ = some (.int .i64 1000) := fun w' h => (CE.out w' h).1.1
  have m1 : ∀ w', Below wE.heap.size wE w' → w'.cell? ⟨p2, 1, none⟩ = some (.bool true) := fun w' h => (CE.out w' h).1.2.1
  have m2 : ∀ w', Below wE.heap.size wE w' → w'.cell? ⟨p2, 2, none⟩ = some (.bool false) := fun w' h => (CE.out w' h).1.2.2.1
  have m3 : ∀ w', Below wE.heap.size wE w' → w'.cell? ⟨p2, 3, none⟩ = some (.bool false) := fun w' h => (CE.out w' h).1.2.2.2.1
  have m4 : ∀ w', Below wE.heap.size wE w' → w'.cell? ⟨p2, 4, none⟩ = some (.bool false) := fun w' h => (CE.out w' h).1.2.2.2.2.1
  have m5 : ∀ w', Below wE.heap.size wE w' → w'.cell? ⟨p2, 5, none⟩ = some (.bool false) := fun w' h => (CE.out w' h).1.2.2.2.2.2.1
  have m6 : ∀ w', Below wE.heap.size wE w' → w'.cell? ⟨p2, 6, none⟩ = some (.bool false) := fun w' h => (CE.out w' h).1.2.2.2.2.2.2.1
  have m7 : ∀ w', Below wE.heap.size wE w' → w'.cell? ⟨p2, 7, none⟩ = some (.bool false) := fun w' h => (CE.out w' h).1.2.2.2.2.2.2.2.1
  have m8 : ∀ w', Below wE.heap.size wE w' → w'.cell? ⟨p2, 8, none⟩ = some (.bool false) := fun w' h => (CE.out w' h).1.2.2.2.2.2.2.2.2.1
  have m9 : ∀ w', Below wE.heap.size wE w' → w'.cell? ⟨p2, 9, none⟩ = some (.bool false) := fun w' h => (CE.out w' h).1.2.2.2.2.2.2.2.2.2.1
  have m10 : ∀ w', Below wE.heap.size wE w' → w'.cell? ⟨p2, 10, none⟩ = some (.bool false) := fun w' h => (CE.out w' h).1.2.2.2.2.2.2.2.2.2.2.1
  have m11 : ∀ w', Below wE.heap.size wE w' → w'.cell? ⟨p2, 11, none⟩ = some (.slice ad2 1 cap2) := fun w' h => (CE.out w' h).1.2.2.2.2.2.2.2.2.2.2.2
  have d0 : ∀ w', Below wE.heap.size wE w' → w'.cell? ⟨p6, 0, none⟩ = some (.int .i64 2000) := fun w' h => (CE.out w' h).2.2.1.1
  have d1 : ∀ w', Below wE.heap.size wE w' → w'.cell? ⟨p6, 1, none⟩ = some (.bool true) := fun w' h => (CE.out w' h).2.2.1.2.1
  have d2 : ∀ w', Below wE.heap.size wE w' → w'.cell? ⟨p6, 2, none⟩ = some (.bool false) := fun w' h => (CE.out w' h).2.2.1.2.2.1
  have d3 : ∀ w', Below wE.heap.size wE w' → w'.cell? ⟨p6, 3, none⟩ = some (.bool false) := fun w' h => (CE.out w' h).2.2.1.2.2.2.1
  have d4 : ∀ w', Below wE.heap.size wE w' → w'.cell? ⟨p6, 4, none⟩ = some (.bool false) := fun w' h => (CE.out w' h).2.2.1.2.2.2.2.1
  have d5 : ∀ w', Below wE.heap.size wE w' → w'.cell? ⟨p6, 5, none⟩ = some (.bool false) := fun w' h => (CE.out w' h).2.2.1.2.2.2.2.2.1
  have d6 : ∀ w', Below wE.heap.size wE w' → w'.cell? ⟨p6, 6, none⟩ = some (.bool false) := fun w' h => (CE.out w' h).2.2.1.2.2.2.2.2.2.1
  have d7 : ∀ w', Below wE.heap.size wE w' → w'.cell? ⟨p6, 7, none⟩ = some (.bool false) := fun w' h => (CE.out w' h).2.2.1.2.2.2.2.2.2.2.1
  have d8 : ∀ w', Below wE.heap.size wE w' → w'.cell? ⟨p6, 8, none⟩ = some (.bool false) := fun w' h => (CE.out w' h).2.2.1.2.2.2.2.2.2.2.2.1
  have d9 : ∀ w', Below wE.heap.size wE w' → w'.cell? ⟨p6, 9, none⟩ = some (.bool false) := fun w' h => (CE.out w' h).2.2.1.2.2.2.2.2.2.2.2.2.1
  have d10 : ∀ w', Below wE.heap.size wE w' → w'.cell? ⟨p6, 10, none⟩ = some (.bool false) := fun w' h => (CE.out w' h).2.2.1.2.2.2.2.2.2.2.2.2.2.1
  have d11 : ∀ w', Below wE.heap.size wE w' → w'.cell? ⟨p6, 11, none⟩ = some (.slice ad6 3 cap6) := fun w' h => (CE.out w' h).2.2.1.2.2.2.2.2.2.2.2.2.2.2
  have b0 : ∀ w', Below wE.heap.size wE w' → w'.cell? ⟨w.heap.size + 1, 0, none⟩ = some (.int .i64 5) := fun w' h => (CE.out w' h).2.2.2.1
  have b1 : ∀ w', Below wE.heap.size wE w' → w'.cell? ⟨w.heap.size + 1, 1, none⟩ = some (.bool true) := fun w' h => (CE.out w' h).2.2.2.2.1
  have b2 : ∀ w', Below wE.heap.size wE w' → w'.cell? ⟨w.heap.size + 1, 2, none⟩ = some (.bool false) := fun w' h => (CE.out w' h).2.2.2.2.2.1
  have b3 : ∀ w', Below wE.heap.size wE w' → w'.cell? ⟨w.heap.size + 1, 3, none⟩ = some (.bool false) := fun w' h => (CE.out w' h).2.2.2.2.2.2.1
  have b4 : ∀ w', Below wE.heap.size wE w' → w'.cell? ⟨w.heap.size + 1, 4, none⟩ = some (.bool false) := fun w' h => (CE.out w' h).2.2.2.2.2.2.2.1
  have b5 : ∀ w', Below wE.heap.size wE w' → w'.cell? ⟨w.heap.size + 1, 5, none⟩ = some (.bool false) := fun w' h => (CE.out w' h).2.2.2.2.2.2.2.2.1
  have b6 : ∀ w', Below wE.heap.size wE w' → w'.cell? ⟨w.heap.size + 1, 6, none⟩ = some (.bool false) := fun w' h => (CE.out w' h).2.2.2.2.2.2.2.2.2.1
  have b7 : ∀ w', Below wE.heap.size wE w' → w'.cell? ⟨w.heap.size + 1, 7, none⟩ = some (.bool false) := fun w' h => (CE.out w' h).2.2.2.2.2.2.2.2.2.2.1
  have b8 : ∀ w', Below wE.heap.size wE w' → w'.cell? ⟨w.heap.size + 1, 8, none⟩ = some (.bool false) := fun w' h => (CE.out w' h).2.2.2.2.2.2.2.2.2.2.2.1
  have b9 : ∀ w', Below wE.heap.size wE w' → w'.cell? ⟨w.heap.size + 1, 9, none⟩ = some (.bool false) := fun w' h => (CE.out w' h).2.2.2.2.2.2.2.2.2.2.2.2.1
  have b10 : ∀ w', Below wE.heap.size wE w' → w'.cell? ⟨w.heap.size + 1, 10, none⟩ = some (.bool false) := fun w' h => (CE.out w' h).2.2.2.2.2.2.2.2.2.2.2.2.2.1
  have b11 : ∀ w', Below wE.heap.size wE w' → w'.cell? ⟨w.heap.size + 1, 11, none⟩ = some (.slice (some ⟨w.heap.size, 0, none⟩) 2 2) := fun w' h => (CE.out w' h).2.2.2.2.2.2.2.2.2.2.2.2.2.2
  have j11 : ∀ w', Below wE.heap.size wE w' → w'.cell? ⟨p4, 11, none⟩ = some (.slice ad4 5 cap4) := fun w' h => (CE.out w' h).2.1
  clear CE
  go_upto_region 6 with fail
  go_region_held3 (fun w' => Below wE.heap.size wE w') (first | assumption | exact Below.alloc (by assumption) (Below.size (by assumption)) _ | exact (Below.refl _ wE).drew | exact ((Below.refl _ wE).alloc (Nat.le_refl _) _).drew | fail)
    (first
    | (go_at_call_of 44 (Value.slice ad2 1 cap2); refine (K1.out _ _ (((Below.refl _ wE).alloc (Nat.le_refl _) _).drew) (Rows.below (Rows.lit _ ([3] : List Int) _ _ _ _ _ rfl rfl rfl) ((Below.refl _ _).drew) (Nat.le_refl _))).mono ?_; rintro e wN ⟨rfl, hbN⟩; have hSN : Below wE.heap.size wE wN := Below.trans (((Below.refl _ wE).alloc (Nat.le_refl _) _).drew) (hbN.mono (Below.size (((Below.refl _ wE).alloc (Nat.le_refl _) _).drew))); clear hbN)
    | (go_at_call_of 45 (Value.slice ad4 5 cap4); refine (K2.out _ _ (Below.alloc (by assumption) (Below.size (by assumption)) _) (Rows.lit _ ([2, 3, 4, 5, 9] : List Int) _ _ _ _ _ rfl rfl rfl)).mono ?_; rintro e wN ⟨rfl, hbN⟩; have hSN : Below wE.heap.size wE wN := Below.trans (Below.alloc (by assumption) (Below.size (by assumption)) _) (hbN.mono (Below.size (Below.alloc (by assumption) (Below.size (by assumption)) _))); clear hbN)
    | (go_at_call_of 44 (Value.slice ad6 3 cap6); refine (K3.out _ _ (Below.alloc (by assumption) (Below.size (by assumption)) _) (Rows.lit _ ([2, 3, 4] : List Int) _ _ _ _ _ rfl rfl rfl)).mono ?_; rintro e wN ⟨rfl, hbN⟩; have hSN : Below wE.heap.size wE wN := Below.trans (Below.alloc (by assumption) (Below.size (by assumption)) _) (hbN.mono (Below.size (Below.alloc (by assumption) (Below.size (by assumption)) _))); clear hbN)
    | (go_at_call 34; refine (agreed_any _).mono ?_; rintro e wN ⟨qN, rfl, hrN, hbN⟩; have hSN : Below wE.heap.size wE wN := Below.trans (by assumption) (hbN.mono (Below.size (by assumption))); clear hbN)
    | (go_at_call_of 41 (Value.int IntKind.i64 9); refine (K4.out _ _ (by assumption)).mono ?_; rintro e wN ⟨rfl, hbN⟩; have hSN : Below wE.heap.size wE wN := Below.trans (by assumption) (hbN.mono (Below.size (by assumption))); clear hbN)
    | (go_at_call_of 41 (Value.int IntKind.i64 2); refine (K5.out _ _ (by assumption)).mono ?_; rintro e wN ⟨rfl, hbN⟩; have hSN : Below wE.heap.size wE wN := Below.trans (by assumption) (hbN.mono (Below.size (by assumption))); clear hbN)
    | (go_at_call_of 41 (Value.slice none 0 0); refine (K6.out _).mono ?_; rintro e wN ⟨rfl, hbN⟩; have hSN : Below wE.heap.size wE wN := Below.trans (by assumption) (hbN.mono (Below.size (by assumption))); clear hbN)
    | (go_at_call 20; refine (K7.out _ _ (by assumption) (by assumption)).mono ?_; rintro e wN ⟨rfl, hbN⟩; have hSN : Below wE.heap.size wE wN := Below.trans (by assumption) (hbN.mono (Below.size (by assumption))); clear hbN)
    | fail)
  all_goals go_wp2_with fail
  all_goals go_ret
  all_goals exact ⟨rfl, Below.trans HB2.out ((Below.trans HWE.out (Below.mono (by assumption) HWE.out.size)).mono HB2.out.size)⟩
end Go.Proofs.Ytcfdajaideidkaa
