/- The contract of Drop. -/
import Derived.Test.YtklpfbakjiaaoaaGrantG
namespace Go.Proofs.Ytklpfbakjiaaoaa
open Go.RowKit Go.Maps
set_option linter.all false
set_option maxRecDepth 100000

theorem chV_len (b : Int) (l : List Int) (hb : 0 ≤ b ∧ b ≤ 40) (h : chV b l = 0) : (l.length : Int) ≤ 40 - b := by
  induction l generalizing b with
  | nil => simp; omega
  | cons v r ih =>
    unfold chV at h
    split at h
    · cases h
    · rename_i h1
      split at h
      · cases h
      · rename_i h2
        have := ih v (by omega) h
        rw [List.length_cons]; omega
theorem chC_len {c : Cn} (h : chC c = 0) : c.vs.length ≤ 40 := by
  unfold chC at h
  split at h
  · cases h
  · have := chV_len 0 c.vs (by omega) h; omega
theorem row_set {W : World} {B O k : Nat} {l : List Value} {x : Value} (h : LRow W B l) (hne : B ≠ O) : LRow (W.setCell ⟨O, k, none⟩ x) B l :=
  ⟨fun j v hj => ⟨by rw [World.cell?_setCell_other _ _ _ _ (by intro e; injection e with e1 _; exact hne e1.symm)]; exact (h.all j v hj).1, by rw [World.frozen?_setCell]; exact (h.all j v hj).2⟩⟩
/-- what came in lies below what the call made -/
theorem src_ne {w W : World} {b off n cap O : Nat} {l : List Int} (h : Rows w (.slice (some ⟨b, off, none⟩) n cap) intF l) (hb : Below w.heap.size w W) (k : Nat) (y : Int) (hk : l[k]? = some y) (hO : w.heap.size ≤ O) (e : b = O) : False := by
  obtain ⟨b', o', e1, hlt, _⟩ := Rows.at h rfl 0 (fun _ => rfl) k y hk
  injection e1 with e1
  injection e1 with e1 _
  omega
set_option maxHeartbeats 16000000 in
theorem drop_any (c : Cn) (v : Value) (p x now : Int) (w : World) (hr : Rows w v intF c.vs) (hm : c.vs.length ≤ 140737488351232) (hp : -9223372036854775808 ≤ p ∧ p ≤ 9223372036854775807) :
    Calls Try.prog 9 #[.agg #[.int .i64 c.g, .bool c.b0, .bool c.b1, .bool c.b2, .bool c.b3, .bool c.b4, .bool c.b5, .bool c.b6, .bool c.b7, .bool c.b8, .bool c.b9, v], .int .i64 p, .int .i64 x, .int .i64 now] w fun e w' => ∃ v', e = .returned (.tuple #[.agg (cnL (dropR c p x now) v').toArray, .int .i64 (dropE c p x now)]) ∧ w'.ownsRow w.heap.size 3 1 v' (dropR c p x now).vs.length ((dropR c p x now).vs.flatMap intF) ∧ Below w.heap.size w w' := by
  obtain ⟨i0, hi, hz0, hz1, hz2⟩ := g_infoInt
  obtain ⟨z, hz⟩ : ∃ z, z = dropE c p x now := ⟨_, rfl⟩
  obtain ⟨ck, hck⟩ : ∃ z, z = chC c := ⟨_, rfl⟩
  have KC : Hid (∀ w', Below w.heap.size w w' → Calls Try.prog 19 #[.agg #[.int .i64 c.g, .bool c.b0, .bool c.b1, .bool c.b2, .bool c.b3, .bool c.b4, .bool c.b5, .bool c.b6, .bool c.b7, .bool c.b8, .bool c.b9, v]] w' fun e w'' => e = .returned (.int .i64 ck) ∧ Below w'.heap.size w' w'') := fun w' h => by rw [hck]; exact check_any c v w' (Rows.below hr h (Nat.le_refl _)) (by unfold maxLen; omega)
  have HZ : Hid _ := hz
  have HCKD : Hid _ := hck
  have HRV : Hid _ := hr
  rw [← hz]
  obtain ⟨ad, cap, hv⟩ := hr.shape
  obtain ⟨n, hn⟩ : ∃ n, n = c.vs.length := ⟨_, rfl⟩
  rw [← hn] at hv hm
  have HN : Hid _ := hn
  subst hv
  obtain ⟨W0, hW0⟩ : ∃ W0, W0 = (w.alloc (.cells #[.int .i64 c.g, .bool c.b0, .bool c.b1, .bool c.b2, .bool c.b3, .bool c.b4, .bool c.b5, .bool c.b6, .bool c.b7, .bool c.b8, .bool c.b9, (.slice ad n cap)] 25)).alloc (.cells #[.int .i64 0, .bool false, .bool false, .bool false, .bool false, .bool false, .bool false, .bool false, .bool false, .bool false, .bool false, .slice none 0 0] 25) := ⟨_, rfl⟩
  have HB0 : Hid (Below w.heap.size w W0) := by rw [hW0]; exact ((Below.refl _ w).alloc (Nat.le_refl _) _).alloc (by simp) _
  have HLA : Hid (LRow W0 w.heap.size (cnL c (.slice ad n cap))) := by
    rw [hW0]
    exact (LRow.new w (cnL c (.slice ad n cap)) 25).below ((Below.refl _ _).alloc (Nat.le_refl _) _) (by simp)
  have HLO : Hid (LRow W0 (w.heap.size + 1) (cnL c0 (.slice none 0 0))) := by
    rw [hW0]
    have h := LRow.new (w.alloc (.cells #[.int .i64 c.g, .bool c.b0, .bool c.b1, .bool c.b2, .bool c.b3, .bool c.b4, .bool c.b5, .bool c.b6, .bool c.b7, .bool c.b8, .bool c.b9, (.slice ad n cap)] 25)) (cnL c0 (.slice none 0 0)) 25
    rw [show (w.alloc (.cells #[.int .i64 c.g, .bool c.b0, .bool c.b1, .bool c.b2, .bool c.b3, .bool c.b4, .bool c.b5, .bool c.b6, .bool c.b7, .bool c.b8, .bool c.b9, (.slice ad n cap)] 25)).heap.size = w.heap.size + 1 from by simp] at h
    exact h
  have HLT : Hid (W0.heap.size = w.heap.size + 2) := by show _ = _; rw [hW0]; simp
  have HW0 : Hid _ := hW0
  clear hz hck hr hW0 hn
  go_enter Try.func9, Try.ntmps9
  go_upto_region 1 with fail
  rw [← HW0.out]
  clear HW0
  have a0 := HLA.out.cell 0 rfl
  have a1 := HLA.out.cell 1 rfl
  have a2 := HLA.out.cell 2 rfl
  have a3 := HLA.out.cell 3 rfl
  have a4 := HLA.out.cell 4 rfl
  have a5 := HLA.out.cell 5 rfl
  have a6 := HLA.out.cell 6 rfl
  have a7 := HLA.out.cell 7 rfl
  have a8 := HLA.out.cell 8 rfl
  have a9 := HLA.out.cell 9 rfl
  have a10 := HLA.out.cell 10 rfl
  have a11 := HLA.out.cell 11 rfl
  go_wp2_with fail
  refine (KC.out _ HB0.out).mono ?_
  rintro e w1 ⟨rfl, hb1⟩
  have HB1 : Hid (Below w.heap.size w w1) := HB0.out.trans (hb1.mono HB0.out.size)
  have HA1 : Hid _ := HLA.out.below hb1 (by have := HLT.out; omega)
  have HO1 : Hid _ := HLO.out.below hb1 (by have := HLT.out; omega)
  have HL1 : Hid (w.heap.size + 2 ≤ w1.heap.size) := by have := hb1.size; have := HLT.out; show _ ≤ _; omega
  clear hb1 a0 a1 a2 a3 a4 a5 a6 a7 a8 a9 a10 a11
  by_cases hck : ck = 0
  · have HCK : Hid (chC c = 0) := by show _ = _; rw [← HCKD.out]; exact hck
    have hne : (ck != 0) = false := by rw [hck]; rfl
    clear hck
    by_cases t1 : p < 0
    · have HZ2 : Hid (z = 3) := by show _ = _; rw [HZ.out]; unfold dropE; rw [if_pos HCK.out]; rw [if_pos (.inl (.inl t1))]
      have HR : Hid (dropR c p x now = c0) := by show _ = _; unfold dropR; rw [if_neg (by rw [← HZ.out, HZ2.out]; decide)]
      have o0 := HO1.out.cell 0 rfl
      have o1 := HO1.out.cell 1 rfl
      have o2 := HO1.out.cell 2 rfl
      have o3 := HO1.out.cell 3 rfl
      have o4 := HO1.out.cell 4 rfl
      have o5 := HO1.out.cell 5 rfl
      have o6 := HO1.out.cell 6 rfl
      have o7 := HO1.out.cell 7 rfl
      have o8 := HO1.out.cell 8 rfl
      have o9 := HO1.out.cell 9 rfl
      have o10 := HO1.out.cell 10 rfl
      have o11 := HO1.out.cell 11 rfl
      have f0 := HO1.out.frozen 0 rfl
      have f1 := HO1.out.frozen 1 rfl
      have f2 := HO1.out.frozen 2 rfl
      have f3 := HO1.out.frozen 3 rfl
      have f4 := HO1.out.frozen 4 rfl
      have f5 := HO1.out.frozen 5 rfl
      have f6 := HO1.out.frozen 6 rfl
      have f7 := HO1.out.frozen 7 rfl
      have f8 := HO1.out.frozen 8 rfl
      have f9 := HO1.out.frozen 9 rfl
      have f10 := HO1.out.frozen 10 rfl
      have f11 := HO1.out.frozen 11 rfl
      go_wp2_with fail
      generalize hW2 : World.setCell _ _ _ = W2
      have HP : Hid (LRow W2 (w.heap.size + 1) (cnL c0 (.slice none 0 0))) := by
        rw [← hW2]
        exact (((((((((((HO1.out.set 0 _).set 1 _).set 2 _).set 3 _).set 4 _).set 5 _).set 6 _).set 7 _).set 8 _).set 9 _).set 10 _).set 11 _
      have HB2 : Hid (Below w.heap.size w W2) := by
        rw [← hW2]
        iterate 12 refine Below.setCell ?_ (show w.heap.size ≤ w.heap.size + 1 by omega) _
        exact HB1.out
      clear hW2 o0 f0 o1 f1 o2 f2 o3 f3 o4 f4 o5 f5 o6 f6 o7 f7 o8 f8 o9 f9 o10 f10 o11 f11
      have p0 := HP.out.cell 0 rfl
      have p1 := HP.out.cell 1 rfl
      have p2 := HP.out.cell 2 rfl
      have p3 := HP.out.cell 3 rfl
      have p4 := HP.out.cell 4 rfl
      have p5 := HP.out.cell 5 rfl
      have p6 := HP.out.cell 6 rfl
      have p7 := HP.out.cell 7 rfl
      have p8 := HP.out.cell 8 rfl
      have p9 := HP.out.cell 9 rfl
      have p10 := HP.out.cell 10 rfl
      have p11 := HP.out.cell 11 rfl
      exact bodyPost_ret (v := .tuple #[.agg #[.int .i64 0, .bool false, .bool false, .bool false, .bool false, .bool false, .bool false, .bool false, .bool false, .bool false, .bool false, .slice none 0 0], .int .i64 3]) (by simp [results, Try.results9, go_sem, c0, p0, p1, p2, p3, p4, p5, p6, p7, p8, p9, p10, p11]) rfl ⟨.slice none 0 0, by rw [HR.out, HZ2.out]; rfl, by rw [HR.out]; exact World.ownsRow_nil _ _ _ _, HB2.out⟩

    by_cases t2 : 10 < p
    · have HZ2 : Hid (z = 3) := by show _ = _; rw [HZ.out]; unfold dropE; rw [if_pos HCK.out]; rw [if_pos (.inl (.inr t2))]
      have HR : Hid (dropR c p x now = c0) := by show _ = _; unfold dropR; rw [if_neg (by rw [← HZ.out, HZ2.out]; decide)]
      have o0 := HO1.out.cell 0 rfl
      have o1 := HO1.out.cell 1 rfl
      have o2 := HO1.out.cell 2 rfl
      have o3 := HO1.out.cell 3 rfl
      have o4 := HO1.out.cell 4 rfl
      have o5 := HO1.out.cell 5 rfl
      have o6 := HO1.out.cell 6 rfl
      have o7 := HO1.out.cell 7 rfl
      have o8 := HO1.out.cell 8 rfl
      have o9 := HO1.out.cell 9 rfl
      have o10 := HO1.out.cell 10 rfl
      have o11 := HO1.out.cell 11 rfl
      have f0 := HO1.out.frozen 0 rfl
      have f1 := HO1.out.frozen 1 rfl
      have f2 := HO1.out.frozen 2 rfl
      have f3 := HO1.out.frozen 3 rfl
      have f4 := HO1.out.frozen 4 rfl
      have f5 := HO1.out.frozen 5 rfl
      have f6 := HO1.out.frozen 6 rfl
      have f7 := HO1.out.frozen 7 rfl
      have f8 := HO1.out.frozen 8 rfl
      have f9 := HO1.out.frozen 9 rfl
      have f10 := HO1.out.frozen 10 rfl
      have f11 := HO1.out.frozen 11 rfl
      go_wp2_with fail
      generalize hW2 : World.setCell _ _ _ = W2
      have HP : Hid (LRow W2 (w.heap.size + 1) (cnL c0 (.slice none 0 0))) := by
        rw [← hW2]
        exact (((((((((((HO1.out.set 0 _).set 1 _).set 2 _).set 3 _).set 4 _).set 5 _).set 6 _).set 7 _).set 8 _).set 9 _).set 10 _).set 11 _
      have HB2 : Hid (Below w.heap.size w W2) := by
        rw [← hW2]
        iterate 12 refine Below.setCell ?_ (show w.heap.size ≤ w.heap.size + 1 by omega) _
        exact HB1.out
      clear hW2 o0 f0 o1 f1 o2 f2 o3 f3 o4 f4 o5 f5 o6 f6 o7 f7 o8 f8 o9 f9 o10 f10 o11 f11
      have p0 := HP.out.cell 0 rfl
      have p1 := HP.out.cell 1 rfl
      have p2 := HP.out.cell 2 rfl
      have p3 := HP.out.cell 3 rfl
      have p4 := HP.out.cell 4 rfl
      have p5 := HP.out.cell 5 rfl
      have p6 := HP.out.cell 6 rfl
      have p7 := HP.out.cell 7 rfl
      have p8 := HP.out.cell 8 rfl
      have p9 := HP.out.cell 9 rfl
      have p10 := HP.out.cell 10 rfl
      have p11 := HP.out.cell 11 rfl
      exact bodyPost_ret (v := .tuple #[.agg #[.int .i64 0, .bool false, .bool false, .bool false, .bool false, .bool false, .bool false, .bool false, .bool false, .bool false, .bool false, .slice none 0 0], .int .i64 3]) (by simp [results, Try.results9, go_sem, c0, p0, p1, p2, p3, p4, p5, p6, p7, p8, p9, p10, p11]) rfl ⟨.slice none 0 0, by rw [HR.out, HZ2.out]; rfl, by rw [HR.out]; exact World.ownsRow_nil _ _ _ _, HB2.out⟩

    by_cases t3 : x < 0
    · have HZ2 : Hid (z = 3) := by show _ = _; rw [HZ.out]; unfold dropE; rw [if_pos HCK.out]; rw [if_pos (.inr (.inl t3))]
      have HR : Hid (dropR c p x now = c0) := by show _ = _; unfold dropR; rw [if_neg (by rw [← HZ.out, HZ2.out]; decide)]
      have o0 := HO1.out.cell 0 rfl
      have o1 := HO1.out.cell 1 rfl
      have o2 := HO1.out.cell 2 rfl
      have o3 := HO1.out.cell 3 rfl
      have o4 := HO1.out.cell 4 rfl
      have o5 := HO1.out.cell 5 rfl
      have o6 := HO1.out.cell 6 rfl
      have o7 := HO1.out.cell 7 rfl
      have o8 := HO1.out.cell 8 rfl
      have o9 := HO1.out.cell 9 rfl
      have o10 := HO1.out.cell 10 rfl
      have o11 := HO1.out.cell 11 rfl
      have f0 := HO1.out.frozen 0 rfl
      have f1 := HO1.out.frozen 1 rfl
      have f2 := HO1.out.frozen 2 rfl
      have f3 := HO1.out.frozen 3 rfl
      have f4 := HO1.out.frozen 4 rfl
      have f5 := HO1.out.frozen 5 rfl
      have f6 := HO1.out.frozen 6 rfl
      have f7 := HO1.out.frozen 7 rfl
      have f8 := HO1.out.frozen 8 rfl
      have f9 := HO1.out.frozen 9 rfl
      have f10 := HO1.out.frozen 10 rfl
      have f11 := HO1.out.frozen 11 rfl
      go_wp2_with fail
      generalize hW2 : World.setCell _ _ _ = W2
      have HP : Hid (LRow W2 (w.heap.size + 1) (cnL c0 (.slice none 0 0))) := by
        rw [← hW2]
        exact (((((((((((HO1.out.set 0 _).set 1 _).set 2 _).set 3 _).set 4 _).set 5 _).set 6 _).set 7 _).set 8 _).set 9 _).set 10 _).set 11 _
      have HB2 : Hid (Below w.heap.size w W2) := by
        rw [← hW2]
        iterate 12 refine Below.setCell ?_ (show w.heap.size ≤ w.heap.size + 1 by omega) _
        exact HB1.out
      clear hW2 o0 f0 o1 f1 o2 f2 o3 f3 o4 f4 o5 f5 o6 f6 o7 f7 o8 f8 o9 f9 o10 f10 o11 f11
      have p0 := HP.out.cell 0 rfl
      have p1 := HP.out.cell 1 rfl
      have p2 := HP.out.cell 2 rfl
      have p3 := HP.out.cell 3 rfl
      have p4 := HP.out.cell 4 rfl
      have p5 := HP.out.cell 5 rfl
      have p6 := HP.out.cell 6 rfl
      have p7 := HP.out.cell 7 rfl
      have p8 := HP.out.cell 8 rfl
      have p9 := HP.out.cell 9 rfl
      have p10 := HP.out.cell 10 rfl
      have p11 := HP.out.cell 11 rfl
      exact bodyPost_ret (v := .tuple #[.agg #[.int .i64 0, .bool false, .bool false, .bool false, .bool false, .bool false, .bool false, .bool false, .bool false, .bool false, .bool false, .slice none 0 0], .int .i64 3]) (by simp [results, Try.results9, go_sem, c0, p0, p1, p2, p3, p4, p5, p6, p7, p8, p9, p10, p11]) rfl ⟨.slice none 0 0, by rw [HR.out, HZ2.out]; rfl, by rw [HR.out]; exact World.ownsRow_nil _ _ _ _, HB2.out⟩

    by_cases t4 : 40 < x
    · have HZ2 : Hid (z = 3) := by show _ = _; rw [HZ.out]; unfold dropE; rw [if_pos HCK.out]; rw [if_pos (.inr (.inr t4))]
      have HR : Hid (dropR c p x now = c0) := by show _ = _; unfold dropR; rw [if_neg (by rw [← HZ.out, HZ2.out]; decide)]
      have o0 := HO1.out.cell 0 rfl
      have o1 := HO1.out.cell 1 rfl
      have o2 := HO1.out.cell 2 rfl
      have o3 := HO1.out.cell 3 rfl
      have o4 := HO1.out.cell 4 rfl
      have o5 := HO1.out.cell 5 rfl
      have o6 := HO1.out.cell 6 rfl
      have o7 := HO1.out.cell 7 rfl
      have o8 := HO1.out.cell 8 rfl
      have o9 := HO1.out.cell 9 rfl
      have o10 := HO1.out.cell 10 rfl
      have o11 := HO1.out.cell 11 rfl
      have f0 := HO1.out.frozen 0 rfl
      have f1 := HO1.out.frozen 1 rfl
      have f2 := HO1.out.frozen 2 rfl
      have f3 := HO1.out.frozen 3 rfl
      have f4 := HO1.out.frozen 4 rfl
      have f5 := HO1.out.frozen 5 rfl
      have f6 := HO1.out.frozen 6 rfl
      have f7 := HO1.out.frozen 7 rfl
      have f8 := HO1.out.frozen 8 rfl
      have f9 := HO1.out.frozen 9 rfl
      have f10 := HO1.out.frozen 10 rfl
      have f11 := HO1.out.frozen 11 rfl
      go_wp2_with fail
      generalize hW2 : World.setCell _ _ _ = W2
      have HP : Hid (LRow W2 (w.heap.size + 1) (cnL c0 (.slice none 0 0))) := by
        rw [← hW2]
        exact (((((((((((HO1.out.set 0 _).set 1 _).set 2 _).set 3 _).set 4 _).set 5 _).set 6 _).set 7 _).set 8 _).set 9 _).set 10 _).set 11 _
      have HB2 : Hid (Below w.heap.size w W2) := by
        rw [← hW2]
        iterate 12 refine Below.setCell ?_ (show w.heap.size ≤ w.heap.size + 1 by omega) _
        exact HB1.out
      clear hW2 o0 f0 o1 f1 o2 f2 o3 f3 o4 f4 o5 f5 o6 f6 o7 f7 o8 f8 o9 f9 o10 f10 o11 f11
      have p0 := HP.out.cell 0 rfl
      have p1 := HP.out.cell 1 rfl
      have p2 := HP.out.cell 2 rfl
      have p3 := HP.out.cell 3 rfl
      have p4 := HP.out.cell 4 rfl
      have p5 := HP.out.cell 5 rfl
      have p6 := HP.out.cell 6 rfl
      have p7 := HP.out.cell 7 rfl
      have p8 := HP.out.cell 8 rfl
      have p9 := HP.out.cell 9 rfl
      have p10 := HP.out.cell 10 rfl
      have p11 := HP.out.cell 11 rfl
      exact bodyPost_ret (v := .tuple #[.agg #[.int .i64 0, .bool false, .bool false, .bool false, .bool false, .bool false, .bool false, .bool false, .bool false, .bool false, .bool false, .slice none 0 0], .int .i64 3]) (by simp [results, Try.results9, go_sem, c0, p0, p1, p2, p3, p4, p5, p6, p7, p8, p9, p10, p11]) rfl ⟨.slice none 0 0, by rw [HR.out, HZ2.out]; rfl, by rw [HR.out]; exact World.ownsRow_nil _ _ _ _, HB2.out⟩

    have HC3 : Hid (¬ ((p < 0 ∨ 10 < p) ∨ (x < 0 ∨ 40 < x))) := by show ¬ _; omega
    have a0 := HA1.out.cell 0 rfl
    by_cases t5 : now < c.g
    · have HZ2 : Hid (z = 4) := by show _ = _; rw [HZ.out]; unfold dropE; rw [if_pos HCK.out]; rw [if_neg HC3.out, if_pos (.inl t5)]
      have HR : Hid (dropR c p x now = c0) := by show _ = _; unfold dropR; rw [if_neg (by rw [← HZ.out, HZ2.out]; decide)]
      have o0 := HO1.out.cell 0 rfl
      have o1 := HO1.out.cell 1 rfl
      have o2 := HO1.out.cell 2 rfl
      have o3 := HO1.out.cell 3 rfl
      have o4 := HO1.out.cell 4 rfl
      have o5 := HO1.out.cell 5 rfl
      have o6 := HO1.out.cell 6 rfl
      have o7 := HO1.out.cell 7 rfl
      have o8 := HO1.out.cell 8 rfl
      have o9 := HO1.out.cell 9 rfl
      have o10 := HO1.out.cell 10 rfl
      have o11 := HO1.out.cell 11 rfl
      have f0 := HO1.out.frozen 0 rfl
      have f1 := HO1.out.frozen 1 rfl
      have f2 := HO1.out.frozen 2 rfl
      have f3 := HO1.out.frozen 3 rfl
      have f4 := HO1.out.frozen 4 rfl
      have f5 := HO1.out.frozen 5 rfl
      have f6 := HO1.out.frozen 6 rfl
      have f7 := HO1.out.frozen 7 rfl
      have f8 := HO1.out.frozen 8 rfl
      have f9 := HO1.out.frozen 9 rfl
      have f10 := HO1.out.frozen 10 rfl
      have f11 := HO1.out.frozen 11 rfl
      go_wp2_with fail
      generalize hW2 : World.setCell _ _ _ = W2
      have HP : Hid (LRow W2 (w.heap.size + 1) (cnL c0 (.slice none 0 0))) := by
        rw [← hW2]
        exact (((((((((((HO1.out.set 0 _).set 1 _).set 2 _).set 3 _).set 4 _).set 5 _).set 6 _).set 7 _).set 8 _).set 9 _).set 10 _).set 11 _
      have HB2 : Hid (Below w.heap.size w W2) := by
        rw [← hW2]
        iterate 12 refine Below.setCell ?_ (show w.heap.size ≤ w.heap.size + 1 by omega) _
        exact HB1.out
      clear hW2 o0 f0 o1 f1 o2 f2 o3 f3 o4 f4 o5 f5 o6 f6 o7 f7 o8 f8 o9 f9 o10 f10 o11 f11
      have p0 := HP.out.cell 0 rfl
      have p1 := HP.out.cell 1 rfl
      have p2 := HP.out.cell 2 rfl
      have p3 := HP.out.cell 3 rfl
      have p4 := HP.out.cell 4 rfl
      have p5 := HP.out.cell 5 rfl
      have p6 := HP.out.cell 6 rfl
      have p7 := HP.out.cell 7 rfl
      have p8 := HP.out.cell 8 rfl
      have p9 := HP.out.cell 9 rfl
      have p10 := HP.out.cell 10 rfl
      have p11 := HP.out.cell 11 rfl
      exact bodyPost_ret (v := .tuple #[.agg #[.int .i64 0, .bool false, .bool false, .bool false, .bool false, .bool false, .bool false, .bool false, .bool false, .bool false, .bool false, .slice none 0 0], .int .i64 4]) (by simp [results, Try.results9, go_sem, c0, p0, p1, p2, p3, p4, p5, p6, p7, p8, p9, p10, p11]) rfl ⟨.slice none 0 0, by rw [HR.out, HZ2.out]; rfl, by rw [HR.out]; exact World.ownsRow_nil _ _ _ _, HB2.out⟩

    by_cases t6 : 68719476735 < now
    · have HZ2 : Hid (z = 4) := by show _ = _; rw [HZ.out]; unfold dropE; rw [if_pos HCK.out]; rw [if_neg HC3.out, if_pos (.inr t6)]
      have HR : Hid (dropR c p x now = c0) := by show _ = _; unfold dropR; rw [if_neg (by rw [← HZ.out, HZ2.out]; decide)]
      have o0 := HO1.out.cell 0 rfl
      have o1 := HO1.out.cell 1 rfl
      have o2 := HO1.out.cell 2 rfl
      have o3 := HO1.out.cell 3 rfl
      have o4 := HO1.out.cell 4 rfl
      have o5 := HO1.out.cell 5 rfl
      have o6 := HO1.out.cell 6 rfl
      have o7 := HO1.out.cell 7 rfl
      have o8 := HO1.out.cell 8 rfl
      have o9 := HO1.out.cell 9 rfl
      have o10 := HO1.out.cell 10 rfl
      have o11 := HO1.out.cell 11 rfl
      have f0 := HO1.out.frozen 0 rfl
      have f1 := HO1.out.frozen 1 rfl
      have f2 := HO1.out.frozen 2 rfl
      have f3 := HO1.out.frozen 3 rfl
      have f4 := HO1.out.frozen 4 rfl
      have f5 := HO1.out.frozen 5 rfl
      have f6 := HO1.out.frozen 6 rfl
      have f7 := HO1.out.frozen 7 rfl
      have f8 := HO1.out.frozen 8 rfl
      have f9 := HO1.out.frozen 9 rfl
      have f10 := HO1.out.frozen 10 rfl
      have f11 := HO1.out.frozen 11 rfl
      go_wp2_with fail
      generalize hW2 : World.setCell _ _ _ = W2
      have HP : Hid (LRow W2 (w.heap.size + 1) (cnL c0 (.slice none 0 0))) := by
        rw [← hW2]
        exact (((((((((((HO1.out.set 0 _).set 1 _).set 2 _).set 3 _).set 4 _).set 5 _).set 6 _).set 7 _).set 8 _).set 9 _).set 10 _).set 11 _
      have HB2 : Hid (Below w.heap.size w W2) := by
        rw [← hW2]
        iterate 12 refine Below.setCell ?_ (show w.heap.size ≤ w.heap.size + 1 by omega) _
        exact HB1.out
      clear hW2 o0 f0 o1 f1 o2 f2 o3 f3 o4 f4 o5 f5 o6 f6 o7 f7 o8 f8 o9 f9 o10 f10 o11 f11
      have p0 := HP.out.cell 0 rfl
      have p1 := HP.out.cell 1 rfl
      have p2 := HP.out.cell 2 rfl
      have p3 := HP.out.cell 3 rfl
      have p4 := HP.out.cell 4 rfl
      have p5 := HP.out.cell 5 rfl
      have p6 := HP.out.cell 6 rfl
      have p7 := HP.out.cell 7 rfl
      have p8 := HP.out.cell 8 rfl
      have p9 := HP.out.cell 9 rfl
      have p10 := HP.out.cell 10 rfl
      have p11 := HP.out.cell 11 rfl
      exact bodyPost_ret (v := .tuple #[.agg #[.int .i64 0, .bool false, .bool false, .bool false, .bool false, .bool false, .bool false, .bool false, .bool false, .bool false, .bool false, .slice none 0 0], .int .i64 4]) (by simp [results, Try.results9, go_sem, c0, p0, p1, p2, p3, p4, p5, p6, p7, p8, p9, p10, p11]) rfl ⟨.slice none 0 0, by rw [HR.out, HZ2.out]; rfl, by rw [HR.out]; exact World.ownsRow_nil _ _ _ _, HB2.out⟩

    have HZ0 : Hid (z = 0) := by show _ = _; rw [HZ.out]; unfold dropE; rw [if_pos HCK.out, if_neg HC3.out, if_neg (by omega)]
    have HR : Hid (dropR c p x now = dropC c p x now) := by show _ = _; unfold dropR; rw [if_pos (by rw [← HZ.out]; exact HZ0.out)]
    have a1 := HA1.out.cell 1 rfl
    have a2 := HA1.out.cell 2 rfl
    have a3 := HA1.out.cell 3 rfl
    have a4 := HA1.out.cell 4 rfl
    have a5 := HA1.out.cell 5 rfl
    have a6 := HA1.out.cell 6 rfl
    have a7 := HA1.out.cell 7 rfl
    have a8 := HA1.out.cell 8 rfl
    have a9 := HA1.out.cell 9 rfl
    have a10 := HA1.out.cell 10 rfl
    go_upto_region 9 with fail
    obtain ⟨O, hO⟩ : ∃ O, O = w1.heap.size := ⟨_, rfl⟩
    obtain ⟨W3, hW3⟩ : ∃ W, W = w1.alloc (.cells #[.int .i64 now, .bool c.b0, .bool c.b1, .bool c.b2, .bool c.b3, .bool c.b4, .bool c.b5, .bool c.b6, .bool c.b7, .bool c.b8, .bool c.b9, .slice none 0 0] 25) := ⟨_, rfl⟩
    rw [← hW3, ← hO]
    have n3 : Below w1.heap.size w1 W3 := by rw [hW3]; exact (Below.refl _ _).alloc (Nat.le_refl _) _
    have R3 : Hid (LRow W3 O (cnL { c with g := now } (.slice none 0 0))) := by rw [hW3, hO]; exact LRow.new w1 (cnL { c with g := now } (.slice none 0 0)) 25
    have HA3 : Hid _ := HA1.out.below n3 (by have := HL1.out; omega)
    have HO3 : Hid _ := HO1.out.below n3 (by have := HL1.out; omega)
    have HB3 : Hid (Below w.heap.size w W3) := HB1.out.trans (n3.mono HB1.out.size)
    have HOL : Hid (w.heap.size + 2 ≤ O ∧ O < W3.heap.size) := ⟨by rw [hO]; exact HL1.out, by rw [hW3, hO]; simp⟩
    have HPP : Hid (0 ≤ p ∧ p ≤ 10) := ⟨by omega, by omega⟩
    clear n3 hW3 hO a0 a1 a2 a3 a4 a5 a6 a7 a8 a9 a10 t1 t2 t3 t4 t5 t6 HA1 HO1 HB1
    by_cases hp0 : p = 0
    · have R4 : Hid (LRow W3 O (dropP c p now (.slice none 0 0))) := by have := R3.out; rw [dropP_zero c p now _ hp0] at this; exact this
      have hp1 : ¬ 0 < p := by omega
      clear hp0
      have HG4 : Hid (Below w.heap.size w W3 ∧ O < W3.heap.size) := ⟨HB3.out, HOL.out.2⟩
      have HA4 : Hid _ := HA3.out
      have HO4 : Hid _ := HO3.out
      go_upto_region 11 with fail
      obtain ⟨W4, hW4⟩ : ∃ W, W = W3 := ⟨_, rfl⟩
      rw [← hW4] at R4 HG4 HA4 HO4 ⊢
      clear hW4 R3 HA3 HO3 HB3
      have a11 := HA4.out.cell 11 rfl
      have HOB : Hid (w.heap.size + 2 ≤ O) := HOL.out.1
      have hn40 : n ≤ 40 := by rw [HN.out]; exact chC_len HCK.out
      have HRW4 : Hid (Rows W4 (.slice ad n cap) intF c.vs) := by rw [HN.out]; rw [HN.out] at HRV; exact Rows.below HRV.out HG4.out.1 (Nat.le_refl _)
      go_wp2_with fail
      clear a11
      go_loopw [57] (fun i wr => ∃ (kk : Nat) (vv : Value), kk ≤ n ∧ i = .int .i64 kk ∧ Hid (LRow wr O (dropP c (p) now vv)) ∧ wr.ownsRow W4.heap.size 3 1 vv (dtake c x kk).length ((dtake c x kk).flatMap intF) ∧ Hid (W4.grownBy wr (some O))) (fun i _ => n - (intOf i).toNat)
      case atStart => exact ⟨0, .slice none 0 0, Nat.zero_le _, rfl, R4.out, World.ownsRow_nil _ _ _ _, ⟨rfl, rfl, rfl, Nat.le_refl _, fun _ _ _ => rfl⟩⟩
      case round =>
        obtain ⟨k2, vv, hk, rfl, hrow, hown, hg⟩ := hrel
        obtain ⟨sad, scap, rfl⟩ := g_slice hown
        by_cases hlt : k2 < n
        · obtain ⟨y, e1⟩ : ∃ y, c.vs[k2]? = some y := ⟨_, List.getElem?_eq_getElem (by rw [← HN.out]; exact hlt)⟩
          obtain ⟨bl, ol, had, hbl, hcell⟩ := Rows.at HRW4.out rfl 0 (fun _ => rfl) k2 y e1
          subst had
          have c0 : wr.cell? ⟨bl, ol + k2, none⟩ = some (.int .i64 y) := by
            have h1 := hcell 0 _ rfl
            rw [show ol + k2 * (0 + 1) + 0 = ol + k2 by omega] at h1
            rw [← h1]
            exact World.cell?_of_block (a := ⟨bl, ol + k2, none⟩) (hg.out.block bl (cell_in h1) (by
              intro e
              injection e with e
              have := src_ne HRV.out HG4.out.1 k2 y e1 (by have := HOB.out; omega) e
              exact this))
          obtain ⟨m, hm2⟩ : ∃ m, m = (dtake c x k2).length := ⟨_, rfl⟩
          have hmk : m ≤ k2 := by rw [hm2]; exact dtake_len c x k2
          rw [← hm2] at hown hrow
          have HMM : Hid _ := hm2
          have HE : Hid _ := e1
          clear e1 hcell hbl hm2
          by_cases hyx : y = x
          · have hn1 : (y != x) = false := by rw [hyx]; simp
            have HTK : Hid _ := dtake_no c x k2 y HE.out hyx
            clear hyx
            go_wp2_with fail
            go_roundw
            case rel => exact ⟨k2 + 1, _, by omega, by go_num, hrow, by rw [HTK.out, ← HMM.out]; exact hown, hg⟩
            case measure => simp [intOf]; omega
          · have hn1 : (y != x) = true := by rw [bne_iff_ne]; exact hyx
            have HTK : Hid _ := dtake_yes c x k2 y HE.out hyx
            have HOr : Hid (O < W4.heap.size ∧ W4.heap.size ≤ wr.heap.size) := ⟨HG4.out.2, hg.out.size⟩
            have c11 := hrow.out.cell 11 rfl
            clear hyx
            go_wp2_with (at_builtin; refine wpList_append_own _ rfl _ _ 23 rfl W4.heap.size 3 i0 (.int .i64 0) 1 8 Try.underlying23 hi hz0 hz1 hz2 rfl (by decide) _ _ _ rfl (hown.alloc _) ⟨wr.heap.size, 0, none⟩ 1 1 [.int .i64 y] rfl rfl (g_cell1 _ _ _ _ rfl) (by simp [Value.oneCell']) ?c1 ?c2 ?c3 ?_)
            case c1 => unfold maxLen; omega
            case c2 => omega
            case c3 => have := HOr.out; simp; omega
            intro v3 w3 hown3 hg3 _
            have nbk : ∀ q, (Value.slice sad m scap).ownBlock = some q → W4.heap.size ≤ q := fun q e => (hown.lt q e).1
            have HR3 : Hid (LRow w3 O (dropP c (p) now (.slice sad m scap))) := row_grown (hrow.out.below ((Below.refl wr.heap.size wr).alloc (Nat.le_refl _) _) (by have := HOr.out; omega)) hg3 (by have := HOr.out; simp; omega) (fun e => by have := nbk O e.symm; have := HOr.out; omega)
            have HGG : Hid (W4.grownBy w3 (some O)) := g_grown (g_below hg.out ((Below.refl wr.heap.size wr).alloc (Nat.le_refl _) _)) hg3 nbk
            obtain ⟨sad3, scap3, rfl⟩ := g_slice hown3
            have c11' := HR3.out.cell 11 rfl
            have f11' := HR3.out.frozen 11 rfl
            have HR4 : Hid (LRow (w3.setCell ⟨O, 11, none⟩ (.slice sad3 (m + 1) scap3)) O (dropP c (p) now (.slice sad3 (m + 1) scap3))) := HR3.out.set 11 _
            have HG5 : Hid (W4.grownBy (w3.setCell ⟨O, 11, none⟩ (.slice sad3 (m + 1) scap3)) (some O)) := g_set HGG.out 11 _
            have HOW : Hid ((w3.setCell ⟨O, 11, none⟩ (.slice sad3 (m + 1) scap3)).ownsRow W4.heap.size 3 1 (.slice sad3 (m + 1) scap3) (m + 1) ((dtake c x k2).flatMap intF ++ [.int .i64 y])) := own_set' hown3 HOr.out.1
            clear c11 hown3 hg3 hown HR3 HGG hrow hg c0
            go_wp2_with fail
            go_roundw
            case rel =>
              refine ⟨k2 + 1, .slice sad3 (m + 1) scap3, by omega, by go_num, HR4, ?_, HG5⟩
              rw [HTK.out, List.length_append, List.flatMap_append, ← HMM.out]
              exact HOW.out
            case measure => simp [intOf]; omega
        · have hkn : k2 = n := by omega
          subst hkn
          have hall : dtake c x k2 = (dropC c (p) x now).vs := dtake_all c x k2 (by rw [← HN.out]; exact Nat.le_refl _)
          rw [hall] at hown hrow
          have HOWN : Hid _ := hown
          have HROW : Hid (LRow wr O (cnL (dropC c (p) x now) (.slice sad (dropC c (p) x now).vs.length scap))) := by rw [← dropP_end]; exact hrow.out
          have HOr : Hid _ := row_grown HO4.out hg.out (by have := HOB.out; have := HG4.out.2; omega) (fun e => by injection e with e; have := HOB.out; omega)
          have HBr : Hid (Below w.heap.size w wr) := HG4.out.1.grown hg.out HG4.out.1.size (fun q e => by injection e with e; have := HOB.out; omega)
          obtain ⟨nb, hnb⟩ : ∃ n, n = (dropC c (p) x now).vs.length := ⟨_, rfl⟩
          rw [← hnb] at HOWN HROW
          have HNB : Hid _ := hnb
          have h6 : Hid (w.heap.size + 1 < W4.heap.size ∧ w.heap.size ≤ W4.heap.size) := by have := HOB.out; have := HG4.out.2; exact ⟨by omega, by omega⟩
          clear hown hrow hall hg hlt hk hnb
          have q0 := HROW.out.cell 0 rfl
          have q1 := HROW.out.cell 1 rfl
          have q2 := HROW.out.cell 2 rfl
          have q3 := HROW.out.cell 3 rfl
          have q4 := HROW.out.cell 4 rfl
          have q5 := HROW.out.cell 5 rfl
          have q6 := HROW.out.cell 6 rfl
          have q7 := HROW.out.cell 7 rfl
          have q8 := HROW.out.cell 8 rfl
          have q9 := HROW.out.cell 9 rfl
          have q10 := HROW.out.cell 10 rfl
          have q11 := HROW.out.cell 11 rfl
          have o0 := HOr.out.cell 0 rfl
          have o1 := HOr.out.cell 1 rfl
          have o2 := HOr.out.cell 2 rfl
          have o3 := HOr.out.cell 3 rfl
          have o4 := HOr.out.cell 4 rfl
          have o5 := HOr.out.cell 5 rfl
          have o6 := HOr.out.cell 6 rfl
          have o7 := HOr.out.cell 7 rfl
          have o8 := HOr.out.cell 8 rfl
          have o9 := HOr.out.cell 9 rfl
          have o10 := HOr.out.cell 10 rfl
          have o11 := HOr.out.cell 11 rfl
          have f0 := HOr.out.frozen 0 rfl
          have f1 := HOr.out.frozen 1 rfl
          have f2 := HOr.out.frozen 2 rfl
          have f3 := HOr.out.frozen 3 rfl
          have f4 := HOr.out.frozen 4 rfl
          have f5 := HOr.out.frozen 5 rfl
          have f6 := HOr.out.frozen 6 rfl
          have f7 := HOr.out.frozen 7 rfl
          have f8 := HOr.out.frozen 8 rfl
          have f9 := HOr.out.frozen 9 rfl
          have f10 := HOr.out.frozen 10 rfl
          have f11 := HOr.out.frozen 11 rfl
          go_wp2_with fail
          generalize hW2 : World.setCell _ _ _ = W2
          have HP : Hid (LRow W2 (w.heap.size + 1) (cnL (dropC c (p) x now) (.slice sad nb scap))) := by
            rw [← hW2]
            exact (((((((((((HOr.out.set 0 _).set 1 _).set 2 _).set 3 _).set 4 _).set 5 _).set 6 _).set 7 _).set 8 _).set 9 _).set 10 _).set 11 _
          have HB2 : Hid (Below w.heap.size w W2) := by
            rw [← hW2]
            iterate 12 refine Below.setCell ?_ (show w.heap.size ≤ w.heap.size + 1 by omega) _
            exact HBr.out
          have HOW2 : Hid (W2.ownsRow w.heap.size 3 1 (.slice sad nb scap) nb ((dropC c (p) x now).vs.flatMap intF)) := by
            have hX : W2.ownsRow W4.heap.size 3 1 (.slice sad nb scap) nb ((dropC c (p) x now).vs.flatMap intF) := by
              rw [← hW2]
              iterate 12 refine own_set' ?_ h6.out.1
              exact HOWN.out
            exact g_lower hX h6.out.2
          clear hW2 q0 o0 f0 q1 o1 f1 q2 o2 f2 q3 o3 f3 q4 o4 f4 q5 o5 f5 q6 o6 f6 q7 o7 f7 q8 o8 f8 q9 o9 f9 q10 o10 f10 q11 o11 f11
          have p0 := HP.out.cell 0 rfl
          have p1 := HP.out.cell 1 rfl
          have p2 := HP.out.cell 2 rfl
          have p3 := HP.out.cell 3 rfl
          have p4 := HP.out.cell 4 rfl
          have p5 := HP.out.cell 5 rfl
          have p6 := HP.out.cell 6 rfl
          have p7 := HP.out.cell 7 rfl
          have p8 := HP.out.cell 8 rfl
          have p9 := HP.out.cell 9 rfl
          have p10 := HP.out.cell 10 rfl
          have p11 := HP.out.cell 11 rfl
          exact bodyPost_ret (v := .tuple #[.agg (cnL (dropC c (p) x now) (.slice sad nb scap)).toArray, .int .i64 0]) (by simp [results, Try.results9, go_sem, dropC, cnL, p0, p1, p2, p3, p4, p5, p6, p7, p8, p9, p10, p11]) rfl ⟨.slice sad nb scap, by rw [HR.out, HZ0.out], by rw [HR.out, ← HNB.out]; exact HOW2.out, HB2.out⟩

    · obtain ⟨k, hk⟩ : ∃ k : Nat, p = (k : Int) + 1 := ⟨(p - 1).toNat, by have := HC3.out; omega⟩
      have hk10 : k < 10 := by have := HC3.out; omega
      obtain ⟨u, hu⟩ : ∃ u, (cnL { c with g := now } (.slice none 0 0))[1 + k]? = some u := ⟨_, ps_get { c with g := now } _ k hk10⟩
      have co : W3.cell? ⟨O, 1 + k, none⟩ = some u := R3.out.cell (1 + k) hu
      have fo : W3.frozen? ⟨O, 1 + k, none⟩ = false := R3.out.frozen (1 + k) hu
      have e1 : IntKind.i64.wrap ((k : Int) + 1 - 1) = (k : Int) := by
        rw [show (k : Int) + 1 - 1 = (k : Int) by omega]; exact IntWalk.i64_in _ (by omega)
      have e2 : ((k : Int) + 1 - 1) = (k : Int) := by omega
      have e3 : (0 : Int) < (k : Int) + 1 := by omega
      subst hk
      have R4 : Hid (LRow (W3.setCell ⟨O, 1 + k, none⟩ (.bool false)) O (dropP c ((k : Int) + 1) now (.slice none 0 0))) := by have := R3.out.set (1 + k) (.bool false); rw [dropP_set c k hk10] at this; exact this
      have HG4 : Hid (Below w.heap.size w (W3.setCell ⟨O, 1 + k, none⟩ (.bool false)) ∧ O < (W3.setCell ⟨O, 1 + k, none⟩ (.bool false)).heap.size) := ⟨HB3.out.setCell (show w.heap.size ≤ O by have := HOL.out; omega) _, by have := HOL.out; simpa using this.2⟩
      have HA4 : Hid (LRow (W3.setCell ⟨O, 1 + k, none⟩ (.bool false)) _ _) := row_set HA3.out (by have := HOL.out; omega)
      have HO4 : Hid (LRow (W3.setCell ⟨O, 1 + k, none⟩ (.bool false)) _ _) := row_set HO3.out (by have := HOL.out; omega)
      clear hu hp0 hp
      go_upto_region 11 with fail
      clear co fo
      obtain ⟨W4, hW4⟩ : ∃ W, W = W3.setCell ⟨O, 1 + k, none⟩ (.bool false) := ⟨_, rfl⟩
      rw [← hW4] at R4 HG4 HA4 HO4 ⊢
      clear hW4 R3 HA3 HO3 HB3
      have a11 := HA4.out.cell 11 rfl
      have HOB : Hid (w.heap.size + 2 ≤ O) := HOL.out.1
      have hn40 : n ≤ 40 := by rw [HN.out]; exact chC_len HCK.out
      have HRW4 : Hid (Rows W4 (.slice ad n cap) intF c.vs) := by rw [HN.out]; rw [HN.out] at HRV; exact Rows.below HRV.out HG4.out.1 (Nat.le_refl _)
      go_wp2_with fail
      clear a11
      go_loopw [57] (fun i wr => ∃ (kk : Nat) (vv : Value), kk ≤ n ∧ i = .int .i64 kk ∧ Hid (LRow wr O (dropP c ((k : Int) + 1) now vv)) ∧ wr.ownsRow W4.heap.size 3 1 vv (dtake c x kk).length ((dtake c x kk).flatMap intF) ∧ Hid (W4.grownBy wr (some O))) (fun i _ => n - (intOf i).toNat)
      case atStart => exact ⟨0, .slice none 0 0, Nat.zero_le _, rfl, R4.out, World.ownsRow_nil _ _ _ _, ⟨rfl, rfl, rfl, Nat.le_refl _, fun _ _ _ => rfl⟩⟩
      case round =>
        obtain ⟨k2, vv, hk, rfl, hrow, hown, hg⟩ := hrel
        obtain ⟨sad, scap, rfl⟩ := g_slice hown
        by_cases hlt : k2 < n
        · obtain ⟨y, e1⟩ : ∃ y, c.vs[k2]? = some y := ⟨_, List.getElem?_eq_getElem (by rw [← HN.out]; exact hlt)⟩
          obtain ⟨bl, ol, had, hbl, hcell⟩ := Rows.at HRW4.out rfl 0 (fun _ => rfl) k2 y e1
          subst had
          have c0 : wr.cell? ⟨bl, ol + k2, none⟩ = some (.int .i64 y) := by
            have h1 := hcell 0 _ rfl
            rw [show ol + k2 * (0 + 1) + 0 = ol + k2 by omega] at h1
            rw [← h1]
            exact World.cell?_of_block (a := ⟨bl, ol + k2, none⟩) (hg.out.block bl (cell_in h1) (by
              intro e
              injection e with e
              have := src_ne HRV.out HG4.out.1 k2 y e1 (by have := HOB.out; omega) e
              exact this))
          obtain ⟨m, hm2⟩ : ∃ m, m = (dtake c x k2).length := ⟨_, rfl⟩
          have hmk : m ≤ k2 := by rw [hm2]; exact dtake_len c x k2
          rw [← hm2] at hown hrow
          have HMM : Hid _ := hm2
          have HE : Hid _ := e1
          clear e1 hcell hbl hm2
          by_cases hyx : y = x
          · have hn1 : (y != x) = false := by rw [hyx]; simp
            have HTK : Hid _ := dtake_no c x k2 y HE.out hyx
            clear hyx
            go_wp2_with fail
            go_roundw
            case rel => exact ⟨k2 + 1, _, by omega, by go_num, hrow, by rw [HTK.out, ← HMM.out]; exact hown, hg⟩
            case measure => simp [intOf]; omega
          · have hn1 : (y != x) = true := by rw [bne_iff_ne]; exact hyx
            have HTK : Hid _ := dtake_yes c x k2 y HE.out hyx
            have HOr : Hid (O < W4.heap.size ∧ W4.heap.size ≤ wr.heap.size) := ⟨HG4.out.2, hg.out.size⟩
            have c11 := hrow.out.cell 11 rfl
            clear hyx
            go_wp2_with (at_builtin; refine wpList_append_own _ rfl _ _ 23 rfl W4.heap.size 3 i0 (.int .i64 0) 1 8 Try.underlying23 hi hz0 hz1 hz2 rfl (by decide) _ _ _ rfl (hown.alloc _) ⟨wr.heap.size, 0, none⟩ 1 1 [.int .i64 y] rfl rfl (g_cell1 _ _ _ _ rfl) (by simp [Value.oneCell']) ?c1 ?c2 ?c3 ?_)
            case c1 => unfold maxLen; omega
            case c2 => omega
            case c3 => have := HOr.out; simp; omega
            intro v3 w3 hown3 hg3 _
            have nbk : ∀ q, (Value.slice sad m scap).ownBlock = some q → W4.heap.size ≤ q := fun q e => (hown.lt q e).1
            have HR3 : Hid (LRow w3 O (dropP c ((k : Int) + 1) now (.slice sad m scap))) := row_grown (hrow.out.below ((Below.refl wr.heap.size wr).alloc (Nat.le_refl _) _) (by have := HOr.out; omega)) hg3 (by have := HOr.out; simp; omega) (fun e => by have := nbk O e.symm; have := HOr.out; omega)
            have HGG : Hid (W4.grownBy w3 (some O)) := g_grown (g_below hg.out ((Below.refl wr.heap.size wr).alloc (Nat.le_refl _) _)) hg3 nbk
            obtain ⟨sad3, scap3, rfl⟩ := g_slice hown3
            have c11' := HR3.out.cell 11 rfl
            have f11' := HR3.out.frozen 11 rfl
            have HR4 : Hid (LRow (w3.setCell ⟨O, 11, none⟩ (.slice sad3 (m + 1) scap3)) O (dropP c ((k : Int) + 1) now (.slice sad3 (m + 1) scap3))) := HR3.out.set 11 _
            have HG5 : Hid (W4.grownBy (w3.setCell ⟨O, 11, none⟩ (.slice sad3 (m + 1) scap3)) (some O)) := g_set HGG.out 11 _
            have HOW : Hid ((w3.setCell ⟨O, 11, none⟩ (.slice sad3 (m + 1) scap3)).ownsRow W4.heap.size 3 1 (.slice sad3 (m + 1) scap3) (m + 1) ((dtake c x k2).flatMap intF ++ [.int .i64 y])) := own_set' hown3 HOr.out.1
            clear c11 hown3 hg3 hown HR3 HGG hrow hg c0
            go_wp2_with fail
            go_roundw
            case rel =>
              refine ⟨k2 + 1, .slice sad3 (m + 1) scap3, by omega, by go_num, HR4, ?_, HG5⟩
              rw [HTK.out, List.length_append, List.flatMap_append, ← HMM.out]
              exact HOW.out
            case measure => simp [intOf]; omega
        · have hkn : k2 = n := by omega
          subst hkn
          have hall : dtake c x k2 = (dropC c ((k : Int) + 1) x now).vs := dtake_all c x k2 (by rw [← HN.out]; exact Nat.le_refl _)
          rw [hall] at hown hrow
          have HOWN : Hid _ := hown
          have HROW : Hid (LRow wr O (cnL (dropC c ((k : Int) + 1) x now) (.slice sad (dropC c ((k : Int) + 1) x now).vs.length scap))) := by rw [← dropP_end]; exact hrow.out
          have HOr : Hid _ := row_grown HO4.out hg.out (by have := HOB.out; have := HG4.out.2; omega) (fun e => by injection e with e; have := HOB.out; omega)
          have HBr : Hid (Below w.heap.size w wr) := HG4.out.1.grown hg.out HG4.out.1.size (fun q e => by injection e with e; have := HOB.out; omega)
          obtain ⟨nb, hnb⟩ : ∃ n, n = (dropC c ((k : Int) + 1) x now).vs.length := ⟨_, rfl⟩
          rw [← hnb] at HOWN HROW
          have HNB : Hid _ := hnb
          have h6 : Hid (w.heap.size + 1 < W4.heap.size ∧ w.heap.size ≤ W4.heap.size) := by have := HOB.out; have := HG4.out.2; exact ⟨by omega, by omega⟩
          clear hown hrow hall hg hlt hk hnb
          have q0 := HROW.out.cell 0 rfl
          have q1 := HROW.out.cell 1 rfl
          have q2 := HROW.out.cell 2 rfl
          have q3 := HROW.out.cell 3 rfl
          have q4 := HROW.out.cell 4 rfl
          have q5 := HROW.out.cell 5 rfl
          have q6 := HROW.out.cell 6 rfl
          have q7 := HROW.out.cell 7 rfl
          have q8 := HROW.out.cell 8 rfl
          have q9 := HROW.out.cell 9 rfl
          have q10 := HROW.out.cell 10 rfl
          have q11 := HROW.out.cell 11 rfl
          have o0 := HOr.out.cell 0 rfl
          have o1 := HOr.out.cell 1 rfl
          have o2 := HOr.out.cell 2 rfl
          have o3 := HOr.out.cell 3 rfl
          have o4 := HOr.out.cell 4 rfl
          have o5 := HOr.out.cell 5 rfl
          have o6 := HOr.out.cell 6 rfl
          have o7 := HOr.out.cell 7 rfl
          have o8 := HOr.out.cell 8 rfl
          have o9 := HOr.out.cell 9 rfl
          have o10 := HOr.out.cell 10 rfl
          have o11 := HOr.out.cell 11 rfl
          have f0 := HOr.out.frozen 0 rfl
          have f1 := HOr.out.frozen 1 rfl
          have f2 := HOr.out.frozen 2 rfl
          have f3 := HOr.out.frozen 3 rfl
          have f4 := HOr.out.frozen 4 rfl
          have f5 := HOr.out.frozen 5 rfl
          have f6 := HOr.out.frozen 6 rfl
          have f7 := HOr.out.frozen 7 rfl
          have f8 := HOr.out.frozen 8 rfl
          have f9 := HOr.out.frozen 9 rfl
          have f10 := HOr.out.frozen 10 rfl
          have f11 := HOr.out.frozen 11 rfl
          go_wp2_with fail
          generalize hW2 : World.setCell _ _ _ = W2
          have HP : Hid (LRow W2 (w.heap.size + 1) (cnL (dropC c ((k : Int) + 1) x now) (.slice sad nb scap))) := by
            rw [← hW2]
            exact (((((((((((HOr.out.set 0 _).set 1 _).set 2 _).set 3 _).set 4 _).set 5 _).set 6 _).set 7 _).set 8 _).set 9 _).set 10 _).set 11 _
          have HB2 : Hid (Below w.heap.size w W2) := by
            rw [← hW2]
            iterate 12 refine Below.setCell ?_ (show w.heap.size ≤ w.heap.size + 1 by omega) _
            exact HBr.out
          have HOW2 : Hid (W2.ownsRow w.heap.size 3 1 (.slice sad nb scap) nb ((dropC c ((k : Int) + 1) x now).vs.flatMap intF)) := by
            have hX : W2.ownsRow W4.heap.size 3 1 (.slice sad nb scap) nb ((dropC c ((k : Int) + 1) x now).vs.flatMap intF) := by
              rw [← hW2]
              iterate 12 refine own_set' ?_ h6.out.1
              exact HOWN.out
            exact g_lower hX h6.out.2
          clear hW2 q0 o0 f0 q1 o1 f1 q2 o2 f2 q3 o3 f3 q4 o4 f4 q5 o5 f5 q6 o6 f6 q7 o7 f7 q8 o8 f8 q9 o9 f9 q10 o10 f10 q11 o11 f11
          have p0 := HP.out.cell 0 rfl
          have p1 := HP.out.cell 1 rfl
          have p2 := HP.out.cell 2 rfl
          have p3 := HP.out.cell 3 rfl
          have p4 := HP.out.cell 4 rfl
          have p5 := HP.out.cell 5 rfl
          have p6 := HP.out.cell 6 rfl
          have p7 := HP.out.cell 7 rfl
          have p8 := HP.out.cell 8 rfl
          have p9 := HP.out.cell 9 rfl
          have p10 := HP.out.cell 10 rfl
          have p11 := HP.out.cell 11 rfl
          exact bodyPost_ret (v := .tuple #[.agg (cnL (dropC c ((k : Int) + 1) x now) (.slice sad nb scap)).toArray, .int .i64 0]) (by simp [results, Try.results9, go_sem, dropC, cnL, p0, p1, p2, p3, p4, p5, p6, p7, p8, p9, p10, p11]) rfl ⟨.slice sad nb scap, by rw [HR.out, HZ0.out], by rw [HR.out, ← HNB.out]; exact HOW2.out, HB2.out⟩

  · have hne : (ck != 0) = true := by rw [bne_iff_ne]; exact hck
    have HZ2 : Hid (z = ck) := by show _ = _; rw [HZ.out, HCKD.out]; unfold dropE; rw [if_neg (by rw [← HCKD.out]; exact hck)]
    have HR : Hid (dropR c p x now = c0) := by show _ = _; unfold dropR; rw [if_neg (by rw [← HZ.out, HZ2.out]; exact hck)]
    clear hck
    have o0 := HO1.out.cell 0 rfl
    have o1 := HO1.out.cell 1 rfl
    have o2 := HO1.out.cell 2 rfl
    have o3 := HO1.out.cell 3 rfl
    have o4 := HO1.out.cell 4 rfl
    have o5 := HO1.out.cell 5 rfl
    have o6 := HO1.out.cell 6 rfl
    have o7 := HO1.out.cell 7 rfl
    have o8 := HO1.out.cell 8 rfl
    have o9 := HO1.out.cell 9 rfl
    have o10 := HO1.out.cell 10 rfl
    have o11 := HO1.out.cell 11 rfl
    have f0 := HO1.out.frozen 0 rfl
    have f1 := HO1.out.frozen 1 rfl
    have f2 := HO1.out.frozen 2 rfl
    have f3 := HO1.out.frozen 3 rfl
    have f4 := HO1.out.frozen 4 rfl
    have f5 := HO1.out.frozen 5 rfl
    have f6 := HO1.out.frozen 6 rfl
    have f7 := HO1.out.frozen 7 rfl
    have f8 := HO1.out.frozen 8 rfl
    have f9 := HO1.out.frozen 9 rfl
    have f10 := HO1.out.frozen 10 rfl
    have f11 := HO1.out.frozen 11 rfl
    go_wp2_with fail
    generalize hW2 : World.setCell _ _ _ = W2
    have HP : Hid (LRow W2 (w.heap.size + 1) (cnL c0 (.slice none 0 0))) := by
      rw [← hW2]
      exact (((((((((((HO1.out.set 0 _).set 1 _).set 2 _).set 3 _).set 4 _).set 5 _).set 6 _).set 7 _).set 8 _).set 9 _).set 10 _).set 11 _
    have HB2 : Hid (Below w.heap.size w W2) := by
      rw [← hW2]
      iterate 12 refine Below.setCell ?_ (show w.heap.size ≤ w.heap.size + 1 by omega) _
      exact HB1.out
    clear hW2 o0 f0 o1 f1 o2 f2 o3 f3 o4 f4 o5 f5 o6 f6 o7 f7 o8 f8 o9 f9 o10 f10 o11 f11
    have p0 := HP.out.cell 0 rfl
    have p1 := HP.out.cell 1 rfl
    have p2 := HP.out.cell 2 rfl
    have p3 := HP.out.cell 3 rfl
    have p4 := HP.out.cell 4 rfl
    have p5 := HP.out.cell 5 rfl
    have p6 := HP.out.cell 6 rfl
    have p7 := HP.out.cell 7 rfl
    have p8 := HP.out.cell 8 rfl
    have p9 := HP.out.cell 9 rfl
    have p10 := HP.out.cell 10 rfl
    have p11 := HP.out.cell 11 rfl
    exact bodyPost_ret (v := .tuple #[.agg #[.int .i64 0, .bool false, .bool false, .bool false, .bool false, .bool false, .bool false, .bool false, .bool false, .bool false, .bool false, .slice none 0 0], .int .i64 ck]) (by simp [results, Try.results9, go_sem, c0, p0, p1, p2, p3, p4, p5, p6, p7, p8, p9, p10, p11]) rfl ⟨.slice none 0 0, by rw [HR.out, HZ2.out]; rfl, by rw [HR.out]; exact World.ownsRow_nil _ _ _ _, HB2.out⟩

end Go.Proofs.Ytklpfbakjiaaoaa
