/- The document's own answer: what both have. -/
import Derived.Test.YtklpfbakjiaaoaaRefD
namespace Go.Proofs.Ytklpfbakjiaaoaa
open Go.RowKit
set_option linter.all false
set_option maxRecDepth 100000

theorem rowSetR {W : World} {B O k : Nat} {l : List Value} {x : Value} (h : LRow W B l) (hne : B ≠ O) : LRow (W.setCell ⟨O, k, none⟩ x) B l :=
  ⟨fun j v hj => ⟨by rw [World.cell?_setCell_other _ _ _ _ (by intro e; injection e with e1 _; exact hne e1.symm)]; exact (h.all j v hj).1, by rw [World.frozen?_setCell]; exact (h.all j v hj).2⟩⟩
theorem rise_ext (l q : List Int) (hl : l.Pairwise (· < ·)) (hq : q.Pairwise (· < ·)) (h : ∀ x, x ∈ l ↔ x ∈ q) : l = q := by
  induction l generalizing q with
  | nil =>
    cases q with
    | nil => rfl
    | cons y q => exact absurd ((h y).2 (by simp)) (by simp)
  | cons x l ih =>
    cases q with
    | nil => exact absurd ((h x).1 (by simp)) (by simp)
    | cons y q =>
      cases hl with
      | cons h1 h2 =>
        cases hq with
        | cons h3 h4 =>
          have hxy : x = y := by
            rcases List.mem_cons.1 ((h x).1 (by simp)) with e | e
            · exact e
            · rcases List.mem_cons.1 ((h y).2 (by simp)) with e2 | e2
              · exact e2.symm
              · have := h3 x e
                have := h1 y e2
                omega
          subst hxy
          rw [ih q h2 h4 (fun z => by
            have k := h z
            rw [List.mem_cons, List.mem_cons] at k
            constructor
            · intro hz
              rcases k.1 (.inr hz) with e | e
              · have := h1 z hz; omega
              · exact e
            · intro hz
              rcases k.2 (.inr hz) with e | e
              · have := h3 z hz; omega
              · exact e)]
def mAcc (a b : Cn) (k : Nat) : List Int := (a.vs.take k).filter fun v => b.vs.contains v
theorem mAcc_len (a b : Cn) (k : Nat) : (mAcc a b k).length ≤ k := by
  unfold mAcc
  have h1 := List.length_filter_le (fun v => b.vs.contains v) (a.vs.take k)
  have h2 : (a.vs.take k).length ≤ k := by rw [List.length_take]; omega
  omega
theorem mAcc_yes (a b : Cn) (k : Nat) (y : Int) (h : a.vs[k]? = some y) (hn : b.vs.contains y = true) : mAcc a b (k + 1) = mAcc a b k ++ [y] := by
  unfold mAcc
  rw [List.take_succ, h, List.filter_append, show (some y).toList = [y] from rfl, List.filter_cons_of_pos (by exact hn), List.filter_nil]
theorem mAcc_no (a b : Cn) (k : Nat) (y : Int) (h : a.vs[k]? = some y) (hn : b.vs.contains y = false) : mAcc a b (k + 1) = mAcc a b k := by
  unfold mAcc
  rw [List.take_succ, h, List.filter_append, show (some y).toList = [y] from rfl, List.filter_cons_of_neg (by rw [hn]; decide), List.filter_nil, List.append_nil]
theorem mAcc_all {a b : Cn} (h : chC a = 0) (k : Nat) (hk : k = a.vs.length) : mAcc a b k = (bothC (fun x y => x && y) a b).vs := by
  obtain ⟨_, h2, h3⟩ := chC_ok a h
  unfold mAcc
  rw [hk, List.take_of_length_le (Nat.le_refl _)]
  show _ = bothV (fun x y => x && y) a b
  unfold bothV
  refine rise_ext _ _ (h3.filter _) (all40_rise.filter _) fun x => ?_
  rw [List.mem_filter, List.mem_filter, mem_all40]
  constructor
  · rintro ⟨h4, h5⟩
    refine ⟨h2 x h4, ?_⟩
    show (a.vs.contains x && b.vs.contains x) = true
    rw [List.contains_iff_mem.2 h4, h5]; rfl
  · rintro ⟨_, h5⟩
    have h5 : (a.vs.contains x && b.vs.contains x) = true := h5
    rw [Bool.and_eq_true] at h5
    exact ⟨List.contains_iff_mem.1 h5.1, h5.2⟩
set_option maxHeartbeats 64000000 in
theorem meetOf_any (a b : Cn) (va vb : Value) (w : World) (ra : Rows w va intF a.vs) (rb : Rows w vb intF b.vs) (ma : a.vs.length ≤ 140737488351232) (mb : b.vs.length ≤ 140737488351232) :
    Calls Try.prog 10 #[.agg #[.int .i64 a.g, .bool a.b0, .bool a.b1, .bool a.b2, .bool a.b3, .bool a.b4, .bool a.b5, .bool a.b6, .bool a.b7, .bool a.b8, .bool a.b9, va], .agg #[.int .i64 b.g, .bool b.b0, .bool b.b1, .bool b.b2, .bool b.b3, .bool b.b4, .bool b.b5, .bool b.b6, .bool b.b7, .bool b.b8, .bool b.b9, vb]] w fun e w' => ∃ v', e = .returned (.tuple #[.agg (cnL (bothR (fun x y => x && y) a b) v').toArray, .int .i64 (bothE a b)]) ∧ Rows w' v' intF (bothR (fun x y => x && y) a b).vs ∧ Below w.heap.size w w' := by
  obtain ⟨ad, cap, rfl⟩ := ra.shape
  obtain ⟨d, hd⟩ : ∃ d, d = bothR (fun x y => x && y) a b := ⟨_, rfl⟩
  obtain ⟨z, hz⟩ : ∃ z, z = bothE a b := ⟨_, rfl⟩
  rw [← hd, ← hz]
  obtain ⟨ca, hca⟩ : ∃ y, y = chC a := ⟨_, rfl⟩
  obtain ⟨cb, hcb⟩ : ∃ y, y = chC b := ⟨_, rfl⟩
  obtain ⟨rc, hrc⟩ : ∃ r, r = bothC (fun x y => x && y) a b := ⟨_, rfl⟩
  have HRC : Hid _ := hrc
  obtain ⟨n, hn⟩ : ∃ n, n = a.vs.length := ⟨_, rfl⟩
  have HN : Hid _ := hn
  have HDR : Hid (¬ z = 0 → d = c0) := fun h => by rw [hz] at h; rw [hd]; unfold bothR; rw [if_neg h]
  have HDC : Hid (z = 0 → d = rc) := fun h => by rw [hz] at h; rw [hd, hrc]; unfold bothR; rw [if_pos h]
  have HZ : Hid (z = if ca = 0 then cb else ca) := by show _ = _; rw [hz, hca, hcb]; rfl
  have HCA : Hid (ca = chC a) := hca
  rw [← hn] at ma ra ⊢
  have ra2 : Rows w (.slice ad n cap) intF a.vs := by rw [hn] at ra ⊢; exact ra
  have HRA : Hid (∀ w', Below w.heap.size w w' → Rows w' (.slice ad n cap) intF a.vs) := fun w' h => Rows.below ra2 h (Nat.le_refl _)
  have HRB : Hid (∀ w', Below w.heap.size w w' → Rows w' vb intF b.vs) := fun w' h => Rows.below rb h (Nat.le_refl _)
  have KCA : Hid (∀ w', Rows w' (.slice ad n cap) intF a.vs → Calls Try.prog 23 #[.agg #[.int .i64 a.g, .bool a.b0, .bool a.b1, .bool a.b2, .bool a.b3, .bool a.b4, .bool a.b5, .bool a.b6, .bool a.b7, .bool a.b8, .bool a.b9, (.slice ad n cap)]] w' fun e w'' => e = .returned (.int .i64 ca) ∧ Below w'.heap.size w' w'') := fun w' h => by rw [hca]; exact cCheck_any a _ w' h (by rw [← hn]; unfold maxLen; omega)
  have KCB : Hid (∀ w', Rows w' vb intF b.vs → Calls Try.prog 23 #[.agg #[.int .i64 b.g, .bool b.b0, .bool b.b1, .bool b.b2, .bool b.b3, .bool b.b4, .bool b.b5, .bool b.b6, .bool b.b7, .bool b.b8, .bool b.b9, vb]] w' fun e w'' => e = .returned (.int .i64 cb) ∧ Below w'.heap.size w' w'') := fun w' h => by rw [hcb]; exact cCheck_any b _ w' h (by unfold maxLen; omega)
  have KH : Hid (∀ (x : Int) (w' : World), Rows w' vb intF b.vs → Calls Try.prog 24 #[vb, .int .i64 x] w' fun e w'' => e = .returned (.bool (b.vs.contains x)) ∧ w'' = w') := fun x w' h => hasV_any vb b.vs x w' h (by unfold maxLen; omega)
  obtain ⟨W0, hW0⟩ : ∃ W0, W0 = (((w.alloc (.cells #[.int .i64 a.g, .bool a.b0, .bool a.b1, .bool a.b2, .bool a.b3, .bool a.b4, .bool a.b5, .bool a.b6, .bool a.b7, .bool a.b8, .bool a.b9, (.slice ad n cap)] 25)).alloc (.cells #[.int .i64 b.g, .bool b.b0, .bool b.b1, .bool b.b2, .bool b.b3, .bool b.b4, .bool b.b5, .bool b.b6, .bool b.b7, .bool b.b8, .bool b.b9, vb] 25)).alloc (.cells #[.int .i64 0, .bool false, .bool false, .bool false, .bool false, .bool false, .bool false, .bool false, .bool false, .bool false, .bool false, .slice none 0 0] 25)) := ⟨_, rfl⟩
  have A0 : Hid (CB W0 w.heap.size a (.slice ad n cap)) := by rw [hW0]; exact ((CB.new w a (.slice ad n cap) 25 ra2).below (below_new _ _)).below (below_new _ _)
  have B0 : Hid (CB W0 (w.heap.size + 1) b vb) := by
    rw [hW0]
    have h := CB.new (w.alloc (.cells #[.int .i64 a.g, .bool a.b0, .bool a.b1, .bool a.b2, .bool a.b3, .bool a.b4, .bool a.b5, .bool a.b6, .bool a.b7, .bool a.b8, .bool a.b9, (.slice ad n cap)] 25)) b vb 25 (Rows.below rb (below_new _ _) (Nat.le_refl _))
    rw [show (w.alloc (.cells #[.int .i64 a.g, .bool a.b0, .bool a.b1, .bool a.b2, .bool a.b3, .bool a.b4, .bool a.b5, .bool a.b6, .bool a.b7, .bool a.b8, .bool a.b9, (.slice ad n cap)] 25)).heap.size = w.heap.size + 1 from by simp] at h
    exact h.below (below_new _ _)
  have R0 : Hid (LRow W0 (w.heap.size + 1 + 1) (cnL c0 (.slice none 0 0))) := by
    rw [hW0]
    have h := LRow.new ((w.alloc (.cells #[.int .i64 a.g, .bool a.b0, .bool a.b1, .bool a.b2, .bool a.b3, .bool a.b4, .bool a.b5, .bool a.b6, .bool a.b7, .bool a.b8, .bool a.b9, (.slice ad n cap)] 25)).alloc (.cells #[.int .i64 b.g, .bool b.b0, .bool b.b1, .bool b.b2, .bool b.b3, .bool b.b4, .bool b.b5, .bool b.b6, .bool b.b7, .bool b.b8, .bool b.b9, vb] 25)) (cnL c0 (.slice none 0 0)) 25
    rw [show ((w.alloc (.cells #[.int .i64 a.g, .bool a.b0, .bool a.b1, .bool a.b2, .bool a.b3, .bool a.b4, .bool a.b5, .bool a.b6, .bool a.b7, .bool a.b8, .bool a.b9, (.slice ad n cap)] 25)).alloc (.cells #[.int .i64 b.g, .bool b.b0, .bool b.b1, .bool b.b2, .bool b.b3, .bool b.b4, .bool b.b5, .bool b.b6, .bool b.b7, .bool b.b8, .bool b.b9, vb] 25)).heap.size = w.heap.size + 1 + 1 from by simp] at h
    exact h
  have S0 : Hid (Below w.heap.size w W0) := by rw [hW0]; exact next (next (below_new _ _) (below_new _ _)) (below_new _ _)
  have HW0 : Hid _ := hW0
  clear ra ra2 rb mb hd hz hca hcb hrc hn hW0
  go_enter Try.func10, Try.ntmps10
  go_upto_region 1 with fail
  rw [← HW0.out]
  clear HW0
  have x0 := A0.out.row.cell 0 rfl
  have x1 := A0.out.row.cell 1 rfl
  have x2 := A0.out.row.cell 2 rfl
  have x3 := A0.out.row.cell 3 rfl
  have x4 := A0.out.row.cell 4 rfl
  have x5 := A0.out.row.cell 5 rfl
  have x6 := A0.out.row.cell 6 rfl
  have x7 := A0.out.row.cell 7 rfl
  have x8 := A0.out.row.cell 8 rfl
  have x9 := A0.out.row.cell 9 rfl
  have x10 := A0.out.row.cell 10 rfl
  have x11 := A0.out.row.cell 11 rfl
  go_wp2_with fail
  refine (KCA.out _ (HRA.out _ S0.out)).mono ?_
  rintro e W1 ⟨rfl, hb1⟩
  have A1 : Hid (CB W1 w.heap.size a (.slice ad n cap)) := A0.out.below hb1
  have B1 : Hid (CB W1 (w.heap.size + 1) b vb) := B0.out.below hb1
  have R1 : Hid (LRow W1 (w.heap.size + 1 + 1) (cnL c0 (.slice none 0 0))) := R0.out.below hb1 (cell_in (R0.out.cell 0 rfl))
  have S1 : Hid (Below w.heap.size w W1) := next S0.out hb1
  clear hb1 A0 B0 R0 S0 x0 x1 x2 x3 x4 x5 x6 x7 x8 x9 x10 x11
  by_cases hk0 : ca = 0
  rotate_left
  · have q1 : (ca == 0) = false := by rw [beq_eq_false_iff_ne]; exact hk0
    have q2 : (ca != 0) = true := by rw [bne_iff_ne]; exact hk0
    have HZK : Hid (z = ca) := by show _ = _; rw [HZ.out, if_neg hk0]
    have HDK : Hid (d = c0) := HDR.out (by rw [HZK.out]; exact hk0)
    clear hk0
    have o0 := R1.out.cell 0 rfl
    have f0 := R1.out.frozen 0 rfl
    have o1 := R1.out.cell 1 rfl
    have f1 := R1.out.frozen 1 rfl
    have o2 := R1.out.cell 2 rfl
    have f2 := R1.out.frozen 2 rfl
    have o3 := R1.out.cell 3 rfl
    have f3 := R1.out.frozen 3 rfl
    have o4 := R1.out.cell 4 rfl
    have f4 := R1.out.frozen 4 rfl
    have o5 := R1.out.cell 5 rfl
    have f5 := R1.out.frozen 5 rfl
    have o6 := R1.out.cell 6 rfl
    have f6 := R1.out.frozen 6 rfl
    have o7 := R1.out.cell 7 rfl
    have f7 := R1.out.frozen 7 rfl
    have o8 := R1.out.cell 8 rfl
    have f8 := R1.out.frozen 8 rfl
    have o9 := R1.out.cell 9 rfl
    have f9 := R1.out.frozen 9 rfl
    have o10 := R1.out.cell 10 rfl
    have f10 := R1.out.frozen 10 rfl
    have o11 := R1.out.cell 11 rfl
    have f11 := R1.out.frozen 11 rfl
    go_wp2_with fail
    generalize hW2 : World.setCell _ _ _ = W2
    have HP : Hid (LRow W2 (w.heap.size + 1 + 1) (cnL c0 (.slice none 0 0))) := by
      rw [← hW2]
      exact (((((((((((R1.out.set 0 _).set 1 _).set 2 _).set 3 _).set 4 _).set 5 _).set 6 _).set 7 _).set 8 _).set 9 _).set 10 _).set 11 _
    have HB2 : Hid (Below w.heap.size w W2) := by
      rw [← hW2]
      iterate 12 refine Below.setCell ?_ (show w.heap.size ≤ (w.heap.size + 1 + 1) by omega) _
      exact S1.out
    clear hW2 o0 f0 o1 f1 o2 f2 o3 f3 o4 f4 o5 f5 o6 f6 o7 f7 o8 f8 o9 f9 o10 f10 o11 f11
    have p0 := HP.out.cell 0 rfl
    have p1 := HP.out.cell 1 rfl
    have p2 := HP.out.cell 2 rfl
    have p3 := HP.out.cell 3 rfl
    have p4 := HP.out.cell 4 rfl
    have p5 := HP.out.cell 5 rfl
    have p6 := HP.out.cell 6 rfl
    have p7 := HP.out.cell 7 rfl
    have p8 := HP.out.cell 8 rfl
    have p9 := HP.out.cell 9 rfl
    have p10 := HP.out.cell 10 rfl
    have p11 := HP.out.cell 11 rfl
    exact bodyPost_ret (v := .tuple #[.agg #[.int .i64 0, .bool false, .bool false, .bool false, .bool false, .bool false, .bool false, .bool false, .bool false, .bool false, .bool false, .slice none 0 0], .int .i64 ca]) (by simp [results, Try.results10, go_sem, cnL, c0, p0, p1, p2, p3, p4, p5, p6, p7, p8, p9, p10, p11]) rfl ⟨_, by rw [HDK.out, HZK.out]; rfl, by rw [HDK.out]; exact ⟨none, 0, rfl, .inl rfl⟩, HB2.out⟩
  have q1 : (ca == 0) = true := by rw [hk0]; rfl
  have HZ1 : Hid (z = cb) := by show _ = _; rw [HZ.out, if_pos hk0]
  have HCH : Hid (chC a = 0) := by show _ = _; rw [← HCA.out]; exact hk0
  clear hk0
  have x0 := B1.out.row.cell 0 rfl
  have x1 := B1.out.row.cell 1 rfl
  have x2 := B1.out.row.cell 2 rfl
  have x3 := B1.out.row.cell 3 rfl
  have x4 := B1.out.row.cell 4 rfl
  have x5 := B1.out.row.cell 5 rfl
  have x6 := B1.out.row.cell 6 rfl
  have x7 := B1.out.row.cell 7 rfl
  have x8 := B1.out.row.cell 8 rfl
  have x9 := B1.out.row.cell 9 rfl
  have x10 := B1.out.row.cell 10 rfl
  have x11 := B1.out.row.cell 11 rfl
  go_wp2_with fail
  refine (KCB.out _ (HRB.out _ S1.out)).mono ?_
  rintro e W2 ⟨rfl, hb2⟩
  have A2 : Hid (CB W2 w.heap.size a (.slice ad n cap)) := A1.out.below hb2
  have B2 : Hid (CB W2 (w.heap.size + 1) b vb) := B1.out.below hb2
  have R2 : Hid (LRow W2 (w.heap.size + 1 + 1) (cnL c0 (.slice none 0 0))) := R1.out.below hb2 (cell_in (R1.out.cell 0 rfl))
  have S2 : Hid (Below w.heap.size w W2) := next S1.out hb2
  clear hb2 A1 B1 R1 S1 x0 x1 x2 x3 x4 x5 x6 x7 x8 x9 x10 x11
  by_cases hk1 : cb = 0
  rotate_left
  · have q2 : (cb != 0) = true := by rw [bne_iff_ne]; exact hk1
    have HZK : Hid (z = cb) := HZ1
    have HDK : Hid (d = c0) := HDR.out (by rw [HZK.out]; exact hk1)
    clear hk1
    have o0 := R2.out.cell 0 rfl
    have f0 := R2.out.frozen 0 rfl
    have o1 := R2.out.cell 1 rfl
    have f1 := R2.out.frozen 1 rfl
    have o2 := R2.out.cell 2 rfl
    have f2 := R2.out.frozen 2 rfl
    have o3 := R2.out.cell 3 rfl
    have f3 := R2.out.frozen 3 rfl
    have o4 := R2.out.cell 4 rfl
    have f4 := R2.out.frozen 4 rfl
    have o5 := R2.out.cell 5 rfl
    have f5 := R2.out.frozen 5 rfl
    have o6 := R2.out.cell 6 rfl
    have f6 := R2.out.frozen 6 rfl
    have o7 := R2.out.cell 7 rfl
    have f7 := R2.out.frozen 7 rfl
    have o8 := R2.out.cell 8 rfl
    have f8 := R2.out.frozen 8 rfl
    have o9 := R2.out.cell 9 rfl
    have f9 := R2.out.frozen 9 rfl
    have o10 := R2.out.cell 10 rfl
    have f10 := R2.out.frozen 10 rfl
    have o11 := R2.out.cell 11 rfl
    have f11 := R2.out.frozen 11 rfl
    go_wp2_with fail
    generalize hW2 : World.setCell _ _ _ = W2
    have HP : Hid (LRow W2 (w.heap.size + 1 + 1) (cnL c0 (.slice none 0 0))) := by
      rw [← hW2]
      exact (((((((((((R2.out.set 0 _).set 1 _).set 2 _).set 3 _).set 4 _).set 5 _).set 6 _).set 7 _).set 8 _).set 9 _).set 10 _).set 11 _
    have HB2 : Hid (Below w.heap.size w W2) := by
      rw [← hW2]
      iterate 12 refine Below.setCell ?_ (show w.heap.size ≤ (w.heap.size + 1 + 1) by omega) _
      exact S2.out
    clear hW2 o0 f0 o1 f1 o2 f2 o3 f3 o4 f4 o5 f5 o6 f6 o7 f7 o8 f8 o9 f9 o10 f10 o11 f11
    have p0 := HP.out.cell 0 rfl
    have p1 := HP.out.cell 1 rfl
    have p2 := HP.out.cell 2 rfl
    have p3 := HP.out.cell 3 rfl
    have p4 := HP.out.cell 4 rfl
    have p5 := HP.out.cell 5 rfl
    have p6 := HP.out.cell 6 rfl
    have p7 := HP.out.cell 7 rfl
    have p8 := HP.out.cell 8 rfl
    have p9 := HP.out.cell 9 rfl
    have p10 := HP.out.cell 10 rfl
    have p11 := HP.out.cell 11 rfl
    exact bodyPost_ret (v := .tuple #[.agg #[.int .i64 0, .bool false, .bool false, .bool false, .bool false, .bool false, .bool false, .bool false, .bool false, .bool false, .bool false, .slice none 0 0], .int .i64 cb]) (by simp [results, Try.results10, go_sem, cnL, c0, p0, p1, p2, p3, p4, p5, p6, p7, p8, p9, p10, p11]) rfl ⟨_, by rw [HDK.out, HZK.out]; rfl, by rw [HDK.out]; exact ⟨none, 0, rfl, .inl rfl⟩, HB2.out⟩
  have q2 : (cb != 0) = false := by rw [hk1]; rfl
  have HZ0 : Hid (z = 0) := by show _ = _; rw [HZ1.out]; exact hk1
  have HD0 : Hid (d = rc) := HDC.out HZ0.out
  have AA : Hid (CB W2 w.heap.size a (.slice ad n cap)) := A2
  clear hk1 HZ HZ1 HDR HDC
  obtain ⟨O, hO⟩ : ∃ O, O = W2.heap.size := ⟨_, rfl⟩
  obtain ⟨W3, hW3⟩ : ∃ W, W = W2.alloc (.cells #[.int .i64 a.g, .bool a.b0, .bool a.b1, .bool a.b2, .bool a.b3, .bool a.b4, .bool a.b5, .bool a.b6, .bool a.b7, .bool a.b8, .bool a.b9, (.slice ad n cap)] 25) := ⟨_, rfl⟩
  obtain ⟨G, hG⟩ : ∃ G, G = max a.g b.g := ⟨_, rfl⟩
  obtain ⟨old, hold⟩ : ∃ f : Nat → Bool, f = fun (j : Nat) => a.ps[j]?.getD false := ⟨_, rfl⟩
  obtain ⟨nw, hnw⟩ : ∃ f : Nat → Bool, f = fun (j : Nat) => a.ps[j]?.getD false && b.ps[j]?.getD false := ⟨_, rfl⟩
  have l3 : LRow W3 O (rowN a.g old nw 0 (.slice ad n cap)) := by rw [hW3, hO, hold]; exact LRow.new W2 (rowN a.g (fun (j : Nat) => a.ps[j]?.getD false) nw 0 (.slice ad n cap)) 25
  have S23 : Below W2.heap.size W2 W3 := by rw [hW3]; exact below_new _ _
  have A3 : Hid (LRow W3 w.heap.size (cnL a (.slice ad n cap))) := (A2.out.below S23).row
  have B3 : Hid (LRow W3 (w.heap.size + 1) (cnL b vb)) := (B2.out.below S23).row
  have RR3 : Hid (LRow W3 (w.heap.size + 1 + 1) (cnL c0 (.slice none 0 0))) := R2.out.below S23 (cell_in (R2.out.cell 0 rfl))
  have S3 : Hid (Below w.heap.size w W3) := next S2.out S23
  have HOL : Hid ((w.heap.size + 1 + 1) < O) := by show _ < _; rw [hO]; exact cell_in (R2.out.cell 0 rfl)
  have HNW : Hid (∀ k, nw k = (a.ps[k]?.getD false && b.ps[k]?.getD false)) := fun k => by rw [hnw]
  have HEND : Hid (∀ vv, rowN G old nw 10 vv = cnL rc vv) := fun vv => by rw [HRC.out, hnw, hG]; rfl
  have HGG : Hid (G = max a.g b.g) := hG
  have L3 : Hid (LRow W3 O (rowN a.g old nw 0 (.slice ad n cap))) := l3
  have HW3 : Hid _ := hW3
  have HOE : Hid _ := hO
  clear hW3 hO hold hnw hG S23 A2 B2 R2 S2 l3
  have x0 := AA.out.row.cell 0 rfl
  have x1 := AA.out.row.cell 1 rfl
  have x2 := AA.out.row.cell 2 rfl
  have x3 := AA.out.row.cell 3 rfl
  have x4 := AA.out.row.cell 4 rfl
  have x5 := AA.out.row.cell 5 rfl
  have x6 := AA.out.row.cell 6 rfl
  have x7 := AA.out.row.cell 7 rfl
  have x8 := AA.out.row.cell 8 rfl
  have x9 := AA.out.row.cell 9 rfl
  have x10 := AA.out.row.cell 10 rfl
  have x11 := AA.out.row.cell 11 rfl
  go_upto_region 7 with fail
  rw [← HW3.out, ← HOE.out]
  clear HW3 HOE AA x0 x1 x2 x3 x4 x5 x6 x7 x8 x9 x10 x11
  have a0 := A3.out.cell 0 rfl
  have b0 := B3.out.cell 0 rfl
  by_cases hgt : a.g < b.g
  · skip
    obtain ⟨W4, hW4⟩ : ∃ W, W = W3.setCell ⟨O, 0, none⟩ (.int .i64 b.g) := ⟨_, rfl⟩
    have HG : Hid (G = b.g) := by show _ = _; rw [HGG.out]; omega
    have g0 := L3.out.cell 0 rfl
    have gf := L3.out.frozen 0 rfl
    have L4 : Hid (LRow W4 O (rowN G old nw 0 (.slice ad n cap))) := by rw [hW4, HG.out]; exact L3.out.set 0 _
    have A4 : Hid (LRow W4 w.heap.size (cnL a (.slice ad n cap))) := by rw [hW4]; exact rowSetR A3.out (by have := HOL.out; omega)
    have B4 : Hid (LRow W4 (w.heap.size + 1) (cnL b vb)) := by rw [hW4]; exact rowSetR B3.out (by have := HOL.out; omega)
    have RR4 : Hid (LRow W4 (w.heap.size + 1 + 1) (cnL c0 (.slice none 0 0))) := by rw [hW4]; exact rowSetR RR3.out (by have := HOL.out; omega)
    have S4 : Hid (Below w.heap.size w W4) := by rw [hW4]; exact S3.out.setCell (p := ⟨O, 0, none⟩) (show w.heap.size ≤ O by have := HOL.out; omega) _
    have HW4 : Hid _ := hW4
    clear hW4
    go_upto_region 9 with fail
    rw [← HW4.out]
    clear HW4 g0 gf a0 b0
    have g11 := L4.out.cell 11 (rowN_v _ _ _ _ _)
    have gf11 := L4.out.frozen 11 (rowN_v _ _ _ _ _)
    obtain ⟨W5, hW5⟩ : ∃ W, W = W4.setCell ⟨O, 11, none⟩ (.slice none 0 0) := ⟨_, rfl⟩
    have R5 : Hid (LRow W5 O (rowN G old nw 0 (.slice none 0 0))) := by rw [hW5]; exact L4.out.set 11 _
    have A5 : Hid (LRow W5 w.heap.size (cnL a (.slice ad n cap))) := by rw [hW5]; exact rowSetR A4.out (by have := HOL.out; omega)
    have B5 : Hid (LRow W5 (w.heap.size + 1) (cnL b vb)) := by rw [hW5]; exact rowSetR B4.out (by have := HOL.out; omega)
    have RR5 : Hid (LRow W5 (w.heap.size + 1 + 1) (cnL c0 (.slice none 0 0))) := by rw [hW5]; exact rowSetR RR4.out (by have := HOL.out; omega)
    have S5 : Hid (Below w.heap.size w W5) := by rw [hW5]; exact S4.out.setCell (p := ⟨O, 11, none⟩) (show w.heap.size ≤ O by have := HOL.out; omega) _
    have HW5 : Hid _ := hW5
    clear hW5
    go_upto_region 10 with fail
    rw [← HW5.out]
    clear HW5 g11 gf11 A3 B3 RR3 S3 L3 A4 B4 RR4 S4 L4 HG HGG hgt
    go_wp2_with fail
    go_loopw [8] (fun i wr => ∃ k : Nat, k ≤ 10 ∧ i = .int .i64 k ∧ Hid (LRow wr O (rowN G old nw k (.slice none 0 0))) ∧ Hid (Below O W5 wr)) (fun i _ => 10 - (intOf i).toNat)
    case atStart => exact ⟨0, Nat.zero_le _, rfl, R5, Below.refl _ _⟩
    case round =>
      obtain ⟨k, hk, rfl, hrow, hb⟩ := hrel
      have AR : Hid (LRow wr w.heap.size (cnL a (.slice ad n cap))) := A5.out.below hb.out (by have := HOL.out; omega)
      have BR : Hid (LRow wr (w.heap.size + 1) (cnL b vb)) := B5.out.below hb.out (by have := HOL.out; omega)
      by_cases hlt : k < 10
      · obtain ⟨x, hbb⟩ : ∃ b, b = a.ps[k]?.getD false := ⟨_, rfl⟩
        obtain ⟨y, hyy⟩ : ∃ y, y = b.ps[k]?.getD false := ⟨_, rfl⟩
        have cx : wr.cell? ⟨w.heap.size, 1 + k, none⟩ = some (.bool x) := by rw [hbb]; exact AR.out.cell (1 + k) (ps_get a _ k hlt)
        have cy : wr.cell? ⟨w.heap.size + 1, 1 + k, none⟩ = some (.bool y) := by rw [hyy]; exact BR.out.cell (1 + k) (ps_get b _ k hlt)
        obtain ⟨u, hu⟩ := rowN_get G old nw k k hlt (.slice none 0 0)
        have co : wr.cell? ⟨O, 1 + k, none⟩ = some u := hrow.out.cell (1 + k) hu
        have fo : wr.frozen? ⟨O, 1 + k, none⟩ = false := hrow.out.frozen (1 + k) hu
        have HS : Hid (∀ t, nw k = t → LRow (wr.setCell ⟨O, 1 + k, none⟩ (.bool t)) O (rowN G old nw (k + 1) (.slice none 0 0))) := fun t e => by rw [← rowN_set G old nw k hlt, e]; exact hrow.out.set (1 + k) _
        have HBS : Hid (∀ t, Below O W5 (wr.setCell ⟨O, 1 + k, none⟩ t)) := fun t => hb.out.setCell (p := ⟨O, 1 + k, none⟩) (Nat.le_refl _) t
        have HNK : Hid (nw k = (x && y)) := by show _ = _; rw [HNW.out, hbb, hyy]
        have hk2 : (k : Int) < 10 := by omega
        clear hbb hyy hu
        cases x
        · go_wp2_with fail
          go_roundw
          case rel => exact ⟨k + 1, by omega, by go_num, HS.out false (by rw [HNK.out]; rfl), HBS.out _⟩
          case measure => simp [intOf]; omega
        · go_wp2_with fail
          go_roundw
          case rel => exact ⟨k + 1, by omega, by go_num, HS.out y (by rw [HNK.out]; rfl), HBS.out _⟩
          case measure => simp [intOf]; omega
      · obtain ⟨k1, hk1'⟩ : ∃ k1, k1 = k := ⟨_, rfl⟩
        have hk10 : k1 = 10 := by omega
        rw [← hk1'] at hrow hlt ⊢
        rw [hk10] at hrow
        clear hk10 hk1'
        obtain ⟨W6, hW6⟩ : ∃ W, W = wr := ⟨_, rfl⟩
        rw [← hW6] at hrow hb AR BR ⊢
        have RR6 : Hid (LRow W6 (w.heap.size + 1 + 1) (cnL c0 (.slice none 0 0))) := RR5.out.below hb.out HOL.out
        have S6 : Hid (Below w.heap.size w W6) := S5.out.trans (hb.out.mono (by have := HOL.out; omega))
        clear hW6 hk hb A5 B5 R5 RR5 S5
        have a11 := AR.out.cell 11 rfl
        have hn40 : n ≤ 40 := by rw [HN.out]; exact chC_len' HCH.out
        go_wp2_with fail
        clear a11
        go_loopw [9] (fun i wr => ∃ (k : Nat) (vv : Value), k ≤ n ∧ i = .int .i64 k ∧ Hid (LRow wr O (rowN G old nw 10 vv)) ∧ wr.ownsRow (O + 1) 3 1 vv (mAcc a b k).length ((mAcc a b k).flatMap intF) ∧ Hid (Below O W6 wr)) (fun i _ => n - (intOf i).toNat)
        case atStart => exact ⟨0, (.slice none 0 0), Nat.zero_le _, rfl, hrow, World.ownsRow_nil _ _ _ _, Below.refl _ _⟩
        case round =>
          obtain ⟨k, vv, hk, rfl, hrw, hown, hb⟩ := hrel
          obtain ⟨sad, scap, rfl⟩ := g_slice hown
          have A7 : Hid (LRow wr w.heap.size (cnL a (.slice ad n cap))) := AR.out.below hb.out (by have := HOL.out; omega)
          have B7 : Hid (LRow wr (w.heap.size + 1) (cnL b vb)) := BR.out.below hb.out (by have := HOL.out; omega)
          have RR7 : Hid (LRow wr (w.heap.size + 1 + 1) (cnL c0 (.slice none 0 0))) := RR6.out.below hb.out HOL.out
          have S7 : Hid (Below w.heap.size w wr) := S6.out.trans (hb.out.mono (by have := HOL.out; omega))
          have hXw : Hid (O < wr.heap.size) := cell_in (hrw.out.cell 0 rfl)
          by_cases hlt : k < n
          · obtain ⟨y, e1⟩ : ∃ y, a.vs[k]? = some y := ⟨_, List.getElem?_eq_getElem (by rw [← HN.out]; exact hlt)⟩
            obtain ⟨bl, ol, had, hbl, hcell⟩ := Rows.at (HRA.out wr S7.out) rfl 0 (fun _ => rfl) k y e1
            subst had
            have d0 : ∀ w', Below wr.heap.size wr w' → w'.cell? ⟨bl, ol + k, none⟩ = some (.int .i64 y) := fun w' h => by
              have h1 := hcell 0 _ rfl
              rw [show ol + k * (0 + 1) + 0 = ol + k by omega] at h1
              exact (h.cell (p := ⟨bl, ol + k, none⟩) hbl).trans h1
            have f0 : ∀ w', Below wr.heap.size wr w' → w'.cell? ⟨w.heap.size, 11, none⟩ = some (.slice (some ⟨bl, ol, none⟩) n cap) := fun w' h => (A7.out.below h (cell_in (A7.out.cell 0 rfl))).cell 11 rfl
            have g0 : ∀ w', Below wr.heap.size wr w' → w'.cell? ⟨w.heap.size + 1, 11, none⟩ = some vb := fun w' h => (B7.out.below h (cell_in (B7.out.cell 0 rfl))).cell 11 rfl
            obtain ⟨nm, hnm⟩ : ∃ t, t = b.vs.contains y := ⟨_, rfl⟩
            have KX : Hid (∀ w' : World, Rows w' vb intF b.vs → Calls Try.prog 24 #[vb, .int .i64 y] w' fun e w'' => e = .returned (.bool nm) ∧ w'' = w') := by rw [hnm]; exact KH.out y
            have HA1 : Hid (nm = true → mAcc a b (k + 1) = mAcc a b k ++ [y]) := fun h => mAcc_yes a b k y e1 (by rw [← hnm]; exact h)
            have HA0 : Hid (nm = false → mAcc a b (k + 1) = mAcc a b k) := fun h => mAcc_no a b k y e1 (by rw [← hnm]; exact h)
            have f0r := f0 wr (Below.refl _ _)
            have hk0 : (0 : Int) ≤ (k : Int) := by omega
            have hk1 : (k : Int) < (n : Int) := by omega
            obtain ⟨m, hm⟩ : ∃ m, m = (mAcc a b k).length := ⟨_, rfl⟩
            have hmk : Hid (m ≤ k) := by show _ ≤ _; rw [hm]; exact mAcc_len a b k
            obtain ⟨xs, hxs⟩ : ∃ xs, xs = (mAcc a b k).flatMap intF := ⟨_, rfl⟩
            rw [← hm, ← hxs] at hown
            rw [← hm] at hrw
            have HM : Hid _ := hm
            have HXSS : Hid _ := hxs
            have HOWN : Hid (wr.ownsRow (O + 1) 3 1 (.slice sad m scap) m xs) := hown
            clear e1 hcell hbl hnm hm hxs hown
            go_upto_region 17 with fail
            go_region_held3 (fun w' => Below wr.heap.size wr w') (first | assumption | exact (Below.refl _ wr).drew | exact Below.drew (by assumption) | fail)
              (first
              | (go_at_call 24; refine (KX.out _ (HRB.out _ (next S7.out (by first | assumption | exact (Below.refl _ wr).drew)))).mono ?_; rintro e w1 ⟨rfl, hw1⟩; have hX1 : Below wr.heap.size wr w1 := by rw [hw1]; first | assumption | exact (Below.refl _ wr).drew
                 clear hw1)
              | fail)
            have R1 : Hid (LRow w1 O (rowN G old nw 10 (.slice sad m scap))) := hrw.out.below hX1 hXw.out
            have OW1 : Hid (w1.ownsRow (O + 1) 3 1 (.slice sad m scap) m xs) := own_below HOWN.out hX1 (Nat.le_refl _)
            have B1 : Hid (Below O W6 w1) := hb.out.trans (hX1.mono (Nat.le_of_lt hXw.out))
            have L1 : Hid (O + 1 ≤ w1.heap.size) := Nat.le_trans hXw.out hX1.size
            cases nm
            · clear hX1 d0 f0 f0r g0
              go_wp2_with fail
              go_roundw
              case rel => exact ⟨k + 1, _, by omega, by go_num, R1, by rw [HA0.out rfl, ← HM.out, ← HXSS.out]; exact OW1.out, B1⟩
              case measure => simp [intOf]; omega
            · have hAn : Below wr.heap.size wr (w1.alloc (.cells #[.int .i64 y] 3)) := hX1.alloc hX1.size _
              have hA : Below wr.heap.size wr ((w1.alloc (.cells #[.int .i64 y] 3)).drew) := hAn.drew
              have b1 := d0 _ hAn
              have b2 := f0 _ hAn
              have e1 := d0 _ hX1
              have e2 := f0 _ hX1
              have cc := R1.out.cell 11 (rowN_v _ _ _ _ _)
              have ccf := R1.out.frozen 11 (rowN_v _ _ _ _ _)
              have RA : Hid (LRow ((w1.alloc (.cells #[.int .i64 y] 3)).drew) O (rowN G old nw 10 (.slice sad m scap))) := R1.out.below ((Below.refl _ w1).alloc (Nat.le_refl _) _).drew (Nat.lt_of_succ_le L1.out)
              have b3 : (w1.alloc (.cells #[.int .i64 y] 3)).cell? ⟨O, 11, none⟩ = some (.slice sad m scap) := RA.out.cell 11 (rowN_v _ _ _ _ _)
              have NWR : Hid (Reads ((w1.alloc (.cells #[.int .i64 y] 3)).drew) (.slice (some ⟨w1.heap.size, 0, none⟩) 1 1) 1 [.int .i64 y]) := by
                have h := Rows.lit (f := intF) w1 [y] 3 w1.heap.size 1 1 #[.int .i64 y] rfl rfl rfl
                exact h
              have OWA : Hid (((w1.alloc (.cells #[.int .i64 y] 3)).drew).ownsRow (O + 1) 3 1 (.slice sad m scap) m xs) := own_below OW1.out ((Below.refl _ w1).alloc (Nat.le_refl _) _).drew (Nat.le_refl _)
              have LA : Hid (O + 1 ≤ ((w1.alloc (.cells #[.int .i64 y] 3)).drew).heap.size) := by show _ ≤ _; have := L1.out; simp; omega
              have N2 : Hid (∀ z ∈ ([.int .i64 y] : List Value), z.oneCell' = true) := fun z hz => by simp at hz; subst hz; rfl
              have N3 : Hid (m + 1 ≤ maxLen) := by show _ ≤ _; have := hmk.out; unfold maxLen; omega
              have N4 : Hid ((m + 1) * 8 ≤ 140737488355328) := by show _ ≤ _; have := hmk.out; omega
              have HBA : Hid (Below O W6 ((w1.alloc (.cells #[.int .i64 y] 3)).drew)) := B1.out.trans ((((Below.refl _ w1).alloc (Nat.le_refl _) _).drew).mono (Nat.le_of_succ_le L1.out))
              obtain ⟨i0, hi, hz0, hz1, hz2⟩ := g_infoInt
              clear hX1 d0 f0 f0r g0 hA hAn
              go_upto_region 18 with fail
              go_region_law (first
                | (refine step_append_reads (by rfl) (.tmp 63) (.tmp 69) 23 (by rfl) (O + 1) 3 i0 (.int .i64 0) 1 8 Try.underlying23 hi hz0 hz1 hz2 rfl (by decide) _ m xs (by rfl) OWA.out _ (by rfl) 1 [.int .i64 y] NWR.out rfl N2.out N3.out N4.out LA.out ?_; intro v7 w7 hown7 hg7; obtain ⟨ad7, cap7, rfl⟩ := g_slice hown7; have hb7 : Below (O + 1) ((w1.alloc (.cells #[.int .i64 y] 3)).drew) w7 := (Below.refl (O + 1) _).grown hg7 LA.out (fun q e => (OWA.out.lt q e).1); have R7 : Hid (LRow w7 O (rowN G old nw 10 (.slice sad m scap))) := RA.out.below hb7 (Nat.lt_succ_self O); have c7 := R7.out.cell 11 (rowN_v _ _ _ _ _); have f7 := R7.out.frozen 11 (rowN_v _ _ _ _ _))
                | fail)
              all_goals
                have R8 : Hid (LRow (w7.setCell ⟨O, 11, none⟩ (.slice ad7 (m + 1) cap7)) O (rowN G old nw 10 (.slice ad7 (m + 1) cap7))) := R7.out.set 11 _
                have O8 : Hid ((w7.setCell ⟨O, 11, none⟩ (.slice ad7 (m + 1) cap7)).ownsRow (O + 1) 3 1 (.slice ad7 (m + 1) cap7) (m + 1) (xs ++ [.int .i64 y])) := own_setR hown7 (Nat.lt_succ_self O)
                have B8 : Hid (Below O W6 (w7.setCell ⟨O, 11, none⟩ (.slice ad7 (m + 1) cap7))) := (HBA.out.trans (hb7.mono (Nat.le_succ O))).setCell (p := ⟨O, 11, none⟩) (Nat.le_refl _) _
                clear hown7 hg7 hb7 c7 f7 cc ccf b1 b2 b3 e1 e2 hi hz0 hz1 hz2
                go_wp2_with fail
                go_roundw
                case rel => exact ⟨k + 1, _, by omega, by go_num, R8, by rw [HA1.out rfl, List.length_append, List.flatMap_append, ← HM.out, ← HXSS.out]; exact O8.out, B8⟩
                case measure => simp [intOf]; omega
          · have hkn : k = n := by omega
            have HAL : Hid (mAcc a b k = rc.vs) := by show _ = _; rw [HRC.out]; exact mAcc_all HCH.out k (by rw [hkn, HN.out])
            obtain ⟨m, hm2⟩ : ∃ m, m = (mAcc a b k).length := ⟨_, rfl⟩
            rw [← hm2] at hrw hown
            have HRW : Hid (LRow wr O (cnL rc (.slice sad m scap))) := by show LRow _ _ _; rw [← HEND.out]; exact hrw.out
            have HML : Hid (m = rc.vs.length) := by show _ = _; rw [hm2, HAL.out]
            rw [HAL.out] at hown
            have OWN : Hid (wr.ownsRow (O + 1) 3 1 (.slice sad m scap) m (rc.vs.flatMap intF)) := hown
            have a11 := A7.out.cell 11 rfl
            clear hown hm2 hrw HAL HEND hkn
            have z0 := HRW.out.cell 0 rfl
            have o0 := RR7.out.cell 0 rfl
            have f0 := RR7.out.frozen 0 rfl
            have z1 := HRW.out.cell 1 rfl
            have o1 := RR7.out.cell 1 rfl
            have f1 := RR7.out.frozen 1 rfl
            have z2 := HRW.out.cell 2 rfl
            have o2 := RR7.out.cell 2 rfl
            have f2 := RR7.out.frozen 2 rfl
            have z3 := HRW.out.cell 3 rfl
            have o3 := RR7.out.cell 3 rfl
            have f3 := RR7.out.frozen 3 rfl
            have z4 := HRW.out.cell 4 rfl
            have o4 := RR7.out.cell 4 rfl
            have f4 := RR7.out.frozen 4 rfl
            have z5 := HRW.out.cell 5 rfl
            have o5 := RR7.out.cell 5 rfl
            have f5 := RR7.out.frozen 5 rfl
            have z6 := HRW.out.cell 6 rfl
            have o6 := RR7.out.cell 6 rfl
            have f6 := RR7.out.frozen 6 rfl
            have z7 := HRW.out.cell 7 rfl
            have o7 := RR7.out.cell 7 rfl
            have f7 := RR7.out.frozen 7 rfl
            have z8 := HRW.out.cell 8 rfl
            have o8 := RR7.out.cell 8 rfl
            have f8 := RR7.out.frozen 8 rfl
            have z9 := HRW.out.cell 9 rfl
            have o9 := RR7.out.cell 9 rfl
            have f9 := RR7.out.frozen 9 rfl
            have z10 := HRW.out.cell 10 rfl
            have o10 := RR7.out.cell 10 rfl
            have f10 := RR7.out.frozen 10 rfl
            have z11 := HRW.out.cell 11 rfl
            have o11 := RR7.out.cell 11 rfl
            have f11 := RR7.out.frozen 11 rfl
            go_wp2_with fail
            generalize hW2 : World.setCell _ _ _ = W2
            have HP : Hid (LRow W2 (w.heap.size + 1 + 1) (cnL rc (.slice sad m scap))) := by
              rw [← hW2]
              exact (((((((((((RR7.out.set 0 _).set 1 _).set 2 _).set 3 _).set 4 _).set 5 _).set 6 _).set 7 _).set 8 _).set 9 _).set 10 _).set 11 _
            have HB2 : Hid (Below w.heap.size w W2) := by
              rw [← hW2]
              iterate 12 refine Below.setCell ?_ (show w.heap.size ≤ (w.heap.size + 1 + 1) by omega) _
              exact S7.out
            have OW2 : Hid (W2.ownsRow (O + 1) 3 1 (.slice sad m scap) m (rc.vs.flatMap intF)) := by
              rw [← hW2]
              iterate 12 refine own_setR ?_ (show w.heap.size + 1 + 1 < O + 1 by have := HOL.out; omega)
              exact OWN.out
            have RVF : Hid (Rows W2 (.slice sad m scap) intF rc.vs) := by
              have h := Reads.of_own OW2.out
              rw [HML.out] at h ⊢
              exact h
            clear hW2 o0 f0 o1 f1 o2 f2 o3 f3 o4 f4 o5 f5 o6 f6 o7 f7 o8 f8 o9 f9 o10 f10 o11 f11 z0 z1 z2 z3 z4 z5 z6 z7 z8 z9 z10 z11
            have p0 := HP.out.cell 0 rfl
            have p1 := HP.out.cell 1 rfl
            have p2 := HP.out.cell 2 rfl
            have p3 := HP.out.cell 3 rfl
            have p4 := HP.out.cell 4 rfl
            have p5 := HP.out.cell 5 rfl
            have p6 := HP.out.cell 6 rfl
            have p7 := HP.out.cell 7 rfl
            have p8 := HP.out.cell 8 rfl
            have p9 := HP.out.cell 9 rfl
            have p10 := HP.out.cell 10 rfl
            have p11 := HP.out.cell 11 rfl
            exact bodyPost_ret (v := .tuple #[.agg (cnL rc (.slice sad m scap)).toArray, .int .i64 0]) (by simp [results, Try.results10, go_sem, cnL, c0, p0, p1, p2, p3, p4, p5, p6, p7, p8, p9, p10, p11]) rfl ⟨_, by rw [HD0.out, HZ0.out], by rw [HD0.out]; exact RVF.out, HB2.out⟩
  · skip
    have HG : Hid (G = a.g) := by show _ = _; rw [HGG.out]; omega
    have L4 : Hid (LRow W3 O (rowN G old nw 0 (.slice ad n cap))) := by rw [HG.out]; exact L3.out
    have A4 : Hid _ := A3.out
    have B4 : Hid _ := B3.out
    have RR4 : Hid _ := RR3.out
    have S4 : Hid _ := S3.out
    go_upto_region 9 with fail
    clear a0 b0
    have g11 := L4.out.cell 11 (rowN_v _ _ _ _ _)
    have gf11 := L4.out.frozen 11 (rowN_v _ _ _ _ _)
    obtain ⟨W5, hW5⟩ : ∃ W, W = W3.setCell ⟨O, 11, none⟩ (.slice none 0 0) := ⟨_, rfl⟩
    have R5 : Hid (LRow W5 O (rowN G old nw 0 (.slice none 0 0))) := by rw [hW5]; exact L4.out.set 11 _
    have A5 : Hid (LRow W5 w.heap.size (cnL a (.slice ad n cap))) := by rw [hW5]; exact rowSetR A4.out (by have := HOL.out; omega)
    have B5 : Hid (LRow W5 (w.heap.size + 1) (cnL b vb)) := by rw [hW5]; exact rowSetR B4.out (by have := HOL.out; omega)
    have RR5 : Hid (LRow W5 (w.heap.size + 1 + 1) (cnL c0 (.slice none 0 0))) := by rw [hW5]; exact rowSetR RR4.out (by have := HOL.out; omega)
    have S5 : Hid (Below w.heap.size w W5) := by rw [hW5]; exact S4.out.setCell (p := ⟨O, 11, none⟩) (show w.heap.size ≤ O by have := HOL.out; omega) _
    have HW5 : Hid _ := hW5
    clear hW5
    go_upto_region 10 with fail
    rw [← HW5.out]
    clear HW5 g11 gf11 A3 B3 RR3 S3 L3 A4 B4 RR4 S4 L4 HG HGG hgt
    go_wp2_with fail
    go_loopw [8] (fun i wr => ∃ k : Nat, k ≤ 10 ∧ i = .int .i64 k ∧ Hid (LRow wr O (rowN G old nw k (.slice none 0 0))) ∧ Hid (Below O W5 wr)) (fun i _ => 10 - (intOf i).toNat)
    case atStart => exact ⟨0, Nat.zero_le _, rfl, R5, Below.refl _ _⟩
    case round =>
      obtain ⟨k, hk, rfl, hrow, hb⟩ := hrel
      have AR : Hid (LRow wr w.heap.size (cnL a (.slice ad n cap))) := A5.out.below hb.out (by have := HOL.out; omega)
      have BR : Hid (LRow wr (w.heap.size + 1) (cnL b vb)) := B5.out.below hb.out (by have := HOL.out; omega)
      by_cases hlt : k < 10
      · obtain ⟨x, hbb⟩ : ∃ b, b = a.ps[k]?.getD false := ⟨_, rfl⟩
        obtain ⟨y, hyy⟩ : ∃ y, y = b.ps[k]?.getD false := ⟨_, rfl⟩
        have cx : wr.cell? ⟨w.heap.size, 1 + k, none⟩ = some (.bool x) := by rw [hbb]; exact AR.out.cell (1 + k) (ps_get a _ k hlt)
        have cy : wr.cell? ⟨w.heap.size + 1, 1 + k, none⟩ = some (.bool y) := by rw [hyy]; exact BR.out.cell (1 + k) (ps_get b _ k hlt)
        obtain ⟨u, hu⟩ := rowN_get G old nw k k hlt (.slice none 0 0)
        have co : wr.cell? ⟨O, 1 + k, none⟩ = some u := hrow.out.cell (1 + k) hu
        have fo : wr.frozen? ⟨O, 1 + k, none⟩ = false := hrow.out.frozen (1 + k) hu
        have HS : Hid (∀ t, nw k = t → LRow (wr.setCell ⟨O, 1 + k, none⟩ (.bool t)) O (rowN G old nw (k + 1) (.slice none 0 0))) := fun t e => by rw [← rowN_set G old nw k hlt, e]; exact hrow.out.set (1 + k) _
        have HBS : Hid (∀ t, Below O W5 (wr.setCell ⟨O, 1 + k, none⟩ t)) := fun t => hb.out.setCell (p := ⟨O, 1 + k, none⟩) (Nat.le_refl _) t
        have HNK : Hid (nw k = (x && y)) := by show _ = _; rw [HNW.out, hbb, hyy]
        have hk2 : (k : Int) < 10 := by omega
        clear hbb hyy hu
        cases x
        · go_wp2_with fail
          go_roundw
          case rel => exact ⟨k + 1, by omega, by go_num, HS.out false (by rw [HNK.out]; rfl), HBS.out _⟩
          case measure => simp [intOf]; omega
        · go_wp2_with fail
          go_roundw
          case rel => exact ⟨k + 1, by omega, by go_num, HS.out y (by rw [HNK.out]; rfl), HBS.out _⟩
          case measure => simp [intOf]; omega
      · obtain ⟨k1, hk1'⟩ : ∃ k1, k1 = k := ⟨_, rfl⟩
        have hk10 : k1 = 10 := by omega
        rw [← hk1'] at hrow hlt ⊢
        rw [hk10] at hrow
        clear hk10 hk1'
        obtain ⟨W6, hW6⟩ : ∃ W, W = wr := ⟨_, rfl⟩
        rw [← hW6] at hrow hb AR BR ⊢
        have RR6 : Hid (LRow W6 (w.heap.size + 1 + 1) (cnL c0 (.slice none 0 0))) := RR5.out.below hb.out HOL.out
        have S6 : Hid (Below w.heap.size w W6) := S5.out.trans (hb.out.mono (by have := HOL.out; omega))
        clear hW6 hk hb A5 B5 R5 RR5 S5
        have a11 := AR.out.cell 11 rfl
        have hn40 : n ≤ 40 := by rw [HN.out]; exact chC_len' HCH.out
        go_wp2_with fail
        clear a11
        go_loopw [9] (fun i wr => ∃ (k : Nat) (vv : Value), k ≤ n ∧ i = .int .i64 k ∧ Hid (LRow wr O (rowN G old nw 10 vv)) ∧ wr.ownsRow (O + 1) 3 1 vv (mAcc a b k).length ((mAcc a b k).flatMap intF) ∧ Hid (Below O W6 wr)) (fun i _ => n - (intOf i).toNat)
        case atStart => exact ⟨0, (.slice none 0 0), Nat.zero_le _, rfl, hrow, World.ownsRow_nil _ _ _ _, Below.refl _ _⟩
        case round =>
          obtain ⟨k, vv, hk, rfl, hrw, hown, hb⟩ := hrel
          obtain ⟨sad, scap, rfl⟩ := g_slice hown
          have A7 : Hid (LRow wr w.heap.size (cnL a (.slice ad n cap))) := AR.out.below hb.out (by have := HOL.out; omega)
          have B7 : Hid (LRow wr (w.heap.size + 1) (cnL b vb)) := BR.out.below hb.out (by have := HOL.out; omega)
          have RR7 : Hid (LRow wr (w.heap.size + 1 + 1) (cnL c0 (.slice none 0 0))) := RR6.out.below hb.out HOL.out
          have S7 : Hid (Below w.heap.size w wr) := S6.out.trans (hb.out.mono (by have := HOL.out; omega))
          have hXw : Hid (O < wr.heap.size) := cell_in (hrw.out.cell 0 rfl)
          by_cases hlt : k < n
          · obtain ⟨y, e1⟩ : ∃ y, a.vs[k]? = some y := ⟨_, List.getElem?_eq_getElem (by rw [← HN.out]; exact hlt)⟩
            obtain ⟨bl, ol, had, hbl, hcell⟩ := Rows.at (HRA.out wr S7.out) rfl 0 (fun _ => rfl) k y e1
            subst had
            have d0 : ∀ w', Below wr.heap.size wr w' → w'.cell? ⟨bl, ol + k, none⟩ = some (.int .i64 y) := fun w' h => by
              have h1 := hcell 0 _ rfl
              rw [show ol + k * (0 + 1) + 0 = ol + k by omega] at h1
              exact (h.cell (p := ⟨bl, ol + k, none⟩) hbl).trans h1
            have f0 : ∀ w', Below wr.heap.size wr w' → w'.cell? ⟨w.heap.size, 11, none⟩ = some (.slice (some ⟨bl, ol, none⟩) n cap) := fun w' h => (A7.out.below h (cell_in (A7.out.cell 0 rfl))).cell 11 rfl
            have g0 : ∀ w', Below wr.heap.size wr w' → w'.cell? ⟨w.heap.size + 1, 11, none⟩ = some vb := fun w' h => (B7.out.below h (cell_in (B7.out.cell 0 rfl))).cell 11 rfl
            obtain ⟨nm, hnm⟩ : ∃ t, t = b.vs.contains y := ⟨_, rfl⟩
            have KX : Hid (∀ w' : World, Rows w' vb intF b.vs → Calls Try.prog 24 #[vb, .int .i64 y] w' fun e w'' => e = .returned (.bool nm) ∧ w'' = w') := by rw [hnm]; exact KH.out y
            have HA1 : Hid (nm = true → mAcc a b (k + 1) = mAcc a b k ++ [y]) := fun h => mAcc_yes a b k y e1 (by rw [← hnm]; exact h)
            have HA0 : Hid (nm = false → mAcc a b (k + 1) = mAcc a b k) := fun h => mAcc_no a b k y e1 (by rw [← hnm]; exact h)
            have f0r := f0 wr (Below.refl _ _)
            have hk0 : (0 : Int) ≤ (k : Int) := by omega
            have hk1 : (k : Int) < (n : Int) := by omega
            obtain ⟨m, hm⟩ : ∃ m, m = (mAcc a b k).length := ⟨_, rfl⟩
            have hmk : Hid (m ≤ k) := by show _ ≤ _; rw [hm]; exact mAcc_len a b k
            obtain ⟨xs, hxs⟩ : ∃ xs, xs = (mAcc a b k).flatMap intF := ⟨_, rfl⟩
            rw [← hm, ← hxs] at hown
            rw [← hm] at hrw
            have HM : Hid _ := hm
            have HXSS : Hid _ := hxs
            have HOWN : Hid (wr.ownsRow (O + 1) 3 1 (.slice sad m scap) m xs) := hown
            clear e1 hcell hbl hnm hm hxs hown
            go_upto_region 17 with fail
            go_region_held3 (fun w' => Below wr.heap.size wr w') (first | assumption | exact (Below.refl _ wr).drew | exact Below.drew (by assumption) | fail)
              (first
              | (go_at_call 24; refine (KX.out _ (HRB.out _ (next S7.out (by first | assumption | exact (Below.refl _ wr).drew)))).mono ?_; rintro e w1 ⟨rfl, hw1⟩; have hX1 : Below wr.heap.size wr w1 := by rw [hw1]; first | assumption | exact (Below.refl _ wr).drew
                 clear hw1)
              | fail)
            have R1 : Hid (LRow w1 O (rowN G old nw 10 (.slice sad m scap))) := hrw.out.below hX1 hXw.out
            have OW1 : Hid (w1.ownsRow (O + 1) 3 1 (.slice sad m scap) m xs) := own_below HOWN.out hX1 (Nat.le_refl _)
            have B1 : Hid (Below O W6 w1) := hb.out.trans (hX1.mono (Nat.le_of_lt hXw.out))
            have L1 : Hid (O + 1 ≤ w1.heap.size) := Nat.le_trans hXw.out hX1.size
            cases nm
            · clear hX1 d0 f0 f0r g0
              go_wp2_with fail
              go_roundw
              case rel => exact ⟨k + 1, _, by omega, by go_num, R1, by rw [HA0.out rfl, ← HM.out, ← HXSS.out]; exact OW1.out, B1⟩
              case measure => simp [intOf]; omega
            · have hAn : Below wr.heap.size wr (w1.alloc (.cells #[.int .i64 y] 3)) := hX1.alloc hX1.size _
              have hA : Below wr.heap.size wr ((w1.alloc (.cells #[.int .i64 y] 3)).drew) := hAn.drew
              have b1 := d0 _ hAn
              have b2 := f0 _ hAn
              have e1 := d0 _ hX1
              have e2 := f0 _ hX1
              have cc := R1.out.cell 11 (rowN_v _ _ _ _ _)
              have ccf := R1.out.frozen 11 (rowN_v _ _ _ _ _)
              have RA : Hid (LRow ((w1.alloc (.cells #[.int .i64 y] 3)).drew) O (rowN G old nw 10 (.slice sad m scap))) := R1.out.below ((Below.refl _ w1).alloc (Nat.le_refl _) _).drew (Nat.lt_of_succ_le L1.out)
              have b3 : (w1.alloc (.cells #[.int .i64 y] 3)).cell? ⟨O, 11, none⟩ = some (.slice sad m scap) := RA.out.cell 11 (rowN_v _ _ _ _ _)
              have NWR : Hid (Reads ((w1.alloc (.cells #[.int .i64 y] 3)).drew) (.slice (some ⟨w1.heap.size, 0, none⟩) 1 1) 1 [.int .i64 y]) := by
                have h := Rows.lit (f := intF) w1 [y] 3 w1.heap.size 1 1 #[.int .i64 y] rfl rfl rfl
                exact h
              have OWA : Hid (((w1.alloc (.cells #[.int .i64 y] 3)).drew).ownsRow (O + 1) 3 1 (.slice sad m scap) m xs) := own_below OW1.out ((Below.refl _ w1).alloc (Nat.le_refl _) _).drew (Nat.le_refl _)
              have LA : Hid (O + 1 ≤ ((w1.alloc (.cells #[.int .i64 y] 3)).drew).heap.size) := by show _ ≤ _; have := L1.out; simp; omega
              have N2 : Hid (∀ z ∈ ([.int .i64 y] : List Value), z.oneCell' = true) := fun z hz => by simp at hz; subst hz; rfl
              have N3 : Hid (m + 1 ≤ maxLen) := by show _ ≤ _; have := hmk.out; unfold maxLen; omega
              have N4 : Hid ((m + 1) * 8 ≤ 140737488355328) := by show _ ≤ _; have := hmk.out; omega
              have HBA : Hid (Below O W6 ((w1.alloc (.cells #[.int .i64 y] 3)).drew)) := B1.out.trans ((((Below.refl _ w1).alloc (Nat.le_refl _) _).drew).mono (Nat.le_of_succ_le L1.out))
              obtain ⟨i0, hi, hz0, hz1, hz2⟩ := g_infoInt
              clear hX1 d0 f0 f0r g0 hA hAn
              go_upto_region 18 with fail
              go_region_law (first
                | (refine step_append_reads (by rfl) (.tmp 63) (.tmp 69) 23 (by rfl) (O + 1) 3 i0 (.int .i64 0) 1 8 Try.underlying23 hi hz0 hz1 hz2 rfl (by decide) _ m xs (by rfl) OWA.out _ (by rfl) 1 [.int .i64 y] NWR.out rfl N2.out N3.out N4.out LA.out ?_; intro v7 w7 hown7 hg7; obtain ⟨ad7, cap7, rfl⟩ := g_slice hown7; have hb7 : Below (O + 1) ((w1.alloc (.cells #[.int .i64 y] 3)).drew) w7 := (Below.refl (O + 1) _).grown hg7 LA.out (fun q e => (OWA.out.lt q e).1); have R7 : Hid (LRow w7 O (rowN G old nw 10 (.slice sad m scap))) := RA.out.below hb7 (Nat.lt_succ_self O); have c7 := R7.out.cell 11 (rowN_v _ _ _ _ _); have f7 := R7.out.frozen 11 (rowN_v _ _ _ _ _))
                | fail)
              all_goals
                have R8 : Hid (LRow (w7.setCell ⟨O, 11, none⟩ (.slice ad7 (m + 1) cap7)) O (rowN G old nw 10 (.slice ad7 (m + 1) cap7))) := R7.out.set 11 _
                have O8 : Hid ((w7.setCell ⟨O, 11, none⟩ (.slice ad7 (m + 1) cap7)).ownsRow (O + 1) 3 1 (.slice ad7 (m + 1) cap7) (m + 1) (xs ++ [.int .i64 y])) := own_setR hown7 (Nat.lt_succ_self O)
                have B8 : Hid (Below O W6 (w7.setCell ⟨O, 11, none⟩ (.slice ad7 (m + 1) cap7))) := (HBA.out.trans (hb7.mono (Nat.le_succ O))).setCell (p := ⟨O, 11, none⟩) (Nat.le_refl _) _
                clear hown7 hg7 hb7 c7 f7 cc ccf b1 b2 b3 e1 e2 hi hz0 hz1 hz2
                go_wp2_with fail
                go_roundw
                case rel => exact ⟨k + 1, _, by omega, by go_num, R8, by rw [HA1.out rfl, List.length_append, List.flatMap_append, ← HM.out, ← HXSS.out]; exact O8.out, B8⟩
                case measure => simp [intOf]; omega
          · have hkn : k = n := by omega
            have HAL : Hid (mAcc a b k = rc.vs) := by show _ = _; rw [HRC.out]; exact mAcc_all HCH.out k (by rw [hkn, HN.out])
            obtain ⟨m, hm2⟩ : ∃ m, m = (mAcc a b k).length := ⟨_, rfl⟩
            rw [← hm2] at hrw hown
            have HRW : Hid (LRow wr O (cnL rc (.slice sad m scap))) := by show LRow _ _ _; rw [← HEND.out]; exact hrw.out
            have HML : Hid (m = rc.vs.length) := by show _ = _; rw [hm2, HAL.out]
            rw [HAL.out] at hown
            have OWN : Hid (wr.ownsRow (O + 1) 3 1 (.slice sad m scap) m (rc.vs.flatMap intF)) := hown
            have a11 := A7.out.cell 11 rfl
            clear hown hm2 hrw HAL HEND hkn
            have z0 := HRW.out.cell 0 rfl
            have o0 := RR7.out.cell 0 rfl
            have f0 := RR7.out.frozen 0 rfl
            have z1 := HRW.out.cell 1 rfl
            have o1 := RR7.out.cell 1 rfl
            have f1 := RR7.out.frozen 1 rfl
            have z2 := HRW.out.cell 2 rfl
            have o2 := RR7.out.cell 2 rfl
            have f2 := RR7.out.frozen 2 rfl
            have z3 := HRW.out.cell 3 rfl
            have o3 := RR7.out.cell 3 rfl
            have f3 := RR7.out.frozen 3 rfl
            have z4 := HRW.out.cell 4 rfl
            have o4 := RR7.out.cell 4 rfl
            have f4 := RR7.out.frozen 4 rfl
            have z5 := HRW.out.cell 5 rfl
            have o5 := RR7.out.cell 5 rfl
            have f5 := RR7.out.frozen 5 rfl
            have z6 := HRW.out.cell 6 rfl
            have o6 := RR7.out.cell 6 rfl
            have f6 := RR7.out.frozen 6 rfl
            have z7 := HRW.out.cell 7 rfl
            have o7 := RR7.out.cell 7 rfl
            have f7 := RR7.out.frozen 7 rfl
            have z8 := HRW.out.cell 8 rfl
            have o8 := RR7.out.cell 8 rfl
            have f8 := RR7.out.frozen 8 rfl
            have z9 := HRW.out.cell 9 rfl
            have o9 := RR7.out.cell 9 rfl
            have f9 := RR7.out.frozen 9 rfl
            have z10 := HRW.out.cell 10 rfl
            have o10 := RR7.out.cell 10 rfl
            have f10 := RR7.out.frozen 10 rfl
            have z11 := HRW.out.cell 11 rfl
            have o11 := RR7.out.cell 11 rfl
            have f11 := RR7.out.frozen 11 rfl
            go_wp2_with fail
            generalize hW2 : World.setCell _ _ _ = W2
            have HP : Hid (LRow W2 (w.heap.size + 1 + 1) (cnL rc (.slice sad m scap))) := by
              rw [← hW2]
              exact (((((((((((RR7.out.set 0 _).set 1 _).set 2 _).set 3 _).set 4 _).set 5 _).set 6 _).set 7 _).set 8 _).set 9 _).set 10 _).set 11 _
            have HB2 : Hid (Below w.heap.size w W2) := by
              rw [← hW2]
              iterate 12 refine Below.setCell ?_ (show w.heap.size ≤ (w.heap.size + 1 + 1) by omega) _
              exact S7.out
            have OW2 : Hid (W2.ownsRow (O + 1) 3 1 (.slice sad m scap) m (rc.vs.flatMap intF)) := by
              rw [← hW2]
              iterate 12 refine own_setR ?_ (show w.heap.size + 1 + 1 < O + 1 by have := HOL.out; omega)
              exact OWN.out
            have RVF : Hid (Rows W2 (.slice sad m scap) intF rc.vs) := by
              have h := Reads.of_own OW2.out
              rw [HML.out] at h ⊢
              exact h
            clear hW2 o0 f0 o1 f1 o2 f2 o3 f3 o4 f4 o5 f5 o6 f6 o7 f7 o8 f8 o9 f9 o10 f10 o11 f11 z0 z1 z2 z3 z4 z5 z6 z7 z8 z9 z10 z11
            have p0 := HP.out.cell 0 rfl
            have p1 := HP.out.cell 1 rfl
            have p2 := HP.out.cell 2 rfl
            have p3 := HP.out.cell 3 rfl
            have p4 := HP.out.cell 4 rfl
            have p5 := HP.out.cell 5 rfl
            have p6 := HP.out.cell 6 rfl
            have p7 := HP.out.cell 7 rfl
            have p8 := HP.out.cell 8 rfl
            have p9 := HP.out.cell 9 rfl
            have p10 := HP.out.cell 10 rfl
            have p11 := HP.out.cell 11 rfl
            exact bodyPost_ret (v := .tuple #[.agg (cnL rc (.slice sad m scap)).toArray, .int .i64 0]) (by simp [results, Try.results10, go_sem, cnL, c0, p0, p1, p2, p3, p4, p5, p6, p7, p8, p9, p10, p11]) rfl ⟨_, by rw [HD0.out, HZ0.out], by rw [HD0.out]; exact RVF.out, HB2.out⟩
end Go.Proofs.Ytklpfbakjiaaoaa
