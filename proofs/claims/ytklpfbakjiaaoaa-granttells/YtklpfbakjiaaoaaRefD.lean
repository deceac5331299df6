/- The document's own answer: what is dropped. -/
import Derived.Test.YtklpfbakjiaaoaaRefC
import Derived.Test.YtklpfbakjiaaoaaKit5
import Derived.Test.YtklpfbakjiaaoaaGrantD
namespace Go.Proofs.Ytklpfbakjiaaoaa
open Go.RowKit
set_option linter.all false
set_option maxRecDepth 100000

def rowN (g : Int) (old new : Nat → Bool) (k : Nat) (v : Value) : List Value := .int .i64 g :: ((List.range 10).map (fun j => .bool (if j < k then new j else old j)) ++ [v])
theorem rowN_set (g : Int) (old new : Nat → Bool) (k : Nat) (hk : k < 10) (v : Value) : (rowN g old new k v).set (1 + k) (.bool (new k)) = rowN g old new (k + 1) v := by
  rcases ten k hk with rfl | rfl | rfl | rfl | rfl | rfl | rfl | rfl | rfl | rfl <;> rfl
theorem rowN_get (g : Int) (old new : Nat → Bool) (k j : Nat) (hj : j < 10) (v : Value) : ∃ u, (rowN g old new k v)[1 + j]? = some u := by
  rcases ten j hj with rfl | rfl | rfl | rfl | rfl | rfl | rfl | rfl | rfl | rfl <;> exact ⟨_, rfl⟩
theorem rowN_v (g : Int) (old new : Nat → Bool) (k : Nat) (v : Value) : (rowN g old new k v)[11]? = some v := rfl
theorem rowN_setv (g : Int) (old new : Nat → Bool) (k : Nat) (v u : Value) : (rowN g old new k v).set 11 u = rowN g old new k u := rfl
theorem own_setR {W : World} {base : Nat} {e : TypeId} {size : Nat} {v : Value} {n : Nat} {cs : List Value} {X k : Nat} {x : Value} (h : W.ownsRow base e size v n cs) (hX : X < base) : (W.setCell ⟨X, k, none⟩ x).ownsRow base e size v n cs := by
  refine h.kept (row := some X) ⟨rfl, rfl, rfl, by simp, fun j hj hne => Below.heap_setCell _ _ _ _ (fun e => hne (by rw [show j = X from by first | exact e | exact e.symm]))⟩ (Or.inr fun e => ?_)
  have := (h.lt X e).1
  omega
def dAcc (l : List Int) (x : Int) (k : Nat) : List Int := (l.take k).filter fun y => decide (y ≠ x)
theorem dAcc_len (l : List Int) (x : Int) (k : Nat) : (dAcc l x k).length ≤ k := by
  unfold dAcc
  have h1 := List.length_filter_le (fun y => decide (y ≠ x)) (l.take k)
  have h2 : (l.take k).length ≤ k := by rw [List.length_take]; omega
  omega
theorem dAcc_yes (l : List Int) (x : Int) (k : Nat) (y : Int) (h : l[k]? = some y) (hn : ¬ y = x) : dAcc l x (k + 1) = dAcc l x k ++ [y] := by
  unfold dAcc
  rw [List.take_succ, h, List.filter_append, show (some y).toList = [y] from rfl, List.filter_cons_of_pos (by exact decide_eq_true hn), List.filter_nil]
theorem dAcc_no (l : List Int) (x : Int) (k : Nat) (y : Int) (h : l[k]? = some y) (hn : y = x) : dAcc l x (k + 1) = dAcc l x k := by
  unfold dAcc
  rw [List.take_succ, h, List.filter_append, show (some y).toList = [y] from rfl, List.filter_cons_of_neg (by simp [hn]), List.filter_nil, List.append_nil]
theorem chC_len' {c : Cn} (h : chC c = 0) : c.vs.length ≤ 40 := by
  obtain ⟨h1, h2, h3⟩ := chC_ok c h
  exact rise_len h2 h3
set_option maxHeartbeats 32000000 in
theorem dropOf_any (c : Cn) (v : Value) (p x now : Int) (w : World) (hr : Rows w v intF c.vs) (hm : c.vs.length ≤ 140737488351232) (hp : -9223372036854775808 ≤ p ∧ p ≤ 9223372036854775807) (hx : -9223372036854775808 ≤ x ∧ x ≤ 9223372036854775807) (hnow : -9223372036854775808 ≤ now ∧ now ≤ 9223372036854775807) :
    Calls Try.prog 12 #[.agg #[.int .i64 c.g, .bool c.b0, .bool c.b1, .bool c.b2, .bool c.b3, .bool c.b4, .bool c.b5, .bool c.b6, .bool c.b7, .bool c.b8, .bool c.b9, v], .int .i64 p, .int .i64 x, .int .i64 now] w fun e w' => ∃ v', e = .returned (.tuple #[.agg (cnL (dropR c p x now) v').toArray, .int .i64 (dropE c p x now)]) ∧ Rows w' v' intF (dropR c p x now).vs ∧ Below w.heap.size w w' := by
  obtain ⟨ad, cap, rfl⟩ := hr.shape
  obtain ⟨d, hd⟩ : ∃ d, d = dropR c p x now := ⟨_, rfl⟩
  obtain ⟨z, hz⟩ : ∃ z, z = dropE c p x now := ⟨_, rfl⟩
  rw [← hd, ← hz]
  obtain ⟨ck, hck⟩ : ∃ y, y = chC c := ⟨_, rfl⟩
  obtain ⟨n, hn⟩ : ∃ n, n = c.vs.length := ⟨_, rfl⟩
  have HN : Hid _ := hn
  have HDR : Hid (¬ z = 0 → d = c0) := fun h => by rw [hd]; exact dropR_bad (by rw [← hz]; exact h)
  have HDC : Hid (z = 0 → d = dropC c p x now) := fun h => by rw [hd]; exact dropR_ok (by rw [← hz]; exact h)
  have HZ : Hid (z = if ck = 0 then if (p < 0 ∨ 10 < p) ∨ (x < 0 ∨ 40 < x) then 3 else if now < c.g ∨ 68719476735 < now then 4 else 0 else ck) := by show _ = _; rw [hz, hck]; rfl
  have HCK : Hid (ck = chC c) := hck
  rw [← hn] at hm hr ⊢
  have KC : Hid (∀ w', Rows w' (.slice ad n cap) intF c.vs → Calls Try.prog 23 #[.agg #[.int .i64 c.g, .bool c.b0, .bool c.b1, .bool c.b2, .bool c.b3, .bool c.b4, .bool c.b5, .bool c.b6, .bool c.b7, .bool c.b8, .bool c.b9, (.slice ad n cap)]] w' fun e w'' => e = .returned (.int .i64 ck) ∧ Below w'.heap.size w' w'') := fun w' h => by rw [hck]; exact cCheck_any c _ w' h (by rw [← hn]; unfold maxLen; omega)
  have hr2 : Rows w (.slice ad n cap) intF c.vs := by rw [hn] at hr ⊢; exact hr
  obtain ⟨W0, hW0⟩ : ∃ W0, W0 = (w.alloc (.cells #[.int .i64 c.g, .bool c.b0, .bool c.b1, .bool c.b2, .bool c.b3, .bool c.b4, .bool c.b5, .bool c.b6, .bool c.b7, .bool c.b8, .bool c.b9, (.slice ad n cap)] 25)).alloc (.cells #[.int .i64 0, .bool false, .bool false, .bool false, .bool false, .bool false, .bool false, .bool false, .bool false, .bool false, .bool false, .slice none 0 0] 25) := ⟨_, rfl⟩
  have A0 : Hid (CB W0 w.heap.size c (.slice ad n cap)) := by rw [hW0]; exact (CB.new w c (.slice ad n cap) 25 hr2).below (below_new _ _)
  have R0 : Hid (LRow W0 (w.heap.size + 1) (cnL c0 (.slice none 0 0))) := by
    rw [hW0]
    have h := LRow.new (w.alloc (.cells #[.int .i64 c.g, .bool c.b0, .bool c.b1, .bool c.b2, .bool c.b3, .bool c.b4, .bool c.b5, .bool c.b6, .bool c.b7, .bool c.b8, .bool c.b9, (.slice ad n cap)] 25)) (cnL c0 (.slice none 0 0)) 25
    rw [show (w.alloc (.cells #[.int .i64 c.g, .bool c.b0, .bool c.b1, .bool c.b2, .bool c.b3, .bool c.b4, .bool c.b5, .bool c.b6, .bool c.b7, .bool c.b8, .bool c.b9, (.slice ad n cap)] 25)).heap.size = w.heap.size + 1 from by simp] at h
    exact h
  have S0 : Hid (Below w.heap.size w W0) := by rw [hW0]; exact next (below_new _ _) (below_new _ _)
  have HRR : Hid (∀ w', Below w.heap.size w w' → Rows w' (.slice ad n cap) intF c.vs) := fun w' h => Rows.below hr2 h (Nat.le_refl _)
  have HW0 : Hid _ := hW0
  clear hr hr2 hd hz hck hn hW0
  go_enter Try.func12, Try.ntmps12
  go_upto_region 1 with fail
  rw [← HW0.out]
  clear HW0
  have x0 := A0.out.row.cell 0 rfl
  have x1 := A0.out.row.cell 1 rfl
  have x2 := A0.out.row.cell 2 rfl
  have x3 := A0.out.row.cell 3 rfl
  have x4 := A0.out.row.cell 4 rfl
  have x5 := A0.out.row.cell 5 rfl
  have x6 := A0.out.row.cell 6 rfl
  have x7 := A0.out.row.cell 7 rfl
  have x8 := A0.out.row.cell 8 rfl
  have x9 := A0.out.row.cell 9 rfl
  have x10 := A0.out.row.cell 10 rfl
  have x11 := A0.out.row.cell 11 rfl
  go_wp2_with fail
  refine (KC.out _ (HRR.out _ S0.out)).mono ?_
  rintro e W1 ⟨rfl, hb1⟩
  have A1 : Hid (CB W1 w.heap.size c (.slice ad n cap)) := A0.out.below hb1
  have R1 : Hid (LRow W1 (w.heap.size + 1) (cnL c0 (.slice none 0 0))) := R0.out.below hb1 (cell_in (R0.out.cell 0 rfl))
  have S1 : Hid (Below w.heap.size w W1) := next S0.out hb1
  clear hb1 A0 R0 S0 x0 x1 x2 x3 x4 x5 x6 x7 x8 x9 x10 x11
  by_cases hk0 : ck = 0
  rotate_left
  · have q1 : (ck == 0) = false := by rw [beq_eq_false_iff_ne]; exact hk0
    have q2 : (ck != 0) = true := by rw [bne_iff_ne]; exact hk0
    have HZK : Hid (z = ck) := by show _ = _; rw [HZ.out, if_neg hk0]
    have HDK : Hid (d = c0) := HDR.out (by rw [HZK.out]; exact hk0)
    have o0 := R1.out.cell 0 rfl
    have f0 := R1.out.frozen 0 rfl
    have o1 := R1.out.cell 1 rfl
    have f1 := R1.out.frozen 1 rfl
    have o2 := R1.out.cell 2 rfl
    have f2 := R1.out.frozen 2 rfl
    have o3 := R1.out.cell 3 rfl
    have f3 := R1.out.frozen 3 rfl
    have o4 := R1.out.cell 4 rfl
    have f4 := R1.out.frozen 4 rfl
    have o5 := R1.out.cell 5 rfl
    have f5 := R1.out.frozen 5 rfl
    have o6 := R1.out.cell 6 rfl
    have f6 := R1.out.frozen 6 rfl
    have o7 := R1.out.cell 7 rfl
    have f7 := R1.out.frozen 7 rfl
    have o8 := R1.out.cell 8 rfl
    have f8 := R1.out.frozen 8 rfl
    have o9 := R1.out.cell 9 rfl
    have f9 := R1.out.frozen 9 rfl
    have o10 := R1.out.cell 10 rfl
    have f10 := R1.out.frozen 10 rfl
    have o11 := R1.out.cell 11 rfl
    have f11 := R1.out.frozen 11 rfl
    clear hk0
    go_wp2_with fail
    generalize hW2 : World.setCell _ _ _ = W2
    have HP : Hid (LRow W2 (w.heap.size + 1) (cnL c0 (.slice none 0 0))) := by
      rw [← hW2]
      exact (((((((((((R1.out.set 0 _).set 1 _).set 2 _).set 3 _).set 4 _).set 5 _).set 6 _).set 7 _).set 8 _).set 9 _).set 10 _).set 11 _
    have HB2 : Hid (Below w.heap.size w W2) := by
      rw [← hW2]
      iterate 12 refine Below.setCell ?_ (show w.heap.size ≤ (w.heap.size + 1) by omega) _
      exact S1.out
    clear hW2 o0 f0 o1 f1 o2 f2 o3 f3 o4 f4 o5 f5 o6 f6 o7 f7 o8 f8 o9 f9 o10 f10 o11 f11
    have p0 := HP.out.cell 0 rfl
    have p1 := HP.out.cell 1 rfl
    have p2 := HP.out.cell 2 rfl
    have p3 := HP.out.cell 3 rfl
    have p4 := HP.out.cell 4 rfl
    have p5 := HP.out.cell 5 rfl
    have p6 := HP.out.cell 6 rfl
    have p7 := HP.out.cell 7 rfl
    have p8 := HP.out.cell 8 rfl
    have p9 := HP.out.cell 9 rfl
    have p10 := HP.out.cell 10 rfl
    have p11 := HP.out.cell 11 rfl
    exact bodyPost_ret (v := .tuple #[.agg #[.int .i64 0, .bool false, .bool false, .bool false, .bool false, .bool false, .bool false, .bool false, .bool false, .bool false, .bool false, .slice none 0 0], .int .i64 ck]) (by simp [results, Try.results12, go_sem, cnL, c0, p0, p1, p2, p3, p4, p5, p6, p7, p8, p9, p10, p11]) rfl ⟨_, by rw [HDK.out, HZK.out]; rfl, by rw [HDK.out]; exact ⟨none, 0, rfl, .inl rfl⟩, HB2.out⟩
  have q1 : (ck == 0) = true := by rw [hk0]; rfl
  have HZ1 : Hid (z = if (p < 0 ∨ 10 < p) ∨ (x < 0 ∨ 40 < x) then 3 else if now < c.g ∨ 68719476735 < now then 4 else 0) := by show _ = _; rw [HZ.out, if_pos hk0]
  have HCH : Hid (chC c = 0) := by show _ = _; rw [← HCK.out]; exact hk0
  subst hk0
  have a0 := A1.out.row.cell 0 rfl
  by_cases g1 : p < 0
  · skip
    have HEE : Hid (z = 3) := by show _ = _; rw [HZ1.out, if_pos (.inl (.inl g1))]
    have o0 := R1.out.cell 0 rfl
    have f0 := R1.out.frozen 0 rfl
    have o1 := R1.out.cell 1 rfl
    have f1 := R1.out.frozen 1 rfl
    have o2 := R1.out.cell 2 rfl
    have f2 := R1.out.frozen 2 rfl
    have o3 := R1.out.cell 3 rfl
    have f3 := R1.out.frozen 3 rfl
    have o4 := R1.out.cell 4 rfl
    have f4 := R1.out.frozen 4 rfl
    have o5 := R1.out.cell 5 rfl
    have f5 := R1.out.frozen 5 rfl
    have o6 := R1.out.cell 6 rfl
    have f6 := R1.out.frozen 6 rfl
    have o7 := R1.out.cell 7 rfl
    have f7 := R1.out.frozen 7 rfl
    have o8 := R1.out.cell 8 rfl
    have f8 := R1.out.frozen 8 rfl
    have o9 := R1.out.cell 9 rfl
    have f9 := R1.out.frozen 9 rfl
    have o10 := R1.out.cell 10 rfl
    have f10 := R1.out.frozen 10 rfl
    have o11 := R1.out.cell 11 rfl
    have f11 := R1.out.frozen 11 rfl
    go_wp2_with fail
    generalize hW2 : World.setCell _ _ _ = W2
    have HP : Hid (LRow W2 (w.heap.size + 1) (cnL c0 (.slice none 0 0))) := by
      rw [← hW2]
      exact (((((((((((R1.out.set 0 _).set 1 _).set 2 _).set 3 _).set 4 _).set 5 _).set 6 _).set 7 _).set 8 _).set 9 _).set 10 _).set 11 _
    have HB2 : Hid (Below w.heap.size w W2) := by
      rw [← hW2]
      iterate 12 refine Below.setCell ?_ (show w.heap.size ≤ (w.heap.size + 1) by omega) _
      exact S1.out
    clear hW2 o0 f0 o1 f1 o2 f2 o3 f3 o4 f4 o5 f5 o6 f6 o7 f7 o8 f8 o9 f9 o10 f10 o11 f11
    have p0 := HP.out.cell 0 rfl
    have p1 := HP.out.cell 1 rfl
    have p2 := HP.out.cell 2 rfl
    have p3 := HP.out.cell 3 rfl
    have p4 := HP.out.cell 4 rfl
    have p5 := HP.out.cell 5 rfl
    have p6 := HP.out.cell 6 rfl
    have p7 := HP.out.cell 7 rfl
    have p8 := HP.out.cell 8 rfl
    have p9 := HP.out.cell 9 rfl
    have p10 := HP.out.cell 10 rfl
    have p11 := HP.out.cell 11 rfl
    exact bodyPost_ret (v := .tuple #[.agg #[.int .i64 0, .bool false, .bool false, .bool false, .bool false, .bool false, .bool false, .bool false, .bool false, .bool false, .bool false, .slice none 0 0], .int .i64 3]) (by simp [results, Try.results12, go_sem, cnL, c0, p0, p1, p2, p3, p4, p5, p6, p7, p8, p9, p10, p11]) rfl ⟨_, by rw [HDR.out (by rw [HEE.out]; decide), HEE.out]; rfl, by rw [HDR.out (by rw [HEE.out]; decide)]; exact ⟨none, 0, rfl, .inl rfl⟩, HB2.out⟩
  by_cases g2 : 10 < p
  · skip
    have HEE : Hid (z = 3) := by show _ = _; rw [HZ1.out, if_pos (.inl (.inr g2))]
    have o0 := R1.out.cell 0 rfl
    have f0 := R1.out.frozen 0 rfl
    have o1 := R1.out.cell 1 rfl
    have f1 := R1.out.frozen 1 rfl
    have o2 := R1.out.cell 2 rfl
    have f2 := R1.out.frozen 2 rfl
    have o3 := R1.out.cell 3 rfl
    have f3 := R1.out.frozen 3 rfl
    have o4 := R1.out.cell 4 rfl
    have f4 := R1.out.frozen 4 rfl
    have o5 := R1.out.cell 5 rfl
    have f5 := R1.out.frozen 5 rfl
    have o6 := R1.out.cell 6 rfl
    have f6 := R1.out.frozen 6 rfl
    have o7 := R1.out.cell 7 rfl
    have f7 := R1.out.frozen 7 rfl
    have o8 := R1.out.cell 8 rfl
    have f8 := R1.out.frozen 8 rfl
    have o9 := R1.out.cell 9 rfl
    have f9 := R1.out.frozen 9 rfl
    have o10 := R1.out.cell 10 rfl
    have f10 := R1.out.frozen 10 rfl
    have o11 := R1.out.cell 11 rfl
    have f11 := R1.out.frozen 11 rfl
    go_wp2_with fail
    generalize hW2 : World.setCell _ _ _ = W2
    have HP : Hid (LRow W2 (w.heap.size + 1) (cnL c0 (.slice none 0 0))) := by
      rw [← hW2]
      exact (((((((((((R1.out.set 0 _).set 1 _).set 2 _).set 3 _).set 4 _).set 5 _).set 6 _).set 7 _).set 8 _).set 9 _).set 10 _).set 11 _
    have HB2 : Hid (Below w.heap.size w W2) := by
      rw [← hW2]
      iterate 12 refine Below.setCell ?_ (show w.heap.size ≤ (w.heap.size + 1) by omega) _
      exact S1.out
    clear hW2 o0 f0 o1 f1 o2 f2 o3 f3 o4 f4 o5 f5 o6 f6 o7 f7 o8 f8 o9 f9 o10 f10 o11 f11
    have p0 := HP.out.cell 0 rfl
    have p1 := HP.out.cell 1 rfl
    have p2 := HP.out.cell 2 rfl
    have p3 := HP.out.cell 3 rfl
    have p4 := HP.out.cell 4 rfl
    have p5 := HP.out.cell 5 rfl
    have p6 := HP.out.cell 6 rfl
    have p7 := HP.out.cell 7 rfl
    have p8 := HP.out.cell 8 rfl
    have p9 := HP.out.cell 9 rfl
    have p10 := HP.out.cell 10 rfl
    have p11 := HP.out.cell 11 rfl
    exact bodyPost_ret (v := .tuple #[.agg #[.int .i64 0, .bool false, .bool false, .bool false, .bool false, .bool false, .bool false, .bool false, .bool false, .bool false, .bool false, .slice none 0 0], .int .i64 3]) (by simp [results, Try.results12, go_sem, cnL, c0, p0, p1, p2, p3, p4, p5, p6, p7, p8, p9, p10, p11]) rfl ⟨_, by rw [HDR.out (by rw [HEE.out]; decide), HEE.out]; rfl, by rw [HDR.out (by rw [HEE.out]; decide)]; exact ⟨none, 0, rfl, .inl rfl⟩, HB2.out⟩
  by_cases g3 : x < 0
  · skip
    have HEE : Hid (z = 3) := by show _ = _; rw [HZ1.out, if_pos (.inr (.inl g3))]
    have o0 := R1.out.cell 0 rfl
    have f0 := R1.out.frozen 0 rfl
    have o1 := R1.out.cell 1 rfl
    have f1 := R1.out.frozen 1 rfl
    have o2 := R1.out.cell 2 rfl
    have f2 := R1.out.frozen 2 rfl
    have o3 := R1.out.cell 3 rfl
    have f3 := R1.out.frozen 3 rfl
    have o4 := R1.out.cell 4 rfl
    have f4 := R1.out.frozen 4 rfl
    have o5 := R1.out.cell 5 rfl
    have f5 := R1.out.frozen 5 rfl
    have o6 := R1.out.cell 6 rfl
    have f6 := R1.out.frozen 6 rfl
    have o7 := R1.out.cell 7 rfl
    have f7 := R1.out.frozen 7 rfl
    have o8 := R1.out.cell 8 rfl
    have f8 := R1.out.frozen 8 rfl
    have o9 := R1.out.cell 9 rfl
    have f9 := R1.out.frozen 9 rfl
    have o10 := R1.out.cell 10 rfl
    have f10 := R1.out.frozen 10 rfl
    have o11 := R1.out.cell 11 rfl
    have f11 := R1.out.frozen 11 rfl
    go_wp2_with fail
    generalize hW2 : World.setCell _ _ _ = W2
    have HP : Hid (LRow W2 (w.heap.size + 1) (cnL c0 (.slice none 0 0))) := by
      rw [← hW2]
      exact (((((((((((R1.out.set 0 _).set 1 _).set 2 _).set 3 _).set 4 _).set 5 _).set 6 _).set 7 _).set 8 _).set 9 _).set 10 _).set 11 _
    have HB2 : Hid (Below w.heap.size w W2) := by
      rw [← hW2]
      iterate 12 refine Below.setCell ?_ (show w.heap.size ≤ (w.heap.size + 1) by omega) _
      exact S1.out
    clear hW2 o0 f0 o1 f1 o2 f2 o3 f3 o4 f4 o5 f5 o6 f6 o7 f7 o8 f8 o9 f9 o10 f10 o11 f11
    have p0 := HP.out.cell 0 rfl
    have p1 := HP.out.cell 1 rfl
    have p2 := HP.out.cell 2 rfl
    have p3 := HP.out.cell 3 rfl
    have p4 := HP.out.cell 4 rfl
    have p5 := HP.out.cell 5 rfl
    have p6 := HP.out.cell 6 rfl
    have p7 := HP.out.cell 7 rfl
    have p8 := HP.out.cell 8 rfl
    have p9 := HP.out.cell 9 rfl
    have p10 := HP.out.cell 10 rfl
    have p11 := HP.out.cell 11 rfl
    exact bodyPost_ret (v := .tuple #[.agg #[.int .i64 0, .bool false, .bool false, .bool false, .bool false, .bool false, .bool false, .bool false, .bool false, .bool false, .bool false, .slice none 0 0], .int .i64 3]) (by simp [results, Try.results12, go_sem, cnL, c0, p0, p1, p2, p3, p4, p5, p6, p7, p8, p9, p10, p11]) rfl ⟨_, by rw [HDR.out (by rw [HEE.out]; decide), HEE.out]; rfl, by rw [HDR.out (by rw [HEE.out]; decide)]; exact ⟨none, 0, rfl, .inl rfl⟩, HB2.out⟩
  by_cases g4 : 40 < x
  · skip
    have HEE : Hid (z = 3) := by show _ = _; rw [HZ1.out, if_pos (.inr (.inr g4))]
    have o0 := R1.out.cell 0 rfl
    have f0 := R1.out.frozen 0 rfl
    have o1 := R1.out.cell 1 rfl
    have f1 := R1.out.frozen 1 rfl
    have o2 := R1.out.cell 2 rfl
    have f2 := R1.out.frozen 2 rfl
    have o3 := R1.out.cell 3 rfl
    have f3 := R1.out.frozen 3 rfl
    have o4 := R1.out.cell 4 rfl
    have f4 := R1.out.frozen 4 rfl
    have o5 := R1.out.cell 5 rfl
    have f5 := R1.out.frozen 5 rfl
    have o6 := R1.out.cell 6 rfl
    have f6 := R1.out.frozen 6 rfl
    have o7 := R1.out.cell 7 rfl
    have f7 := R1.out.frozen 7 rfl
    have o8 := R1.out.cell 8 rfl
    have f8 := R1.out.frozen 8 rfl
    have o9 := R1.out.cell 9 rfl
    have f9 := R1.out.frozen 9 rfl
    have o10 := R1.out.cell 10 rfl
    have f10 := R1.out.frozen 10 rfl
    have o11 := R1.out.cell 11 rfl
    have f11 := R1.out.frozen 11 rfl
    go_wp2_with fail
    generalize hW2 : World.setCell _ _ _ = W2
    have HP : Hid (LRow W2 (w.heap.size + 1) (cnL c0 (.slice none 0 0))) := by
      rw [← hW2]
      exact (((((((((((R1.out.set 0 _).set 1 _).set 2 _).set 3 _).set 4 _).set 5 _).set 6 _).set 7 _).set 8 _).set 9 _).set 10 _).set 11 _
    have HB2 : Hid (Below w.heap.size w W2) := by
      rw [← hW2]
      iterate 12 refine Below.setCell ?_ (show w.heap.size ≤ (w.heap.size + 1) by omega) _
      exact S1.out
    clear hW2 o0 f0 o1 f1 o2 f2 o3 f3 o4 f4 o5 f5 o6 f6 o7 f7 o8 f8 o9 f9 o10 f10 o11 f11
    have p0 := HP.out.cell 0 rfl
    have p1 := HP.out.cell 1 rfl
    have p2 := HP.out.cell 2 rfl
    have p3 := HP.out.cell 3 rfl
    have p4 := HP.out.cell 4 rfl
    have p5 := HP.out.cell 5 rfl
    have p6 := HP.out.cell 6 rfl
    have p7 := HP.out.cell 7 rfl
    have p8 := HP.out.cell 8 rfl
    have p9 := HP.out.cell 9 rfl
    have p10 := HP.out.cell 10 rfl
    have p11 := HP.out.cell 11 rfl
    exact bodyPost_ret (v := .tuple #[.agg #[.int .i64 0, .bool false, .bool false, .bool false, .bool false, .bool false, .bool false, .bool false, .bool false, .bool false, .bool false, .slice none 0 0], .int .i64 3]) (by simp [results, Try.results12, go_sem, cnL, c0, p0, p1, p2, p3, p4, p5, p6, p7, p8, p9, p10, p11]) rfl ⟨_, by rw [HDR.out (by rw [HEE.out]; decide), HEE.out]; rfl, by rw [HDR.out (by rw [HEE.out]; decide)]; exact ⟨none, 0, rfl, .inl rfl⟩, HB2.out⟩
  have HZ2 : Hid (z = if now < c.g ∨ 68719476735 < now then 4 else 0) := by show _ = _; rw [HZ1.out, if_neg (by omega)]
  by_cases g5 : now < c.g
  · skip
    have HEE : Hid (z = 4) := by show _ = _; rw [HZ2.out, if_pos (.inl g5)]
    have o0 := R1.out.cell 0 rfl
    have f0 := R1.out.frozen 0 rfl
    have o1 := R1.out.cell 1 rfl
    have f1 := R1.out.frozen 1 rfl
    have o2 := R1.out.cell 2 rfl
    have f2 := R1.out.frozen 2 rfl
    have o3 := R1.out.cell 3 rfl
    have f3 := R1.out.frozen 3 rfl
    have o4 := R1.out.cell 4 rfl
    have f4 := R1.out.frozen 4 rfl
    have o5 := R1.out.cell 5 rfl
    have f5 := R1.out.frozen 5 rfl
    have o6 := R1.out.cell 6 rfl
    have f6 := R1.out.frozen 6 rfl
    have o7 := R1.out.cell 7 rfl
    have f7 := R1.out.frozen 7 rfl
    have o8 := R1.out.cell 8 rfl
    have f8 := R1.out.frozen 8 rfl
    have o9 := R1.out.cell 9 rfl
    have f9 := R1.out.frozen 9 rfl
    have o10 := R1.out.cell 10 rfl
    have f10 := R1.out.frozen 10 rfl
    have o11 := R1.out.cell 11 rfl
    have f11 := R1.out.frozen 11 rfl
    go_wp2_with fail
    generalize hW2 : World.setCell _ _ _ = W2
    have HP : Hid (LRow W2 (w.heap.size + 1) (cnL c0 (.slice none 0 0))) := by
      rw [← hW2]
      exact (((((((((((R1.out.set 0 _).set 1 _).set 2 _).set 3 _).set 4 _).set 5 _).set 6 _).set 7 _).set 8 _).set 9 _).set 10 _).set 11 _
    have HB2 : Hid (Below w.heap.size w W2) := by
      rw [← hW2]
      iterate 12 refine Below.setCell ?_ (show w.heap.size ≤ (w.heap.size + 1) by omega) _
      exact S1.out
    clear hW2 o0 f0 o1 f1 o2 f2 o3 f3 o4 f4 o5 f5 o6 f6 o7 f7 o8 f8 o9 f9 o10 f10 o11 f11
    have p0 := HP.out.cell 0 rfl
    have p1 := HP.out.cell 1 rfl
    have p2 := HP.out.cell 2 rfl
    have p3 := HP.out.cell 3 rfl
    have p4 := HP.out.cell 4 rfl
    have p5 := HP.out.cell 5 rfl
    have p6 := HP.out.cell 6 rfl
    have p7 := HP.out.cell 7 rfl
    have p8 := HP.out.cell 8 rfl
    have p9 := HP.out.cell 9 rfl
    have p10 := HP.out.cell 10 rfl
    have p11 := HP.out.cell 11 rfl
    exact bodyPost_ret (v := .tuple #[.agg #[.int .i64 0, .bool false, .bool false, .bool false, .bool false, .bool false, .bool false, .bool false, .bool false, .bool false, .bool false, .slice none 0 0], .int .i64 4]) (by simp [results, Try.results12, go_sem, cnL, c0, p0, p1, p2, p3, p4, p5, p6, p7, p8, p9, p10, p11]) rfl ⟨_, by rw [HDR.out (by rw [HEE.out]; decide), HEE.out]; rfl, by rw [HDR.out (by rw [HEE.out]; decide)]; exact ⟨none, 0, rfl, .inl rfl⟩, HB2.out⟩
  by_cases g6 : 68719476735 < now
  · skip
    have HEE : Hid (z = 4) := by show _ = _; rw [HZ2.out, if_pos (.inr g6)]
    have o0 := R1.out.cell 0 rfl
    have f0 := R1.out.frozen 0 rfl
    have o1 := R1.out.cell 1 rfl
    have f1 := R1.out.frozen 1 rfl
    have o2 := R1.out.cell 2 rfl
    have f2 := R1.out.frozen 2 rfl
    have o3 := R1.out.cell 3 rfl
    have f3 := R1.out.frozen 3 rfl
    have o4 := R1.out.cell 4 rfl
    have f4 := R1.out.frozen 4 rfl
    have o5 := R1.out.cell 5 rfl
    have f5 := R1.out.frozen 5 rfl
    have o6 := R1.out.cell 6 rfl
    have f6 := R1.out.frozen 6 rfl
    have o7 := R1.out.cell 7 rfl
    have f7 := R1.out.frozen 7 rfl
    have o8 := R1.out.cell 8 rfl
    have f8 := R1.out.frozen 8 rfl
    have o9 := R1.out.cell 9 rfl
    have f9 := R1.out.frozen 9 rfl
    have o10 := R1.out.cell 10 rfl
    have f10 := R1.out.frozen 10 rfl
    have o11 := R1.out.cell 11 rfl
    have f11 := R1.out.frozen 11 rfl
    go_wp2_with fail
    generalize hW2 : World.setCell _ _ _ = W2
    have HP : Hid (LRow W2 (w.heap.size + 1) (cnL c0 (.slice none 0 0))) := by
      rw [← hW2]
      exact (((((((((((R1.out.set 0 _).set 1 _).set 2 _).set 3 _).set 4 _).set 5 _).set 6 _).set 7 _).set 8 _).set 9 _).set 10 _).set 11 _
    have HB2 : Hid (Below w.heap.size w W2) := by
      rw [← hW2]
      iterate 12 refine Below.setCell ?_ (show w.heap.size ≤ (w.heap.size + 1) by omega) _
      exact S1.out
    clear hW2 o0 f0 o1 f1 o2 f2 o3 f3 o4 f4 o5 f5 o6 f6 o7 f7 o8 f8 o9 f9 o10 f10 o11 f11
    have p0 := HP.out.cell 0 rfl
    have p1 := HP.out.cell 1 rfl
    have p2 := HP.out.cell 2 rfl
    have p3 := HP.out.cell 3 rfl
    have p4 := HP.out.cell 4 rfl
    have p5 := HP.out.cell 5 rfl
    have p6 := HP.out.cell 6 rfl
    have p7 := HP.out.cell 7 rfl
    have p8 := HP.out.cell 8 rfl
    have p9 := HP.out.cell 9 rfl
    have p10 := HP.out.cell 10 rfl
    have p11 := HP.out.cell 11 rfl
    exact bodyPost_ret (v := .tuple #[.agg #[.int .i64 0, .bool false, .bool false, .bool false, .bool false, .bool false, .bool false, .bool false, .bool false, .bool false, .bool false, .slice none 0 0], .int .i64 4]) (by simp [results, Try.results12, go_sem, cnL, c0, p0, p1, p2, p3, p4, p5, p6, p7, p8, p9, p10, p11]) rfl ⟨_, by rw [HDR.out (by rw [HEE.out]; decide), HEE.out]; rfl, by rw [HDR.out (by rw [HEE.out]; decide)]; exact ⟨none, 0, rfl, .inl rfl⟩, HB2.out⟩
  have HZ0 : Hid (z = 0) := by show _ = _; rw [HZ2.out, if_neg (by omega)]
  have HD0 : Hid (d = dropC c p x now) := HDC.out HZ0.out
  clear HZ HZ1 HZ2 HDR HDC
  obtain ⟨O, hO⟩ : ∃ O, O = W1.heap.size := ⟨_, rfl⟩
  obtain ⟨W3, hW3⟩ : ∃ W, W = W1.alloc (.cells #[.int .i64 now, .bool false, .bool false, .bool false, .bool false, .bool false, .bool false, .bool false, .bool false, .bool false, .bool false, .slice none 0 0] 25) := ⟨_, rfl⟩
  obtain ⟨old, hold⟩ : ∃ f : Nat → Bool, f = fun _ => false := ⟨_, rfl⟩
  obtain ⟨nw, hnw⟩ : ∃ f : Nat → Bool, f = fun (j : Nat) => c.ps[j]?.getD false && decide (p ≠ (j : Int) + 1) := ⟨_, rfl⟩
  have R3 : Hid (LRow W3 O (rowN now old nw 0 (.slice none 0 0))) := by rw [hW3, hO, hold]; exact LRow.new W1 (rowN now (fun _ => false) nw 0 (.slice none 0 0)) 25
  have S13 : Below W1.heap.size W1 W3 := by rw [hW3]; exact below_new _ _
  have A3 : Hid (CB W3 w.heap.size c (.slice ad n cap)) := A1.out.below S13
  have RR3 : Hid (LRow W3 (w.heap.size + 1) (cnL c0 (.slice none 0 0))) := R1.out.below S13 (cell_in (R1.out.cell 0 rfl))
  have S3 : Hid (Below w.heap.size w W3) := next S1.out S13
  have HOL : Hid (w.heap.size + 1 < O) := by show _ < _; rw [hO]; exact cell_in (R1.out.cell 0 rfl)
  have HNW : Hid (∀ k, nw k = (c.ps[k]?.getD false && decide (p ≠ (k : Int) + 1))) := fun k => by rw [hnw]
  have HEND : Hid (∀ vv, rowN now old nw 10 vv = cnL (dropC c p x now) vv) := fun vv => by
    rw [hnw]
    unfold rowN cnL dropC
    simp only [List.range_succ, List.range_zero, List.map_append, List.map_cons, List.map_nil, List.nil_append, List.cons_append]
    rfl
  have HW3 : Hid _ := hW3
  have HOE : Hid _ := hO
  clear hW3 hO hold hnw S13 A1 R1 S1
  go_upto_region 9 with fail
  rw [← HW3.out, ← HOE.out]
  clear HW3 HOE a0 q1 g1 g2 g3 g4 g5 g6
  go_wp2_with fail
  go_loopw [12] (fun i wr => ∃ k : Nat, k ≤ 10 ∧ i = .int .i64 k ∧ Hid (LRow wr O (rowN now old nw k (.slice none 0 0))) ∧ Hid (Below O W3 wr)) (fun i _ => 10 - (intOf i).toNat)
  case atStart => exact ⟨0, Nat.zero_le _, rfl, R3, Below.refl _ _⟩
  case round =>
    obtain ⟨k, hk, rfl, hrow, hb⟩ := hrel
    have AR : Hid (LRow wr w.heap.size (cnL c (.slice ad n cap))) := A3.out.row.below hb.out (by have := HOL.out; omega)
    by_cases hlt : k < 10
    · obtain ⟨b, hbb⟩ : ∃ b, b = c.ps[k]?.getD false := ⟨_, rfl⟩
      have cx : wr.cell? ⟨w.heap.size, 1 + k, none⟩ = some (.bool b) := by rw [hbb]; exact AR.out.cell (1 + k) (ps_get c _ k hlt)
      obtain ⟨u, hu⟩ := rowN_get now old nw k k hlt (.slice none 0 0)
      have co : wr.cell? ⟨O, 1 + k, none⟩ = some u := hrow.out.cell (1 + k) hu
      have fo : wr.frozen? ⟨O, 1 + k, none⟩ = false := hrow.out.frozen (1 + k) hu
      have HS : Hid (∀ t, nw k = t → LRow (wr.setCell ⟨O, 1 + k, none⟩ (.bool t)) O (rowN now old nw (k + 1) (.slice none 0 0))) := fun t e => by rw [← rowN_set now old nw k hlt, e]; exact hrow.out.set (1 + k) _
      have HBS : Hid (∀ t, Below O W3 (wr.setCell ⟨O, 1 + k, none⟩ t)) := fun t => hb.out.setCell (p := ⟨O, 1 + k, none⟩) (Nat.le_refl _) t
      have HNK : Hid (nw k = (b && decide (p ≠ (k : Int) + 1))) := by show _ = _; rw [HNW.out, hbb]
      have hk2 : (k : Int) < 10 := by omega
      clear hbb hu
      cases b
      · go_wp2_with fail
        go_roundw
        case rel => exact ⟨k + 1, by omega, by go_num, HS.out false (by rw [HNK.out]; rfl), HBS.out _⟩
        case measure => simp [intOf]; omega
      · by_cases e : (k : Int) + 1 = p
        · have q : ((k : Int) + 1 != p) = false := by rw [e]; simp
          have HN2 : Hid (nw k = false) := by show _ = _; rw [HNK.out, e]; simp
          clear e
          go_wp2_with fail
          go_roundw
          case rel => exact ⟨k + 1, by omega, by go_num, HS.out false HN2.out, HBS.out _⟩
          case measure => simp [intOf]; omega
        · have q : ((k : Int) + 1 != p) = true := by rw [bne_iff_ne]; exact e
          have HN2 : Hid (nw k = true) := by show _ = _; rw [HNK.out]; have e' : p ≠ (k : Int) + 1 := fun h => e h.symm; simp [e']
          clear e
          go_wp2_with fail
          go_roundw
          case rel => exact ⟨k + 1, by omega, by go_num, HS.out true HN2.out, HBS.out _⟩
          case measure => simp [intOf]; omega
    · obtain ⟨k1, hk1'⟩ : ∃ k1, k1 = k := ⟨_, rfl⟩
      have hk10 : k1 = 10 := by omega
      rw [← hk1'] at hrow hlt ⊢
      rw [hk10] at hrow
      clear hk10 hk1'
      obtain ⟨W4, hW4⟩ : ∃ W, W = wr := ⟨_, rfl⟩
      rw [← hW4] at hrow hb AR ⊢
      have RR4 : Hid (LRow W4 (w.heap.size + 1) (cnL c0 (.slice none 0 0))) := RR3.out.below hb.out HOL.out
      have S4 : Hid (Below w.heap.size w W4) := S3.out.trans (hb.out.mono (by have := HOL.out; omega))
      clear hW4 hk hb A3 R3 RR3 S3
      have a11 := AR.out.cell 11 rfl
      have hn40 : n ≤ 40 := by rw [HN.out]; exact chC_len' HCH.out
      go_wp2_with fail
      clear a11
      go_loopw [13] (fun i wr => ∃ (k : Nat) (vv : Value), k ≤ n ∧ i = .int .i64 k ∧ Hid (LRow wr O (rowN now old nw 10 vv)) ∧ wr.ownsRow (O + 1) 3 1 vv (dAcc c.vs x k).length ((dAcc c.vs x k).flatMap intF) ∧ Hid (Below O W4 wr)) (fun i _ => n - (intOf i).toNat)
      case atStart => exact ⟨0, (.slice none 0 0), Nat.zero_le _, rfl, hrow, World.ownsRow_nil _ _ _ _, Below.refl _ _⟩
      case round =>
        obtain ⟨k, vv, hk, rfl, hrw, hown, hb⟩ := hrel
        obtain ⟨sad, scap, rfl⟩ := g_slice hown
        have A5 : Hid (LRow wr w.heap.size (cnL c (.slice ad n cap))) := AR.out.below hb.out (by have := HOL.out; omega)
        have RR5 : Hid (LRow wr (w.heap.size + 1) (cnL c0 (.slice none 0 0))) := RR4.out.below hb.out HOL.out
        have S5 : Hid (Below w.heap.size w wr) := S4.out.trans (hb.out.mono (by have := HOL.out; omega))
        have a11 := A5.out.cell 11 rfl
        by_cases hlt : k < n
        · obtain ⟨y, e1⟩ : ∃ y, c.vs[k]? = some y := ⟨_, List.getElem?_eq_getElem (by rw [← HN.out]; exact hlt)⟩
          obtain ⟨bl, ol, had, hbl, hcell⟩ := Rows.at (HRR.out wr S5.out) rfl 0 (fun _ => rfl) k y e1
          subst had
          have c0' : wr.cell? ⟨bl, ol + k, none⟩ = some (.int .i64 y) := by
            have h1 := hcell 0 _ rfl
            rw [show ol + k * (0 + 1) + 0 = ol + k by omega] at h1
            exact h1
          have cA : ∀ w', Below wr.heap.size wr w' → w'.cell? ⟨bl, ol + k, none⟩ = some (.int .i64 y) := fun w' h => (h.cell (p := ⟨bl, ol + k, none⟩) hbl).trans c0'
          obtain ⟨m, hm2⟩ : ∃ m, m = (dAcc c.vs x k).length := ⟨_, rfl⟩
          obtain ⟨xs, hxs⟩ : ∃ xs, xs = (dAcc c.vs x k).flatMap intF := ⟨_, rfl⟩
          have hmk : m ≤ k := by rw [hm2]; exact dAcc_len c.vs x k
          rw [← hm2, ← hxs] at hown
          rw [← hm2] at hrw
          have HMM : Hid _ := hm2
          have HXS : Hid _ := hxs
          have HE : Hid _ := e1
          have hk1 : (k : Int) < (n : Int) := by omega
          clear e1 hcell hbl hm2 hxs
          by_cases hyx : y = x
          · have q : (y != x) = false := by rw [hyx]; simp
            have HTK : Hid _ := dAcc_no c.vs x k y HE.out hyx
            clear hyx cA
            go_wp2_with fail
            go_roundw
            case rel => exact ⟨k + 1, _, by omega, by go_num, hrw, by rw [HTK.out, ← HMM.out, ← HXS.out]; exact hown, hb⟩
            case measure => simp [intOf]; omega
          · have q : (y != x) = true := by rw [bne_iff_ne]; exact hyx
            have HTK : Hid _ := dAcc_yes c.vs x k y HE.out hyx
            have HOW : Hid (O < wr.heap.size) := cell_in (hrw.out.cell 0 rfl)
            have hA : Below wr.heap.size wr ((wr.alloc (.cells #[.int .i64 y] 3)).drew) := ((Below.refl _ wr).alloc (Nat.le_refl _) _).drew
            have RA : Hid (LRow ((wr.alloc (.cells #[.int .i64 y] 3)).drew) O (rowN now old nw 10 (.slice sad m scap))) := hrw.out.below hA HOW.out
            have cc := hrw.out.cell 11 (rowN_v _ _ _ _ _)
            have ccf := hrw.out.frozen 11 (rowN_v _ _ _ _ _)
            have b1 : (wr.alloc (.cells #[.int .i64 y] 3)).cell? ⟨bl, ol + k, none⟩ = some (.int .i64 y) := cA _ (below_new _ _)
            have b2 : (wr.alloc (.cells #[.int .i64 y] 3)).cell? ⟨w.heap.size, 11, none⟩ = some (.slice (some ⟨bl, ol, none⟩) n cap) := (A5.out.below (below_new wr _) (by have := HOL.out; have := HOW.out; omega)).cell 11 rfl
            have b3 : (wr.alloc (.cells #[.int .i64 y] 3)).cell? ⟨O, 11, none⟩ = some (.slice sad m scap) := RA.out.cell 11 (rowN_v _ _ _ _ _)
            have NWR : Hid (Reads ((wr.alloc (.cells #[.int .i64 y] 3)).drew) (.slice (some ⟨wr.heap.size, 0, none⟩) 1 1) 1 [.int .i64 y]) := by
              have h := Rows.lit (f := intF) wr [y] 3 wr.heap.size 1 1 #[.int .i64 y] rfl rfl rfl
              exact h
            have OWA : Hid (((wr.alloc (.cells #[.int .i64 y] 3)).drew).ownsRow (O + 1) 3 1 (.slice sad m scap) m xs) := own_below hown hA (Nat.le_refl _)
            have LA : Hid (O + 1 ≤ ((wr.alloc (.cells #[.int .i64 y] 3)).drew).heap.size) := by show _ ≤ _; have := HOW.out; simp; omega
            have N2 : Hid (∀ z ∈ ([.int .i64 y] : List Value), z.oneCell' = true) := fun z hz => by simp at hz; subst hz; rfl
            have N3 : Hid (m + 1 ≤ maxLen) := by show _ ≤ _; unfold maxLen; omega
            have N4 : Hid ((m + 1) * 8 ≤ 140737488355328) := by show _ ≤ _; omega
            have HBA : Hid (Below O W4 ((wr.alloc (.cells #[.int .i64 y] 3)).drew)) := hb.out.trans (hA.mono (Nat.le_of_lt HOW.out))
            obtain ⟨i0, hi, hz0, hz1, hz2⟩ := g_infoInt
            clear hyx cA hA hown
            go_upto_region 17 with fail
            go_region_law (first
              | (refine step_append_reads (by rfl) (.tmp 84) (.tmp 90) 23 (by rfl) (O + 1) 3 i0 (.int .i64 0) 1 8 Try.underlying23 hi hz0 hz1 hz2 rfl (by decide) _ m xs (by rfl) OWA.out _ (by rfl) 1 [.int .i64 y] NWR.out rfl N2.out N3.out N4.out LA.out ?_; intro v7 w7 hown7 hg7; obtain ⟨ad7, cap7, rfl⟩ := g_slice hown7; have hb7 : Below (O + 1) ((wr.alloc (.cells #[.int .i64 y] 3)).drew) w7 := (Below.refl (O + 1) _).grown hg7 LA.out (fun q e => (OWA.out.lt q e).1); have R7 : Hid (LRow w7 O (rowN now old nw 10 (.slice sad m scap))) := RA.out.below hb7 (Nat.lt_succ_self O); have c7 := R7.out.cell 11 (rowN_v _ _ _ _ _); have f7 := R7.out.frozen 11 (rowN_v _ _ _ _ _))
              | fail)
            all_goals
              have R8 : Hid (LRow (w7.setCell ⟨O, 11, none⟩ (.slice ad7 (m + 1) cap7)) O (rowN now old nw 10 (.slice ad7 (m + 1) cap7))) := R7.out.set 11 _
              have O8 : Hid ((w7.setCell ⟨O, 11, none⟩ (.slice ad7 (m + 1) cap7)).ownsRow (O + 1) 3 1 (.slice ad7 (m + 1) cap7) (m + 1) (xs ++ [.int .i64 y])) := own_setR hown7 (Nat.lt_succ_self O)
              have B8 : Hid (Below O W4 (w7.setCell ⟨O, 11, none⟩ (.slice ad7 (m + 1) cap7))) := (HBA.out.trans (hb7.mono (Nat.le_succ O))).setCell (p := ⟨O, 11, none⟩) (Nat.le_refl _) _
              clear hown7 hg7 hb7 c7 f7 cc ccf b1 b2 b3 hi hz0 hz1 hz2 c0' a11
              go_wp2_with fail
              go_roundw
              case rel => exact ⟨k + 1, _, by omega, by go_num, R8, by rw [HTK.out, List.length_append, List.flatMap_append, ← HMM.out, ← HXS.out]; exact O8.out, B8⟩
              case measure => simp [intOf]; omega
        · obtain rfl : k = n := by omega
          have HAL : Hid (dAcc c.vs x k = (dropC c p x now).vs) := by show _ = _; unfold dAcc; rw [List.take_of_length_le (by rw [← HN.out]; exact Nat.le_refl _)]; rfl
          obtain ⟨m, hm2⟩ : ∃ m, m = (dAcc c.vs x k).length := ⟨_, rfl⟩
          rw [← hm2] at hrw hown
          have HRW : Hid (LRow wr O (cnL (dropC c p x now) (.slice sad m scap))) := by show LRow _ _ _; rw [← HEND.out]; exact hrw.out
          have HML : Hid (m = (dropC c p x now).vs.length) := by show _ = _; rw [hm2, HAL.out]
          rw [HAL.out] at hown
          have OWN : Hid (wr.ownsRow (O + 1) 3 1 (.slice sad m scap) m ((dropC c p x now).vs.flatMap intF)) := hown
          obtain ⟨rc, hrc⟩ : ∃ r, r = dropC c p x now := ⟨_, rfl⟩
          rw [← hrc] at HRW HD0 HML OWN
          clear hown hm2 hrw hrc HAL HEND
          have z0 := HRW.out.cell 0 rfl
          have o0 := RR5.out.cell 0 rfl
          have f0 := RR5.out.frozen 0 rfl
          have z1 := HRW.out.cell 1 rfl
          have o1 := RR5.out.cell 1 rfl
          have f1 := RR5.out.frozen 1 rfl
          have z2 := HRW.out.cell 2 rfl
          have o2 := RR5.out.cell 2 rfl
          have f2 := RR5.out.frozen 2 rfl
          have z3 := HRW.out.cell 3 rfl
          have o3 := RR5.out.cell 3 rfl
          have f3 := RR5.out.frozen 3 rfl
          have z4 := HRW.out.cell 4 rfl
          have o4 := RR5.out.cell 4 rfl
          have f4 := RR5.out.frozen 4 rfl
          have z5 := HRW.out.cell 5 rfl
          have o5 := RR5.out.cell 5 rfl
          have f5 := RR5.out.frozen 5 rfl
          have z6 := HRW.out.cell 6 rfl
          have o6 := RR5.out.cell 6 rfl
          have f6 := RR5.out.frozen 6 rfl
          have z7 := HRW.out.cell 7 rfl
          have o7 := RR5.out.cell 7 rfl
          have f7 := RR5.out.frozen 7 rfl
          have z8 := HRW.out.cell 8 rfl
          have o8 := RR5.out.cell 8 rfl
          have f8 := RR5.out.frozen 8 rfl
          have z9 := HRW.out.cell 9 rfl
          have o9 := RR5.out.cell 9 rfl
          have f9 := RR5.out.frozen 9 rfl
          have z10 := HRW.out.cell 10 rfl
          have o10 := RR5.out.cell 10 rfl
          have f10 := RR5.out.frozen 10 rfl
          have z11 := HRW.out.cell 11 rfl
          have o11 := RR5.out.cell 11 rfl
          have f11 := RR5.out.frozen 11 rfl
          go_wp2_with fail
          generalize hW2 : World.setCell _ _ _ = W2
          have HP : Hid (LRow W2 (w.heap.size + 1) (cnL rc (.slice sad m scap))) := by
            rw [← hW2]
            exact (((((((((((RR5.out.set 0 _).set 1 _).set 2 _).set 3 _).set 4 _).set 5 _).set 6 _).set 7 _).set 8 _).set 9 _).set 10 _).set 11 _
          have HB2 : Hid (Below w.heap.size w W2) := by
            rw [← hW2]
            iterate 12 refine Below.setCell ?_ (show w.heap.size ≤ (w.heap.size + 1) by omega) _
            exact S5.out
          have OW2 : Hid (W2.ownsRow (O + 1) 3 1 (.slice sad m scap) m (rc.vs.flatMap intF)) := by
            rw [← hW2]
            iterate 12 refine own_setR ?_ (show w.heap.size + 1 < O + 1 by have := HOL.out; omega)
            exact OWN.out
          have RVF : Hid (Rows W2 (.slice sad m scap) intF rc.vs) := by
            have h := Reads.of_own OW2.out
            rw [HML.out] at h ⊢
            exact h
          clear hW2 o0 f0 o1 f1 o2 f2 o3 f3 o4 f4 o5 f5 o6 f6 o7 f7 o8 f8 o9 f9 o10 f10 o11 f11 z0 z1 z2 z3 z4 z5 z6 z7 z8 z9 z10 z11
          have p0 := HP.out.cell 0 rfl
          have p1 := HP.out.cell 1 rfl
          have p2 := HP.out.cell 2 rfl
          have p3 := HP.out.cell 3 rfl
          have p4 := HP.out.cell 4 rfl
          have p5 := HP.out.cell 5 rfl
          have p6 := HP.out.cell 6 rfl
          have p7 := HP.out.cell 7 rfl
          have p8 := HP.out.cell 8 rfl
          have p9 := HP.out.cell 9 rfl
          have p10 := HP.out.cell 10 rfl
          have p11 := HP.out.cell 11 rfl
          exact bodyPost_ret (v := .tuple #[.agg (cnL rc (.slice sad m scap)).toArray, .int .i64 0]) (by simp [results, Try.results12, go_sem, cnL, c0, p0, p1, p2, p3, p4, p5, p6, p7, p8, p9, p10, p11]) rfl ⟨_, by rw [HD0.out, HZ0.out], by rw [HD0.out]; exact RVF.out, HB2.out⟩
end Go.Proofs.Ytklpfbakjiaaoaa
