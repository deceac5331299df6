/- The contracts of Meet and Join. -/
import Derived.Test.YtcfdajaideidkaaGrantC
namespace Go.Proofs.Ytcfdajaideidkaa
open Go.RowKit Go.Maps
set_option linter.all false
set_option maxRecDepth 100000
set_option maxRecDepth 100000

theorem g_infoInt : ∃ i, Try.prog.info? 3 = some i ∧ i.zero = some (.int .i64 0) ∧ i.size = 1 ∧ i.bytes = 8 := by
  have h : (Try.prog.info? 3).map (fun i => (i.zero, i.size, i.bytes)) = some (some (.int .i64 0), 1, 8) := by kernel_rfl
  cases hx : Try.prog.info? 3 with
  | none => rw [hx] at h; cases h
  | some i =>
    rw [hx] at h
    injection h with h
    injection h with h1 h2
    injection h2 with h2 h3
    exact ⟨i, rfl, h1, h2, h3⟩
theorem g_slice {W : World} {base : Nat} {e : TypeId} {size : Nat} {v : Value} {n : Nat} {cs : List Value} (h : W.ownsRow base e size v n cs) : ∃ ad cap, v = .slice ad n cap := by
  rcases h.2 with ⟨h1, h2⟩ | ⟨g, cap, cur, h1, _⟩
  · exact ⟨none, 0, by rw [h1, h2]⟩
  · exact ⟨_, cap, h1⟩
theorem g_cell1 (W : World) (B : Nat) (x : Value) (t : TypeId) (hB : B = W.heap.size) : ∀ j u, [x][j]? = some u → (W.alloc (.cells #[x] t)).cell? ((⟨B, 0, none⟩ : Addr).add j) = some u := by
  subst hB
  intro j u hj
  match j, hj with
  | 0, hj => simp at hj; subst hj; simp [Addr.add]
set_option maxHeartbeats 400000 in
theorem keepM (x y : Bool) (w : World) : Calls Try.prog 47 #[.bool x, .bool y] w fun e w' => e = .returned (.bool (x && y)) ∧ w' = w := by
  cases x <;> cases y <;> (go_enter Try.func47, Try.ntmps47; go_wp2; go_ret; exact ⟨rfl, rfl⟩)
set_option maxHeartbeats 400000 in
theorem keepJ (x y : Bool) (w : World) : Calls Try.prog 64 #[.bool x, .bool y] w fun e w' => e = .returned (.bool (x || y)) ∧ w' = w := by
  cases x <;> cases y <;> (go_enter Try.func64, Try.ntmps64; go_wp2; go_ret; exact ⟨rfl, rfl⟩)
/-- the purposes so far -/
def someP (op : Bool → Bool → Bool) (a b : Cn) (k j : Nat) : Bool := decide (j < k) && op (a.ps[j]?.getD false) (b.ps[j]?.getD false)
def rowP (op : Bool → Bool → Bool) (a b : Cn) (k : Nat) (v : Value) : List Value := .int .i64 (max a.g b.g) :: ((List.range 10).map (fun j => .bool (someP op a b k j)) ++ [v])
theorem rowP_set (op : Bool → Bool → Bool) (a b : Cn) (k : Nat) (hk : k < 10) (v : Value) : (rowP op a b k v).set (1 + k) (.bool (op (a.ps[k]?.getD false) (b.ps[k]?.getD false))) = rowP op a b (k + 1) v := by
  rcases ten k hk with rfl | rfl | rfl | rfl | rfl | rfl | rfl | rfl | rfl | rfl <;> rfl
theorem rowP_end (op : Bool → Bool → Bool) (a b : Cn) (v : Value) : rowP op a b 10 v = cnL (bothC op a b) v := rfl
theorem rowP_get (op : Bool → Bool → Bool) (a b : Cn) (k : Nat) (hk : k < 10) (v : Value) : ∃ u, (rowP op a b k v)[1 + k]? = some u := by
  rcases ten k hk with rfl | rfl | rfl | rfl | rfl | rfl | rfl | rfl | rfl | rfl <;> exact ⟨_, rfl⟩
theorem all40_get (k : Nat) (h : k < 40) : all40[k]? = some ((k + 1 : Nat) : Int) := by
  unfold all40
  rw [List.getElem?_map, List.getElem?_range h]; rfl
theorem g_lower {W : World} {b b' : Nat} {e : TypeId} {size : Nat} {v : Value} {n : Nat} {cs : List Value} (h : W.ownsRow b e size v n cs) (hb : b' ≤ b) : W.ownsRow b' e size v n cs := by
  obtain ⟨hl, h⟩ := h
  refine ⟨hl, ?_⟩
  rcases h with h | ⟨g, cap, cur, h1, h2, h3⟩
  · exact .inl h
  · exact .inr ⟨g, cap, cur, h1, Nat.le_trans hb h2, h3⟩
theorem set_ne {W : World} {b O : Nat} {l : List Int} {k : Nat} {v : Value} (h : SetAt W b l) (hc : W.cell? ⟨O, k, none⟩ = some v) : b ≠ O := by
  rintro rfl
  obtain ⟨n, es, clock, h1, _⟩ := h
  simp [World.cell?, h1] at hc
theorem set_grown {W W' : World} {b O : Nat} {l : List Int} (h : SetAt W b l) (hg : W.grownBy W' (some O)) (hne : b ≠ O) : SetAt W' b l := by
  obtain ⟨n, h⟩ := h
  exact ⟨n, h.kept hg (by intro e; injection e with e; exact hne e)⟩
theorem g_below {w W W' : World} {O : Nat} (h : w.grownBy W (some O)) (hb : Below W.heap.size W W') : w.grownBy W' (some O) :=
  ⟨hb.os.trans h.os, hb.tape.trans h.tape, hb.output.trans h.output, Nat.le_trans h.size hb.size, fun k hk hne => (hb.block k (Nat.lt_of_lt_of_le hk h.size)).trans (h.block k hk hne)⟩
theorem g_grown {w W W' : World} {O : Nat} {row : Option Nat} (h : w.grownBy W (some O)) (hg : W.grownBy W' row) (hr : ∀ q, row = some q → w.heap.size ≤ q) : w.grownBy W' (some O) :=
  ⟨hg.os.trans h.os, hg.tape.trans h.tape, hg.output.trans h.output, Nat.le_trans h.size hg.size, fun k hk hne => (hg.block k (Nat.lt_of_lt_of_le hk h.size) (fun e => by have := hr k e.symm; omega)).trans (h.block k hk hne)⟩
theorem g_set {w W : World} {O : Nat} (h : w.grownBy W (some O)) (j : Nat) (x : Value) : w.grownBy (W.setCell ⟨O, j, none⟩ x) (some O) :=
  ⟨h.os, h.tape, h.output, by simpa using h.size, fun k hk hne => (Below.heap_setCell _ _ _ _ (fun e => hne (by rw [show k = O from by first | exact e | exact e.symm]))).trans (h.block k hk hne)⟩
theorem row_grown {W W' : World} {B : Nat} {l : List Value} {row : Option Nat} (h : LRow W B l) (hg : W.grownBy W' row) (hlt : B < W.heap.size) (hne : some B ≠ row) : LRow W' B l := by
  have hb := hg.block B hlt hne
  refine ⟨fun j v hj => ?_⟩
  obtain ⟨h1, h2⟩ := h.all j v hj
  refine ⟨?_, ?_⟩
  · rw [← h1]; exact World.cell?_of_block (a := ⟨B, j, none⟩) hb
  · rw [← h2]; simp [World.frozen?, hb]
theorem own_set' {W : World} {base : Nat} {e : TypeId} {size : Nat} {v : Value} {n : Nat} {cs : List Value} {X k : Nat} {x : Value} (h : W.ownsRow base e size v n cs) (hX : X < base) : (W.setCell ⟨X, k, none⟩ x).ownsRow base e size v n cs := by
  refine h.kept (row := some X) (g_set ⟨rfl, rfl, rfl, Nat.le_refl _, fun _ _ _ => rfl⟩ k x) (Or.inr fun e => ?_)
  have := (h.lt X e).1
  omega
def vtake (op : Bool → Bool → Bool) (a b : Cn) (k : Nat) : List Int := (all40.take k).filter fun v => op (a.vs.contains v) (b.vs.contains v)
theorem vtake_all (op : Bool → Bool → Bool) (a b : Cn) : vtake op a b 40 = bothV op a b := by
  unfold vtake bothV
  rw [List.take_of_length_le (by decide)]
theorem vtake_len (op : Bool → Bool → Bool) (a b : Cn) (k : Nat) : (vtake op a b k).length ≤ k := by
  have h1 := List.length_filter_le (fun v => op (a.vs.contains v) (b.vs.contains v)) (all40.take k)
  have h2 : (all40.take k).length ≤ k := by rw [List.length_take]; omega
  unfold vtake; omega
theorem vtake_succ (op : Bool → Bool → Bool) (a b : Cn) (k : Nat) (h : k < 40) : vtake op a b (k + 1) = vtake op a b k ++ [(k : Int) + 1].filter fun v => op (a.vs.contains v) (b.vs.contains v) := by
  unfold vtake
  rw [List.take_succ, all40_get k h, List.filter_append]
  rfl
theorem vtake_yes (op : Bool → Bool → Bool) (a b : Cn) (k : Nat) (h : k < 40) (hv : op (a.vs.contains ((k : Int) + 1)) (b.vs.contains ((k : Int) + 1)) = true) : vtake op a b (k + 1) = vtake op a b k ++ [(k : Int) + 1] := by
  rw [vtake_succ op a b k h, List.filter_cons_of_pos (by exact hv), List.filter_nil]
theorem vtake_no (op : Bool → Bool → Bool) (a b : Cn) (k : Nat) (h : k < 40) (hv : op (a.vs.contains ((k : Int) + 1)) (b.vs.contains ((k : Int) + 1)) = false) : vtake op a b (k + 1) = vtake op a b k := by
  rw [vtake_succ op a b k h, List.filter_cons_of_neg (by rw [hv]; decide), List.filter_nil, List.append_nil]
set_option maxHeartbeats 16000000 in
theorem ofBoth_any (F : Nat) (op : Bool → Bool → Bool) (kp : ∀ x y w, Calls Try.prog F #[.bool x, .bool y] w fun e w' => e = .returned (.bool (op x y)) ∧ w' = w) (ek : ∀ args w, (callFunc F args).run Try.prog w = .ok (.enter F args) w)
    (a b : Cn) (va vb : Value) (w : World) (hra : Rows w va intF a.vs) (hrb : Rows w vb intF b.vs) (hma : a.vs.length ≤ 140737488351232) (hmb : b.vs.length ≤ 140737488351232) (hia : inR a.vs) (hib : inR b.vs) :
    Calls Try.prog 46 #[.agg #[.int .i64 a.g, .bool a.b0, .bool a.b1, .bool a.b2, .bool a.b3, .bool a.b4, .bool a.b5, .bool a.b6, .bool a.b7, .bool a.b8, .bool a.b9, va], .agg #[.int .i64 b.g, .bool b.b0, .bool b.b1, .bool b.b2, .bool b.b3, .bool b.b4, .bool b.b5, .bool b.b6, .bool b.b7, .bool b.b8, .bool b.b9, vb], .func (.func F) #[] #[]] w fun e w' => ∃ v, e = .returned (.tuple #[.agg (cnL (bothR op a b) v).toArray, .int .i64 (bothE a b)]) ∧ w'.ownsRow w.heap.size 3 1 v (bothR op a b).vs.length ((bothR op a b).vs.flatMap intF) ∧ Below w.heap.size w w' := by
  obtain ⟨i0, hi, hz0, hz1, hz2⟩ := g_infoInt
  obtain ⟨z, hz⟩ : ∃ z, z = bothE a b := ⟨_, rfl⟩
  have KA : Hid (∀ w', Below w.heap.size w w' → Calls Try.prog 23 #[.agg #[.int .i64 a.g, .bool a.b0, .bool a.b1, .bool a.b2, .bool a.b3, .bool a.b4, .bool a.b5, .bool a.b6, .bool a.b7, .bool a.b8, .bool a.b9, va]] w' fun e w'' => e = .returned (.int .i64 (chC a)) ∧ Below w'.heap.size w' w'') := fun w' h => check_any a va w' (Rows.below hra h (Nat.le_refl _)) (by unfold maxLen; omega)
  have KB : Hid (∀ w', Below w.heap.size w w' → Calls Try.prog 23 #[.agg #[.int .i64 b.g, .bool b.b0, .bool b.b1, .bool b.b2, .bool b.b3, .bool b.b4, .bool b.b5, .bool b.b6, .bool b.b7, .bool b.b8, .bool b.b9, vb]] w' fun e w'' => e = .returned (.int .i64 (chC b)) ∧ Below w'.heap.size w' w'') := fun w' h => check_any b vb w' (Rows.below hrb h (Nat.le_refl _)) (by unfold maxLen; omega)
  have VA : Hid (∀ w', Below w.heap.size w w' → Calls Try.prog 49 #[.agg #[.int .i64 a.g, .bool a.b0, .bool a.b1, .bool a.b2, .bool a.b3, .bool a.b4, .bool a.b5, .bool a.b6, .bool a.b7, .bool a.b8, .bool a.b9, va]] w' fun e w'' => (∃ b', e = .returned (.map (some b')) ∧ SetAt w'' b' a.vs) ∧ Below w'.heap.size w' w'') := fun w' h => vendorsOf_any a va w' (Rows.below hra h (Nat.le_refl _)) hma hia
  have VB : Hid (∀ w', Below w.heap.size w w' → Calls Try.prog 49 #[.agg #[.int .i64 b.g, .bool b.b0, .bool b.b1, .bool b.b2, .bool b.b3, .bool b.b4, .bool b.b5, .bool b.b6, .bool b.b7, .bool b.b8, .bool b.b9, vb]] w' fun e w'' => (∃ b', e = .returned (.map (some b')) ∧ SetAt w'' b' b.vs) ∧ Below w'.heap.size w' w'') := fun w' h => vendorsOf_any b vb w' (Rows.below hrb h (Nat.le_refl _)) hmb hib
  obtain ⟨ca, hca⟩ : ∃ x, x = chC a := ⟨_, rfl⟩
  obtain ⟨cb, hcb⟩ : ∃ x, x = chC b := ⟨_, rfl⟩
  rw [← hca] at KA
  rw [← hcb] at KB
  have HZ : Hid (z = if ca = 0 then cb else ca) := by show _ = _; rw [hz, hca, hcb]; rfl
  have HZE : Hid _ := hz
  rw [← hz]
  obtain ⟨W0, hW0⟩ : ∃ W0, W0 = ((w.alloc (.cells #[.int .i64 a.g, .bool a.b0, .bool a.b1, .bool a.b2, .bool a.b3, .bool a.b4, .bool a.b5, .bool a.b6, .bool a.b7, .bool a.b8, .bool a.b9, va] 32)).alloc (.cells #[.int .i64 b.g, .bool b.b0, .bool b.b1, .bool b.b2, .bool b.b3, .bool b.b4, .bool b.b5, .bool b.b6, .bool b.b7, .bool b.b8, .bool b.b9, vb] 32)).alloc (.cells #[.int .i64 0, .bool false, .bool false, .bool false, .bool false, .bool false, .bool false, .bool false, .bool false, .bool false, .bool false, .slice none 0 0] 32) := ⟨_, rfl⟩
  have HB0 : Hid (Below w.heap.size w W0) := by rw [hW0]; exact (((Below.refl _ w).alloc (Nat.le_refl _) _).alloc (by simp) _).alloc (by simp; omega) _
  have HLA : Hid (LRow W0 w.heap.size (cnL a va)) := by
    rw [hW0]
    exact ((LRow.new w (cnL a va) 32).below ((Below.refl _ _).alloc (Nat.le_refl _) _) (by simp)).below ((Below.refl _ _).alloc (Nat.le_refl _) _) (by simp; omega)
  have HLB : Hid (LRow W0 (w.heap.size + 1) (cnL b vb)) := by
    rw [hW0]
    have h := LRow.new (w.alloc (.cells #[.int .i64 a.g, .bool a.b0, .bool a.b1, .bool a.b2, .bool a.b3, .bool a.b4, .bool a.b5, .bool a.b6, .bool a.b7, .bool a.b8, .bool a.b9, va] 32)) (cnL b vb) 32
    rw [show (w.alloc (.cells #[.int .i64 a.g, .bool a.b0, .bool a.b1, .bool a.b2, .bool a.b3, .bool a.b4, .bool a.b5, .bool a.b6, .bool a.b7, .bool a.b8, .bool a.b9, va] 32)).heap.size = w.heap.size + 1 from by simp] at h
    exact h.below ((Below.refl _ _).alloc (Nat.le_refl _) _) (by simp)
  have HLO : Hid (LRow W0 (w.heap.size + 1 + 1) (cnL c0 (.slice none 0 0))) := by
    rw [hW0]
    have h := LRow.new ((w.alloc (.cells #[.int .i64 a.g, .bool a.b0, .bool a.b1, .bool a.b2, .bool a.b3, .bool a.b4, .bool a.b5, .bool a.b6, .bool a.b7, .bool a.b8, .bool a.b9, va] 32)).alloc (.cells #[.int .i64 b.g, .bool b.b0, .bool b.b1, .bool b.b2, .bool b.b3, .bool b.b4, .bool b.b5, .bool b.b6, .bool b.b7, .bool b.b8, .bool b.b9, vb] 32)) (cnL c0 (.slice none 0 0)) 32
    rw [show ((w.alloc (.cells #[.int .i64 a.g, .bool a.b0, .bool a.b1, .bool a.b2, .bool a.b3, .bool a.b4, .bool a.b5, .bool a.b6, .bool a.b7, .bool a.b8, .bool a.b9, va] 32)).alloc (.cells #[.int .i64 b.g, .bool b.b0, .bool b.b1, .bool b.b2, .bool b.b3, .bool b.b4, .bool b.b5, .bool b.b6, .bool b.b7, .bool b.b8, .bool b.b9, vb] 32)).heap.size = w.heap.size + 1 + 1 from by simp] at h
    exact h
  have HLT : Hid (W0.heap.size = w.heap.size + 3) := by show _ = _; rw [hW0]; simp
  have HW0 : Hid _ := hW0
  have HRA : Hid _ := hra
  have HRB : Hid _ := hrb
  have HMA : Hid _ := hma
  have HMB : Hid _ := hmb
  have HIA : Hid _ := hia
  have HIB : Hid _ := hib
  clear hz hra hrb hia hib hma hmb hW0 hca hcb
  go_enter Try.func46, Try.ntmps46
  go_upto_region 1 with fail
  rw [← HW0.out]
  clear HW0
  have a0 := HLA.out.cell 0 rfl
  have a1 := HLA.out.cell 1 rfl
  have a2 := HLA.out.cell 2 rfl
  have a3 := HLA.out.cell 3 rfl
  have a4 := HLA.out.cell 4 rfl
  have a5 := HLA.out.cell 5 rfl
  have a6 := HLA.out.cell 6 rfl
  have a7 := HLA.out.cell 7 rfl
  have a8 := HLA.out.cell 8 rfl
  have a9 := HLA.out.cell 9 rfl
  have a10 := HLA.out.cell 10 rfl
  have a11 := HLA.out.cell 11 rfl
  go_wp2_with fail
  refine (KA.out _ HB0.out).mono ?_
  rintro e w1 ⟨rfl, hb1⟩
  have HB1 : Hid (Below w.heap.size w w1) := HB0.out.trans (hb1.mono HB0.out.size)
  have HA1 : Hid _ := HLA.out.below hb1 (by have := HLT.out; omega)
  have HBB1 : Hid _ := HLB.out.below hb1 (by have := HLT.out; omega)
  have HO1 : Hid _ := HLO.out.below hb1 (by have := HLT.out; omega)
  have HL1 : Hid (w.heap.size + 3 ≤ w1.heap.size) := by have := hb1.size; have := HLT.out; show _ ≤ _; omega
  clear hb1 a0 a1 a2 a3 a4 a5 a6 a7 a8 a9 a10 a11
  by_cases hca : ca = 0
  · have hne : (ca != 0) = false := by rw [hca]; rfl
    have HZ3 : Hid (z = cb) := by show _ = _; rw [HZ.out, if_pos hca]
    have HCA : Hid _ := hca
    clear hca
    have b0 := HBB1.out.cell 0 rfl
    have b1 := HBB1.out.cell 1 rfl
    have b2 := HBB1.out.cell 2 rfl
    have b3 := HBB1.out.cell 3 rfl
    have b4 := HBB1.out.cell 4 rfl
    have b5 := HBB1.out.cell 5 rfl
    have b6 := HBB1.out.cell 6 rfl
    have b7 := HBB1.out.cell 7 rfl
    have b8 := HBB1.out.cell 8 rfl
    have b9 := HBB1.out.cell 9 rfl
    have b10 := HBB1.out.cell 10 rfl
    have b11 := HBB1.out.cell 11 rfl
    go_wp2_with fail
    refine (KB.out _ HB1.out).mono ?_
    rintro e w2 ⟨rfl, hb2⟩
    have HB2' : Hid (Below w.heap.size w w2) := HB1.out.trans (hb2.mono HB1.out.size)
    have HA2 : Hid _ := HA1.out.below hb2 (by have := HL1.out; omega)
    have HBB2 : Hid _ := HBB1.out.below hb2 (by have := HL1.out; omega)
    have HO2 : Hid _ := HO1.out.below hb2 (by have := HL1.out; omega)
    have HL2 : Hid (w.heap.size + 3 ≤ w2.heap.size) := by have := hb2.size; have := HL1.out; show _ ≤ _; omega
    clear hb2 b0 b1 b2 b3 b4 b5 b6 b7 b8 b9 b10 b11 hne
    by_cases hcb : cb = 0
    · have hne : (cb != 0) = false := by rw [hcb]; rfl
      have HZ0 : Hid (bothE a b = 0) := by show _ = _; rw [← HZE.out, HZ3.out, hcb]
      have HZ4 : Hid (z = 0) := by show _ = _; rw [HZ3.out, hcb]
      clear hcb
      have a0 := HA2.out.cell 0 rfl
      have b0 := HBB2.out.cell 0 rfl
      obtain ⟨mg, hmg⟩ : ∃ m, m = max a.g b.g := ⟨_, rfl⟩
      have hmg' : max a.g b.g = mg := hmg.symm
      have HMG : Hid _ := hmg
      clear hmg
      go_upto_region 8 with fail
      obtain ⟨O, hO⟩ : ∃ O, O = w2.heap.size := ⟨_, rfl⟩
      obtain ⟨W3, hW3⟩ : ∃ W, W = w2.alloc (.cells #[.int .i64 mg, .bool false, .bool false, .bool false, .bool false, .bool false, .bool false, .bool false, .bool false, .bool false, .bool false, .slice none 0 0] 32) := ⟨_, rfl⟩
      rw [← hW3, ← hO]
      have R3 : Hid (LRow W3 O (rowP op a b 0 (.slice none 0 0))) := by
        rw [hW3, hO]
        have h := LRow.new w2 (rowP op a b 0 (.slice none 0 0)) 32
        have e : (rowP op a b 0 (.slice none 0 0)).toArray = #[.int .i64 mg, .bool false, .bool false, .bool false, .bool false, .bool false, .bool false, .bool false, .bool false, .bool false, .bool false, .slice none 0 0] := by
          rw [HMG.out]; rfl
        rw [e] at h
        exact h
      have n3 : Below w2.heap.size w2 W3 := by rw [hW3]; exact (Below.refl _ _).alloc (Nat.le_refl _) _
      have HA3 : Hid _ := HA2.out.below n3 (by have := HL2.out; omega)
      have HBB3 : Hid _ := HBB2.out.below n3 (by have := HL2.out; omega)
      have HO3 : Hid _ := HO2.out.below n3 (by have := HL2.out; omega)
      have HB3 : Hid (Below w.heap.size w W3) := HB2'.out.trans (n3.mono HB2'.out.size)
      have HOL : Hid (w.heap.size + 3 ≤ O ∧ O < W3.heap.size) := ⟨by rw [hO]; exact HL2.out, by rw [hW3, hO]; simp⟩
      clear n3 hW3 hO a0 b0 HA2 HBB2 HO2 HB2' HL2
      go_wp2_with fail
      go_loopw [33] (fun i wr => ∃ k : Nat, k ≤ 10 ∧ i = .int .i64 k ∧ Hid (LRow wr O (rowP op a b k (.slice none 0 0))) ∧ Hid (Below O W3 wr)) (fun i _ => 10 - (intOf i).toNat)
      case atStart => exact ⟨0, Nat.zero_le _, rfl, R3.out, Below.refl _ _⟩
      case round =>
        obtain ⟨k, hk, rfl, hrow, hb⟩ := hrel
        by_cases hlt : k < 10
        · obtain ⟨x, hx⟩ : ∃ x, x = a.ps[k]?.getD false := ⟨_, rfl⟩
          obtain ⟨y, hy⟩ : ∃ y, y = b.ps[k]?.getD false := ⟨_, rfl⟩
          obtain ⟨Wr, hWr⟩ : ∃ W, W = wr := ⟨_, rfl⟩
          rw [← hWr] at hrow hb ⊢
          have cx : Wr.cell? ⟨w.heap.size, 1 + k, none⟩ = some (.bool x) := by rw [hx]; exact (HA3.out.below hb.out (by have := HOL.out.1; omega)).cell (1 + k) (ps_get a va k hlt)
          have cy : Wr.cell? ⟨w.heap.size + 1, 1 + k, none⟩ = some (.bool y) := by rw [hy]; exact (HBB3.out.below hb.out (by have := HOL.out.1; omega)).cell (1 + k) (ps_get b vb k hlt)
          obtain ⟨u, hu⟩ := rowP_get op a b k hlt (.slice none 0 0)
          have co : Wr.cell? ⟨O, 1 + k, none⟩ = some u := hrow.out.cell (1 + k) hu
          have fo : Wr.frozen? ⟨O, 1 + k, none⟩ = false := hrow.out.frozen (1 + k) hu
          have n1 : ¬ w.heap.size = O := by have := HOL.out.1; omega
          have n2 : ¬ w.heap.size + 1 = O := by have := HOL.out.1; omega
          have HSET : Hid (LRow (Wr.setCell ⟨O, 1 + k, none⟩ (.bool (op x y))) O (rowP op a b (k + 1) (.slice none 0 0))) := by
            show LRow _ _ _
            rw [← rowP_set op a b k hlt, ← hx, ← hy]
            exact hrow.out.set (1 + k) _
          have HBS : Hid (Below O W3 (Wr.setCell ⟨O, 1 + k, none⟩ (.bool (op x y)))) := hb.out.setCell (Nat.le_refl _) _
          have sx : (Wr.setCell ⟨O, 1 + k, none⟩ (.bool (op x y))).cell? ⟨w.heap.size, 1 + k, none⟩ = some (.bool x) := by
            rw [World.cell?_setCell_other _ _ _ _ (by intro e; injection e with e1 _; exact n1 e1.symm)]; exact cx
          have sy : (Wr.setCell ⟨O, 1 + k, none⟩ (.bool (op x y))).cell? ⟨w.heap.size + 1, 1 + k, none⟩ = some (.bool y) := by
            rw [World.cell?_setCell_other _ _ _ _ (by intro e; injection e with e1 _; exact n2 e1.symm)]; exact cy
          have SX : Hid _ := And.intro sx sy
          clear hx hy hWr hu sx sy
          go_wp2_with fail
          go_region_held3 (fun w' => w'.cell? ⟨w.heap.size, 1 + k, none⟩ = some (.bool x) ∧ w'.cell? ⟨w.heap.size + 1, 1 + k, none⟩ = some (.bool y)) (first | exact SX.out | exact SX.out.1 | exact SX.out.2 | go_keep) (first | (refine (kp x y _).mono ?_; rintro e w1 ⟨rfl, hw1⟩; subst hw1))
          go_wp2_with fail
          go_roundw
          case rel => exact ⟨k + 1, by omega, by go_num, ⟨HSET.out.all⟩, HBS.out.trans (below_drewN' _ _ 1)⟩
          case measure => simp [intOf]; omega
        · obtain rfl : k = 10 := by omega
          obtain ⟨Wz, hWz⟩ : ∃ W, W = wr := ⟨_, rfl⟩
          rw [← hWz] at hrow hb ⊢
          have HAz : Hid _ := HA3.out.below hb.out (by have := HOL.out.1; omega)
          have HBz : Hid _ := HBB3.out.below hb.out (by have := HOL.out.1; omega)
          have HOz : Hid _ := HO3.out.below hb.out (by have := HOL.out.1; omega)
          have HRz : Hid (LRow Wz O (cnL (bothC op a b) (.slice none 0 0))) := hrow.out
          have HOL2 : Hid (w.heap.size + 3 ≤ O ∧ O < Wz.heap.size) := ⟨HOL.out.1, by have := hb.out.size; have := HOL.out.2; omega⟩
          have HWz : Hid (Below w.heap.size w Wz) := HB3.out.trans (hb.out.mono (by have := HOL.out.1; omega))
          clear hWz hrow hb HOL HA3 HBB3 HO3 R3 HB3 hk hlt
          have a0 : ∀ w', Below Wz.heap.size Wz w' → w'.cell? ⟨w.heap.size, 0, none⟩ = some _ := fun w' h => (HAz.out.below h (by have := HOL2.out; omega)).cell 0 rfl
          have a1 : ∀ w', Below Wz.heap.size Wz w' → w'.cell? ⟨w.heap.size, 1, none⟩ = some _ := fun w' h => (HAz.out.below h (by have := HOL2.out; omega)).cell 1 rfl
          have a2 : ∀ w', Below Wz.heap.size Wz w' → w'.cell? ⟨w.heap.size, 2, none⟩ = some _ := fun w' h => (HAz.out.below h (by have := HOL2.out; omega)).cell 2 rfl
          have a3 : ∀ w', Below Wz.heap.size Wz w' → w'.cell? ⟨w.heap.size, 3, none⟩ = some _ := fun w' h => (HAz.out.below h (by have := HOL2.out; omega)).cell 3 rfl
          have a4 : ∀ w', Below Wz.heap.size Wz w' → w'.cell? ⟨w.heap.size, 4, none⟩ = some _ := fun w' h => (HAz.out.below h (by have := HOL2.out; omega)).cell 4 rfl
          have a5 : ∀ w', Below Wz.heap.size Wz w' → w'.cell? ⟨w.heap.size, 5, none⟩ = some _ := fun w' h => (HAz.out.below h (by have := HOL2.out; omega)).cell 5 rfl
          have a6 : ∀ w', Below Wz.heap.size Wz w' → w'.cell? ⟨w.heap.size, 6, none⟩ = some _ := fun w' h => (HAz.out.below h (by have := HOL2.out; omega)).cell 6 rfl
          have a7 : ∀ w', Below Wz.heap.size Wz w' → w'.cell? ⟨w.heap.size, 7, none⟩ = some _ := fun w' h => (HAz.out.below h (by have := HOL2.out; omega)).cell 7 rfl
          have a8 : ∀ w', Below Wz.heap.size Wz w' → w'.cell? ⟨w.heap.size, 8, none⟩ = some _ := fun w' h => (HAz.out.below h (by have := HOL2.out; omega)).cell 8 rfl
          have a9 : ∀ w', Below Wz.heap.size Wz w' → w'.cell? ⟨w.heap.size, 9, none⟩ = some _ := fun w' h => (HAz.out.below h (by have := HOL2.out; omega)).cell 9 rfl
          have a10 : ∀ w', Below Wz.heap.size Wz w' → w'.cell? ⟨w.heap.size, 10, none⟩ = some _ := fun w' h => (HAz.out.below h (by have := HOL2.out; omega)).cell 10 rfl
          have a11 : ∀ w', Below Wz.heap.size Wz w' → w'.cell? ⟨w.heap.size, 11, none⟩ = some _ := fun w' h => (HAz.out.below h (by have := HOL2.out; omega)).cell 11 rfl
          have b0 : ∀ w', Below Wz.heap.size Wz w' → w'.cell? ⟨w.heap.size + 1, 0, none⟩ = some _ := fun w' h => (HBz.out.below h (by have := HOL2.out; omega)).cell 0 rfl
          have b1 : ∀ w', Below Wz.heap.size Wz w' → w'.cell? ⟨w.heap.size + 1, 1, none⟩ = some _ := fun w' h => (HBz.out.below h (by have := HOL2.out; omega)).cell 1 rfl
          have b2 : ∀ w', Below Wz.heap.size Wz w' → w'.cell? ⟨w.heap.size + 1, 2, none⟩ = some _ := fun w' h => (HBz.out.below h (by have := HOL2.out; omega)).cell 2 rfl
          have b3 : ∀ w', Below Wz.heap.size Wz w' → w'.cell? ⟨w.heap.size + 1, 3, none⟩ = some _ := fun w' h => (HBz.out.below h (by have := HOL2.out; omega)).cell 3 rfl
          have b4 : ∀ w', Below Wz.heap.size Wz w' → w'.cell? ⟨w.heap.size + 1, 4, none⟩ = some _ := fun w' h => (HBz.out.below h (by have := HOL2.out; omega)).cell 4 rfl
          have b5 : ∀ w', Below Wz.heap.size Wz w' → w'.cell? ⟨w.heap.size + 1, 5, none⟩ = some _ := fun w' h => (HBz.out.below h (by have := HOL2.out; omega)).cell 5 rfl
          have b6 : ∀ w', Below Wz.heap.size Wz w' → w'.cell? ⟨w.heap.size + 1, 6, none⟩ = some _ := fun w' h => (HBz.out.below h (by have := HOL2.out; omega)).cell 6 rfl
          have b7 : ∀ w', Below Wz.heap.size Wz w' → w'.cell? ⟨w.heap.size + 1, 7, none⟩ = some _ := fun w' h => (HBz.out.below h (by have := HOL2.out; omega)).cell 7 rfl
          have b8 : ∀ w', Below Wz.heap.size Wz w' → w'.cell? ⟨w.heap.size + 1, 8, none⟩ = some _ := fun w' h => (HBz.out.below h (by have := HOL2.out; omega)).cell 8 rfl
          have b9 : ∀ w', Below Wz.heap.size Wz w' → w'.cell? ⟨w.heap.size + 1, 9, none⟩ = some _ := fun w' h => (HBz.out.below h (by have := HOL2.out; omega)).cell 9 rfl
          have b10 : ∀ w', Below Wz.heap.size Wz w' → w'.cell? ⟨w.heap.size + 1, 10, none⟩ = some _ := fun w' h => (HBz.out.below h (by have := HOL2.out; omega)).cell 10 rfl
          have b11 : ∀ w', Below Wz.heap.size Wz w' → w'.cell? ⟨w.heap.size + 1, 11, none⟩ = some _ := fun w' h => (HBz.out.below h (by have := HOL2.out; omega)).cell 11 rfl
          have tokA : Hid True := trivial
          have tokB : Hid True := trivial
          go_wp2_with fail
          go_region_held3 (fun w' => Below Wz.heap.size Wz w') (first | assumption | exact (Below.refl _ Wz).drew | fail) (first
            | (clear tokA
               refine (VA.out _ (HWz.out.trans (Below.mono (by first | assumption | exact (Below.refl _ Wz).drew) HWz.out.size))).mono ?_
               rintro e w5 ⟨⟨B5, rfl, hset5⟩, hb5⟩
               have hS5 : Below Wz.heap.size Wz w5 := Below.trans (by first | assumption | exact (Below.refl _ Wz).drew) (hb5.mono (by first | exact (Below.size (by assumption)) | exact (Below.refl _ Wz).drew.size))
               have HS5 : Hid _ := hset5
               have HB5 : Hid _ := hb5
               clear hset5 hb5)
            | (clear tokB
               refine (VB.out _ (HWz.out.trans (Below.mono (by first | assumption | exact (Below.refl _ Wz).drew) HWz.out.size))).mono ?_
               rintro e w6 ⟨⟨B6, rfl, hset6⟩, hb6⟩
               have hS6 : Below Wz.heap.size Wz w6 := Below.trans (by first | assumption | exact (Below.refl _ Wz).drew) (hb6.mono (by first | exact (Below.size (by assumption)) | exact (Below.refl _ Wz).drew.size))
               have HS6 : Hid _ := hset6
               have HB6 : Hid _ := hb6
               clear hset6 hb6)
            | fail)
          have HS5' : Hid (SetAt w6 B5 a.vs) := SetAt.below HS5.out HB6.out
          have HO6 : Hid _ := HOz.out.below hS6 (by have := HOL2.out; omega)
          have HR6 : Hid _ := HRz.out.below hS6 (by have := HOL2.out; omega)
          have HOL6 : Hid (w.heap.size + 3 ≤ O ∧ O < w6.heap.size) := ⟨HOL2.out.1, by have := hS6.size; have := HOL2.out.2; omega⟩
          have HW6 : Hid (Below w.heap.size w w6) := HWz.out.trans (hS6.mono HWz.out.size)
          have HN5 : Hid (B5 ≠ O) := set_ne HS5'.out (HR6.out.cell 0 rfl)
          have HN6 : Hid (B6 ≠ O) := set_ne HS6.out (HR6.out.cell 0 rfl)
          clear hS5 hS6 HS5 HB5 HB6 HAz HBz HOz HRz HOL2 HWz VA VB KA KB
          clear a0 a1 a2 a3 a4 a5 a6 a7 a8 a9 a10 a11 b0 b1 b2 b3 b4 b5 b6 b7 b8 b9 b10 b11
          go_wp2_with fail
          go_loopw [14] (fun i wr => ∃ (k : Nat) (vv : Value), k ≤ 40 ∧ i = .int .i64 ((k : Int) + 1) ∧ Hid (LRow wr O (cnL (bothC op a b) vv)) ∧ wr.ownsRow w6.heap.size 3 1 vv ((vtake op a b k).length) ((vtake op a b k).flatMap intF) ∧ Hid (w6.grownBy wr (some O))) (fun i _ => 41 - (intOf i).toNat)
          case atStart => exact ⟨0, .slice none 0 0, Nat.zero_le _, rfl, HR6.out, World.ownsRow_nil _ _ _ _, ⟨rfl, rfl, rfl, Nat.le_refl _, fun _ _ _ => rfl⟩⟩
          case round =>
            obtain ⟨k, vv, hk, rfl, hrow, hown, hg⟩ := hrel
            obtain ⟨sad, scap, rfl⟩ := g_slice hown
            have HSA : Hid (SetAt wr B5 a.vs) := set_grown HS5'.out hg.out HN5.out
            have HSB : Hid (SetAt wr B6 b.vs) := set_grown HS6.out hg.out HN6.out
            have HOLr : Hid (O < wr.heap.size ∧ w6.heap.size ≤ wr.heap.size) := ⟨by have := hg.out.size; have := HOL6.out.2; omega, hg.out.size⟩
            by_cases hlt : k < 40
            · obtain ⟨x, hx⟩ : ∃ x, x = a.vs.contains ((k : Int) + 1) := ⟨_, rfl⟩
              obtain ⟨y, hy⟩ : ∃ y, y = b.vs.contains ((k : Int) + 1) := ⟨_, rfl⟩
              have KX : Hid (∀ w', SetAt w' B5 a.vs → Calls Try.prog 50 #[.map (some B5), .int .i64 ((k : Int) + 1)] w' fun e w'' => e = .returned (.bool x) ∧ Below w'.heap.size w' w'') := fun w' h => by rw [hx]; exact has_any B5 a.vs _ w' h (by omega)
              have KY : Hid (∀ w', SetAt w' B6 b.vs → Calls Try.prog 50 #[.map (some B6), .int .i64 ((k : Int) + 1)] w' fun e w'' => e = .returned (.bool y) ∧ Below w'.heap.size w' w'') := fun w' h => by rw [hy]; exact has_any B6 b.vs _ w' h (by omega)
              obtain ⟨n, hn⟩ : ∃ n, n = (vtake op a b k).length := ⟨_, rfl⟩
              have hn40 : n ≤ 40 := by rw [hn]; exact Nat.le_trans (vtake_len op a b k) hk
              have HT1 : Hid (op x y = true → vtake op a b (k + 1) = vtake op a b k ++ [(k : Int) + 1]) := fun h => vtake_yes op a b k hlt (by rw [← hx, ← hy]; exact h)
              have HT0 : Hid (op x y = false → vtake op a b (k + 1) = vtake op a b k) := fun h => vtake_no op a b k hlt (by rw [← hx, ← hy]; exact h)
              rw [← hn] at hown hrow
              have HNN : Hid _ := hn
              clear hx hy hn
              obtain ⟨z', hz'⟩ : ∃ q, q = op x y := ⟨_, rfl⟩
              have KP : Hid (∀ w', Calls Try.prog F #[.bool x, .bool y] w' fun e w'' => e = .returned (.bool z') ∧ w'' = w') := fun w' => by rw [hz']; exact kp x y w'
              rw [← hz'] at HT1 HT0
              clear hz'
              cases z'
              · go_wp2_with fail
                refine (KX.out _ HSA.out).mono ?_
                rintro e w7 ⟨rfl, hb7⟩
                have HSB7 : Hid _ := SetAt.below HSB.out hb7
                have own7 := own_below hown hb7 (Nat.le_refl _)
                have HR7 : Hid _ := hrow.out.below hb7 HOLr.out.1
                have HG7 : Hid (w6.grownBy w7 (some O)) := g_below hg.out hb7
                clear hb7 hown
                go_wp2_with fail
                refine (KY.out _ HSB7.out).mono ?_
                rintro e w8 ⟨rfl, hb8⟩
                have own8 := own_below own7 hb8 (Nat.le_refl _)
                have HR8 : Hid _ := HR7.out.below hb8 (by have := HG7.out.size; have := HOL6.out.2; omega)
                have HG8 : Hid (w6.grownBy w8 (some O)) := g_below HG7.out hb8
                clear hb8 own7
                go_wp2_with fail
                refine (KP.out _).mono ?_
                rintro e w9 ⟨rfl, hw9⟩
                rw [hw9]
                clear hw9 w9
                go_wp2_with fail
                go_roundw
                case rel => exact ⟨k + 1, _, by omega, by push_cast; rfl, HR8, by rw [(by first | exact HT0.out rfl | exact HT0.out trivial : vtake op a b (k + 1) = vtake op a b k), ← HNN.out]; exact own8, HG8⟩
                case measure => simp [intOf]; omega
              · go_wp2_with fail
                refine (KX.out _ HSA.out).mono ?_
                rintro e w7 ⟨rfl, hb7⟩
                have HSB7 : Hid _ := SetAt.below HSB.out hb7
                have own7 := own_below hown hb7 (Nat.le_refl _)
                have HR7 : Hid _ := hrow.out.below hb7 HOLr.out.1
                have HG7 : Hid (w6.grownBy w7 (some O)) := g_below hg.out hb7
                clear hb7 hown
                go_wp2_with fail
                refine (KY.out _ HSB7.out).mono ?_
                rintro e w8 ⟨rfl, hb8⟩
                have own8 := own_below own7 hb8 (Nat.le_refl _)
                have HR8 : Hid _ := HR7.out.below hb8 (by have := HG7.out.size; have := HOL6.out.2; omega)
                have HG8 : Hid (w6.grownBy w8 (some O)) := g_below HG7.out hb8
                clear hb8 own7
                go_wp2_with fail
                refine (KP.out _).mono ?_
                rintro e w9 ⟨rfl, hw9⟩
                rw [hw9]
                clear hw9 w9
                have c11 := HR8.out.cell 11 rfl
                have HLE : Hid (w6.heap.size ≤ w8.heap.size) := HG8.out.size
                go_wp2_with (at_builtin; refine wpList_append_own _ rfl _ _ 30 rfl w6.heap.size 3 i0 (.int .i64 0) 1 8 Try.underlying30 hi hz0 hz1 hz2 rfl (by decide) _ _ _ rfl (own8.alloc _) ⟨w8.heap.size, 0, none⟩ 1 1 [.int .i64 ((k : Int) + 1)] rfl rfl (g_cell1 _ _ _ _ rfl) (by simp [Value.oneCell']) ?c1 ?c2 ?c3 ?_)
                case c1 => unfold maxLen; omega
                case c2 => omega
                case c3 => have := HLE.out; simp; omega
                intro v3 w3 hown3 hg3 _
                have HG3 : Hid (w8.grownBy w3 none ∨ True) := .inr trivial
                have nbk : ∀ q, (Value.slice sad n scap).ownBlock = some q → w6.heap.size ≤ q := fun q e => (own8.lt q e).1
                have HR3 : Hid (LRow w3 O (cnL (bothC op a b) (.slice sad n scap))) := row_grown (HR8.out.below ((Below.refl w8.heap.size w8).alloc (Nat.le_refl _) _) (by have := HLE.out; have := HOL6.out.2; omega)) hg3 (by have := HLE.out; have := HOL6.out.2; simp; omega) (fun e => by have := nbk O e.symm; have := HOL6.out.2; omega)
                have HGG : Hid (w6.grownBy w3 (some O)) := g_grown (g_below HG8.out ((Below.refl w8.heap.size w8).alloc (Nat.le_refl _) _)) hg3 nbk
                obtain ⟨sad3, scap3, rfl⟩ := g_slice hown3
                have c11' := HR3.out.cell 11 rfl
                have f11' := HR3.out.frozen 11 rfl
                have HR4 : Hid (LRow (w3.setCell ⟨O, 11, none⟩ (.slice sad3 (n + 1) scap3)) O (cnL (bothC op a b) (.slice sad3 (n + 1) scap3))) := HR3.out.set 11 _
                have HG4 : Hid (w6.grownBy (w3.setCell ⟨O, 11, none⟩ (.slice sad3 (n + 1) scap3)) (some O)) := g_set HGG.out 11 _
                have HO4 : Hid ((w3.setCell ⟨O, 11, none⟩ (.slice sad3 (n + 1) scap3)).ownsRow w6.heap.size 3 1 (.slice sad3 (n + 1) scap3) (n + 1) ((vtake op a b k).flatMap intF ++ [.int .i64 ((k : Int) + 1)])) := own_set' hown3 HOL6.out.2
                clear c11 hown3 hg3 own8 HR3 HGG
                go_wp2_with fail
                go_roundw
                case rel =>
                  refine ⟨k + 1, _, by omega, by push_cast; rfl, HR4, ?_, HG4⟩
                  rw [(by first | exact HT1.out rfl | exact HT1.out trivial : vtake op a b (k + 1) = vtake op a b k ++ [(k : Int) + 1]), List.length_append, List.flatMap_append, ← HNN.out]
                  exact HO4.out
                case measure => simp [intOf]; omega
            · obtain rfl : k = 40 := by omega
              have hall : vtake op a b 40 = bothV op a b := vtake_all op a b
              rw [hall] at hown hrow
              have HOWN : Hid (wr.ownsRow w6.heap.size 3 1 (.slice sad (bothV op a b).length scap) (bothV op a b).length ((bothV op a b).flatMap intF)) := hown
              have HROW : Hid (LRow wr O (cnL (bothC op a b) (.slice sad (bothV op a b).length scap))) := hrow.out
              have HOr : Hid _ := row_grown HO6.out hg.out (by have := HOL6.out; omega) (fun e => by injection e with e; have := HOL6.out; omega)
              have HBr : Hid (Below w.heap.size w wr) := HW6.out.grown hg.out (HW6.out.size) (fun q e => by injection e with e; have := HOL6.out; omega)
              have HR : Hid (bothR op a b = bothC op a b) := by show _ = _; unfold bothR; rw [if_pos HZ0.out]
              obtain ⟨nb, hnb⟩ : ∃ n, n = (bothV op a b).length := ⟨_, rfl⟩
              rw [← hnb] at HOWN HROW
              have HNB : Hid _ := hnb
              clear hown hrow hall hg hlt hk hnb
              have q0 := HROW.out.cell 0 rfl
              have q1 := HROW.out.cell 1 rfl
              have q2 := HROW.out.cell 2 rfl
              have q3 := HROW.out.cell 3 rfl
              have q4 := HROW.out.cell 4 rfl
              have q5 := HROW.out.cell 5 rfl
              have q6 := HROW.out.cell 6 rfl
              have q7 := HROW.out.cell 7 rfl
              have q8 := HROW.out.cell 8 rfl
              have q9 := HROW.out.cell 9 rfl
              have q10 := HROW.out.cell 10 rfl
              have q11 := HROW.out.cell 11 rfl
              have o0 := HOr.out.cell 0 rfl
              have o1 := HOr.out.cell 1 rfl
              have o2 := HOr.out.cell 2 rfl
              have o3 := HOr.out.cell 3 rfl
              have o4 := HOr.out.cell 4 rfl
              have o5 := HOr.out.cell 5 rfl
              have o6 := HOr.out.cell 6 rfl
              have o7 := HOr.out.cell 7 rfl
              have o8 := HOr.out.cell 8 rfl
              have o9 := HOr.out.cell 9 rfl
              have o10 := HOr.out.cell 10 rfl
              have o11 := HOr.out.cell 11 rfl
              have f0 := HOr.out.frozen 0 rfl
              have f1 := HOr.out.frozen 1 rfl
              have f2 := HOr.out.frozen 2 rfl
              have f3 := HOr.out.frozen 3 rfl
              have f4 := HOr.out.frozen 4 rfl
              have f5 := HOr.out.frozen 5 rfl
              have f6 := HOr.out.frozen 6 rfl
              have f7 := HOr.out.frozen 7 rfl
              have f8 := HOr.out.frozen 8 rfl
              have f9 := HOr.out.frozen 9 rfl
              have f10 := HOr.out.frozen 10 rfl
              have f11 := HOr.out.frozen 11 rfl
              go_wp2_with fail
              generalize hW2 : World.setCell _ _ _ = W2
              have HP : Hid (LRow W2 (w.heap.size + 1 + 1) (cnL (bothC op a b) (.slice sad nb scap))) := by
                rw [← hW2]
                exact (((((((((((HOr.out.set 0 _).set 1 _).set 2 _).set 3 _).set 4 _).set 5 _).set 6 _).set 7 _).set 8 _).set 9 _).set 10 _).set 11 _
              have HB2 : Hid (Below w.heap.size w W2) := by
                rw [← hW2]
                iterate 12 refine Below.setCell ?_ (show w.heap.size ≤ w.heap.size + 1 + 1 by omega) _
                exact HBr.out
              have HOW2 : Hid (W2.ownsRow w.heap.size 3 1 (.slice sad nb scap) nb ((bothV op a b).flatMap intF)) := by
                have h6 : w.heap.size + 1 + 1 < w6.heap.size := by have := HOL6.out; omega
                have hX : W2.ownsRow w6.heap.size 3 1 (.slice sad nb scap) nb ((bothV op a b).flatMap intF) := by
                  rw [← hW2]
                  iterate 12 refine own_set' ?_ h6
                  exact HOWN.out
                exact g_lower hX HW6.out.size
              clear hW2 q0 o0 f0 q1 o1 f1 q2 o2 f2 q3 o3 f3 q4 o4 f4 q5 o5 f5 q6 o6 f6 q7 o7 f7 q8 o8 f8 q9 o9 f9 q10 o10 f10 q11 o11 f11
              have p0 := HP.out.cell 0 rfl
              have p1 := HP.out.cell 1 rfl
              have p2 := HP.out.cell 2 rfl
              have p3 := HP.out.cell 3 rfl
              have p4 := HP.out.cell 4 rfl
              have p5 := HP.out.cell 5 rfl
              have p6 := HP.out.cell 6 rfl
              have p7 := HP.out.cell 7 rfl
              have p8 := HP.out.cell 8 rfl
              have p9 := HP.out.cell 9 rfl
              have p10 := HP.out.cell 10 rfl
              have p11 := HP.out.cell 11 rfl
              exact bodyPost_ret (v := .tuple #[.agg #[.int .i64 (max a.g b.g), .bool (op a.b0 b.b0), .bool (op a.b1 b.b1), .bool (op a.b2 b.b2), .bool (op a.b3 b.b3), .bool (op a.b4 b.b4), .bool (op a.b5 b.b5), .bool (op a.b6 b.b6), .bool (op a.b7 b.b7), .bool (op a.b8 b.b8), .bool (op a.b9 b.b9), .slice sad nb scap], .int .i64 0]) (by simp [results, Try.results46, go_sem, bothC, p0, p1, p2, p3, p4, p5, p6, p7, p8, p9, p10, p11]) rfl ⟨.slice sad nb scap, by rw [HR.out, HZ4.out]; rfl, by rw [HR.out]; show W2.ownsRow _ _ _ _ (bothV op a b).length _; rw [← HNB.out]; exact HOW2.out, HB2.out⟩
    · have hne : (cb != 0) = true := by rw [bne_iff_ne]; exact hcb
      have HZ2 : Hid (z = cb) := HZ3.out
      have HR : Hid (bothR op a b = c0) := by show _ = _; unfold bothR; rw [if_neg (by rw [← HZE.out, HZ2.out]; exact hcb)]
      clear hcb
      have o0 := HO2.out.cell 0 rfl
      have o1 := HO2.out.cell 1 rfl
      have o2 := HO2.out.cell 2 rfl
      have o3 := HO2.out.cell 3 rfl
      have o4 := HO2.out.cell 4 rfl
      have o5 := HO2.out.cell 5 rfl
      have o6 := HO2.out.cell 6 rfl
      have o7 := HO2.out.cell 7 rfl
      have o8 := HO2.out.cell 8 rfl
      have o9 := HO2.out.cell 9 rfl
      have o10 := HO2.out.cell 10 rfl
      have o11 := HO2.out.cell 11 rfl
      have f0 := HO2.out.frozen 0 rfl
      have f1 := HO2.out.frozen 1 rfl
      have f2 := HO2.out.frozen 2 rfl
      have f3 := HO2.out.frozen 3 rfl
      have f4 := HO2.out.frozen 4 rfl
      have f5 := HO2.out.frozen 5 rfl
      have f6 := HO2.out.frozen 6 rfl
      have f7 := HO2.out.frozen 7 rfl
      have f8 := HO2.out.frozen 8 rfl
      have f9 := HO2.out.frozen 9 rfl
      have f10 := HO2.out.frozen 10 rfl
      have f11 := HO2.out.frozen 11 rfl
      go_wp2_with fail
      generalize hW2 : World.setCell _ _ _ = W2
      have HP : Hid (LRow W2 (w.heap.size + 1 + 1) (cnL c0 (.slice none 0 0))) := by
        rw [← hW2]
        exact (((((((((((HO2.out.set 0 _).set 1 _).set 2 _).set 3 _).set 4 _).set 5 _).set 6 _).set 7 _).set 8 _).set 9 _).set 10 _).set 11 _
      have HB2 : Hid (Below w.heap.size w W2) := by
        rw [← hW2]
        iterate 12 refine Below.setCell ?_ (show w.heap.size ≤ w.heap.size + 1 + 1 by omega) _
        exact HB2'.out
      clear hW2 o0 f0 o1 f1 o2 f2 o3 f3 o4 f4 o5 f5 o6 f6 o7 f7 o8 f8 o9 f9 o10 f10 o11 f11
      have p0 := HP.out.cell 0 rfl
      have p1 := HP.out.cell 1 rfl
      have p2 := HP.out.cell 2 rfl
      have p3 := HP.out.cell 3 rfl
      have p4 := HP.out.cell 4 rfl
      have p5 := HP.out.cell 5 rfl
      have p6 := HP.out.cell 6 rfl
      have p7 := HP.out.cell 7 rfl
      have p8 := HP.out.cell 8 rfl
      have p9 := HP.out.cell 9 rfl
      have p10 := HP.out.cell 10 rfl
      have p11 := HP.out.cell 11 rfl
      exact bodyPost_ret (v := .tuple #[.agg #[.int .i64 0, .bool false, .bool false, .bool false, .bool false, .bool false, .bool false, .bool false, .bool false, .bool false, .bool false, .slice none 0 0], .int .i64 cb]) (by simp [results, Try.results46, go_sem, c0, p0, p1, p2, p3, p4, p5, p6, p7, p8, p9, p10, p11]) rfl ⟨.slice none 0 0, by rw [HR.out, HZ2.out]; rfl, by rw [HR.out]; exact World.ownsRow_nil _ _ _ _, HB2.out⟩
  · have hne : (ca != 0) = true := by rw [bne_iff_ne]; exact hca
    have HZ2 : Hid (z = ca) := by show _ = _; rw [HZ.out, if_neg hca]
    have HR : Hid (bothR op a b = c0) := by show _ = _; unfold bothR; rw [if_neg (by rw [← HZE.out, HZ2.out]; exact hca)]
    clear hca
    have o0 := HO1.out.cell 0 rfl
    have o1 := HO1.out.cell 1 rfl
    have o2 := HO1.out.cell 2 rfl
    have o3 := HO1.out.cell 3 rfl
    have o4 := HO1.out.cell 4 rfl
    have o5 := HO1.out.cell 5 rfl
    have o6 := HO1.out.cell 6 rfl
    have o7 := HO1.out.cell 7 rfl
    have o8 := HO1.out.cell 8 rfl
    have o9 := HO1.out.cell 9 rfl
    have o10 := HO1.out.cell 10 rfl
    have o11 := HO1.out.cell 11 rfl
    have f0 := HO1.out.frozen 0 rfl
    have f1 := HO1.out.frozen 1 rfl
    have f2 := HO1.out.frozen 2 rfl
    have f3 := HO1.out.frozen 3 rfl
    have f4 := HO1.out.frozen 4 rfl
    have f5 := HO1.out.frozen 5 rfl
    have f6 := HO1.out.frozen 6 rfl
    have f7 := HO1.out.frozen 7 rfl
    have f8 := HO1.out.frozen 8 rfl
    have f9 := HO1.out.frozen 9 rfl
    have f10 := HO1.out.frozen 10 rfl
    have f11 := HO1.out.frozen 11 rfl
    go_wp2_with fail
    generalize hW2 : World.setCell _ _ _ = W2
    have HP : Hid (LRow W2 (w.heap.size + 1 + 1) (cnL c0 (.slice none 0 0))) := by
      rw [← hW2]
      exact (((((((((((HO1.out.set 0 _).set 1 _).set 2 _).set 3 _).set 4 _).set 5 _).set 6 _).set 7 _).set 8 _).set 9 _).set 10 _).set 11 _
    have HB2 : Hid (Below w.heap.size w W2) := by
      rw [← hW2]
      iterate 12 refine Below.setCell ?_ (show w.heap.size ≤ w.heap.size + 1 + 1 by omega) _
      exact HB1.out
    clear hW2 o0 f0 o1 f1 o2 f2 o3 f3 o4 f4 o5 f5 o6 f6 o7 f7 o8 f8 o9 f9 o10 f10 o11 f11
    have p0 := HP.out.cell 0 rfl
    have p1 := HP.out.cell 1 rfl
    have p2 := HP.out.cell 2 rfl
    have p3 := HP.out.cell 3 rfl
    have p4 := HP.out.cell 4 rfl
    have p5 := HP.out.cell 5 rfl
    have p6 := HP.out.cell 6 rfl
    have p7 := HP.out.cell 7 rfl
    have p8 := HP.out.cell 8 rfl
    have p9 := HP.out.cell 9 rfl
    have p10 := HP.out.cell 10 rfl
    have p11 := HP.out.cell 11 rfl
    exact bodyPost_ret (v := .tuple #[.agg #[.int .i64 0, .bool false, .bool false, .bool false, .bool false, .bool false, .bool false, .bool false, .bool false, .bool false, .bool false, .slice none 0 0], .int .i64 ca]) (by simp [results, Try.results46, go_sem, c0, p0, p1, p2, p3, p4, p5, p6, p7, p8, p9, p10, p11]) rfl ⟨.slice none 0 0, by rw [HR.out, HZ2.out]; rfl, by rw [HR.out]; exact World.ownsRow_nil _ _ _ _, HB2.out⟩
end Go.Proofs.Ytcfdajaideidkaa
