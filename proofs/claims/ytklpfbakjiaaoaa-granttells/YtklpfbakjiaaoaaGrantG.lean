/- The contracts of agreed and Drop. -/
import Derived.Test.YtklpfbakjiaaoaaGrantF
namespace Go.Proofs.Ytklpfbakjiaaoaa
open Go.RowKit Go.Maps
set_option linter.all false
set_option maxRecDepth 100000

def agC : Cn := ⟨1000, true, false, false, true, false, false, false, false, false, false, [2, 3, 4, 9]⟩
set_option maxHeartbeats 1000000 in
theorem agreed_any (w : World) : Calls Try.prog 25 #[] w fun e w' => ∃ b, e = .returned (.agg #[.int .i64 1000, .bool true, .bool false, .bool false, .bool true, .bool false, .bool false, .bool false, .bool false, .bool false, .bool false, .slice (some ⟨b, 0, none⟩) 4 4]) ∧ Rows w' (.slice (some ⟨b, 0, none⟩) 4 4) intF agC.vs ∧ Below w.heap.size w w' := by
  obtain ⟨W0, hW0⟩ : ∃ W, W = w.alloc (.cells #[.int .i64 1000, .bool true, .bool false, .bool false, .bool true, .bool false, .bool false, .bool false, .bool false, .bool false, .bool false, .slice (some ⟨w.heap.size + 1, 0, none⟩) 4 4] 25) := ⟨_, rfl⟩
  obtain ⟨W2, hW2⟩ : ∃ W, W = W0.alloc (.cells #[.int .i64 2, .int .i64 3, .int .i64 4, .int .i64 9] 3) := ⟨_, rfl⟩
  have HS0 : W0.heap.size = w.heap.size + 1 := by rw [hW0]; simp
  have HO0 : LRow W0 w.heap.size (cnL agC (.slice (some ⟨w.heap.size + 1, 0, none⟩) 4 4)) := by rw [hW0]; exact LRow.new w (cnL agC (.slice (some ⟨w.heap.size + 1, 0, none⟩) 4 4)) 25
  have HB0 : Below w.heap.size w W0 := by rw [hW0]; exact (Below.refl _ w).alloc (Nat.le_refl _) _
  have n1 : Below W0.heap.size W0 W2 := by rw [hW2]; exact (Below.refl _ W0).alloc (Nat.le_refl _) _
  have HP : Hid (LRow W2 w.heap.size (cnL agC (.slice (some ⟨w.heap.size + 1, 0, none⟩) 4 4))) := HO0.below n1 (by omega)
  have HB2 : Hid (Below w.heap.size w W2) := HB0.trans (n1.mono HB0.size)
  have HR2 : Hid (Rows W2 (.slice (some ⟨w.heap.size + 1, 0, none⟩) 4 4) intF agC.vs) := by rw [hW2]; exact Rows.lit W0 ([2, 3, 4, 9] : List Int) _ _ _ _ _ HS0.symm rfl rfl
  have HW2 : Hid ((w.alloc (.cells #[.int .i64 1000, .bool true, .bool false, .bool false, .bool true, .bool false, .bool false, .bool false, .bool false, .bool false, .bool false, .slice (some ⟨w.heap.size + 1, 0, none⟩) 4 4] 25)).alloc (.cells #[.int .i64 2, .int .i64 3, .int .i64 4, .int .i64 9] 3) = W2) := by show _ = _; rw [hW2, hW0]
  clear hW0 hW2 n1 HS0 HO0 HB0
  go_enter Try.func25, Try.ntmps25
  go_wp2_with fail
  rw [HW2.out]
  clear HW2
  have p0 := HP.out.cell 0 rfl
  have p1 := HP.out.cell 1 rfl
  have p2 := HP.out.cell 2 rfl
  have p3 := HP.out.cell 3 rfl
  have p4 := HP.out.cell 4 rfl
  have p5 := HP.out.cell 5 rfl
  have p6 := HP.out.cell 6 rfl
  have p7 := HP.out.cell 7 rfl
  have p8 := HP.out.cell 8 rfl
  have p9 := HP.out.cell 9 rfl
  have p10 := HP.out.cell 10 rfl
  have p11 := HP.out.cell 11 rfl
  exact bodyPost_ret (v := .agg #[.int .i64 1000, .bool true, .bool false, .bool false, .bool true, .bool false, .bool false, .bool false, .bool false, .bool false, .bool false, .slice (some ⟨w.heap.size + 1, 0, none⟩) 4 4]) (by simp [results, Try.results25, go_sem, agC, p0, p1, p2, p3, p4, p5, p6, p7, p8, p9, p10, p11]) rfl ⟨_, rfl, HR2.out, HB2.out⟩
def dtake (c : Cn) (x : Int) (k : Nat) : List Int := (c.vs.take k).filter fun y => decide (y ≠ x)
theorem dtake_all (c : Cn) (x : Int) (k : Nat) (h : c.vs.length ≤ k) : dtake c x k = c.vs.filter fun y => decide (y ≠ x) := by unfold dtake; rw [List.take_of_length_le h]
theorem dtake_len (c : Cn) (x : Int) (k : Nat) : (dtake c x k).length ≤ k := by
  have h1 := List.length_filter_le (fun y => decide (y ≠ x)) (c.vs.take k)
  have h2 : (c.vs.take k).length ≤ k := by rw [List.length_take]; omega
  unfold dtake; omega
theorem dtake_yes (c : Cn) (x : Int) (k : Nat) (y : Int) (h : c.vs[k]? = some y) (hy : y ≠ x) : dtake c x (k + 1) = dtake c x k ++ [y] := by
  unfold dtake
  rw [List.take_succ, h, List.filter_append]
  congr 1
  show List.filter _ [y] = _
  rw [List.filter_cons_of_pos (by simpa using hy), List.filter_nil]
theorem dtake_no (c : Cn) (x : Int) (k : Nat) (y : Int) (h : c.vs[k]? = some y) (hy : y = x) : dtake c x (k + 1) = dtake c x k := by
  unfold dtake
  rw [List.take_succ, h, List.filter_append]
  show _ ++ List.filter _ [y] = _
  rw [List.filter_cons_of_neg (by simpa using hy), List.filter_nil, List.append_nil]
/-- the consent so far -/
def dropP (c : Cn) (p now : Int) (v : Value) : List Value := .int .i64 now :: ((List.range 10).map (fun (j : Nat) => .bool (c.ps[j]?.getD false && decide (p ≠ (j : Int) + 1))) ++ [v])
theorem dropP_end (c : Cn) (p x now : Int) (v : Value) : dropP c p now v = cnL (dropC c p x now) v := rfl
theorem dropP_zero (c : Cn) (p now : Int) (v : Value) (h : p = 0) : cnL { c with g := now } v = dropP c p now v := by
  subst h
  unfold dropP cnL
  simp [List.range_succ, Cn.ps]
theorem dropP_set (c : Cn) (k : Nat) (hk : k < 10) (now : Int) (v : Value) : (cnL { c with g := now } v).set (1 + k) (.bool false) = dropP c ((k : Int) + 1) now v := by
  rcases ten k hk with rfl | rfl | rfl | rfl | rfl | rfl | rfl | rfl | rfl | rfl <;> simp [dropP, cnL, List.range_succ, Cn.ps]
end Go.Proofs.Ytklpfbakjiaaoaa
