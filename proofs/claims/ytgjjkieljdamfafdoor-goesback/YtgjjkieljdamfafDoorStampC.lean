/- Contracts of package stamp: a word as a thing of a kind, what is taken of it. -/
import Derived.Test.YtgjjkieljdamfafDoorStampB
import Derived.Test.YtgjjkieljdamfafDoorKit3
import Derived.Test.YtgjjkieljdamfafDoorClockD
import Derived.Deep.RegionHeld3
namespace Go.Proofs.YtgjjkieljdamfafDoor
open Go.RowKit
set_option linter.all false
set_option maxRecDepth 100000

theorem R3.below {W W' : World} {A B : Nat} {a b c : Int} (h : R3 W B a b c) (hb : Below A W W') (hA : B < A) : R3 W' B a b c :=
  ⟨(hb.cell (p := ⟨B, 0, none⟩) hA).trans h.c0, (hb.cell (p := ⟨B, 1, none⟩) hA).trans h.c1, (hb.cell (p := ⟨B, 2, none⟩) hA).trans h.c2,
    (hb.frozen (p := ⟨B, 0, none⟩) hA).trans h.f0, (hb.frozen (p := ⟨B, 1, none⟩) hA).trans h.f1, (hb.frozen (p := ⟨B, 2, none⟩) hA).trans h.f2⟩
theorem R3.new (w : World) (a b c : Int) (t : TypeId) : R3 (w.alloc (.cells #[.int .i64 a, .int .i64 b, .int .i64 c] t)) w.heap.size a b c := ⟨by simp, by simp, by simp, by simp, by simp, by simp⟩
def valK (k : Nat) (l : List UInt8) : Int × Int × Int := (readK k l).getD (0, 0, 0)
theorem readK0 (l : List UInt8) : readK 0 l = timeL l := by unfold readK; rw [if_pos rfl]
theorem readK1 (l : List UInt8) : readK 1 l = if numB l 1 2 then some (((numV l 1 2 : Nat) : Int), (0 : Int), (0 : Int)) else none := by unfold readK; rw [if_neg (by decide), if_pos rfl]
theorem readK2 (l : List UInt8) : readK 2 l = if monthL l = 0 then none else some (((monthL l : Nat) : Int), (0 : Int), (0 : Int)) := by unfold readK; rw [if_neg (by decide), if_neg (by decide), if_pos rfl]
theorem readK3 (l : List UInt8) : readK 3 l = if numB l 2 4 then some (((numV l 2 4 : Nat) : Int), (0 : Int), (0 : Int)) else none := by unfold readK; rw [if_neg (by decide), if_neg (by decide), if_neg (by decide)]
theorem num_val (l : List UInt8) (k a b : Nat) (h : readK k l = if numB l a b then some (((numV l a b : Nat) : Int), (0 : Int), (0 : Int)) else none) : valK k l = (((numV l a b : Nat) : Int), (0 : Int), (0 : Int)) ∧ (readK k l).isSome = numB l a b := by
  unfold valK
  rw [h]
  cases e : numB l a b
  · have : numV l a b = 0 := by unfold numV; rw [e]; rfl
    rw [this]; exact ⟨rfl, rfl⟩
  · exact ⟨rfl, rfl⟩
theorem mon_val (l : List UInt8) : valK 2 l = (((monthL l : Nat) : Int), (0 : Int), (0 : Int)) ∧ (readK 2 l).isSome = decide (monthL l ≠ 0) := by
  unfold valK
  rw [readK2]
  by_cases h : monthL l = 0
  · rw [if_pos h, h]; exact ⟨rfl, rfl⟩
  · rw [if_neg h]; exact ⟨rfl, (decide_eq_true h).symm⟩
set_option maxHeartbeats 1000000 in
theorem readAs0_any (s : ByteArray) (w : World) (hs : s.size ≤ 400) (T : STabs w) :
    Calls Tryd.prog 78 #[.int .i64 0, .string s] w fun e w' => e = .returned (.tuple #[.agg #[.int .i64 (valK 0 s.data.toList).1, .int .i64 (valK 0 s.data.toList).2.1, .int .i64 (valK 0 s.data.toList).2.2], .bool (readK 0 s.data.toList).isSome]) ∧ Below w.heap.size w w' := by
  have TH : Hid _ := T
  have HS : Hid (s.size < maxLen) := by unfold maxLen; show _ < _; omega
  clear T
  have R0 : Hid (R3 (w.alloc (.cells #[.int .i64 0, .int .i64 0, .int .i64 0] 92)) w.heap.size 0 0 0) := R3.new w 0 0 0 _
  have hb0 : Below w.heap.size w (w.alloc (.cells #[.int .i64 0, .int .i64 0, .int .i64 0] 92)) := (Below.refl _ _).alloc (Nat.le_refl _) _
  have HV : Hid (valK 0 s.data.toList = timeV s.data.toList ∧ (readK 0 s.data.toList).isSome = (timeL s.data.toList).isSome) := by unfold valK timeV; rw [readK0]; exact ⟨rfl, rfl⟩
  rw [HV.out.1, HV.out.2]
  go_enter Tryd.func78, Tryd.ntmps78
  go_wp2_with fail
  refine (readTime_any _ _ HS.out).mono ?_
  rintro e w1 ⟨rfl, hb1⟩
  have R1 := R0.out.below hb1 (by simp)
  have RH : Hid _ := R1
  obtain ⟨c0, c1, c2, f0, f1, f2⟩ := R1
  go_wp2_with fail
  have RR := RH.out.set3 (timeV s.data.toList).1 (timeV s.data.toList).2.1 (timeV s.data.toList).2.2
  exact bodyPost_ret (v := .tuple #[.agg #[.int .i64 (timeV s.data.toList).1, .int .i64 (timeV s.data.toList).2.1, .int .i64 (timeV s.data.toList).2.2], .bool (timeL s.data.toList).isSome]) (by simp [results, Tryd.results78, go_sem, RR.c0, RR.c1, RR.c2]) rfl ⟨rfl, (((next hb0 hb1).setCell (Nat.le_refl _) _).setCell (Nat.le_refl _) _).setCell (Nat.le_refl _) _⟩
set_option maxHeartbeats 1000000 in
theorem readAs1_any (s : ByteArray) (w : World) (hs : s.size ≤ 400) (T : STabs w) :
    Calls Tryd.prog 78 #[.int .i64 1, .string s] w fun e w' => e = .returned (.tuple #[.agg #[.int .i64 (valK 1 s.data.toList).1, .int .i64 (valK 1 s.data.toList).2.1, .int .i64 (valK 1 s.data.toList).2.2], .bool (readK 1 s.data.toList).isSome]) ∧ Below w.heap.size w w' := by
  have TH : Hid _ := T
  have HS : Hid (s.size < maxLen) := by unfold maxLen; show _ < _; omega
  clear T
  have R0 : Hid (R3 (w.alloc (.cells #[.int .i64 0, .int .i64 0, .int .i64 0] 92)) w.heap.size 0 0 0) := R3.new w 0 0 0 _
  have hb0 : Below w.heap.size w (w.alloc (.cells #[.int .i64 0, .int .i64 0, .int .i64 0] 92)) := (Below.refl _ _).alloc (Nat.le_refl _) _
  have HV : Hid _ := num_val s.data.toList 1 1 2 (readK1 _)
  rw [HV.out.1, HV.out.2]
  go_enter Tryd.func78, Tryd.ntmps78
  go_wp2_with fail
  refine (number_any _ 1 2 (by omega) (by omega) _ (Nat.le_of_lt HS.out)).mono ?_
  rintro e w1 ⟨rfl, n1, rfl⟩
  go_wp2_with fail
  have RR := (R0.out.drewN n1).set3 (numV s.data.toList 1 2 : Nat) 0 0
  exact bodyPost_ret (v := .tuple #[.agg #[.int .i64 (numV s.data.toList 1 2 : Nat), .int .i64 0, .int .i64 0], .bool (numB s.data.toList 1 2)]) (by simp [results, Tryd.results78, go_sem, RR.c0, RR.c1, RR.c2]) rfl ⟨rfl, (((next hb0 (below_drewN' _ _ n1)).setCell (Nat.le_refl _) _).setCell (Nat.le_refl _) _).setCell (Nat.le_refl _) _⟩
set_option maxHeartbeats 1000000 in
theorem readAs2_any (s : ByteArray) (w : World) (hs : s.size ≤ 400) (T : STabs w) :
    Calls Tryd.prog 78 #[.int .i64 2, .string s] w fun e w' => e = .returned (.tuple #[.agg #[.int .i64 (valK 2 s.data.toList).1, .int .i64 (valK 2 s.data.toList).2.1, .int .i64 (valK 2 s.data.toList).2.2], .bool (readK 2 s.data.toList).isSome]) ∧ Below w.heap.size w w' := by
  have TH : Hid _ := T
  have HS : Hid (s.size < maxLen) := by unfold maxLen; show _ < _; omega
  clear T
  have R0 : Hid (R3 (w.alloc (.cells #[.int .i64 0, .int .i64 0, .int .i64 0] 92)) w.heap.size 0 0 0) := R3.new w 0 0 0 _
  have hb0 : Below w.heap.size w (w.alloc (.cells #[.int .i64 0, .int .i64 0, .int .i64 0] 92)) := (Below.refl _ _).alloc (Nat.le_refl _) _
  have HV : Hid _ := mon_val s.data.toList
  rw [HV.out.1, HV.out.2]
  go_enter Tryd.func78, Tryd.ntmps78
  go_wp2_with fail
  refine (readMonth_any _ _ (Nat.le_of_lt HS.out) (TH.out.below hb0 (Nat.le_refl _))).mono ?_
  rintro e w1 ⟨rfl, hb1⟩
  have R1 := R0.out.below hb1 (by simp)
  have RH : Hid _ := R1
  obtain ⟨c0, c1, c2, f0, f1, f2⟩ := R1
  go_wp2_with fail
  have RR := RH.out.set3 (monthL s.data.toList : Nat) 0 0
  exact bodyPost_ret (v := .tuple #[.agg #[.int .i64 (monthL s.data.toList : Nat), .int .i64 0, .int .i64 0], .bool (decide (monthL s.data.toList ≠ 0))]) (by simp [results, Tryd.results78, go_sem, RR.c0, RR.c1, RR.c2]) rfl ⟨rfl, (((next hb0 hb1).setCell (Nat.le_refl _) _).setCell (Nat.le_refl _) _).setCell (Nat.le_refl _) _⟩
set_option maxHeartbeats 1000000 in
theorem readAs3_any (s : ByteArray) (w : World) (hs : s.size ≤ 400) (T : STabs w) :
    Calls Tryd.prog 78 #[.int .i64 3, .string s] w fun e w' => e = .returned (.tuple #[.agg #[.int .i64 (valK 3 s.data.toList).1, .int .i64 (valK 3 s.data.toList).2.1, .int .i64 (valK 3 s.data.toList).2.2], .bool (readK 3 s.data.toList).isSome]) ∧ Below w.heap.size w w' := by
  have TH : Hid _ := T
  have HS : Hid (s.size < maxLen) := by unfold maxLen; show _ < _; omega
  clear T
  have R0 : Hid (R3 (w.alloc (.cells #[.int .i64 0, .int .i64 0, .int .i64 0] 92)) w.heap.size 0 0 0) := R3.new w 0 0 0 _
  have hb0 : Below w.heap.size w (w.alloc (.cells #[.int .i64 0, .int .i64 0, .int .i64 0] 92)) := (Below.refl _ _).alloc (Nat.le_refl _) _
  have HV : Hid _ := num_val s.data.toList 3 2 4 (readK3 _)
  rw [HV.out.1, HV.out.2]
  go_enter Tryd.func78, Tryd.ntmps78
  go_wp2_with fail
  refine (number_any _ 2 4 (by omega) (by omega) _ (Nat.le_of_lt HS.out)).mono ?_
  rintro e w1 ⟨rfl, n1, rfl⟩
  go_wp2_with fail
  have RR := (R0.out.drewN n1).set3 (numV s.data.toList 2 4 : Nat) 0 0
  exact bodyPost_ret (v := .tuple #[.agg #[.int .i64 (numV s.data.toList 2 4 : Nat), .int .i64 0, .int .i64 0], .bool (numB s.data.toList 2 4)]) (by simp [results, Tryd.results78, go_sem, RR.c0, RR.c1, RR.c2]) rfl ⟨rfl, (((next hb0 (below_drewN' _ _ n1)).setCell (Nat.le_refl _) _).setCell (Nat.le_refl _) _).setCell (Nat.le_refl _) _⟩
/-- the cells of a date -/
def dateV (d : DS) (j : Nat) : Value := if j < 4 then .bool (d.f j) else .int .i64 (d.t (j - 4))
def DRow (W : World) (B : Nat) (d : DS) : Prop := Row W B 16 (dateV d)
theorem grown_set (W : World) (b k : Nat) (v : Value) : W.grownBy (W.setCell ⟨b, k, none⟩ v) (some b) :=
  ⟨rfl, rfl, rfl, by simp [World.setCell], fun i _ hi => Below.heap_setCell _ _ _ i (fun e => hi (by rw [e]))⟩
theorem grown_of {w w' : World} (h : Below w.heap.size w w') (r : Option Nat) : w.grownBy w' r := ⟨h.os, h.tape, h.output, h.size, fun k hk _ => h.block k hk⟩
theorem DRow.put {W : World} {B : Nat} {d : DS} (h : DRow W B d) (k : Nat) (hk : k < 4) (v : Int × Int × Int) :
    DRow ((((W.setCell ⟨B, k, none⟩ (.bool true)).setCell ⟨B, 4 + 3 * k, none⟩ (.int .i64 v.1)).setCell ⟨B, 4 + 3 * k + 1, none⟩ (.int .i64 v.2.1)).setCell ⟨B, 4 + 3 * k + 2, none⟩ (.int .i64 v.2.2)) B (d.put k v) := by
  refine ((((Row.set h k (by omega) _).set (4 + 3 * k) (by omega) _).set (4 + 3 * k + 1) (by omega) _).set (4 + 3 * k + 2) (by omega) _).of_eq (fun j hj => ?_)
  unfold dateV DS.put
  by_cases h4 : j < 4
  · have n2 : ¬ j = 4 + 3 * k + 2 := by omega
    have n1 : ¬ j = 4 + 3 * k + 1 := by omega
    have n0 : ¬ j = 4 + 3 * k := by omega
    simp only [if_neg n2, if_neg n1, if_neg n0, if_pos h4]
    by_cases e : j = k
    · simp [e]
    · simp [e]
  · have nk : ¬ j = k := by omega
    by_cases e2 : j = 4 + 3 * k + 2
    · have m0 : ¬ j - 4 = 3 * k := by omega
      have m1 : ¬ j - 4 = 3 * k + 1 := by omega
      have m2 : j - 4 = 3 * k + 2 := by omega
      simp only [if_pos e2, if_neg h4, if_neg m0, if_neg m1, if_pos m2]
    · by_cases e1 : j = 4 + 3 * k + 1
      · have m0 : ¬ j - 4 = 3 * k := by omega
        have m1 : j - 4 = 3 * k + 1 := by omega
        simp only [if_neg e2, if_pos e1, if_neg h4, if_neg m0, if_pos m1]
      · by_cases e0 : j = 4 + 3 * k
        · have m0 : j - 4 = 3 * k := by omega
          simp only [if_neg e2, if_neg e1, if_pos e0, if_neg h4, if_pos m0]
        · have m0 : ¬ j - 4 = 3 * k := by omega
          have m1 : ¬ j - 4 = 3 * k + 1 := by omega
          have m2 : ¬ j - 4 = 3 * k + 2 := by omega
          simp only [if_neg e2, if_neg e1, if_neg e0, if_neg nk, if_neg h4, if_neg m0, if_neg m1, if_neg m2]
theorem DRow.put' {W : World} {B : Nat} {d : DS} (h : DRow W B d) (k : Nat) (hk : k < 4) (a b c : Int) (o0 o1 o2 : Nat) (e0 : o0 = 4 + 3 * k) (e1 : o1 = 4 + 3 * k + 1) (e2 : o2 = 4 + 3 * k + 2) :
    DRow ((((W.setCell ⟨B, k, none⟩ (.bool true)).setCell ⟨B, o0, none⟩ (.int .i64 a)).setCell ⟨B, o1, none⟩ (.int .i64 b)).setCell ⟨B, o2, none⟩ (.int .i64 c)).drew B (d.put k (a, b, c)) := by
  subst e0 e1 e2
  exact Row.drew (DRow.put h k hk (a, b, c))
theorem grown4 {w W : World} {B : Nat} (h : w.grownBy W (some B)) (k o0 o1 o2 : Nat) (v v0 v1 v2 : Value) :
    w.grownBy ((((W.setCell ⟨B, k, none⟩ v).setCell ⟨B, o0, none⟩ v0).setCell ⟨B, o1, none⟩ v1).setCell ⟨B, o2, none⟩ v2).drew (some B) := by
  have h1 := h.trans (grown_set W B k v)
  have h2 := h1.trans (grown_set _ B o0 v0)
  have h3 := h2.trans (grown_set _ B o1 v1)
  have h4 := h3.trans (grown_set _ B o2 v2)
  exact ⟨h4.os, h4.tape, h4.output, h4.size, h4.block⟩
set_option maxHeartbeats 2000000 in
theorem take_any (B : Nat) (d : DS) (x : ByteArray) (w : World) (hx : x.size ≤ 400) (T : STabs w) (hR : DRow w B d) (hB : B < w.heap.size) :
    Calls Tryd.prog 60 #[.pointer (some ⟨B, 0, none⟩), .string x] w fun e w' => (∃ v, e = .returned v) ∧ DRow w' B (stepD d x.data.toList) ∧ w.grownBy w' (some B) := by
  have TH : Hid _ := T
  have RH : Hid (Row w B 16 (dateV d)) := hR
  clear T hR
  go_enter Tryd.func60, Tryd.ntmps60
  go_wp2_with fail
  go_loopw [7] (fun iv wr => ∃ k : Nat, k ≤ 4 ∧ iv = .int .i64 k ∧ Hid (dumb d x.data.toList k) ∧ Below w.heap.size w wr) (fun iv _ => 4 - (intOf iv).toNat)
  case atStart => exact ⟨0, by omega, rfl, fun j hj => absurd hj (by omega), Below.refl _ _⟩
  case round =>
    obtain ⟨k, hk, rfl, hdb, hb⟩ := hrel
    have hk5 : k = 0 ∨ k = 1 ∨ k = 2 ∨ k = 3 ∨ k = 4 := by omega
    rcases hk5 with rfl | rfl | rfl | rfl | rfl
    · have hRr := RH.out.below hb hB
      have RW : Hid (Row wr B 16 (dateV d)) := hRr
      have cf := hRr.cell 0 (by omega)
      have ff := hRr.frozen 0 (by omega)
      have t0 := hRr.cell 4 (by omega)
      have g0 := hRr.frozen 4 (by omega)
      have t1 := hRr.cell 5 (by omega)
      have g1 := hRr.frozen 5 (by omega)
      have t2 := hRr.cell 6 (by omega)
      have g2 := hRr.frozen 6 (by omega)
      simp only [dateV, Nat.reduceLT, if_true, if_false, Nat.reduceSub] at cf t0 t1 t2
      clear hRr
      have hBr : B < wr.heap.size := Nat.lt_of_lt_of_le hB hb.size
      cases hf : d.f 0
      · rw [hf] at cf
        have CW : Hid (∀ w1 : World, Below wr.heap.size wr w1 → DRow w1 B d) := fun w1 h1 => RW.out.below h1 hBr
        obtain ⟨ok, hok⟩ : ∃ b, (readK 0 x.data.toList).isSome = b := ⟨_, rfl⟩
        have OK : Hid _ := hok
        clear hok
        go_wp2_with fail
        refine (readAs0_any x _ hx (TH.out.below hb (Nat.le_refl _))).mono ?_
        rw [OK.out]
        rintro e w1 ⟨rfl, hb1⟩
        have hR1 := CW.out w1 hb1
        have RW1 : Hid _ := hR1
        have cf := hR1.cell 0 (by omega)
        have ff := hR1.frozen 0 (by omega)
        have t0 := hR1.cell 4 (by omega)
        have g0 := hR1.frozen 4 (by omega)
        have t1 := hR1.cell 5 (by omega)
        have g1 := hR1.frozen 5 (by omega)
        have t2 := hR1.cell 6 (by omega)
        have g2 := hR1.frozen 6 (by omega)
        simp only [dateV, Nat.reduceLT, if_true, if_false, Nat.reduceSub] at cf t0 t1 t2
        clear hR1
        have hB1 : B < w1.heap.size := Nat.lt_of_lt_of_le hBr hb1.size
        have hBne : ¬ B = w1.heap.size := by omega
        have hBne2 : ¬ w1.heap.size = B := by omega
        cases ok
        · go_wp2_with fail
          go_roundw
          case rel => exact ⟨1, by omega, by go_num, dumb_next _ _ _ hdb.out (.inr (Option.isSome_eq_false_iff.1 OK.out |> Option.isNone_iff_eq_none.1)), (next hb hb1).alloc (next hb hb1).size _⟩
          case measure => simp [intOf]
        · go_wp2_with fail
          obtain ⟨v, hv⟩ := Option.isSome_iff_exists.1 OK.out
          have VK : valK 0 x.data.toList = v := by unfold valK; rw [hv]; rfl
          have ST : Hid (stepD d x.data.toList = d.put 0 v) := step_found d _ 0 (by omega) hdb.out hf v hv
          rw [VK]
          clear hv VK
          obtain ⟨v1, v2, v3⟩ := v
          have NEW := R3.new w1 v1 v2 v3 92
          have hb2 : Below w.heap.size w (w1.alloc (.cells #[.int .i64 v1, .int .i64 v2, .int .i64 v3] 92)) := (next hb hb1).alloc (next hb hb1).size _
          have hRW : DRow (w1.alloc (.cells #[.int .i64 v1, .int .i64 v2, .int .i64 v3] 92)) B d := Row.below RW1.out ((Below.refl _ _).alloc (Nat.le_refl _) _) hB1
          have hBn : B ≠ w1.heap.size := by omega
          obtain ⟨W, hW⟩ : ∃ W, W = w1.alloc (.cells #[.int .i64 v1, .int .i64 v2, .int .i64 v3] 92) := ⟨_, rfl⟩
          simp only
          rw [← hW] at NEW hb2 hRW ⊢
          obtain ⟨tb, htb⟩ : ∃ tb, tb = w1.heap.size := ⟨_, rfl⟩
          rw [← htb] at NEW hBn ⊢
          clear hW htb cf ff t0 g0 t1 g1 t2 g2 hBne hBne2 hB1
          have RWW : Hid (DRow W B d) := hRW
          have cf := hRW.cell 0 (by omega)
          have ff := hRW.frozen 0 (by omega)
          have t0 := hRW.cell 4 (by omega)
          have g0 := hRW.frozen 4 (by omega)
          have t1 := hRW.cell 5 (by omega)
          have g1 := hRW.frozen 5 (by omega)
          have t2 := hRW.cell 6 (by omega)
          have g2 := hRW.frozen 6 (by omega)
          simp only [dateV, Nat.reduceLT, if_true, if_false, Nat.reduceSub] at cf t0 t1 t2
          clear hRW
          obtain ⟨n0, n1, n2, _, _, _⟩ := NEW
          go_region_held3 (fun w' => w'.cell? ⟨tb, 0, none⟩ = some (.int .i64 v1) ∧ w'.cell? ⟨tb, 1, none⟩ = some (.int .i64 v2) ∧ w'.cell? ⟨tb, 2, none⟩ = some (.int .i64 v3)) (go_keep) (fail)
          go_wp2_with fail
          refine bodyPost_ret (results_none rfl _ _ _) rfl ?_
          refine ⟨⟨_, rfl⟩, ?_, grown4 (grown_of hb2 _) _ _ _ _ _ _ _ _⟩
          rw [ST.out]
          exact DRow.put' RWW.out 0 (by omega) v1 v2 v3 4 5 6 rfl rfl rfl
      · rw [hf] at cf
        go_wp2_with fail
        go_roundw
        case rel => exact ⟨1, by omega, by go_num, dumb_next _ _ _ hdb.out (.inl hf), hb⟩
        case measure => simp [intOf]
    · have hRr := RH.out.below hb hB
      have RW : Hid (Row wr B 16 (dateV d)) := hRr
      have cf := hRr.cell 1 (by omega)
      have ff := hRr.frozen 1 (by omega)
      have t0 := hRr.cell 7 (by omega)
      have g0 := hRr.frozen 7 (by omega)
      have t1 := hRr.cell 8 (by omega)
      have g1 := hRr.frozen 8 (by omega)
      have t2 := hRr.cell 9 (by omega)
      have g2 := hRr.frozen 9 (by omega)
      simp only [dateV, Nat.reduceLT, if_true, if_false, Nat.reduceSub] at cf t0 t1 t2
      clear hRr
      have hBr : B < wr.heap.size := Nat.lt_of_lt_of_le hB hb.size
      cases hf : d.f 1
      · rw [hf] at cf
        have CW : Hid (∀ w1 : World, Below wr.heap.size wr w1 → DRow w1 B d) := fun w1 h1 => RW.out.below h1 hBr
        obtain ⟨ok, hok⟩ : ∃ b, (readK 1 x.data.toList).isSome = b := ⟨_, rfl⟩
        have OK : Hid _ := hok
        clear hok
        go_wp2_with fail
        refine (readAs1_any x _ hx (TH.out.below hb (Nat.le_refl _))).mono ?_
        rw [OK.out]
        rintro e w1 ⟨rfl, hb1⟩
        have hR1 := CW.out w1 hb1
        have RW1 : Hid _ := hR1
        have cf := hR1.cell 1 (by omega)
        have ff := hR1.frozen 1 (by omega)
        have t0 := hR1.cell 7 (by omega)
        have g0 := hR1.frozen 7 (by omega)
        have t1 := hR1.cell 8 (by omega)
        have g1 := hR1.frozen 8 (by omega)
        have t2 := hR1.cell 9 (by omega)
        have g2 := hR1.frozen 9 (by omega)
        simp only [dateV, Nat.reduceLT, if_true, if_false, Nat.reduceSub] at cf t0 t1 t2
        clear hR1
        have hB1 : B < w1.heap.size := Nat.lt_of_lt_of_le hBr hb1.size
        have hBne : ¬ B = w1.heap.size := by omega
        have hBne2 : ¬ w1.heap.size = B := by omega
        cases ok
        · go_wp2_with fail
          go_roundw
          case rel => exact ⟨2, by omega, by go_num, dumb_next _ _ _ hdb.out (.inr (Option.isSome_eq_false_iff.1 OK.out |> Option.isNone_iff_eq_none.1)), (next hb hb1).alloc (next hb hb1).size _⟩
          case measure => simp [intOf]
        · go_wp2_with fail
          obtain ⟨v, hv⟩ := Option.isSome_iff_exists.1 OK.out
          have VK : valK 1 x.data.toList = v := by unfold valK; rw [hv]; rfl
          have ST : Hid (stepD d x.data.toList = d.put 1 v) := step_found d _ 1 (by omega) hdb.out hf v hv
          rw [VK]
          clear hv VK
          obtain ⟨v1, v2, v3⟩ := v
          have NEW := R3.new w1 v1 v2 v3 92
          have hb2 : Below w.heap.size w (w1.alloc (.cells #[.int .i64 v1, .int .i64 v2, .int .i64 v3] 92)) := (next hb hb1).alloc (next hb hb1).size _
          have hRW : DRow (w1.alloc (.cells #[.int .i64 v1, .int .i64 v2, .int .i64 v3] 92)) B d := Row.below RW1.out ((Below.refl _ _).alloc (Nat.le_refl _) _) hB1
          have hBn : B ≠ w1.heap.size := by omega
          obtain ⟨W, hW⟩ : ∃ W, W = w1.alloc (.cells #[.int .i64 v1, .int .i64 v2, .int .i64 v3] 92) := ⟨_, rfl⟩
          simp only
          rw [← hW] at NEW hb2 hRW ⊢
          obtain ⟨tb, htb⟩ : ∃ tb, tb = w1.heap.size := ⟨_, rfl⟩
          rw [← htb] at NEW hBn ⊢
          clear hW htb cf ff t0 g0 t1 g1 t2 g2 hBne hBne2 hB1
          have RWW : Hid (DRow W B d) := hRW
          have cf := hRW.cell 1 (by omega)
          have ff := hRW.frozen 1 (by omega)
          have t0 := hRW.cell 7 (by omega)
          have g0 := hRW.frozen 7 (by omega)
          have t1 := hRW.cell 8 (by omega)
          have g1 := hRW.frozen 8 (by omega)
          have t2 := hRW.cell 9 (by omega)
          have g2 := hRW.frozen 9 (by omega)
          simp only [dateV, Nat.reduceLT, if_true, if_false, Nat.reduceSub] at cf t0 t1 t2
          clear hRW
          obtain ⟨n0, n1, n2, _, _, _⟩ := NEW
          go_region_held3 (fun w' => w'.cell? ⟨tb, 0, none⟩ = some (.int .i64 v1) ∧ w'.cell? ⟨tb, 1, none⟩ = some (.int .i64 v2) ∧ w'.cell? ⟨tb, 2, none⟩ = some (.int .i64 v3)) (go_keep) (fail)
          go_wp2_with fail
          refine bodyPost_ret (results_none rfl _ _ _) rfl ?_
          refine ⟨⟨_, rfl⟩, ?_, grown4 (grown_of hb2 _) _ _ _ _ _ _ _ _⟩
          rw [ST.out]
          exact DRow.put' RWW.out 1 (by omega) v1 v2 v3 7 8 9 rfl rfl rfl
      · rw [hf] at cf
        go_wp2_with fail
        go_roundw
        case rel => exact ⟨2, by omega, by go_num, dumb_next _ _ _ hdb.out (.inl hf), hb⟩
        case measure => simp [intOf]
    · have hRr := RH.out.below hb hB
      have RW : Hid (Row wr B 16 (dateV d)) := hRr
      have cf := hRr.cell 2 (by omega)
      have ff := hRr.frozen 2 (by omega)
      have t0 := hRr.cell 10 (by omega)
      have g0 := hRr.frozen 10 (by omega)
      have t1 := hRr.cell 11 (by omega)
      have g1 := hRr.frozen 11 (by omega)
      have t2 := hRr.cell 12 (by omega)
      have g2 := hRr.frozen 12 (by omega)
      simp only [dateV, Nat.reduceLT, if_true, if_false, Nat.reduceSub] at cf t0 t1 t2
      clear hRr
      have hBr : B < wr.heap.size := Nat.lt_of_lt_of_le hB hb.size
      cases hf : d.f 2
      · rw [hf] at cf
        have CW : Hid (∀ w1 : World, Below wr.heap.size wr w1 → DRow w1 B d) := fun w1 h1 => RW.out.below h1 hBr
        obtain ⟨ok, hok⟩ : ∃ b, (readK 2 x.data.toList).isSome = b := ⟨_, rfl⟩
        have OK : Hid _ := hok
        clear hok
        go_wp2_with fail
        refine (readAs2_any x _ hx (TH.out.below hb (Nat.le_refl _))).mono ?_
        rw [OK.out]
        rintro e w1 ⟨rfl, hb1⟩
        have hR1 := CW.out w1 hb1
        have RW1 : Hid _ := hR1
        have cf := hR1.cell 2 (by omega)
        have ff := hR1.frozen 2 (by omega)
        have t0 := hR1.cell 10 (by omega)
        have g0 := hR1.frozen 10 (by omega)
        have t1 := hR1.cell 11 (by omega)
        have g1 := hR1.frozen 11 (by omega)
        have t2 := hR1.cell 12 (by omega)
        have g2 := hR1.frozen 12 (by omega)
        simp only [dateV, Nat.reduceLT, if_true, if_false, Nat.reduceSub] at cf t0 t1 t2
        clear hR1
        have hB1 : B < w1.heap.size := Nat.lt_of_lt_of_le hBr hb1.size
        have hBne : ¬ B = w1.heap.size := by omega
        have hBne2 : ¬ w1.heap.size = B := by omega
        cases ok
        · go_wp2_with fail
          go_roundw
          case rel => exact ⟨3, by omega, by go_num, dumb_next _ _ _ hdb.out (.inr (Option.isSome_eq_false_iff.1 OK.out |> Option.isNone_iff_eq_none.1)), (next hb hb1).alloc (next hb hb1).size _⟩
          case measure => simp [intOf]
        · go_wp2_with fail
          obtain ⟨v, hv⟩ := Option.isSome_iff_exists.1 OK.out
          have VK : valK 2 x.data.toList = v := by unfold valK; rw [hv]; rfl
          have ST : Hid (stepD d x.data.toList = d.put 2 v) := step_found d _ 2 (by omega) hdb.out hf v hv
          rw [VK]
          clear hv VK
          obtain ⟨v1, v2, v3⟩ := v
          have NEW := R3.new w1 v1 v2 v3 92
          have hb2 : Below w.heap.size w (w1.alloc (.cells #[.int .i64 v1, .int .i64 v2, .int .i64 v3] 92)) := (next hb hb1).alloc (next hb hb1).size _
          have hRW : DRow (w1.alloc (.cells #[.int .i64 v1, .int .i64 v2, .int .i64 v3] 92)) B d := Row.below RW1.out ((Below.refl _ _).alloc (Nat.le_refl _) _) hB1
          have hBn : B ≠ w1.heap.size := by omega
          obtain ⟨W, hW⟩ : ∃ W, W = w1.alloc (.cells #[.int .i64 v1, .int .i64 v2, .int .i64 v3] 92) := ⟨_, rfl⟩
          simp only
          rw [← hW] at NEW hb2 hRW ⊢
          obtain ⟨tb, htb⟩ : ∃ tb, tb = w1.heap.size := ⟨_, rfl⟩
          rw [← htb] at NEW hBn ⊢
          clear hW htb cf ff t0 g0 t1 g1 t2 g2 hBne hBne2 hB1
          have RWW : Hid (DRow W B d) := hRW
          have cf := hRW.cell 2 (by omega)
          have ff := hRW.frozen 2 (by omega)
          have t0 := hRW.cell 10 (by omega)
          have g0 := hRW.frozen 10 (by omega)
          have t1 := hRW.cell 11 (by omega)
          have g1 := hRW.frozen 11 (by omega)
          have t2 := hRW.cell 12 (by omega)
          have g2 := hRW.frozen 12 (by omega)
          simp only [dateV, Nat.reduceLT, if_true, if_false, Nat.reduceSub] at cf t0 t1 t2
          clear hRW
          obtain ⟨n0, n1, n2, _, _, _⟩ := NEW
          go_region_held3 (fun w' => w'.cell? ⟨tb, 0, none⟩ = some (.int .i64 v1) ∧ w'.cell? ⟨tb, 1, none⟩ = some (.int .i64 v2) ∧ w'.cell? ⟨tb, 2, none⟩ = some (.int .i64 v3)) (go_keep) (fail)
          go_wp2_with fail
          refine bodyPost_ret (results_none rfl _ _ _) rfl ?_
          refine ⟨⟨_, rfl⟩, ?_, grown4 (grown_of hb2 _) _ _ _ _ _ _ _ _⟩
          rw [ST.out]
          exact DRow.put' RWW.out 2 (by omega) v1 v2 v3 10 11 12 rfl rfl rfl
      · rw [hf] at cf
        go_wp2_with fail
        go_roundw
        case rel => exact ⟨3, by omega, by go_num, dumb_next _ _ _ hdb.out (.inl hf), hb⟩
        case measure => simp [intOf]
    · have hRr := RH.out.below hb hB
      have RW : Hid (Row wr B 16 (dateV d)) := hRr
      have cf := hRr.cell 3 (by omega)
      have ff := hRr.frozen 3 (by omega)
      have t0 := hRr.cell 13 (by omega)
      have g0 := hRr.frozen 13 (by omega)
      have t1 := hRr.cell 14 (by omega)
      have g1 := hRr.frozen 14 (by omega)
      have t2 := hRr.cell 15 (by omega)
      have g2 := hRr.frozen 15 (by omega)
      simp only [dateV, Nat.reduceLT, if_true, if_false, Nat.reduceSub] at cf t0 t1 t2
      clear hRr
      have hBr : B < wr.heap.size := Nat.lt_of_lt_of_le hB hb.size
      cases hf : d.f 3
      · rw [hf] at cf
        have CW : Hid (∀ w1 : World, Below wr.heap.size wr w1 → DRow w1 B d) := fun w1 h1 => RW.out.below h1 hBr
        obtain ⟨ok, hok⟩ : ∃ b, (readK 3 x.data.toList).isSome = b := ⟨_, rfl⟩
        have OK : Hid _ := hok
        clear hok
        go_wp2_with fail
        refine (readAs3_any x _ hx (TH.out.below hb (Nat.le_refl _))).mono ?_
        rw [OK.out]
        rintro e w1 ⟨rfl, hb1⟩
        have hR1 := CW.out w1 hb1
        have RW1 : Hid _ := hR1
        have cf := hR1.cell 3 (by omega)
        have ff := hR1.frozen 3 (by omega)
        have t0 := hR1.cell 13 (by omega)
        have g0 := hR1.frozen 13 (by omega)
        have t1 := hR1.cell 14 (by omega)
        have g1 := hR1.frozen 14 (by omega)
        have t2 := hR1.cell 15 (by omega)
        have g2 := hR1.frozen 15 (by omega)
        simp only [dateV, Nat.reduceLT, if_true, if_false, Nat.reduceSub] at cf t0 t1 t2
        clear hR1
        have hB1 : B < w1.heap.size := Nat.lt_of_lt_of_le hBr hb1.size
        have hBne : ¬ B = w1.heap.size := by omega
        have hBne2 : ¬ w1.heap.size = B := by omega
        cases ok
        · go_wp2_with fail
          go_roundw
          case rel => exact ⟨4, by omega, by go_num, dumb_next _ _ _ hdb.out (.inr (Option.isSome_eq_false_iff.1 OK.out |> Option.isNone_iff_eq_none.1)), (next hb hb1).alloc (next hb hb1).size _⟩
          case measure => simp [intOf]
        · go_wp2_with fail
          obtain ⟨v, hv⟩ := Option.isSome_iff_exists.1 OK.out
          have VK : valK 3 x.data.toList = v := by unfold valK; rw [hv]; rfl
          have ST : Hid (stepD d x.data.toList = d.put 3 v) := step_found d _ 3 (by omega) hdb.out hf v hv
          rw [VK]
          clear hv VK
          obtain ⟨v1, v2, v3⟩ := v
          have NEW := R3.new w1 v1 v2 v3 92
          have hb2 : Below w.heap.size w (w1.alloc (.cells #[.int .i64 v1, .int .i64 v2, .int .i64 v3] 92)) := (next hb hb1).alloc (next hb hb1).size _
          have hRW : DRow (w1.alloc (.cells #[.int .i64 v1, .int .i64 v2, .int .i64 v3] 92)) B d := Row.below RW1.out ((Below.refl _ _).alloc (Nat.le_refl _) _) hB1
          have hBn : B ≠ w1.heap.size := by omega
          obtain ⟨W, hW⟩ : ∃ W, W = w1.alloc (.cells #[.int .i64 v1, .int .i64 v2, .int .i64 v3] 92) := ⟨_, rfl⟩
          simp only
          rw [← hW] at NEW hb2 hRW ⊢
          obtain ⟨tb, htb⟩ : ∃ tb, tb = w1.heap.size := ⟨_, rfl⟩
          rw [← htb] at NEW hBn ⊢
          clear hW htb cf ff t0 g0 t1 g1 t2 g2 hBne hBne2 hB1
          have RWW : Hid (DRow W B d) := hRW
          have cf := hRW.cell 3 (by omega)
          have ff := hRW.frozen 3 (by omega)
          have t0 := hRW.cell 13 (by omega)
          have g0 := hRW.frozen 13 (by omega)
          have t1 := hRW.cell 14 (by omega)
          have g1 := hRW.frozen 14 (by omega)
          have t2 := hRW.cell 15 (by omega)
          have g2 := hRW.frozen 15 (by omega)
          simp only [dateV, Nat.reduceLT, if_true, if_false, Nat.reduceSub] at cf t0 t1 t2
          clear hRW
          obtain ⟨n0, n1, n2, _, _, _⟩ := NEW
          go_region_held3 (fun w' => w'.cell? ⟨tb, 0, none⟩ = some (.int .i64 v1) ∧ w'.cell? ⟨tb, 1, none⟩ = some (.int .i64 v2) ∧ w'.cell? ⟨tb, 2, none⟩ = some (.int .i64 v3)) (go_keep) (fail)
          go_wp2_with fail
          refine bodyPost_ret (results_none rfl _ _ _) rfl ?_
          refine ⟨⟨_, rfl⟩, ?_, grown4 (grown_of hb2 _) _ _ _ _ _ _ _ _⟩
          rw [ST.out]
          exact DRow.put' RWW.out 3 (by omega) v1 v2 v3 13 14 15 rfl rfl rfl
      · rw [hf] at cf
        go_wp2_with fail
        go_roundw
        case rel => exact ⟨4, by omega, by go_num, dumb_next _ _ _ hdb.out (.inl hf), hb⟩
        case measure => simp [intOf]
    · have HS : Hid (stepD d x.data.toList = d) := step_none _ _ hdb.out
      go_wp2_with fail
      go_end0
      refine ⟨⟨_, rfl⟩, ?_, grown_of hb _⟩
      rw [HS.out]
      exact RH.out.below hb hB
theorem six_set {W : World} {R : Nat} {g : Nat → Value} (h : Row W R 6 g) (a b c d e f : Int) :
    T6 ((((((W.setCell ⟨R, 0, none⟩ (.int .i64 a)).setCell ⟨R, 1, none⟩ (.int .i64 b)).setCell ⟨R, 2, none⟩ (.int .i64 c)).setCell ⟨R, 3, none⟩ (.int .i64 d)).setCell ⟨R, 4, none⟩ (.int .i64 e)).setCell ⟨R, 5, none⟩ (.int .i64 f)) R a b c d e f := by
  have k := (((((h.set 0 (by omega) (.int .i64 a)).set 1 (by omega) (.int .i64 b)).set 2 (by omega) (.int .i64 c)).set 3 (by omega) (.int .i64 d)).set 4 (by omega) (.int .i64 e)).set 5 (by omega) (.int .i64 f)
  exact ⟨k.cell 0 (by omega), k.cell 1 (by omega), k.cell 2 (by omega), k.cell 3 (by omega), k.cell 4 (by omega), k.cell 5 (by omega)⟩
set_option maxHeartbeats 400000 in
theorem fullYear_any (n : Int) (h0 : 0 ≤ n) (h1 : n ≤ 99999) (w : World) : Calls Tryd.prog 81 #[.int .i64 n] w fun e w' => e = .returned (.int .i64 (fullY n)) ∧ w' = w := by
  by_cases c1 : n < 70
  · have HF : Hid (fullY n = 2000 + n) := if_pos c1
    go_enter Tryd.func81, Tryd.ntmps81
    go_wp2_with fail
    go_ret
    refine ⟨?_, rfl⟩
    rw [HF.out]; rfl
  · by_cases c2 : n < 100
    · have HF : Hid (fullY n = 1900 + n) := by show (if _ then _ else _) = _; rw [if_neg c1, if_pos c2]
      go_enter Tryd.func81, Tryd.ntmps81
      go_wp2_with fail
      go_ret
      refine ⟨?_, rfl⟩
      rw [HF.out]; rfl
    · have HF : Hid (fullY n = n) := by show (if _ then _ else _) = _; rw [if_neg c1, if_neg c2]
      go_enter Tryd.func81, Tryd.ntmps81
      go_wp2_with fail
      go_ret
      refine ⟨?_, rfl⟩
      rw [HF.out]; rfl
set_option maxHeartbeats 1000000 in
theorem dtime_any (B : Nat) (d : DS) (w : World) (hR : DRow w B d) (hB : B < w.heap.size) (hy0 : 0 ≤ d.t 9) (hy1 : d.t 9 ≤ 99999) :
    Calls Tryd.prog 62 #[.pointer (some ⟨B, 0, none⟩)] w fun e w' => e = .returned (.agg #[.int .i64 (fullY (d.t 9)), .int .i64 (d.t 6), .int .i64 (d.t 3), .int .i64 (d.t 0), .int .i64 (d.t 1), .int .i64 (d.t 2)]) ∧ Below w.heap.size w w' := by
  have RH : Hid (Row w B 16 (dateV d)) := hR
  have hBn : ¬ B = w.heap.size := by omega
  have hBn' : ¬ w.heap.size = B := by omega
  have c0 := hR.cell 4 (by omega)
  have c1 := hR.cell 5 (by omega)
  have c2 := hR.cell 6 (by omega)
  have c3 := hR.cell 7 (by omega)
  have c6 := hR.cell 10 (by omega)
  have c9 := hR.cell 13 (by omega)
  simp only [dateV, Nat.reduceLT, if_false, Nat.reduceSub] at c0 c1 c2 c3 c6 c9
  clear hR
  go_enter Tryd.func62, Tryd.ntmps62
  go_wp2_with fail
  obtain ⟨W, hW⟩ : ∃ W, W = (w.alloc (.cells #[.int .i64 0, .int .i64 0, .int .i64 0, .int .i64 0, .int .i64 0, .int .i64 0] 100)).alloc (.cells #[.int .i64 (d.t 0), .int .i64 (d.t 1), .int .i64 (d.t 2)] 92) := ⟨_, rfl⟩
  have bW : Below w.heap.size w W := by rw [hW]; exact ((Below.refl _ _).alloc (Nat.le_refl _) _).alloc (by simp) _
  have hRW : Row W B 16 (dateV d) := RH.out.below bW hB
  rw [← hW]
  have r0 : W.cell? ⟨w.heap.size, 0, none⟩ = some (.int .i64 0) := by rw [hW]; simp
  have r1 : W.cell? ⟨w.heap.size, 1, none⟩ = some (.int .i64 0) := by rw [hW]; simp
  have r2 : W.cell? ⟨w.heap.size, 2, none⟩ = some (.int .i64 0) := by rw [hW]; simp
  have r3 : W.cell? ⟨w.heap.size, 3, none⟩ = some (.int .i64 0) := by rw [hW]; simp
  have r4 : W.cell? ⟨w.heap.size, 4, none⟩ = some (.int .i64 0) := by rw [hW]; simp
  have r5 : W.cell? ⟨w.heap.size, 5, none⟩ = some (.int .i64 0) := by rw [hW]; simp
  have q0 : W.frozen? ⟨w.heap.size, 0, none⟩ = false := by rw [hW]; simp
  have q1 : W.frozen? ⟨w.heap.size, 1, none⟩ = false := by rw [hW]; simp
  have q2 : W.frozen? ⟨w.heap.size, 2, none⟩ = false := by rw [hW]; simp
  have q3 : W.frozen? ⟨w.heap.size, 3, none⟩ = false := by rw [hW]; simp
  have q4 : W.frozen? ⟨w.heap.size, 4, none⟩ = false := by rw [hW]; simp
  have q5 : W.frozen? ⟨w.heap.size, 5, none⟩ = false := by rw [hW]; simp
  have a0 : W.cell? ⟨w.heap.size + 1, 0, none⟩ = some (.int .i64 (d.t 0)) := by rw [hW]; simp
  have a1 : W.cell? ⟨w.heap.size + 1, 1, none⟩ = some (.int .i64 (d.t 1)) := by rw [hW]; simp
  have a2 : W.cell? ⟨w.heap.size + 1, 2, none⟩ = some (.int .i64 (d.t 2)) := by rw [hW]; simp
  clear hW c0 c1 c2 c3 c6 c9
  have c3 := hRW.cell 7 (by omega)
  have c6 := hRW.cell 10 (by omega)
  have c9 := hRW.cell 13 (by omega)
  simp only [dateV, Nat.reduceLT, if_false, Nat.reduceSub] at c3 c6 c9
  clear hRW
  go_region_held3 (fun w' => w'.cell? ⟨w.heap.size + 1, 0, none⟩ = some (.int .i64 (d.t 0)) ∧ w'.cell? ⟨w.heap.size + 1, 1, none⟩ = some (.int .i64 (d.t 1)) ∧ w'.cell? ⟨w.heap.size + 1, 2, none⟩ = some (.int .i64 (d.t 2)) ∧
      w'.cell? ⟨B, 7, none⟩ = some (.int .i64 (d.t 3)) ∧ w'.cell? ⟨B, 10, none⟩ = some (.int .i64 (d.t 6)) ∧ w'.cell? ⟨B, 13, none⟩ = some (.int .i64 (d.t 9))) (go_keep) (first | (go_at_call 81; refine (fullYear_any _ hy0 hy1 _).mono ?_; rintro e w' ⟨rfl, rfl⟩))
  have RZ : Row W w.heap.size 6 (fun _ => .int .i64 0) := fun j hj => by
    have h6 : j = 0 ∨ j = 1 ∨ j = 2 ∨ j = 3 ∨ j = 4 ∨ j = 5 := by omega
    rcases h6 with rfl | rfl | rfl | rfl | rfl | rfl
    · exact ⟨r0, q0⟩
    · exact ⟨r1, q1⟩
    · exact ⟨r2, q2⟩
    · exact ⟨r3, q3⟩
    · exact ⟨r4, q4⟩
    · exact ⟨r5, q5⟩
  have t6 := six_set RZ (fullY (d.t 9)) (d.t 6) (d.t 3) (d.t 0) (d.t 1) (d.t 2)
  clear r0 r1 r2 r3 r4 r5 q0 q1 q2 q3 q4 q5 a0 a1 a2 c3 c6 c9 RZ
  go_wp2_with fail
  exact bodyPost_ret (v := .agg #[.int .i64 (fullY (d.t 9)), .int .i64 (d.t 6), .int .i64 (d.t 3), .int .i64 (d.t 0), .int .i64 (d.t 1), .int .i64 (d.t 2)]) (by simp [results, Tryd.results62, go_sem, t6.cy, t6.cm, t6.cd, t6.ch, t6.ci, t6.cs]) rfl ⟨rfl, ((((((bW.setCell (Nat.le_refl _) _).setCell (Nat.le_refl _) _).setCell (Nat.le_refl _) _).setCell (Nat.le_refl _) _).setCell (Nat.le_refl _) _).setCell (Nat.le_refl _) _).drew⟩
end Go.Proofs.YtgjjkieljdamfafDoor
