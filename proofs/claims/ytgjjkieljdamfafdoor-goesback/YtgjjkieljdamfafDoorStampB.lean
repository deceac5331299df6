/- Contracts of package stamp: the words, a time of day, a month. -/
import Derived.Test.YtgjjkieljdamfafDoorStampA
namespace Go.Proofs.YtgjjkieljdamfafDoor
open Go.RowKit
set_option linter.all false
set_option maxRecDepth 100000

set_option maxHeartbeats 1000000 in
theorem spart_any (x : Nat) (hx : x ≤ 1114111) (w : World) (T : STabs w) :
    Calls Tryd.prog 59 #[.int .i32 (x : Int)] w fun e w' => e = .returned (.bool (partR x)) ∧ w' = w := by
  have HP : Hid _ := partR_iff x
  have p0 := T.part 0 (by decide)
  have p1 := T.part 1 (by decide)
  have p2 := T.part 2 (by decide)
  have p3 := T.part 3 (by decide)
  have p4 := T.part 4 (by decide)
  have p5 := T.part 5 (by decide)
  have p6 := T.part 6 (by decide)
  have p7 := T.part 7 (by decide)
  have p8 := T.part 8 (by decide)
  have p9 := T.part 9 (by decide)
  simp only [List.getD_cons_zero, List.getD_cons_succ] at p0 p1 p2 p3 p4 p5 p6 p7 p8 p9
  clear T
  go_enter Tryd.func59, Tryd.ntmps59
  go_wp2
  go_loop [4] (fun i => ∃ k : Nat, k ≤ 5 ∧ i = .int .i64 k ∧ Hid ((0 < k → ¬ x = 9) ∧ (1 < k → ¬ (32 ≤ x ∧ x ≤ 47)) ∧ (2 < k → ¬ (59 ≤ x ∧ x ≤ 64)) ∧ (3 < k → ¬ (91 ≤ x ∧ x ≤ 96)) ∧ (4 < k → ¬ (123 ≤ x ∧ x ≤ 126)))) (fun i => 5 - (intOf i).toNat)
  case atStart => exact ⟨0, by omega, rfl, ⟨fun h => by omega, fun h => by omega, fun h => by omega, fun h => by omega, fun h => by omega⟩⟩
  case round =>
    obtain ⟨k, hk, rfl, hb⟩ := hrel
    have hk6 : k = 0 ∨ k = 1 ∨ k = 2 ∨ k = 3 ∨ k = 4 ∨ k = 5 := by omega
    rcases hk6 with rfl | rfl | rfl | rfl | rfl | rfl
    case inr.inr.inr.inr.inr =>
      have HT : Hid (partR x = false) := by have h := hb.out; show _ = _; rw [← Bool.not_eq_true, HP.out]; omega
      go_wp2_with fail
      go_ret
      refine ⟨?_, rfl⟩
      rw [HT.out]; rfl
    all_goals
      go_wp2_with fail
      · have HT : partR x = true := HP.out.2 (by omega)
        go_ret
        refine ⟨?_, rfl⟩
        rw [HT]; rfl
      all_goals
        have h := hb.out
        go_round
        case rel => first | exact ⟨1, by omega, by go_num, by show _ ∧ _; omega⟩ | exact ⟨2, by omega, by go_num, by show _ ∧ _; omega⟩ | exact ⟨3, by omega, by go_num, by show _ ∧ _; omega⟩ | exact ⟨4, by omega, by go_num, by show _ ∧ _; omega⟩ | exact ⟨5, by omega, by go_num, by show _ ∧ _; omega⟩
        case measure => simp [intOf]
theorem parts_pred (w : World) (T : STabs w) : PredAtRunes Tryd.prog 59 #[] partR w := fun W x hx hb =>
  (spart_any x hx W (T.below hb (Nat.le_refl _))).mono fun e w' ⟨h1, h2⟩ => ⟨h1, 0, h2⟩
theorem fields_any (s : ByteArray) (w : World) (hs : s.size ≤ 400) (T : STabs w) : Calls Tryd.prog 58 #[.string s, .func (.func 59) #[] #[]] w fun e w' => ∃ v, e = .returned v ∧
    w'.ownsRow w.heap.size 9 1 v (wordsL s.data.toList).length (strs (wordsL s.data.toList)) ∧ Below w.heap.size w w' :=
  (Tryd.strings_FieldsFunc_runes 59 #[] (enters_of Tryd.func59 (by kernel_rfl) rfl) partR s w (by omega) (parts_pred w T)).mono fun e w' ⟨A, h1, _, h3, h4⟩ => by
    have e1 : (Lib.goFieldsP partR s).length = (wordsL s.data.toList).length := by rw [fields_words, List.length_map]
    have e2 : (Lib.goFieldsP partR s).map Value.string = strs (wordsL s.data.toList) := by rw [fields_words, List.map_map]; rfl
    rw [e2, e1] at h3
    exact ⟨_, by rw [h1, e1], h3, h4⟩
/-- three numbers in a block -/
structure R3 (W : World) (B : Nat) (a b c : Int) : Prop where
  c0 : W.cell? ⟨B, 0, none⟩ = some (.int .i64 a)
  c1 : W.cell? ⟨B, 1, none⟩ = some (.int .i64 b)
  c2 : W.cell? ⟨B, 2, none⟩ = some (.int .i64 c)
  f0 : W.frozen? ⟨B, 0, none⟩ = false
  f1 : W.frozen? ⟨B, 1, none⟩ = false
  f2 : W.frozen? ⟨B, 2, none⟩ = false
theorem R3.set0 {W : World} {B : Nat} {a b c : Int} (h : R3 W B a b c) (x : Int) : R3 (W.setCell ⟨B, 0, none⟩ (.int .i64 x)) B x b c :=
  ⟨World.cell?_setCell_same _ _ _ h.c0, (World.cell?_setCell_other _ _ _ _ (by intro e; injection e with _ e _; cases e)).trans h.c1, (World.cell?_setCell_other _ _ _ _ (by intro e; injection e with _ e _; cases e)).trans h.c2,
    (World.frozen?_setCell _ _ _ _).trans h.f0, (World.frozen?_setCell _ _ _ _).trans h.f1, (World.frozen?_setCell _ _ _ _).trans h.f2⟩
theorem R3.set1 {W : World} {B : Nat} {a b c : Int} (h : R3 W B a b c) (x : Int) : R3 (W.setCell ⟨B, 1, none⟩ (.int .i64 x)) B a x c :=
  ⟨(World.cell?_setCell_other _ _ _ _ (by intro e; injection e with _ e _; cases e)).trans h.c0, World.cell?_setCell_same _ _ _ h.c1, (World.cell?_setCell_other _ _ _ _ (by intro e; injection e with _ e _; cases e)).trans h.c2,
    (World.frozen?_setCell _ _ _ _).trans h.f0, (World.frozen?_setCell _ _ _ _).trans h.f1, (World.frozen?_setCell _ _ _ _).trans h.f2⟩
theorem R3.set2 {W : World} {B : Nat} {a b c : Int} (h : R3 W B a b c) (x : Int) : R3 (W.setCell ⟨B, 2, none⟩ (.int .i64 x)) B a b x :=
  ⟨(World.cell?_setCell_other _ _ _ _ (by intro e; injection e with _ e _; cases e)).trans h.c0, (World.cell?_setCell_other _ _ _ _ (by intro e; injection e with _ e _; cases e)).trans h.c1, World.cell?_setCell_same _ _ _ h.c2,
    (World.frozen?_setCell _ _ _ _).trans h.f0, (World.frozen?_setCell _ _ _ _).trans h.f1, (World.frozen?_setCell _ _ _ _).trans h.f2⟩
theorem R3.other {W : World} {B B' k : Nat} {a b c : Int} {v : Value} (h : R3 W B a b c) (hB : B' ≠ B) : R3 (W.setCell ⟨B', k, none⟩ v) B a b c :=
  ⟨(World.cell?_setCell_other _ _ _ _ (by intro e; injection e with e _ _; exact hB e)).trans h.c0, (World.cell?_setCell_other _ _ _ _ (by intro e; injection e with e _ _; exact hB e)).trans h.c1, (World.cell?_setCell_other _ _ _ _ (by intro e; injection e with e _ _; exact hB e)).trans h.c2,
    (World.frozen?_setCell _ _ _ _).trans h.f0, (World.frozen?_setCell _ _ _ _).trans h.f1, (World.frozen?_setCell _ _ _ _).trans h.f2⟩
theorem R3.drewN {W : World} {B : Nat} {a b c : Int} (h : R3 W B a b c) (n : Nat) : R3 (W.drewN n) B a b c := ⟨h.c0, h.c1, h.c2, h.f0, h.f1, h.f2⟩
theorem R3.set3 {W : World} {B : Nat} {a b c : Int} (h : R3 W B a b c) (x y z : Int) : R3 (((W.setCell ⟨B, 0, none⟩ (.int .i64 x)).setCell ⟨B, 1, none⟩ (.int .i64 y)).setCell ⟨B, 2, none⟩ (.int .i64 z)) B x y z := ((h.set0 x).set1 y).set2 z
/-- what the first k rounds found -/
def tInv (s : List UInt8) (k : Nat) (a b c : Int) (r : List UInt8) : Prop :=
  (k = 0 ∧ r = 58 :: s ∧ a = 0 ∧ b = 0 ∧ c = 0) ∨ (k = 1 ∧ b = 0 ∧ c = 0 ∧ ∃ x : Nat, a = x ∧ stepT (58 :: s) = some (x, r)) ∨
  (k = 2 ∧ c = 0 ∧ ∃ (x y : Nat) (q : List UInt8), a = x ∧ b = y ∧ stepT (58 :: s) = some (x, q) ∧ stepT q = some (y, r)) ∨ (k = 3 ∧ timeL s = some (a, b, c))
theorem tInv_bad {s : List UInt8} {k : Nat} {a b c : Int} {r : List UInt8} (h : tInv s k a b c r) (hk : k < 3) (hn : stepT r = none) : timeL s = none := by
  unfold timeL
  rcases h with ⟨_, rfl, _⟩ | ⟨_, _, _, x, _, e⟩ | ⟨_, _, x, y, q, _, _, e, e'⟩ | ⟨h, _⟩
  · rw [hn]
  · rw [e]; simp only; rw [hn]
  · rw [e]; simp only; rw [e']; simp only; rw [hn]
  · omega
theorem tInv_next0 {s : List UInt8} {a b c : Int} {r q : List UInt8} {x : Nat} (h : tInv s 0 a b c r) (hn : stepT r = some (x, q)) : tInv s 1 x b c q := by
  rcases h with ⟨_, rfl, _, hb, hc⟩ | ⟨h, _⟩ | ⟨h, _⟩ | ⟨h, _⟩
  · exact .inr (.inl ⟨rfl, hb, hc, x, rfl, hn⟩)
  all_goals omega
theorem tInv_next1 {s : List UInt8} {a b c : Int} {r q : List UInt8} {x : Nat} (h : tInv s 1 a b c r) (hn : stepT r = some (x, q)) : tInv s 2 a x c q := by
  rcases h with ⟨h, _⟩ | ⟨_, hb, hc, y, hy, e⟩ | ⟨h, _⟩ | ⟨h, _⟩
  · omega
  · exact .inr (.inr (.inl ⟨rfl, hc, y, x, r, hy, rfl, e, hn⟩))
  all_goals omega
theorem tInv_next2 {s : List UInt8} {a b c : Int} {r q : List UInt8} {x : Nat} (h : tInv s 2 a b c r) (hn : stepT r = some (x, q)) : tInv s 3 a b x q := by
  rcases h with ⟨h, _⟩ | ⟨h, _⟩ | ⟨_, hc, y, z, p, hy, hz, e, e'⟩ | ⟨h, _⟩
  · omega
  · omega
  · refine .inr (.inr (.inr ⟨rfl, ?_⟩))
    unfold timeL
    rw [e]; simp only; rw [e']; simp only; rw [hn, hy, hz]
  · omega
def timeV (s : List UInt8) : Int × Int × Int := (timeL s).getD (0, 0, 0)
theorem cut_colon (r : List UInt8) : Lib.hasPrefix r [58] = colonB r ∧ (colonB r = true → Lib.trimPrefix r [58] = r.drop 1) := by
  unfold Lib.hasPrefix Lib.trimPrefix colonB
  cases r with
  | nil => exact ⟨rfl, fun h => by cases h⟩
  | cons c r =>
    have e : List.isPrefixOf [58] (c :: r) = (some c == some 58) := by
      simp [List.isPrefixOf]
      exact Bool.beq_comm
    refine ⟨e, fun h => ?_⟩
    rw [if_pos (show Lib.hasPrefix (c :: r) [58] = true from e.trans h)]; rfl
theorem trim_le (r : List UInt8) : (Lib.trimPrefix r [58]).length ≤ r.length := by
  unfold Lib.trimPrefix
  split
  · rw [List.length_drop]; omega
  · exact Nat.le_refl _
set_option maxHeartbeats 1000000 in
theorem readTime_any (s : ByteArray) (w : World) (hs : s.size < maxLen) : 
    Calls Tryd.prog 89 #[.string s] w fun e w' => e = .returned (.tuple #[.agg #[.int .i64 (timeV s.data.toList).1, .int .i64 (timeV s.data.toList).2.1, .int .i64 (timeV s.data.toList).2.2], .bool (timeL s.data.toList).isSome]) ∧ Below w.heap.size w w' := by
  unfold maxLen at hs
  have hz : ({ data := #[58] } : ByteArray).size = 1 := rfl
  go_enter Tryd.func89, Tryd.ntmps89
  go_wp2_with fail
  go_loopw [5, 14] (fun rv iv wr => ∃ (k : Nat) (a b c : Int) (r : List UInt8), k ≤ 3 ∧ iv = .int .i64 k ∧ rv = .string (txt r) ∧ r.length ≤ s.size + 1 ∧ Hid (tInv s.data.toList k a b c r) ∧ R3 wr (w.heap.size + 1) a b c ∧ R3 wr w.heap.size 0 0 0 ∧ Below w.heap.size w wr) (fun _ iv _ => 3 - (intOf iv).toNat)
  case atStart =>
    refine ⟨0, 0, 0, 0, 58 :: s.data.toList, by omega, rfl, ?_, by simp, .inl ⟨rfl, rfl, rfl, rfl, rfl⟩, ?_, ?_, ((Below.refl _ _).alloc (Nat.le_refl _) _).alloc (by simp) _⟩
    · rw [show txt (58 :: s.data.toList) = ({ data := #[58] } ++ s : ByteArray) from (txt_append [58] s.data.toList).symm]
    · exact ⟨by simp, by simp, by simp, by simp, by simp, by simp⟩
    · exact ⟨by simp, by simp, by simp, by simp, by simp, by simp⟩
  case round =>
    obtain ⟨k, a, b, c, r, hk, rfl, rfl, hr, hI, R1, R0, hb⟩ := hrel
    have hk4 : k = 0 ∨ k = 1 ∨ k = 2 ∨ k = 3 := by omega
    rcases hk4 with rfl | rfl | rfl | rfl
    · have RB1 : Hid _ := R1
      have RB0 : Hid _ := R0
      obtain ⟨c0, c1, c2, f0, f1, f2⟩ := R1
      obtain ⟨d0, d1, d2, g0, g1, g2⟩ := R0
      have HC : Hid _ := cut_colon r
      cases hcol : colonB r
      · have HT : Hid (timeL s.data.toList = none) := tInv_bad hI.out (by omega) (by unfold stepT; rw [hcol]; rfl)
        go_wp2_with fail
        refine (Tryd.strings_CutPrefix (txt r) ⟨#[58]⟩ _).mono ?_
        rw [show Lib.hasPrefix (txt r).data.toList ({ data := #[58] } : ByteArray).data.toList = false from HC.out.1.trans hcol]
        rintro e w1 ⟨rfl, rfl⟩
        have hsz : (Lib.trimPrefix (txt r).data.toList ({ data := #[58] } : ByteArray).data.toList).length ≤ r.length := trim_le r
        obtain ⟨q, hq⟩ : ∃ q, q = Lib.trimPrefix (txt r).data.toList ({ data := #[58] } : ByteArray).data.toList := ⟨_, rfl⟩
        rw [← hq] at hsz ⊢
        clear hq
        rw [show ({ data := q.toArray } : ByteArray) = txt q from rfl]
        go_wp2_with fail
        refine (number_any (txt q) 1 2 (by omega) (by omega) _ (by show q.length ≤ maxLen; unfold maxLen; omega)).mono ?_
        rintro e w2 ⟨rfl, n2, rfl⟩
        go_wp2_with fail
        have RR := (RB0.out.drewN n2).set3 0 0 0
        exact bodyPost_ret (v := .tuple #[.agg #[.int .i64 0, .int .i64 0, .int .i64 0], .bool false]) (by simp [results, Tryd.results89, go_sem, RR.c0, RR.c1, RR.c2]) rfl ⟨by unfold timeV; rw [HT.out]; rfl, (((hb.trans (below_drewN' _ _ n2)).setCell (Nat.le_refl _) _).setCell (Nat.le_refl _) _).setCell (Nat.le_refl _) _⟩
      · have hq : Lib.trimPrefix (txt r).data.toList ({ data := #[58] } : ByteArray).data.toList = r.drop 1 := HC.out.2 hcol
        have HQ : Hid _ := hq
        clear hq
        have hsz : (r.drop 1).length ≤ s.size + 1 := by rw [List.length_drop]; omega
        go_wp2_with fail
        refine (Tryd.strings_CutPrefix (txt r) ⟨#[58]⟩ _).mono ?_
        rw [show Lib.hasPrefix (txt r).data.toList ({ data := #[58] } : ByteArray).data.toList = true from HC.out.1.trans hcol, HQ.out]
        rintro e w1 ⟨rfl, rfl⟩
        rw [show ({ data := (r.drop 1).toArray } : ByteArray) = txt (r.drop 1) from rfl]
        obtain ⟨nb, hnb⟩ : ∃ nb, numB (r.drop 1) 1 2 = nb := ⟨_, rfl⟩
        obtain ⟨nv, hnv⟩ : ∃ nv, numV (r.drop 1) 1 2 = nv := ⟨_, rfl⟩
        obtain ⟨nr, hnr⟩ : ∃ nr, numR (r.drop 1) 1 2 = nr := ⟨_, rfl⟩
        have NB : Hid _ := hnb
        have NV : Hid _ := hnv
        have NR : Hid _ := hnr
        have hnrl : nr.length ≤ s.size + 1 := by
          rw [← hnr]; unfold numR; split
          · rw [List.length_drop]; omega
          · simp
        obtain ⟨q, hq⟩ : ∃ q, r.drop 1 = q := ⟨_, rfl⟩
        rw [hq] at NB NV NR hsz ⊢
        have HST : Hid (stepT r = if nb then some (nv, nr) else none) := by show _ = _; unfold stepT; rw [hcol, hnb, hnv, hnr]; rfl
        clear hq hnb hnv hnr
        cases nb
        · have HT : Hid (timeL s.data.toList = none) := tInv_bad hI.out (by omega) HST.out
          go_wp2_with fail
          refine (number_any (txt q) 1 2 (by omega) (by omega) _ (by show q.length ≤ maxLen; unfold maxLen; omega)).mono ?_
          rw [txt_toList, NB.out, NV.out, NR.out]
          rintro e w2 ⟨rfl, n2, rfl⟩
          go_wp2_with fail
          have RR := (RB0.out.drewN n2).set3 0 0 0
          exact bodyPost_ret (v := .tuple #[.agg #[.int .i64 0, .int .i64 0, .int .i64 0], .bool false]) (by simp [results, Tryd.results89, go_sem, RR.c0, RR.c1, RR.c2]) rfl ⟨by unfold timeV; rw [HT.out]; rfl, (((hb.trans (below_drewN' _ _ n2)).setCell (Nat.le_refl _) _).setCell (Nat.le_refl _) _).setCell (Nat.le_refl _) _⟩
        · have HN : Hid (tInv s.data.toList 1 nv b c nr) := tInv_next0 hI.out HST.out
          go_wp2_with fail
          refine (number_any (txt q) 1 2 (by omega) (by omega) _ (by show q.length ≤ maxLen; unfold maxLen; omega)).mono ?_
          rw [txt_toList, NB.out, NV.out, NR.out]
          rintro e w2 ⟨rfl, n2, rfl⟩
          go_wp2_with fail
          go_roundw
          case rel => exact ⟨1, _, _, _, _, by omega, by go_num, rfl, hnrl, HN, (RB1.out.drewN n2).set0 _, (RB0.out.drewN n2).other (by omega), (hb.trans (below_drewN' _ _ n2)).setCell (Nat.le_succ _) _⟩
          case measure => simp [intOf]
    · have RB1 : Hid _ := R1
      have RB0 : Hid _ := R0
      obtain ⟨c0, c1, c2, f0, f1, f2⟩ := R1
      obtain ⟨d0, d1, d2, g0, g1, g2⟩ := R0
      have HC : Hid _ := cut_colon r
      cases hcol : colonB r
      · have HT : Hid (timeL s.data.toList = none) := tInv_bad hI.out (by omega) (by unfold stepT; rw [hcol]; rfl)
        go_wp2_with fail
        refine (Tryd.strings_CutPrefix (txt r) ⟨#[58]⟩ _).mono ?_
        rw [show Lib.hasPrefix (txt r).data.toList ({ data := #[58] } : ByteArray).data.toList = false from HC.out.1.trans hcol]
        rintro e w1 ⟨rfl, rfl⟩
        have hsz : (Lib.trimPrefix (txt r).data.toList ({ data := #[58] } : ByteArray).data.toList).length ≤ r.length := trim_le r
        obtain ⟨q, hq⟩ : ∃ q, q = Lib.trimPrefix (txt r).data.toList ({ data := #[58] } : ByteArray).data.toList := ⟨_, rfl⟩
        rw [← hq] at hsz ⊢
        clear hq
        rw [show ({ data := q.toArray } : ByteArray) = txt q from rfl]
        go_wp2_with fail
        refine (number_any (txt q) 1 2 (by omega) (by omega) _ (by show q.length ≤ maxLen; unfold maxLen; omega)).mono ?_
        rintro e w2 ⟨rfl, n2, rfl⟩
        go_wp2_with fail
        have RR := (RB0.out.drewN n2).set3 0 0 0
        exact bodyPost_ret (v := .tuple #[.agg #[.int .i64 0, .int .i64 0, .int .i64 0], .bool false]) (by simp [results, Tryd.results89, go_sem, RR.c0, RR.c1, RR.c2]) rfl ⟨by unfold timeV; rw [HT.out]; rfl, (((hb.trans (below_drewN' _ _ n2)).setCell (Nat.le_refl _) _).setCell (Nat.le_refl _) _).setCell (Nat.le_refl _) _⟩
      · have hq : Lib.trimPrefix (txt r).data.toList ({ data := #[58] } : ByteArray).data.toList = r.drop 1 := HC.out.2 hcol
        have HQ : Hid _ := hq
        clear hq
        have hsz : (r.drop 1).length ≤ s.size + 1 := by rw [List.length_drop]; omega
        go_wp2_with fail
        refine (Tryd.strings_CutPrefix (txt r) ⟨#[58]⟩ _).mono ?_
        rw [show Lib.hasPrefix (txt r).data.toList ({ data := #[58] } : ByteArray).data.toList = true from HC.out.1.trans hcol, HQ.out]
        rintro e w1 ⟨rfl, rfl⟩
        rw [show ({ data := (r.drop 1).toArray } : ByteArray) = txt (r.drop 1) from rfl]
        obtain ⟨nb, hnb⟩ : ∃ nb, numB (r.drop 1) 1 2 = nb := ⟨_, rfl⟩
        obtain ⟨nv, hnv⟩ : ∃ nv, numV (r.drop 1) 1 2 = nv := ⟨_, rfl⟩
        obtain ⟨nr, hnr⟩ : ∃ nr, numR (r.drop 1) 1 2 = nr := ⟨_, rfl⟩
        have NB : Hid _ := hnb
        have NV : Hid _ := hnv
        have NR : Hid _ := hnr
        have hnrl : nr.length ≤ s.size + 1 := by
          rw [← hnr]; unfold numR; split
          · rw [List.length_drop]; omega
          · simp
        obtain ⟨q, hq⟩ : ∃ q, r.drop 1 = q := ⟨_, rfl⟩
        rw [hq] at NB NV NR hsz ⊢
        have HST : Hid (stepT r = if nb then some (nv, nr) else none) := by show _ = _; unfold stepT; rw [hcol, hnb, hnv, hnr]; rfl
        clear hq hnb hnv hnr
        cases nb
        · have HT : Hid (timeL s.data.toList = none) := tInv_bad hI.out (by omega) HST.out
          go_wp2_with fail
          refine (number_any (txt q) 1 2 (by omega) (by omega) _ (by show q.length ≤ maxLen; unfold maxLen; omega)).mono ?_
          rw [txt_toList, NB.out, NV.out, NR.out]
          rintro e w2 ⟨rfl, n2, rfl⟩
          go_wp2_with fail
          have RR := (RB0.out.drewN n2).set3 0 0 0
          exact bodyPost_ret (v := .tuple #[.agg #[.int .i64 0, .int .i64 0, .int .i64 0], .bool false]) (by simp [results, Tryd.results89, go_sem, RR.c0, RR.c1, RR.c2]) rfl ⟨by unfold timeV; rw [HT.out]; rfl, (((hb.trans (below_drewN' _ _ n2)).setCell (Nat.le_refl _) _).setCell (Nat.le_refl _) _).setCell (Nat.le_refl _) _⟩
        · have HN : Hid (tInv s.data.toList 2 a nv c nr) := tInv_next1 hI.out HST.out
          go_wp2_with fail
          refine (number_any (txt q) 1 2 (by omega) (by omega) _ (by show q.length ≤ maxLen; unfold maxLen; omega)).mono ?_
          rw [txt_toList, NB.out, NV.out, NR.out]
          rintro e w2 ⟨rfl, n2, rfl⟩
          go_wp2_with fail
          go_roundw
          case rel => exact ⟨2, _, _, _, _, by omega, by go_num, rfl, hnrl, HN, (RB1.out.drewN n2).set1 _, (RB0.out.drewN n2).other (by omega), (hb.trans (below_drewN' _ _ n2)).setCell (Nat.le_succ _) _⟩
          case measure => simp [intOf]
    · have RB1 : Hid _ := R1
      have RB0 : Hid _ := R0
      obtain ⟨c0, c1, c2, f0, f1, f2⟩ := R1
      obtain ⟨d0, d1, d2, g0, g1, g2⟩ := R0
      have HC : Hid _ := cut_colon r
      cases hcol : colonB r
      · have HT : Hid (timeL s.data.toList = none) := tInv_bad hI.out (by omega) (by unfold stepT; rw [hcol]; rfl)
        go_wp2_with fail
        refine (Tryd.strings_CutPrefix (txt r) ⟨#[58]⟩ _).mono ?_
        rw [show Lib.hasPrefix (txt r).data.toList ({ data := #[58] } : ByteArray).data.toList = false from HC.out.1.trans hcol]
        rintro e w1 ⟨rfl, rfl⟩
        have hsz : (Lib.trimPrefix (txt r).data.toList ({ data := #[58] } : ByteArray).data.toList).length ≤ r.length := trim_le r
        obtain ⟨q, hq⟩ : ∃ q, q = Lib.trimPrefix (txt r).data.toList ({ data := #[58] } : ByteArray).data.toList := ⟨_, rfl⟩
        rw [← hq] at hsz ⊢
        clear hq
        rw [show ({ data := q.toArray } : ByteArray) = txt q from rfl]
        go_wp2_with fail
        refine (number_any (txt q) 1 2 (by omega) (by omega) _ (by show q.length ≤ maxLen; unfold maxLen; omega)).mono ?_
        rintro e w2 ⟨rfl, n2, rfl⟩
        go_wp2_with fail
        have RR := (RB0.out.drewN n2).set3 0 0 0
        exact bodyPost_ret (v := .tuple #[.agg #[.int .i64 0, .int .i64 0, .int .i64 0], .bool false]) (by simp [results, Tryd.results89, go_sem, RR.c0, RR.c1, RR.c2]) rfl ⟨by unfold timeV; rw [HT.out]; rfl, (((hb.trans (below_drewN' _ _ n2)).setCell (Nat.le_refl _) _).setCell (Nat.le_refl _) _).setCell (Nat.le_refl _) _⟩
      · have hq : Lib.trimPrefix (txt r).data.toList ({ data := #[58] } : ByteArray).data.toList = r.drop 1 := HC.out.2 hcol
        have HQ : Hid _ := hq
        clear hq
        have hsz : (r.drop 1).length ≤ s.size + 1 := by rw [List.length_drop]; omega
        go_wp2_with fail
        refine (Tryd.strings_CutPrefix (txt r) ⟨#[58]⟩ _).mono ?_
        rw [show Lib.hasPrefix (txt r).data.toList ({ data := #[58] } : ByteArray).data.toList = true from HC.out.1.trans hcol, HQ.out]
        rintro e w1 ⟨rfl, rfl⟩
        rw [show ({ data := (r.drop 1).toArray } : ByteArray) = txt (r.drop 1) from rfl]
        obtain ⟨nb, hnb⟩ : ∃ nb, numB (r.drop 1) 1 2 = nb := ⟨_, rfl⟩
        obtain ⟨nv, hnv⟩ : ∃ nv, numV (r.drop 1) 1 2 = nv := ⟨_, rfl⟩
        obtain ⟨nr, hnr⟩ : ∃ nr, numR (r.drop 1) 1 2 = nr := ⟨_, rfl⟩
        have NB : Hid _ := hnb
        have NV : Hid _ := hnv
        have NR : Hid _ := hnr
        have hnrl : nr.length ≤ s.size + 1 := by
          rw [← hnr]; unfold numR; split
          · rw [List.length_drop]; omega
          · simp
        obtain ⟨q, hq⟩ : ∃ q, r.drop 1 = q := ⟨_, rfl⟩
        rw [hq] at NB NV NR hsz ⊢
        have HST : Hid (stepT r = if nb then some (nv, nr) else none) := by show _ = _; unfold stepT; rw [hcol, hnb, hnv, hnr]; rfl
        clear hq hnb hnv hnr
        cases nb
        · have HT : Hid (timeL s.data.toList = none) := tInv_bad hI.out (by omega) HST.out
          go_wp2_with fail
          refine (number_any (txt q) 1 2 (by omega) (by omega) _ (by show q.length ≤ maxLen; unfold maxLen; omega)).mono ?_
          rw [txt_toList, NB.out, NV.out, NR.out]
          rintro e w2 ⟨rfl, n2, rfl⟩
          go_wp2_with fail
          have RR := (RB0.out.drewN n2).set3 0 0 0
          exact bodyPost_ret (v := .tuple #[.agg #[.int .i64 0, .int .i64 0, .int .i64 0], .bool false]) (by simp [results, Tryd.results89, go_sem, RR.c0, RR.c1, RR.c2]) rfl ⟨by unfold timeV; rw [HT.out]; rfl, (((hb.trans (below_drewN' _ _ n2)).setCell (Nat.le_refl _) _).setCell (Nat.le_refl _) _).setCell (Nat.le_refl _) _⟩
        · have HN : Hid (tInv s.data.toList 3 a b nv nr) := tInv_next2 hI.out HST.out
          go_wp2_with fail
          refine (number_any (txt q) 1 2 (by omega) (by omega) _ (by show q.length ≤ maxLen; unfold maxLen; omega)).mono ?_
          rw [txt_toList, NB.out, NV.out, NR.out]
          rintro e w2 ⟨rfl, n2, rfl⟩
          go_wp2_with fail
          go_roundw
          case rel => exact ⟨3, _, _, _, _, by omega, by go_num, rfl, hnrl, HN, (RB1.out.drewN n2).set2 _, (RB0.out.drewN n2).other (by omega), (hb.trans (below_drewN' _ _ n2)).setCell (Nat.le_succ _) _⟩
          case measure => simp [intOf]
    · have RB0 : Hid _ := R0
      obtain ⟨c0, c1, c2, f0, f1, f2⟩ := R1
      obtain ⟨d0, d1, d2, g0, g1, g2⟩ := R0
      have HT : Hid (timeL s.data.toList = some (a, b, c)) := by
        rcases hI.out with ⟨h, _⟩ | ⟨h, _⟩ | ⟨h, _⟩ | ⟨_, h⟩
        · omega
        · omega
        · omega
        · exact h
      go_wp2_with fail
      have RR := RB0.out.set3 a b c
      exact bodyPost_ret (v := .tuple #[.agg #[.int .i64 a, .int .i64 b, .int .i64 c], .bool true]) (by simp [results, Tryd.results89, go_sem, RR.c0, RR.c1, RR.c2]) rfl ⟨by unfold timeV; rw [HT.out]; rfl, ((hb.setCell (Nat.le_refl _) _).setCell (Nat.le_refl _) _).setCell (Nat.le_refl _) _⟩
theorem mon_at (k : Nat) (hk : k < 12) : ∃ x y, monGreat[k]? = some x ∧ monNames[k]? = some y ∧ foldL x = y ∧ x.length = 3 := by
  have hk12 : k = 0 ∨ k = 1 ∨ k = 2 ∨ k = 3 ∨ k = 4 ∨ k = 5 ∨ k = 6 ∨ k = 7 ∨ k = 8 ∨ k = 9 ∨ k = 10 ∨ k = 11 := by omega
  rcases hk12 with rfl | rfl | rfl | rfl | rfl | rfl | rfl | rfl | rfl | rfl | rfl | rfl <;> exact ⟨_, _, rfl, rfl, by decide +kernel, rfl⟩
set_option maxHeartbeats 1000000 in
theorem readMonth_any (s : ByteArray) (w : World) (hs : s.size ≤ maxLen) (T : STabs w) : 
    Calls Tryd.prog 91 #[.string s] w fun e w' => e = .returned (.tuple #[.int .i64 (monthL s.data.toList : Nat), .bool (decide (monthL s.data.toList ≠ 0))]) ∧ Below w.heap.size w w' := by
  unfold maxLen at hs
  have TH : Hid _ := T
  clear T
  by_cases h3 : s.size < 3
  · have HT : Hid (monthL s.data.toList = 0) := if_neg (by show ¬ 3 ≤ s.size; omega)
    go_enter Tryd.func91, Tryd.ntmps91
    go_wp2_with fail
    go_ret2
    refine ⟨?_, Below.refl _ _⟩
    rw [HT.out]; rfl
  · have HM : Hid (monthL s.data.toList = idxFrom monNames (foldL (s.data.toList.take 3)) 0) := if_pos (by show 3 ≤ s.size; omega)
    have HS3 : Hid ((s.extract 0 3).size ≤ maxLen) := by unfold maxLen; show _ ≤ _; simp; omega
    have HX : Hid ((s.extract 0 3).data.toList = s.data.toList.take 3) := by show _ = _; rw [Lib.extract_data]; rfl
    go_enter Tryd.func91, Tryd.ntmps91
    go_wp2_with fail
    refine (fold_any _ _ HS3.out).mono ?_
    rw [HX.out]
    rintro e w1 ⟨rfl, hb1⟩
    obtain ⟨f3, hf3⟩ : ∃ x, foldL (s.data.toList.take 3) = x := ⟨_, rfl⟩
    rw [hf3] at HM ⊢
    clear hf3
    go_wp2_with fail
    go_loopw [12] (fun iv wr => ∃ k : Nat, k ≤ 12 ∧ iv = .int .i64 k ∧ Hid (∀ (j : Nat) x, monNames[j]? = some x → j < k → x ≠ f3) ∧ Below w.heap.size w wr) (fun iv _ => 12 - (intOf iv).toNat)
    case atStart => exact ⟨0, by omega, rfl, fun _ _ _ h => absurd h (by omega), hb1⟩
    case round =>
      obtain ⟨k, hk, rfl, hno, hb⟩ := hrel
      by_cases hlt : k < 12
      · obtain ⟨x, y, ex, ey, exy, exl⟩ := mon_at k hlt
        have hc := (TH.out.below hb (Nat.le_refl _)).mons k x ex
        have HY : Hid _ := ey
        have HXY : Hid _ := exy
        have HXL : Hid ((txt x).size ≤ maxLen) := by show x.length ≤ maxLen; rw [exl]; unfold maxLen; decide
        clear ex ey exy exl
        by_cases hq : y = f3
        · subst hq
          have HT : Hid (monthL s.data.toList = k + 1) := by
            show _ = _
            rw [HM.out, idx_some monNames y 0 k HY.out (fun i x hi hlt => hno.out i x hi hlt)]; omega
          go_wp2_with fail
          refine (fold_any (txt x) _ HXL.out).mono ?_
          rw [txt_toList, HXY.out]
          rintro e w2 ⟨rfl, hb2⟩
          go_wp2_with fail
          go_ret2
          refine ⟨?_, next hb hb2⟩
          rw [HT.out]
          simp
        · have hqe : ((txt y).toList == (txt f3).toList) = false := by
            rw [beq_eq_false_iff_ne, Lib.toList_data, Lib.toList_data]; exact hq
          have HQ : Hid _ := hq
          clear hq
          go_wp2_with fail
          refine (fold_any (txt x) _ HXL.out).mono ?_
          rw [txt_toList, HXY.out]
          rintro e w2 ⟨rfl, hb2⟩
          go_wp2_with fail
          go_roundw
          case rel =>
            refine ⟨k + 1, by omega, by go_num, fun j z hj hlt2 => ?_, next hb hb2⟩
            by_cases e : j = k
            · subst e
              rw [HY.out] at hj
              injection hj with hj
              rw [← hj]; exact HQ.out
            · exact hno.out j z hj (by omega)
          case measure => simp [intOf]; omega
      · have HT : Hid (monthL s.data.toList = 0) := by
          show _ = _
          rw [HM.out]
          exact idx_none _ _ _ (fun j x hj => hno.out j x hj (by have := (List.getElem?_eq_some_iff.1 hj).1; have h12 : monNames.length = 12 := rfl; omega))
        go_wp2_with fail
        go_ret2
        refine ⟨?_, hb⟩
        rw [HT.out]; rfl
end Go.Proofs.YtgjjkieljdamfafDoor
