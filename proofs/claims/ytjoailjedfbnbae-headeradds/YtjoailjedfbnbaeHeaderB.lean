/- Contracts: readAttrs, Read. -/
import Derived.Test.YtjoailjedfbnbaeHeaderA
namespace Go.Proofs.Ytjoailjedfbnbae
open Go.RowKit
set_option linter.all false

/-- block B holds three cells -/
structure S3 (W : World) (B : Nat) (a b c : Value) : Prop where
  c0 : W.cell? ⟨B, 0, none⟩ = some a
  c1 : W.cell? ⟨B, 1, none⟩ = some b
  c2 : W.cell? ⟨B, 2, none⟩ = some c
  f0 : W.frozen? ⟨B, 0, none⟩ = false
  f1 : W.frozen? ⟨B, 1, none⟩ = false
  f2 : W.frozen? ⟨B, 2, none⟩ = false
theorem S3.below {W W' : World} {A B : Nat} {a b c : Value} (h : S3 W B a b c) (hb : Below A W W') (hA : B < A) : S3 W' B a b c :=
  ⟨(hb.cell (p := ⟨B, 0, none⟩) hA).trans h.c0, (hb.cell (p := ⟨B, 1, none⟩) hA).trans h.c1, (hb.cell (p := ⟨B, 2, none⟩) hA).trans h.c2,
    (hb.frozen (p := ⟨B, 0, none⟩) hA).trans h.f0, (hb.frozen (p := ⟨B, 1, none⟩) hA).trans h.f1, (hb.frozen (p := ⟨B, 2, none⟩) hA).trans h.f2⟩
theorem S3.new (w : World) (a b c : Value) (t : TypeId) : S3 (w.alloc (.cells #[a, b, c] t)) w.heap.size a b c := ⟨by simp, by simp, by simp, by simp, by simp, by simp⟩
theorem S3.lt {W : World} {B : Nat} {a b c : Value} (h : S3 W B a b c) : B < W.heap.size := cell_in h.c0
theorem S3.drewN {W : World} {B : Nat} {a b c : Value} (h : S3 W B a b c) (q : Nat) : S3 (W.drewN q) B a b c := ⟨h.c0, h.c1, h.c2, h.f0, h.f1, h.f2⟩
theorem S3.set3 {W : World} {B : Nat} {a b c : Value} (h : S3 W B a b c) (x y z : Value) : S3 (((W.setCell ⟨B, 0, none⟩ x).setCell ⟨B, 1, none⟩ y).setCell ⟨B, 2, none⟩ z) B x y z := by
  obtain ⟨h0, h1, h2, g0, g1, g2⟩ := h
  have k1 : (W.setCell ⟨B, 0, none⟩ x).cell? ⟨B, 1, none⟩ = some b := by rw [World.cell?_setCell_other _ _ _ _ (by intro e; injection e with _ e; cases e)]; exact h1
  have k2 : ((W.setCell ⟨B, 0, none⟩ x).setCell ⟨B, 1, none⟩ y).cell? ⟨B, 2, none⟩ = some c := by rw [World.cell?_setCell_other _ _ _ _ (by intro e; injection e with _ e; cases e), World.cell?_setCell_other _ _ _ _ (by intro e; injection e with _ e; cases e)]; exact h2
  refine ⟨?_, ?_, World.cell?_setCell_same _ _ _ k2, by simp only [World.frozen?_setCell]; exact g0, by simp only [World.frozen?_setCell]; exact g1, by simp only [World.frozen?_setCell]; exact g2⟩
  · rw [World.cell?_setCell_other _ _ _ _ (by intro e; injection e with _ e; cases e), World.cell?_setCell_other _ _ _ _ (by intro e; injection e with _ e; cases e)]
    exact World.cell?_setCell_same _ _ _ h0
  · rw [World.cell?_setCell_other _ _ _ _ (by intro e; injection e with _ e; cases e)]
    exact World.cell?_setCell_same _ _ _ k1
/-- block B holds two cells -/
structure P2c (W : World) (B : Nat) (a b : Value) : Prop where
  c0 : W.cell? ⟨B, 0, none⟩ = some a
  c1 : W.cell? ⟨B, 1, none⟩ = some b
  f0 : W.frozen? ⟨B, 0, none⟩ = false
  f1 : W.frozen? ⟨B, 1, none⟩ = false
theorem P2c.below {W W' : World} {A B : Nat} {a b : Value} (h : P2c W B a b) (hb : Below A W W') (hA : B < A) : P2c W' B a b :=
  ⟨(hb.cell (p := ⟨B, 0, none⟩) hA).trans h.c0, (hb.cell (p := ⟨B, 1, none⟩) hA).trans h.c1, (hb.frozen (p := ⟨B, 0, none⟩) hA).trans h.f0, (hb.frozen (p := ⟨B, 1, none⟩) hA).trans h.f1⟩
theorem P2c.new (w : World) (a b : Value) (t : TypeId) : P2c (w.alloc (.cells #[a, b] t)) w.heap.size a b := ⟨by simp, by simp, by simp, by simp⟩
theorem P2c.lt {W : World} {B : Nat} {a b : Value} (h : P2c W B a b) : B < W.heap.size := cell_in h.c0

theorem heap_setCell_ne {W : World} {B k g : Nat} {x : Value} (h : g ≠ B) : (W.setCell ⟨B, k, none⟩ x).heap[g]? = W.heap[g]? := by
  show (W.heap.modify B _)[g]? = _
  rw [Array.getElem?_modify, if_neg (fun e => h e.symm)]
theorem own_setCell {W : World} {base B k : Nat} {e : TypeId} {size : Nat} {v x : Value} {n : Nat} {cs : List Value} (h : W.ownsRow base e size v n cs) (hB : B < base) : (W.setCell ⟨B, k, none⟩ x).ownsRow base e size v n cs := by
  obtain ⟨hl, h⟩ := h
  refine ⟨hl, ?_⟩
  rcases h with h | ⟨g, cap, cur, rfl, hg, hcur, h⟩
  · exact .inl h
  · exact .inr ⟨g, cap, cur, rfl, hg, (heap_setCell_ne (by omega)).trans hcur, h⟩
theorem info_attr : (Try.prog.info? 35).map (fun i => (i.zero, i.size, i.bytes)) = some (some (.agg #[.string ⟨#[]⟩, .string ⟨#[]⟩]), 2, 32) := by kernel_rfl
theorem cell_two_new (w : World) (x y : Value) (t : TypeId) : ∀ j u, [x, y][j]? = some u → (w.alloc (.cells #[x, y] t)).cell? ((⟨w.heap.size, 0, none⟩ : Addr).add j) = some u := by
  intro j u hj
  match j, hj with
  | 0, hj => simp at hj; subst hj; simp [Addr.add]
  | 1, hj => simp at hj; subst hj; simp [Addr.add]
set_option maxHeartbeats 1000000 in
theorem readAttrs_any (vl : Value) (ps : List (List UInt8)) (w : World) (hl : Reads w vl ps.length (strs ps)) (hm : ps.length * 32 ≤ 140737488355328) (hp : ∀ p ∈ ps, p.length ≤ maxLen) :
    Calls Try.prog 14 #[vl] w fun e w' => ∃ v, e = .returned v ∧ w'.ownsRow w.heap.size 35 2 v (attrsL ps).length ((attrsL ps).flatMap attrF) ∧ Below w.heap.size w w' := by
  obtain ⟨i0, hi, hz0, hz1, hz2⟩ := info_parts info_attr
  obtain ⟨ad, cap, rfl, hr⟩ := hl
  have HP : Hid _ := hp
  clear hp
  go_enter Try.func14, Try.ntmps14
  go_wp2
  go_loopw [3, 11] (fun o i wr => ∃ k : Nat, k ≤ ps.length ∧ i = .int .i64 k ∧ wr.ownsRow w.heap.size 35 2 o (attrsL (ps.take k)).length ((attrsL (ps.take k)).flatMap attrF) ∧ Below w.heap.size w wr) (fun _ i _ => ps.length - (intOf i).toNat)
  case atStart => exact ⟨0, Nat.zero_le _, rfl, by rw [List.take_zero]; exact World.ownsRow_nil _ _ _ _, Below.refl _ _⟩
  case round =>
    obtain ⟨k, hk, rfl, hown, hb⟩ := hrel
    by_cases hlt : k < ps.length
    · have e1 := List.getElem?_eq_getElem hlt
      obtain ⟨p, hpk⟩ : ∃ p, p = ps[k] := ⟨_, rfl⟩
      rw [← hpk] at e1
      rcases hr with hr | ⟨bl, ol, rfl, hr⟩
      · have : (strs ps).length = ps.length := strs_length ps
        rw [hr] at this; simp at this; omega
      have hc0 := hr k _ (strs_get e1)
      have hc := (hb.cell (p := ⟨bl, ol + k, none⟩) (cell_in hc0)).trans hc0
      have HPS : Hid ((txt p).size ≤ maxLen) := HP.out p (List.mem_of_getElem? e1)
      have HN : Hid ((txt (nameL p)).size ≤ maxLen) := Nat.le_trans (nameL_len p) HPS.out
      have HJ : Hid _ := attrsL_take ps k p e1
      have hle := attrsL_len (ps.take k)
      rw [List.length_take] at hle
      obtain ⟨acc, hacc⟩ : ∃ acc, acc = attrsL (ps.take k) := ⟨_, rfl⟩
      rw [← hacc] at HJ hown hle
      obtain ⟨n, hn⟩ : ∃ n, n = nameL p := ⟨_, rfl⟩
      have HNN : Hid _ := hn
      clear hpk e1 hc0 hr hacc
      by_cases h0 : n = []
      · have hne : ((txt n).toList == []) = true := nil_t n h0
        have hnb : ((txt n).toList != []) = false := by simp only [bne, hne]; rfl
        have HA : Hid (attrsL (ps.take (k + 1)) = acc) := by
          show _ = _
          rw [HJ.out]; unfold attrL; rw [← hn, if_pos h0]; simp
        clear h0 hn
        go_wp2_with (go_at_call 13; refine (pair_any _ _ HPS.out).mono ?_; rw [txt_toList, ← HNN.out]; rintro e w' ⟨rfl, q, rfl⟩)
        go_roundw
        case rel => exact ⟨k + 1, by omega, by go_num, by rw [HA.out]; exact hown, hb.trans (below_drewN' _ _ _)⟩
        case measure => simp [intOf]; omega
      · have hne : ((txt n).toList == []) = false := nil_f n h0
        have hnb : ((txt n).toList != []) = true := by simp only [bne, hne]; rfl
        have HA : Hid (attrsL (ps.take (k + 1)) = acc ++ [(foldL n, valueL p)]) := by
          show _ = _
          rw [HJ.out]; unfold attrL; rw [← hn, if_neg h0]; rfl
        rw [← hn] at HN
        clear h0 hn
        go_wp2_with fail
        refine (pair_any _ _ HPS.out).mono ?_
        rw [txt_toList, ← HNN.out]
        rintro e w' ⟨rfl, q, rfl⟩
        go_wp2_with fail
        refine (fold_any _ _ HN.out).mono ?_
        rw [txt_toList]
        rintro e w1 ⟨rfl, hb1⟩
        have hown1 := own_below (W := wr.drewN q) (show World.ownsRow (wr.drewN q) _ _ _ _ _ _ from hown) hb1 (Nat.le_refl _)
        have hb2 := (hb.trans (below_drewN' _ _ q)).trans (hb1.mono hb.size)
        go_wp2_with (at_builtin; refine wpList_append_own _ rfl (.tmp 23) (.tmp 28) 22 rfl w.heap.size 35 i0 (.agg #[.string ⟨#[]⟩, .string ⟨#[]⟩]) 2 32 Try.underlying22 hi hz0 hz1 hz2 rfl (by decide) _ _ _ rfl (hown1.alloc _) ⟨w1.heap.size, 0, none⟩ 1 1 (attrF (foldL n, valueL p)) rfl rfl (cell_two_new _ _ _ _) (by simp [attrF, Value.oneCell']) ?c1 ?c2 (by have := hb2.size; simp; omega) ?_)
        case c1 => unfold maxLen; omega
        case c2 => omega
        intro v1 w2 hown2 hg2 _
        have hb3 : Below w.heap.size w (w1.alloc (.cells #[.string (txt (foldL n)), .string (txt (valueL p))] 35)) := hb2.alloc hb2.size _
        have hb4 := hb3.grown hg2 hb3.size (fun q e => (hown1.lt q e).1)
        have hown3 : w2.ownsRow w.heap.size 35 2 v1 (attrsL (ps.take (k + 1))).length ((attrsL (ps.take (k + 1))).flatMap attrF) := by
          rw [HA.out, List.length_append, List.flatMap_append]; exact hown2
        clear hown hown1 hown2 hg2 hb3 hc
        go_wp2
        go_roundw
        case rel => exact ⟨k + 1, by omega, by go_num, hown3, hb4⟩
        case measure => simp [intOf]; omega
    · have HT : Hid (ps.take k = ps) := List.take_of_length_le (by omega)
      rw [HT.out] at hown
      go_wp2
      go_ret
      exact ⟨_, rfl, hown, hb⟩
end Go.Proofs.Ytjoailjedfbnbae
