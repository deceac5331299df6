/- The sink of bits: its contracts, step by step. -/
import Derived.Test.YtgdcifllbfdbhaaBitsM
import Derived.Test.YtgdcifllbfdbhaaChecked
import Derived.Lib.Builder
import Derived.Deep.RegionHeld3
import Derived.Deep.RegionLaw
import Derived.Laws.OwnMore
import Derived.Laws.BitsAllLaws
namespace Go.Proofs.Ytgdcifllbfdbhaa
open Go.RowKit Go.Lib
set_option linter.all false
set_option maxRecDepth 100000

theorem orU8_lt (x : UInt8) (b k : Nat) (hb : b < 2) (hk : k ≤ 7) : x.toNat ||| b * 2 ^ k < 256 := by
  have h1 : b * 2 ^ k < 2 ^ 8 := by
    have h2 : (2:Nat) ^ k ≤ 2 ^ 7 := Nat.pow_le_pow_right (by decide) hk
    have h3 : b * 2 ^ k ≤ 1 * 2 ^ k := Nat.mul_le_mul_right _ (by omega)
    omega
  have := Nat.or_lt_two_pow (n := 8) (by have := u8_lt x; omega : x.toNat < 2 ^ 8) h1
  simpa using this
theorem orU8 (x : UInt8) (b k : Nat) (hb : b < 2) (hk : k ≤ 7) : bits BinOp.or IntKind.u8 (x.toNat : Int) (IntKind.u8.wrap ((b : Int) * 2 ^ k)) = ((x.toNat ||| b * 2 ^ k : Nat) : Int) := by
  have h1 : b * 2 ^ k < 256 := by
    have h2 : (2:Nat) ^ k ≤ 2 ^ 7 := Nat.pow_le_pow_right (by decide) hk
    have h3 : b * 2 ^ k ≤ 1 * 2 ^ k := Nat.mul_le_mul_right _ (by omega)
    omega
  have e : IntKind.u8.wrap ((b : Int) * 2 ^ k) = ((b * 2 ^ k : Nat) : Int) := by
    rw [IntKind.wrap_u8']
    have : ((b : Int) * 2 ^ k) = ((b * 2 ^ k : Nat) : Int) := by push_cast; rfl
    rw [this]; omega
  rw [e]
  exact u8_or_nat _ _ (u8_lt x) h1
/-- blocks that are no bytes lie as they lay, but for one -/
structure KeptT (w w' : World) (B : Nat) : Prop where
  size : w.heap.size ≤ w'.heap.size
  block : ∀ (k : Nat) cs T f, w.heap[k]? = some (.cells cs T f) → T ≠ 5 → k ≠ B → w'.heap[k]? = some (.cells cs T f)
theorem KeptT.refl (w : World) (B : Nat) : KeptT w w B := ⟨Nat.le_refl _, fun _ _ _ _ h _ _ => h⟩
theorem KeptT.trans {w w' w'' : World} {B : Nat} (h : KeptT w w' B) (h' : KeptT w' w'' B) : KeptT w w'' B :=
  ⟨Nat.le_trans h.size h'.size, fun k cs T f hk hT hB => h'.block k cs T f (h.block k cs T f hk hT hB) hT hB⟩
theorem KeptT.drew {w w' : World} {B : Nat} (h : KeptT w w' B) : KeptT w w'.drew B := ⟨h.size, h.block⟩
theorem blk_lt {W : World} {B : Nat} {o : Obj} (h : W.heap[B]? = some o) : B < W.heap.size := by
  rcases Nat.lt_or_ge B W.heap.size with h' | h'
  · exact h'
  · rw [Array.getElem?_eq_none h'] at h; cases h
theorem KeptT.alloc {w w' : World} {B : Nat} (h : KeptT w w' B) (o : Obj) : KeptT w (w'.alloc o) B :=
  ⟨Nat.le_trans h.size (by simp), fun k cs T f hk hT hB => by
    have h1 := h.block k cs T f hk hT hB
    show (w'.heap.push o)[k]? = _
    rw [Array.getElem?_push, if_neg (by have := blk_lt h1; omega)]
    exact h1⟩
theorem KeptT.grown {w w' w'' : World} {B base size n : Nat} {v : Value} {cs0 : List Value} (h : KeptT w w' B) (own : w'.ownsRow base 5 1 v n cs0) (hg : w'.grownBy w'' v.ownBlock) : KeptT w w'' B :=
  ⟨Nat.le_trans h.size hg.size, fun k cs T f hk hT hB => by
    have h1 := h.block k cs T f hk hT hB
    rw [hg.block k (blk_lt h1) (fun e => ownBlock_ne own h1 hT e.symm)]
    exact h1⟩
theorem KeptT.setB {w w' : World} {B : Nat} (h : KeptT w w' B) (j : Nat) (x : Value) : KeptT w (w'.setCell ⟨B, j, none⟩ x) B :=
  ⟨Nat.le_trans h.size (by simp), fun k cs T f hk hT hB => by
    rw [Below.heap_setCell _ _ _ _ (fun e => hB (by first | exact e | exact e.symm))]
    exact h.block k cs T f hk hT hB⟩
theorem KeptT.setOwn {w w' : World} {B g base n m cap : Nat} {cs0 : List Value} (h : KeptT w w' B) (own : w'.ownsRow base 5 1 (.slice (some ⟨g, 0, none⟩) m cap) n cs0) (j : Nat) (x : Value) : KeptT w (w'.setCell ⟨g, j, none⟩ x) B :=
  ⟨Nat.le_trans h.size (by simp), fun k cs T f hk hT hB => by
    have h1 := h.block k cs T f hk hT hB
    have hne := ownBlock_ne own h1 hT
    rw [Below.heap_setCell _ _ _ _ (fun e => hne (by first | (rw [← e]; rfl) | (rw [e]; rfl)))]
    exact h1⟩
structure SinkAt (W : World) (base B : Nat) (v : Value) (t : List UInt8) (n : Nat) : Prop where
  le : base ≤ B
  blk : W.heap[B]? = some (.cells #[v, .int .i64 (n : Int)] 100 (0, 0))
  own : W.ownsRow base 5 1 v t.length (bcells t)
theorem shift_any (n : Nat) (w : World) (hn : n < 1125899906842624) : Calls Try.prog 76 #[.int .i64 (n : Int)] w fun e w' => e = .returned (.int .i64 ((7 - n % 8 : Nat) : Int)) ∧ w' = w := by
  go_enter Try.func76, Try.ntmps76
  go_wp2
  go_ret
  exact ⟨ret_int (by omega), rfl⟩
theorem info8 : ∃ i, Try.prog.info? 5 = some i ∧ i.zero = some (.int .u8 0) ∧ i.size = 1 ∧ i.bytes = 1 := by
  have h : (Try.prog.info? 5).map (fun i => (i.zero, i.size, i.bytes)) = some (some (.int .u8 0), 1, 1) := by kernel_rfl
  cases hx : Try.prog.info? 5 with
  | none => rw [hx] at h; cases h
  | some i =>
    rw [hx] at h
    injection h with h
    injection h with h1 h2
    injection h2 with h2 h3
    exact ⟨i, rfl, h1, h2, h3⟩
theorem cell1_new (W : World) (B : Nat) (x : Value) (t : TypeId) (hB : B = W.heap.size) : ∀ j u, [x][j]? = some u → (W.alloc (.cells #[x] t)).cell? ((⟨B, 0, none⟩ : Addr).add j) = some u := by
  subst hB
  intro j u hj
  match j, hj with
  | 0, hj => simp at hj; subst hj; simp [Addr.add]
/-- the room made: a byte more, where one begins -/
theorem SinkAt.cell0 {W : World} {base B : Nat} {v : Value} {t : List UInt8} {n : Nat} (h : SinkAt W base B v t n) : W.cell? ⟨B, 0, none⟩ = some v := by rw [cell_of_heap h.blk]; rfl
theorem SinkAt.cell1 {W : World} {base B : Nat} {v : Value} {t : List UInt8} {n : Nat} (h : SinkAt W base B v t n) : W.cell? ⟨B, 1, none⟩ = some (.int .i64 (n : Int)) := by rw [cell_of_heap h.blk]; rfl
theorem SinkAt.frozen {W : World} {base B : Nat} {v : Value} {t : List UInt8} {n : Nat} (h : SinkAt W base B v t n) (j : Nat) : W.frozen? ⟨B, j, none⟩ = false := frozen_of_heap h.blk j
theorem SinkAt.ne {W : World} {base B : Nat} {v : Value} {t : List UInt8} {n : Nat} (h : SinkAt W base B v t n) : v.ownBlock ≠ some B := ownBlock_ne h.own h.blk (by decide)
theorem SinkAt.put0 {W : World} {base B : Nat} {v : Value} {x y : Value} {t : List UInt8} {n : Nat} (hle : base ≤ B) (hb : W.heap[B]? = some (.cells #[x, .int .i64 (n : Int)] 100 (0, 0))) (hown : W.ownsRow base 5 1 v t.length (bcells t)) : SinkAt (W.setCell ⟨B, 0, none⟩ v) base B v t n := by
  have hne := ownBlock_ne hown hb (by decide)
  refine ⟨hle, ?_, ownsRow_setCell_other hown hne v⟩
  simp [World.setCell, Array.getElem?_modify, hb]
theorem SinkAt.put1 {W : World} {base B : Nat} {v : Value} {t : List UInt8} {n : Nat} (h : SinkAt W base B v t n) (m : Nat) : SinkAt (W.setCell ⟨B, 1, none⟩ (.int .i64 (m : Int))) base B v t m := by
  refine ⟨h.le, ?_, ownsRow_setCell_other h.own h.ne _⟩
  simp [World.setCell, Array.getElem?_modify, h.blk]
theorem bcells_set (t : List UInt8) (j x : Nat) (hx : x < 256) : (bcells t).set j (.int .u8 (x : Int)) = bcells (t.set j (UInt8.ofNat x)) := by
  unfold bcells
  rw [List.map_set, u8_ofNat x hx]
theorem SinkAt.store {W : World} {base B g m cap : Nat} {t : List UInt8} {n : Nat} (h : SinkAt W base B (.slice (some ⟨g, 0, none⟩) m cap) t n) (j x : Nat) (hx : x < 256) : SinkAt (W.setCell ⟨g, j, none⟩ (.int .u8 (x : Int))) base B (.slice (some ⟨g, 0, none⟩) m cap) (t.set j (UInt8.ofNat x)) n := by
  obtain ⟨hle, hb, hown⟩ := h
  have hm : m = t.length := by
    rcases hown.2 with ⟨h1, _⟩ | ⟨g', cap', cur, h1, _⟩
    · cases h1
    · injection h1
  subst hm
  have hne := ownBlock_ne hown hb (by decide)
  obtain ⟨h1, h2⟩ := hown.stored j (.int .u8 (x : Int))
  refine ⟨hle, ?_, ?_⟩
  · rw [h2.block B (by rcases Nat.lt_or_ge B W.heap.size with h | h; exact h; rw [Array.getElem?_eq_none h] at hb; cases hb) (fun e => hne e.symm)]
    exact hb
  · rw [bcells_set t j x hx] at h1
    rw [List.length_set]; exact h1
theorem SinkAt.drew {W : World} {base B : Nat} {v : Value} {t : List UInt8} {n : Nat} (h : SinkAt W base B v t n) : SinkAt W.drew base B v t n := ⟨h.le, h.blk, h.own⟩
theorem SinkAt.shape {W : World} {base B : Nat} {v : Value} {t : List UInt8} {n : Nat} (h : SinkAt W base B v t n) (ht : 0 < t.length) : ∃ g cap, v = .slice (some ⟨g, 0, none⟩) t.length cap ∧ base ≤ g := by
  rcases h.own.2 with ⟨_, h0⟩ | ⟨g, cap, cur, hv, hg, _⟩
  · omega
  · exact ⟨g, cap, hv, hg⟩
theorem slice_own {W : World} {base : Nat} {e : TypeId} {size : Nat} {v : Value} {n : Nat} {cs : List Value} (h : W.ownsRow base e size v n cs) : ∃ ad cap, v = .slice ad n cap := by
  rcases h.2 with ⟨rfl, rfl⟩ | ⟨g, cap, cur, rfl, _⟩
  · exact ⟨none, 0, rfl⟩
  · exact ⟨_, cap, rfl⟩
theorem SinkAt.lt {W : World} {base B : Nat} {v : Value} {t : List UInt8} {n : Nat} (h : SinkAt W base B v t n) : B < W.heap.size := by
  have hb := h.blk
  rcases Nat.lt_or_ge B W.heap.size with h | h
  · exact h
  · rw [Array.getElem?_eq_none h] at hb; cases hb
set_option maxHeartbeats 2000000 in
theorem sbit_any (base B : Nat) (v : Value) (t : List UInt8) (n b : Nat) (w : World) (h : SinkAt w base B v t n) (hs : t.length = (n + 7) / 8) (hn : n < 1099511627776) (hb : b < 2) (hle : base ≤ w.heap.size) :
    Calls Try.prog 74 #[.pointer (some ⟨B, 0, none⟩), .int .u8 (b : Int)] w fun e w' => (∃ r, e = .returned r) ∧ ∃ v', SinkAt w' base B v' (putBit t n b) (n + 1) ∧ Below base w w' ∧ KeptT w w' B := by
  obtain ⟨i0, hi, hz0, hz1, hz2⟩ := info8
  have c0 := h.cell0
  have c1 := h.cell1
  have f0 := h.frozen 0
  have f1 := h.frozen 1
  have H : Hid _ := h
  have hm := Int.emod_nonneg (n : Int) (show (8 : Int) ≠ 0 by decide)
  have hown := h.own
  have HS : Hid _ := hs
  clear h hs
  go_enter Try.func74, Try.ntmps74
  by_cases h8 : n % 8 = 0
  · have e8 : (((n : Int) % 8) == 0) = true := by rw [beq_iff_eq]; omega
    have e9 : (n : Int) % 8 = 0 := by omega
    have HA := hown.alloc (.cells #[.int .u8 0] 5)
    go_wp2_with (at_builtin; refine wpList_append_own _ rfl _ _ 40 rfl base 5 i0 (.int .u8 0) 1 1 Try.underlying40 hi hz0 hz1 hz2 rfl (by decide) _ _ _ rfl HA ⟨w.heap.size, 0, none⟩ 1 1 [.int .u8 0] rfl rfl (cell1_new _ _ _ _ rfl) (by simp [Value.oneCell']) ?c1 ?c2 ?c3 ?_)
    case c1 => have := HS.out; unfold maxLen; omega
    case c2 => have := HS.out; omega
    case c3 => simp; omega
    intro v1 w1 hown1 hg1 _
    have hbk1 : w1.heap[B]? = some (.cells #[v, .int .i64 (n : Int)] 100 (0, 0)) := by
      rw [hg1.block B (by have := H.out.lt; simp; omega) (fun e => H.out.ne e.symm)]
      show (w.heap.push _)[B]? = _
      rw [Array.getElem?_push, if_neg (by have := H.out.lt; omega)]
      exact H.out.blk
    have hS1 := SinkAt.put0 (v := v1) (y := v) (t := t ++ [0]) H.out.le hbk1 (by rw [bcells_append, List.length_append]; exact hown1)
    have hB0 : Below base w (w.alloc (.cells #[.int .u8 0] 5)) := Below.alloc (Below.refl base w) hle _
    have hB1 := hB0.grown hg1 (Nat.le_trans hle (by simp)) (fun q e => (hown.lt q e).1)
    have hB2 : Below base w (w1.setCell ⟨B, 0, none⟩ v1) := hB1.setCell H.out.le _
    have hK2 : KeptT w (w1.setCell ⟨B, 0, none⟩ v1) B := (KeptT.grown (size := 0) ((KeptT.refl w B).alloc _) HA hg1).setB 0 _
    obtain ⟨ad1, cap1, rfl⟩ := slice_own hown1
    clear c0 c1 f0 f1
    have c0 : w1.cell? ⟨B, 0, none⟩ = some v := by rw [cell_of_heap hbk1]; rfl
    have f0 := frozen_of_heap hbk1 0
    clear hbk1 hg1 hown1 HA hB0 hB1 hown
    go_wp2_with fail
    obtain ⟨W2, hW2⟩ : ∃ W, W = w1.setCell ⟨B, 0, none⟩ (.slice ad1 (t.length + 1) cap1) := ⟨_, rfl⟩
    rw [← hW2] at hS1 hB2 hK2 ⊢
    have SK : SinkAt W2 base B (.slice ad1 (t.length + 1) cap1) (room t n) n := by unfold room; rw [if_pos h8]; exact hS1
    clear hS1 hW2 c0 f0 e8 e9
    have hlen : (room t n).length = n / 8 + 1 := room_length t n HS.out
    obtain ⟨g, cap, hv2, hbg⟩ := SK.shape (by omega)
    rw [hv2] at SK ⊢
    clear hv2
    obtain ⟨q, hq⟩ : ∃ q, q = n / 8 := ⟨_, rfl⟩
    obtain ⟨tr, htr⟩ : ∃ tr, tr = room t n := ⟨_, rfl⟩
    obtain ⟨x, hx⟩ : ∃ x, x = tr[q]?.getD 0 := ⟨_, rfl⟩
    rw [← htr] at SK hlen ⊢
    obtain ⟨m, hmm⟩ : ∃ m, m = tr.length := ⟨_, rfl⟩
    rw [← hmm] at hlen ⊢
    have c0 := SK.cell0
    rw [← hmm] at c0
    have c1 := SK.cell1
    have f1 := SK.frozen 1
    have hcx : W2.cell? ⟨g, q, none⟩ = some (.int .u8 (x.toNat : Int)) := by
      rw [SK.own.cellAt q (by omega), hx]
      unfold bcells
      rw [List.getElem?_map, List.getElem?_eq_getElem (by omega)]; rfl
    have hfx := SK.own.frozenAt q
    have hx0 : (0 : Int) ≤ (x.toNat : Int) := by omega
    have hx1 : (x.toNat : Int) < 256 := by have := u8_lt x; omega
    have i1 : (n : Int) / 8 = (q : Int) := by omega
    have i1a : (n : Int).tdiv 8 = (q : Int) := by rw [Int.tdiv_eq_ediv_of_nonneg (by omega)]; omega
    have i1b : IntKind.i64.wrap (q : Int) = (q : Int) := IntWalk.i64_in _ (by omega)
    have i0' : (0 : Int) ≤ (q : Int) := by omega
    have i3 : (q : Int) < (m : Int) := by omega
    have HX : Hid _ := hx
    have HTR : Hid _ := htr
    have HQ : Hid _ := hq
    have HM : Hid _ := hmm
    have HL : Hid _ := hlen
    have SK' : Hid _ := SK
    have HB' : Hid _ := hB2
    have HK' : Hid _ := hK2
    have HLE : Hid _ := hle
    clear hx SK hB2 hK2 hle htr hq hmm hlen h8 hm
    go_region_law (first
      | (go_simp; go_at_call 76; refine (shift_any n _ (by omega)).mono ?_; rintro e w' ⟨rfl, rfl⟩)
      | fail)
    all_goals
      obtain ⟨W3, hW3⟩ : ∃ W, W = (W2.setCell ⟨g, q, none⟩ (.int .u8 (bits BinOp.or IntKind.u8 (x.toNat : Int) (IntKind.u8.wrap ((b : Int) * 2 ^ (7 - n % 8)))))).drew := ⟨_, rfl⟩
      rw [← hW3]
      rw [orU8 x b _ hb (by omega)] at hW3
      have S3 : SinkAt W3 base B (.slice (some ⟨g, 0, none⟩) m cap) (putBit t n b) n := by
        rw [hW3]
        have h := (SK'.out.store q (x.toNat ||| b * 2 ^ (7 - n % 8)) (orU8_lt x b _ hb (by omega))).drew
        have e : putBit t n b = tr.set q (UInt8.ofNat (x.toNat ||| b * 2 ^ (7 - n % 8))) := by
          unfold putBit
          rw [← HTR.out, ← HQ.out, ← HX.out]
        rw [← HM.out] at h
        rw [e]; exact h
      have B3 : Hid (Below base w W3) := by
        rw [hW3]
        exact (HB'.out.setCell hbg _).drew
      have K3 : Hid (KeptT w W3 B) := by
        rw [hW3]
        exact (HK'.out.setOwn SK'.out.own q _).drew
      have S3' : Hid _ := S3
      clear c0 c1 f1 hcx hfx
      have d0 := S3.cell1
      have d1 := S3.frozen 1
      clear S3 hW3
      go_wp2_with fail
      go_end0
      exact ⟨⟨_, rfl⟩, _, S3'.out.put1 (n + 1), B3.out.setCell H.out.le _, K3.out.setB 1 _⟩
  · have e8 : (((n : Int) % 8) == 0) = false := by rw [beq_eq_false_iff_ne]; omega
    have hB2 : Below base w w := Below.refl base w
    have hK2 : KeptT w w B := KeptT.refl w B
    have SK : SinkAt w base B v (room t n) n := by unfold room; rw [if_neg h8]; exact H.out
    clear hown
    go_wp2_with fail
    clear c0 c1 f0 f1 e8
    have hlen : (room t n).length = n / 8 + 1 := room_length t n HS.out
    obtain ⟨g, cap, hv2, hbg⟩ := SK.shape (by omega)
    subst hv2
    obtain ⟨q, hq⟩ : ∃ q, q = n / 8 := ⟨_, rfl⟩
    obtain ⟨tr, htr⟩ : ∃ tr, tr = room t n := ⟨_, rfl⟩
    obtain ⟨x, hx⟩ : ∃ x, x = tr[q]?.getD 0 := ⟨_, rfl⟩
    rw [← htr] at SK hlen
    obtain ⟨m, hmm⟩ : ∃ m, m = tr.length := ⟨_, rfl⟩
    rw [← hmm] at hlen
    have c0 := SK.cell0
    rw [← hmm] at c0
    have c1 := SK.cell1
    have f1 := SK.frozen 1
    have hcx : w.cell? ⟨g, q, none⟩ = some (.int .u8 (x.toNat : Int)) := by
      rw [SK.own.cellAt q (by omega), hx]
      unfold bcells
      rw [List.getElem?_map, List.getElem?_eq_getElem (by omega)]; rfl
    have hfx := SK.own.frozenAt q
    have hx0 : (0 : Int) ≤ (x.toNat : Int) := by omega
    have hx1 : (x.toNat : Int) < 256 := by have := u8_lt x; omega
    have i1 : (n : Int) / 8 = (q : Int) := by omega
    have i1a : (n : Int).tdiv 8 = (q : Int) := by rw [Int.tdiv_eq_ediv_of_nonneg (by omega)]; omega
    have i1b : IntKind.i64.wrap (q : Int) = (q : Int) := IntWalk.i64_in _ (by omega)
    have i0' : (0 : Int) ≤ (q : Int) := by omega
    have i3 : (q : Int) < (m : Int) := by omega
    have HX : Hid _ := hx
    have HTR : Hid _ := htr
    have HQ : Hid _ := hq
    have HM : Hid _ := hmm
    have HL : Hid _ := hlen
    have SK' : Hid _ := SK
    have HB' : Hid _ := hB2
    have HK' : Hid _ := hK2
    have HLE : Hid _ := hle
    clear hx SK hB2 hK2 hle htr hq hmm hlen h8 hm
    go_region_law (first
      | (go_simp; go_at_call 76; refine (shift_any n _ (by omega)).mono ?_; rintro e w' ⟨rfl, rfl⟩)
      | fail)
    all_goals
      obtain ⟨W3, hW3⟩ : ∃ W, W = (w.setCell ⟨g, q, none⟩ (.int .u8 (bits BinOp.or IntKind.u8 (x.toNat : Int) (IntKind.u8.wrap ((b : Int) * 2 ^ (7 - n % 8)))))).drew := ⟨_, rfl⟩
      rw [← hW3]
      rw [orU8 x b _ hb (by omega)] at hW3
      have S3 : SinkAt W3 base B (.slice (some ⟨g, 0, none⟩) m cap) (putBit t n b) n := by
        rw [hW3]
        have h := (SK'.out.store q (x.toNat ||| b * 2 ^ (7 - n % 8)) (orU8_lt x b _ hb (by omega))).drew
        have e : putBit t n b = tr.set q (UInt8.ofNat (x.toNat ||| b * 2 ^ (7 - n % 8))) := by
          unfold putBit
          rw [← HTR.out, ← HQ.out, ← HX.out]
        rw [← HM.out] at h
        rw [e]; exact h
      have B3 : Hid (Below base w W3) := by
        rw [hW3]
        exact (HB'.out.setCell hbg _).drew
      have K3 : Hid (KeptT w W3 B) := by
        rw [hW3]
        exact (HK'.out.setOwn SK'.out.own q _).drew
      have S3' : Hid _ := S3
      clear c0 c1 f1 hcx hfx
      have d0 := S3.cell1
      have d1 := S3.frozen 1
      clear S3 hW3
      go_wp2_with fail
      go_end0
      exact ⟨⟨_, rfl⟩, _, S3'.out.put1 (n + 1), B3.out.setCell H.out.le _, K3.out.setB 1 _⟩
end Go.Proofs.Ytgdcifllbfdbhaa
