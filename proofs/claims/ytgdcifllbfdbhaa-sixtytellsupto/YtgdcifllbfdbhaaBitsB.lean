/- The contracts of put, tell, check and Write of package bits. -/
import Derived.Test.YtgdcifllbfdbhaaBitsA
import Derived.Test.YtgdcifllbfdbhaaBitsN
import Derived.Test.YtgdcifllbfdbhaaKit4
import Derived.Laws.Bits64
namespace Go.Proofs.Ytgdcifllbfdbhaa
open Go.RowKit Go.Lib
set_option linter.all false
set_option maxRecDepth 100000

theorem width_any (n : Int) (w : World) : Calls Try.prog 59 #[.int .i64 n] w fun e w' => e = .returned (.bool (decide (1 ≤ n) && decide (n ≤ 64))) ∧ w' = w := by
  by_cases h1 : 1 ≤ n
  · by_cases h2 : n ≤ 64
    · go_enter Try.func59, Try.ntmps59
      go_wp2
      go_ret
      simp [h1, h2]
    · go_enter Try.func59, Try.ntmps59
      go_wp2
      go_ret
      simp [h1, h2]
  · go_enter Try.func59, Try.ntmps59
    go_wp2
    go_ret
    simp [h1]
    try omega
/-- the bit of a number as the program reckons it -/
theorem bit_of (n i : Nat) (h : n < 18446744073709551616) : bits BinOp.and IntKind.u64 ((n : Int) / 2 ^ i) 1 = ((n / 2 ^ i % 2 : Nat) : Int) := by
  have e : ((n : Int) / 2 ^ i) = ((n / 2 ^ i : Nat) : Int) := by push_cast; rfl
  rw [e]
  have hlt : n / 2 ^ i < 18446744073709551616 := Nat.lt_of_le_of_lt (Nat.div_le_self _ _) h
  have h1 := u64_and_nat (n / 2 ^ i) 1 hlt (by decide)
  rw [Nat.and_one_is_mod] at h1
  exact h1
set_option maxHeartbeats 2000000 in
theorem put_any (base B : Nat) (v : Value) (t : List UInt8) (bs : List Nat) (f : Fd) (w : World) (h : SinkAt w base B v t bs.length) (hs : Sunk t bs) (hn : bs.length + 64 < 1099511627776) (hw : fdW f = true) (hle : base ≤ w.heap.size) :
    Calls Try.prog 65 #[.pointer (some ⟨B, 0, none⟩), .agg #[.int .u64 (f.n.toNat : Int), .int .i64 f.w]] w fun e w' => (∃ r, e = .returned r) ∧ ∃ v' t', SinkAt w' base B v' t' (bs.length + f.w.toNat) ∧ Sunk t' (bs ++ bitsN f.n.toNat f.w.toNat) ∧ Below base w w' ∧ KeptT w w' B := by
  obtain ⟨n, fw⟩ := f
  obtain ⟨N, hN⟩ : ∃ N, N = n.toNat := ⟨_, rfl⟩
  have hNl : N < 18446744073709551616 := by rw [hN]; exact u64_lt n
  have hw' : 1 ≤ fw ∧ fw ≤ 64 := by simpa [fdW] using hw
  obtain ⟨m, hm⟩ : ∃ m : Nat, fw = (m : Int) := ⟨fw.toNat, by omega⟩
  subst hm
  show Calls _ _ #[.pointer (some ⟨B, 0, none⟩), .agg #[.int .u64 (n.toNat : Int), .int .i64 (m : Int)]] w _
  rw [← hN]
  simp only [Int.toNat_natCast]
  have hm64 : m ≤ 64 := by omega
  have HH : Hid _ := h
  have HSU : Hid _ := hs
  have HLE : Hid _ := hle
  obtain ⟨Y, hY⟩ : ∃ Y, Y = w.heap.size := ⟨_, rfl⟩
  have HK0 : KeptT w (w.alloc (.cells #[.int .u64 (N : Int), .int .i64 (m : Int)] 78)) B := (KeptT.refl w B).alloc _
  have HB0 : Below base w (w.alloc (.cells #[.int .u64 (N : Int), .int .i64 (m : Int)] 78)) := (Below.refl base w).alloc hle _
  have HS0 : SinkAt (w.alloc (.cells #[.int .u64 (N : Int), .int .i64 (m : Int)] 78)) base B v t bs.length :=
    ⟨h.le, HK0.block B _ _ _ h.blk (by decide) |> fun _ => by
      show (w.heap.push _)[B]? = _
      rw [Array.getElem?_push, if_neg (by have := h.lt; omega)]; exact h.blk, h.own.alloc _⟩
  have HY0 : (w.alloc (.cells #[.int .u64 (N : Int), .int .i64 (m : Int)] 78)).heap[w.heap.size]? = some (.cells #[.int .u64 (N : Int), .int .i64 (m : Int)] 78 (0, 0)) := by
    show (w.heap.push _)[w.heap.size]? = _
    simp
  have HYB : Hid (w.heap.size ≠ B) := by show _ ≠ _; have := h.lt; omega
  have K0 : Hid _ := HK0
  have B0 : Hid _ := HB0
  have S0 : Hid _ := HS0
  have Y0 : Hid _ := HY0
  clear h hs hle HK0 HB0 HS0 HY0 hw hw' hN
  go_enter Try.func65, Try.ntmps65
  go_wp2_with fail
  go_loopw [4, 7] (fun o i wr => ∃ k : Nat, k ≤ m ∧ i = .int .i64 k ∧ Hid (∃ v' t', SinkAt wr base B v' t' (bs.length + k) ∧ Sunk t' (bs ++ (bitsN N m).take k)) ∧ Below base w wr ∧ Hid (KeptT w wr B) ∧ Hid (wr.heap[w.heap.size]? = some (.cells #[.int .u64 (N : Int), .int .i64 (m : Int)] 78 (0, 0)))) (fun _ i _ => m - (intOf i).toNat)
  case atStart => exact ⟨0, Nat.zero_le _, rfl, ⟨v, t, S0.out, by rw [List.take_zero, List.append_nil]; exact HSU.out⟩, B0.out, K0.out, Y0.out⟩
  case round =>
    obtain ⟨k, hk, rfl, hsk, hb, hkp, hyb⟩ := hrel
    by_cases hlt : k < m
    · have y0 : wr.cell? ⟨w.heap.size, 0, none⟩ = some (.int .u64 (N : Int)) := by rw [cell_of_heap hyb.out]; rfl
      have y1 : wr.cell? ⟨w.heap.size, 1, none⟩ = some (.int .i64 (m : Int)) := by rw [cell_of_heap hyb.out]; rfl
      obtain ⟨v', t', hsk, hsu⟩ := hsk.out
      have e1 : ((m : Int) - 1 - (k : Int)) = ((m - 1 - k : Nat) : Int) := by omega
      obtain ⟨i, hi⟩ : ∃ i, i = m - 1 - k := ⟨_, rfl⟩
      rw [← hi] at e1
      have hi0 : (0 : Int) ≤ (i : Int) := by omega
      have hi1 : min i 64 = i := by omega
      have hbit := bit_of N i hNl
      obtain ⟨b, hb2⟩ : ∃ b, b = N / 2 ^ i % 2 := ⟨_, rfl⟩
      rw [← hb2] at hbit
      have hbl : b < 2 := by rw [hb2]; exact Nat.mod_lt _ (by decide)
      have HSK : Hid _ := hsk
      have HSU2 : Hid _ := hsu
      have HBB : Hid _ := hb2
      have HI : Hid _ := hi
      have hle2 : Hid _ := Nat.le_trans HLE.out hkp.out.size
      clear hsk hsu hb2 hi
      have HTK : Hid ((bitsN N m).take (k + 1) = (bitsN N m).take k ++ [b]) := by
        show _ = _
        rw [List.take_succ, bitsN_get N m k hlt, HBB.out, HI.out]; rfl
      have HLEN : Hid (t'.length = (bs.length + k + 7) / 8) := by
        show _ = _
        rw [HSU2.out.len, List.length_append, List.length_take, bitsN_length, Nat.min_eq_left (by omega)]
      have HLN2 : Hid ((bs ++ (bitsN N m).take k).length = bs.length + k) := by
        show _ = _
        rw [List.length_append, List.length_take, bitsN_length, Nat.min_eq_left (by omega)]
      go_wp2_with fail
      refine (sbit_any base B v' t' (bs.length + k) b _ HSK.out HLEN.out (by omega) hbl hle2.out).mono ?_
      rintro e w1 ⟨⟨r, rfl⟩, v1, hs1, hb1, hk1⟩
      have hy1 : Hid (w1.heap[w.heap.size]? = some (.cells #[.int .u64 (N : Int), .int .i64 (m : Int)] 78 (0, 0))) := hk1.block _ _ _ _ hyb.out (by decide) HYB.out
      have HS1 : Hid (∃ v' t', SinkAt w1 base B v' t' (bs.length + (k + 1)) ∧ Sunk t' (bs ++ (bitsN N m).take (k + 1))) := by
        refine ⟨v1, _, hs1, ?_⟩
        rw [HTK.out, ← List.append_assoc]
        have := HSU2.out.put b hbl
        rw [HLN2.out] at this
        exact this
      have HK1 : Hid (KeptT w w1 B) := hkp.out.trans hk1
      have HB1 : Below base w w1 := hb.trans hb1
      clear hs1 hk1 hb1 hb y0 y1 hbit hyb hkp
      go_wp2_with fail
      go_roundw
      case rel => exact ⟨k + 1, by omega, by go_num, HS1, HB1, HK1, hy1⟩
      case measure => simp [intOf]; omega
    · have hkm : k = m := by omega
      have HT : Hid ((bitsN N m).take k = bitsN N m) := List.take_of_length_le (by rw [bitsN_length]; omega)
      obtain ⟨v', t', h1, h2⟩ := hsk.out
      rw [HT.out] at h2
      rw [hkm] at h1
      have H1 : Hid _ := h1
      have H2 : Hid _ := h2
      clear h1 h2 hsk
      go_wp2_with fail
      go_end0
      exact ⟨⟨_, rfl⟩, v', t', H1.out, H2.out, hb, hkp.out⟩
end Go.Proofs.Ytgdcifllbfdbhaa
