/- The contracts of the source of bits, and of Read of package bits. -/
import Derived.Test.YtgdcifllbfdbhaaBitsC
import Derived.Test.YtgdcifllbfdbhaaKit3
namespace Go.Proofs.Ytgdcifllbfdbhaa
open Go.RowKit Go.Lib
set_option linter.all false
set_option maxRecDepth 100000

structure SrcAt (W : World) (B : Nat) (s : List UInt8) (k : Nat) : Prop where
  blk : W.heap[B]? = some (.cells #[.string (txt s), .int .i64 (k : Int)] 96 (0, 0))
theorem SrcAt.cell0 {W : World} {B : Nat} {s : List UInt8} {k : Nat} (h : SrcAt W B s k) : W.cell? ⟨B, 0, none⟩ = some (.string (txt s)) := by rw [cell_of_heap h.blk]; rfl
theorem SrcAt.cell1 {W : World} {B : Nat} {s : List UInt8} {k : Nat} (h : SrcAt W B s k) : W.cell? ⟨B, 1, none⟩ = some (.int .i64 (k : Int)) := by rw [cell_of_heap h.blk]; rfl
theorem SrcAt.frozen {W : World} {B : Nat} {s : List UInt8} {k : Nat} (h : SrcAt W B s k) (j : Nat) : W.frozen? ⟨B, j, none⟩ = false := frozen_of_heap h.blk j
theorem SrcAt.put1 {W : World} {B : Nat} {s : List UInt8} {k : Nat} (h : SrcAt W B s k) (m : Nat) : SrcAt (W.setCell ⟨B, 1, none⟩ (.int .i64 (m : Int))) B s m :=
  ⟨by simp [World.setCell, Array.getElem?_modify, h.blk]⟩
theorem SrcAt.drewN {W : World} {B : Nat} {s : List UInt8} {k : Nat} (h : SrcAt W B s k) (n : Nat) : SrcAt (W.drewN n) B s k := ⟨h.blk⟩
theorem gtrans {w w' w'' : World} {r : Option Nat} (h : w.grownBy w' r) (h' : w'.grownBy w'' r) : w.grownBy w'' r :=
  ⟨h'.os.trans h.os, h'.tape.trans h.tape, h'.output.trans h.output, Nat.le_trans h.size h'.size, fun k hk hne => (h'.block k (Nat.lt_of_lt_of_le hk h.size) hne).trans (h.block k hk hne)⟩
theorem gset (w : World) (B j : Nat) (x : Value) : w.grownBy (w.setCell ⟨B, j, none⟩ x) (some B) :=
  ⟨rfl, rfl, rfl, by simp, fun k hk hne => Below.heap_setCell _ _ _ _ (fun e => hne (by rw [show k = B from by first | exact e | exact e.symm]))⟩
theorem gdrewN (w : World) (n : Nat) (r : Option Nat) : w.grownBy (w.drewN n) r := ⟨rfl, rfl, rfl, Nat.le_refl _, fun _ _ _ => rfl⟩
theorem left_any (B : Nat) (s : List UInt8) (k : Nat) (w : World) (h : SrcAt w B s k) (hs : 8 * s.length < 9223372036854775807) (hk : k ≤ 8 * s.length) :
    Calls Try.prog 60 #[.pointer (some ⟨B, 0, none⟩)] w fun e w' => e = .returned (.int .i64 ((8 * s.length - k : Nat) : Int)) ∧ ∃ n, w' = w.drewN n := by
  have c0 := h.cell0
  have c1 := h.cell1
  have hl : (txt s).size = s.length := rfl
  obtain ⟨n, hn⟩ : ∃ n, n = s.length := ⟨_, rfl⟩
  rw [← hn] at hl
  have e1 : IntKind.i64.wrap (8 * (n : Int)) = 8 * (n : Int) := IntWalk.i64_in _ (by omega)
  have e2 : IntKind.i64.wrap (8 * (n : Int) - (k : Int)) = 8 * (n : Int) - (k : Int) := IntWalk.i64_in _ (by omega)
  have HE : Hid (8 * (n : Int) - (k : Int) = ((8 * s.length - k : Nat) : Int)) := by show _ = _; omega
  clear h hn
  go_enter Try.func60, Try.ntmps60
  go_wp2_with fail
  go_quiet (fail)
  go_wp2_with fail
  go_ret
  exact ⟨by rw [← HE.out]; rfl, _, rfl⟩
theorem bit8_of (n i : Nat) (h : n < 256) : bits BinOp.and IntKind.u8 ((n : Int) / 2 ^ i) 1 = ((n / 2 ^ i % 2 : Nat) : Int) := by
  have e : ((n : Int) / 2 ^ i) = ((n / 2 ^ i : Nat) : Int) := by push_cast; rfl
  rw [e]
  have hlt : n / 2 ^ i < 256 := Nat.lt_of_le_of_lt (Nat.div_le_self _ _) h
  have h1 := u8_and_nat (n / 2 ^ i) 1 hlt (by decide)
  rw [Nat.and_one_is_mod] at h1
  exact h1
set_option maxHeartbeats 2000000 in
theorem src_bit_any (B : Nat) (s : List UInt8) (k : Nat) (w : World) (h : SrcAt w B s k) (hs : 8 * s.length < 1125899906842624) (hk : k < 8 * s.length) :
    Calls Try.prog 72 #[.pointer (some ⟨B, 0, none⟩)] w fun e w' => e = .returned (.int .u8 (bitT s k : Int)) ∧ SrcAt w' B s (k + 1) ∧ w.grownBy w' (some B) := by
  have c0 := h.cell0
  have c1 := h.cell1
  have f1 := h.frozen 1
  have H : Hid _ := h
  obtain ⟨n, hn⟩ : ∃ n, n = s.length := ⟨_, rfl⟩
  obtain ⟨q, hq⟩ : ∃ q, q = k / 8 := ⟨_, rfl⟩
  have i1 : (k : Int) / 8 = (q : Int) := by omega
  have i1a : (k : Int).tdiv 8 = (q : Int) := by rw [Int.tdiv_eq_ediv_of_nonneg (by omega)]; omega
  have i1b : IntKind.i64.wrap (q : Int) = (q : Int) := IntWalk.i64_in _ (by omega)
  have i0 : (0 : Int) ≤ (q : Int) := by omega
  have hqs : q < s.length := by omega
  have hqz : q < (txt s).size := hqs
  have i3 : (q : Int) < ((txt s).size : Int) := by omega
  obtain ⟨c, hc⟩ : ∃ c, c = (txt s)[q] := ⟨_, rfl⟩
  have HC : Hid (s[q]? = some c) := by
    show _ = _
    rw [hc, List.getElem?_eq_getElem hqs]; rfl
  have HCC : Hid _ := hc
  have hcl : c.toNat < 256 := u8_lt c
  have hbit := bit8_of c.toNat (7 - k % 8) hcl
  obtain ⟨b, hb⟩ : ∃ b, b = c.toNat / 2 ^ (7 - k % 8) % 2 := ⟨_, rfl⟩
  rw [← hb] at hbit
  have HB : Hid (b = bitT s k) := by
    show _ = _
    unfold bitT
    rw [hb, ← hq, HC.out]; rfl
  have hmin : min (7 - k % 8) 8 = 7 - k % 8 := by omega
  have HQ : Hid _ := hq
  have HK : Hid _ := hk
  have hk2 : k < 1125899906842624 := by omega
  clear h hn hs hq hb hk
  go_enter Try.func72, Try.ntmps72
  go_wp2_with fail
  go_region_held3 (fun w' => w'.cell? ⟨B, 0, none⟩ = some (.string (txt s)) ∧ w'.cell? ⟨B, 1, none⟩ = some (.int .i64 (k : Int))) (go_keep)
    (first
    | (go_at_call 76; refine (shift_any k _ hk2).mono ?_; rintro e w' ⟨rfl, rfl⟩))
  all_goals have e3 : IntKind.i64.wrap ((k : Int) + 1) = (k : Int) + 1 := IntWalk.i64_in _ (by omega)
  all_goals
    go_wp2_with fail
    go_ret
    refine ⟨?_, ((H.out.drewN 1).put1 (k + 1)), gtrans (gdrewN w 1 _) (gset _ B 1 _)⟩
    show Ending.returned (.int .u8 (bits BinOp.and IntKind.u8 (((txt s)[q].toNat : Int) / 2 ^ (7 - k % 8)) 1)) = _
    rw [← HCC.out, hbit, HB.out]
theorem or_low (N b : Nat) (hN : N < 9223372036854775808) (hb : b < 2) : bits BinOp.or IntKind.u64 ((N : Int) * 2) (b : Int) = ((2 * N + b : Nat) : Int) := by
  have e : ((N : Int) * 2) = ((2 * N : Nat) : Int) := by omega
  rw [e]
  have h1 := u64_or_nat (2 * N) b (by omega) (by omega)
  have h2 := Nat.two_pow_add_eq_or_of_lt (i := 1) (show b < 2 ^ 1 by omega) N
  rw [show 2 ^ 1 * N = 2 * N by omega] at h2
  rw [← h2] at h1
  exact h1
set_option maxHeartbeats 2000000 in
theorem take_any (B : Nat) (s : List UInt8) (k m : Nat) (w : World) (h : SrcAt w B s k) (hs : 8 * s.length < 1125899906842624) (hm : m ≤ 64) (hk : k + m ≤ 8 * s.length) :
    Calls Try.prog 61 #[.pointer (some ⟨B, 0, none⟩), .int .i64 (m : Int)] w fun e w' => e = .returned (.int .u64 (rdN s k m : Int)) ∧ SrcAt w' B s (k + m) ∧ w.grownBy w' (some B) := by
  have H : Hid _ := h
  have HS : Hid _ := hs
  have HK : Hid _ := hk
  clear h hs hk
  go_enter Try.func61, Try.ntmps61
  go_wp2_with fail
  go_loopw [5, 7] (fun o i wr => ∃ j : Nat, j ≤ m ∧ i = .int .i64 j ∧ o = .int .u64 (rdN s k j : Int) ∧ Hid (SrcAt wr B s (k + j)) ∧ Hid (w.grownBy wr (some B))) (fun _ i _ => m - (intOf i).toNat)
  case atStart => exact ⟨0, Nat.zero_le _, rfl, by unfold rdN; rw [List.take_zero]; rfl, H.out, ⟨rfl, rfl, rfl, Nat.le_refl _, fun _ _ _ => rfl⟩⟩
  case round =>
    obtain ⟨j, hj, rfl, rfl, hsr, hg⟩ := hrel
    by_cases hlt : j < m
    · obtain ⟨N, hN⟩ : ∃ N, N = rdN s k j := ⟨_, rfl⟩
      obtain ⟨b, hb⟩ : ∃ b, b = bitT s (k + j) := ⟨_, rfl⟩
      have hNl : N < 9223372036854775808 := by
        have h1 := rdN_lt s k j (by have := HK.out; omega)
        have h2 : (2:Nat) ^ j ≤ 2 ^ 63 := Nat.pow_le_pow_right (by decide) (by omega)
        rw [hN]; omega
      have hbl : b < 2 := by rw [hb]; exact bitT_lt _ _
      have HSN : Hid (rdN s k (j + 1) = 2 * N + b) := by
        show _ = _
        rw [hN, hb]; exact rdN_snoc s k j (by have := HK.out; omega)
      rw [← hN]
      have HBB : Hid _ := hb
      clear hN hb
      go_wp2_with fail
      refine (src_bit_any B s (k + j) _ hsr.out HS.out (by have := HK.out; omega)).mono ?_
      rw [← HBB.out]
      rintro e w1 ⟨rfl, hs1, hg1⟩
      have HS1 : Hid (SrcAt w1 B s (k + (j + 1))) := hs1
      have HG1 : Hid (w.grownBy w1 (some B)) := gtrans hg.out hg1
      clear hs1 hg1 hsr hg
      have hor := or_low N b hNl hbl
      go_wp2_with fail
      go_roundw
      case rel => exact ⟨j + 1, by omega, by go_num, by rw [HSN.out]; push_cast; rfl, HS1, HG1⟩
      case measure => simp [intOf]; omega
    · have hjm : j = m := by omega
      subst hjm
      go_wp2_with fail
      go_ret
      exact ⟨rfl, hsr.out, hg.out⟩
def intF (z : Int) : List Value := [.int .i64 z]
def natF (n : Nat) : List Value := [.int .u64 (n : Int)]
theorem info64 : ∃ i, Try.prog.info? 43 = some i ∧ i.zero = some (.int .u64 0) ∧ i.size = 1 ∧ i.bytes = 8 := by
  have h : (Try.prog.info? 43).map (fun i => (i.zero, i.size, i.bytes)) = some (some (.int .u64 0), 1, 8) := by kernel_rfl
  cases hx : Try.prog.info? 43 with
  | none => rw [hx] at h; cases h
  | some i =>
    rw [hx] at h
    injection h with h
    injection h with h1 h2
    injection h2 with h2 h3
    exact ⟨i, rfl, h1, h2, h3⟩
set_option maxHeartbeats 4000000 in
theorem bread_own (s : List UInt8) (vw : Value) (ws : List Int) (w : World) (hr : Rows w vw intF ws) (hs : 8 * s.length < 1125899906842624) (hm : ws.length ≤ maxLen) :
    Calls Try.prog 45 #[.string (txt s), vw] w fun e w' => ∃ v, e = .returned (.tuple #[v, .int .i64 (rK s ws : Int), .int .i64 (rE s ws)]) ∧ w'.ownsRow w.heap.size 43 1 v (rL s ws).length ((rL s ws).flatMap natF) ∧ Below w.heap.size w w' := by
  obtain ⟨ad, cap, hvl⟩ := hr.shape
  subst hvl
  obtain ⟨i0, hi, hz0, hz1, hz2⟩ := info64
  obtain ⟨z, hz⟩ : ∃ z, z = rE s ws := ⟨_, rfl⟩
  obtain ⟨zk, hzk⟩ : ∃ z, z = rK s ws := ⟨_, rfl⟩
  obtain ⟨zl, hzl⟩ : ∃ z, z = rL s ws := ⟨_, rfl⟩
  rw [← hz, ← hzk, ← hzl]
  have hne : ∀ x : Int, x ≠ 0 → z = x → zk = 0 ∧ zl = [] := fun x hx hzx => by
    have h0 : ¬ rE s ws = 0 := by rw [← hz, hzx]; exact hx
    constructor
    · rw [hzk]; unfold rK; rw [if_neg h0]
    · rw [hzl]; unfold rL; rw [if_neg h0]
  have HNE : Hid _ := hne
  unfold maxLen at hm
  by_cases hbig : 400 < ws.length
  · have HZ : Hid (z = 2) := by show _ = _; rw [hz]; unfold rE; rw [if_pos hbig]
    have hb' : (400 : Int) < (ws.length : Int) := by omega
    clear hz hzk hzl hr hne
    go_enter Try.func45, Try.ntmps45
    go_wp2_with fail
    obtain ⟨h1, h2⟩ := HNE.out 2 (by decide) HZ.out
    exact bodyPost_ret (v := .tuple #[.slice none 0 0, .int .i64 0, .int .i64 2]) (by simp [results, Try.results45, go_sem]) rfl ⟨.slice none 0 0, by rw [HZ.out, h1]; rfl, by rw [h2]; exact World.ownsRow_nil _ _ _ _, Below.refl _ _⟩
  have HZ : Hid (z = rbE s 0 ws) := by show _ = _; rw [hz]; unfold rE; rw [if_neg hbig]
  have hb' : (ws.length : Int) ≤ 400 := by omega
  have HR : Hid _ := hr
  have HZK : Hid _ := hzk
  have HZL : Hid _ := hzl
  have HZE : Hid _ := hz
  have HS : Hid _ := hs
  obtain ⟨B, hB⟩ : ∃ B, B = w.heap.size := ⟨_, rfl⟩
  have HB0 : Hid _ := hB
  have HSRC : Hid (SrcAt (w.alloc (.cells #[.string (txt s), .int .i64 0] 96)) B s 0) := ⟨by
    rw [hB]
    show (w.heap.push _)[w.heap.size]? = _
    simp⟩
  have HBL : Hid (Below w.heap.size w (w.alloc (.cells #[.string (txt s), .int .i64 0] 96))) := (Below.refl _ _).alloc (Nat.le_refl _) _
  clear hz hzk hzl hr hs hne
  go_enter Try.func45, Try.ntmps45
  go_wp2_with fail
  rw [← hB]
  clear hB
  go_loopw [8, 10, 18] (fun o _ i wr => ∃ k : Nat, k ≤ ws.length ∧ i = .int .i64 k ∧ Hid (SrcAt wr B s (rbA 0 (ws.take k))) ∧ Hid (Fine s ws k ∧ rbA 0 (ws.take k) ≤ 8 * s.length) ∧ wr.ownsRow w.heap.size 43 1 o k ((rbL s 0 (ws.take k)).flatMap natF) ∧ Hid (Below w.heap.size w wr)) (fun _ _ i _ => ws.length - (intOf i).toNat)
  case atStart => exact ⟨0, Nat.zero_le _, rfl, HSRC.out, ⟨fun j w hj h => absurd h (by omega), Nat.zero_le _⟩, by rw [List.take_zero]; exact World.ownsRow_nil _ _ _ _, HBL.out⟩
  case round =>
    obtain ⟨k, hk, rfl, hsr, hfine, hown, hb⟩ := hrel
    by_cases hlt : k < ws.length
    · have e1 := List.getElem?_eq_getElem hlt
      obtain ⟨wd, hwd⟩ : ∃ f, f = ws[k] := ⟨_, rfl⟩
      rw [← hwd] at e1
      obtain ⟨bl, ol, rfl, hbl, hcell⟩ := Rows.at HR.out rfl 0 (fun _ => rfl) k wd e1
      have c0 : wr.cell? ⟨bl, ol + k, none⟩ = some (.int .i64 wd) := by
        have := (hb.out.cell (p := ⟨bl, ol + k * (0 + 1) + 0, none⟩) hbl).trans (hcell 0 _ rfl)
        rw [show ol + k * (0 + 1) + 0 = ol + k by omega] at this
        exact this
      obtain ⟨t, ht⟩ : ∃ t, t = rbA 0 (ws.take k) := ⟨_, rfl⟩
      rw [← ht] at hsr
      have hfl : t ≤ 8 * s.length := by rw [ht]; exact hfine.out.2
      have HFL : Hid _ := hfl
      have HD : Hid (z = rbE s t (wd :: ws.drop (k + 1))) := by
        show _ = _
        rw [HZ.out, rbE_drop s ws 0 k hfine.out.1, ← ht, List.drop_eq_getElem_cons hlt, ← hwd]
      have HE1 : Hid _ := e1
      have HT : Hid _ := ht
      clear hwd e1 hcell ht hfl
      cases hw2 : (decide (1 ≤ wd) && decide (wd ≤ 64))
      · have HZ3 : Hid (z = 3) := by
          show _ = _
          rw [HD.out, rbE, if_neg (by intro h; simp [h.1, h.2] at hw2)]
        clear hown
        go_wp2_with fail
        refine (width_any wd _).mono ?_
        rw [hw2]
        rintro e w1 ⟨rfl, rfl⟩
        go_wp2_with fail
        obtain ⟨h1, h2⟩ := HNE.out 3 (by decide) HZ3.out
        exact bodyPost_ret (v := .tuple #[.slice none 0 0, .int .i64 0, .int .i64 3]) (by simp [results, Try.results45, go_sem]) rfl ⟨.slice none 0 0, by rw [HZ3.out, h1]; rfl, by rw [h2]; exact World.ownsRow_nil _ _ _ _, hb.out⟩
      · have hw3 : 1 ≤ wd ∧ wd ≤ 64 := by simpa using hw2
        obtain ⟨m, hm'⟩ : ∃ m : Nat, wd = (m : Int) := ⟨wd.toNat, by omega⟩
        subst hm'
        have HW3 : Hid _ := hw3
        have hm64 : m ≤ 64 := by omega
        clear hw3
        by_cases hleft : 8 * s.length - t < m
        · have HZ5 : Hid (z = 5) := by
            show _ = _
            have hfl := HFL.out
            rw [HD.out, rbE, if_pos HW3.out, if_pos (by omega)]
          have hcmp : ((8 * s.length - t : Nat) : Int) < (m : Int) := by omega
          clear hown hleft
          go_wp2_with fail
          refine (width_any (m : Int) _).mono ?_
          rw [hw2]
          rintro e w1 ⟨rfl, hw1⟩
          rw [hw1]
          clear hw1 w1
          go_wp2_with fail
          refine (left_any B s t _ hsr.out (by have := HS.out; omega) HFL.out).mono ?_
          obtain ⟨lf, hlf⟩ : ∃ lf, lf = 8 * s.length - t := ⟨_, rfl⟩
          rw [← hlf] at hcmp ⊢
          rintro e w1 ⟨rfl, n, rfl⟩
          go_wp2_with fail
          obtain ⟨h1, h2⟩ := HNE.out 5 (by decide) HZ5.out
          exact bodyPost_ret (v := .tuple #[.slice none 0 0, .int .i64 0, .int .i64 5]) (by simp [results, Try.results45, go_sem]) rfl ⟨.slice none 0 0, by rw [HZ5.out, h1]; rfl, by rw [h2]; exact World.ownsRow_nil _ _ _ _, hb.out.trans (below_drewN' _ _ _)⟩
        · have hcmp : ¬ ((8 * s.length - t : Nat) : Int) < (m : Int) := by omega
          have HRM : Hid (t + m ≤ 8 * s.length) := by show _ ≤ _; have := HFL.out; omega
          obtain ⟨N, hN⟩ : ∃ N, N = rdN s t m := ⟨_, rfl⟩
          have HN : Hid _ := hN
          clear hleft hN
          go_wp2_with fail
          refine (width_any (m : Int) _).mono ?_
          rw [hw2]
          rintro e w1 ⟨rfl, hw1⟩
          rw [hw1]
          clear hw1 w1
          go_wp2_with fail
          refine (left_any B s t _ hsr.out (by have := HS.out; omega) HFL.out).mono ?_
          obtain ⟨lf, hlf⟩ : ∃ lf, lf = 8 * s.length - t := ⟨_, rfl⟩
          rw [← hlf] at hcmp ⊢
          clear hlf
          rintro e w1 ⟨rfl, n, rfl⟩
          go_wp2_with fail
          refine (take_any B s t m _ (hsr.out.drewN n) HS.out hm64 HRM.out).mono ?_
          rw [← HN.out]
          rintro e w2 ⟨rfl, hs2, hg2⟩
          have hg3 : wr.grownBy w2 (some B) := gtrans (gdrewN wr n _) hg2
          have hown2 := hown.kept hg3 (.inr (ownBlock_ne hown hsr.out.blk (by decide)))
          have HB2 : Hid (Below w.heap.size w w2) := hb.out.grown hg3 hb.out.size (fun q e => by have := HB0.out; injection e with e; omega)
          have HS2 : Hid _ := hs2
          have hle2 := HB2.out.size
          clear hown hg2 hg3 hs2 hcmp c0
          go_wp2_with (at_builtin; refine wpList_append_own _ rfl _ _ 41 rfl w.heap.size 43 i0 (.int .u64 0) 1 8 Try.underlying41 hi hz0 hz1 hz2 rfl (by decide) _ _ _ rfl (hown2.alloc _) ⟨w2.heap.size, 0, none⟩ 1 1 [.int .u64 (N : Int)] rfl rfl (cell1_new _ _ _ _ rfl) (by simp [Value.oneCell']) ?c1 ?c2 ?c3 ?_)
          case c1 => unfold maxLen; omega
          case c2 => omega
          case c3 => simp; omega
          intro v3 w3 hown3 hg3 _
          have HTK : Hid (ws.take (k + 1) = ws.take k ++ [(m : Int)]) := by
            show _ = _
            rw [List.take_succ, HE1.out]; rfl
          have HAN : Hid (rbA 0 (ws.take (k + 1)) = t + m) := by
            show _ = _
            rw [HTK.out, rbA_snoc, ← HT.out]; rfl
          have hown4 : w3.ownsRow w.heap.size 43 1 v3 (k + 1) ((rbL s 0 (ws.take (k + 1))).flatMap natF) := by
            rw [HTK.out, rbL_snoc, ← HT.out, List.flatMap_append]
            show w3.ownsRow _ _ _ _ _ (_ ++ ([rdN s t m].flatMap natF))
            rw [← HN.out]
            exact hown3
          have HB3 : Hid (Below w.heap.size w w3) := by
            have h1 : Below w.heap.size w (w2.alloc (.cells #[.int .u64 (N : Int)] 43)) := HB2.out.alloc hle2 _
            exact h1.grown hg3 h1.size (fun q e => (hown2.lt q e).1)
          have HS3 : Hid (SrcAt w3 B s (rbA 0 (ws.take (k + 1)))) := by
            rw [HAN.out]
            refine ⟨?_⟩
            have hb2 := HS2.out.blk
            rw [hg3.block B (by have := blk_lt hb2; simp; omega) (fun e => ownBlock_ne hown2 hb2 (by decide) e.symm)]
            show (w2.heap.push _)[B]? = _
            rw [Array.getElem?_push, if_neg (by have := blk_lt hb2; omega)]
            exact hb2
          have HF3 : Hid (Fine s ws (k + 1) ∧ rbA 0 (ws.take (k + 1)) ≤ 8 * s.length) := by
            refine ⟨fun j w' hj hlt2 => ?_, by rw [HAN.out]; exact HRM.out⟩
            by_cases e : j = k
            · subst e
              rw [HE1.out] at hj
              injection hj with hj
              rw [← hj, ← HT.out]
              exact ⟨HW3.out, HRM.out⟩
            · exact hfine.out.1 j w' hj (by omega)
          clear hown2 hown3 hg3
          go_wp2_with fail
          go_roundw
          case rel => exact ⟨k + 1, by omega, by go_num, HS3, HF3, hown4, HB3⟩
          case measure => simp [intOf]; omega
    · have hkl : k = ws.length := by omega
      have HTA : Hid (ws.take k = ws) := List.take_of_length_le (by omega)
      have HZ0 : Hid (z = 0) := by
        show _ = _
        rw [HZ.out, rbE_drop s ws 0 k hfine.out.1, List.drop_eq_nil_of_le (by omega)]; rfl
      have HK1 : Hid (zk = 8 * s.length - rbA 0 (ws.take k)) := by
        show _ = _
        rw [HZK.out, HTA.out]; unfold rK; rw [if_pos (by rw [← HZE.out]; exact HZ0.out)]
      have HL1 : Hid (zl = rbL s 0 (ws.take k)) := by
        show _ = _
        rw [HZL.out, HTA.out]; unfold rL; rw [if_pos (by rw [← HZE.out]; exact HZ0.out)]
      obtain ⟨t, ht⟩ : ∃ t, t = rbA 0 (ws.take k) := ⟨_, rfl⟩
      rw [← ht] at hsr
      have HFL : Hid (t ≤ 8 * s.length) := by rw [ht]; exact hfine.out.2
      have HT : Hid _ := ht
      obtain ⟨ad2, cap2, rfl⟩ := slice_own hown
      have HRR : Hid (wr.ownsRow w.heap.size 43 1 (.slice ad2 k cap2) k ((rbL s 0 (ws.take k)).flatMap natF)) := hown
      clear ht hown hkl
      go_wp2_with fail
      refine (left_any B s t _ hsr.out (by have := HS.out; omega) HFL.out).mono ?_
      rw [show 8 * s.length - t = zk by rw [HK1.out, HT.out]]
      rintro e w1 ⟨rfl, n, rfl⟩
      go_wp2_with fail
      refine bodyPost_ret (v := .tuple #[.slice ad2 k cap2, .int .i64 (zk : Int), .int .i64 0]) (by simp [results, Try.results45, go_sem]) rfl ⟨_, by rw [HZ0.out], ?_, hb.out.trans (below_drewN' _ _ _)⟩
      rw [HL1.out]
      rw [rbL_length, List.length_take, Nat.min_eq_left hk]
      exact HRR.out
theorem bread_any (s : List UInt8) (vw : Value) (ws : List Int) (w : World) (hr : Rows w vw intF ws) (hs : 8 * s.length < 1125899906842624) (hm : ws.length ≤ maxLen) :
    Calls Try.prog 45 #[.string (txt s), vw] w fun e w' => ∃ v, e = .returned (.tuple #[v, .int .i64 (rK s ws : Int), .int .i64 (rE s ws)]) ∧ Rows w' v natF (rL s ws) ∧ Below w.heap.size w w' :=
  (bread_own s vw ws w hr hs hm).mono fun _ _ ⟨v, h1, h2, h3⟩ => ⟨v, h1, Reads.of_own h2, h3⟩
end Go.Proofs.Ytgdcifllbfdbhaa
