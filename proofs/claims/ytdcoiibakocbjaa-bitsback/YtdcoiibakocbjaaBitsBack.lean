/- BitsBack: what is written is read as it was, with fewer than eight bits left, which are noughts, whatever stands behind; what came in reads as it did. No condition. -/
import Derived.Test.YtdcoiibakocbjaaBitsE
import Derived.Test.YtdcoiibakocbjaaKit2
import Derived.Test.YtdcoiibakocbjaaOpenB
namespace Go.Proofs.Ytdcoiibakocbjaa.bitsBack
open Go.ChangeShapes Go.WideShapes Go.ChangeAt Go.RowKit Go.Lib
open Go.ChangeMaps (open_string shut_string)
set_option linter.all false
set_option maxRecDepth 100000

theorem txt_app (a : List UInt8) (b : ByteArray) : txt a ++ b = txt (a ++ b.data.toList) := ByteArray.mk_append_mk a b.data.toList
theorem infoInt : ∃ i, Try.prog.info? 3 = some i ∧ i.zero = some (.int .i64 0) ∧ i.size = 1 ∧ i.bytes = 8 := by
  have h : (Try.prog.info? 3).map (fun i => (i.zero, i.size, i.bytes)) = some (some (.int .i64 0), 1, 8) := by kernel_rfl
  cases hx : Try.prog.info? 3 with
  | none => rw [hx] at h; cases h
  | some i =>
    rw [hx] at h
    injection h with h
    injection h with h1 h2
    injection h2 with h2 h3
    exact ⟨i, rfl, h1, h2, h3⟩
/-- what is owned of two types lies apart -/
theorem own_apart {W : World} {b1 b2 : Nat} {e1 e2 : TypeId} {s1 s2 n1 n2 : Nat} {v1 v2 : Value} {c1 c2 : List Value} (h1 : W.ownsRow b1 e1 s1 v1 n1 c1) (h2 : W.ownsRow b2 e2 s2 v2 n2 c2) (hne : e1 ≠ e2) : v1.ownBlock = none ∨ v1.ownBlock ≠ v2.ownBlock := by
  rcases h1.2 with ⟨rfl, _⟩ | ⟨g, cap, cur, rfl, _, hg, _⟩
  · exact .inl rfl
  · right
    intro e
    rcases h2.2 with ⟨rfl, _⟩ | ⟨g', cap', cur', rfl, _, hg', _⟩
    · cases e
    · have e' : g = g' := Option.some.inj e
      subst e'
      rw [hg] at hg'
      injection hg' with hg'
      injection hg' with _ e3 _
      exact hne e3
set_option maxHeartbeats 4000000 in
theorem walk (v0 : Value) (l : List Fd) (s : ByteArray) (w : World) (hr : Rows w v0 fdC l) (hm : l.length ≤ 140737488351232) (hok : ∀ f ∈ l, -9223372036854775808 ≤ f.w ∧ f.w ≤ 9223372036854775807) (hz : s.size ≤ 140737488351232) :
    Calls Try.prog 4 #[v0, .string s] w fun e w' => e = .returned (.bool true) ∧ Below w.heap.size w w' := by
  obtain ⟨x, hx⟩ : ∃ x, x = s.data.toList := ⟨_, rfl⟩
  have hsx : s.size = x.length := by rw [hx]; rfl
  obtain ⟨ad, cap, hv0⟩ := hr.shape
  subst hv0
  have hmm : l.length ≤ maxLen := by unfold maxLen; omega
  obtain ⟨z, hzz⟩ : ∃ z, z = wbE l := ⟨_, rfl⟩
  obtain ⟨t, ht⟩ : ∃ t, t = wbT l := ⟨_, rfl⟩
  have kW : Hid _ := bwrite_any _ l w hr hmm
  have HZZ : Hid _ := hzz
  have HTT : Hid _ := ht
  by_cases h0 : z = 0
  · have h0' : wbE l = 0 := by rw [← hzz]; exact h0
    have hl := (wbE_ok h0').1
    obtain ⟨n, hn⟩ : ∃ n, n = 8 * (((allF l).length + 7) / 8) - (allF l).length := ⟨_, rfl⟩
    have hn7 : n ≤ 7 := by omega
    obtain ⟨k1, k2, k3⟩ := back_all l [] h0'
    rw [List.append_nil] at k1 k2 k3
    obtain ⟨j1, j2, j3⟩ := back_all l x h0'
    have HLN : Hid (t.length ≤ 3300) := by
      show _ ≤ _
      rw [ht]; unfold wbT; rw [if_pos h0', packB_length]
      have := allF_len l (fun f hf => ((wbE_ok h0').2 f hf).1)
      omega
    have HZ : Hid (z = 0) := h0
    rw [← hn] at k3 j3
    rw [← ht] at k1 k2 k3 j1 j2 j3
    have hwl : (wdL l).length = l.length := by unfold wdL; rw [List.length_map]
    have RD1 : Hid (∀ w' v, Rows w' v intF (wdL l) → Calls Try.prog 10 #[.string (txt t), v] w' fun e w'' => ∃ v', e = .returned (.tuple #[v', .int .i64 (n : Int), .int .i64 0]) ∧ Rows w'' v' natF (nmL l) ∧ Below w'.heap.size w' w'') := fun w' v hv =>
      (bread_any t v (wdL l) w' hv (by have := HLN.out; omega) (by rw [hwl]; unfold maxLen; omega)).mono fun e w'' ⟨v', h1, h2, h3⟩ => ⟨v', by rw [k1, k3] at h1; exact h1, by rw [k2] at h2; exact h2, h3⟩
    obtain ⟨m2, hm2⟩ : ∃ m2, m2 = n + 8 * x.length := ⟨_, rfl⟩
    have RD2 : Hid (∀ w' v, Rows w' v intF (wdL l) → Calls Try.prog 10 #[.string (txt t ++ s), v] w' fun e w'' => ∃ v', e = .returned (.tuple #[v', .int .i64 (m2 : Int), .int .i64 0]) ∧ Rows w'' v' natF (nmL l) ∧ Below w'.heap.size w' w'') := fun w' v hv => by
      rw [txt_app, ← hx]
      exact (bread_any (t ++ x) v (wdL l) w' hv (by have := HLN.out; rw [List.length_append]; omega) (by rw [hwl]; unfold maxLen; omega)).mono fun e w'' ⟨v', h1, h2, h3⟩ => ⟨v', by rw [j1, j3, ← hm2] at h1; exact h1, by rw [j2] at h2; exact h2, h3⟩
    have RD3 : Hid (n ≠ 0 → l.length ≠ 400 → ∀ w' v, Rows w' v intF (wdL l ++ [(n : Int)]) → Calls Try.prog 10 #[.string (txt t), v] w' fun e w'' => ∃ v', e = .returned (.tuple #[v', .int .i64 0, .int .i64 0]) ∧ Rows w'' v' natF (nmL l ++ [0]) ∧ Below w'.heap.size w' w'') := fun g1 g2 w' v hv => by
      obtain ⟨b1, b2, b3⟩ := back_left l h0' n hn g1 g2
      rw [← ht] at b1 b2 b3
      exact (bread_any t v (wdL l ++ [(n : Int)]) w' hv (by have := HLN.out; omega) (by rw [List.length_append, hwl]; unfold maxLen; simp; omega)).mono fun e w'' ⟨v', h1, h2, h3⟩ => ⟨v', by rw [b1, b3] at h1; exact h1, by rw [b2] at h2; exact h2, h3⟩
    have e1 : IntKind.i64.wrap (8 * (s.size : Int)) = 8 * (s.size : Int) := IntWalk.i64_in _ (by omega)
    have e2 : IntKind.i64.wrap ((n : Int) + 8 * (s.size : Int)) = (n : Int) + 8 * (s.size : Int) := IntWalk.i64_in _ (by omega)
    have e3 : (n : Int) + 8 * (s.size : Int) = (m2 : Int) := by omega
    have hct : ¬ (9223372036854775807 < (txt t).size + s.size) := by have := HLN.out; rw [txt_size]; omega
    have hct' : (txt t).size + s.size ≤ 9223372036854775807 := by have := HLN.out; rw [txt_size]; omega
    have hn7' : (n : Int) ≤ 7 := by omega
    have hn0' : (0 : Int) ≤ (n : Int) := by omega
    have hwl' : Hid _ := hwl
    have hnl' : Hid ((nmL l).length = l.length) := by show _ = _; unfold nmL; rw [List.length_map]
    have HR : Hid _ := hr
    obtain ⟨i1, hi, hz0, hz1, hz2⟩ := infoInt
    obtain ⟨i2, hi', hz0', hz1', hz2'⟩ := info64
    have HX : Hid _ := hx
    have HN7 : Hid _ := hn7
    clear hzz ht hr h0 h0' k1 k2 k3 j1 j2 j3 hmm hm hok hn hn7 hx hm2 hwl hsx
    go_enter Try.func4, Try.ntmps4
    go_wp2_with fail
    refine (Calls.mono kW.out) ?_
    rw [← HZZ.out, ← HTT.out, HZ.out]
    rintro e w1 ⟨rfl, hb1⟩
    go_wp2_with fail
    refine (bitsBegun_any _).mono ?_
    rintro e w2 ⟨rfl, hb2⟩
    have HB2 : Hid (Below w.heap.size w w2) := next hb1 hb2
    clear hb1 hb2
    go_wp2_with fail
    go_loopw [7, 8, 9] (fun o p i wr => ∃ k : Nat, k ≤ l.length ∧ i = .int .i64 k ∧ wr.ownsRow w.heap.size 3 1 o k ((wdL (l.take k)).flatMap intF) ∧ wr.ownsRow w.heap.size 33 1 p k ((nmL (l.take k)).flatMap natF) ∧ Hid (Below w.heap.size w wr)) (fun _ _ i _ => l.length - (intOf i).toNat)
    case atStart => exact ⟨0, Nat.zero_le _, rfl, by rw [List.take_zero]; exact World.ownsRow_nil _ _ _ _, by rw [List.take_zero]; exact World.ownsRow_nil _ _ _ _, HB2.out⟩
    case round =>
      obtain ⟨k, hk, rfl, own1, own2, hb⟩ := hrel
      by_cases hlt : k < l.length
      · have e1 := List.getElem?_eq_getElem hlt
        obtain ⟨f, hf⟩ : ∃ f, f = l[k] := ⟨_, rfl⟩
        rw [← hf] at e1
        obtain ⟨bl, ol, rfl, hbl, hcell⟩ := Rows.at HR.out rfl 1 (fun _ => rfl) k f e1
        obtain ⟨fn, fw⟩ := f
        obtain ⟨N, hN⟩ : ∃ N, N = fn.toNat := ⟨_, rfl⟩
        have HC0 : Hid (w.cell? ⟨bl, ol + k * 2, none⟩ = some (.int .u64 (N : Int))) := by rw [hN]; exact hcell 0 _ rfl
        have HC1 : Hid (w.cell? ⟨bl, ol + k * 2 + 1, none⟩ = some (.int .i64 fw)) := hcell 1 _ rfl
        have HBL : Hid _ := hbl
        have c1 : wr.cell? ⟨bl, ol + k * 2 + 1, none⟩ = some (.int .i64 fw) := (hb.out.cell (p := ⟨bl, ol + k * 2 + 1, none⟩) hbl).trans HC1.out
        have HT1 : Hid (wdL (l.take (k + 1)) = wdL (l.take k) ++ [fw]) := by
          show _ = _
          unfold wdL
          rw [List.take_succ, e1]; simp
        have HT2 : Hid (nmL (l.take (k + 1)) = nmL (l.take k) ++ [N]) := by
          show _ = _
          unfold nmL
          rw [List.take_succ, e1, hN]; simp
        have hle := hb.out.size
        clear hf e1 hcell hN hbl
        go_wp2_with (at_builtin; refine wpList_append_own _ rfl _ _ 23 rfl w.heap.size 3 i1 (.int .i64 0) 1 8 Try.underlying23 hi hz0 hz1 hz2 rfl (by decide) _ _ _ rfl (own1.alloc _) ⟨wr.heap.size, 0, none⟩ 1 1 [.int .i64 fw] rfl rfl (cell1_new _ _ _ _ rfl) (by simp [Value.oneCell']) ?c1 ?c2 ?c3 ?_)
        case c1 => unfold maxLen; omega
        case c2 => omega
        case c3 => simp; omega
        intro v3 w3 hown3 hg3 _
        have own2' := (own2.alloc (.cells #[.int .i64 fw] 3)).kept hg3 (own_apart (own2.alloc (.cells #[.int .i64 fw] 3)) (own1.alloc (.cells #[.int .i64 fw] 3)) (by decide))
        have HB3 : Hid (Below w.heap.size w w3) := by
          have h1 : Below w.heap.size w (wr.alloc (.cells #[.int .i64 fw] 3)) := hb.out.alloc hle _
          exact h1.grown hg3 h1.size (fun q e => (own1.lt q e).1)
        have c0 : w3.cell? ⟨bl, ol + k * 2, none⟩ = some (.int .u64 (N : Int)) := (HB3.out.cell (p := ⟨bl, ol + k * 2, none⟩) HBL.out).trans HC0.out
        have hle3 := HB3.out.size
        clear own1 own2 c1 hg3 hb hle
        obtain ⟨ad3, cap3, rfl⟩ := slice_own hown3
        go_wp2_with (at_builtin; refine wpList_append_own _ rfl _ _ 27 rfl w.heap.size 33 i2 (.int .u64 0) 1 8 Try.underlying27 hi' hz0' hz1' hz2' rfl (by decide) _ _ _ rfl (own2'.alloc _) ⟨w3.heap.size, 0, none⟩ 1 1 [.int .u64 (N : Int)] rfl rfl (cell1_new _ _ _ _ rfl) (by simp [Value.oneCell']) ?c1 ?c2 ?c3 ?_)
        case c1 => unfold maxLen; omega
        case c2 => omega
        case c3 => simp; omega
        intro v4 w4 hown4 hg4 _
        have own1' := (hown3.alloc (.cells #[.int .u64 (N : Int)] 33)).kept hg4 (own_apart (hown3.alloc (.cells #[.int .u64 (N : Int)] 33)) (own2'.alloc (.cells #[.int .u64 (N : Int)] 33)) (by decide))
        have HB4 : Hid (Below w.heap.size w w4) := by
          have h1 : Below w.heap.size w (w3.alloc (.cells #[.int .u64 (N : Int)] 33)) := HB3.out.alloc hle3 _
          exact h1.grown hg4 h1.size (fun q e => (own2'.lt q e).1)
        have own1f : w4.ownsRow w.heap.size 3 1 (.slice ad3 (k + 1) cap3) (k + 1) ((wdL (l.take (k + 1))).flatMap intF) := by
          rw [HT1.out, List.flatMap_append]; exact own1'
        have own2f : w4.ownsRow w.heap.size 33 1 v4 (k + 1) ((nmL (l.take (k + 1))).flatMap natF) := by
          rw [HT2.out, List.flatMap_append]; exact hown4
        obtain ⟨ad4, cap4, rfl⟩ := slice_own own2f
        clear own1' hown4 hown3 own2' hg4 c0 hle3
        go_wp2_with fail
        go_roundw
        case rel => exact ⟨k + 1, by omega, by go_num, own1f, own2f, HB4⟩
        case measure => simp [intOf]; omega
      · have hkl : k = l.length := by omega
        have HTA : Hid (l.take k = l) := List.take_of_length_le (by omega)
        rw [HTA.out] at own1 own2
        obtain ⟨ad1, cap1, rfl⟩ := slice_own own1
        obtain ⟨ad2, cap2, rfl⟩ := slice_own own2
        have R1 : Hid (Rows wr (.slice ad1 k cap1) intF (wdL l)) := by
          show Reads _ _ _ _
          rw [hwl'.out, ← hkl]; exact Reads.of_own own1
        have R2 : Hid (Rows wr (.slice ad2 k cap2) natF (nmL l)) := by
          show Reads _ _ _ _
          rw [hnl'.out, ← hkl]; exact Reads.of_own own2
        have HKL : Hid _ := hkl
        have hk4 : (k : Int) ≤ 400 := by omega
        clear own1 own2 hkl hk
        go_wp2_with fail
        refine (RD1.out _ _ R1.out).mono ?_
        rintro e w3 ⟨v3, rfl, r3, hb3⟩
        have R1a : Hid _ := Rows.below R1.out hb3 (Nat.le_refl _)
        have R2a : Hid _ := Rows.below R2.out hb3 (Nat.le_refl _)
        have R3a : Hid _ := r3
        have HB3 : Hid _ := next hb.out hb3
        clear R1 R2 r3 hb hb3
        go_wp2_with fail
        refine (RD2.out _ _ R1a.out).mono ?_
        rintro e w4 ⟨v4, rfl, r4, hb4⟩
        have R1b : Hid _ := Rows.below R1a.out hb4 (Nat.le_refl _)
        have R2b : Hid _ := Rows.below R2a.out hb4 (Nat.le_refl _)
        have R3b : Hid _ := Rows.below R3a.out hb4 (Nat.le_refl _)
        have R4b : Hid _ := r4
        have HB4 : Hid _ := next HB3.out hb4
        clear R1a R2a R3a r4 hb4
        have hme : ((m2 : Int) != (m2 : Int)) = false := by simp
        have hlm : Hid ((nmL l).length ≤ maxLen) := by show _ ≤ _; rw [hnl'.out]; unfold maxLen; omega
        go_wp2_with fail
        refine (sameN_any _ _ _ _ _ R3b.out R2b.out hlm.out hlm.out).mono ?_
        rw [decide_eq_true rfl]
        rintro e w5 ⟨rfl, n5, rfl⟩
        go_wp2_with fail
        refine (sameN_any _ _ _ _ _ (R4b.out.drewN n5) (R2b.out.drewN n5) hlm.out hlm.out).mono ?_
        rw [decide_eq_true rfl]
        rintro e w6 ⟨rfl, n6, hw6⟩
        have HB6 : Hid (Below w.heap.size w w6) := by rw [hw6]; exact (HB4.out.trans (below_drewN' _ _ n5)).trans (below_drewN' _ _ n6)
        have R1c : Rows w6 (.slice ad1 k cap1) intF (wdL l) := by rw [hw6]; exact (R1b.out.drewN n5).drewN n6
        clear hw6 R1b R2b R3b R4b HB4
        by_cases h0 : n = 0
        · have g0 : ((n : Int) == 0) = true := by rw [h0]; rfl
          go_wp2_with fail
          go_ret
          exact ⟨rfl, HB6.out⟩
        · have g0 : ((n : Int) == 0) = false := by rw [beq_eq_false_iff_ne]; omega
          have H0 : Hid _ := h0
          clear h0
          by_cases h4 : l.length = 400
          · have g4 : ((k : Int) == 400) = true := by rw [HKL.out, h4]; rfl
            clear h4
            go_wp2_with fail
            go_ret
            exact ⟨rfl, HB6.out⟩
          · have g4 : ((k : Int) == 400) = false := by rw [beq_eq_false_iff_ne, HKL.out]; omega
            have H4 : Hid _ := h4
            clear h4
            have hle6 := HB6.out.size
            have hlit : (w6.alloc (.cells #[] 3)).ownsRow w.heap.size 3 1 (.slice (some ⟨w6.heap.size, 0, none⟩) 0 0) 0 [] := World.ownsRow_lit w6 #[] 0 hle6 (Nat.zero_le _) rfl
            have R1d : Reads (w6.alloc (.cells #[] 3)) (.slice ad1 k cap1) k ((wdL l).flatMap intF) := by
              have h := Rows.below R1c ((Below.refl _ w6).alloc (Nat.le_refl _) (.cells #[] 3)) (Nat.le_refl _)
              have h : Reads _ _ (wdL l).length _ := h
              rw [hwl'.out, ← HKL.out] at h; exact h
            have hfl : ((wdL l).flatMap intF).length = k * 1 := by rw [flat_len intF 1 (fun _ => rfl), hwl'.out, HKL.out]
            have hone : ∀ u ∈ (wdL l).flatMap intF, u.oneCell' = true := fun u hu => by
              obtain ⟨z, _, h⟩ := List.mem_flatMap.1 hu
              obtain rfl : u = .int .i64 z := by simpa [intF] using h
              rfl
            go_wp2_with (at_builtin; refine wpList_append_reads _ rfl _ _ 23 rfl w.heap.size 3 i1 (.int .i64 0) 1 8 Try.underlying23 hi hz0 hz1 hz2 rfl (by decide) _ _ _ rfl hlit _ k _ rfl R1d hfl hone ?c1 ?c2 ?c3 ?_)
            case c1 => unfold maxLen; omega
            case c2 => omega
            case c3 => simp; omega
            intro v7 w7 hown7 hg7
            have HB7 : Hid (Below w.heap.size w w7) := by
              have h1 : Below w.heap.size w (w6.alloc (.cells #[] 3)) := HB6.out.alloc hle6 _
              exact h1.grown hg7 h1.size (fun q e => (hlit.lt q e).1)
            have hle7 := HB7.out.size
            obtain ⟨ad7, cap7, rfl⟩ := slice_own hown7
            clear hg7 hlit R1d R1c hle6
            go_wp2_with (at_builtin; refine wpList_append_own _ rfl _ _ 23 rfl w.heap.size 3 i1 (.int .i64 0) 1 8 Try.underlying23 hi hz0 hz1 hz2 rfl (by decide) _ _ _ rfl (hown7.alloc _) ⟨w7.heap.size, 0, none⟩ 1 1 [.int .i64 (n : Int)] rfl rfl (cell1_new _ _ _ _ rfl) (by simp [Value.oneCell']) ?c1 ?c2 ?c3 ?_)
            case c1 => unfold maxLen; omega
            case c2 => omega
            case c3 => simp; omega
            intro v8 w8 hown8 hg8 _
            have HB8 : Hid (Below w.heap.size w w8) := by
              have h1 : Below w.heap.size w (w7.alloc (.cells #[.int .i64 (n : Int)] 3)) := HB7.out.alloc hle7 _
              exact h1.grown hg8 h1.size (fun q e => (hown7.lt q e).1)
            obtain ⟨ad8, cap8, rfl⟩ := slice_own hown8
            have R8 : Hid (Rows w8 (.slice ad8 (k + 1) cap8) intF (wdL l ++ [(n : Int)])) := by
              show Reads _ _ _ _
              rw [List.length_append, hwl'.out, ← HKL.out, List.flatMap_append]
              exact Reads.of_own hown8
            clear hown7 hown8 hg8 hle7
            go_wp2_with fail
            refine (RD3.out H0.out H4.out _ _ R8.out).mono ?_
            rintro e w9 ⟨v9, rfl, r9, hb9⟩
            have hln9 : (nmL l ++ [0]).length = k + 1 := by rw [List.length_append, hnl'.out, ← HKL.out]; rfl
            obtain ⟨ad9, cap9, hv9⟩ := r9.shape
            rw [hln9] at hv9
            subst hv9
            obtain ⟨b9, o9, rfl, hb9l, hc9⟩ := Rows.at r9 rfl 0 (fun _ => rfl) k 0 (by rw [List.getElem?_append_right (by rw [hnl'.out, HKL.out]; exact Nat.le_refl _), hnl'.out, HKL.out]; simp)
            have c9 : w9.cell? ⟨b9, o9 + k, none⟩ = some (.int .u64 0) := by
              have := hc9 0 _ rfl
              rw [show o9 + k * (0 + 1) + 0 = o9 + k by omega] at this; exact this
            have HB9 : Hid _ := next HB8.out hb9
            have q1 : IntKind.i64.wrap ((k : Int) + 1 - 1) = (k : Int) := by
              rw [show (k : Int) + 1 - 1 = (k : Int) by omega]; exact IntWalk.i64_in _ (by omega)
            have q2 : ((k : Int) + 1 - 1) = (k : Int) := by omega
            have q3 : (0 : Int) ≤ (k : Int) := by omega
            have q4 : (k : Int) < (k : Int) + 1 := by omega
            clear r9 hc9 hb9 hln9 hb9l
            go_wp2_with fail
            go_ret
            exact ⟨rfl, HB9.out⟩
  · have HT : Hid (t = []) := by show _ = _; rw [ht]; unfold wbT; rw [if_neg (by rw [← hzz]; exact h0)]
    have hne : (z != 0) = true := by rw [bne_iff_ne]; exact h0
    have hnl : ((txt t).toList == []) = true := by rw [HT.out, Lib.toList_data]; rfl
    clear hzz ht hr h0
    go_enter Try.func4, Try.ntmps4
    go_wp2_with fail
    refine (Calls.mono kW.out) ?_
    rw [← HZZ.out, ← HTT.out]
    rintro e w1 ⟨rfl, hb1⟩
    go_wp2_with fail
    refine (bitsBegun_any _).mono ?_
    rintro e w2 ⟨rfl, hb2⟩
    go_wp2_with fail
    go_ret
    exact ⟨rfl, next hb1 hb2⟩
set_option maxRecDepth 100000 in
theorem lifted (os : Os) (started : os.Started) (H : Type) (enc : TypeId × Value → H) :
    ReturnsInHanded {} Try.checked os 4 .any (Rows.bitsBackSpec.pre6 enc Try.prog Try.f4 Rows.bitsBackRow.domain false) (Rows.bitsBackSpec.post enc Try.prog Try.f4 false true false false) := by
  refine returnsInHanded_of_change_sized (C := Try.checked) own started (by kernel_rfl) Try.func4
    (ChangeSpec.witness6 (enc := enc) (C := Try.checked) false ⟨#[], #[.slice none 0 0, .string ByteArray.empty], []⟩ 8 (by kernel_rfl) (by kernel_rfl) (by kernel_rfl) (by kernel_rfl)) ?_
  intro W base args ds gs before hval0 hW hcnd hsz0 _
  have hsz : (DataW.weightsEach Try.prog (Try.f4.params.toList ++ Rows.bitsBackSpec.plain.varTypes Try.prog) (ds ++ gs)).all (· ≤ reachBytes) = true := hsz0
  have hval : ∀ (j : Nat) t v, Try.f4.params[j]? = some t → args[j]? = some v → Value.okWide Try.prog W .any base t v := hval0
  have hW' := hW
  obtain ⟨p, q, hA0, hV, rfl, hfz, hnd⟩ := hW
  have hA : DataW.TrodAll enc Try.prog W 0 (fun _ => true) true Try.f4.params.toList args.toList ds p := hA0
  rw [Try.params4] at hA hval hsz
  obtain ⟨v0, vs0, d0, ds0, p0, q0, hargs, rfl, rfl, h0, r0⟩ := trodAll_cons hA
  obtain ⟨v1, vs1, d1, ds1, p1, q1, rfl, rfl, rfl, h1, r1⟩ := trodAll_cons r0
  obtain ⟨rfl, rfl, rfl⟩ := trodAll_nil r1
  obtain rfl : args = #[v0, v1] := by cases args; simp_all
  obtain ⟨rfl, rfl⟩ := trodVars_none hV
  have k0 := h0
  have lt0 : ∀ x ∈ p0, x.block < W.heap.size := by obtain ⟨m, hm⟩ := k0; exact DataW.trod_lt m _ _ _ hm
  have k1 := h1
  have lt1 : ∀ x ∈ p1, x.block < W.heap.size := by obtain ⟨m, hm⟩ := k1; exact DataW.trod_lt m _ _ _ hm
  obtain ⟨l0, rd0, m0, ok0, bk0⟩ := open_fields (hval 0 22 v0 rfl rfl) k0 140737488351232 (fits_each hsz (j := 0) (t := 22) rfl rfl)
  obtain ⟨a1, rfl, rfl, hp1, w1⟩ := open_string Try.underlying9 (hval 1 9 v1 rfl rfl) h1
  have z1 : a1.size ≤ 140737488351232 := sized_string hsz (j := 1) (t := 9) rfl rfl
  clear hA0 hval0
  refine (walk v0 l0 a1 W rd0 m0 ok0 z1).mono fun e W' ⟨he, bel⟩ => ?_
  subst he
  exact ⟨_, rfl, _, _, _, [], _, [], hW', trodAll_mk1 (shut_bool Try.underlying4 _), (trodAll_cons_mk (Below.trod laidOut (by kernel_rfl) (of_decide_eq_true (by kernel_rfl)) k0 bel lt0) (trodAll_cons_mk (Below.trod laidOut (by kernel_rfl) (of_decide_eq_true (by kernel_rfl)) k1 bel lt1) trodAll_mk0)), rfl, bel.frame _, fun h => by cases h⟩

theorem proved : Rows.BitsBackSaid :=
  OpenClaim.holds_of_wide 4 Try.f4 rfl rfl rfl rfl rfl rfl rfl ⟨rfl, rfl, rfl, rfl, rfl⟩ rfl rfl rfl rfl rfl (by kernel_rfl) Try.func4 (by kernel_rfl)
    (of_decide_eq_true (by kernel_rfl)) (by unfold Func.isWrapper; first | (rw [if_pos (by decide +kernel)]; kernel_rfl) | (rw [if_neg (by decide +kernel)]; exact ⟨rfl, rfl⟩))
    (fun os started H enc _ => lifted os started H enc)
#print axioms proved
end Go.Proofs.Ytdcoiibakocbjaa.bitsBack
