/- The contracts of tell, check and Write of package bits. -/
import Derived.Test.YtgdcifllbfdbhaaBitsB
namespace Go.Proofs.Ytgdcifllbfdbhaa
open Go.RowKit Go.Lib
set_option linter.all false
set_option maxRecDepth 100000

set_option maxHeartbeats 2000000 in
theorem tell_any (base B : Nat) (v vl : Value) (l : List Fd) (w : World) (h : SinkAt w base B v [] 0) (hl : l.length ≤ 400) (hr : ∀ w', Below base w w' → Rows w' vl fdC l) (hw : ∀ f ∈ l, fdW f = true) (hle : base ≤ w.heap.size) :
    Calls Try.prog 64 #[vl, .func (.func 65) #[.pointer (some ⟨B, 0, none⟩)] #[]] w fun e w' => (∃ r, e = .returned r) ∧ ∃ v', SinkAt w' base B v' (packB (allF l)) (allF l).length ∧ Below base w w' := by
  obtain ⟨ad, cap, hvl⟩ := (hr w (Below.refl _ _)).shape
  subst hvl
  have HS : Hid _ := h
  have HR : Hid _ := hr
  have HW : Hid _ := hw
  have HLE : Hid _ := hle
  clear h hr hw hle
  go_enter Try.func64, Try.ntmps64
  go_wp2_with fail
  go_loopw [5, 8] (fun o i wr => ∃ k : Nat, k ≤ l.length ∧ i = .int .i64 k ∧ Hid (∃ v' t', SinkAt wr base B v' t' (allF (l.take k)).length ∧ Sunk t' (allF (l.take k))) ∧ Hid (Below base w wr)) (fun _ i _ => l.length - (intOf i).toNat)
  case atStart => exact ⟨0, Nat.zero_le _, rfl, ⟨v, [], HS.out, Sunk.nil⟩, Below.refl _ _⟩
  case round =>
    obtain ⟨k, hk, rfl, hsk, hb⟩ := hrel
    by_cases hlt : k < l.length
    · have e1 := List.getElem?_eq_getElem hlt
      obtain ⟨f, hf⟩ : ∃ f, f = l[k] := ⟨_, rfl⟩
      rw [← hf] at e1
      obtain ⟨bl, ol, rfl, hbl, hcell⟩ := Rows.at (HR.out wr hb.out) rfl 1 (fun _ => rfl) k f e1
      have c0 := hcell 0 _ rfl
      have c1 := hcell 1 _ rfl
      rw [Nat.add_zero] at c0
      have HFW : Hid (fdW f = true) := HW.out f (List.mem_of_getElem? e1)
      have HTK : Hid _ := allF_take l k f e1
      clear hf e1 hcell
      obtain ⟨v', t', hs1, hs2⟩ := hsk.out
      have HLN : Hid ((allF (l.take k)).length ≤ 64 * 400) := by
        have h1 := allF_len (l.take k) (fun g hg => HW.out g (List.mem_of_mem_take hg))
        have h2 : (l.take k).length ≤ l.length := by rw [List.length_take]; omega
        show _ ≤ _
        omega
      have HA : Hid (SinkAt (wr.alloc (.cells #[.int .u64 (f.n.toNat : Int), .int .i64 f.w] 78)) base B v' t' (allF (l.take k)).length) := by
        refine ⟨hs1.le, ?_, hs1.own.alloc _⟩
        show (wr.heap.push _)[B]? = _
        rw [Array.getElem?_push, if_neg (by have := hs1.lt; omega)]; exact hs1.blk
      have HS2 : Hid _ := hs2
      have HBA : Hid (Below base w (wr.alloc (.cells #[.int .u64 (f.n.toNat : Int), .int .i64 f.w] 78))) := hb.out.alloc (Nat.le_trans HLE.out hb.out.size) _
      clear hs1 hs2 hsk
      go_wp2_with fail
      refine (put_any base B v' t' (allF (l.take k)) f _ HA.out HS2.out (by have := HLN.out; omega) HFW.out (Nat.le_trans HLE.out HBA.out.size)).mono ?_
      rintro e w1 ⟨⟨r, rfl⟩, v1, t1, hs1, hsu1, hb1, hk1⟩
      have H1 : Hid (∃ v' t', SinkAt w1 base B v' t' (allF (l.take (k + 1))).length ∧ Sunk t' (allF (l.take (k + 1)))) := by
        refine ⟨v1, t1, ?_, ?_⟩
        · rw [HTK.out, List.length_append, bitsN_length]; exact hs1
        · rw [HTK.out]; exact hsu1
      have H2 : Hid (Below base w w1) := HBA.out.trans hb1
      clear hs1 hsu1 hb1 hk1 c0 c1
      go_wp2_with fail
      go_roundw
      case rel => exact ⟨k + 1, by omega, by go_num, H1, H2⟩
      case measure => simp [intOf]; omega
    · have HT : Hid (l.take k = l) := List.take_of_length_le (by omega)
      obtain ⟨v', t', h1, h2⟩ := hsk.out
      rw [HT.out] at h1 h2
      rw [h2.pack (allF_lt l)] at h1
      have H1 : Hid _ := h1
      clear h1 h2 hsk
      go_wp2_with fail
      go_end0
      exact ⟨⟨_, rfl⟩, v', H1.out, hb.out⟩
/-- a number's bits beyond its width -/
theorem over_any (n m : Nat) : ((n : Int) / 2 ^ m != 0) = !decide (n < 2 ^ m) := by
  have e : ((n : Int) / 2 ^ m) = ((n / 2 ^ m : Nat) : Int) := by push_cast; rfl
  rw [e]
  by_cases h : n < 2 ^ m
  · rw [Nat.div_eq_of_lt h]; simp [h]
  · have : n / 2 ^ m ≠ 0 := by
      intro h0
      rw [Nat.div_eq_zero_iff] at h0
      have := Nat.two_pow_pos m
      omega
    simp [h]
    omega
set_option maxHeartbeats 2000000 in
theorem bcheck_any (vl : Value) (l : List Fd) (w : World) (hr : Rows w vl fdC l) (hm : l.length ≤ maxLen) :
    Calls Try.prog 63 #[vl] w fun e w' => e = .returned (.int .i64 (wbE l)) ∧ Below w.heap.size w w' := by
  obtain ⟨ad, cap, hvl⟩ := hr.shape
  subst hvl
  unfold maxLen at hm
  obtain ⟨z, hz⟩ : ∃ z, z = wbE l := ⟨_, rfl⟩
  rw [← hz]
  by_cases hbig : 400 < l.length
  · have HZ : Hid (z = 2) := by show _ = _; rw [hz]; unfold wbE; rw [if_pos hbig]
    have hb' : (400 : Int) < (l.length : Int) := by omega
    clear hz hr
    go_enter Try.func63, Try.ntmps63
    go_wp2_with fail
    go_ret
    exact ⟨by rw [HZ.out]; rfl, Below.refl _ _⟩
  have HZ : Hid (z = ckE l) := by show _ = _; rw [hz]; unfold wbE; rw [if_neg hbig]
  have hb' : (l.length : Int) ≤ 400 := by omega
  have HR : Hid _ := hr
  clear hz hr
  go_enter Try.func63, Try.ntmps63
  go_wp2_with fail
  go_loopw [4, 10] (fun o i wr => ∃ k : Nat, k ≤ l.length ∧ i = .int .i64 k ∧ Hid (∀ (j : Nat) f, l[j]? = some f → j < k → fdW f = true ∧ fdN f = true) ∧ Hid (Below w.heap.size w wr)) (fun _ i _ => l.length - (intOf i).toNat)
  case atStart => exact ⟨0, Nat.zero_le _, rfl, fun _ _ _ h => absurd h (by omega), Below.refl _ _⟩
  case round =>
    obtain ⟨k, hk, rfl, hall, hb⟩ := hrel
    by_cases hlt : k < l.length
    · have e1 := List.getElem?_eq_getElem hlt
      obtain ⟨f, hf⟩ : ∃ f, f = l[k] := ⟨_, rfl⟩
      rw [← hf] at e1
      obtain ⟨bl, ol, rfl, hbl, hcell⟩ := Rows.at HR.out rfl 1 (fun _ => rfl) k f e1
      obtain ⟨n, fw⟩ := f
      obtain ⟨N, hN⟩ : ∃ N, N = n.toNat := ⟨_, rfl⟩
      have c0 : wr.cell? ⟨bl, ol + k * 2, none⟩ = some (.int .u64 (N : Int)) := by rw [hN]; exact (hb.out.cell (p := ⟨bl, ol + k * 2 + 0, none⟩) hbl).trans (hcell 0 _ rfl)
      have c1 : wr.cell? ⟨bl, ol + k * 2 + 1, none⟩ = some (.int .i64 fw) := (hb.out.cell (p := ⟨bl, ol + k * 2 + 1, none⟩) hbl).trans (hcell 1 _ rfl)
      have hNl : (N : Int) < 18446744073709551616 := by rw [hN]; have := u64_lt n; omega
      have HD : Hid (ckE l = if fdW ⟨n, fw⟩ = true then if fdN ⟨n, fw⟩ = true then ckE (l.drop (k + 1)) else 4 else 3) := by
        show _ = _
        rw [ckE_drop l k hall.out, List.drop_eq_getElem_cons hlt, ← hf]; rfl
      have HE1 : Hid _ := e1
      have HA : Hid (Below w.heap.size w (wr.alloc (.cells #[.int .u64 (N : Int), .int .i64 fw] 78))) := hb.out.alloc hb.out.size _
      have HN : Hid _ := hN
      clear hf e1 hcell hN
      cases hw : fdW ⟨n, fw⟩
      · have HZ3 : Hid (z = 3) := by show _ = _; rw [HZ.out, HD.out, hw]; rfl
        have hw2 : (decide (1 ≤ fw) && decide (fw ≤ 64)) = false := hw
        clear hw
        go_wp2_with fail
        refine (width_any fw _).mono ?_
        rw [hw2]
        rintro e w1 ⟨rfl, rfl⟩
        go_wp2_with fail
        go_ret
        exact ⟨by rw [HZ3.out]; rfl, HA.out⟩
      · have hw2 : (decide (1 ≤ fw) && decide (fw ≤ 64)) = true := hw
        have hw3 : 1 ≤ fw ∧ fw ≤ 64 := by simpa using hw2
        obtain ⟨m, hm⟩ : ∃ m : Nat, fw = (m : Int) := ⟨fw.toNat, by omega⟩
        subst hm
        have hm1 : (1 : Int) ≤ (m : Int) := hw3.1
        have hm2 : (m : Int) ≤ 64 := hw3.2
        have hm0 : (0 : Int) ≤ (m : Int) := by omega
        have hmm : min m 64 = m := by omega
        have HNO : Hid (((N : Int) / 2 ^ m != 0) = !fdN ⟨n, (m : Int)⟩) := by
          show _ = _
          rw [over_any]
          unfold fdN
          rw [HN.out]; rfl
        have HW0 : Hid _ := hw
        clear hw3 hw
        cases hn : fdN ⟨n, (m : Int)⟩
        · have HZ4 : Hid (z = 4) := by show _ = _; rw [HZ.out, HD.out, HW0.out, hn]; rfl
          have hno := HNO.out
          rw [hn] at hno
          have hno : ((N : Int) / 2 ^ m != 0) = true := hno
          clear hn
          go_wp2_with fail
          refine (width_any (m : Int) _).mono ?_
          rw [hw2]
          rintro e w1 ⟨rfl, rfl⟩
          go_wp2_with fail
          go_ret
          exact ⟨by rw [HZ4.out]; rfl, HA.out⟩
        · have hno := HNO.out
          rw [hn] at hno
          have hno : ((N : Int) / 2 ^ m != 0) = false := hno
          have HN1 : Hid _ := hn
          clear hn
          go_wp2_with fail
          refine (width_any (m : Int) _).mono ?_
          rw [hw2]
          rintro e w1 ⟨rfl, rfl⟩
          go_wp2_with fail
          go_roundw
          case rel =>
            refine ⟨k + 1, by omega, by go_num, fun j g hj hlt2 => ?_, HA⟩
            by_cases e : j = k
            · subst e
              rw [HE1.out] at hj
              injection hj with hj
              rw [← hj]; exact ⟨HW0.out, HN1.out⟩
            · exact hall.out j g hj (by omega)
          case measure => simp [intOf]; omega
    · have HZ0 : Hid (z = 0) := by
        show _ = _
        rw [HZ.out, ckE_ok]
        intro f hf
        obtain ⟨j, hj⟩ := List.getElem?_of_mem hf
        exact hall.out j f hj (by have := (List.getElem?_eq_some_iff.1 hj).1; omega)
      go_wp2_with fail
      go_ret
      exact ⟨by rw [HZ0.out]; rfl, hb.out⟩
set_option maxHeartbeats 2000000 in
theorem bwrite_any (vl : Value) (l : List Fd) (w : World) (hr : Rows w vl fdC l) (hm : l.length ≤ maxLen) :
    Calls Try.prog 47 #[vl] w fun e w' => e = .returned (.tuple #[.string (txt (wbT l)), .int .i64 (wbE l)]) ∧ Below w.heap.size w w' := by
  obtain ⟨ad, cap, hvl⟩ := hr.shape
  subst hvl
  obtain ⟨z, hz⟩ : ∃ z, z = wbE l := ⟨_, rfl⟩
  obtain ⟨t, ht⟩ : ∃ t, t = wbT l := ⟨_, rfl⟩
  have k : Hid _ := bcheck_any _ l w hr hm
  rw [← hz, ← ht]
  by_cases h0 : z = 0
  · have HT : Hid (t = packB (allF l)) := by show _ = _; rw [ht]; unfold wbT; rw [if_pos (by rw [← hz]; exact h0)]
    have hl : l.length ≤ 400 := by
      rw [hz] at h0
      unfold wbE at h0
      by_cases hb : 400 < l.length
      · rw [if_pos hb] at h0; cases h0
      · omega
    have HW : Hid (∀ f ∈ l, fdW f = true) := fun f hf => by
      rw [hz] at h0
      unfold wbE at h0
      rw [if_neg (by omega)] at h0
      exact ((ckE_ok l).1 h0 f hf).1
    have HR : Hid _ := hr
    have HZ : Hid (z = 0) := h0
    have HZZ : Hid _ := hz
    clear hz ht hr hm h0
    go_enter Try.func47, Try.ntmps47
    go_wp2_with fail
    refine (Calls.mono k.out) ?_
    rw [← HZZ.out, HZ.out]
    rintro e w1 ⟨rfl, hb1⟩
    have HB1 : Hid _ := hb1
    have HS : Hid (SinkAt (w1.alloc (.cells #[.slice none 0 0, .int .i64 0] 100)) w.heap.size w1.heap.size (.slice none 0 0) [] 0) := by
      refine ⟨hb1.size, ?_, World.ownsRow_nil _ _ _ _⟩
      show (w1.heap.push _)[w1.heap.size]? = _
      simp
    have HB2 : Hid (Below w.heap.size w (w1.alloc (.cells #[.slice none 0 0, .int .i64 0] 100))) := hb1.alloc hb1.size _
    clear hb1
    go_wp2_with fail
    refine (tell_any w.heap.size w1.heap.size (.slice none 0 0) _ l _ HS.out hl (fun w' hw' => Rows.below HR.out (HB2.out.trans hw') (Nat.le_refl _)) HW.out HB2.out.size).mono ?_
    rintro e w2 ⟨⟨r, rfl⟩, v', hs2, hb2⟩
    have hown := hs2.own
    have c0 := hs2.cell0
    have hcv := run_own_string (P := Try.prog) 40 9 5 Try.underlying40 Try.underlying5 Try.underlying9 _ hown
    obtain ⟨ad2, cap2, rfl⟩ := slice_own hown
    have HB3 : Hid _ := HB2.out.trans hb2
    clear hs2 hb2 hown
    go_wp2_with fail
    exact bodyPost_ret (v := .tuple #[.string (txt (packB (allF l))), .int .i64 0]) (by simp [results, Try.results47, go_sem]) rfl ⟨by rw [HT.out, HZ.out], HB3.out⟩
  · have HT : Hid (t = []) := by show _ = _; rw [ht]; unfold wbT; rw [if_neg (by rw [← hz]; exact h0)]
    have hne : (z != 0) = true := by rw [bne_iff_ne]; exact h0
    have HZZ : Hid _ := hz
    clear hz ht hr hm h0
    go_enter Try.func47, Try.ntmps47
    go_wp2_with fail
    refine (Calls.mono k.out) ?_
    rw [← HZZ.out]
    rintro e w1 ⟨rfl, hb1⟩
    go_wp2_with fail
    exact bodyPost_ret (v := .tuple #[.string ⟨#[]⟩, .int .i64 z]) (by simp [results, Try.results47, go_sem]) rfl ⟨by rw [HT.out]; rfl, hb1⟩
end Go.Proofs.Ytgdcifllbfdbhaa
