/- BitsParts: a number in two parts, the upper bits first, is written as in one; what came in reads as it did. No condition. -/
import Derived.Test.YtdcoiibakocbjaaBitsE
import Derived.Test.YtdcoiibakocbjaaKit5
import Derived.Test.YtdcoiibakocbjaaOpenD
import Derived.Test.YtdcoiibakocbjaaKit2
import Derived.Deep.RegionHeld3
namespace Go.Proofs.Ytdcoiibakocbjaa.bitsParts
open Go.ChangeShapes Go.WideShapes Go.ChangeAt Go.RowKit Go.Lib
open Go.ChangeMaps (open_string shut_string)
set_option linter.all false
set_option maxRecDepth 100000

/-- a number of that width, in two -/
def upF (f : Fd) (k : Nat) : Fd := ⟨UInt64.ofNat (f.n.toNat / 2 ^ (f.w.toNat - k)), (k : Int)⟩
def loF (f : Fd) (k : Nat) : Fd := ⟨UInt64.ofNat (f.n.toNat % 2 ^ (f.w.toNat - k)), ((f.w.toNat - k : Nat) : Int)⟩
def twoL (l : List Fd) (i k : Nat) (f : Fd) : List Fd := l.take i ++ [upF f k, loF f k] ++ l.drop (i + 1)
theorem u64_ofNat (n : Nat) (h : n < 18446744073709551616) : (UInt64.ofNat n).toNat = n := by rw [UInt64.toNat_ofNat']; exact Nat.mod_eq_of_lt (by omega)
theorem up_n (f : Fd) (k : Nat) : (upF f k).n.toNat = f.n.toNat / 2 ^ (f.w.toNat - k) := u64_ofNat _ (Nat.lt_of_le_of_lt (Nat.div_le_self _ _) (u64_lt f.n))
theorem lo_n (f : Fd) (k : Nat) : (loF f k).n.toNat = f.n.toNat % 2 ^ (f.w.toNat - k) := u64_ofNat _ (Nat.lt_of_le_of_lt (Nat.mod_le _ _) (u64_lt f.n))
theorem bitsN_mod (n m : Nat) : bitsN (n % 2 ^ m) m = bitsN n m := by
  have h := bitsN_high (n / 2 ^ m) (n % 2 ^ m) m m (Nat.le_refl _)
  rw [Nat.div_add_mod'] at h
  exact h.symm
theorem two_bits (f : Fd) (k : Nat) (hk : k ≤ f.w.toNat) : allF [upF f k, loF f k] = bitsN f.n.toNat f.w.toNat := by
  unfold allF
  rw [List.flatMap_cons, List.flatMap_cons, List.flatMap_nil, List.append_nil, up_n, lo_n]
  show bitsN _ ((k : Int)).toNat ++ bitsN _ ((f.w.toNat - k : Nat) : Int).toNat = _
  rw [Int.toNat_natCast, Int.toNat_natCast, bitsN_mod, ← bitsN_add, Nat.add_sub_cancel' hk]
theorem two_all (l : List Fd) (i k : Nat) (f : Fd) (hf : l[i]? = some f) (hk : k ≤ f.w.toNat) : allF (twoL l i k f) = allF l := by
  obtain ⟨hi, rfl⟩ := List.getElem?_eq_some_iff.1 hf
  have e : l = l.take i ++ [l[i]] ++ l.drop (i + 1) := by
    rw [List.append_assoc, List.singleton_append, ← List.drop_eq_getElem_cons hi, List.take_append_drop]
  unfold twoL
  rw [allF_append, allF_append, two_bits _ _ hk]
  conv => rhs; rw [e]
  rw [allF_append, allF_append]
  congr 2
  simp [allF]
theorem two_ok (l : List Fd) (i k : Nat) (f : Fd) (hf : l[i]? = some f) (h0 : wbE l = 0) (h1 : 1 ≤ k) (h2 : (k : Int) < f.w) (hl : l.length ≠ 400) : wbE (twoL l i k f) = 0 := by
  obtain ⟨hl4, ok⟩ := wbE_ok h0
  have hi := (List.getElem?_eq_some_iff.1 hf).1
  obtain ⟨w1, w2⟩ := fd_parts (ok f (List.mem_of_getElem? hf))
  have hlen : (twoL l i k f).length = l.length + 1 := by
    unfold twoL
    simp only [List.length_append, List.length_take, List.length_drop, List.length_cons, List.length_nil]
    omega
  unfold wbE
  rw [if_neg (by omega), ckE_ok]
  intro g hg
  unfold twoL at hg
  simp only [List.mem_append, List.mem_cons, List.not_mem_nil, or_false] at hg
  rcases hg with (hg | rfl | rfl) | hg
  · exact ok g (List.mem_of_mem_take hg)
  · constructor
    · unfold fdW upF; simp; omega
    · refine decide_eq_true ?_
      rw [up_n]
      show _ < 2 ^ ((k : Int)).toNat
      rw [Int.toNat_natCast]
      rw [Nat.div_lt_iff_lt_mul (Nat.two_pow_pos _), ← Nat.pow_add]
      rw [show k + (f.w.toNat - k) = f.w.toNat by omega]
      exact w2
  · constructor
    · unfold fdW loF; simp; omega
    · refine decide_eq_true ?_
      rw [lo_n]
      show _ < 2 ^ (((f.w.toNat - k : Nat) : Int)).toNat
      rw [Int.toNat_natCast]
      exact Nat.mod_lt _ (Nat.two_pow_pos _)
  · exact ok g (List.mem_of_mem_drop hg)
theorem two_text (l : List Fd) (i k : Nat) (f : Fd) (hf : l[i]? = some f) (h0 : wbE l = 0) (h1 : 1 ≤ k) (h2 : (k : Int) < f.w) (hl : l.length ≠ 400) : wbT (twoL l i k f) = wbT l := by
  unfold wbT
  rw [if_pos (two_ok l i k f hf h0 h1 h2 hl), if_pos h0, two_all l i k f hf (by omega)]
theorem infoFd : ∃ i, Try.prog.info? 35 = some i ∧ i.zero = some (.agg #[.int .u64 0, .int .i64 0]) ∧ i.size = 2 ∧ i.bytes = 16 := by
  have h : (Try.prog.info? 35).map (fun i => (i.zero, i.size, i.bytes)) = some (some (.agg #[.int .u64 0, .int .i64 0]), 2, 16) := by kernel_rfl
  cases hx : Try.prog.info? 35 with
  | none => rw [hx] at h; cases h
  | some i =>
    rw [hx] at h
    injection h with h
    injection h with h1 h2
    injection h2 with h2 h3
    exact ⟨i, rfl, h1, h2, h3⟩
/-- the lower bits, as the program reckons them -/
theorem low_of (N j : Nat) (hN : N < 18446744073709551616) (hj : j < 64) : bits BinOp.and IntKind.u64 (N : Int) ((2 : Int) ^ j - 1) = ((N % 2 ^ j : Nat) : Int) := by
  have hp := Nat.two_pow_pos j
  have e : ((2 : Int) ^ j - 1) = ((2 ^ j - 1 : Nat) : Int) := by
    have h1 : ((2 ^ j : Nat) : Int) = (2 : Int) ^ j := by push_cast; rfl
    rw [← h1]; omega
  rw [e]
  have h2 : 2 ^ j ≤ 2 ^ 63 := Nat.pow_le_pow_right (by decide) (by omega)
  have h := u64_and_nat N (2 ^ j - 1) hN (by omega)
  rw [Nat.and_two_pow_sub_one_eq_mod] at h
  exact h
theorem keep_alloc {w w' : World} (h : Below w.heap.size w w') (o : Obj) : Below w.heap.size w (w'.alloc o) := h.alloc h.size o
theorem rows_fin {W : World} {base n : Nat} {e : TypeId} {v : Value} {cs : List Value} {l : List Fd} (h : W.ownsRow base e 2 v n cs) (hn : n = l.length) (hc : cs = l.flatMap fdC) : Rows W v fdC l := by
  subst hn hc
  exact Reads.of_own h
set_option maxHeartbeats 8000000 in
theorem walk (v0 : Value) (l : List Fd) (x1 x2 : Int) (w : World) (hr : Rows w v0 fdC l) (hm : l.length ≤ 140737488351232 ∧ SlOk v0) (hok : ∀ f ∈ l, -9223372036854775808 ≤ f.w ∧ f.w ≤ 9223372036854775807)
    (hx1 : -9223372036854775808 ≤ x1 ∧ x1 ≤ 9223372036854775807) (hx2 : -9223372036854775808 ≤ x2 ∧ x2 ≤ 9223372036854775807) :
    Calls Try.prog 5 #[v0, .int .i64 x1, .int .i64 x2] w fun e w' => e = .returned (.bool true) ∧ Below w.heap.size w w' := by
  obtain ⟨ad, cap, hv0⟩ := hr.shape
  subst hv0
  have HCAP : Hid (l.length ≤ cap ∧ cap ≤ maxLen ∧ (ad = none → cap = 0)) := by
    obtain ⟨a', n', c', e, h1, h2, h3⟩ := hm.2
    injection e with e1 e2 e3
    subst e1 e2 e3
    exact ⟨h1, h2, h3⟩
  have hmm : l.length ≤ maxLen := by have := hm.1; unfold maxLen; omega
  have hlb : l.length ≤ 140737488351232 := hm.1
  obtain ⟨z, hz⟩ : ∃ z, z = wbE l := ⟨_, rfl⟩
  obtain ⟨t, ht⟩ : ∃ t, t = wbT l := ⟨_, rfl⟩
  have kW : Hid _ := bwrite_any _ l w hr hmm
  have HZZ : Hid _ := hz
  have HTT : Hid _ := ht
  have HR : Hid _ := hr
  clear hz ht hr hok hm hmm
  by_cases h0 : z = 0
  case neg =>
    have hne : (z != 0) = true := by rw [bne_iff_ne]; exact h0
    clear h0
    go_enter Try.func5, Try.ntmps5
    go_wp2_with fail
    refine (Calls.mono kW.out) ?_
    rw [← HZZ.out, ← HTT.out]
    rintro e w1 ⟨rfl, hb1⟩
    go_wp2_with fail
    refine (bitsBegun_any _).mono ?_
    rintro e w2 ⟨rfl, hb2⟩
    go_wp2_with fail
    go_ret
    exact ⟨rfl, next hb1 hb2⟩
  have HZ : Hid (z = 0) := h0
  have HW0 : Hid (wbE l = 0) := by rw [← HZZ.out]; exact h0
  have HL4 : Hid (l.length ≤ 400) := (wbE_ok HW0.out).1
  have hl4 := HL4.out
  have HT : Hid (wbT l = t) := HTT.out.symm
  clear h0
  by_cases c1 : x1 < 0
  · go_enter Try.func5, Try.ntmps5
    go_wp2_with fail
    refine (Calls.mono kW.out) ?_
    rw [← HZZ.out, ← HTT.out, HZ.out]
    rintro e w1 ⟨rfl, hb1⟩
    go_wp2_with fail
    refine (bitsBegun_any _).mono ?_
    rintro e w2 ⟨rfl, hb2⟩
    go_wp2_with fail
    go_ret
    exact ⟨rfl, next hb1 hb2⟩
  obtain ⟨i, hi⟩ : ∃ i : Nat, x1 = (i : Int) := ⟨x1.toNat, by omega⟩
  subst hi
  clear c1 hx1
  by_cases c2 : l.length ≤ i
  · have c2' : (l.length : Int) ≤ (i : Int) := by omega
    go_enter Try.func5, Try.ntmps5
    go_wp2_with fail
    refine (Calls.mono kW.out) ?_
    rw [← HZZ.out, ← HTT.out, HZ.out]
    rintro e w1 ⟨rfl, hb1⟩
    go_wp2_with fail
    refine (bitsBegun_any _).mono ?_
    rintro e w2 ⟨rfl, hb2⟩
    go_wp2_with fail
    go_ret
    exact ⟨rfl, next hb1 hb2⟩
  have hil : i < l.length := by omega
  have hil' : (i : Int) < (l.length : Int) := by omega
  clear c2
  by_cases c3 : x2 < 1
  · go_enter Try.func5, Try.ntmps5
    go_wp2_with fail
    refine (Calls.mono kW.out) ?_
    rw [← HZZ.out, ← HTT.out, HZ.out]
    rintro e w1 ⟨rfl, hb1⟩
    go_wp2_with fail
    refine (bitsBegun_any _).mono ?_
    rintro e w2 ⟨rfl, hb2⟩
    go_wp2_with fail
    go_ret
    exact ⟨rfl, next hb1 hb2⟩
  obtain ⟨f, hf⟩ : ∃ f, l[i]? = some f := ⟨_, List.getElem?_eq_getElem hil⟩
  have hok := (wbE_ok HW0.out).2 f (List.mem_of_getElem? hf)
  obtain ⟨bl, ol, rfl, hbl, hcell⟩ := Rows.at HR.out rfl 1 (fun _ => rfl) i f hf
  obtain ⟨fn, fw⟩ := f
  obtain ⟨N, hN⟩ : ∃ N, N = fn.toNat := ⟨_, rfl⟩
  have HC0 : Hid (∀ w', Below w.heap.size w w' → w'.cell? ⟨bl, ol + i * 2, none⟩ = some (.int .u64 (N : Int))) := fun w' hw' => by rw [hN]; exact (hw'.cell (p := ⟨bl, ol + i * 2 + 0, none⟩) hbl).trans (hcell 0 _ rfl)
  have HC1 : Hid (∀ w', Below w.heap.size w w' → w'.cell? ⟨bl, ol + i * 2 + 1, none⟩ = some (.int .i64 fw)) := fun w' hw' => (hw'.cell (p := ⟨bl, ol + i * 2 + 1, none⟩) hbl).trans (hcell 1 _ rfl)
  have hNl : N < 18446744073709551616 := by rw [hN]; exact u64_lt fn
  obtain ⟨⟨w1', w2'⟩, _⟩ := fd_parts hok
  have w1'' : 1 ≤ fw := w1'
  have w2'' : fw ≤ 64 := w2'
  obtain ⟨m, hm⟩ : ∃ m : Nat, fw = (m : Int) := ⟨fw.toNat, by omega⟩
  subst hm
  have HF : Hid _ := hf
  have HN : Hid _ := hN
  clear hf hok hcell hbl hN w1' w2'
  by_cases c4 : (m : Int) ≤ x2
  · have fw' : Int := (m : Int)
    go_enter Try.func5, Try.ntmps5
    go_wp2_with fail
    refine (Calls.mono kW.out) ?_
    rw [← HZZ.out, ← HTT.out, HZ.out]
    rintro e w1 ⟨rfl, hb1⟩
    have HB1 : Hid _ := hb1
    clear hb1
    go_wp2_with fail
    refine (bitsBegun_any _).mono ?_
    rintro e w2 ⟨rfl, hb2⟩
    have HB2 : Hid _ := next HB1.out hb2
    have d0 : w2.cell? ⟨bl, ol + i * 2, none⟩ = some (.int .u64 (N : Int)) := HC0.out w2 HB2.out
    have d1 : w2.cell? ⟨bl, ol + i * 2 + 1, none⟩ = some (.int .i64 (m : Int)) := HC1.out w2 HB2.out
    clear hb2
    go_wp2_with fail
    go_ret
    exact ⟨rfl, HB2.out⟩
  obtain ⟨k, hk⟩ : ∃ k : Nat, x2 = (k : Int) := ⟨x2.toNat, by omega⟩
  subst hk
  have hk1 : 1 ≤ k := by omega
  have hkm : k < m := by omega
  clear c3 c4 hx2
  have c3 : ¬ (k : Int) < 1 := by omega
  have c3' : ¬ k = 0 := by omega
  have c4 : ¬ (m : Int) ≤ (k : Int) := by omega
  have c4' : ¬ m ≤ k := by omega
  by_cases c5 : l.length = 400
  · have c5' : ((l.length : Int) == 400) = true := by rw [c5]; rfl
    clear c5
    go_enter Try.func5, Try.ntmps5
    go_wp2_with fail
    refine (Calls.mono kW.out) ?_
    rw [← HZZ.out, ← HTT.out, HZ.out]
    rintro e w1 ⟨rfl, hb1⟩
    have HB1 : Hid _ := hb1
    clear hb1
    go_wp2_with fail
    refine (bitsBegun_any _).mono ?_
    rintro e w2 ⟨rfl, hb2⟩
    have HB2 : Hid _ := next HB1.out hb2
    have d0 : w2.cell? ⟨bl, ol + i * 2, none⟩ = some (.int .u64 (N : Int)) := HC0.out w2 HB2.out
    have d1 : w2.cell? ⟨bl, ol + i * 2 + 1, none⟩ = some (.int .i64 (m : Int)) := HC1.out w2 HB2.out
    clear hb2
    go_wp2_with fail
    go_ret
    exact ⟨rfl, HB2.out⟩
  · have c5' : ((l.length : Int) == 400) = false := by rw [beq_eq_false_iff_ne]; omega
    have HC5 : Hid _ := c5
    clear c5
    go_enter Try.func5, Try.ntmps5
    go_wp2_with fail
    refine (Calls.mono kW.out) ?_
    rw [← HZZ.out, ← HTT.out, HZ.out]
    rintro e w1 ⟨rfl, hb1⟩
    have HB1 : Hid _ := hb1
    clear hb1
    go_wp2_with fail
    refine (bitsBegun_any _).mono ?_
    rintro e w2 ⟨rfl, hb2⟩
    have HB2 : Hid _ := next HB1.out hb2
    have d0 : w2.cell? ⟨bl, ol + i * 2, none⟩ = some (.int .u64 (N : Int)) := HC0.out w2 HB2.out
    have d1 : w2.cell? ⟨bl, ol + i * 2 + 1, none⟩ = some (.int .i64 (m : Int)) := HC1.out w2 HB2.out
    clear hb2
    obtain ⟨j, hj⟩ : ∃ j, j = m - k := ⟨_, rfl⟩
    have e1 : (m : Int) - (k : Int) = (j : Int) := by omega
    have e2 : IntKind.i64.wrap (j : Int) = (j : Int) := IntWalk.i64_in _ (by omega)
    have e3 : min j 64 = j := by omega
    have e4 : (0 : Int) ≤ (j : Int) := by omega
    have hlow := low_of N j hNl (by omega)
    have HJ : Hid _ := hj
    clear hj
    obtain ⟨i0, hi, hz0, hz1, hz2⟩ := infoFd
    obtain ⟨A, hA⟩ : ∃ A, A = N / 2 ^ j := ⟨_, rfl⟩
    obtain ⟨B, hB⟩ : ∃ B, B = N % 2 ^ j := ⟨_, rfl⟩
    have f3 : (N : Int) / 2 ^ j = (A : Int) := by rw [hA]; push_cast; rfl
    rw [← hB] at hlow
    have hpw : (2 : Int) ^ j = ((2 ^ j : Nat) : Int) := by push_cast; rfl
    have hpl : 2 ^ j ≤ 2 ^ 63 := Nat.pow_le_pow_right (by decide) (by omega)
    have hpp := Nat.two_pow_pos j
    have f1 : IntKind.u64.wrap ((2 : Int) ^ j) = (2 : Int) ^ j := by rw [IntKind.wrap_u64, hpw]; omega
    have f2 : IntKind.u64.wrap ((2 : Int) ^ j - 1) = (2 : Int) ^ j - 1 := by rw [IntKind.wrap_u64, hpw]; omega
    have HA : Hid _ := hA
    have HB : Hid _ := hB
    clear hA hB hpw hpl hpp
    obtain ⟨W, hW⟩ : ∃ W, W = w2 := ⟨_, rfl⟩
    have HRW : Hid (∀ w', Below W.heap.size W w' → Rows w' (.slice (some ⟨bl, ol, none⟩) l.length cap) fdC l) := fun w' hw' => by
      rw [hW] at hw'
      exact Rows.below HR.out (next HB2.out hw') (Nat.le_refl _)
    have HBW : Hid (Below w.heap.size w W) := by rw [hW]; exact HB2.out
    rw [← hW] at d0 d1 ⊢
    have hicap : i ≤ cap := by have := HCAP.out.1; omega
    have hicap' : (i : Int) ≤ (cap : Int) := by omega
    have hlt1 : ((l.take i).flatMap fdC).length = i * 2 := by rw [flat_len fdC 2 (fun _ => rfl), List.length_take, Nat.min_eq_left (by omega)]
    have hone : ∀ r : List Fd, ∀ u ∈ r.flatMap fdC, u.oneCell' = true := fun r u hu => by
      obtain ⟨c, _, h⟩ := List.mem_flatMap.1 hu
      simp only [fdC, List.mem_cons, List.not_mem_nil, or_false] at h
      rcases h with rfl | rfl <;> rfl
    have HONE : Hid _ := hone
    have HL1 : Hid _ := hlt1
    have HON4 : Hid (∀ u ∈ ([.int .u64 (A : Int), .int .i64 (k : Int), .int .u64 (B : Int), .int .i64 (j : Int)] : List Value), u.oneCell' = true) := fun u hu => by
      simp only [List.mem_cons, List.not_mem_nil, or_false] at hu
      rcases hu with rfl | rfl | rfl | rfl <;> rfl
    have M1 : Hid (0 + i ≤ maxLen) := by show _ ≤ _; unfold maxLen; omega
    have M2 : Hid ((0 + i) * 16 ≤ 140737488355328) := by show _ ≤ _; omega
    have M3 : Hid (0 + i + 2 ≤ maxLen) := by show _ ≤ _; unfold maxLen; omega
    have M4 : Hid ((0 + i + 2) * 16 ≤ 140737488355328) := by show _ ≤ _; omega
    have HRD1 : Hid (∀ w', Below W.heap.size W w' → Reads w' (.slice (some ⟨bl, ol, none⟩) i cap) i ((l.take i).flatMap fdC)) := fun w' hw' => by
      have h := rows_to (HRW.out w' hw') i i cap (by rw [List.length_take]; omega)
      have h : Reads _ _ (l.take i).length _ := h
      rw [List.length_take, Nat.min_eq_left (by omega)] at h
      exact h
    have HW1 : Hid (Below W.heap.size W (W.drew.alloc (.cells #[] 35))) := keep_alloc (Below.refl _ W).drew _
    have HW2 : Hid (Below W.heap.size W ((W.drew.alloc (.cells #[] 35)).alloc (.cells #[.int .u64 (A : Int), .int .i64 (k : Int), .int .u64 (B : Int), .int .i64 (j : Int)] 35))) := keep_alloc HW1.out _
    have HW3 : Hid (Below W.heap.size W ((W.drew.alloc (.cells #[.int .u64 (A : Int), .int .i64 (k : Int), .int .u64 (B : Int), .int .i64 (j : Int)] 35)).alloc (.cells #[] 35))) := keep_alloc (keep_alloc (Below.refl _ W).drew _) _
    have HO1 : Hid ((W.drew.alloc (.cells #[] 35)).ownsRow W.heap.size 35 2 (.slice (some ⟨W.heap.size, 0, none⟩) 0 0) 0 []) := World.ownsRow_lit W.drew #[] 0 (Nat.le_refl _) (Nat.zero_le _) rfl
    have HO3 : Hid (((W.drew.alloc (.cells #[.int .u64 (A : Int), .int .i64 (k : Int), .int .u64 (B : Int), .int .i64 (j : Int)] 35)).alloc (.cells #[] 35)).ownsRow W.heap.size 35 2 (.slice (some ⟨W.heap.size + 1, 0, none⟩) 0 0) 0 []) := by
      have h := World.ownsRow_lit (base := W.heap.size) (e := 35) (size := 2) (W.drew.alloc (.cells #[.int .u64 (A : Int), .int .i64 (k : Int), .int .u64 (B : Int), .int .i64 (j : Int)] 35)) #[] 0 (by simp) (Nat.zero_le _) rfl
      rw [show (W.drew.alloc (.cells #[.int .u64 (A : Int), .int .i64 (k : Int), .int .u64 (B : Int), .int .i64 (j : Int)] 35)).heap.size = W.heap.size + 1 from by simp] at h
      exact h
    have RLIT : Hid (∀ w' : World, Reads (w'.alloc (.cells #[.int .u64 (A : Int), .int .i64 (k : Int), .int .u64 (B : Int), .int .i64 (j : Int)] 35)) (.slice (some ⟨w'.heap.size, 0, none⟩) 2 2) 2 [.int .u64 (A : Int), .int .i64 (k : Int), .int .u64 (B : Int), .int .i64 (j : Int)]) := fun w' => ⟨_, 2, rfl, .inr ⟨_, 0, rfl, fun q u hq => by rw [Nat.zero_add, World.cell?_alloc_new]; simpa using hq⟩⟩
    have RB2 : Hid (∀ w', ((W.drew.alloc (.cells #[] 35)).alloc (.cells #[.int .u64 (A : Int), .int .i64 (k : Int), .int .u64 (B : Int), .int .i64 (j : Int)] 35)).grownBy w' (some W.heap.size) → Reads w' (.slice (some ⟨W.heap.size + 1, 0, none⟩) 2 2) 2 [.int .u64 (A : Int), .int .i64 (k : Int), .int .u64 (B : Int), .int .i64 (j : Int)]) := fun w' hg => ⟨_, 2, rfl, .inr ⟨_, 0, rfl, fun q u hq => by
      have h := World.cell?_alloc_new (W.drew.alloc (.cells #[] 35)) #[.int .u64 (A : Int), .int .i64 (k : Int), .int .u64 (B : Int), .int .i64 (j : Int)] 35 q
      rw [show (W.drew.alloc (.cells #[] 35)).heap.size = W.heap.size + 1 from by simp] at h
      rw [Nat.zero_add]
      exact hg.cell (h.trans (by simpa using hq)) (by intro e; have h9 : W.heap.size + 1 = W.heap.size := Option.some.inj e; omega)⟩⟩
    have RB3 : Hid (∀ w', ((W.drew.alloc (.cells #[.int .u64 (A : Int), .int .i64 (k : Int), .int .u64 (B : Int), .int .i64 (j : Int)] 35)).alloc (.cells #[] 35)).grownBy w' (some (W.heap.size + 1)) → Reads w' (.slice (some ⟨W.heap.size, 0, none⟩) 2 2) 2 [.int .u64 (A : Int), .int .i64 (k : Int), .int .u64 (B : Int), .int .i64 (j : Int)]) := fun w' hg => ⟨_, 2, rfl, .inr ⟨_, 0, rfl, fun q u hq => by
      have h := World.cell?_alloc_new W.drew #[.int .u64 (A : Int), .int .i64 (k : Int), .int .u64 (B : Int), .int .i64 (j : Int)] 35 q
      have h2 : (W.drew.alloc (.cells #[.int .u64 (A : Int), .int .i64 (k : Int), .int .u64 (B : Int), .int .i64 (j : Int)] 35)).cell? ⟨W.heap.size, q, none⟩ = some u := h.trans (by simpa using hq)
      rw [Nat.zero_add]
      have h3 : ((W.drew.alloc (.cells #[.int .u64 (A : Int), .int .i64 (k : Int), .int .u64 (B : Int), .int .i64 (j : Int)] 35)).alloc (.cells #[] 35)).cell? ⟨W.heap.size, q, none⟩ = some u := ((Below.refl (W.heap.size + 1) (W.drew.alloc (.cells #[.int .u64 (A : Int), .int .i64 (k : Int), .int .u64 (B : Int), .int .i64 (j : Int)] 35))).alloc (by simp) (.cells #[] 35) |>.cell (p := ⟨W.heap.size, q, none⟩) (by simp)).trans h2
      exact hg.cell h3 (by intro e; have h9 : W.heap.size = W.heap.size + 1 := Option.some.inj e; omega)⟩⟩
    have HD0 : Hid (∀ w', Below W.heap.size W w' → w'.cell? ⟨bl, ol + i * 2, none⟩ = some (.int .u64 (N : Int))) := fun w' hw' => HC0.out w' (next HBW.out hw')
    have HTE : Hid (wbE (twoL l i k ⟨fn, (m : Int)⟩) = 0) := two_ok l i k _ HF.out HW0.out hk1 (by show (k : Int) < (m : Int); omega) HC5.out
    have HTX : Hid (wbT (twoL l i k ⟨fn, (m : Int)⟩) = wbT l) := two_text l i k _ HF.out HW0.out hk1 (by show (k : Int) < (m : Int); omega) HC5.out
    have HLEN : Hid ((twoL l i k ⟨fn, (m : Int)⟩).length = 0 + i + 2 + (l.length - (i + 1))) := by
      show _ = _
      unfold twoL
      simp only [List.length_append, List.length_take, List.length_drop, List.length_cons, List.length_nil]; omega
    have HTL : Hid ((twoL l i k ⟨fn, (m : Int)⟩).length ≤ maxLen) := by show _ ≤ _; rw [HLEN.out]; unfold maxLen; omega
    have HCELLS : Hid ((twoL l i k ⟨fn, (m : Int)⟩).flatMap fdC = [] ++ (l.take i).flatMap fdC ++ [.int .u64 (A : Int), .int .i64 (k : Int), .int .u64 (B : Int), .int .i64 (j : Int)] ++ (l.drop (i + 1)).flatMap fdC) := by
      show _ = _
      unfold twoL
      rw [List.flatMap_append, List.flatMap_append, List.nil_append]
      congr 2
      rw [List.flatMap_cons, List.flatMap_cons, List.flatMap_nil, List.append_nil]
      unfold fdC
      rw [up_n, lo_n]
      show [Value.int .u64 ((fn.toNat / 2 ^ ((m : Int).toNat - k) : Nat) : Int), .int .i64 (k : Int)] ++ [Value.int .u64 ((fn.toNat % 2 ^ ((m : Int).toNat - k) : Nat) : Int), .int .i64 (((m : Int).toNat - k : Nat) : Int)] = _
      rw [Int.toNat_natCast, ← HJ.out, ← HN.out, ← HA.out, ← HB.out]; rfl
    have M5 : Hid (0 + i + 2 + (l.length - (i + 1)) ≤ maxLen) := by show _ ≤ _; unfold maxLen; omega
    have M6 : Hid ((0 + i + 2 + (l.length - (i + 1))) * 16 ≤ 140737488355328) := by show _ ≤ _; omega
    clear hlt1 hone
    clear hW
    go_wp2_with fail
    go_region_held3 (fun w' => Below W.heap.size W w' ∧ w'.cell? ⟨bl, ol + i * 2, none⟩ = some (.int .u64 (N : Int))) (first | exact ⟨by first | assumption | exact (Below.refl _ W).drew | exact HW1.out | exact HW2.out | exact HW3.out | exact keep_alloc (Below.refl _ W).drew _ | exact keep_alloc (by assumption) _, HD0.out _ (by first | assumption | exact (Below.refl _ W).drew | exact HW1.out | exact HW2.out | exact HW3.out | exact keep_alloc (Below.refl _ W).drew _ | exact keep_alloc (by assumption) _)⟩ | fail)
      (first
      | (refine step_append_reads (by rfl) (.tmp 55) (.tmp 58) 22 (by rfl) W.heap.size 35 i0 (.agg #[.int .u64 0, .int .i64 0]) 2 16 Try.underlying22 hi hz0 hz1 hz2 rfl (by decide) _ _ _ (by rfl) HO1.out _ (by rfl) i _ (HRD1.out _ HW1.out) HL1.out (HONE.out _) M1.out M2.out HW1.out.size ?_; intro v6 w6 hown6 hg6; have HB6 : Below W.heap.size W w6 := (HW1.out).grown hg6 (HW1.out).size (fun q e => ((HO1.out).lt q e).1); skip)
      | (refine step_append_reads (by rfl) (.tmp 55) (.tmp 58) 22 (by rfl) W.heap.size 35 i0 (.agg #[.int .u64 0, .int .i64 0]) 2 16 Try.underlying22 hi hz0 hz1 hz2 rfl (by decide) (.slice (some ⟨W.heap.size, 0, none⟩) 0 0) 0 [] (by rfl) (HO1.out.alloc (.cells #[.int .u64 (A : Int), .int .i64 (k : Int), .int .u64 (B : Int), .int .i64 (j : Int)] 35)) _ (by rfl) i _ (HRD1.out _ HW2.out) HL1.out (HONE.out _) M1.out M2.out HW2.out.size ?_; intro v6 w6 hown6 hg6; have HB6 : Below W.heap.size W w6 := (HW2.out).grown hg6 (HW2.out).size (fun q e => (HO1.out.lt q e).1); have RB6 := RB2.out w6 hg6)
      | (refine step_append_reads (by rfl) (.tmp 55) (.tmp 58) 22 (by rfl) W.heap.size 35 i0 (.agg #[.int .u64 0, .int .i64 0]) 2 16 Try.underlying22 hi hz0 hz1 hz2 rfl (by decide) (.slice (some ⟨W.heap.size + 1, 0, none⟩) 0 0) 0 [] (by rfl) HO3.out _ (by rfl) i _ (HRD1.out _ HW3.out) HL1.out (HONE.out _) M1.out M2.out HW3.out.size ?_; intro v6 w6 hown6 hg6; have HB6 : Below W.heap.size W w6 := (HW3.out).grown hg6 (HW3.out).size (fun q e => ((HO3.out).lt q e).1); have RB6 := RB3.out w6 hg6)
      | (refine step_append_reads (by rfl) (.tmp 59) (.tmp 86) 22 (by rfl) W.heap.size 35 i0 (.agg #[.int .u64 0, .int .i64 0]) 2 16 Try.underlying22 hi hz0 hz1 hz2 rfl (by decide) v6 (0 + i) ([] ++ (l.take i).flatMap fdC) (by rfl) (hown6.alloc (.cells #[.int .u64 (A : Int), .int .i64 (k : Int), .int .u64 (B : Int), .int .i64 (j : Int)] 35)) (.slice (some ⟨w6.heap.size, 0, none⟩) 2 2) (by rfl) 2 [.int .u64 (A : Int), .int .i64 (k : Int), .int .u64 (B : Int), .int .i64 (j : Int)] (RLIT.out w6) rfl HON4.out M3.out M4.out (keep_alloc HB6 (.cells #[.int .u64 (A : Int), .int .i64 (k : Int), .int .u64 (B : Int), .int .i64 (j : Int)] 35)).size ?_; intro v7 w7 hown7 hg7; have HB7 : Below W.heap.size W w7 := (keep_alloc HB6 (.cells #[.int .u64 (A : Int), .int .i64 (k : Int), .int .u64 (B : Int), .int .i64 (j : Int)] 35)).grown hg7 (keep_alloc HB6 (.cells #[.int .u64 (A : Int), .int .i64 (k : Int), .int .u64 (B : Int), .int .i64 (j : Int)] 35)).size (fun q e => (hown6.lt q e).1))
      | (refine step_append_reads (by rfl) (.tmp 59) (.tmp 86) 22 (by rfl) W.heap.size 35 i0 (.agg #[.int .u64 0, .int .i64 0]) 2 16 Try.underlying22 hi hz0 hz1 hz2 rfl (by decide) v6 (0 + i) ([] ++ (l.take i).flatMap fdC) (by rfl) hown6 _ (by rfl) 2 [.int .u64 (A : Int), .int .i64 (k : Int), .int .u64 (B : Int), .int .i64 (j : Int)] RB6 rfl HON4.out M3.out M4.out HB6.size ?_; intro v7 w7 hown7 hg7; have HB7 : Below W.heap.size W w7 := (HB6).grown hg7 (HB6).size (fun q e => ((hown6).lt q e).1))
      | fail)
    all_goals
      have hown7 : w7.ownsRow W.heap.size 35 2 v7 (0 + i + 2) ([] ++ (l.take i).flatMap fdC ++ [.int .u64 (A : Int), .int .i64 (k : Int), .int .u64 (B : Int), .int .i64 (j : Int)]) := hown7
      obtain ⟨xs, hxs⟩ : ∃ xs, xs = [] ++ (l.take i).flatMap fdC ++ [.int .u64 (A : Int), .int .i64 (k : Int), .int .u64 (B : Int), .int .i64 (j : Int)] := ⟨_, rfl⟩
      obtain ⟨c7, hc7⟩ : ∃ c, c = 0 + i + 2 := ⟨_, rfl⟩
      rw [← hxs, ← hc7] at hown7
      have HXS : Hid _ := hxs
      have HC7 : Hid _ := hc7
      have M5' : Hid (c7 + (l.length - (i + 1)) ≤ maxLen) := by show _ ≤ _; rw [hc7]; exact M5.out
      have M6' : Hid ((c7 + (l.length - (i + 1))) * 16 ≤ 140737488355328) := by show _ ≤ _; rw [hc7]; exact M6.out
      clear hxs hc7
      have HB7 : Below W.heap.size W w7 := HB7
      obtain ⟨ad7, cap7, rfl⟩ := slice_own hown7
      clear d0 d1 hlow f1 f2 f3 e1 e2 e3 e4
      have g1 : IntKind.i64.wrap ((i : Int) + 1) = (i : Int) + 1 := IntWalk.i64_in _ (by omega)
      have g2 : (i : Int) + 1 ≤ (l.length : Int) := by omega
      have g3 : (0 : Int) ≤ (i : Int) + 1 := by omega
      have g4 : ((i : Int) + 1).toNat = i + 1 := by omega
      have g5 : ((txt t).toList == (txt t).toList) = true := beq_self_eq_true _
      by_cases hci : cap = i + 1
      · have hnil : l.drop (i + 1) = [] := List.drop_eq_nil_of_le (by have := HCAP.out.1; omega)
        have hln : (([] : List Value)).length = (l.length - (i + 1)) * 2 := by have := HCAP.out.1; simp; omega
        subst hci
        go_wp2_with (at_builtin; refine wpList_append_reads _ rfl (.tmp 89) (.tmp 93) 22 rfl W.heap.size 35 i0 (.agg #[.int .u64 0, .int .i64 0]) 2 16 Try.underlying22 hi hz0 hz1 hz2 rfl (by decide) _ _ _ rfl hown7 _ (l.length - (i + 1)) [] rfl ⟨_, _, rfl, .inl rfl⟩ hln (fun _ h => by cases h) M5'.out M6'.out HB7.size ?_)
        intro v9 w9 hown9 hg9
        have HB9 : Hid (Below W.heap.size W w9) := HB7.grown hg9 HB7.size (fun q e => (hown7.lt q e).1)
        have HRF : Hid (Rows w9 v9 fdC (twoL l i k ⟨fn, (m : Int)⟩)) := rows_fin hown9 (by rw [HLEN.out, HC7.out]) (by rw [HCELLS.out, HXS.out, hnil]; simp)
        clear hown7 hg9 hown9 HB7
        go_wp2_with fail
        refine (bwrite_any _ _ _ HRF.out HTL.out).mono ?_
        rw [HTE.out, HTX.out, HT.out]
        rintro e w10 ⟨rfl, hb10⟩
        go_wp2_with fail
        go_ret
        exact ⟨rfl, next (next HBW.out HB9.out) hb10⟩
      · have HRD2 : Reads w7 (.slice (some ⟨bl, ol + (i + 1) * 2, none⟩) (l.length - (i + 1)) (cap - (i + 1))) (l.length - (i + 1)) ((l.drop (i + 1)).flatMap fdC) := by
          have h := rows_from 2 (fun _ => rfl) (HRW.out w7 HB7) (i + 1) (l.length - (i + 1)) (cap - (i + 1)) (by rw [List.length_drop])
          have h : Reads _ _ (l.drop (i + 1)).length _ := h
          rw [List.length_drop] at h
          exact h
        have hln : ((l.drop (i + 1)).flatMap fdC).length = (l.length - (i + 1)) * 2 := by rw [flat_len fdC 2 (fun _ => rfl), List.length_drop]
        go_wp2_with (at_builtin; refine wpList_append_reads _ rfl (.tmp 89) (.tmp 93) 22 rfl W.heap.size 35 i0 (.agg #[.int .u64 0, .int .i64 0]) 2 16 Try.underlying22 hi hz0 hz1 hz2 rfl (by decide) _ _ _ rfl hown7 _ (l.length - (i + 1)) _ rfl HRD2 hln (HONE.out _) M5'.out M6'.out HB7.size ?_)
        intro v9 w9 hown9 hg9
        have HB9 : Hid (Below W.heap.size W w9) := HB7.grown hg9 HB7.size (fun q e => (hown7.lt q e).1)
        have HRF : Hid (Rows w9 v9 fdC (twoL l i k ⟨fn, (m : Int)⟩)) := rows_fin hown9 (by rw [HLEN.out, HC7.out]) (by rw [HCELLS.out, HXS.out])
        clear hown7 hg9 hown9 HB7
        go_wp2_with fail
        refine (bwrite_any _ _ _ HRF.out HTL.out).mono ?_
        rw [HTE.out, HTX.out, HT.out]
        rintro e w10 ⟨rfl, hb10⟩
        go_wp2_with fail
        go_ret
        exact ⟨rfl, next (next HBW.out HB9.out) hb10⟩
set_option maxRecDepth 100000 in
theorem lifted (os : Os) (started : os.Started) (H : Type) (enc : TypeId × Value → H) :
    ReturnsInHanded {} Try.checked os 5 .any (Rows.bitsPartsSpec.pre6 enc Try.prog Try.f5 Rows.bitsPartsRow.domain false) (Rows.bitsPartsSpec.post enc Try.prog Try.f5 false true false false) := by
  refine returnsInHanded_of_change_sized (C := Try.checked) own started (by kernel_rfl) Try.func5
    (ChangeSpec.witness6 (enc := enc) (C := Try.checked) false ⟨#[], #[.slice none 0 0, .int .i64 0, .int .i64 0], []⟩ 8 (by kernel_rfl) (by kernel_rfl) (by kernel_rfl) (by kernel_rfl)) ?_
  intro W base args ds gs before hval0 hW hcnd hsz0 _
  have hsz : (DataW.weightsEach Try.prog (Try.f5.params.toList ++ Rows.bitsPartsSpec.plain.varTypes Try.prog) (ds ++ gs)).all (· ≤ reachBytes) = true := hsz0
  have hval : ∀ (j : Nat) t v, Try.f5.params[j]? = some t → args[j]? = some v → Value.okWide Try.prog W .any base t v := hval0
  have hW' := hW
  obtain ⟨p, q, hA0, hV, rfl, hfz, hnd⟩ := hW
  have hA : DataW.TrodAll enc Try.prog W 0 (fun _ => true) true Try.f5.params.toList args.toList ds p := hA0
  rw [Try.params5] at hA hval hsz
  obtain ⟨v0, vs0, d0, ds0, p0, q0, hargs, rfl, rfl, h0, r0⟩ := trodAll_cons hA
  obtain ⟨v1, vs1, d1, ds1, p1, q1, rfl, rfl, rfl, h1, r1⟩ := trodAll_cons r0
  obtain ⟨v2, vs2, d2, ds2, p2, q2, rfl, rfl, rfl, h2, r2⟩ := trodAll_cons r1
  obtain ⟨rfl, rfl, rfl⟩ := trodAll_nil r2
  obtain rfl : args = #[v0, v1, v2] := by cases args; simp_all
  obtain ⟨rfl, rfl⟩ := trodVars_none hV
  have k0 := h0
  have lt0 : ∀ x ∈ p0, x.block < W.heap.size := by obtain ⟨m, hm⟩ := k0; exact DataW.trod_lt m _ _ _ hm
  have k1 := h1
  have lt1 : ∀ x ∈ p1, x.block < W.heap.size := by obtain ⟨m, hm⟩ := k1; exact DataW.trod_lt m _ _ _ hm
  have k2 := h2
  have lt2 : ∀ x ∈ p2, x.block < W.heap.size := by obtain ⟨m, hm⟩ := k2; exact DataW.trod_lt m _ _ _ hm
  obtain ⟨l0, rd0, m0, ok0, bk0⟩ := open_fields2 (hval 0 22 v0 rfl rfl) k0 140737488351232 (fits_each hsz (j := 0) (t := 22) rfl rfl)
  obtain ⟨x1, rfl, rfl, hp1, w1⟩ := open_int Try.underlying3 (hval 1 3 v1 rfl rfl) h1
  have b1 := i64_of w1
  obtain ⟨x2, rfl, rfl, hp2, w2⟩ := open_int Try.underlying3 (hval 2 3 v2 rfl rfl) h2
  have b2 := i64_of w2
  clear hA0 hval0
  refine (walk v0 l0 x1 x2 W rd0 m0 ok0 b1 b2).mono fun e W' ⟨he, bel⟩ => ?_
  subst he
  exact ⟨_, rfl, _, _, _, [], _, [], hW', trodAll_mk1 (shut_bool Try.underlying4 _), (trodAll_cons_mk (Below.trod laidOut (by kernel_rfl) (of_decide_eq_true (by kernel_rfl)) k0 bel lt0) (trodAll_cons_mk (Below.trod laidOut (by kernel_rfl) (of_decide_eq_true (by kernel_rfl)) k1 bel lt1) (trodAll_cons_mk (Below.trod laidOut (by kernel_rfl) (of_decide_eq_true (by kernel_rfl)) k2 bel lt2) trodAll_mk0))), rfl, bel.frame _, fun h => by cases h⟩

theorem proved : Rows.BitsPartsSaid :=
  OpenClaim.holds_of_wide 5 Try.f5 rfl rfl rfl rfl rfl rfl rfl ⟨rfl, rfl, rfl, rfl, rfl⟩ rfl rfl rfl rfl rfl (by kernel_rfl) Try.func5 (by kernel_rfl)
    (of_decide_eq_true (by kernel_rfl)) (by unfold Func.isWrapper; first | (rw [if_pos (by decide +kernel)]; kernel_rfl) | (rw [if_neg (by decide +kernel)]; exact ⟨rfl, rfl⟩))
    (fun os started H enc _ => lifted os started H enc)
#print axioms proved
end Go.Proofs.Ytdcoiibakocbjaa.bitsParts
