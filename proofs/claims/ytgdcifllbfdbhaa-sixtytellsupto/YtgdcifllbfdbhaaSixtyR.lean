/- What the document's own answer reckons letters with, and its answer to a text. -/
import Derived.Test.YtgdcifllbfdbhaaSixtyE
import Derived.Test.YtgdcifllbfdbhaaWordC
namespace Go.Proofs.Ytgdcifllbfdbhaa
open Go.RowKit Go.Lib
set_option linter.all false
set_option maxRecDepth 100000

theorem ltr_a (n : Nat) (h : n < 26) : (ltr n).toNat = 65 + n := by
  have : ∀ n : Fin 26, (ltr n.val).toNat = 65 + n.val := by decide +kernel
  exact this ⟨n, h⟩
theorem ltr_b (n : Nat) (h : 26 ≤ n) (h2 : n < 52) : (ltr n).toNat = 71 + n := by
  have : ∀ n : Fin 52, 26 ≤ n.val → (ltr n.val).toNat = 71 + n.val := by decide +kernel
  exact this ⟨n, h2⟩ h
theorem ltr_c (n : Nat) (h : 52 ≤ n) (h2 : n < 62) : (ltr n).toNat = n - 4 := by
  have : ∀ n : Fin 62, 52 ≤ n.val → (ltr n.val).toNat = n.val - 4 := by decide +kernel
  exact this ⟨n, h2⟩ h
set_option maxHeartbeats 1000000 in
theorem letter_any (n : Nat) (w : World) (h : n < 64) : Calls Try.prog 28 #[.int .i64 (n : Int)] w fun e w' => e = .returned (.string (txt [ltr n])) ∧ Below w.heap.size w w' := by
  have d1 : IntKind.i64.wrap (65 + (n : Int)) = 65 + (n : Int) := IntWalk.i64_in _ (by omega)
  have d2 : IntKind.i64.wrap (97 + (n : Int)) = 97 + (n : Int) := IntWalk.i64_in _ (by omega)
  have d3 : IntKind.i64.wrap (97 + (n : Int) - 26) = 97 + (n : Int) - 26 := IntWalk.i64_in _ (by omega)
  have d4 : IntKind.i64.wrap (48 + (n : Int)) = 48 + (n : Int) := IntWalk.i64_in _ (by omega)
  have d5 : IntKind.i64.wrap (48 + (n : Int) - 52) = 48 + (n : Int) - 52 := IntWalk.i64_in _ (by omega)
  by_cases h1 : n < 26
  · have HL : Hid _ := ltr_a n h1
    go_enter Try.func28, Try.ntmps28
    go_wp2_with fail
    refine (oneByte_any (ltr n) _ (by rw [HL.out]; omega) _).mono ?_
    rintro e w1 ⟨rfl, hb1⟩
    go_wp2_with fail
    go_ret
    exact ⟨rfl, hb1⟩
  by_cases h2 : n < 52
  · have HL : Hid _ := ltr_b n (by omega) h2
    go_enter Try.func28, Try.ntmps28
    go_wp2_with fail
    refine (oneByte_any (ltr n) _ (by rw [HL.out]; omega) _).mono ?_
    rintro e w1 ⟨rfl, hb1⟩
    go_wp2_with fail
    go_ret
    exact ⟨rfl, hb1⟩
  by_cases h3 : n < 62
  · have HL : Hid _ := ltr_c n (by omega) h3
    go_enter Try.func28, Try.ntmps28
    go_wp2_with fail
    refine (oneByte_any (ltr n) _ (by rw [HL.out]; omega) _).mono ?_
    rintro e w1 ⟨rfl, hb1⟩
    go_wp2_with fail
    go_ret
    exact ⟨rfl, hb1⟩
  · have h4 : n = 62 ∨ n = 63 := by omega
    rcases h4 with rfl | rfl
    all_goals
      go_enter Try.func28, Try.ntmps28
      go_wp2_with fail
      go_ret
      exact ⟨rfl, Below.refl _ _⟩
theorem idxA_yes (b : UInt8) (k : Nat) (hk : k < 64) (h : ltr k = b) : idxA b = (k : Int) := by
  have h1 := lnum_ltr k hk
  rw [h] at h1
  unfold idxA
  rw [h1, if_pos hk]
theorem idxA_no (b : UInt8) (h : ∀ j, j < 64 → ltr j ≠ b) : idxA b = -1 := by
  unfold idxA
  rw [if_neg]
  intro hl
  exact h _ hl (ltr_lnum b hl)
set_option maxHeartbeats 2000000 in
theorem number_any (b : UInt8) (w : World) : Calls Try.prog 29 #[.int .u8 (b.toNat : Int)] w fun e w' => e = .returned (.int .i64 (idxA b)) ∧ Below w.heap.size w w' := by
  have hbl := u8_lt b
  obtain ⟨bn, hbn⟩ : ∃ bn, bn = b.toNat := ⟨_, rfl⟩
  rw [← hbn] at hbl ⊢
  have HBN : Hid _ := hbn
  clear hbn
  go_enter Try.func29, Try.ntmps29
  go_wp2_with fail
  go_loopw [3] (fun i wr => ∃ k : Nat, k ≤ 64 ∧ i = .int .i64 k ∧ Hid (∀ j, j < k → ltr j ≠ b) ∧ Hid (Below w.heap.size w wr)) (fun i _ => 64 - (RowKit.intOf i).toNat)
  case atStart => exact ⟨0, by decide, rfl, fun _ h => absurd h (by omega), Below.refl _ _⟩
  case round =>
    obtain ⟨k, hk, rfl, hall, hb⟩ := hrel
    by_cases hlt : k < 64
    · obtain ⟨L, hL⟩ : ∃ L, L = txt [ltr k] := ⟨_, rfl⟩
      have hls : L.size = 1 := by rw [hL]; rfl
      have hl0 : L[0] = ltr k := by subst hL; rfl
      obtain ⟨cn, hcn⟩ : ∃ cn, cn = (ltr k).toNat := ⟨_, rfl⟩
      have hl1 : L[0].toNat = cn := by rw [hl0, hcn]
      have KL : Hid (∀ w', Calls Try.prog 28 #[.int .i64 (k : Int)] w' fun e w'' => e = .returned (.string L) ∧ Below w'.heap.size w' w'') := fun w' => by rw [hL]; exact letter_any k w' hlt
      have HCN : Hid _ := hcn
      clear hL hl0 hcn
      by_cases he : cn = bn
      · have HI : Hid (idxA b = (k : Int)) := idxA_yes b k hlt (by
          apply UInt8.toNat_inj.1
          rw [← HCN.out, ← HBN.out, he])
        have hee : ((cn : Int) == (bn : Int)) = true := by rw [he]; simp
        clear he
        go_wp2_with fail
        refine (KL.out _).mono ?_
        rintro e w1 ⟨rfl, hb1⟩
        have HB1 : Hid _ := next hb.out hb1
        clear hb1
        go_wp2_with fail
        go_ret
        exact ⟨by rw [HI.out]; rfl, HB1.out⟩
      · have hee : ((cn : Int) == (bn : Int)) = false := by rw [beq_eq_false_iff_ne]; omega
        have HNE : Hid (∀ j, j < k + 1 → ltr j ≠ b) := fun j hj => by
          by_cases hjk : j = k
          · subst hjk
            intro h
            apply he
            rw [HCN.out, HBN.out, h]
          · exact hall.out j (by omega)
        clear he
        go_wp2_with fail
        refine (KL.out _).mono ?_
        rintro e w1 ⟨rfl, hb1⟩
        have HB1 : Hid _ := next hb.out hb1
        clear hb1
        go_wp2_with fail
        go_roundw
        case rel => exact ⟨k + 1, by omega, by go_num, HNE, HB1⟩
        case measure => simp [RowKit.intOf]; omega
    · have HI : Hid (idxA b = -1) := idxA_no b (fun j hj => hall.out j (by omega))
      go_wp2_with fail
      go_ret
      exact ⟨by rw [HI.out]; rfl, hb.out⟩
/-- six bits out of a number -/
theorem numB_mid (l : List Nat) (hl : ∀ b ∈ l, b < 2) (a b r : Nat) (h : a + b + r = l.length) : numB ((l.drop a).take b) = numB l / 2 ^ r % 2 ^ b := by
  have e : l = l.take a ++ ((l.drop a).take b ++ (l.drop a).drop b) := by rw [List.take_append_drop, List.take_append_drop]
  have h1 := numB_lt ((l.drop a).drop b) (fun x hx => hl x (List.mem_of_mem_drop (List.mem_of_mem_drop hx)))
  have h2 := numB_lt ((l.drop a).take b) (fun x hx => hl x (List.mem_of_mem_drop (List.mem_of_mem_take hx)))
  have hr : ((l.drop a).drop b).length = r := by rw [List.length_drop, List.length_drop]; omega
  have hb : ((l.drop a).take b).length = b := by rw [List.length_take, List.length_drop]; omega
  rw [hr] at h1
  rw [hb] at h2
  have e2 : numB l = (numB (l.take a) * 2 ^ b + numB ((l.drop a).take b)) * 2 ^ r + numB ((l.drop a).drop b) := by
    conv => lhs; rw [e]
    rw [numB_append, numB_append, List.length_append, hr, hb, Nat.pow_add, Nat.add_mul, Nat.mul_assoc, Nat.add_assoc]
  rw [e2, Nat.mul_comm _ (2 ^ r), Nat.mul_add_div (Nat.two_pow_pos r), Nat.div_eq_of_lt h1, Nat.add_zero, Nat.mul_comm _ (2 ^ b), Nat.mul_add_mod, Nat.mod_eq_of_lt h2]
/-- three bytes as a number, noughts behind the last one -/
def nb (g : List UInt8) (q : Nat) : Nat := (List.range q).foldl (fun n j => n * 256 + (g[j]?.getD 0).toNat) 0
theorem nb_succ (g : List UInt8) (q : Nat) : nb g (q + 1) = nb g q * 256 + (g[q]?.getD 0).toNat := by unfold nb; rw [List.range_succ, List.foldl_append]; rfl
theorem nb_lt (g : List UInt8) (q : Nat) : nb g q < 256 ^ q := by
  induction q with
  | zero => exact Nat.zero_lt_one
  | succ q ih => rw [nb_succ, Nat.pow_succ]; have := u8_lt (g[q]?.getD 0); omega
theorem bitT_pad (g : List UInt8) (j i : Nat) : bitT (g ++ List.replicate j 0) i = bitT g i := by
  induction j with
  | zero => simp
  | succ j ih => rw [List.replicate_succ', ← List.append_assoc, bitT_zero, ih]
theorem sixN_pad (g : List UInt8) (j i : Nat) : sixN (g ++ List.replicate j 0) i = sixN g i := by
  unfold sixN
  congr 1
  apply List.map_congr_left
  intro k _
  exact bitT_pad _ _ _
theorem sixN_three (a b c : UInt8) (i : Nat) (h : i < 4) : sixN [a, b, c] i = (a.toNat * 65536 + b.toNat * 256 + c.toNat) / 2 ^ (18 - 6 * i) % 64 := by
  have e : sixN [a, b, c] i = rdN [a, b, c] (6 * i) 6 := by rw [rdN_six _ _ (by simp; omega)]; rfl
  rw [e]
  unfold rdN
  rw [numB_mid _ (bitsT_lt _) (6 * i) 6 (18 - 6 * i) (by rw [bitsT_length]; simp; omega)]
  have e2 : numB (bitsT [a, b, c]) = a.toNat * 65536 + b.toNat * 256 + c.toNat := by
    have : bitsT [a, b, c] = bitsN a.toNat 8 ++ (bitsN b.toNat 8 ++ bitsN c.toNat 8) := by simp [bitsT]
    rw [this, numB_append, numB_append, numB_bits _ _ (by have := u8_lt a; omega), numB_bits _ _ (by have := u8_lt b; omega), numB_bits _ _ (by have := u8_lt c; omega), List.length_append, bitsN_length, bitsN_length]
    omega
  rw [e2]
theorem sixN_nb (g : List UInt8) (h1 : 1 ≤ g.length) (h3 : g.length ≤ 3) (i : Nat) (h : i < 4) : sixN g i = nb g 3 / 2 ^ (18 - 6 * i) % 64 := by
  have e : nb g 3 = ((g[0]?.getD 0).toNat * 256 + (g[1]?.getD 0).toNat) * 256 + (g[2]?.getD 0).toNat := by
    rw [nb_succ, nb_succ, nb_succ]
    show ((nb g 0 * 256 + _) * 256 + _) * 256 + _ = _
    have : nb g 0 = 0 := rfl
    rw [this]; simp
  match g, h1, h3 with
  | [a], _, _ =>
    have := sixN_three a 0 0 i h
    rw [show ([a, 0, 0] : List UInt8) = [a] ++ List.replicate 2 0 from rfl, sixN_pad] at this
    rw [this, e]
    congr 2
    simp; omega
  | [a, b], _, _ =>
    have := sixN_three a b 0 i h
    rw [show ([a, b, 0] : List UInt8) = [a, b] ++ List.replicate 1 0 from rfl, sixN_pad] at this
    rw [this, e]
    congr 2
    simp; omega
  | [a, b, c], _, _ =>
    rw [sixN_three a b c i h, e]
    congr 2
    simp; omega
/-- the letters of a group, by the number -/
theorem wL_nb (g : List UInt8) (h1 : 1 ≤ g.length) (h3 : g.length ≤ 3) : wL g = [ltr (nb g 3 / 262144), ltr (nb g 3 / 4096 % 64), ltr (nb g 3 / 64 % 64), ltr (nb g 3 % 64)].take (g.length + 1) := by
  have hn := nb_lt g 3
  have e0 := sixN_nb g h1 h3 0 (by decide)
  have e1 := sixN_nb g h1 h3 1 (by decide)
  have e2 := sixN_nb g h1 h3 2 (by decide)
  have e3 := sixN_nb g h1 h3 3 (by decide)
  rw [show 18 - 6 * 0 = 18 from rfl, Nat.mod_eq_of_lt (by omega)] at e0
  rw [show 18 - 6 * 1 = 12 from rfl] at e1
  rw [show 18 - 6 * 2 = 6 from rfl] at e2
  rw [show 18 - 6 * 3 = 0 from rfl, Nat.pow_zero, Nat.div_one] at e3
  rw [wL_six g h1 h3]
  unfold sixL
  have : g.length = 1 ∨ g.length = 2 ∨ g.length = 3 := by omega
  rcases this with h | h | h <;> rw [h] <;> simp [List.range_succ, e0, e1, e2, e3]
end Go.Proofs.Ytgdcifllbfdbhaa
