/- The reference's bits of a text, and the number of bits. -/
import Derived.Test.YtgdcifllbfdbhaaBitsR
namespace Go.Proofs.Ytgdcifllbfdbhaa
open Go.RowKit Go.Lib
set_option linter.all false
set_option maxRecDepth 100000

theorem bitF_one (l : List Nat) : ∀ u ∈ l.flatMap bitF, u.oneCell' = true := fun u hu => by
  obtain ⟨z, _, h⟩ := List.mem_flatMap.1 hu
  obtain rfl : u = .int .i64 (z : Int) := by simpa [bitF] using h
  rfl
theorem bitF_len (l : List Nat) : (l.flatMap bitF).length = l.length := by
  induction l with
  | nil => rfl
  | cons b l ih => rw [List.flatMap_cons, List.length_append, ih]; simp [bitF]; omega
theorem bitsT_take (s : List UInt8) (k : Nat) (c : UInt8) (h : s[k]? = some c) : bitsT (s.take (k + 1)) = bitsT (s.take k) ++ bitsN c.toNat 8 := by
  rw [List.take_succ, h, bitsT_append]; rfl
set_option maxHeartbeats 2000000 in
theorem textBits_any (s : ByteArray) (w : World) (hs : s.size ≤ 1073741824) :
    Calls Try.prog 42 #[.string s] w fun e w' => ∃ v, e = .returned v ∧ w'.ownsRow w.heap.size 3 1 v (8 * s.size) ((bitsT s.data.toList).flatMap bitF) ∧ Below w.heap.size w w' := by
  obtain ⟨i0, hi, hz0, hz1, hz2⟩ := infoI
  have HS : Hid _ := hs
  go_enter Try.func42, Try.ntmps42
  go_wp2_with fail
  go_loopw [3, 4] (fun o i wr => ∃ k : Nat, k ≤ s.size ∧ i = .int .i64 k ∧ wr.ownsRow w.heap.size 3 1 o (8 * k) ((bitsT (s.data.toList.take k)).flatMap bitF) ∧ Hid (Below w.heap.size w wr)) (fun _ i _ => s.size - (intOf i).toNat)
  case atStart => exact ⟨0, Nat.zero_le _, rfl, by rw [List.take_zero]; exact World.ownsRow_nil _ _ _ _, Below.refl _ _⟩
  case round =>
    obtain ⟨k, hk, rfl, hown, hb⟩ := hrel
    by_cases hlt : k < s.size
    · have HE : Hid (s.data.toList[k]? = some s[k]) := get_of s k hlt
      have HTK : Hid _ := bitsT_take s.data.toList k s[k] HE.out
      have hcl : s[k].toNat < 18446744073709551616 := by have := u8_lt s[k]; omega
      have d5 : IntKind.u64.wrap (s[k].toNat : Int) = (s[k].toNat : Int) := by rw [IntKind.wrap_u64]; omega
      have hle := hb.out.size
      go_wp2_with fail
      refine (bitList_any s[k].toNat 8 _ hcl (by decide)).mono ?_
      rintro e w1 ⟨v1, rfl, own1, hb1⟩
      have hown1 := own_below hown hb1 (Nat.le_refl _)
      have hrd : Reads w1 v1 8 ((bitsN s[k].toNat 8).flatMap bitF) := Reads.of_own own1
      have HB1 : Hid (Below w.heap.size w w1) := next hb.out hb1
      have hle1 := HB1.out.size
      have hl8 : ((bitsN s[k].toNat 8).flatMap bitF).length = 8 * 1 := by rw [bitF_len, bitsN_length]
      have h1 := bitF_one (bitsN s[k].toNat 8)
      clear hown own1 hb1 hcl d5
      go_wp2_with (at_builtin; refine wpList_append_reads _ rfl _ _ 28 rfl w.heap.size 3 i0 (.int .i64 0) 1 8 Try.underlying28 hi hz0 hz1 hz2 rfl (by decide) _ _ _ rfl hown1 _ 8 _ rfl hrd hl8 h1 ?c1 ?c2 hle1 ?_)
      case c1 => have := HS.out; unfold maxLen; omega
      case c2 => have := HS.out; omega
      intro v3 w3 hown3 hg3
      have HB3 : Hid (Below w.heap.size w w3) := HB1.out.grown hg3 hle1 (fun q e => (hown1.lt q e).1)
      have hown4 : w3.ownsRow w.heap.size 3 1 v3 (8 * (k + 1)) ((bitsT (s.data.toList.take (k + 1))).flatMap bitF) := by
        rw [HTK.out, List.flatMap_append, Nat.mul_succ]; exact hown3
      clear hown1 hown3 hg3 hrd hl8 h1
      go_wp2_with fail
      go_roundw
      case rel => exact ⟨k + 1, by omega, by go_num, hown4, HB3⟩
      case measure => simp [intOf]; omega
    · have hks : k = s.size := by omega
      have HT : Hid (s.data.toList.take k = s.data.toList) := List.take_of_length_le (by have : s.data.toList.length = s.size := rfl; omega)
      rw [HT.out] at hown
      rw [hks] at hown
      have HO : Hid _ := hown
      clear hown hks
      go_wp2_with fail
      go_ret
      exact ⟨_, rfl, HO.out, hb.out⟩
set_option maxHeartbeats 2000000 in
theorem bitNumber_any (v : Value) (l : List Nat) (w : World) (hr : Rows w v bitF l) (hl : l.length ≤ 64) (hb : ∀ b ∈ l, b < 2) :
    Calls Try.prog 31 #[v] w fun e w' => e = .returned (.int .u64 (numB l : Int)) ∧ w' = w := by
  obtain ⟨ad, cap, rfl⟩ := hr.shape
  have HR : Hid _ := hr
  have HB : Hid _ := hb
  clear hr hb
  go_enter Try.func31, Try.ntmps31
  go_wp2
  go_loop [3, 4] (fun n i => ∃ k : Nat, k ≤ l.length ∧ i = .int .i64 k ∧ n = .int .u64 (numB (l.take k) : Int)) (fun _ i => l.length - (intOf i).toNat)
  case atStart => exact ⟨0, Nat.zero_le _, rfl, rfl⟩
  case round =>
    obtain ⟨k, hk, rfl, rfl⟩ := hrel
    by_cases hlt : k < l.length
    · have e1 := List.getElem?_eq_getElem hlt
      obtain ⟨b, hb⟩ : ∃ b, b = l[k] := ⟨_, rfl⟩
      rw [← hb] at e1
      obtain ⟨ba, oa, rfl, hbla, hcla⟩ := Rows.at HR.out rfl 0 (fun _ => rfl) k _ e1
      have c0 : w.cell? ⟨ba, oa + k, none⟩ = some (.int .i64 (b : Int)) := by
        have := hcla 0 _ rfl
        rw [show oa + k * (0 + 1) + 0 = oa + k by omega] at this; exact this
      obtain ⟨N, hN⟩ : ∃ N, N = numB (l.take k) := ⟨_, rfl⟩
      have hNl : N < 9223372036854775808 := by
        have h1 := numB_lt (l.take k) (fun x hx => HB.out x (List.mem_of_mem_take hx))
        rw [List.length_take, Nat.min_eq_left hk] at h1
        have h2 : (2:Nat) ^ k ≤ 2 ^ 63 := Nat.pow_le_pow_right (by decide) (by omega)
        rw [hN]; omega
      have hbl : b < 2 := HB.out b (List.mem_of_getElem? e1)
      have HN1 : Hid (numB (l.take (k + 1)) = 2 * N + b) := by
        show _ = _
        rw [List.take_succ, e1, hN]; exact numB_snoc _ _
      have d1 : IntKind.u64.wrap (b : Int) = (b : Int) := by rw [IntKind.wrap_u64]; omega
      rw [← hN]
      clear hN hb e1 hcla
      go_wp2
      go_round
      case rel => exact ⟨k + 1, by omega, by go_num, by rw [HN1.out]; push_cast; rfl⟩
      case measure => simp [intOf]; omega
    · have HT : Hid (l.take k = l) := List.take_of_length_le (by omega)
      rw [HT.out]
      go_wp2
      go_ret
      exact ⟨rfl, rfl⟩
end Go.Proofs.Ytgdcifllbfdbhaa
