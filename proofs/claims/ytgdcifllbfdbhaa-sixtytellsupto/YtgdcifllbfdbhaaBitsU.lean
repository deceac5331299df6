/- The reference's bits as bytes, and its answer to numbers. -/
import Derived.Test.YtgdcifllbfdbhaaBitsS
namespace Go.Proofs.Ytgdcifllbfdbhaa
open Go.RowKit Go.Lib
set_option linter.all false
set_option maxRecDepth 100000

/-- the bits of a byte so far, noughts behind the last one -/
def padN (l : List Nat) (a j : Nat) : Nat := numB ((List.range j).map fun t => l[a + t]?.getD 0)
theorem padN_snoc (l : List Nat) (a j : Nat) : padN l a (j + 1) = 2 * padN l a j + l[a + j]?.getD 0 := by
  unfold padN
  rw [List.range_succ, List.map_append, List.map_cons, List.map_nil, numB_snoc]
theorem padN_lt (l : List Nat) (hb : ∀ b ∈ l, b < 2) (a j : Nat) : padN l a j < 2 ^ j := by
  unfold padN
  have h := numB_lt ((List.range j).map fun t => l[a + t]?.getD 0) (fun b h => by
    obtain ⟨t, _, rfl⟩ := List.mem_map.1 h
    cases e : l[a + t]? with
    | none => simp
    | some x => simpa using hb x (List.mem_of_getElem? e))
  simpa using h
theorem packB_take (l : List Nat) (k : Nat) (h : k < (l.length + 7) / 8) : (packB l).take (k + 1) = (packB l).take k ++ [UInt8.ofNat (padN l (8 * k) 8)] := by
  rw [List.take_succ]
  congr 1
  unfold packB
  rw [List.getElem?_map, List.getElem?_range h]; rfl
theorem txt_cat (a b : List UInt8) : txt a ++ txt b = txt (a ++ b) := ByteArray.mk_append_mk a b
set_option maxHeartbeats 4000000 in
theorem bitBytes_any (v : Value) (l : List Nat) (w : World) (hr : Rows w v bitF l) (hl : l.length ≤ 1073741824) (hb : ∀ b ∈ l, b < 2) :
    Calls Try.prog 32 #[v] w fun e w' => e = .returned (.string (txt (packB l))) ∧ Below w.heap.size w w' := by
  obtain ⟨ad, cap, rfl⟩ := hr.shape
  have HR : Hid _ := hr
  have HB : Hid _ := hb
  clear hr hb
  go_enter Try.func32, Try.ntmps32
  go_wp2_with fail
  go_loopw [3, 4, 5, 6] (fun s i _ _ wr => ∃ k : Nat, k ≤ (l.length + 7) / 8 ∧ i = .int .i64 ((8 * k : Nat) : Int) ∧ s = .string (txt ((packB l).take k)) ∧ Hid (Below w.heap.size w wr)) (fun _ i _ _ _ => l.length + 8 - (intOf i).toNat)
  case atStart => exact ⟨0, Nat.zero_le _, rfl, rfl, Below.refl _ _⟩
  case round =>
    obtain ⟨k, hk, rfl, rfl, hbw⟩ := hrel
    obtain ⟨a, ha⟩ : ∃ a, a = 8 * k := ⟨_, rfl⟩
    rw [← ha]
    by_cases hlt : a < l.length
    · have hal : a ≤ 1073741824 := by omega
      have HA : Hid _ := ha
      have HKL : Hid (k < (l.length + 7) / 8) := by show _ < _; omega
      have HTK : Hid _ := packB_take l k HKL.out
      have HSZ : Hid (((packB l).take k).length ≤ 134217729) := by show _ ≤ _; rw [List.length_take, packB_length]; omega
      obtain ⟨sa, hsa⟩ : ∃ s, s = (packB l).take k := ⟨_, rfl⟩
      rw [← hsa]
      have HSA : Hid _ := hsa
      obtain ⟨wo, hwo⟩ : ∃ W : World, W = wr := ⟨_, rfl⟩
      rw [← hwo] at hbw ⊢
      clear ha hsa hwo hk
      go_wp2_with fail
      go_loop [5, 6] (fun n j => ∃ q : Nat, q ≤ 8 ∧ j = .int .i64 q ∧ n = .int .i64 (padN l a q : Int)) (fun _ j => 8 - (intOf j).toNat)
      case atStart => exact ⟨0, by decide, rfl, rfl⟩
      case round =>
        obtain ⟨q, hq, rfl, rfl⟩ := hrel
        obtain ⟨N, hN⟩ : ∃ N, N = padN l a q := ⟨_, rfl⟩
        have hNl : N < 256 := by
          have h1 := padN_lt l HB.out a q
          have h2 : (2:Nat) ^ q ≤ 2 ^ 8 := Nat.pow_le_pow_right (by decide) hq
          rw [hN]; omega
        have HSN : Hid (padN l a (q + 1) = 2 * N + l[a + q]?.getD 0) := by show _ = _; rw [hN]; exact padN_snoc l a q
        have HN : Hid _ := hN
        rw [← hN]
        by_cases hq8 : q < 8
        · clear hN
          by_cases hin : a + q < l.length
          · have e1 := List.getElem?_eq_getElem hin
            obtain ⟨b, hb⟩ : ∃ b, b = l[a + q] := ⟨_, rfl⟩
            rw [← hb] at e1
            have hbl : b < 2 := HB.out b (List.mem_of_getElem? e1)
            obtain ⟨ba, oa, rfl, hbla, hcla⟩ := Rows.at HR.out rfl 0 (fun _ => rfl) _ _ e1
            have c0 : wo.cell? ⟨ba, oa + (a + q), none⟩ = some (.int .i64 (b : Int)) := by
              have := (hbw.out.cell (p := ⟨ba, oa + (a + q) * (0 + 1) + 0, none⟩) hbla).trans (hcla 0 _ rfl)
              rw [show oa + (a + q) * (0 + 1) + 0 = oa + (a + q) by omega] at this; exact this
            have HS2 : Hid (padN l a (q + 1) = 2 * N + b) := by show _ = _; rw [HSN.out, e1]; rfl
            have i1 : (a : Int) + (q : Int) = ((a + q : Nat) : Int) := by omega
            have i2 : (a : Int) + (q : Int) < (l.length : Int) := by omega
            have i3 : (0 : Int) ≤ (a : Int) + (q : Int) := by omega
            have i4 : ((a : Int) + (q : Int)).toNat = a + q := by omega
            have i5 : IntKind.i64.wrap ((a : Int) + (q : Int)) = (a : Int) + (q : Int) := IntWalk.i64_in _ (by omega)
            have i6 : IntKind.i64.wrap ((N : Int) * 2) = (N : Int) * 2 := IntWalk.i64_in _ (by omega)
            have i7 : IntKind.i64.wrap ((N : Int) * 2 + (b : Int)) = (N : Int) * 2 + (b : Int) := IntWalk.i64_in _ (by omega)
            have HVAL : Hid ((N : Int) * 2 + (b : Int) = ((2 * N + b : Nat) : Int)) := by show _ = _; omega
            clear hb e1 hcla hbla i1
            go_wp2_with fail
            go_round
            case rel => exact ⟨q + 1, by omega, by go_num, by rw [HS2.out, ← HVAL.out]⟩
            case measure => simp [intOf]; omega
          · have HS2 : Hid (padN l a (q + 1) = 2 * N) := by show _ = _; rw [HSN.out, List.getElem?_eq_none (by omega)]; rfl
            have i2 : ¬ (a : Int) + (q : Int) < (l.length : Int) := by omega
            have i5 : IntKind.i64.wrap ((a : Int) + (q : Int)) = (a : Int) + (q : Int) := IntWalk.i64_in _ (by omega)
            have i6 : IntKind.i64.wrap ((N : Int) * 2) = (N : Int) * 2 := IntWalk.i64_in _ (by omega)
            have HVAL : Hid ((N : Int) * 2 = ((2 * N : Nat) : Int)) := by show _ = _; omega
            clear hin
            go_wp2_with fail
            go_round
            case rel => exact ⟨q + 1, by omega, by go_num, by rw [HS2.out, ← HVAL.out]⟩
            case measure => simp [intOf]; omega
        · have hq8' : q = 8 := by omega
          have HB8 : Hid (UInt8.ofNat (padN l (8 * k) 8) = UInt8.ofNat N) := by
            show _ = _
            rw [hN, hq8', ← HA.out]
          have hn8 : (N : Int) = ((UInt8.ofNat N).toNat : Int) := by rw [u8_ofNat N hNl]
          have HN8 : Hid _ := hn8
          have hcat : (txt sa).size + (txt [UInt8.ofNat N]).size ≤ 9223372036854775807 := by
            have h1 := HSZ.out
            rw [← HSA.out] at h1
            rw [txt_size, txt_size]; simp; omega
          have hcat2 : ¬ 9223372036854775807 < (txt sa).size + (txt [UInt8.ofNat N]).size := by omega
          have i8 : IntKind.i64.wrap ((a : Int) + 8) = (a : Int) + 8 := IntWalk.i64_in _ (by omega)
          have hq9 : ¬ (q : Int) < 8 := by omega
          have HCT : Hid (txt sa ++ txt [UInt8.ofNat N] = txt ((packB l).take (k + 1))) := by
            show _ = _
            rw [HTK.out, HB8.out, txt_cat, HSA.out]
          have HKL2 : Hid (k + 1 ≤ (l.length + 7) / 8) := by show _ ≤ _; have := HKL.out; omega
          have HA2 : Hid ((a : Int) + 8 = ((8 * (k + 1) : Nat) : Int)) := by show _ = _; have := HA.out; omega
          clear hq8' hn8 hN hq8
          go_wp2_with fail
          refine (oneByte_any (UInt8.ofNat N) _ HN8.out _).mono ?_
          rintro e w1 ⟨rfl, hb1⟩
          have HB1 : Hid (Below w.heap.size w w1) := next hbw.out hb1
          clear hb1
          go_wp2_with fail
          go_roundw
          case rel => exact ⟨k + 1, HKL2.out, by rw [HA2.out], by rw [HCT.out], HB1⟩
          case measure => simp [intOf]; omega
    · have hke : k = (l.length + 7) / 8 := by omega
      have HT : Hid ((packB l).take k = packB l) := List.take_of_length_le (by rw [packB_length]; omega)
      rw [HT.out]
      have hlt' : ¬ (a : Int) < (l.length : Int) := by omega
      clear ha hke hk
      go_wp2_with fail
      go_ret
      exact ⟨rfl, hbw.out⟩
end Go.Proofs.Ytgdcifllbfdbhaa
