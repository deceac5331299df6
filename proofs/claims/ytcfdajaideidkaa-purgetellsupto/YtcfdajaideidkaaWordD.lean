/- Contracts of the reference's fold, trim and token. -/
import Derived.Test.YtcfdajaideidkaaWordC
namespace Go.Proofs.Ytcfdajaideidkaa
open Go.RowKit
set_option linter.all false
set_option maxRecDepth 100000

theorem txt_append (a b : List UInt8) : txt a ++ txt b = txt (a ++ b) := ByteArray.mk_append_mk a b
theorem foldL_snoc (s : ByteArray) (k : Nat) (h : k < s.size) : foldL (s.data.toList.take (k + 1)) = foldL (s.data.toList.take k) ++ [foldU s[k]] := by
  have e := List.take_succ_eq_append_getElem (l := s.data.toList) (i := k) (by simpa using h)
  rw [e]
  unfold foldL
  rw [List.map_append]; rfl
theorem foldL_len (s : ByteArray) (k : Nat) : (foldL (s.data.toList.take k)).length ≤ k := by
  simp [foldL]; exact Nat.min_le_left _ _

set_option maxHeartbeats 1000000 in
theorem foldOf_any (s : ByteArray) (w : World) (hs : s.size ≤ maxLen) :
    Calls Try.prog 78 #[.string s] w fun e w' => e = .returned (.string (txt (foldL s.data.toList))) ∧ Below w.heap.size w w' := by
  unfold maxLen at hs
  go_enter Try.func78, Try.ntmps78
  go_wp2
  go_loopw [3, 4] (fun o i wr => ∃ k : Nat, k ≤ s.size ∧ i = .int .i64 k ∧ o = .string (txt (foldL (s.data.toList.take k))) ∧ Below w.heap.size w wr) (fun _ i _ => s.size - (intOf i).toNat)
  case atStart => exact ⟨0, Nat.zero_le _, rfl, rfl, Below.refl _ _⟩
  case round =>
    obtain ⟨k, hk, rfl, rfl, hb⟩ := hrel
    by_cases hlt : k < s.size
    · have hcl := u8_lt s[k]
      have HS : Hid (foldL (s.data.toList.take (k + 1)) = foldL (s.data.toList.take k) ++ [foldU s[k]]) := foldL_snoc s k hlt
      have hl0 := foldL_len s k
      obtain ⟨acc, hacc⟩ : ∃ acc, acc = foldL (s.data.toList.take k) := ⟨_, rfl⟩
      rw [← hacc] at HS hl0 ⊢
      have hl : (txt acc).size ≤ k := hl0
      clear hl0
      by_cases hf : 65 ≤ (s[k].toNat : Int) ∧ (s[k].toNat : Int) ≤ 90
      · obtain ⟨h1, h2⟩ := hf
        have e : ((s[k].toNat : Int) + 32) = ((foldU s[k]).toNat : Int) := by rw [foldU_yes _ h1 h2]; omega
        have HE : Hid _ := e
        clear e hacc
        have h1s : (txt [foldU s[k]]).size = 1 := rfl
        go_wp2_with (go_at_call 87; refine (oneByte_any (foldU s[k]) _ HE.out _).mono ?_; rintro e w' ⟨rfl, hb1⟩)
        go_roundw
        case rel => exact ⟨k + 1, by omega, by go_num, by rw [HS.out, ← txt_append], hb.trans (hb1.mono hb.size)⟩
        case measure => simp [intOf]; omega
      · have e : (s[k].toNat : Int) = ((foldU s[k]).toNat : Int) := by rw [foldU_no _ hf]
        have HE : Hid _ := e
        clear e hacc
        have h1s : (txt [foldU s[k]]).size = 1 := rfl
        by_cases h1 : 65 ≤ (s[k].toNat : Int)
        · have h2 : ¬ (s[k].toNat : Int) ≤ 90 := fun h => hf ⟨h1, h⟩
          clear hf
          go_wp2_with (go_at_call 87; refine (oneByte_any (foldU s[k]) _ HE.out _).mono ?_; rintro e w' ⟨rfl, hb1⟩)
          go_roundw
          case rel => exact ⟨k + 1, by omega, by go_num, by rw [HS.out, ← txt_append], hb.trans (hb1.mono hb.size)⟩
          case measure => simp [intOf]; omega
        · clear hf
          go_wp2_with (go_at_call 87; refine (oneByte_any (foldU s[k]) _ HE.out _).mono ?_; rintro e w' ⟨rfl, hb1⟩)
          go_roundw
          case rel => exact ⟨k + 1, by omega, by go_num, by rw [HS.out, ← txt_append], hb.trans (hb1.mono hb.size)⟩
          case measure => simp [intOf]; omega
    · have HT : Hid (s.data.toList.take k = s.data.toList) := List.take_of_length_le (by simp; omega)
      go_wp2
      go_ret
      refine ⟨?_, hb⟩
      rw [HT.out]; rfl

def lenOf : Value → Nat
  | .string x => x.size
  | _ => 0
theorem drop_head (x : ByteArray) (h : 0 < x.size) (hb : blankU x[0] = true) : (x.extract 1 x.size).data.toList.dropWhile blankU = x.data.toList.dropWhile blankU := by
  rw [Lib.extract_to_end]
  have e : x.data.toList = x[0] :: x.data.toList.drop 1 := by
    have := List.drop_eq_getElem_cons (l := x.data.toList) (i := 0) (by simpa using h)
    rw [List.drop_zero] at this
    exact this
  rw [e]
  simp [hb]
theorem keep_head (x : ByteArray) (h : x.size = 0 ∨ ∃ h : 0 < x.size, blankU x[0] = false) : x.data.toList.dropWhile blankU = x.data.toList := by
  rcases h with h | ⟨h, hb⟩
  · have : x.data.toList = [] := List.length_eq_zero_iff.1 (by simpa using h)
    rw [this]; rfl
  · have e : x.data.toList = x[0] :: x.data.toList.drop 1 := by
      have := List.drop_eq_getElem_cons (l := x.data.toList) (i := 0) (by simpa using h)
      rw [List.drop_zero] at this
      exact this
    rw [e]
    simp [hb]
theorem rev_last (x : ByteArray) (h : x.size - 1 < x.size) : x.data.toList.reverse = x[x.size - 1] :: (x.extract 0 (x.size - 1)).data.toList.reverse := by
  have e : x.data.toList = x.data.toList.take (x.size - 1) ++ [x[x.size - 1]] := by
    have := List.take_succ_eq_append_getElem (l := x.data.toList) (i := x.size - 1) (by simpa using h)
    rw [List.take_of_length_le (by simp; omega)] at this
    exact this
  rw [Lib.extract_data]
  simp only [List.drop_zero, Nat.sub_zero]
  rw [e]
  simp
theorem drop_last (x : ByteArray) (h : x.size - 1 < x.size) (hb : blankU x[x.size - 1] = true) :
    (x.extract 0 (x.size - 1)).data.toList.reverse.dropWhile blankU = x.data.toList.reverse.dropWhile blankU := by
  rw [rev_last x h]
  simp [hb]
theorem keep_last (x : ByteArray) (h : x.size = 0 ∨ ∃ h : x.size - 1 < x.size, blankU x[x.size - 1] = false) : x.data.toList.reverse.dropWhile blankU = x.data.toList.reverse := by
  rcases h with h | ⟨h, hb⟩
  · have : x.data.toList = [] := List.length_eq_zero_iff.1 (by simpa using h)
    rw [this]; rfl
  · rw [rev_last x h]
    simp [hb]

theorem isEmpty_size (s : ByteArray) : (!s.data.toList.isEmpty) = decide (0 < s.size) := by
  rw [Bool.eq_iff_iff]
  simp only [Bool.not_eq_true', decide_eq_true_eq, List.isEmpty_eq_false_iff_exists_mem]
  constructor
  · rintro ⟨c, hc⟩
    have : 0 < s.data.toList.length := List.length_pos_of_mem hc
    simpa using this
  · intro h
    exact ⟨s[0], List.mem_of_getElem? (get_of s 0 h)⟩
def badS : ByteArray := ⟨#[40, 41, 60, 62, 64, 44, 59, 58, 92, 34, 47, 91, 93, 63, 61, 123, 125]⟩
theorem badS_list : badS.data.toList = badT := rfl
theorem badS_size : badS.size = 17 := rfl
theorem tok_in (c : UInt8) (h1 : ¬ ((c.toNat : Int) ≤ 32)) (h2 : ¬ (127 ≤ (c.toNat : Int))) (h : badT.contains c = false) : tokU c = true := by
  unfold tokU
  rw [h]
  simp; omega
theorem tok_bad (c : UInt8) (h : badT.contains c = true) : tokU c = false := by
  unfold tokU
  rw [h]; simp
theorem tok_low (c : UInt8) (h : (c.toNat : Int) ≤ 32) : tokU c = false := tokU_no c (by omega)
theorem tok_high (c : UInt8) (h : 127 ≤ (c.toNat : Int)) : tokU c = false := tokU_no c (by omega)

end Go.Proofs.Ytcfdajaideidkaa
