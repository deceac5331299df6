/- Contracts of addresses and matches: the program's and the reference's. -/
import Derived.Test.YtgjjkieljdamfafDoorHostB
namespace Go.Proofs.YtgjjkieljdamfafDoor
open Go.RowKit
set_option linter.all false
set_option maxRecDepth 100000

theorem lead_all (x : List UInt8) : (leadK x = x.length) ↔ allB digU x = true := by
  unfold leadK leadL allB
  induction x with
  | nil => simp
  | cons c x ih =>
    by_cases h : digU c = true
    · rw [List.takeWhile_cons_of_pos h]
      simp [h]
      simpa using ih
    · rw [List.takeWhile_cons_of_neg h]
      simp [h]
theorem lead_num (x : List UInt8) (h : allB digU x = true) (h3 : x.length ≤ 3) : leadN x = numL x := by
  have e : leadL x = x := by
    unfold leadL
    have : ∀ c ∈ x, digU c = true := List.all_eq_true.1 h
    have hh := while_at digU x x.length (Nat.le_refl _) (fun k c hk _ => this c (List.mem_of_getElem? hk)) (fun c hc => by simp at hc)
    rw [hh.1, List.take_length]
  unfold leadN
  rw [e, List.take_of_length_le (by omega)]
theorem leadK_le (x : List UInt8) : leadK x ≤ x.length := by
  unfold leadK leadL
  exact (List.takeWhile_sublist digU (l := x)).length_le
/-- a number of a byte, by its digits -/
theorem octet_lead (s : ByteArray) : octetL s.data.toList = true ↔ 1 ≤ leadK s.data.toList ∧ leadK s.data.toList ≤ 3 ∧ leadK s.data.toList = s.size ∧ leadN s.data.toList ≤ 255 ∧
    (1 < s.size → ∀ h : 0 < s.size, (s[0].toNat : Int) ≠ 48) := by
  have hl : s.data.toList.length = s.size := rfl
  have ha := lead_all s.data.toList
  rw [hl] at ha
  constructor
  · intro h
    have hsz : 1 ≤ s.size ∧ s.size ≤ 3 := by
      rcases Decidable.em (1 ≤ s.size ∧ s.size ≤ 3) with h' | h'
      · exact h'
      · rw [octet_no1 s h'] at h; cases h
    have hall : allB digU s.data.toList = true := by
      cases h' : allB digU s.data.toList
      · rw [octet_no3 s h'] at h; cases h
      · rfl
    have h0 : 1 < s.size → ∀ h : 0 < s.size, (s[0].toNat : Int) ≠ 48 := fun h1 hz e => by rw [octet_no2 s h1 e] at h; cases h
    have hn := octet_yes s hsz.1 hsz.2 (fun h1 => h0 h1 _) hall
    rw [h] at hn
    have hn2 := of_decide_eq_true hn.symm
    rw [← lead_num _ hall hsz.2] at hn2
    have := ha.2 hall
    exact ⟨by omega, by omega, this, hn2, h0⟩
  · rintro ⟨h1, h2, h3, h4, h5⟩
    have hall := ha.1 h3
    rw [octet_yes s (by omega) (by omega) (fun h => h5 h _) hall]
    rw [lead_num _ hall (by omega)] at h4
    exact decide_eq_true h4
set_option maxHeartbeats 1000000 in
theorem sufl_any (s p : ByteArray) (w : World) (hs : s.size ≤ maxLen) :
    Calls Tryd.prog 86 #[.string s, .string p] w fun e w' => e = .returned (.bool (Lib.hasSuffix s.data.toList p.data.toList)) ∧ w' = w := by
  unfold maxLen at hs
  have HR : Hid _ := Lib.hasSuffix_raw s p
  by_cases h : p.size ≤ s.size
  · have e1 : ((s.size : Int) - (p.size : Int)).toNat = s.size - p.size := by omega
    go_enter Tryd.func86, Tryd.ntmps86
    go_wp2
    go_ret
    refine ⟨?_, rfl⟩
    rw [← HR.out]
    simp [h]
  · go_enter Tryd.func86, Tryd.ntmps86
    go_wp2
    go_ret
    refine ⟨?_, rfl⟩
    rw [← HR.out]
    simp [h]
set_option maxHeartbeats 1000000 in
theorem suf_any (s p : ByteArray) (w : World) (hs : s.size ≤ maxLen) :
    Calls Tryd.prog 66 #[.string s, .string p] w fun e w' => e = .returned (.bool (Lib.hasSuffix s.data.toList p.data.toList)) ∧ w' = w := by
  go_enter Tryd.func66, Tryd.ntmps66
  go_wp2_with fail
  refine (sufl_any _ _ _ hs).mono ?_
  rintro e w' ⟨rfl, rfl⟩
  go_wp2_with fail
  go_ret
  exact ⟨rfl, rfl⟩
theorem eq_list (a b : ByteArray) : (a.toList == b.toList) = (a.data.toList == b.data.toList) := by rw [Lib.toList_data, Lib.toList_data]
set_option maxHeartbeats 1000000 in
theorem match_any (h d : ByteArray) (w : World) (hh : h.size ≤ maxLen) (hd : d.size < maxLen) :
    Calls Tryd.prog 38 #[.string h, .string d] w fun e w' => e = .returned (.bool (matchL h.data.toList d.data.toList)) ∧ Below w.heap.size w w' := by
  have HH : Hid _ := hh
  unfold maxLen at hd hh
  cases h1 : (h.data.toList == d.data.toList)
  · have HM : Hid (matchL h.data.toList d.data.toList = (Lib.hasSuffix h.data.toList (46 :: d.data.toList) && !addrL h.data.toList)) := by
      show (_ || _) = _
      rw [h1]; rfl
    have h1b : (h.toList == d.toList) = false := (eq_list h d).trans h1
    clear h1
    have hz : ({ data := #[46] } : ByteArray).size = 1 := rfl
    have HD : Hid (({ data := #[46] } ++ d : ByteArray).data.toList = 46 :: d.data.toList) := by
      show _ = _
      rw [ByteArray.data_append, Array.toList_append]; rfl
    cases h2 : Lib.hasSuffix h.data.toList (46 :: d.data.toList)
    · have H2 : Hid _ := h2
      clear h2
      go_enter Tryd.func38, Tryd.ntmps38
      go_wp2_with fail
      refine (suf_any _ _ _ HH.out).mono ?_
      rw [HD.out, H2.out]
      rintro e w1 ⟨rfl, rfl⟩
      go_wp2_with fail
      go_ret
      refine ⟨?_, Below.refl _ _⟩
      rw [HM.out, H2.out]; rfl
    · have H2 : Hid _ := h2
      clear h2
      go_enter Tryd.func38, Tryd.ntmps38
      go_wp2_with fail
      refine (suf_any _ _ _ HH.out).mono ?_
      rw [HD.out, H2.out]
      rintro e w1 ⟨rfl, rfl⟩
      go_wp2_with fail
      refine (address_any _ _ HH.out).mono ?_
      rintro e w2 ⟨rfl, hb2⟩
      go_wp2_with fail
      go_ret
      refine ⟨?_, hb2⟩
      rw [HM.out, H2.out]; rfl
  · have HM : Hid (matchL h.data.toList d.data.toList = true) := by
      show (_ || _) = _
      rw [h1]; rfl
    have h1b : (h.toList == d.toList) = true := (eq_list h d).trans h1
    clear h1
    go_enter Tryd.func38, Tryd.ntmps38
    go_wp2_with fail
    go_ret
    refine ⟨?_, Below.refl _ _⟩
    rw [HM.out]; rfl
theorem eq46 (c : UInt8) : (c == 46) = true ↔ (c.toNat : Int) = 46 := by
  rw [beq_iff_eq, eqc]
  have : (46 : UInt8).toNat = 46 := rfl
  omega
theorem suf_drop (h d : List UInt8) (x : UInt8) (n : Nat) (hn : h.length = n + 1 + d.length) (hd : h.drop (n + 1) = d) : Lib.hasSuffix h (x :: d) = (h[n]? == some x) := by
  rw [← Lib.hasSuffix_of_drop]
  have e : h.length - (x :: d).length = n := by rw [List.length_cons]; omega
  rw [e, List.length_cons, decide_eq_true (by omega), Bool.true_and]
  have hlt : n < h.length := by omega
  rw [List.drop_eq_getElem_cons hlt, hd, List.getElem?_eq_getElem hlt]
  rw [Bool.eq_iff_iff]
  simp
theorem suf_not (h d : List UInt8) (x : UInt8) (hd : h.drop (h.length - d.length) ≠ d) : Lib.hasSuffix h (x :: d) = false := by
  rw [← Bool.not_eq_true, ← Lib.hasSuffix_of_drop, Bool.and_eq_true, decide_eq_true_eq, beq_iff_eq]
  rintro ⟨h1, h2⟩
  apply hd
  rw [List.length_cons] at h1 h2
  have : h.drop (h.length - d.length) = (h.drop (h.length - (d.length + 1))).drop 1 := by
    rw [List.drop_drop]; congr 1; omega
  rw [this, h2]; rfl
theorem suf_len (h d : List UInt8) (x : UInt8) (hl : ¬ d.length < h.length) : Lib.hasSuffix h (x :: d) = false := by
  rw [← Lib.hasSuffix_of_drop]
  rw [decide_eq_false (by rw [List.length_cons]; omega)]; rfl
theorem beq_len (h d : List UInt8) (hl : h.length ≠ d.length) : (h == d) = false := by
  rw [beq_eq_false_iff_ne]; intro e; exact hl (by rw [e])
end Go.Proofs.YtgjjkieljdamfafDoor
