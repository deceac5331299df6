/- What is sent, read: the plain functions, and the contracts of pair and Read. -/
import Derived.Test.YtoppjfambomdmaaWordH
import Derived.Test.YtoppjfambomdmaaKit4
import Derived.Test.YtoppjfambomdmaaWho
import Derived.Test.YtoppjfambomdmaaShelf
namespace Go.Proofs.Ytoppjfambomdmaa
open Go.RowKit
set_option linter.all false
set_option maxRecDepth 100000

abbrev Pr := List UInt8 × List UInt8
def prF (a : Pr) : List Value := [.string (txt a.1), .string (txt a.2)]
/-- a text without that beginning -/
def lessP (s p : List UInt8) : List UInt8 := Lib.trimPrefix s p
def prOk (p : List UInt8) : Bool := Lib.hasPrefix p [32] && (hasB (lessP p [32]) 61 && !(cutA (lessP p [32]) 61 == []))
def prV (p : List UInt8) : Pr := (cutA (lessP p [32]) 61, cutB (lessP p [32]) 61)
theorem lessP_len (s p : List UInt8) : (lessP s p).length ≤ s.length := by
  unfold lessP Lib.trimPrefix
  split
  · rw [List.length_drop]; omega
  · exact Nat.le_refl _
/-- the parts of a text that was sent, a blank ahead of it -/
def lparts (s : List UInt8) : List (List UInt8) := partsL (32 :: s) 59
def readsE (s : List UInt8) : Int := if 8000 < s.length then 2 else if s = [] then 0 else if (lparts s).all prOk then 0 else 1
def readsL (s : List UInt8) : List Pr := if 8000 < s.length then [] else if s = [] then [] else if (lparts s).all prOk then (lparts s).map prV else []
theorem nil_tt (n : List UInt8) (h : n = []) : ((txt n).toList == []) = true := by subst h; rw [Lib.toList_data]; rfl
theorem nil_ff (n : List UInt8) (h : ¬ n = []) : ((txt n).toList == []) = false := by
  rw [beq_eq_false_iff_ne, Lib.toList_data]; exact h
theorem cutPre (s : ByteArray) (w : World) : Calls Try.prog 28 #[.string s, .string ⟨#[32]⟩] w fun e w' =>
    e = .returned (.tuple #[.string (txt (lessP s.data.toList [32])), .bool (Lib.hasPrefix s.data.toList [32])]) ∧ w' = w := Try.strings_CutPrefix s ⟨#[32]⟩ w
set_option maxHeartbeats 1000000 in
theorem lpair_any (s : ByteArray) (w : World) (hs : s.size ≤ maxLen) : Calls Try.prog 18 #[.string s] w fun e w' =>
    e = .returned (.tuple #[.agg (if prOk s.data.toList then (prF (prV s.data.toList)).toArray else (prF ([], [])).toArray), .bool (prOk s.data.toList)]) ∧ Below w.heap.size w w' := by
  obtain ⟨p, rfl⟩ : ∃ p, s = txt p := ⟨s.data.toList, rfl⟩
  rw [txt_toList]
  have HS : Hid _ := hs
  have HL : Hid ((txt (lessP p [32])).size ≤ maxLen) := Nat.le_trans (lessP_len p [32]) hs
  obtain ⟨q, hq⟩ : ∃ q, q = lessP p [32] := ⟨_, rfl⟩
  obtain ⟨b1, h1⟩ : ∃ b, b = Lib.hasPrefix p [32] := ⟨_, rfl⟩
  obtain ⟨b2, h2⟩ : ∃ b, b = hasB q 61 := ⟨_, rfl⟩
  obtain ⟨n, hn⟩ : ∃ n, n = cutA q 61 := ⟨_, rfl⟩
  obtain ⟨v, hv⟩ : ∃ n, n = cutB q 61 := ⟨_, rfl⟩
  obtain ⟨ok, hok⟩ : ∃ o, o = prOk p := ⟨_, rfl⟩
  have HOK : Hid (ok = (b1 && (b2 && !(n == [])))) := by show _ = _; rw [hok, h1, h2, hn, hq]; rfl
  have HV : Hid (prV p = (n, v)) := by show _ = _; rw [hn, hv, hq]; rfl
  rw [← hok, HV.out]
  have HQ : Hid _ := hq
  have H1 : Hid _ := h1
  have H2 : Hid _ := h2
  have HN : Hid _ := hn
  have HVV : Hid _ := hv
  rw [← hq] at HL
  clear hs hq h1 h2 hn hv hok
  cases b1
  · have ho : ok = false := by rw [HOK.out]; rfl
    subst ho
    go_enter Try.func18, Try.ntmps18
    go_wp2_with fail
    refine (cutPre (txt p) _).mono ?_
    rw [txt_toList, ← HQ.out, ← H1.out]
    rintro e w1 ⟨rfl, hw1⟩
    rw [hw1]
    clear hw1 w1
    go_wp2_with fail
    refine (cut_any (txt q) 61 _ HL.out).mono ?_
    rw [txt_toList, ← H2.out, ← HN.out, ← HVV.out]
    rintro e w1 ⟨rfl, t, hw1⟩
    rw [hw1]
    clear hw1 w1
    go_wp2_with fail
    exact bodyPost_ret (v := .tuple #[.agg (prF ([], [])).toArray, .bool false]) (by simp [results, Try.results18, go_sem, prF]; rfl) rfl ⟨rfl, ((((Below.refl _ _).alloc (Nat.le_refl _) _).trans (below_drewN' _ _ _)).setCell (Nat.le_refl _) _).setCell (Nat.le_refl _) _⟩
  cases b2
  · have ho : ok = false := by rw [HOK.out]; rfl
    subst ho
    go_enter Try.func18, Try.ntmps18
    go_wp2_with fail
    refine (cutPre (txt p) _).mono ?_
    rw [txt_toList, ← HQ.out, ← H1.out]
    rintro e w1 ⟨rfl, hw1⟩
    rw [hw1]
    clear hw1 w1
    go_wp2_with fail
    refine (cut_any (txt q) 61 _ HL.out).mono ?_
    rw [txt_toList, ← H2.out, ← HN.out, ← HVV.out]
    rintro e w1 ⟨rfl, t, hw1⟩
    rw [hw1]
    clear hw1 w1
    go_wp2_with fail
    exact bodyPost_ret (v := .tuple #[.agg (prF ([], [])).toArray, .bool false]) (by simp [results, Try.results18, go_sem, prF]; rfl) rfl ⟨rfl, ((((Below.refl _ _).alloc (Nat.le_refl _) _).trans (below_drewN' _ _ _)).setCell (Nat.le_refl _) _).setCell (Nat.le_refl _) _⟩
  by_cases h0 : n = []
  · have ho : ok = false := by rw [HOK.out, h0]; rfl
    subst ho
    have hne := nil_tt n h0
    clear h0
    go_enter Try.func18, Try.ntmps18
    go_wp2_with fail
    refine (cutPre (txt p) _).mono ?_
    rw [txt_toList, ← HQ.out, ← H1.out]
    rintro e w1 ⟨rfl, hw1⟩
    rw [hw1]
    clear hw1 w1
    go_wp2_with fail
    refine (cut_any (txt q) 61 _ HL.out).mono ?_
    rw [txt_toList, ← H2.out, ← HN.out, ← HVV.out]
    rintro e w1 ⟨rfl, t, hw1⟩
    rw [hw1]
    clear hw1 w1
    go_wp2_with fail
    exact bodyPost_ret (v := .tuple #[.agg (prF ([], [])).toArray, .bool false]) (by simp [results, Try.results18, go_sem, prF]; rfl) rfl ⟨rfl, ((((Below.refl _ _).alloc (Nat.le_refl _) _).trans (below_drewN' _ _ _)).setCell (Nat.le_refl _) _).setCell (Nat.le_refl _) _⟩
  · have ho : ok = true := by rw [HOK.out, show (n == []) = false from by rw [beq_eq_false_iff_ne]; exact h0]; rfl
    subst ho
    have hne := nil_ff n h0
    clear h0
    go_enter Try.func18, Try.ntmps18
    go_wp2_with fail
    refine (cutPre (txt p) _).mono ?_
    rw [txt_toList, ← HQ.out, ← H1.out]
    rintro e w1 ⟨rfl, hw1⟩
    rw [hw1]
    clear hw1 w1
    go_wp2_with fail
    refine (cut_any (txt q) 61 _ HL.out).mono ?_
    rw [txt_toList, ← H2.out, ← HN.out, ← HVV.out]
    rintro e w1 ⟨rfl, t, hw1⟩
    rw [hw1]
    clear hw1 w1
    go_wp2_with fail
    exact bodyPost_ret (v := .tuple #[.agg (prF (n, v)).toArray, .bool true]) (by simp [results, Try.results18, go_sem, prF]) rfl ⟨rfl, ((((Below.refl _ _).alloc (Nat.le_refl _) _).trans (below_drewN' _ _ _)).setCell (Nat.le_refl _) _).setCell (Nat.le_refl _) _⟩
end Go.Proofs.Ytoppjfambomdmaa
