/- Contracts of a host's ups: the program's and the reference's. -/
import Derived.Test.YtgjjkieljdamfafDoorHostC
namespace Go.Proofs.YtgjjkieljdamfafDoor
open Go.RowKit
set_option linter.all false
set_option maxRecDepth 100000

theorem tails_append (x y : List UInt8) (h : ∀ c ∈ x, c ≠ 46) : tailsL (x ++ y) = tailsL y := by
  induction x with
  | nil => rfl
  | cons c x ih =>
    have hc := h c (by simp)
    rw [List.cons_append]
    show (if c = 46 then _ else _) = _
    rw [if_neg hc]
    exact ih (fun d hd => h d (by simp [hd]))
theorem tails_none (y : List UInt8) (h : ∀ c ∈ y, c ≠ 46) : tailsL y = [] := by
  have := tails_append y [] h
  rw [List.append_nil] at this
  exact this
/-- the first of them, and those of that -/
theorem tails_cut (l : List UInt8) : tailsL l = if hasB l 46 then cutB l 46 :: tailsL (cutB l 46) else [] := by
  have hge := Lib.indexByte_ge l 46
  by_cases hn : Lib.indexByte l 46 = -1
  · obtain ⟨e1, e2, e3⟩ := cut_none _ _ hn
    rw [e3]
    simp only [Bool.false_eq_true, if_false]
    refine tails_none _ (fun c hc => ?_)
    intro e; subst e
    unfold hasB at e3
    rw [← Bool.not_eq_true, List.contains_iff_mem] at e3
    exact e3 hc
  · obtain ⟨o, ho⟩ : ∃ o : Nat, Lib.indexByte l 46 = o := ⟨(Lib.indexByte l 46).toNat, by omega⟩
    obtain ⟨e1, e2, e3, e4⟩ := cut_some _ _ _ ho
    obtain ⟨hg, hp⟩ := Lib.indexByte_some ho
    rw [e2, e3, if_pos rfl]
    have e : l = l.take o ++ 46 :: l.drop (o + 1) := by
      have h1 := List.take_append_drop o l
      have h2 := List.drop_eq_getElem_cons e4
      rw [h2] at h1
      have h3 := (List.getElem?_eq_some_iff.1 hg).2
      rw [h3] at h1
      exact h1.symm
    conv => lhs; rw [e]
    rw [tails_append]
    · rfl
    · intro c hc
      obtain ⟨j, hj⟩ := List.getElem?_of_mem hc
      have hj2 := (List.getElem?_eq_some_iff.1 hj).1
      rw [List.length_take] at hj2
      rw [List.getElem?_take_of_lt (by omega)] at hj
      intro e'; subst e'
      exact hp j (by omega) hj
theorem tails_len (l : List UInt8) : (tailsL l).length ≤ l.length := by
  induction l with
  | nil => exact Nat.le_refl _
  | cons c l ih =>
    show (if c = 46 then _ else _ : List (List UInt8)).length ≤ _
    by_cases h : c = 46
    · rw [if_pos h]; simp; exact ih
    · rw [if_neg h]; simp; omega
/-- those behind the bytes 46 among the first k bytes -/
def tailsTo (s : ByteArray) : Nat → List (List UInt8)
  | 0 => []
  | k + 1 => if s.data.toList[k]? = some 46 then tailsTo s k ++ [(s.extract (k + 1) s.size).data.toList] else tailsTo s k
theorem tailsTo_yes (s : ByteArray) (k : Nat) (hk : k < s.size) (h : s[k] = 46) : tailsTo s (k + 1) = tailsTo s k ++ [(s.extract (k + 1) s.size).data.toList] := if_pos (by rw [get_of s k hk, h])
theorem tailsTo_no (s : ByteArray) (k : Nat) (hk : k < s.size) (h : ¬ s[k] = 46) : tailsTo s (k + 1) = tailsTo s k := if_neg (by rw [get_of s k hk]; intro e; injection e with e; exact h e)
theorem tailsTo_len (s : ByteArray) (k : Nat) : (tailsTo s k).length ≤ k := by
  induction k with
  | zero => exact Nat.le_refl _
  | succ k ih =>
    show (if _ then _ else _ : List (List UInt8)).length ≤ _
    by_cases h : s.data.toList[k]? = some 46
    · rw [if_pos h]; simp; exact ih
    · rw [if_neg h]; omega
theorem tailsTo_step (s : ByteArray) (k : Nat) (hk : k ≤ s.size) : tailsTo s k ++ tailsL (s.data.toList.drop k) = tailsL s.data.toList := by
  induction k with
  | zero => rfl
  | succ k ih =>
    have ih := ih (by omega)
    have hlt : k < s.data.toList.length := by show k < s.size; omega
    rw [List.drop_eq_getElem_cons hlt] at ih
    by_cases h : s[k]'hk = 46
    · rw [tailsTo_yes s k hk h, List.append_assoc, Lib.extract_to_end, ← ih]
      congr 1
      show _ = (if _ then _ else _)
      rw [if_pos (by exact h)]; rfl
    · rw [tailsTo_no s k hk h, ← ih]
      congr 1
      show _ = (if _ then _ else _)
      rw [if_neg (by exact h)]
theorem tailsTo_all (s : ByteArray) (k : Nat) (hk : k = s.size) : tailsTo s k = tailsL s.data.toList := by
  have h := tailsTo_step s k (by omega)
  rw [List.drop_eq_nil_of_le (by show s.size ≤ k; omega)] at h
  rw [← h]
  simp [tailsL]
/-- what is still to come -/
def moreL (m : Bool) (r : List UInt8) : List (List UInt8) := if m then r :: tailsL r else []
theorem tails_more (l : List UInt8) : tailsL l = moreL (hasB l 46) (cutB l 46) := by
  rw [tails_cut]; unfold moreL; rfl
set_option maxHeartbeats 1000000 in
theorem ups_any (h : ByteArray) (w : World) (hh : (h.size + 1) * 16 ≤ 140737488355328) :
    Calls Tryd.prog 82 #[.string h] w fun e w' => ∃ v, e = .returned v ∧ w'.ownsRow w.heap.size 9 1 v (upsL h.data.toList).length (strs (upsL h.data.toList)) ∧ Below w.heap.size w w' := by
  have HH : Hid (h.size ≤ maxLen) := by unfold maxLen; show _ ≤ _; omega
  obtain ⟨i0, hi, hz0, hz1, hz2⟩ := info_parts info_str
  have htl : (tailsL h.data.toList).length ≤ h.size := tails_len h.data.toList
  by_cases h1 : 1 ≤ h.size
  · have hne := ne_nil h h1
    have hnl : h.data.toList ≠ [] := fun e => by
      have : h.data.toList.length = 0 := by rw [e]; rfl
      have h2 : h.data.toList.length = h.size := rfl
      omega
    have HU : Hid (upsL h.data.toList = if addrL h.data.toList then [h.data.toList] else h.data.toList :: tailsL h.data.toList) := if_neg hnl
    clear hnl
    have own0 : (w.alloc (.cells #[.string h] 9)).ownsRow w.heap.size 9 1 (.slice (some ⟨w.heap.size, 0, none⟩) 1 1) 1 (strs [h.data.toList]) := World.ownsRow_lit w #[.string h] 1 (Nat.le_refl _) (by decide) rfl
    have hb0 : Below w.heap.size w (w.alloc (.cells #[.string h] 9)) := (Below.refl _ _).alloc (Nat.le_refl _) _
    go_enter Tryd.func82, Tryd.ntmps82
    go_wp2_with fail
    refine (address_any _ _ HH.out).mono ?_
    rintro e w1 ⟨rfl, hb1⟩
    have own1 := own_below own0 hb1 (Nat.le_refl _)
    have hb2 : Below w.heap.size w w1 := next hb0 hb1
    clear own0 hb0 hb1
    cases ha : addrL h.data.toList
    · rw [ha] at HU
      go_wp2_with fail
      refine (cut_any h 46 _ HH.out).mono ?_
      rintro e w2 ⟨rfl, n2, rfl⟩
      go_wp2_with fail
      have own2 : (w1.drewN n2).ownsRow w.heap.size 9 1 (.slice (some ⟨w.heap.size, 0, none⟩) 1 1) 1 (strs [h.data.toList]) := own1
      have hb3 : Below w.heap.size w (w1.drewN n2) := next hb2 (below_drewN' _ _ _)
      clear own1 hb2
      go_loopw [3, 5, 6] (fun o rv mv wr => ∃ (pre : List (List UInt8)) (r : List UInt8) (m : Bool), rv = .string (txt r) ∧ mv = .bool m ∧ r.length ≤ h.size ∧ Hid (tailsL h.data.toList = pre ++ moreL m r) ∧
        wr.ownsRow w.heap.size 9 1 o (pre.length + 1) (strs (h.data.toList :: pre)) ∧ Below w.heap.size w wr) (fun _ rv mv _ => moreOf mv rv)
      case atStart => exact ⟨[], _, _, rfl, rfl, (cutB_len _ _).1, (tails_more _).trans (by simp), own2, hb3⟩
      case round =>
        obtain ⟨pre, r, m, rfl, rfl, hr, hp, hown, hb⟩ := hrel
        cases m
        · go_wp2_with fail
          go_ret
          refine ⟨_, rfl, ?_, hb⟩
          have e : tailsL h.data.toList = pre := by rw [hp.out]; simp [moreL]
          rw [HU.out, e]
          exact hown
        · have hlp : pre.length + 1 ≤ h.size := by
            have := htl
            rw [hp.out] at this
            simp [moreL] at this
            omega
          have hsr : Hid ((txt r).size ≤ maxLen) := by have := HH.out; show r.length ≤ maxLen; omega
          go_wp2_with (at_builtin; refine wpList_append_own _ rfl _ _ 81 rfl w.heap.size 9 i0 (.string ⟨#[]⟩) 1 16 Tryd.underlying81 hi hz0 hz1 hz2 rfl (by decide) _ _ _ rfl (hown.alloc _) ⟨wr.heap.size, 0, none⟩ 1 1 [.string (txt r)] rfl rfl (cell_one_new _ _ _) (by simp [Value.oneCell']) (by unfold maxLen; omega) (by omega) (by have := hb.size; simp; omega) ?_)
          intro v1 w4 hown1 hg1 _
          have hb4 : Below w.heap.size w (wr.alloc (.cells #[.string (txt r)] 9)) := hb.alloc hb.size _
          have hb5 := hb4.grown hg1 hb4.size (fun q e => (hown.lt q e).1)
          have hown2 : w4.ownsRow w.heap.size 9 1 v1 ((pre ++ [r]).length + 1) (strs (h.data.toList :: (pre ++ [r]))) := by
            rw [List.length_append, ← List.cons_append, strs_append]; exact hown1
          clear hown hown1 hg1 hb4
          go_wp2_with fail
          refine (cut_any (txt r) 46 _ hsr.out).mono ?_
          rintro e w5 ⟨rfl, n5, rfl⟩
          go_wp2_with fail
          go_roundw
          case rel =>
            refine ⟨pre ++ [r], _, _, rfl, rfl, Nat.le_trans (cutB_len _ _).1 hr, ?_, hown2, next hb5 (below_drewN' _ _ _)⟩
            show _ = _
            rw [hp.out]
            show pre ++ (r :: tailsL r) = _
            rw [tails_more r]
            simp
            rfl
          case measure => exact moreOf_lt r 46
    · rw [ha] at HU
      go_wp2_with fail
      go_ret
      refine ⟨_, rfl, ?_, hb2⟩
      rw [HU.out]
      exact own1
  · have HU : Hid (upsL h.data.toList = []) := by
      rw [size_nil h h1]; exact if_pos rfl
    obtain rfl := size_nil h h1
    go_enter Tryd.func82, Tryd.ntmps82
    go_wp2_with fail
    go_ret
    refine ⟨_, rfl, ?_, Below.refl _ _⟩
    rw [HU.out]
    exact World.ownsRow_nil _ _ _ _
end Go.Proofs.YtgjjkieljdamfafDoor
