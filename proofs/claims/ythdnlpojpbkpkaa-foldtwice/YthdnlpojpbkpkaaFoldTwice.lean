/- FoldTwice: for every two texts fold and trim done twice are done once, their order is no matter, and a fold of two texts is that of each; the texts read as they did. No condition. -/
import Derived.Test.YthdnlpojpbkpkaaWordI
import Derived.Test.YthdnlpojpbkpkaaOpen
namespace Go.Proofs.Ythdnlpojpbkpkaa.foldTwice
open Go.ChangeShapes Go.WideShapes Go.ChangeAt Go.RowKit
open Go.ChangeMaps (open_string shut_string)
set_option linter.all false

theorem foldU_twice (c : UInt8) : foldU (foldU c) = foldU c := by
  by_cases h : 65 ≤ (c.toNat : Int) ∧ (c.toNat : Int) ≤ 90
  · have h1 := foldU_yes c h.1 h.2
    exact foldU_no _ (by omega)
  · rw [foldU_no c h]; exact foldU_no c h
theorem foldL_twice (l : List UInt8) : foldL (foldL l) = foldL l := by
  unfold foldL; rw [List.map_map]
  apply List.map_congr_left
  intro c _; exact foldU_twice c
theorem blank_fold (c : UInt8) : blankU (foldU c) = blankU c := by
  by_cases h : 65 ≤ (c.toNat : Int) ∧ (c.toNat : Int) ≤ 90
  · have h1 := foldU_yes c h.1 h.2
    unfold blankU blankB
    have e1 : (((foldU c).toNat : Int) == 32) = false := by rw [beq_eq_false_iff_ne]; omega
    have e2 : (((foldU c).toNat : Int) == 9) = false := by rw [beq_eq_false_iff_ne]; omega
    have e3 : ((c.toNat : Int) == 32) = false := by rw [beq_eq_false_iff_ne]; omega
    have e4 : ((c.toNat : Int) == 9) = false := by rw [beq_eq_false_iff_ne]; omega
    rw [e1, e2, e3, e4]
  · rw [foldU_no c h]
theorem dropWhile_map (l : List UInt8) : (l.map foldU).dropWhile blankU = (l.dropWhile blankU).map foldU := by
  induction l with
  | nil => rfl
  | cons c l ih =>
    by_cases h : blankU c = true
    · have h2 : blankU (foldU c) = true := by rw [blank_fold]; exact h
      simp [h, h2, ih]
    · have h2 : ¬ blankU (foldU c) = true := by rw [blank_fold]; exact h
      simp [h, h2]
theorem trim_fold (l : List UInt8) : foldL (trimL l) = trimL (foldL l) := by
  unfold foldL trimL
  rw [dropWhile_map, ← List.map_reverse, dropWhile_map, List.map_reverse]
theorem dropWhile_twice (l : List UInt8) : (l.dropWhile blankU).dropWhile blankU = l.dropWhile blankU := by
  induction l with
  | nil => rfl
  | cons c l ih =>
    by_cases h : blankU c = true
    · simp [h, ih]
    · simp [h]
/-- behind a trim at the end, the head that is no blank stays -/
theorem head_stays (m : List UInt8) (h : m.dropWhile blankU = m) : (m.reverse.dropWhile blankU).reverse.dropWhile blankU = (m.reverse.dropWhile blankU).reverse := by
  cases m with
  | nil => rfl
  | cons c m =>
    have hc : ¬ blankU c = true := by
      intro hc
      rw [List.dropWhile_cons_of_pos hc] at h
      have := congrArg List.length h
      have h2 := (List.dropWhile_sublist blankU (l := m)).length_le
      simp at this; omega
    have e : ∃ k, ((c :: m).reverse.dropWhile blankU) = k ++ [c] := by
      rw [List.reverse_cons]
      generalize m.reverse = r
      induction r with
      | nil => exact ⟨[], by simp [hc]⟩
      | cons d r ih =>
        by_cases hd : blankU d = true
        · obtain ⟨k, hk⟩ := ih
          exact ⟨k, by rw [List.cons_append, List.dropWhile_cons_of_pos hd, hk]⟩
        · exact ⟨d :: r, by rw [List.cons_append, List.dropWhile_cons_of_neg hd]⟩
    obtain ⟨k, hk⟩ := e
    rw [hk, List.reverse_append]
    simp [hc]
theorem trim_twice (l : List UInt8) : trimL (trimL l) = trimL l := by
  unfold trimL
  rw [head_stays _ (dropWhile_twice l), List.reverse_reverse, dropWhile_twice]
theorem trim_len (l : List UInt8) : (trimL l).length ≤ l.length := by
  unfold trimL
  have h1 := (List.dropWhile_sublist blankU (l := l)).length_le
  have h2 := (List.dropWhile_sublist blankU (l := (l.dropWhile blankU).reverse)).length_le
  simp only [List.length_reverse] at h2 ⊢
  omega
theorem foldL_append (a b : List UInt8) : foldL (a ++ b) = foldL a ++ foldL b := by unfold foldL; exact List.map_append
theorem foldL_length (a : List UInt8) : (foldL a).length = a.length := by simp [foldL]
theorem app_data (a b : ByteArray) : (a ++ b).data.toList = a.data.toList ++ b.data.toList := by
  rw [ByteArray.data_append, Array.toList_append]

set_option maxHeartbeats 1000000 in
theorem walk (s t : ByteArray) (w : World) (hs0 : s.size ≤ 140737488351232) (ht0 : t.size ≤ 140737488351232) :
    Calls Try.prog 6 #[.string s, .string t] w fun e w' => e = .returned (.bool true) ∧ Below w.heap.size w w' := by
  have hs : s.size ≤ maxLen := by unfold maxLen; omega
  have ht : t.size ≤ maxLen := by unfold maxLen; omega
  have hst : (s ++ t).size ≤ maxLen := by rw [ByteArray.size_append]; unfold maxLen; omega
  have hf : (txt (foldL s.data.toList)).size = s.size := by rw [txt_size, foldL_length]; rfl
  have hft : (txt (foldL t.data.toList)).size = t.size := by rw [txt_size, foldL_length]; rfl
  have hm : (txt (trimL s.data.toList)).size ≤ s.size := by rw [txt_size]; exact trim_len _
  go_enter Try.func6, Try.ntmps6
  go_wp2_with fail
  refine (fold_any _ _ hs).mono ?_
  rintro e w1 ⟨rfl, hb1⟩
  go_wp2_with fail
  refine (trim_any _ _ hs).mono ?_
  rintro e w1 ⟨rfl, rfl⟩
  go_wp2_with fail
  refine (wordBegun_any _).mono ?_
  rintro e w2 ⟨rfl, hb2⟩
  go_wp2_with fail
  refine (fold_any _ _ (by omega)).mono ?_
  rw [txt_toList, foldL_twice]
  rintro e w3 ⟨rfl, hb3⟩
  go_wp2_with fail
  refine (trim_any _ _ (by omega)).mono ?_
  rw [txt_toList, trim_twice]
  rintro e w4 ⟨rfl, rfl⟩
  go_wp2_with fail
  refine (fold_any _ _ (by omega)).mono ?_
  rw [txt_toList, trim_fold]
  rintro e w5 ⟨rfl, hb5⟩
  go_wp2_with fail
  refine (trim_any _ _ (by omega)).mono ?_
  rw [txt_toList]
  rintro e w6 ⟨rfl, rfl⟩
  go_wp2_with fail
  refine (fold_any _ _ hst).mono ?_
  rw [app_data, foldL_append, ← txt_append]
  rintro e w7 ⟨rfl, hb7⟩
  go_wp2_with fail
  refine (fold_any _ _ ht).mono ?_
  rintro e w8 ⟨rfl, hb8⟩
  go_wp2_with fail
  go_ret
  exact ⟨rfl, next (next (next (next (next hb1 hb2) hb3) hb5) hb7) hb8⟩

set_option maxRecDepth 100000 in
theorem lifted (os : Os) (started : os.Started) (H : Type) (enc : TypeId × Value → H) :
    ReturnsInHanded {} Try.checked os 6 .any (Rows.foldTwiceSpec.pre6 enc Try.prog Try.f6 Rows.foldTwiceRow.domain false) (Rows.foldTwiceSpec.post enc Try.prog Try.f6 false true false false) := by
  refine returnsInHanded_of_change_sized (C := Try.checked) own started (by kernel_rfl) Try.func6
    (ChangeSpec.witness6 (enc := enc) (C := Try.checked) false ⟨#[], #[.string ByteArray.empty, .string ByteArray.empty], []⟩ 8 (by kernel_rfl) (by kernel_rfl) (by kernel_rfl) (by kernel_rfl)) ?_
  intro W base args ds gs before hval0 hW hcnd hsz0 _
  have hsz : (DataW.weightsEach Try.prog (Try.f6.params.toList ++ Rows.foldTwiceSpec.plain.varTypes Try.prog) (ds ++ gs)).all (· ≤ reachBytes) = true := hsz0
  have hval : ∀ (j : Nat) t v, Try.f6.params[j]? = some t → args[j]? = some v → Value.okWide Try.prog W .any base t v := hval0
  have hW' := hW
  obtain ⟨p, q, hA0, hV, rfl, hfz, hnd⟩ := hW
  have hA : DataW.TrodAll enc Try.prog W 0 (fun _ => true) true Try.f6.params.toList args.toList ds p := hA0
  rw [Try.params6] at hA hval hsz
  obtain ⟨v0, vs0, d0, ds0, p0, q0, hargs, rfl, rfl, h0, r0⟩ := trodAll_cons hA
  obtain ⟨v1, vs1, d1, ds1, p1, q1, rfl, rfl, rfl, h1, r1⟩ := trodAll_cons r0
  obtain ⟨rfl, rfl, rfl⟩ := trodAll_nil r1
  obtain rfl : args = #[v0, v1] := by cases args; simp_all
  obtain ⟨rfl, rfl⟩ := trodVars_none hV
  have k0 := h0
  have lt0 : ∀ x ∈ p0, x.block < W.heap.size := by obtain ⟨m, hm⟩ := k0; exact DataW.trod_lt m _ _ _ hm
  have k1 := h1
  have lt1 : ∀ x ∈ p1, x.block < W.heap.size := by obtain ⟨m, hm⟩ := k1; exact DataW.trod_lt m _ _ _ hm
  obtain ⟨a0, rfl, rfl, hp0, w0⟩ := open_string Try.underlying9 (hval 0 9 v0 rfl rfl) h0
  have z0 : a0.size ≤ 140737488351232 := sized_string hsz (j := 0) (t := 9) rfl rfl
  obtain ⟨a1, rfl, rfl, hp1, w1⟩ := open_string Try.underlying9 (hval 1 9 v1 rfl rfl) h1
  have z1 : a1.size ≤ 140737488351232 := sized_string hsz (j := 1) (t := 9) rfl rfl
  clear hA0 hval0
  refine (walk a0 a1 W z0 z1).mono fun e W' ⟨he, bel⟩ => ?_
  subst he
  exact ⟨_, rfl, _, _, _, [], _, [], hW', trodAll_mk1 (shut_bool Try.underlying4 _), (trodAll_cons_mk (Below.trod laidOut (by kernel_rfl) (of_decide_eq_true (by kernel_rfl)) k0 bel lt0) (trodAll_cons_mk (Below.trod laidOut (by kernel_rfl) (of_decide_eq_true (by kernel_rfl)) k1 bel lt1) trodAll_mk0)), rfl, bel.frame _, fun h => by cases h⟩

theorem proved : Rows.FoldTwiceSaid :=
  OpenClaim.holds_of_wide 6 Try.f6 rfl rfl rfl rfl rfl rfl rfl ⟨rfl, rfl, rfl, rfl, rfl⟩ rfl rfl rfl rfl rfl (by kernel_rfl) Try.func6 (by kernel_rfl)
    (of_decide_eq_true (by kernel_rfl)) (by unfold Func.isWrapper; first | (rw [if_pos (by decide +kernel)]; kernel_rfl) | (rw [if_neg (by decide +kernel)]; exact ⟨rfl, rfl⟩))
    (fun os started H enc _ => lifted os started H enc)
#print axioms proved
end Go.Proofs.Ythdnlpojpbkpkaa.foldTwice
