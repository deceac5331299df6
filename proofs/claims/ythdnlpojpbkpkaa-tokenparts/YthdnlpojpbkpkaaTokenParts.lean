/- TokenParts: for every two texts a token has no blanks at its ends and is one when it is folded, and two texts that are not empty are a token together just if each is; the texts read as they did. No condition. -/
import Derived.Test.YthdnlpojpbkpkaaWordI
import Derived.Test.YthdnlpojpbkpkaaOpen
namespace Go.Proofs.Ythdnlpojpbkpkaa.tokenParts
open Go.ChangeShapes Go.WideShapes Go.ChangeAt Go.RowKit
open Go.ChangeMaps (open_string shut_string)
set_option linter.all false

theorem app_data (a b : ByteArray) : (a ++ b).data.toList = a.data.toList ++ b.data.toList := by
  rw [ByteArray.data_append, Array.toList_append]
theorem tok_blank (c : UInt8) (h : tokU c = true) : blankU c = false := by
  unfold tokU at h
  simp only [Bool.and_eq_true, decide_eq_true_eq] at h
  unfold blankU blankB
  have e3 : ((c.toNat : Int) == 32) = false := by rw [beq_eq_false_iff_ne]; omega
  have e4 : ((c.toNat : Int) == 9) = false := by rw [beq_eq_false_iff_ne]; omega
  rw [e3, e4]; rfl
theorem keep_all (l : List UInt8) (h : ∀ c ∈ l, tokU c = true) : l.dropWhile blankU = l := by
  cases l with
  | nil => rfl
  | cons c l => simp [tok_blank c (h c (by simp))]
theorem token_trim (l : List UInt8) (h : tokenL l = true) : trimL l = l := by
  unfold tokenL at h
  simp only [Bool.and_eq_true, List.all_eq_true] at h
  unfold trimL
  rw [keep_all l h.2, keep_all _ (fun c hc => h.2 c (by simpa using hc)), List.reverse_reverse]
theorem tok_all : ∀ n : Fin 256, tokU (UInt8.ofNat n.val) = true → tokU (foldU (UInt8.ofNat n.val)) = true := by decide +kernel
theorem tok_fold (c : UInt8) (h : tokU c = true) : tokU (foldU c) = true := by
  have := tok_all ⟨c.toNat, c.toNat_lt⟩
  simp only [UInt8.ofNat_toNat] at this
  exact this h
theorem token_fold (l : List UInt8) (h : tokenL l = true) : tokenL (foldL l) = true := by
  unfold tokenL at h ⊢
  simp only [Bool.and_eq_true, List.all_eq_true] at h ⊢
  refine ⟨?_, fun c hc => ?_⟩
  · cases l with
    | nil => simp at h
    | cons c l => simp [foldL]
  · unfold foldL at hc
    obtain ⟨d, hd, rfl⟩ := List.mem_map.1 hc
    exact tok_fold d (h.2 d hd)
theorem token_two (a b : List UInt8) (ha : a ≠ []) (hb : b ≠ []) : tokenL (a ++ b) = (tokenL a && tokenL b) := by
  unfold tokenL
  rw [List.all_append]
  cases a with
  | nil => exact absurd rfl ha
  | cons x a =>
    cases b with
    | nil => exact absurd rfl hb
    | cons y b => simp
theorem empty_of (s : ByteArray) (h : s.data.toList = []) : (s.toList == []) = true := by
  rw [Lib.toList_data, h]; rfl
theorem not_empty (s : ByteArray) (h : s.data.toList ≠ []) : s.toList.isEmpty = false := by
  rw [Lib.toList_data]
  cases e : s.data.toList with
  | nil => exact absurd e h
  | cons c l => rfl
theorem is_empty (s : ByteArray) (h : s.data.toList = []) : s.toList.isEmpty = true := by
  rw [Lib.toList_data, h]; rfl

set_option maxHeartbeats 1000000 in
theorem walk (s t : ByteArray) (w : World) (hs0 : s.size ≤ 140737488351232) (ht0 : t.size ≤ 140737488351232) :
    Calls Try.prog 7 #[.string s, .string t] w fun e w' => e = .returned (.bool true) ∧ Below w.heap.size w w' := by
  have hs : s.size ≤ maxLen := by unfold maxLen; omega
  have ht : t.size ≤ maxLen := by unfold maxLen; omega
  have hst : (s ++ t).size ≤ maxLen := by rw [ByteArray.size_append]; unfold maxLen; omega
  have hf : (txt (foldL s.data.toList)).size = s.size := by rw [txt_size]; simp [foldL]
  have HT := token_any s
  have HF := token_fold s.data.toList
  have HM := token_trim s.data.toList
  have HS : Hid (tokenL (s.data.toList ++ t.data.toList) = (tokenL s.data.toList && tokenL t.data.toList) ∨ s.data.toList = [] ∨ t.data.toList = []) := by
    by_cases h1 : s.data.toList = []
    · exact .inr (.inl h1)
    · by_cases h2 : t.data.toList = []
      · exact .inr (.inr h2)
      · exact .inl (token_two _ _ h1 h2)
  have HF' : Hid _ := HF
  have HM' : Hid _ := HM
  clear HT HF HM
  obtain ⟨a, ha⟩ : ∃ a, a = tokenL s.data.toList := ⟨_, rfl⟩
  obtain ⟨b, hb⟩ : ∃ b, b = tokenL t.data.toList := ⟨_, rfl⟩
  obtain ⟨ab, hab⟩ : ∃ ab, ab = tokenL (s.data.toList ++ t.data.toList) := ⟨_, rfl⟩
  rw [← ha, ← hb, ← hab] at HS
  rw [← ha] at HF' HM'
  have A1 : Hid (a = tokenL s.data.toList) := ha
  have B1 : Hid (b = tokenL t.data.toList) := hb
  have AB1 : Hid (ab = tokenL (s.data.toList ++ t.data.toList)) := hab
  clear ha hb hab
  cases a
  · have hend : Hid ((ab == (false && b)) = true ∨ s.toList.isEmpty = true ∨ t.toList.isEmpty = true) := by
      rcases HS.out with h | h | h
      · exact .inl (by rw [h]; simp)
      · exact .inr (.inl (is_empty _ h))
      · exact .inr (.inr (is_empty _ h))
    clear HS HF' HM'
    go_enter Try.func7, Try.ntmps7
    go_wp2_with fail
    refine (token_any _ _ hs).mono ?_
    rw [← A1.out]
    rintro e w1 ⟨rfl, rfl⟩
    go_wp2_with fail
    refine (token_any _ _ ht).mono ?_
    rw [← B1.out]
    rintro e w1 ⟨rfl, rfl⟩
    go_wp2_with fail
    refine (wordBegun_any _).mono ?_
    rintro e w2 ⟨rfl, hb2⟩
    go_wp2_with fail
    refine (token_any _ _ hst).mono ?_
    rw [app_data, ← AB1.out]
    rintro e w3 ⟨rfl, rfl⟩
    go_wp2_with fail
    all_goals go_ret
    · exact ⟨rfl, hb2⟩
    · refine ⟨ret_bool ?_, hb2⟩
      have h1 : ab = true := by assumption
      have h2 : ¬ s.toList = [] := by assumption
      rcases hend.out with h | h | h
      · rw [h1] at h; simp at h
      · rw [h]; rfl
      · rw [h]; simp
    · exact ⟨rfl, hb2⟩
  · have hend : Hid ((ab == (true && b)) = true ∨ s.toList.isEmpty = true ∨ t.toList.isEmpty = true) := by
      rcases HS.out with h | h | h
      · exact .inl (by rw [h]; simp)
      · exact .inr (.inl (is_empty _ h))
      · exact .inr (.inr (is_empty _ h))
    have HF2 : Hid (tokenL (foldL s.data.toList) = true) := HF'.out rfl
    have HM2 : Hid (trimL s.data.toList = s.data.toList) := HM'.out rfl
    clear HS HF' HM'
    go_enter Try.func7, Try.ntmps7
    go_wp2_with fail
    refine (token_any _ _ hs).mono ?_
    rw [← A1.out]
    rintro e w1 ⟨rfl, rfl⟩
    go_wp2_with fail
    refine (token_any _ _ ht).mono ?_
    rw [← B1.out]
    rintro e w1 ⟨rfl, rfl⟩
    go_wp2_with fail
    refine (wordBegun_any _).mono ?_
    rintro e w2 ⟨rfl, hb2⟩
    go_wp2_with fail
    refine (trim_any _ _ hs).mono ?_
    rw [HM2.out, txt_of]
    rintro e w3 ⟨rfl, rfl⟩
    go_wp2_with fail
    refine (fold_any _ _ hs).mono ?_
    rintro e w4 ⟨rfl, hb4⟩
    go_wp2_with fail
    refine (token_any _ _ (by omega)).mono ?_
    rw [txt_toList, HF2.out]
    rintro e w5 ⟨rfl, rfl⟩
    go_wp2_with fail
    refine (token_any _ _ hst).mono ?_
    rw [app_data, ← AB1.out]
    rintro e w6 ⟨rfl, rfl⟩
    go_wp2_with fail
    all_goals go_ret
    · exact ⟨rfl, next hb2 hb4⟩
    · exact ⟨rfl, next hb2 hb4⟩
    · refine ⟨ret_bool ?_, next hb2 hb4⟩
      rcases hend.out with h | h | h
      · rw [Bool.true_and] at h; rw [h]; rfl
      · rw [h]; simp
      · rw [h]; simp

set_option maxRecDepth 100000 in
theorem lifted (os : Os) (started : os.Started) (H : Type) (enc : TypeId × Value → H) :
    ReturnsInHanded {} Try.checked os 7 .any (Rows.tokenPartsSpec.pre6 enc Try.prog Try.f7 Rows.tokenPartsRow.domain false) (Rows.tokenPartsSpec.post enc Try.prog Try.f7 false true false false) := by
  refine returnsInHanded_of_change_sized (C := Try.checked) own started (by kernel_rfl) Try.func7
    (ChangeSpec.witness6 (enc := enc) (C := Try.checked) false ⟨#[], #[.string ByteArray.empty, .string ByteArray.empty], []⟩ 8 (by kernel_rfl) (by kernel_rfl) (by kernel_rfl) (by kernel_rfl)) ?_
  intro W base args ds gs before hval0 hW hcnd hsz0 _
  have hsz : (DataW.weightsEach Try.prog (Try.f7.params.toList ++ Rows.tokenPartsSpec.plain.varTypes Try.prog) (ds ++ gs)).all (· ≤ reachBytes) = true := hsz0
  have hval : ∀ (j : Nat) t v, Try.f7.params[j]? = some t → args[j]? = some v → Value.okWide Try.prog W .any base t v := hval0
  have hW' := hW
  obtain ⟨p, q, hA0, hV, rfl, hfz, hnd⟩ := hW
  have hA : DataW.TrodAll enc Try.prog W 0 (fun _ => true) true Try.f7.params.toList args.toList ds p := hA0
  rw [Try.params7] at hA hval hsz
  obtain ⟨v0, vs0, d0, ds0, p0, q0, hargs, rfl, rfl, h0, r0⟩ := trodAll_cons hA
  obtain ⟨v1, vs1, d1, ds1, p1, q1, rfl, rfl, rfl, h1, r1⟩ := trodAll_cons r0
  obtain ⟨rfl, rfl, rfl⟩ := trodAll_nil r1
  obtain rfl : args = #[v0, v1] := by cases args; simp_all
  obtain ⟨rfl, rfl⟩ := trodVars_none hV
  have k0 := h0
  have lt0 : ∀ x ∈ p0, x.block < W.heap.size := by obtain ⟨m, hm⟩ := k0; exact DataW.trod_lt m _ _ _ hm
  have k1 := h1
  have lt1 : ∀ x ∈ p1, x.block < W.heap.size := by obtain ⟨m, hm⟩ := k1; exact DataW.trod_lt m _ _ _ hm
  obtain ⟨a0, rfl, rfl, hp0, w0⟩ := open_string Try.underlying9 (hval 0 9 v0 rfl rfl) h0
  have z0 : a0.size ≤ 140737488351232 := sized_string hsz (j := 0) (t := 9) rfl rfl
  obtain ⟨a1, rfl, rfl, hp1, w1⟩ := open_string Try.underlying9 (hval 1 9 v1 rfl rfl) h1
  have z1 : a1.size ≤ 140737488351232 := sized_string hsz (j := 1) (t := 9) rfl rfl
  clear hA0 hval0
  refine (walk a0 a1 W z0 z1).mono fun e W' ⟨he, bel⟩ => ?_
  subst he
  exact ⟨_, rfl, _, _, _, [], _, [], hW', trodAll_mk1 (shut_bool Try.underlying4 _), (trodAll_cons_mk (Below.trod laidOut (by kernel_rfl) (of_decide_eq_true (by kernel_rfl)) k0 bel lt0) (trodAll_cons_mk (Below.trod laidOut (by kernel_rfl) (of_decide_eq_true (by kernel_rfl)) k1 bel lt1) trodAll_mk0)), rfl, bel.frame _, fun h => by cases h⟩

theorem proved : Rows.TokenPartsSaid :=
  OpenClaim.holds_of_wide 7 Try.f7 rfl rfl rfl rfl rfl rfl rfl ⟨rfl, rfl, rfl, rfl, rfl⟩ rfl rfl rfl rfl rfl (by kernel_rfl) Try.func7 (by kernel_rfl)
    (of_decide_eq_true (by kernel_rfl)) (by unfold Func.isWrapper; first | (rw [if_pos (by decide +kernel)]; kernel_rfl) | (rw [if_neg (by decide +kernel)]; exact ⟨rfl, rfl⟩))
    (fun os started H enc _ => lifted os started H enc)
#print axioms proved
end Go.Proofs.Ythdnlpojpbkpkaa.tokenParts
