/- HostTwice: for every text a host as it is compared is its own, and two that differ by great letters alone are one; the text reads as it did. No condition. -/
import Derived.Test.YtlabffopbambjacHostE
import Derived.Test.YtlabffopbambjacOpen
namespace Go.Proofs.Ytlabffopbambjac.hostTwice
open Go.ChangeShapes Go.WideShapes Go.ChangeAt Go.RowKit
open Go.ChangeMaps (open_string shut_string)
set_option linter.all false

theorem fold_len (l : List UInt8) : (foldL l).length = l.length := by simp [foldL]
theorem canonE_fold (l : List UInt8) : canonE (foldL l) = canonE l := by
  unfold canonE; rw [fold_len, hostL_twice]
theorem canonL_fold (l : List UInt8) : canonL (foldL l) = canonL l := by
  unfold canonL; rw [fold_len, hostL_twice, foldL_twice']
theorem canon_ok (l : List UInt8) (h : canonE l = 0) : canonL l = foldL l := by
  unfold canonE at h
  unfold canonL
  by_cases h1 : l.length ≤ 253
  · rw [if_pos h1] at h ⊢
    cases h2 : hostL l
    · rw [h2] at h; simp at h
    · rfl
  · rw [if_neg h1] at h; cases h
theorem canon_bad (l : List UInt8) (h : canonE l ≠ 0) : canonL l = [] := by
  unfold canonE at h
  unfold canonL
  by_cases h1 : l.length ≤ 253
  · rw [if_pos h1] at h ⊢
    cases h2 : hostL l
    · rfl
    · rw [h2] at h; simp at h
  · rw [if_neg h1]
set_option maxHeartbeats 1000000 in
theorem walk (s : ByteArray) (w : World) (hs0 : s.size ≤ 140737488351232) :
    Calls Try.prog 4 #[.string s] w fun e w' => e = .returned (.bool true) ∧ Below w.heap.size w w' := by
  have HS : Hid (s.size ≤ maxLen) := by unfold maxLen; show _ ≤ _; omega
  have hf : (txt (foldL s.data.toList)).size = s.size := by rw [txt_size, fold_len]; rfl
  have HF : Hid ((txt (foldL s.data.toList)).size ≤ maxLen) := by rw [hf]; exact HS.out
  clear hf
  by_cases h0 : canonE s.data.toList = 0
  · have hc := canon_ok _ h0
    have HC : Hid (canonL (canonL s.data.toList) = canonL s.data.toList) := by rw [hc, canonL_fold, hc]; exact rfl
    have HE : Hid (canonE (canonL s.data.toList) = 0) := by rw [hc, canonE_fold]; exact h0
    have hl : (txt (canonL s.data.toList)).size = s.size := by rw [hc, txt_size, fold_len]; rfl
    have HL : Hid ((txt (canonL s.data.toList)).size ≤ maxLen) := by rw [hl]; exact HS.out
    have hlb : (((txt (canonL s.data.toList)).size : Int) == (s.size : Int)) = true := by rw [hl]; simp
    have H0 : Hid _ := h0
    clear h0 hc
    have HR : Hid ((.returned (.bool (decide (((txt (canonL s.data.toList)).size : Int) = (s.size : Int)))) : Ending) = .returned (.bool true)) := by show _ = _; rw [hl]; simp
    go_enter Try.func4, Try.ntmps4
    go_wp2_with fail
    refine (canon_any _ _ HS.out).mono ?_
    rw [H0.out]
    rintro e w1 ⟨rfl, hb1⟩
    go_wp2_with fail
    refine (foldOf_any _ _ HS.out).mono ?_
    rintro e w2 ⟨rfl, hb2⟩
    go_wp2_with fail
    refine (canon_any _ _ HF.out).mono ?_
    rw [txt_toList, canonE_fold, canonL_fold, H0.out]
    rintro e w3 ⟨rfl, hb3⟩
    go_wp2_with fail
    refine (hostBegun_any _).mono ?_
    rintro e w4 ⟨rfl, hb4⟩
    go_wp2_with fail
    refine (canon_any _ _ HL.out).mono ?_
    rw [txt_toList, HC.out, HE.out]
    rintro e w5 ⟨rfl, hb5⟩
    go_wp2_with fail
    go_ret
    refine ⟨?_, next (next (next (next hb1 hb2) hb3) hb4) hb5⟩
    first | rfl | exact HR.out | simp [hl]
  · have hc := canon_bad _ h0
    obtain ⟨E, hE⟩ : ∃ E, E = canonE s.data.toList := ⟨_, rfl⟩
    rw [← hE] at h0
    have h0b : (E == 0) = false := by rw [beq_eq_false_iff_ne]; exact h0
    have HE : Hid _ := hE
    have HC : Hid _ := hc
    clear hE hc h0
    go_enter Try.func4, Try.ntmps4
    go_wp2_with fail
    refine (canon_any _ _ HS.out).mono ?_
    rw [← HE.out, HC.out]
    rintro e w1 ⟨rfl, hb1⟩
    go_wp2_with fail
    refine (foldOf_any _ _ HS.out).mono ?_
    rintro e w2 ⟨rfl, hb2⟩
    go_wp2_with fail
    refine (canon_any _ _ HF.out).mono ?_
    rw [txt_toList, canonE_fold, canonL_fold, ← HE.out, HC.out]
    rintro e w3 ⟨rfl, hb3⟩
    go_wp2_with fail
    refine (hostBegun_any _).mono ?_
    rintro e w4 ⟨rfl, hb4⟩
    go_wp2_with fail
    go_ret
    refine ⟨?_, next (next (next hb1 hb2) hb3) hb4⟩
    exact ret_bool (by rw [Lib.toList_data]; rfl)

set_option maxRecDepth 100000 in
theorem lifted (os : Os) (started : os.Started) (H : Type) (enc : TypeId × Value → H) :
    ReturnsInHanded {} Try.checked os 4 .any (Rows.hostTwiceSpec.pre6 enc Try.prog Try.f4 Rows.hostTwiceRow.domain false) (Rows.hostTwiceSpec.post enc Try.prog Try.f4 false true false false) := by
  refine returnsInHanded_of_change_sized (C := Try.checked) own started (by kernel_rfl) Try.func4
    (ChangeSpec.witness6 (enc := enc) (C := Try.checked) false ⟨#[], #[.string ByteArray.empty], []⟩ 8 (by kernel_rfl) (by kernel_rfl) (by kernel_rfl) (by kernel_rfl)) ?_
  intro W base args ds gs before hval0 hW hcnd hsz0 _
  have hsz : (DataW.weightsEach Try.prog (Try.f4.params.toList ++ Rows.hostTwiceSpec.plain.varTypes Try.prog) (ds ++ gs)).all (· ≤ reachBytes) = true := hsz0
  have hval : ∀ (j : Nat) t v, Try.f4.params[j]? = some t → args[j]? = some v → Value.okWide Try.prog W .any base t v := hval0
  have hW' := hW
  obtain ⟨p, q, hA0, hV, rfl, hfz, hnd⟩ := hW
  have hA : DataW.TrodAll enc Try.prog W 0 (fun _ => true) true Try.f4.params.toList args.toList ds p := hA0
  rw [Try.params4] at hA hval hsz
  obtain ⟨v0, vs0, d0, ds0, p0, q0, hargs, rfl, rfl, h0, r0⟩ := trodAll_cons hA
  obtain ⟨rfl, rfl, rfl⟩ := trodAll_nil r0
  obtain rfl : args = #[v0] := by cases args; simp_all
  obtain ⟨rfl, rfl⟩ := trodVars_none hV
  have k0 := h0
  have lt0 : ∀ x ∈ p0, x.block < W.heap.size := by obtain ⟨m, hm⟩ := k0; exact DataW.trod_lt m _ _ _ hm
  obtain ⟨a0, rfl, rfl, hp0, w0⟩ := open_string Try.underlying9 (hval 0 9 v0 rfl rfl) h0
  have z0 : a0.size ≤ 140737488351232 := sized_string hsz (j := 0) (t := 9) rfl rfl
  clear hA0 hval0
  refine (walk a0 W z0).mono fun e W' ⟨he, bel⟩ => ?_
  subst he
  exact ⟨_, rfl, _, _, _, [], _, [], hW', trodAll_mk1 (shut_bool Try.underlying4 _), (trodAll_cons_mk (Below.trod laidOut (by kernel_rfl) (of_decide_eq_true (by kernel_rfl)) k0 bel lt0) trodAll_mk0), rfl, bel.frame _, fun h => by cases h⟩

theorem proved : Rows.HostTwiceSaid :=
  OpenClaim.holds_of_wide 4 Try.f4 rfl rfl rfl rfl rfl rfl rfl ⟨rfl, rfl, rfl, rfl, rfl⟩ rfl rfl rfl rfl rfl (by kernel_rfl) Try.func4 (by kernel_rfl)
    (of_decide_eq_true (by kernel_rfl)) (by unfold Func.isWrapper; first | (rw [if_pos (by decide +kernel)]; kernel_rfl) | (rw [if_neg (by decide +kernel)]; exact ⟨rfl, rfl⟩))
    (fun os started H enc _ => lifted os started H enc)
#print axioms proved
end Go.Proofs.Ytlabffopbambjac.hostTwice
