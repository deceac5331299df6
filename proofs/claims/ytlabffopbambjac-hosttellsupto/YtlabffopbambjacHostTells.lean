/- HostTells: for every two texts up to the bulk of the second form, a host as it is compared, an address, a match and a host's ups are the document's, errors too; the texts read as they did. -/
import Derived.Test.YtlabffopbambjacHostE
import Derived.Test.YtlabffopbambjacOpen
namespace Go.Proofs.Ytlabffopbambjac.hostTells
open Go.ChangeShapes Go.WideShapes Go.ChangeAt Go.RowKit
open Go.ChangeMaps (open_string shut_string)
set_option linter.all false

set_option maxHeartbeats 1000000 in
theorem walk (s d : ByteArray) (w : World) (hk : s.size + d.size ≤ 1099511627776) :
    Calls Try.prog 3 #[.string s, .string d] w fun e w' => e = .returned (.bool true) ∧ Below w.heap.size w w' := by
  have HS : Hid (s.size ≤ maxLen) := by unfold maxLen; show _ ≤ _; omega
  have HD : Hid (d.size < maxLen) := by unfold maxLen; show _ < _; omega
  have HD0 : Hid (d.size ≤ maxLen) := by unfold maxLen; show _ ≤ _; omega
  have HM : Hid ((s.size + 1) * 16 ≤ 140737488355328) := by show _ ≤ _; omega
  have HL : Hid ((upsL s.data.toList).length ≤ maxLen) := by
    have h : (tailsL s.data.toList).length ≤ s.size := tails_len s.data.toList
    unfold maxLen
    show _ ≤ _
    unfold upsL
    split
    · simp
    · split
      · simp
      · simp only [List.length_cons]; omega
  go_enter Try.func3, Try.ntmps3
  go_wp2_with fail
  refine (canon_any _ _ HS.out).mono ?_
  rintro e w1 ⟨rfl, hb1⟩
  go_wp2_with fail
  refine (hostOf_any _ _ HS.out).mono ?_
  rintro e w2 ⟨rfl, hb2⟩
  go_wp2_with fail
  refine (hostBegun_any _).mono ?_
  rintro e w3 ⟨rfl, hb3⟩
  go_wp2_with fail
  refine (address_any _ _ HS.out).mono ?_
  rintro e w4 ⟨rfl, hb4⟩
  go_wp2_with fail
  refine (isAddress_any _ _ HM.out).mono ?_
  rintro e w5 ⟨rfl, hb5⟩
  go_wp2_with fail
  refine (match_any _ _ _ HS.out HD.out).mono ?_
  rintro e w6 ⟨rfl, hb6⟩
  go_wp2_with fail
  refine (isMatch_any _ _ _ HM.out HD0.out).mono ?_
  rintro e w7 ⟨rfl, hb7⟩
  have g7 : Below w.heap.size w w7 := next (next (next (next (next (next hb1 hb2) hb3) hb4) hb5) hb6) hb7
  clear hb1 hb2 hb3 hb4 hb5 hb6 hb7
  go_wp2_with fail
  refine (ups_any _ _ HM.out).mono ?_
  rintro e w8 ⟨v8, rfl, hown8, hb8⟩
  go_wp2_with fail
  refine (upsOf_any _ _ HM.out).mono ?_
  rintro e w9 ⟨v9, rfl, hown9, hb9⟩
  go_wp2_with fail
  refine (same_any _ _ _ _ _ ((Reads.of_own hown8).below hb9 (Nat.le_refl _)) (Reads.of_own hown9) HL.out HL.out).mono ?_
  rw [beq_self_eq_true]
  rintro e w10 ⟨rfl, n10, rfl⟩
  go_wp2_with fail
  go_ret
  exact ⟨rfl, next (next (next g7 hb8) hb9) (below_drewN' _ _ _)⟩

set_option maxRecDepth 100000 in
theorem lifted (os : Os) (started : os.Started) (H : Type) (enc : TypeId × Value → H) (F : Stop.Interp) :
    ReturnsInHanded {} Try.checked os 3 .any ((Rows.OpenSpec.upto Rows.hostTellsSpec).pre6 enc Try.prog Try.f3 Rows.hostTellsUptoRow.domain false) (((Rows.OpenSpec.upto Rows.hostTellsSpec).at F).post enc Try.prog Try.f3 false true false false) := by
  refine returnsInHanded_of_cond (C := Try.checked) (s := (Rows.OpenSpec.upto Rows.hostTellsSpec)) (k := Rows.uptoSmall) rfl own started (by kernel_rfl) Try.func3
    (OpenSpec.witness (enc := enc) (C := Try.checked) (s := (Rows.OpenSpec.upto Rows.hostTellsSpec)) (k := Rows.uptoSmall) rfl false ⟨#[], #[.string ByteArray.empty, .string ByteArray.empty], []⟩ 8 (by kernel_rfl) (by kernel_rfl) (by kernel_rfl)
      (x := ([.lit (.string []), .lit (.string [])], [], [])) (by kernel_rfl) rfl (by kernel_rfl)) ?_
  intro W base args ds gs before hval0 hW hcnd hk _
  have hval : ∀ (j : Nat) t v, Try.f3.params[j]? = some t → args[j]? = some v → Value.okWide Try.prog W .any base t v := hval0
  have hW' := hW
  obtain ⟨p, q, hA0, hV, rfl, hfz, hnd⟩ := hW
  have hA : DataW.TrodAll enc Try.prog W 0 (fun _ => true) true Try.f3.params.toList args.toList ds p := hA0
  rw [Try.params3] at hA hval
  obtain ⟨v0, vs0, d0, ds0, p0, q0, hargs, rfl, rfl, h0, r0⟩ := trodAll_cons hA
  obtain ⟨v1, vs1, d1, ds1, p1, q1, rfl, rfl, rfl, h1, r1⟩ := trodAll_cons r0
  obtain ⟨rfl, rfl, rfl⟩ := trodAll_nil r1
  obtain rfl : args = #[v0, v1] := by cases args; simp_all
  obtain ⟨rfl, rfl⟩ := trodVars_none hV
  have k0 := h0
  have lt0 : ∀ x ∈ p0, x.block < W.heap.size := by obtain ⟨m, hm⟩ := k0; exact DataW.trod_lt m _ _ _ hm
  have k1 := h1
  have lt1 : ∀ x ∈ p1, x.block < W.heap.size := by obtain ⟨m, hm⟩ := k1; exact DataW.trod_lt m _ _ _ hm
  obtain ⟨a0, rfl, rfl, hp0, w0⟩ := open_string Try.underlying9 (hval 0 9 v0 rfl rfl) h0
  obtain ⟨a1, rfl, rfl, hp1, w1⟩ := open_string Try.underlying9 (hval 1 9 v1 rfl rfl) h1
  have hbulk := bulk_of hk
  simp only [List.cons_append, List.nil_append, List.append_nil, Rows.uptoBulkAll] at hbulk
  have hbk0 := bulk_str (H := H) a0
  have hbk1 := bulk_str (H := H) a1
  clear hA0 hval0
  refine (walk a0 a1 W (by omega)).mono fun e W' ⟨he, bel⟩ => ?_
  subst he
  exact ⟨_, rfl, _, _, _, [], _, [], hW', trodAll_mk1 (shut_bool Try.underlying4 _), (trodAll_cons_mk (Below.trod laidOut (by kernel_rfl) (of_decide_eq_true (by kernel_rfl)) k0 bel lt0) (trodAll_cons_mk (Below.trod laidOut (by kernel_rfl) (of_decide_eq_true (by kernel_rfl)) k1 bel lt1) trodAll_mk0)), rfl, bel.frame _, fun h => by cases h⟩

theorem proved : Rows.HostTellsUptoSaid :=
  OpenClaim.holds_of_cond 3 Try.f3 rfl rfl rfl rfl rfl rfl rfl ⟨rfl, rfl, rfl, rfl, rfl⟩ rfl rfl rfl rfl rfl (by kernel_rfl) Try.func3 (by kernel_rfl)
    (of_decide_eq_true (by kernel_rfl)) (by unfold Func.isWrapper; first | (rw [if_pos (by decide +kernel)]; kernel_rfl) | (rw [if_neg (by decide +kernel)]; exact ⟨rfl, rfl⟩))
    (fun os started H enc _ F => lifted os started H enc F)
#print axioms proved
end Go.Proofs.Ytlabffopbambjac.hostTells
