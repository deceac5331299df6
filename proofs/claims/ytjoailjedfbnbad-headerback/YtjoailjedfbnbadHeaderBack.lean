/- HeaderBack: for every cookie as a header tells it, what is written is read as it was; where it can not be written, nothing is. No condition. -/
import Derived.Test.YtjoailjedfbnbadHeaderH
import Derived.Test.YtjoailjedfbnbadOpen
import Derived.Test.YtjoailjedfbnbadOpenH
namespace Go.Proofs.Ytjoailjedfbnbad.headerBack
open Go.ChangeShapes Go.WideShapes Go.ChangeAt Go.RowKit
open Go.ChangeMaps (open_string shut_string)
set_option linter.all false

set_option maxHeartbeats 2000000 in
theorem walk (va : Value) (r : Raw) (w : World) (hr : Rows w va attrF r.2.2) (hok : r.2.2.length ≤ 140737488351232 ∧ r.1.length ≤ 140737488351232 ∧ r.2.1.length ≤ 140737488351232 ∧ ∀ a ∈ r.2.2, a.1.length ≤ 140737488351232 ∧ a.2.length ≤ 140737488351232) :
    Calls Try.prog 8 #[.agg #[.string (txt r.1), .string (txt r.2.1), va]] w fun e w' => e = .returned (.bool true) ∧ Below w.heap.size w w' := by
  obtain ⟨k3, k1, k2, k4⟩ := hok
  have K1 : Hid (r.1.length ≤ maxLen) := by show _ ≤ _; unfold maxLen; omega
  have K2 : Hid (r.2.1.length ≤ maxLen) := by show _ ≤ _; unfold maxLen; omega
  have K3 : Hid (r.2.2.length ≤ maxLen) := by show _ ≤ _; unfold maxLen; omega
  have K4 : Hid (∀ a ∈ r.2.2, a.1.length ≤ maxLen ∧ a.2.length ≤ maxLen) := fun a ha => by have := k4 a ha; unfold maxLen; omega
  have HR : Hid (Rows w va attrF r.2.2) := hr
  obtain ⟨ad, cap, rfl⟩ := hr.shape
  obtain ⟨y, hy⟩ : ∃ y, y = wrE r := ⟨_, rfl⟩
  obtain ⟨t, ht⟩ : ∃ t, t = wrT r := ⟨_, rfl⟩
  have HY : Hid _ := hy
  have HT : Hid _ := ht
  have hb0 : Below w.heap.size w (w.alloc (.cells #[.string (txt r.1), .string (txt r.2.1), .slice ad r.2.2.length cap] 34)) := (Below.refl _ _).alloc (Nat.le_refl _) _
  have S0 : Hid (S3 (w.alloc (.cells #[.string (txt r.1), .string (txt r.2.1), .slice ad r.2.2.length cap] 34)) w.heap.size _ _ _) := S3.new w _ _ _ _
  have R0 : Hid (Rows (w.alloc (.cells #[.string (txt r.1), .string (txt r.2.1), .slice ad r.2.2.length cap] 34)) (.slice ad r.2.2.length cap) attrF r.2.2) := Rows.below HR.out hb0 (Nat.le_refl _)
  clear hr k1 k2 k3 k4
  by_cases h0 : y = 0
  · have hC : checkL r = 0 ∧ (hdT r).length ≤ 400 := by
      have h := h0; rw [hy] at h; unfold wrE at h
      by_cases hc : checkL r = 0
      · rw [if_pos hc] at h
        by_cases h4 : 400 < (hdT r).length
        · rw [if_pos h4] at h; cases h
        · exact ⟨hc, by omega⟩
      · rw [if_neg hc] at h; exact absurd h hc
    have ht2 : t = hdT r := by rw [ht]; unfold wrT; rw [← hy, if_pos h0]
    have HBK : Hid (rdE t = 0 ∧ rdR t = r) := by show _ ∧ _; rw [ht2]; exact back r hC.1 hC.2
    have HTS : Hid ((txt t).size ≤ maxLen) := by show t.length ≤ maxLen; rw [ht2]; have := hC.2; unfold maxLen; omega
    clear hC ht2 hy ht
    subst h0
    go_enter Try.func8, Try.ntmps8
    go_wp2_with fail
    refine (hWrite_any _ r _ R0.out K3.out K1.out K2.out K4.out).mono ?_
    rw [← HY.out, ← HT.out]
    rintro e w1 ⟨rfl, hb1⟩
    go_wp2_with fail
    refine (headerBegun_any _).mono ?_
    rintro e w2 ⟨rfl, hb2⟩
    have S2' : Hid _ := (S0.out.below hb1 S0.out.lt).below hb2 (Nat.lt_of_lt_of_le S0.out.lt hb1.size)
    have R2' : Hid (Rows w2 (.slice ad r.2.2.length cap) attrF r.2.2) := Rows.below (Rows.below R0.out hb1 (Nat.le_refl _)) hb2 (Nat.le_refl _)
    have B2 : Hid (Below w.heap.size w w2) := next (next hb0 hb1) hb2
    clear S0 R0 hb0 hb1 hb2
    go_wp2_with fail
    refine (hRead_any _ _ HTS.out).mono ?_
    rw [txt_toList, HBK.out.1, HBK.out.2]
    rintro e w5 ⟨v5, rfl, r5, hb5⟩
    have R5 : Hid (Rows w5 v5 attrF r.2.2) := r5
    obtain ⟨ad5, cap5, rfl⟩ := r5.shape
    have hx5 : Below w5.heap.size w5 (w5.alloc (.cells #[.string (txt r.1), .string (txt r.2.1), .slice ad5 r.2.2.length cap5] 34)) := (Below.refl _ _).alloc (Nat.le_refl _) _
    have S6 : Hid _ := (S2'.out.below hb5 S2'.out.lt).below hx5 (Nat.lt_of_lt_of_le S2'.out.lt hb5.size)
    have R6 : Hid (Rows (w5.alloc (.cells #[.string (txt r.1), .string (txt r.2.1), .slice ad5 r.2.2.length cap5] 34)) (.slice ad r.2.2.length cap) attrF r.2.2) := Rows.below (Rows.below R2'.out hb5 (Nat.le_refl _)) hx5 (Nat.le_refl _)
    have R7 : Hid (Rows (w5.alloc (.cells #[.string (txt r.1), .string (txt r.2.1), .slice ad5 r.2.2.length cap5] 34)) (.slice ad5 r.2.2.length cap5) attrF r.2.2) := Rows.below R5.out hx5 (Nat.le_refl _)
    have B5 : Hid _ := next (next B2.out hb5) hx5
    clear r5 hb5 hx5 R5 S2' R2' B2
    obtain ⟨c0, c1, c2, f0, f1, f2⟩ := S6.out
    go_wp2_with fail
    refine (sameRaw_any _ _ r r _ R7.out R6.out K3.out K3.out).mono ?_
    rw [decide_eq_true rfl]
    rintro e w6 ⟨rfl, hb6⟩
    go_wp2_with fail
    go_ret
    exact ⟨rfl, next B5.out hb6⟩
  · have hzz : (y != 0) = true := by rw [bne_iff_ne]; exact h0
    have hne : ((txt t).toList == []) = true := nil_t t (by rw [ht]; unfold wrT; rw [← hy, if_neg h0])
    clear hy ht h0
    go_enter Try.func8, Try.ntmps8
    go_wp2_with fail
    refine (hWrite_any _ r _ R0.out K3.out K1.out K2.out K4.out).mono ?_
    rw [← HY.out, ← HT.out]
    rintro e w1 ⟨rfl, hb1⟩
    go_wp2_with fail
    refine (headerBegun_any _).mono ?_
    rintro e w2 ⟨rfl, hb2⟩
    go_wp2_with fail
    go_ret
    exact ⟨rfl, next (next hb0 hb1) hb2⟩

set_option maxRecDepth 100000 in
theorem lifted (os : Os) (started : os.Started) (H : Type) (enc : TypeId × Value → H) :
    ReturnsInHanded {} Try.checked os 8 .any (Rows.headerBackSpec.pre6 enc Try.prog Try.f8 Rows.headerBackRow.domain false) (Rows.headerBackSpec.post enc Try.prog Try.f8 false true false false) := by
  refine returnsInHanded_of_change_sized (C := Try.checked) own started (by kernel_rfl) Try.func8
    (ChangeSpec.witness6 (enc := enc) (C := Try.checked) false ⟨#[], #[.agg #[.string ByteArray.empty, .string ByteArray.empty, .slice none 0 0]], []⟩ 8 (by kernel_rfl) (by kernel_rfl) (by kernel_rfl) (by kernel_rfl)) ?_
  intro W base args ds gs before hval0 hW hcnd hsz0 _
  have hsz : (DataW.weightsEach Try.prog (Try.f8.params.toList ++ Rows.headerBackSpec.plain.varTypes Try.prog) (ds ++ gs)).all (· ≤ reachBytes) = true := hsz0
  have hval : ∀ (j : Nat) t v, Try.f8.params[j]? = some t → args[j]? = some v → Value.okWide Try.prog W .any base t v := hval0
  have hW' := hW
  obtain ⟨p, q, hA0, hV, rfl, hfz, hnd⟩ := hW
  have hA : DataW.TrodAll enc Try.prog W 0 (fun _ => true) true Try.f8.params.toList args.toList ds p := hA0
  rw [Try.params8] at hA hval hsz
  obtain ⟨v0, vs0, d0, ds0, p0, q0, hargs, rfl, rfl, h0, r0⟩ := trodAll_cons hA
  obtain ⟨rfl, rfl, rfl⟩ := trodAll_nil r0
  obtain rfl : args = #[v0] := by cases args; simp_all
  obtain ⟨rfl, rfl⟩ := trodVars_none hV
  have k0 := h0
  have lt0 : ∀ x ∈ p0, x.block < W.heap.size := by obtain ⟨m, hm⟩ := k0; exact DataW.trod_lt m _ _ _ hm
  obtain ⟨va0, l0, rfl, rd0, ok0, bk0⟩ := open_raw (hval 0 34 v0 rfl rfl) k0 140737488351232 (fits_each hsz (j := 0) (t := 34) rfl rfl)
  clear hA0 hval0
  refine (walk va0 l0 W rd0 ok0).mono fun e W' ⟨he, bel⟩ => ?_
  subst he
  exact ⟨_, rfl, _, _, _, [], _, [], hW', trodAll_mk1 (shut_bool Try.underlying4 _), (trodAll_cons_mk (Below.trod laidOut (by kernel_rfl) (of_decide_eq_true (by kernel_rfl)) k0 bel lt0) trodAll_mk0), rfl, bel.frame _, fun h => by cases h⟩

theorem proved : Rows.HeaderBackSaid :=
  OpenClaim.holds_of_wide 8 Try.f8 rfl rfl rfl rfl rfl rfl rfl ⟨rfl, rfl, rfl, rfl, rfl⟩ rfl rfl rfl rfl rfl (by kernel_rfl) Try.func8 (by kernel_rfl)
    (of_decide_eq_true (by kernel_rfl)) (by unfold Func.isWrapper; first | (rw [if_pos (by decide +kernel)]; kernel_rfl) | (rw [if_neg (by decide +kernel)]; exact ⟨rfl, rfl⟩))
    (fun os started H enc _ => lifted os started H enc)
#print axioms proved
end Go.Proofs.Ytjoailjedfbnbad.headerBack
