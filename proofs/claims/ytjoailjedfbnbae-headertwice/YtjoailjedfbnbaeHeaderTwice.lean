/- HeaderTwice: for every text, what was read of it may be written (or is too long), and is read again as it was; where it can not be read, nothing is told. No condition. -/
import Derived.Test.YtjoailjedfbnbaeHeaderH
import Derived.Test.YtjoailjedfbnbaeOpen
import Derived.Test.YtjoailjedfbnbaeOpenH
namespace Go.Proofs.Ytjoailjedfbnbae.headerTwice
open Go.ChangeShapes Go.WideShapes Go.ChangeAt Go.RowKit
open Go.ChangeMaps (open_string shut_string)
set_option linter.all false

set_option maxHeartbeats 2000000 in
theorem walk (s : ByteArray) (w : World) (hs0 : s.size ≤ 140737488351232) :
    Calls Try.prog 3 #[.string s] w fun e w' => e = .returned (.bool true) ∧ Below w.heap.size w w' := by
  have HS : Hid (s.size ≤ maxLen) := by show _ ≤ _; unfold maxLen; omega
  obtain ⟨r, hr⟩ : ∃ r, r = rdR s.data.toList := ⟨_, rfl⟩
  obtain ⟨z, hz⟩ : ∃ z, z = rdE s.data.toList := ⟨_, rfl⟩
  have HR : Hid _ := hr
  have HZ : Hid _ := hz
  clear hs0
  have start : ∀ Q : Prop, Q → Q := fun _ h => h
  by_cases h0 : z = 0
  · have hE : rdE s.data.toList = 0 := by rw [← hz]; exact h0
    have HC : Hid (checkL r = 0) := by show _ = _; rw [hr]; exact read_check hE
    obtain ⟨k1, k2, k3, k4⟩ := read_sizes hE
    rw [← hr] at k1 k2 k3 k4
    have K1 : Hid (r.1.length ≤ maxLen) := by show _ ≤ _; unfold maxLen; omega
    have K2 : Hid (r.2.1.length ≤ maxLen) := by show _ ≤ _; unfold maxLen; omega
    have K3 : Hid (r.2.2.length ≤ maxLen) := by show _ ≤ _; unfold maxLen; omega
    have K4 : Hid (∀ a ∈ r.2.2, a.1.length ≤ maxLen ∧ a.2.length ≤ maxLen) := fun a ha => by have := k4 a ha; unfold maxLen; omega
    obtain ⟨y, hy⟩ : ∃ y, y = wrE r := ⟨_, rfl⟩
    obtain ⟨t, ht⟩ : ∃ t, t = wrT r := ⟨_, rfl⟩
    have HY : Hid _ := hy
    have HT : Hid _ := ht
    have HTS : Hid ((txt t).size ≤ maxLen) := by
      show t.length ≤ maxLen
      rw [ht]; unfold wrT wrE; rw [HC.out, if_pos rfl]
      by_cases h4 : 400 < (hdT r).length
      · rw [if_pos h4]; simp
      · rw [if_neg h4, if_pos rfl]; unfold maxLen; omega
    have HYC : Hid (y = 2 ∨ (y = 0 ∧ rdE t = 0 ∧ rdR t = r)) := by
      show _ ∨ _
      rw [hy, ht]; unfold wrT wrE; rw [HC.out, if_pos rfl]
      by_cases h4 : 400 < (hdT r).length
      · rw [if_pos h4]; exact .inl rfl
      · rw [if_neg h4, if_pos rfl]; exact .inr ⟨rfl, back r HC.out (by omega)⟩
    clear hr hz hE k1 k2 k3 k4 hy ht
    subst h0
    go_enter Try.func3, Try.ntmps3
    go_wp2_with fail
    refine (hRead_any s _ HS.out).mono ?_
    rw [← HR.out, ← HZ.out]
    rintro e w1 ⟨v1, rfl, r1, hb1⟩
    have R1 : Hid (Rows w1 v1 attrF r.2.2) := r1
    obtain ⟨ad1, cap1, rfl⟩ := r1.shape
    have hx1 : Below w1.heap.size w1 (w1.alloc (.cells #[.string (txt r.1), .string (txt r.2.1), .slice ad1 r.2.2.length cap1] 24)) := (Below.refl _ _).alloc (Nat.le_refl _) _
    have S1 : Hid (S3 (w1.alloc (.cells #[.string (txt r.1), .string (txt r.2.1), .slice ad1 r.2.2.length cap1] 24)) w1.heap.size _ _ _) := S3.new w1 _ _ _ _
    clear r1
    go_wp2_with fail
    refine (headerBegun_any _).mono ?_
    rintro e w2 ⟨rfl, hb2⟩
    have S2' : Hid _ := S1.out.below hb2 S1.out.lt
    have R2' : Hid (Rows w2 (.slice ad1 r.2.2.length cap1) attrF r.2.2) := Rows.below (Rows.below R1.out hx1 (Nat.le_refl _)) hb2 (Nat.le_refl _)
    have B2 : Hid (Below w.heap.size w w2) := next (next hb1 hx1) hb2
    clear S1 R1 hb1 hx1 hb2
    obtain ⟨c0, c1, c2, f0, f1, f2⟩ := S2'.out
    go_wp2_with fail
    refine (hWrite_any _ r _ R2'.out K3.out K1.out K2.out K4.out).mono ?_
    rw [← HY.out, ← HT.out]
    rintro e w3 ⟨rfl, hb3⟩
    have S3' : Hid _ := S2'.out.below hb3 S2'.out.lt
    have R3' : Hid (Rows w3 (.slice ad1 r.2.2.length cap1) attrF r.2.2) := Rows.below R2'.out hb3 (Nat.le_refl _)
    have B3 : Hid (Below w.heap.size w w3) := next B2.out hb3
    clear c0 c1 c2 f0 f1 f2 S2' R2' hb3 B2
    obtain ⟨c0, c1, c2, f0, f1, f2⟩ := S3'.out
    go_wp2_with fail
    refine (hCheck_any _ r _ R3'.out K3.out K1.out K2.out K4.out).mono ?_
    rw [HC.out]
    rintro e w4 ⟨rfl, hb4⟩
    have S4 : Hid _ := S3'.out.below hb4 S3'.out.lt
    have R4 : Hid (Rows w4 (.slice ad1 r.2.2.length cap1) attrF r.2.2) := Rows.below R3'.out hb4 (Nat.le_refl _)
    have B4 : Hid (Below w.heap.size w w4) := next B3.out hb4
    clear c0 c1 c2 f0 f1 f2 S3' R3' hb4 B3
    rcases HYC.out with rfl | ⟨rfl, hE, hRR⟩
    · go_wp2_with fail
      refine (hRead_any _ _ HTS.out).mono ?_
      rintro e w5 ⟨v5, rfl, r5, hb5⟩
      obtain ⟨ad5, cap5, rfl⟩ := r5.shape
      have hx5 : Below w5.heap.size w5 (w5.alloc (.cells #[.string (txt (rdR (txt t).data.toList).1), .string (txt (rdR (txt t).data.toList).2.1), .slice ad5 (rdR (txt t).data.toList).2.2.length cap5] 24)) := (Below.refl _ _).alloc (Nat.le_refl _) _
      have B5 : Hid _ := next (next B4.out hb5) hx5
      clear r5 hb5 hx5
      go_wp2_with fail
      go_ret
      exact ⟨rfl, B5.out⟩
    · have HE2 : Hid _ := hE
      have HR2 : Hid _ := hRR
      clear hE hRR
      go_wp2_with fail
      refine (hRead_any _ _ HTS.out).mono ?_
      rw [txt_toList, HE2.out, HR2.out]
      rintro e w5 ⟨v5, rfl, r5, hb5⟩
      have R5 : Hid (Rows w5 v5 attrF r.2.2) := r5
      obtain ⟨ad5, cap5, rfl⟩ := r5.shape
      have hx5 : Below w5.heap.size w5 (w5.alloc (.cells #[.string (txt r.1), .string (txt r.2.1), .slice ad5 r.2.2.length cap5] 24)) := (Below.refl _ _).alloc (Nat.le_refl _) _
      have S5 : Hid (S3 (w5.alloc (.cells #[.string (txt r.1), .string (txt r.2.1), .slice ad5 r.2.2.length cap5] 24)) w5.heap.size _ _ _) := S3.new w5 _ _ _ _
      have S6 : Hid _ := (S4.out.below hb5 S4.out.lt).below hx5 (Nat.lt_of_lt_of_le S4.out.lt hb5.size)
      have R6 : Hid (Rows (w5.alloc (.cells #[.string (txt r.1), .string (txt r.2.1), .slice ad5 r.2.2.length cap5] 24)) (.slice ad1 r.2.2.length cap1) attrF r.2.2) := Rows.below (Rows.below R4.out hb5 (Nat.le_refl _)) hx5 (Nat.le_refl _)
      have R7 : Hid (Rows (w5.alloc (.cells #[.string (txt r.1), .string (txt r.2.1), .slice ad5 r.2.2.length cap5] 24)) (.slice ad5 r.2.2.length cap5) attrF r.2.2) := Rows.below R5.out hx5 (Nat.le_refl _)
      have B5 : Hid _ := next (next B4.out hb5) hx5
      clear r5 hb5 hx5 R5 S4 R4 B4
      obtain ⟨c0, c1, c2, f0, f1, f2⟩ := S6.out
      go_wp2_with fail
      refine (sameRaw_any _ _ r r _ R7.out R6.out K3.out K3.out).mono ?_
      rw [decide_eq_true rfl]
      rintro e w6 ⟨rfl, hb6⟩
      go_wp2_with fail
      go_ret
      exact ⟨rfl, next B5.out hb6⟩
  · have HRN : Hid (r = ([], [], [])) := by show _ = _; rw [hr]; exact rdR_none (by rw [← hz]; exact h0)
    have hzz : (z != 0) = true := by rw [bne_iff_ne]; exact h0
    clear hr hz h0
    go_enter Try.func3, Try.ntmps3
    go_wp2_with fail
    refine (hRead_any s _ HS.out).mono ?_
    rw [← HR.out, ← HZ.out, HRN.out]
    rintro e w1 ⟨v1, rfl, r1, hb1⟩
    have R1 : Hid (Rows w1 v1 attrF ([] : List Attr)) := r1
    obtain ⟨ad1, cap1, rfl⟩ := r1.shape
    have hx1 : Below w1.heap.size w1 (w1.alloc (.cells #[.string (txt []), .string (txt []), .slice ad1 0 cap1] 24)) := (Below.refl _ _).alloc (Nat.le_refl _) _
    have S1 : Hid (S3 (w1.alloc (.cells #[.string (txt []), .string (txt []), .slice ad1 0 cap1] 24)) w1.heap.size _ _ _) := S3.new w1 _ _ _ _
    clear r1
    go_wp2_with fail
    refine (headerBegun_any _).mono ?_
    rintro e w2 ⟨rfl, hb2⟩
    have S2' : Hid _ := S1.out.below hb2 S1.out.lt
    have R2' : Hid (Rows w2 (.slice ad1 0 cap1) attrF ([] : List Attr)) := Rows.below (Rows.below R1.out hx1 (Nat.le_refl _)) hb2 (Nat.le_refl _)
    have B2 : Hid (Below w.heap.size w w2) := next (next hb1 hx1) hb2
    clear S1 R1 hb1 hx1 hb2
    obtain ⟨c0, c1, c2, f0, f1, f2⟩ := S2'.out
    go_wp2_with fail
    refine (sameRaw_any _ _ ([], [], []) ([], [], []) _ R2'.out (rows_nil _ _) (by simp) (by simp)).mono ?_
    rw [decide_eq_true rfl]
    rintro e w6 ⟨rfl, hb6⟩
    go_wp2_with fail
    go_ret
    exact ⟨rfl, next B2.out hb6⟩

set_option maxRecDepth 100000 in
theorem lifted (os : Os) (started : os.Started) (H : Type) (enc : TypeId × Value → H) :
    ReturnsInHanded {} Try.checked os 3 .any (Rows.headerTwiceSpec.pre6 enc Try.prog Try.f3 Rows.headerTwiceRow.domain false) (Rows.headerTwiceSpec.post enc Try.prog Try.f3 false true false false) := by
  refine returnsInHanded_of_change_sized (C := Try.checked) own started (by kernel_rfl) Try.func3
    (ChangeSpec.witness6 (enc := enc) (C := Try.checked) false ⟨#[], #[.string ByteArray.empty], []⟩ 8 (by kernel_rfl) (by kernel_rfl) (by kernel_rfl) (by kernel_rfl)) ?_
  intro W base args ds gs before hval0 hW hcnd hsz0 _
  have hsz : (DataW.weightsEach Try.prog (Try.f3.params.toList ++ Rows.headerTwiceSpec.plain.varTypes Try.prog) (ds ++ gs)).all (· ≤ reachBytes) = true := hsz0
  have hval : ∀ (j : Nat) t v, Try.f3.params[j]? = some t → args[j]? = some v → Value.okWide Try.prog W .any base t v := hval0
  have hW' := hW
  obtain ⟨p, q, hA0, hV, rfl, hfz, hnd⟩ := hW
  have hA : DataW.TrodAll enc Try.prog W 0 (fun _ => true) true Try.f3.params.toList args.toList ds p := hA0
  rw [Try.params3] at hA hval hsz
  obtain ⟨v0, vs0, d0, ds0, p0, q0, hargs, rfl, rfl, h0, r0⟩ := trodAll_cons hA
  obtain ⟨rfl, rfl, rfl⟩ := trodAll_nil r0
  obtain rfl : args = #[v0] := by cases args; simp_all
  obtain ⟨rfl, rfl⟩ := trodVars_none hV
  have k0 := h0
  have lt0 : ∀ x ∈ p0, x.block < W.heap.size := by obtain ⟨m, hm⟩ := k0; exact DataW.trod_lt m _ _ _ hm
  obtain ⟨a0, rfl, rfl, hp0, w0⟩ := open_string Try.underlying9 (hval 0 9 v0 rfl rfl) h0
  have z0 : a0.size ≤ 140737488351232 := sized_string hsz (j := 0) (t := 9) rfl rfl
  clear hA0 hval0
  refine (walk a0 W z0).mono fun e W' ⟨he, bel⟩ => ?_
  subst he
  exact ⟨_, rfl, _, _, _, [], _, [], hW', trodAll_mk1 (shut_bool Try.underlying4 _), (trodAll_cons_mk (Below.trod laidOut (by kernel_rfl) (of_decide_eq_true (by kernel_rfl)) k0 bel lt0) trodAll_mk0), rfl, bel.frame _, fun h => by cases h⟩

theorem proved : Rows.HeaderTwiceSaid :=
  OpenClaim.holds_of_wide 3 Try.f3 rfl rfl rfl rfl rfl rfl rfl ⟨rfl, rfl, rfl, rfl, rfl⟩ rfl rfl rfl rfl rfl (by kernel_rfl) Try.func3 (by kernel_rfl)
    (of_decide_eq_true (by kernel_rfl)) (by unfold Func.isWrapper; first | (rw [if_pos (by decide +kernel)]; kernel_rfl) | (rw [if_neg (by decide +kernel)]; exact ⟨rfl, rfl⟩))
    (fun os started H enc _ => lifted os started H enc)
#print axioms proved
end Go.Proofs.Ytjoailjedfbnbae.headerTwice
