/- HeaderTells: for every text and every cookie as a header tells it Read, Check and Write answer just what the document says, errors too. No condition. -/
import Derived.Test.YtjoailjedfbnbadHeaderH
import Derived.Test.YtjoailjedfbnbadHeaderU
import Derived.Test.YtjoailjedfbnbadOpen
import Derived.Test.YtjoailjedfbnbadOpenH
namespace Go.Proofs.Ytjoailjedfbnbad.headerTells
open Go.ChangeShapes Go.WideShapes Go.ChangeAt Go.RowKit
open Go.ChangeMaps (open_string shut_string)
set_option linter.all false

set_option maxRecDepth 100000 in
set_option maxHeartbeats 4000000 in
theorem walk (s : ByteArray) (va : Value) (r : Raw) (w : World) (hs0 : s.size ≤ 140737488351232) (hr : Rows w va attrF r.2.2) (hok : r.2.2.length ≤ 140737488351232 ∧ r.1.length ≤ 140737488351232 ∧ r.2.1.length ≤ 140737488351232 ∧ ∀ a ∈ r.2.2, a.1.length ≤ 140737488351232 ∧ a.2.length ≤ 140737488351232) :
    Calls Try.prog 7 #[.string s, .agg #[.string (txt r.1), .string (txt r.2.1), va]] w fun e w' => e = .returned (.bool true) ∧ Below w.heap.size w w' := by
  have HOK : Hid _ := hok
  obtain ⟨k3, k1, k2, k4⟩ := hok
  have K1 : Hid (r.1.length ≤ maxLen) := by show _ ≤ _; unfold maxLen; omega
  have K2 : Hid (r.2.1.length ≤ maxLen) := by show _ ≤ _; unfold maxLen; omega
  have K3 : Hid (r.2.2.length ≤ maxLen) := by show _ ≤ _; unfold maxLen; omega
  have K4 : Hid (∀ a ∈ r.2.2, a.1.length ≤ maxLen ∧ a.2.length ≤ maxLen) := fun a ha => by have := k4 a ha; unfold maxLen; omega
  have HS : Hid (s.size ≤ maxLen) := by show _ ≤ _; unfold maxLen; omega
  have HR : Hid (Rows w va attrF r.2.2) := hr
  obtain ⟨ad, cap, rfl⟩ := hr.shape
  obtain ⟨q, hq⟩ : ∃ q, q = rdR s.data.toList := ⟨_, rfl⟩
  obtain ⟨z, hz⟩ : ∃ z, z = rdE s.data.toList := ⟨_, rfl⟩
  obtain ⟨y, hy⟩ : ∃ y, y = wrE r := ⟨_, rfl⟩
  obtain ⟨t, ht⟩ : ∃ t, t = wrT r := ⟨_, rfl⟩
  obtain ⟨c, hc⟩ : ∃ c, c = checkL r := ⟨_, rfl⟩
  have HQ : Hid _ := hq
  have HZ : Hid _ := hz
  have HY : Hid _ := hy
  have HT : Hid _ := ht
  have HC : Hid _ := hc
  have HQL : Hid (q.2.2.length ≤ maxLen) := by
    show _ ≤ _
    rw [hq]
    by_cases h : rdE s.data.toList = 0
    · have := (read_sizes h).2.2.1; unfold maxLen; omega
    · rw [rdR_none h]; simp
  have hb0 : Below w.heap.size w (w.alloc (.cells #[.string (txt r.1), .string (txt r.2.1), .slice ad r.2.2.length cap] 34)) := (Below.refl _ _).alloc (Nat.le_refl _) _
  have S0 : Hid (S3 (w.alloc (.cells #[.string (txt r.1), .string (txt r.2.1), .slice ad r.2.2.length cap] 34)) w.heap.size _ _ _) := S3.new w _ _ _ _
  have R0 : Hid (Rows (w.alloc (.cells #[.string (txt r.1), .string (txt r.2.1), .slice ad r.2.2.length cap] 34)) (.slice ad r.2.2.length cap) attrF r.2.2) := Rows.below HR.out hb0 (Nat.le_refl _)
  clear hr k1 k2 k3 k4 hs0 hq hz hy ht hc HR
  go_enter Try.func7, Try.ntmps7
  go_wp2_with fail
  refine (hRead_any s _ HS.out).mono ?_
  rw [← HQ.out, ← HZ.out]
  rintro e w1 ⟨v1, rfl, r1, hb1⟩
  have R1 : Hid (Rows w1 v1 attrF q.2.2) := r1
  obtain ⟨ad1, cap1, rfl⟩ := r1.shape
  have hx1 : Below w1.heap.size w1 (w1.alloc (.cells #[.string (txt q.1), .string (txt q.2.1), .slice ad1 q.2.2.length cap1] 34)) := (Below.refl _ _).alloc (Nat.le_refl _) _
  have A1 : Hid (S3 (w1.alloc (.cells #[.string (txt q.1), .string (txt q.2.1), .slice ad1 q.2.2.length cap1] 34)) w1.heap.size _ _ _) := S3.new w1 _ _ _ _
  have S1 : Hid _ := (S0.out.below hb1 S0.out.lt).below hx1 (Nat.lt_of_lt_of_le S0.out.lt hb1.size)
  have P1 : Hid (Rows (w1.alloc (.cells #[.string (txt q.1), .string (txt q.2.1), .slice ad1 q.2.2.length cap1] 34)) (.slice ad r.2.2.length cap) attrF r.2.2) := Rows.below (Rows.below R0.out hb1 (Nat.le_refl _)) hx1 (Nat.le_refl _)
  have Q1 : Hid (Rows (w1.alloc (.cells #[.string (txt q.1), .string (txt q.2.1), .slice ad1 q.2.2.length cap1] 34)) (.slice ad1 q.2.2.length cap1) attrF q.2.2) := Rows.below R1.out hx1 (Nat.le_refl _)
  have B1 : Hid (Below w.heap.size w (w1.alloc (.cells #[.string (txt q.1), .string (txt q.2.1), .slice ad1 q.2.2.length cap1] 34))) := next (next hb0 hb1) hx1
  clear r1 R1 hb0 hb1 hx1 S0 R0
  obtain ⟨c0, c1, c2, f0, f1, f2⟩ := S1.out
  go_wp2_with fail
  refine (hWrite_any _ r _ P1.out K3.out K1.out K2.out K4.out).mono ?_
  rw [← HY.out, ← HT.out]
  rintro e w2 ⟨rfl, hb2⟩
  have A2 : Hid _ := A1.out.below hb2 A1.out.lt
  have S2' : Hid _ := S1.out.below hb2 S1.out.lt
  have P2 : Hid (Rows w2 (.slice ad r.2.2.length cap) attrF r.2.2) := Rows.below P1.out hb2 (Nat.le_refl _)
  have Q2 : Hid (Rows w2 (.slice ad1 q.2.2.length cap1) attrF q.2.2) := Rows.below Q1.out hb2 (Nat.le_refl _)
  have B2 : Hid (Below w.heap.size w w2) := next B1.out hb2
  clear c0 c1 c2 f0 f1 f2 hb2 A1 S1 P1 Q1 B1
  go_wp2_with fail
  refine (RawOf_any s _ HS.out).mono ?_
  rw [← HQ.out, ← HZ.out]
  rintro e w3 ⟨v3, rfl, r3, hb3⟩
  have R3 : Hid (Rows w3 v3 attrF q.2.2) := r3
  obtain ⟨ad3, cap3, rfl⟩ := r3.shape
  have hx3 : Below w3.heap.size w3 (w3.alloc (.cells #[.string (txt q.1), .string (txt q.2.1), .slice ad3 q.2.2.length cap3] 34)) := (Below.refl _ _).alloc (Nat.le_refl _) _
  have C3 : Hid (S3 (w3.alloc (.cells #[.string (txt q.1), .string (txt q.2.1), .slice ad3 q.2.2.length cap3] 34)) w3.heap.size _ _ _) := S3.new w3 _ _ _ _
  have A3 : Hid _ := (A2.out.below hb3 A2.out.lt).below hx3 (Nat.lt_of_lt_of_le A2.out.lt hb3.size)
  have S3' : Hid _ := (S2'.out.below hb3 S2'.out.lt).below hx3 (Nat.lt_of_lt_of_le S2'.out.lt hb3.size)
  have P3 : Hid (Rows (w3.alloc (.cells #[.string (txt q.1), .string (txt q.2.1), .slice ad3 q.2.2.length cap3] 34)) (.slice ad r.2.2.length cap) attrF r.2.2) := Rows.below (Rows.below P2.out hb3 (Nat.le_refl _)) hx3 (Nat.le_refl _)
  have Q3 : Hid (Rows (w3.alloc (.cells #[.string (txt q.1), .string (txt q.2.1), .slice ad3 q.2.2.length cap3] 34)) (.slice ad1 q.2.2.length cap1) attrF q.2.2) := Rows.below (Rows.below Q2.out hb3 (Nat.le_refl _)) hx3 (Nat.le_refl _)
  have T3 : Hid (Rows (w3.alloc (.cells #[.string (txt q.1), .string (txt q.2.1), .slice ad3 q.2.2.length cap3] 34)) (.slice ad3 q.2.2.length cap3) attrF q.2.2) := Rows.below R3.out hx3 (Nat.le_refl _)
  have B3 : Hid (Below w.heap.size w (w3.alloc (.cells #[.string (txt q.1), .string (txt q.2.1), .slice ad3 q.2.2.length cap3] 34))) := next (next B2.out hb3) hx3
  clear r3 R3 hb3 hx3 A2 S2' P2 Q2 B2
  obtain ⟨c0, c1, c2, f0, f1, f2⟩ := S3'.out
  go_wp2_with fail
  refine (RawText_any _ r _ P3.out HOK.out).mono ?_
  rw [← HY.out, ← HT.out]
  rintro e w4 ⟨rfl, hb4⟩
  have A4 := A3.out.below hb4 A3.out.lt
  have S4 := S3'.out.below hb4 S3'.out.lt
  have C4 := C3.out.below hb4 C3.out.lt
  have P4 : Hid (Rows w4 (.slice ad r.2.2.length cap) attrF r.2.2) := Rows.below P3.out hb4 (Nat.le_refl _)
  have Q4 : Hid (Rows w4 (.slice ad1 q.2.2.length cap1) attrF q.2.2) := Rows.below Q3.out hb4 (Nat.le_refl _)
  have T4 : Hid (Rows w4 (.slice ad3 q.2.2.length cap3) attrF q.2.2) := Rows.below T3.out hb4 (Nat.le_refl _)
  have B4 : Hid (Below w.heap.size w w4) := next B3.out hb4
  clear c0 c1 c2 f0 f1 f2 hb4 A3 S3' C3 P3 Q3 T3 B3
  have a0 := Ext.cell A4.c0
  have a1 := Ext.cell A4.c1
  have a2 := Ext.cell A4.c2
  have s0 := Ext.cell S4.c0
  have s1 := Ext.cell S4.c1
  have s2 := Ext.cell S4.c2
  have d0 := Ext.cell C4.c0
  have d1 := Ext.cell C4.c1
  have d2 := Ext.cell C4.c2
  clear A4 S4 C4
  have KS : Hid (∀ x : Ext w4, Calls Try.prog 24 #[.agg #[.string (txt q.1), .string (txt q.2.1), .slice ad1 q.2.2.length cap1], .agg #[.string (txt q.1), .string (txt q.2.1), .slice ad3 q.2.2.length cap3]] x.1 fun e w' => e = .returned (.bool true) ∧ Below x.1.heap.size x.1 w') := fun x =>
    (sameRaw_any _ _ q q _ (Rows.below Q4.out x.2 (Nat.le_refl _)) (Rows.below T4.out x.2 (Nat.le_refl _)) HQL.out HQL.out).mono fun e w' ⟨h1, h2⟩ => ⟨by rw [decide_eq_true rfl] at h1; exact h1, h2⟩
  have KC : Hid (∀ x : Ext w4, Calls Try.prog 25 #[.agg #[.string (txt r.1), .string (txt r.2.1), .slice ad r.2.2.length cap]] x.1 fun e w' => e = .returned (.int .i64 c) ∧ Below x.1.heap.size x.1 w') := fun x =>
    (hCheck_any _ r _ (Rows.below P4.out x.2 (Nat.le_refl _)) K3.out K1.out K2.out K4.out).mono fun e w' ⟨h1, h2⟩ => ⟨by rw [← HC.out] at h1; exact h1, h2⟩
  have KR : Hid (∀ x : Ext w4, Calls Try.prog 26 #[.agg #[.string (txt r.1), .string (txt r.2.1), .slice ad r.2.2.length cap]] x.1 fun e w' => e = .returned (.int .i64 c) ∧ Below x.1.heap.size x.1 w') := fun x =>
    (RawCheck_any _ r _ (Rows.below P4.out x.2 (Nat.le_refl _)) K3.out K1.out K2.out K4.out).mono fun e w' ⟨h1, h2⟩ => ⟨by rw [← HC.out] at h1; exact h1, h2⟩
  have e1 : ((txt t).toList == (txt t).toList) = true := same_t t t rfl
  have e2 : (z == z) = true := by simp
  have e3 : (y == y) = true := by simp
  have e4 : (c == c) = true := by simp
  go_wp2_with fail
  refine wp_region_ext (by kernel_rfl) (by kernel_rfl) ?_
  repeat (go_big_quiet_step (first | rfl | (go_at_call 23; exact ext_call (headerBegun_any _)) | (go_at_call 24; exact ext_call (KS.out _)) | (go_at_call 25; exact ext_call (KC.out _)) | (go_at_call 26; exact ext_call (KR.out _))))
  refine wpQuiet_nil ?_
  intro wx hwx
  obtain ⟨x, rfl⟩ := hwx
  go_wp2_with fail
  go_ret
  exact ⟨rfl, next B4.out x.2⟩

set_option maxRecDepth 100000 in
theorem lifted (os : Os) (started : os.Started) (H : Type) (enc : TypeId × Value → H) :
    ReturnsInHanded {} Try.checked os 7 .any (Rows.headerTellsSpec.pre6 enc Try.prog Try.f7 Rows.headerTellsRow.domain false) (Rows.headerTellsSpec.post enc Try.prog Try.f7 false true false false) := by
  refine returnsInHanded_of_change_sized (C := Try.checked) own started (by kernel_rfl) Try.func7
    (ChangeSpec.witness6 (enc := enc) (C := Try.checked) false ⟨#[], #[.string ByteArray.empty, .agg #[.string ByteArray.empty, .string ByteArray.empty, .slice none 0 0]], []⟩ 8 (by kernel_rfl) (by kernel_rfl) (by kernel_rfl) (by kernel_rfl)) ?_
  intro W base args ds gs before hval0 hW hcnd hsz0 _
  have hsz : (DataW.weightsEach Try.prog (Try.f7.params.toList ++ Rows.headerTellsSpec.plain.varTypes Try.prog) (ds ++ gs)).all (· ≤ reachBytes) = true := hsz0
  have hval : ∀ (j : Nat) t v, Try.f7.params[j]? = some t → args[j]? = some v → Value.okWide Try.prog W .any base t v := hval0
  have hW' := hW
  obtain ⟨p, q, hA0, hV, rfl, hfz, hnd⟩ := hW
  have hA : DataW.TrodAll enc Try.prog W 0 (fun _ => true) true Try.f7.params.toList args.toList ds p := hA0
  rw [Try.params7] at hA hval hsz
  obtain ⟨v0, vs0, d0, ds0, p0, q0, hargs, rfl, rfl, h0, r0⟩ := trodAll_cons hA
  obtain ⟨v1, vs1, d1, ds1, p1, q1, rfl, rfl, rfl, h1, r1⟩ := trodAll_cons r0
  obtain ⟨rfl, rfl, rfl⟩ := trodAll_nil r1
  obtain rfl : args = #[v0, v1] := by cases args; simp_all
  obtain ⟨rfl, rfl⟩ := trodVars_none hV
  have k0 := h0
  have lt0 : ∀ x ∈ p0, x.block < W.heap.size := by obtain ⟨m, hm⟩ := k0; exact DataW.trod_lt m _ _ _ hm
  have k1 := h1
  have lt1 : ∀ x ∈ p1, x.block < W.heap.size := by obtain ⟨m, hm⟩ := k1; exact DataW.trod_lt m _ _ _ hm
  obtain ⟨a0, rfl, rfl, hp0, w0⟩ := open_string Try.underlying9 (hval 0 9 v0 rfl rfl) h0
  have z0 : a0.size ≤ 140737488351232 := sized_string hsz (j := 0) (t := 9) rfl rfl
  obtain ⟨va1, l1, rfl, rd1, ok1, bk1⟩ := open_raw (hval 1 34 v1 rfl rfl) k1 140737488351232 (fits_each hsz (j := 1) (t := 34) rfl rfl)
  clear hA0 hval0
  refine (walk a0 va1 l1 W z0 rd1 ok1).mono fun e W' ⟨he, bel⟩ => ?_
  subst he
  exact ⟨_, rfl, _, _, _, [], _, [], hW', trodAll_mk1 (shut_bool Try.underlying4 _), (trodAll_cons_mk (Below.trod laidOut (by kernel_rfl) (of_decide_eq_true (by kernel_rfl)) k0 bel lt0) (trodAll_cons_mk (Below.trod laidOut (by kernel_rfl) (of_decide_eq_true (by kernel_rfl)) k1 bel lt1) trodAll_mk0)), rfl, bel.frame _, fun h => by cases h⟩

theorem proved : Rows.HeaderTellsSaid :=
  OpenClaim.holds_of_wide 7 Try.f7 rfl rfl rfl rfl rfl rfl rfl ⟨rfl, rfl, rfl, rfl, rfl⟩ rfl rfl rfl rfl rfl (by kernel_rfl) Try.func7 (by kernel_rfl)
    (of_decide_eq_true (by kernel_rfl)) (by unfold Func.isWrapper; first | (rw [if_pos (by decide +kernel)]; kernel_rfl) | (rw [if_neg (by decide +kernel)]; exact ⟨rfl, rfl⟩))
    (fun os started H enc _ => lifted os started H enc)
#print axioms proved
end Go.Proofs.Ytjoailjedfbnbad.headerTells
