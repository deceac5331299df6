/- SixtyTells, where what comes in is of bulk at most 1048576: the program's Write and Read answer what the document's own answer. (Beyond that bound the list of all bits of the letters, which the document's answer makes, may take more bytes than any slice.) -/
import Derived.Test.YtgdcifllbfdbhaaSixtyS
import Derived.Test.YtgdcifllbfdbhaaSixtyT
import Derived.Test.YtgdcifllbfdbhaaOpen
namespace Go.Proofs.Ytgdcifllbfdbhaa.sixtyTells
open Go.ChangeShapes Go.WideShapes Go.ChangeAt Go.RowKit Go.Lib
open Go.ChangeMaps (open_string shut_string)
set_option linter.all false
set_option maxRecDepth 100000

set_option maxHeartbeats 4000000 in
theorem walk (s t : ByteArray) (w : World) (hk : s.size + t.size ≤ 1048576) :
    Calls Try.prog 3 #[.string s, .string t] w fun e w' => e = .returned (.bool true) ∧ Below w.heap.size w w' := by
  obtain ⟨x, hx⟩ : ∃ x, x = s.data.toList := ⟨_, rfl⟩
  obtain ⟨y, hy⟩ : ∃ y, y = t.data.toList := ⟨_, rfl⟩
  have hsx : s = txt x := by rw [hx]; rfl
  have hty : t = txt y := by rw [hy]; rfl
  have hxl : x.length ≤ 1048576 := by rw [hx]; show s.size ≤ _; omega
  have hyl : y.length ≤ 1048576 := by rw [hy]; show t.size ≤ _; omega
  obtain ⟨a, ha⟩ : ∃ a, a = txt (wT x) := ⟨_, rfl⟩
  obtain ⟨e0, he0⟩ : ∃ e, e = wE x := ⟨_, rfl⟩
  obtain ⟨b, hb⟩ : ∃ b, b = txt (uT y) := ⟨_, rfl⟩
  obtain ⟨f0, hf0⟩ : ∃ f, f = uE y := ⟨_, rfl⟩
  have k1 : Hid (∀ w', Calls Try.prog 10 #[.string s] w' fun e w'' => e = .returned (.tuple #[.string a, .int .i64 e0]) ∧ Below w'.heap.size w' w'') := fun w' => by
    rw [ha, he0, hsx]; exact sixtyW_any x w' (by unfold maxLen; omega)
  have k2 : Hid (∀ w', Calls Try.prog 11 #[.string t] w' fun e w'' => e = .returned (.tuple #[.string b, .int .i64 f0]) ∧ Below w'.heap.size w' w'') := fun w' => by
    rw [hb, hf0, hty]; exact sixtyR_any y w' (by omega)
  have k3 : Hid (∀ w', Calls Try.prog 12 #[.string s] w' fun e w'' => e = .returned (.tuple #[.string a, .int .i64 e0]) ∧ Below w'.heap.size w' w'') := fun w' => by
    rw [ha, he0, hsx]; exact sixtyOf_any x w' (by unfold maxLen; omega)
  have k4 : Hid (∀ w', Calls Try.prog 13 #[.string t] w' fun e w'' => e = .returned (.tuple #[.string b, .int .i64 f0]) ∧ Below w'.heap.size w' w'') := fun w' => by
    rw [hb, hf0, hty]; exact unsixtyOf_any y w' (by omega)
  have g1 : (a.toList == a.toList) = true := beq_self_eq_true _
  have g2 : (b.toList == b.toList) = true := beq_self_eq_true _
  have g3 : (e0 == e0) = true := beq_self_eq_true _
  have g4 : (f0 == f0) = true := beq_self_eq_true _
  clear hx hy hsx hty hxl hyl ha he0 hb hf0 hk
  go_enter Try.func3, Try.ntmps3
  go_wp2_with fail
  refine (k1.out _).mono ?_
  rintro e w1 ⟨rfl, hb1⟩
  have B1 : Hid _ := hb1
  clear hb1
  go_wp2_with fail
  refine (k2.out _).mono ?_
  rintro e w2 ⟨rfl, hb2⟩
  have B2 : Hid _ := next B1.out hb2
  clear hb2
  go_wp2_with fail
  refine (k3.out _).mono ?_
  rintro e w3 ⟨rfl, hb3⟩
  have B3 : Hid _ := next B2.out hb3
  clear hb3
  go_wp2_with fail
  refine (k4.out _).mono ?_
  rintro e w4 ⟨rfl, hb4⟩
  have B4 : Hid _ := next B3.out hb4
  clear hb4
  go_wp2_with fail
  refine (sixtyBegun_any _).mono ?_
  rintro e w5 ⟨rfl, hb5⟩
  have B5 : Hid _ := next B4.out hb5
  clear hb5
  go_wp2_with fail
  go_ret
  exact ⟨rfl, B5.out⟩
set_option maxRecDepth 100000 in
theorem lifted (os : Os) (started : os.Started) (H : Type) (enc : TypeId × Value → H) (F : Stop.Interp) :
    ReturnsInHanded {} Try.checked os 3 .any ((Rows.OpenSpec.upto Rows.sixtyTellsSpec).pre6 enc Try.prog Try.f3 Rows.sixtyTellsUptoRow.domain false) (((Rows.OpenSpec.upto Rows.sixtyTellsSpec).at F).post enc Try.prog Try.f3 false true false false) := by
  refine returnsInHanded_of_cond (C := Try.checked) (s := (Rows.OpenSpec.upto Rows.sixtyTellsSpec)) (k := Rows.uptoSmall) rfl own started (by kernel_rfl) Try.func3
    (OpenSpec.witness (enc := enc) (C := Try.checked) (s := (Rows.OpenSpec.upto Rows.sixtyTellsSpec)) (k := Rows.uptoSmall) rfl false ⟨#[], #[.string ByteArray.empty, .string ByteArray.empty], []⟩ 8 (by kernel_rfl) (by kernel_rfl) (by kernel_rfl)
      (x := ([.lit (.string []), .lit (.string [])], [], [])) (by kernel_rfl) rfl (by kernel_rfl)) ?_
  intro W base args ds gs before hval0 hW hcnd hk _
  have hval : ∀ (j : Nat) t v, Try.f3.params[j]? = some t → args[j]? = some v → Value.okWide Try.prog W .any base t v := hval0
  have hW' := hW
  obtain ⟨p, q, hA0, hV, rfl, hfz, hnd⟩ := hW
  have hA : DataW.TrodAll enc Try.prog W 0 (fun _ => true) true Try.f3.params.toList args.toList ds p := hA0
  rw [Try.params3] at hA hval
  obtain ⟨v0, vs0, d0, ds0, p0, q0, hargs, rfl, rfl, h0, r0⟩ := trodAll_cons hA
  obtain ⟨v1, vs1, d1, ds1, p1, q1, rfl, rfl, rfl, h1, r1⟩ := trodAll_cons r0
  obtain ⟨rfl, rfl, rfl⟩ := trodAll_nil r1
  obtain rfl : args = #[v0, v1] := by cases args; simp_all
  obtain ⟨rfl, rfl⟩ := trodVars_none hV
  have k0 := h0
  have lt0 : ∀ x ∈ p0, x.block < W.heap.size := by obtain ⟨m, hm⟩ := k0; exact DataW.trod_lt m _ _ _ hm
  have k1 := h1
  have lt1 : ∀ x ∈ p1, x.block < W.heap.size := by obtain ⟨m, hm⟩ := k1; exact DataW.trod_lt m _ _ _ hm
  obtain ⟨a0, rfl, rfl, hp0, w0⟩ := open_string Try.underlying9 (hval 0 9 v0 rfl rfl) h0
  obtain ⟨a1, rfl, rfl, hp1, w1⟩ := open_string Try.underlying9 (hval 1 9 v1 rfl rfl) h1
  have hbulk := bulk_of hk
  simp only [List.cons_append, List.nil_append, List.append_nil, Rows.uptoBulkAll] at hbulk
  have hbk0 := bulk_str (H := H) a0
  have hbk1 := bulk_str (H := H) a1
  clear hA0 hval0
  refine (walk a0 a1 W (by omega)).mono fun e W' ⟨he, bel⟩ => ?_
  subst he
  exact ⟨_, rfl, _, _, _, [], _, [], hW', trodAll_mk1 (shut_bool Try.underlying4 _), (trodAll_cons_mk (Below.trod laidOut (by kernel_rfl) (of_decide_eq_true (by kernel_rfl)) k0 bel lt0) (trodAll_cons_mk (Below.trod laidOut (by kernel_rfl) (of_decide_eq_true (by kernel_rfl)) k1 bel lt1) trodAll_mk0)), rfl, bel.frame _, fun h => by cases h⟩

theorem proved : Rows.SixtyTellsUptoSaid :=
  OpenClaim.holds_of_cond 3 Try.f3 rfl rfl rfl rfl rfl rfl rfl ⟨rfl, rfl, rfl, rfl, rfl⟩ rfl rfl rfl rfl rfl (by kernel_rfl) Try.func3 (by kernel_rfl)
    (of_decide_eq_true (by kernel_rfl)) (by unfold Func.isWrapper; first | (rw [if_pos (by decide +kernel)]; kernel_rfl) | (rw [if_neg (by decide +kernel)]; exact ⟨rfl, rfl⟩))
    (fun os started H enc _ F => lifted os started H enc F)
#print axioms proved
end Go.Proofs.Ytgdcifllbfdbhaa.sixtyTells
