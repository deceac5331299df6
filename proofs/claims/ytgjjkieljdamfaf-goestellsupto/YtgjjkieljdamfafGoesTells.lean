/- GoesTells: for all cookies, all who ask and all moments, whose texts are bounded as the statement says: Live and Goes answer just what the document says. -/
import Derived.Test.YtgjjkieljdamfafGoesR
import Derived.Test.YtgjjkieljdamfafOpen
import Derived.Test.YtgjjkieljdamfafOpenF
import Derived.Test.YtgjjkieljdamfafRows
namespace Go.Proofs.Ytgjjkieljdamfaf.goesTells
open Go.ChangeShapes Go.WideShapes Go.ChangeAt Go.RowKit
open Go.ChangeMaps (open_string shut_string)
set_option linter.all false
set_option maxRecDepth 100000

theorem live_b (c : Ck) (t : Int) (b : Bool) (W : World) (h : liveB c t = b) : Calls Try.prog 8 #[.agg (ckC c).toArray, .int .i64 t] W fun e w' => e = .returned (.bool b) ∧ Below W.heap.size W w' := by subst h; exact live_any c t W
theorem isLive_b (c : Ck) (t : Int) (b : Bool) (W : World) (h : liveB c t = b) : Calls Try.prog 9 #[.agg (ckC c).toArray, .int .i64 t] W fun e w' => e = .returned (.bool b) ∧ Below W.heap.size W w' := by subst h; exact isLive_any c t W
theorem goes_b (c : Ck) (f : Fr) (t : Int) (b : Bool) (W : World) (h : goesL c f t = b) (hh : f.host.length ≤ maxLen) (hp : f.path.length ≤ maxLen) (hd : c.domain.length < maxLen) (hc : c.path.length ≤ maxLen) :
    Calls Try.prog 10 #[.agg (ckC c).toArray, .agg (frL f).toArray, .int .i64 t] W fun e w' => e = .returned (.bool b) ∧ Below W.heap.size W w' := by subst h; exact goes_any c f t W hh hp hd hc
theorem goesOf_b (c : Ck) (f : Fr) (t : Int) (b : Bool) (W : World) (h : goesL c f t = b) (hh : (f.host.length + 1) * 16 ≤ 140737488355328) (hp : f.path.length ≤ maxLen) (hd : c.domain.length ≤ maxLen) (hc : c.path.length ≤ maxLen) :
    Calls Try.prog 11 #[.agg (ckC c).toArray, .agg (frL f).toArray, .int .i64 t] W fun e w' => e = .returned (.bool b) ∧ Below W.heap.size W w' := by subst h; exact goesOf_any c f t W hh hp hd hc

set_option maxHeartbeats 4000000 in
theorem walk (c : Ck) (f : Fr) (now : Int) (w : World) (hco : CkOk maxLen c) (hfo : f.host.length ≤ maxLen ∧ f.path.length ≤ maxLen) (hnow : -9223372036854775808 ≤ now ∧ now ≤ 9223372036854775807) (hk : wCookie.bulk c + wFrom.bulk (f.host, f.path, f.secure, f.script, f.abroad) ≤ 1099511627776) :
    Calls Try.prog 3 #[.agg (ckC c).toArray, .agg (frL f).toArray, .int .i64 now] w fun e w' => e = .returned (.bool true) ∧ Below w.heap.size w w' := by
  have e1 : wFrom.bulk (f.host, f.path, f.secure, f.script, f.abroad) = (f.host.length + 1) + ((f.path.length + 1) + (1 + (1 + 1))) := rfl
  have e2 : wCookie.bulk c = (c.name.length + 1) + ((c.value.length + 1) + ((c.domain.length + 1) + ((c.path.length + 1) + (1 + (1 + (1 + (1 + (1 + (1 + (1 + (1 + 1))))))))))) := rfl
  have HH : Hid (f.host.length ≤ maxLen) := by show _ ≤ _; unfold maxLen; omega
  have HP : Hid (f.path.length ≤ maxLen) := by show _ ≤ _; unfold maxLen; omega
  have HD : Hid (c.domain.length < maxLen) := by show _ < _; unfold maxLen; omega
  have HD' : Hid (c.domain.length ≤ maxLen) := by show _ ≤ _; unfold maxLen; omega
  have HC : Hid (c.path.length ≤ maxLen) := by show _ ≤ _; unfold maxLen; omega
  have HM : Hid ((f.host.length + 1) * 16 ≤ 140737488355328) := by show _ ≤ _; omega
  clear hco hfo hnow hk e1 e2
  obtain ⟨b1, h1⟩ : ∃ b, liveB c now = b := ⟨_, rfl⟩
  obtain ⟨b2, h2⟩ : ∃ b, goesL c f now = b := ⟨_, rfl⟩
  have H1 : Hid _ := h1
  have H2 : Hid _ := h2
  clear h1 h2
  obtain ⟨W0, hW0⟩ : ∃ W0, W0 = ((w.alloc (.cells (ckC c).toArray 23)).alloc (.cells (frL f).toArray 25)) := ⟨_, rfl⟩
  have B0 : Hid (Below w.heap.size w W0) := by
    rw [hW0]
    exact ((Below.refl _ _).alloc (Nat.le_refl _) _).alloc (by simp) _
  have C0 : LRow W0 w.heap.size (ckC c) := by
    rw [hW0]
    exact (LRow.new w (ckC c) _).below ((Below.refl _ _).alloc (Nat.le_refl _) _) (by simp)
  have F0 : LRow W0 (w.heap.size + 1) (frL f) := by
    rw [hW0]
    have h := LRow.new (w.alloc (.cells (ckC c).toArray 23)) (frL f) 25
    rw [show (w.alloc (.cells (ckC c).toArray 23)).heap.size = w.heap.size + 1 from by simp] at h
    exact h
  have y0 : ∀ x : Ext W0, x.1.cell? ⟨w.heap.size, 0, none⟩ = some (.string (txt c.name)) := Ext.cell (C0.cell 0 rfl)
  have y1 : ∀ x : Ext W0, x.1.cell? ⟨w.heap.size, 1, none⟩ = some (.string (txt c.value)) := Ext.cell (C0.cell 1 rfl)
  have y2 : ∀ x : Ext W0, x.1.cell? ⟨w.heap.size, 2, none⟩ = some (.string (txt c.domain)) := Ext.cell (C0.cell 2 rfl)
  have y3 : ∀ x : Ext W0, x.1.cell? ⟨w.heap.size, 3, none⟩ = some (.string (txt c.path)) := Ext.cell (C0.cell 3 rfl)
  have y4 : ∀ x : Ext W0, x.1.cell? ⟨w.heap.size, 4, none⟩ = some (.bool c.hostOnly) := Ext.cell (C0.cell 4 rfl)
  have y5 : ∀ x : Ext W0, x.1.cell? ⟨w.heap.size, 5, none⟩ = some (.bool c.secure) := Ext.cell (C0.cell 5 rfl)
  have y6 : ∀ x : Ext W0, x.1.cell? ⟨w.heap.size, 6, none⟩ = some (.bool c.httpOnly) := Ext.cell (C0.cell 6 rfl)
  have y7 : ∀ x : Ext W0, x.1.cell? ⟨w.heap.size, 7, none⟩ = some (.bool c.lasting) := Ext.cell (C0.cell 7 rfl)
  have y8 : ∀ x : Ext W0, x.1.cell? ⟨w.heap.size, 8, none⟩ = some (.int .i64 c.site) := Ext.cell (C0.cell 8 rfl)
  have y9 : ∀ x : Ext W0, x.1.cell? ⟨w.heap.size, 9, none⟩ = some (.int .i64 c.expiry) := Ext.cell (C0.cell 9 rfl)
  have y10 : ∀ x : Ext W0, x.1.cell? ⟨w.heap.size, 10, none⟩ = some (.int .i64 c.created) := Ext.cell (C0.cell 10 rfl)
  have y11 : ∀ x : Ext W0, x.1.cell? ⟨w.heap.size, 11, none⟩ = some (.int .i64 c.used) := Ext.cell (C0.cell 11 rfl)
  have y12 : ∀ x : Ext W0, x.1.cell? ⟨w.heap.size, 12, none⟩ = some (.int .i64 c.no) := Ext.cell (C0.cell 12 rfl)
  have z0 : ∀ x : Ext W0, x.1.cell? ⟨w.heap.size + 1, 0, none⟩ = some (.string (txt f.host)) := Ext.cell (F0.cell 0 rfl)
  have z1 : ∀ x : Ext W0, x.1.cell? ⟨w.heap.size + 1, 1, none⟩ = some (.string (txt f.path)) := Ext.cell (F0.cell 1 rfl)
  have z2 : ∀ x : Ext W0, x.1.cell? ⟨w.heap.size + 1, 2, none⟩ = some (.bool f.secure) := Ext.cell (F0.cell 2 rfl)
  have z3 : ∀ x : Ext W0, x.1.cell? ⟨w.heap.size + 1, 3, none⟩ = some (.bool f.script) := Ext.cell (F0.cell 3 rfl)
  have z4 : ∀ x : Ext W0, x.1.cell? ⟨w.heap.size + 1, 4, none⟩ = some (.bool f.abroad) := Ext.cell (F0.cell 4 rfl)
  simp only [ckC, frL] at hW0 ⊢
  clear C0 F0
  cases b1 <;> cases b2
  all_goals
    go_enter Try.func3, Try.ntmps3
    go_wp2_with fail
    rw [← hW0]
    clear hW0
    refine wp_region_ext (by kernel_rfl) (by kernel_rfl) ?_
    go_big_quiet_step (first | (go_at_call 7; exact ext_call (goesBegun_any _)))
    repeat (go_big_quiet_step (first | rfl))
    go_big_quiet_step (first | (go_at_call 8; exact ext_call (live_b c now _ _ H1.out)))
    repeat (go_big_quiet_step (first | rfl))
    go_big_quiet_step (first | (go_at_call 9; exact ext_call (isLive_b c now _ _ H1.out)))
    repeat (go_big_quiet_step (first | rfl))
    go_big_quiet_step (first | (go_at_call 10; exact ext_call (goes_b c f now _ _ H2.out HH.out HP.out HD.out HC.out)))
    repeat (go_big_quiet_step (first | rfl))
    go_big_quiet_step (first | (go_at_call 11; exact ext_call (goesOf_b c f now _ _ H2.out HM.out HP.out HD'.out HC.out)))
    repeat (go_big_quiet_step (first | rfl))
    refine wpQuiet_nil ?_
    intro wx hwx
    obtain ⟨x, rfl⟩ := hwx
    go_wp2_with fail
    go_ret
    exact ⟨rfl, next B0.out x.2⟩
set_option maxRecDepth 100000 in
theorem lifted (os : Os) (started : os.Started) (H : Type) (enc : TypeId × Value → H) (F : Stop.Interp) :
    ReturnsInHanded {} Try.checked os 3 .any ((Rows.OpenSpec.upto Rows.goesTellsSpec).pre6 enc Try.prog Try.f3 Rows.goesTellsUptoRow.domain false) (((Rows.OpenSpec.upto Rows.goesTellsSpec).at F).post enc Try.prog Try.f3 false true false false) := by
  refine returnsInHanded_of_cond (C := Try.checked) (s := (Rows.OpenSpec.upto Rows.goesTellsSpec)) (k := Rows.uptoSmall) rfl own started (by kernel_rfl) Try.func3
    (OpenSpec.witness (enc := enc) (C := Try.checked) (s := (Rows.OpenSpec.upto Rows.goesTellsSpec)) (k := Rows.uptoSmall) rfl false ⟨#[], #[.agg #[.string ByteArray.empty, .string ByteArray.empty, .string ByteArray.empty, .string ByteArray.empty, .bool false, .bool false, .bool false, .bool false, .int .i64 0, .int .i64 0, .int .i64 0, .int .i64 0, .int .i64 0], .agg #[.string ByteArray.empty, .string ByteArray.empty, .bool false, .bool false, .bool false], .int .i64 0], []⟩ 8 (by kernel_rfl) (by kernel_rfl) (by kernel_rfl)
      (x := ([.agg [.lit (.string []), .lit (.string []), .lit (.string []), .lit (.string []), .lit (.bool false), .lit (.bool false), .lit (.bool false), .lit (.bool false), .lit (.int .i64 0), .lit (.int .i64 0), .lit (.int .i64 0), .lit (.int .i64 0), .lit (.int .i64 0)], .agg [.lit (.string []), .lit (.string []), .lit (.bool false), .lit (.bool false), .lit (.bool false)], .lit (.int .i64 0)], [], [])) (by kernel_rfl) rfl (by kernel_rfl)) ?_
  intro W base args ds gs before hval0 hW hcnd hk _
  have hval : ∀ (j : Nat) t v, Try.f3.params[j]? = some t → args[j]? = some v → Value.okWide Try.prog W .any base t v := hval0
  have hW' := hW
  obtain ⟨p, q, hA0, hV, rfl, hfz, hnd⟩ := hW
  have hA : DataW.TrodAll enc Try.prog W 0 (fun _ => true) true Try.f3.params.toList args.toList ds p := hA0
  rw [Try.params3] at hA hval
  obtain ⟨v0, vs0, d0, ds0, p0, q0, hargs, rfl, rfl, h0, r0⟩ := trodAll_cons hA
  obtain ⟨v1, vs1, d1, ds1, p1, q1, rfl, rfl, rfl, h1, r1⟩ := trodAll_cons r0
  obtain ⟨v2, vs2, d2, ds2, p2, q2, rfl, rfl, rfl, h2, r2⟩ := trodAll_cons r1
  obtain ⟨rfl, rfl, rfl⟩ := trodAll_nil r2
  obtain rfl : args = #[v0, v1, v2] := by cases args; simp_all
  obtain ⟨rfl, rfl⟩ := trodVars_none hV
  have k0 := h0
  have lt0 : ∀ x ∈ p0, x.block < W.heap.size := by obtain ⟨m, hm⟩ := k0; exact DataW.trod_lt m _ _ _ hm
  have k1 := h1
  have lt1 : ∀ x ∈ p1, x.block < W.heap.size := by obtain ⟨m, hm⟩ := k1; exact DataW.trod_lt m _ _ _ hm
  have k2 := h2
  have lt2 : ∀ x ∈ p2, x.block < W.heap.size := by obtain ⟨m, hm⟩ := k2; exact DataW.trod_lt m _ _ _ hm
  obtain ⟨l0, rfl, ok0, bk0⟩ := open_cookie (hval 0 23 v0 rfl rfl) k0 maxLen (fits_max _)
  obtain ⟨l1, rfl, ok1, bk1⟩ := open_from (hval 1 25 v1 rfl rfl) k1 maxLen (fits_max _)
  obtain ⟨x2, rfl, rfl, hp2, w2⟩ := open_int Try.underlying3 (hval 2 3 v2 rfl rfl) h2
  have b2 := i64_of w2
  have hbulk := bulk_of hk
  simp only [List.cons_append, List.nil_append, List.append_nil, Rows.uptoBulkAll] at hbulk
  have hbk0 := bk0
  have hbk1 := bk1
  clear hA0 hval0
  refine (walk l0 l1 x2 W ok0 ok1 b2 (by omega)).mono fun e W' ⟨he, bel⟩ => ?_
  subst he
  exact ⟨_, rfl, _, _, _, [], _, [], hW', trodAll_mk1 (shut_bool Try.underlying4 _), (trodAll_cons_mk (Below.trod laidOut (by kernel_rfl) (of_decide_eq_true (by kernel_rfl)) k0 bel lt0) (trodAll_cons_mk (Below.trod laidOut (by kernel_rfl) (of_decide_eq_true (by kernel_rfl)) k1 bel lt1) (trodAll_cons_mk (Below.trod laidOut (by kernel_rfl) (of_decide_eq_true (by kernel_rfl)) k2 bel lt2) trodAll_mk0))), rfl, bel.frame _, fun h => by cases h⟩

theorem proved : Rows.GoesTellsUptoSaid :=
  OpenClaim.holds_of_cond 3 Try.f3 rfl rfl rfl rfl rfl rfl rfl ⟨rfl, rfl, rfl, rfl, rfl⟩ rfl rfl rfl rfl rfl (by kernel_rfl) Try.func3 (by kernel_rfl)
    (of_decide_eq_true (by kernel_rfl)) (by unfold Func.isWrapper; first | (rw [if_pos (by decide +kernel)]; kernel_rfl) | (rw [if_neg (by decide +kernel)]; exact ⟨rfl, rfl⟩))
    (fun os started H enc _ F => lifted os started H enc F)
#print axioms proved
end Go.Proofs.Ytgjjkieljdamfaf.goesTells
