/- GrantLattice: for all three consents: the meet and the join are a lattice: both ways in whichever order, each absorbed by the other one, distributed; the meet is below both, the join above. No condition. -/
import Derived.Test.YtklpfbakjiaaoaaGrantK
import Derived.Test.YtklpfbakjiaaoaaGrantE
import Derived.Test.YtklpfbakjiaaoaaGrantF
import Derived.Test.YtklpfbakjiaaoaaGrantI
import Derived.Test.YtklpfbakjiaaoaaOpen
import Derived.Test.YtklpfbakjiaaoaaOpenG
import Derived.Test.YtklpfbakjiaaoaaRows
namespace Go.Proofs.Ytklpfbakjiaaoaa.grantLattice
open Go.ChangeShapes Go.WideShapes Go.ChangeAt Go.RowKit
open Go.ChangeMaps (open_string shut_string)
set_option linter.all false
set_option maxRecDepth 100000

theorem meet_ok {a b m : Cn} (ha : chC a = 0) (hb : chC b = 0) (hm : m = bothC (fun x y => x && y) a b) (w' : World) (u v : Value) (h1 : Rows w' u intF a.vs) (h2 : Rows w' v intF b.vs) :
    Calls Try.prog 7 #[.agg #[.int .i64 a.g, .bool a.b0, .bool a.b1, .bool a.b2, .bool a.b3, .bool a.b4, .bool a.b5, .bool a.b6, .bool a.b7, .bool a.b8, .bool a.b9, u], .agg #[.int .i64 b.g, .bool b.b0, .bool b.b1, .bool b.b2, .bool b.b3, .bool b.b4, .bool b.b5, .bool b.b6, .bool b.b7, .bool b.b8, .bool b.b9, v]] w' fun e w'' => ∃ s, e = .returned (.tuple #[.agg #[.int .i64 m.g, .bool m.b0, .bool m.b1, .bool m.b2, .bool m.b3, .bool m.b4, .bool m.b5, .bool m.b6, .bool m.b7, .bool m.b8, .bool m.b9, s], .int .i64 0]) ∧ Rows w'' s intF m.vs ∧ Below w'.heap.size w' w'' := by
  have h := meet_any a b u v w' h1 h2 (chC_cnOk ha).1 (chC_cnOk hb).1 (chC_cnOk ha).2 (chC_cnOk hb).2
  rw [(both_ok _ a b (bothE_of ha hb)).2.2.2, ← hm, bothE_of ha hb] at h
  exact h.mono fun e w'' ⟨v, h1, h2, h3⟩ => ⟨v, h1, Reads.of_own h2, h3⟩
theorem join_ok {a b m : Cn} (ha : chC a = 0) (hb : chC b = 0) (hm : m = bothC (fun x y => x || y) a b) (w' : World) (u v : Value) (h1 : Rows w' u intF a.vs) (h2 : Rows w' v intF b.vs) :
    Calls Try.prog 8 #[.agg #[.int .i64 a.g, .bool a.b0, .bool a.b1, .bool a.b2, .bool a.b3, .bool a.b4, .bool a.b5, .bool a.b6, .bool a.b7, .bool a.b8, .bool a.b9, u], .agg #[.int .i64 b.g, .bool b.b0, .bool b.b1, .bool b.b2, .bool b.b3, .bool b.b4, .bool b.b5, .bool b.b6, .bool b.b7, .bool b.b8, .bool b.b9, v]] w' fun e w'' => ∃ s, e = .returned (.tuple #[.agg #[.int .i64 m.g, .bool m.b0, .bool m.b1, .bool m.b2, .bool m.b3, .bool m.b4, .bool m.b5, .bool m.b6, .bool m.b7, .bool m.b8, .bool m.b9, s], .int .i64 0]) ∧ Rows w'' s intF m.vs ∧ Below w'.heap.size w' w'' := by
  have h := join_any a b u v w' h1 h2 (chC_cnOk ha).1 (chC_cnOk hb).1 (chC_cnOk ha).2 (chC_cnOk hb).2
  rw [(both_ok _ a b (bothE_of ha hb)).2.2.2, ← hm, bothE_of ha hb] at h
  exact h.mono fun e w'' ⟨v, h1, h2, h3⟩ => ⟨v, h1, Reads.of_own h2, h3⟩
theorem less_ok {a b : Cn} (ha : CnOk a) (hb : CnOk b) (hl : lessC a b = true) (w' : World) (u v : Value) (h1 : Rows w' u intF a.vs) (h2 : Rows w' v intF b.vs) : Calls Try.prog 16 #[.agg #[.int .i64 a.g, .bool a.b0, .bool a.b1, .bool a.b2, .bool a.b3, .bool a.b4, .bool a.b5, .bool a.b6, .bool a.b7, .bool a.b8, .bool a.b9, u], .agg #[.int .i64 b.g, .bool b.b0, .bool b.b1, .bool b.b2, .bool b.b3, .bool b.b4, .bool b.b5, .bool b.b6, .bool b.b7, .bool b.b8, .bool b.b9, v]] w' fun e w'' => e = .returned (.bool true) ∧ Below w'.heap.size w' w'' := by
  have h := less_any a b u v w' h1 h2 ha.1 hb.1 ha.2 hb.2
  rw [hl] at h
  exact h
theorem same_ok {a : Cn} (ha : CnOk a) (w' : World) (u v : Value) (h1 : Rows w' u intF a.vs) (h2 : Rows w' v intF a.vs) : Calls Try.prog 18 #[.agg #[.int .i64 a.g, .bool a.b0, .bool a.b1, .bool a.b2, .bool a.b3, .bool a.b4, .bool a.b5, .bool a.b6, .bool a.b7, .bool a.b8, .bool a.b9, u], .agg #[.int .i64 a.g, .bool a.b0, .bool a.b1, .bool a.b2, .bool a.b3, .bool a.b4, .bool a.b5, .bool a.b6, .bool a.b7, .bool a.b8, .bool a.b9, v]] w' fun e w'' => e = .returned (.bool true) ∧ Below w'.heap.size w' w'' := by
  have h := sameC_any a a u v w' h1 h2 ha.max ha.max
  rw [(sameC_iff a a).2 rfl] at h
  exact h
/-- behind the three checks -/
theorem letters {a b c : Cn} (ha : chC a = 0) (hb : chC b = 0) (hc : chC c = 0) : ∃ m j x y bc p ac : Cn, m = bothC (fun x y => x && y) a b ∧ m = bothC (fun x y => x && y) b a ∧ j = bothC (fun x y => x || y) a b ∧ j = bothC (fun x y => x || y) b a ∧ x = bothC (fun x y => x || y) a m ∧ y = bothC (fun x y => x && y) a j ∧ bc = bothC (fun x y => x || y) b c ∧ p = bothC (fun x y => x && y) a bc ∧ ac = bothC (fun x y => x && y) a c ∧ p = bothC (fun x y => x || y) m ac ∧ (chC m = 0 ∧ chC j = 0 ∧ chC x = 0 ∧ chC y = 0 ∧ chC bc = 0 ∧ chC p = 0 ∧ chC ac = 0) ∧ lessC m a = true ∧ lessC m b = true ∧ lessC a j = true ∧ lessC b j = true ∧ lessC x a = true ∧ lessC a x = true ∧ lessC y a = true ∧ lessC a y = true := by
  have ok : ∀ (op : Bool → Bool → Bool) (a b : Cn), chC a = 0 → chC b = 0 → chC (bothC op a b) = 0 := fun op a b ha hb => (both_ok op a b (bothE_of ha hb)).2.2.1
  have hm := ok (fun x y => x && y) a b ha hb
  have hj := ok (fun x y => x || y) a b ha hb
  have hbc := ok (fun x y => x || y) b c hb hc
  refine ⟨_, _, _, _, _, _, _, rfl, both_comm _ (fun x y => Bool.and_comm x y) a b, rfl, both_comm _ (fun x y => Bool.or_comm x y) a b, rfl, rfl, rfl, rfl, rfl, distribute ha hb hc, ⟨hm, hj, ok _ _ _ ha hm, ok _ _ _ ha hj, hbc, ok _ _ _ ha hbc, ok _ _ _ ha hc⟩, (meet_less ha).1, (meet_less ha).2, (less_join ha hb).1, (less_join ha hb).2, absorb_join ha hm (meet_less ha).1, (less_join ha hm).1, (meet_less ha).1, absorb_meet ha (less_join ha hb).1⟩
set_option maxHeartbeats 16000000 in
theorem walk (a : Cn) (va : Value) (b : Cn) (vb : Value) (c : Cn) (vc : Value) (w : World) (ra : Rows w va intF a.vs) (oa : a.vs.length ≤ 140737488351232 ∧ inR a.vs ∧ (-9223372036854775808 ≤ a.g ∧ a.g ≤ 9223372036854775807)) (rb : Rows w vb intF b.vs) (ob : b.vs.length ≤ 140737488351232 ∧ inR b.vs ∧ (-9223372036854775808 ≤ b.g ∧ b.g ≤ 9223372036854775807)) (rc : Rows w vc intF c.vs) (oc : c.vs.length ≤ 140737488351232 ∧ inR c.vs ∧ (-9223372036854775808 ≤ c.g ∧ c.g ≤ 9223372036854775807)) :
    Calls Try.prog 4 #[.agg #[.int .i64 a.g, .bool a.b0, .bool a.b1, .bool a.b2, .bool a.b3, .bool a.b4, .bool a.b5, .bool a.b6, .bool a.b7, .bool a.b8, .bool a.b9, va], .agg #[.int .i64 b.g, .bool b.b0, .bool b.b1, .bool b.b2, .bool b.b3, .bool b.b4, .bool b.b5, .bool b.b6, .bool b.b7, .bool b.b8, .bool b.b9, vb], .agg #[.int .i64 c.g, .bool c.b0, .bool c.b1, .bool c.b2, .bool c.b3, .bool c.b4, .bool c.b5, .bool c.b6, .bool c.b7, .bool c.b8, .bool c.b9, vc]] w fun e w' => e = .returned (.bool true) ∧ Below w.heap.size w w' := by
  have oka : CnOk a := ⟨oa.1, oa.2.1⟩
  have okb : CnOk b := ⟨ob.1, ob.2.1⟩
  have okc : CnOk c := ⟨oc.1, oc.2.1⟩
  obtain ⟨za, hza⟩ : ∃ z, z = chC a := ⟨_, rfl⟩
  obtain ⟨zb, hzb⟩ : ∃ z, z = chC b := ⟨_, rfl⟩
  obtain ⟨zc, hzc⟩ : ∃ z, z = chC c := ⟨_, rfl⟩
  have KCA : Hid (∀ w' u, Rows w' u intF a.vs → Calls Try.prog 19 #[.agg #[.int .i64 a.g, .bool a.b0, .bool a.b1, .bool a.b2, .bool a.b3, .bool a.b4, .bool a.b5, .bool a.b6, .bool a.b7, .bool a.b8, .bool a.b9, u]] w' fun e w'' => e = .returned (.int .i64 za) ∧ Below w'.heap.size w' w'') := fun w' u h1 => by rw [hza]; exact check_any a u w' h1 oka.max
  have KCB : Hid (∀ w' u, Rows w' u intF b.vs → Calls Try.prog 19 #[.agg #[.int .i64 b.g, .bool b.b0, .bool b.b1, .bool b.b2, .bool b.b3, .bool b.b4, .bool b.b5, .bool b.b6, .bool b.b7, .bool b.b8, .bool b.b9, u]] w' fun e w'' => e = .returned (.int .i64 zb) ∧ Below w'.heap.size w' w'') := fun w' u h1 => by rw [hzb]; exact check_any b u w' h1 okb.max
  have KCC : Hid (∀ w' u, Rows w' u intF c.vs → Calls Try.prog 19 #[.agg #[.int .i64 c.g, .bool c.b0, .bool c.b1, .bool c.b2, .bool c.b3, .bool c.b4, .bool c.b5, .bool c.b6, .bool c.b7, .bool c.b8, .bool c.b9, u]] w' fun e w'' => e = .returned (.int .i64 zc) ∧ Below w'.heap.size w' w'') := fun w' u h1 => by rw [hzc]; exact check_any c u w' h1 okc.max
  have HZA : Hid _ := hza
  have HZB : Hid _ := hzb
  have HZC : Hid _ := hzc
  obtain ⟨W0, hW0⟩ : ∃ W0, W0 = ((w.alloc (.cells #[.int .i64 a.g, .bool a.b0, .bool a.b1, .bool a.b2, .bool a.b3, .bool a.b4, .bool a.b5, .bool a.b6, .bool a.b7, .bool a.b8, .bool a.b9, va] 25)).alloc (.cells #[.int .i64 b.g, .bool b.b0, .bool b.b1, .bool b.b2, .bool b.b3, .bool b.b4, .bool b.b5, .bool b.b6, .bool b.b7, .bool b.b8, .bool b.b9, vb] 25)).alloc (.cells #[.int .i64 c.g, .bool c.b0, .bool c.b1, .bool c.b2, .bool c.b3, .bool c.b4, .bool c.b5, .bool c.b6, .bool c.b7, .bool c.b8, .bool c.b9, vc] 25) := ⟨_, rfl⟩
  have A : Hid (CB W0 w.heap.size a va) := by rw [hW0]; exact ((CB.new w a va 25 ra).below (below_new _ _)).below (below_new _ _)
  have B : Hid (CB W0 (w.heap.size + 1) b vb) := by
    rw [hW0]
    have h := CB.new (w.alloc (.cells #[.int .i64 a.g, .bool a.b0, .bool a.b1, .bool a.b2, .bool a.b3, .bool a.b4, .bool a.b5, .bool a.b6, .bool a.b7, .bool a.b8, .bool a.b9, va] 25)) b vb 25 (Rows.below rb (below_new _ _) (Nat.le_refl _))
    rw [show (w.alloc (.cells #[.int .i64 a.g, .bool a.b0, .bool a.b1, .bool a.b2, .bool a.b3, .bool a.b4, .bool a.b5, .bool a.b6, .bool a.b7, .bool a.b8, .bool a.b9, va] 25)).heap.size = w.heap.size + 1 from by simp] at h
    exact h.below (below_new _ _)
  have C : Hid (CB W0 (w.heap.size + 1 + 1) c vc) := by
    rw [hW0]
    have h := CB.new ((w.alloc (.cells #[.int .i64 a.g, .bool a.b0, .bool a.b1, .bool a.b2, .bool a.b3, .bool a.b4, .bool a.b5, .bool a.b6, .bool a.b7, .bool a.b8, .bool a.b9, va] 25)).alloc (.cells #[.int .i64 b.g, .bool b.b0, .bool b.b1, .bool b.b2, .bool b.b3, .bool b.b4, .bool b.b5, .bool b.b6, .bool b.b7, .bool b.b8, .bool b.b9, vb] 25)) c vc 25 (Rows.below (Rows.below rc (below_new _ _) (Nat.le_refl _)) (below_new _ _) (Nat.le_refl _))
    rw [show ((w.alloc (.cells #[.int .i64 a.g, .bool a.b0, .bool a.b1, .bool a.b2, .bool a.b3, .bool a.b4, .bool a.b5, .bool a.b6, .bool a.b7, .bool a.b8, .bool a.b9, va] 25)).alloc (.cells #[.int .i64 b.g, .bool b.b0, .bool b.b1, .bool b.b2, .bool b.b3, .bool b.b4, .bool b.b5, .bool b.b6, .bool b.b7, .bool b.b8, .bool b.b9, vb] 25)).heap.size = w.heap.size + 1 + 1 from by simp] at h
    exact h
  have S : Hid (Below w.heap.size w W0) := by rw [hW0]; exact next (next (below_new _ _) (below_new _ _)) (below_new _ _)
  have HW0 : Hid _ := hW0
  clear hza hzb hzc ra rb rc oa ob oc oka okb okc hW0
  go_enter Try.func4, Try.ntmps4
  go_upto_region 1 with fail
  rw [← HW0.out]
  clear HW0
  go_wp2_with fail
  refine (grantBegun_any _).mono ?_
  rintro e Wa ⟨rfl, hba⟩
  replace A : Hid (CB Wa w.heap.size a va) := A.out.below hba
  replace B : Hid (CB Wa (w.heap.size + 1) b vb) := B.out.below hba
  replace C : Hid (CB Wa (w.heap.size + 1 + 1) c vc) := C.out.below hba
  replace S : Hid (Below w.heap.size w Wa) := next S.out hba
  clear hba
  have x0 := A.out.row.cell 0 rfl
  have x1 := A.out.row.cell 1 rfl
  have x2 := A.out.row.cell 2 rfl
  have x3 := A.out.row.cell 3 rfl
  have x4 := A.out.row.cell 4 rfl
  have x5 := A.out.row.cell 5 rfl
  have x6 := A.out.row.cell 6 rfl
  have x7 := A.out.row.cell 7 rfl
  have x8 := A.out.row.cell 8 rfl
  have x9 := A.out.row.cell 9 rfl
  have x10 := A.out.row.cell 10 rfl
  have x11 := A.out.row.cell 11 rfl
  go_wp2_with fail
  refine (KCA.out _ _ A.out.rows).mono ?_
  rintro e Wb ⟨rfl, hb⟩
  clear x0 x1 x2 x3 x4 x5 x6 x7 x8 x9 x10 x11
  replace A : Hid (CB Wb w.heap.size a va) := A.out.below hb
  replace B : Hid (CB Wb (w.heap.size + 1) b vb) := B.out.below hb
  replace C : Hid (CB Wb (w.heap.size + 1 + 1) c vc) := C.out.below hb
  replace S : Hid (Below w.heap.size w Wb) := next S.out hb
  clear hb
  by_cases qza : za = 0
  rotate_left
  · have qq : (za != 0) = true := by rw [bne_iff_ne]; exact qza
    clear qza
    go_wp2_with fail
    go_ret
    exact ⟨rfl, S.out⟩
  have qqza : (za != 0) = false := by rw [qza]; rfl
  have Qza : Hid _ := qza
  clear qza
  have x0 := B.out.row.cell 0 rfl
  have x1 := B.out.row.cell 1 rfl
  have x2 := B.out.row.cell 2 rfl
  have x3 := B.out.row.cell 3 rfl
  have x4 := B.out.row.cell 4 rfl
  have x5 := B.out.row.cell 5 rfl
  have x6 := B.out.row.cell 6 rfl
  have x7 := B.out.row.cell 7 rfl
  have x8 := B.out.row.cell 8 rfl
  have x9 := B.out.row.cell 9 rfl
  have x10 := B.out.row.cell 10 rfl
  have x11 := B.out.row.cell 11 rfl
  go_wp2_with fail
  refine (KCB.out _ _ B.out.rows).mono ?_
  rintro e Wc ⟨rfl, hb⟩
  clear x0 x1 x2 x3 x4 x5 x6 x7 x8 x9 x10 x11
  replace A : Hid (CB Wc w.heap.size a va) := A.out.below hb
  replace B : Hid (CB Wc (w.heap.size + 1) b vb) := B.out.below hb
  replace C : Hid (CB Wc (w.heap.size + 1 + 1) c vc) := C.out.below hb
  replace S : Hid (Below w.heap.size w Wc) := next S.out hb
  clear hb
  by_cases qzb : zb = 0
  rotate_left
  · have qq : (zb != 0) = true := by rw [bne_iff_ne]; exact qzb
    clear qzb
    go_wp2_with fail
    go_ret
    exact ⟨rfl, S.out⟩
  have qqzb : (zb != 0) = false := by rw [qzb]; rfl
  have Qzb : Hid _ := qzb
  clear qzb
  have x0 := C.out.row.cell 0 rfl
  have x1 := C.out.row.cell 1 rfl
  have x2 := C.out.row.cell 2 rfl
  have x3 := C.out.row.cell 3 rfl
  have x4 := C.out.row.cell 4 rfl
  have x5 := C.out.row.cell 5 rfl
  have x6 := C.out.row.cell 6 rfl
  have x7 := C.out.row.cell 7 rfl
  have x8 := C.out.row.cell 8 rfl
  have x9 := C.out.row.cell 9 rfl
  have x10 := C.out.row.cell 10 rfl
  have x11 := C.out.row.cell 11 rfl
  go_wp2_with fail
  refine (KCC.out _ _ C.out.rows).mono ?_
  rintro e Wd ⟨rfl, hb⟩
  clear x0 x1 x2 x3 x4 x5 x6 x7 x8 x9 x10 x11
  replace A : Hid (CB Wd w.heap.size a va) := A.out.below hb
  replace B : Hid (CB Wd (w.heap.size + 1) b vb) := B.out.below hb
  replace C : Hid (CB Wd (w.heap.size + 1 + 1) c vc) := C.out.below hb
  replace S : Hid (Below w.heap.size w Wd) := next S.out hb
  clear hb
  by_cases qzc : zc = 0
  rotate_left
  · have qq : (zc != 0) = true := by rw [bne_iff_ne]; exact qzc
    clear qzc
    go_wp2_with fail
    go_ret
    exact ⟨rfl, S.out⟩
  have qqzc : (zc != 0) = false := by rw [qzc]; rfl
  have Qzc : Hid _ := qzc
  clear qzc
  have ha : chC a = 0 := by rw [← HZA.out]; exact Qza.out
  have hb : chC b = 0 := by rw [← HZB.out]; exact Qzb.out
  have hc : chC c = 0 := by rw [← HZC.out]; exact Qzc.out
  obtain ⟨m, j, x, y, bc, p, ac, em, em2, ej, ej2, ex, ey, ebc, ep, eac, ep2, ⟨hm, hj, hx, hy, hbc, hp, hac⟩, l1, l2, l3, l4, l5, l6, l7, l8⟩ := letters ha hb hc
  have KM : Hid (∀ w' u v, Rows w' u intF a.vs → Rows w' v intF b.vs → Calls Try.prog 7 #[.agg #[.int .i64 a.g, .bool a.b0, .bool a.b1, .bool a.b2, .bool a.b3, .bool a.b4, .bool a.b5, .bool a.b6, .bool a.b7, .bool a.b8, .bool a.b9, u], .agg #[.int .i64 b.g, .bool b.b0, .bool b.b1, .bool b.b2, .bool b.b3, .bool b.b4, .bool b.b5, .bool b.b6, .bool b.b7, .bool b.b8, .bool b.b9, v]] w' fun e w'' => ∃ s, e = .returned (.tuple #[.agg #[.int .i64 m.g, .bool m.b0, .bool m.b1, .bool m.b2, .bool m.b3, .bool m.b4, .bool m.b5, .bool m.b6, .bool m.b7, .bool m.b8, .bool m.b9, s], .int .i64 0]) ∧ Rows w'' s intF m.vs ∧ Below w'.heap.size w' w'') := meet_ok ha hb em
  have KM2 : Hid (∀ w' u v, Rows w' u intF b.vs → Rows w' v intF a.vs → Calls Try.prog 7 #[.agg #[.int .i64 b.g, .bool b.b0, .bool b.b1, .bool b.b2, .bool b.b3, .bool b.b4, .bool b.b5, .bool b.b6, .bool b.b7, .bool b.b8, .bool b.b9, u], .agg #[.int .i64 a.g, .bool a.b0, .bool a.b1, .bool a.b2, .bool a.b3, .bool a.b4, .bool a.b5, .bool a.b6, .bool a.b7, .bool a.b8, .bool a.b9, v]] w' fun e w'' => ∃ s, e = .returned (.tuple #[.agg #[.int .i64 m.g, .bool m.b0, .bool m.b1, .bool m.b2, .bool m.b3, .bool m.b4, .bool m.b5, .bool m.b6, .bool m.b7, .bool m.b8, .bool m.b9, s], .int .i64 0]) ∧ Rows w'' s intF m.vs ∧ Below w'.heap.size w' w'') := meet_ok hb ha em2
  have KJ : Hid (∀ w' u v, Rows w' u intF a.vs → Rows w' v intF b.vs → Calls Try.prog 8 #[.agg #[.int .i64 a.g, .bool a.b0, .bool a.b1, .bool a.b2, .bool a.b3, .bool a.b4, .bool a.b5, .bool a.b6, .bool a.b7, .bool a.b8, .bool a.b9, u], .agg #[.int .i64 b.g, .bool b.b0, .bool b.b1, .bool b.b2, .bool b.b3, .bool b.b4, .bool b.b5, .bool b.b6, .bool b.b7, .bool b.b8, .bool b.b9, v]] w' fun e w'' => ∃ s, e = .returned (.tuple #[.agg #[.int .i64 j.g, .bool j.b0, .bool j.b1, .bool j.b2, .bool j.b3, .bool j.b4, .bool j.b5, .bool j.b6, .bool j.b7, .bool j.b8, .bool j.b9, s], .int .i64 0]) ∧ Rows w'' s intF j.vs ∧ Below w'.heap.size w' w'') := join_ok ha hb ej
  have KJ2 : Hid (∀ w' u v, Rows w' u intF b.vs → Rows w' v intF a.vs → Calls Try.prog 8 #[.agg #[.int .i64 b.g, .bool b.b0, .bool b.b1, .bool b.b2, .bool b.b3, .bool b.b4, .bool b.b5, .bool b.b6, .bool b.b7, .bool b.b8, .bool b.b9, u], .agg #[.int .i64 a.g, .bool a.b0, .bool a.b1, .bool a.b2, .bool a.b3, .bool a.b4, .bool a.b5, .bool a.b6, .bool a.b7, .bool a.b8, .bool a.b9, v]] w' fun e w'' => ∃ s, e = .returned (.tuple #[.agg #[.int .i64 j.g, .bool j.b0, .bool j.b1, .bool j.b2, .bool j.b3, .bool j.b4, .bool j.b5, .bool j.b6, .bool j.b7, .bool j.b8, .bool j.b9, s], .int .i64 0]) ∧ Rows w'' s intF j.vs ∧ Below w'.heap.size w' w'') := join_ok hb ha ej2
  have KX : Hid (∀ w' u v, Rows w' u intF a.vs → Rows w' v intF m.vs → Calls Try.prog 8 #[.agg #[.int .i64 a.g, .bool a.b0, .bool a.b1, .bool a.b2, .bool a.b3, .bool a.b4, .bool a.b5, .bool a.b6, .bool a.b7, .bool a.b8, .bool a.b9, u], .agg #[.int .i64 m.g, .bool m.b0, .bool m.b1, .bool m.b2, .bool m.b3, .bool m.b4, .bool m.b5, .bool m.b6, .bool m.b7, .bool m.b8, .bool m.b9, v]] w' fun e w'' => ∃ s, e = .returned (.tuple #[.agg #[.int .i64 x.g, .bool x.b0, .bool x.b1, .bool x.b2, .bool x.b3, .bool x.b4, .bool x.b5, .bool x.b6, .bool x.b7, .bool x.b8, .bool x.b9, s], .int .i64 0]) ∧ Rows w'' s intF x.vs ∧ Below w'.heap.size w' w'') := join_ok ha hm ex
  have KY : Hid (∀ w' u v, Rows w' u intF a.vs → Rows w' v intF j.vs → Calls Try.prog 7 #[.agg #[.int .i64 a.g, .bool a.b0, .bool a.b1, .bool a.b2, .bool a.b3, .bool a.b4, .bool a.b5, .bool a.b6, .bool a.b7, .bool a.b8, .bool a.b9, u], .agg #[.int .i64 j.g, .bool j.b0, .bool j.b1, .bool j.b2, .bool j.b3, .bool j.b4, .bool j.b5, .bool j.b6, .bool j.b7, .bool j.b8, .bool j.b9, v]] w' fun e w'' => ∃ s, e = .returned (.tuple #[.agg #[.int .i64 y.g, .bool y.b0, .bool y.b1, .bool y.b2, .bool y.b3, .bool y.b4, .bool y.b5, .bool y.b6, .bool y.b7, .bool y.b8, .bool y.b9, s], .int .i64 0]) ∧ Rows w'' s intF y.vs ∧ Below w'.heap.size w' w'') := meet_ok ha hj ey
  have KBC : Hid (∀ w' u v, Rows w' u intF b.vs → Rows w' v intF c.vs → Calls Try.prog 8 #[.agg #[.int .i64 b.g, .bool b.b0, .bool b.b1, .bool b.b2, .bool b.b3, .bool b.b4, .bool b.b5, .bool b.b6, .bool b.b7, .bool b.b8, .bool b.b9, u], .agg #[.int .i64 c.g, .bool c.b0, .bool c.b1, .bool c.b2, .bool c.b3, .bool c.b4, .bool c.b5, .bool c.b6, .bool c.b7, .bool c.b8, .bool c.b9, v]] w' fun e w'' => ∃ s, e = .returned (.tuple #[.agg #[.int .i64 bc.g, .bool bc.b0, .bool bc.b1, .bool bc.b2, .bool bc.b3, .bool bc.b4, .bool bc.b5, .bool bc.b6, .bool bc.b7, .bool bc.b8, .bool bc.b9, s], .int .i64 0]) ∧ Rows w'' s intF bc.vs ∧ Below w'.heap.size w' w'') := join_ok hb hc ebc
  have KP : Hid (∀ w' u v, Rows w' u intF a.vs → Rows w' v intF bc.vs → Calls Try.prog 7 #[.agg #[.int .i64 a.g, .bool a.b0, .bool a.b1, .bool a.b2, .bool a.b3, .bool a.b4, .bool a.b5, .bool a.b6, .bool a.b7, .bool a.b8, .bool a.b9, u], .agg #[.int .i64 bc.g, .bool bc.b0, .bool bc.b1, .bool bc.b2, .bool bc.b3, .bool bc.b4, .bool bc.b5, .bool bc.b6, .bool bc.b7, .bool bc.b8, .bool bc.b9, v]] w' fun e w'' => ∃ s, e = .returned (.tuple #[.agg #[.int .i64 p.g, .bool p.b0, .bool p.b1, .bool p.b2, .bool p.b3, .bool p.b4, .bool p.b5, .bool p.b6, .bool p.b7, .bool p.b8, .bool p.b9, s], .int .i64 0]) ∧ Rows w'' s intF p.vs ∧ Below w'.heap.size w' w'') := meet_ok ha hbc ep
  have KAC : Hid (∀ w' u v, Rows w' u intF a.vs → Rows w' v intF c.vs → Calls Try.prog 7 #[.agg #[.int .i64 a.g, .bool a.b0, .bool a.b1, .bool a.b2, .bool a.b3, .bool a.b4, .bool a.b5, .bool a.b6, .bool a.b7, .bool a.b8, .bool a.b9, u], .agg #[.int .i64 c.g, .bool c.b0, .bool c.b1, .bool c.b2, .bool c.b3, .bool c.b4, .bool c.b5, .bool c.b6, .bool c.b7, .bool c.b8, .bool c.b9, v]] w' fun e w'' => ∃ s, e = .returned (.tuple #[.agg #[.int .i64 ac.g, .bool ac.b0, .bool ac.b1, .bool ac.b2, .bool ac.b3, .bool ac.b4, .bool ac.b5, .bool ac.b6, .bool ac.b7, .bool ac.b8, .bool ac.b9, s], .int .i64 0]) ∧ Rows w'' s intF ac.vs ∧ Below w'.heap.size w' w'') := meet_ok ha hc eac
  have KQ : Hid (∀ w' u v, Rows w' u intF m.vs → Rows w' v intF ac.vs → Calls Try.prog 8 #[.agg #[.int .i64 m.g, .bool m.b0, .bool m.b1, .bool m.b2, .bool m.b3, .bool m.b4, .bool m.b5, .bool m.b6, .bool m.b7, .bool m.b8, .bool m.b9, u], .agg #[.int .i64 ac.g, .bool ac.b0, .bool ac.b1, .bool ac.b2, .bool ac.b3, .bool ac.b4, .bool ac.b5, .bool ac.b6, .bool ac.b7, .bool ac.b8, .bool ac.b9, v]] w' fun e w'' => ∃ s, e = .returned (.tuple #[.agg #[.int .i64 p.g, .bool p.b0, .bool p.b1, .bool p.b2, .bool p.b3, .bool p.b4, .bool p.b5, .bool p.b6, .bool p.b7, .bool p.b8, .bool p.b9, s], .int .i64 0]) ∧ Rows w'' s intF p.vs ∧ Below w'.heap.size w' w'') := join_ok hm hac ep2
  have SM : Hid (∀ w' u v, Rows w' u intF m.vs → Rows w' v intF m.vs → Calls Try.prog 18 #[.agg #[.int .i64 m.g, .bool m.b0, .bool m.b1, .bool m.b2, .bool m.b3, .bool m.b4, .bool m.b5, .bool m.b6, .bool m.b7, .bool m.b8, .bool m.b9, u], .agg #[.int .i64 m.g, .bool m.b0, .bool m.b1, .bool m.b2, .bool m.b3, .bool m.b4, .bool m.b5, .bool m.b6, .bool m.b7, .bool m.b8, .bool m.b9, v]] w' fun e w'' => e = .returned (.bool true) ∧ Below w'.heap.size w' w'') := same_ok (chC_cnOk hm)
  have SJ : Hid (∀ w' u v, Rows w' u intF j.vs → Rows w' v intF j.vs → Calls Try.prog 18 #[.agg #[.int .i64 j.g, .bool j.b0, .bool j.b1, .bool j.b2, .bool j.b3, .bool j.b4, .bool j.b5, .bool j.b6, .bool j.b7, .bool j.b8, .bool j.b9, u], .agg #[.int .i64 j.g, .bool j.b0, .bool j.b1, .bool j.b2, .bool j.b3, .bool j.b4, .bool j.b5, .bool j.b6, .bool j.b7, .bool j.b8, .bool j.b9, v]] w' fun e w'' => e = .returned (.bool true) ∧ Below w'.heap.size w' w'') := same_ok (chC_cnOk hj)
  have SP : Hid (∀ w' u v, Rows w' u intF p.vs → Rows w' v intF p.vs → Calls Try.prog 18 #[.agg #[.int .i64 p.g, .bool p.b0, .bool p.b1, .bool p.b2, .bool p.b3, .bool p.b4, .bool p.b5, .bool p.b6, .bool p.b7, .bool p.b8, .bool p.b9, u], .agg #[.int .i64 p.g, .bool p.b0, .bool p.b1, .bool p.b2, .bool p.b3, .bool p.b4, .bool p.b5, .bool p.b6, .bool p.b7, .bool p.b8, .bool p.b9, v]] w' fun e w'' => e = .returned (.bool true) ∧ Below w'.heap.size w' w'') := same_ok (chC_cnOk hp)
  have L1 : Hid (∀ w' u v, Rows w' u intF m.vs → Rows w' v intF a.vs → Calls Try.prog 16 #[.agg #[.int .i64 m.g, .bool m.b0, .bool m.b1, .bool m.b2, .bool m.b3, .bool m.b4, .bool m.b5, .bool m.b6, .bool m.b7, .bool m.b8, .bool m.b9, u], .agg #[.int .i64 a.g, .bool a.b0, .bool a.b1, .bool a.b2, .bool a.b3, .bool a.b4, .bool a.b5, .bool a.b6, .bool a.b7, .bool a.b8, .bool a.b9, v]] w' fun e w'' => e = .returned (.bool true) ∧ Below w'.heap.size w' w'') := less_ok (chC_cnOk hm) (chC_cnOk ha) l1
  have L2 : Hid (∀ w' u v, Rows w' u intF m.vs → Rows w' v intF b.vs → Calls Try.prog 16 #[.agg #[.int .i64 m.g, .bool m.b0, .bool m.b1, .bool m.b2, .bool m.b3, .bool m.b4, .bool m.b5, .bool m.b6, .bool m.b7, .bool m.b8, .bool m.b9, u], .agg #[.int .i64 b.g, .bool b.b0, .bool b.b1, .bool b.b2, .bool b.b3, .bool b.b4, .bool b.b5, .bool b.b6, .bool b.b7, .bool b.b8, .bool b.b9, v]] w' fun e w'' => e = .returned (.bool true) ∧ Below w'.heap.size w' w'') := less_ok (chC_cnOk hm) (chC_cnOk hb) l2
  have L3 : Hid (∀ w' u v, Rows w' u intF a.vs → Rows w' v intF j.vs → Calls Try.prog 16 #[.agg #[.int .i64 a.g, .bool a.b0, .bool a.b1, .bool a.b2, .bool a.b3, .bool a.b4, .bool a.b5, .bool a.b6, .bool a.b7, .bool a.b8, .bool a.b9, u], .agg #[.int .i64 j.g, .bool j.b0, .bool j.b1, .bool j.b2, .bool j.b3, .bool j.b4, .bool j.b5, .bool j.b6, .bool j.b7, .bool j.b8, .bool j.b9, v]] w' fun e w'' => e = .returned (.bool true) ∧ Below w'.heap.size w' w'') := less_ok (chC_cnOk ha) (chC_cnOk hj) l3
  have L4 : Hid (∀ w' u v, Rows w' u intF b.vs → Rows w' v intF j.vs → Calls Try.prog 16 #[.agg #[.int .i64 b.g, .bool b.b0, .bool b.b1, .bool b.b2, .bool b.b3, .bool b.b4, .bool b.b5, .bool b.b6, .bool b.b7, .bool b.b8, .bool b.b9, u], .agg #[.int .i64 j.g, .bool j.b0, .bool j.b1, .bool j.b2, .bool j.b3, .bool j.b4, .bool j.b5, .bool j.b6, .bool j.b7, .bool j.b8, .bool j.b9, v]] w' fun e w'' => e = .returned (.bool true) ∧ Below w'.heap.size w' w'') := less_ok (chC_cnOk hb) (chC_cnOk hj) l4
  have L5 : Hid (∀ w' u v, Rows w' u intF x.vs → Rows w' v intF a.vs → Calls Try.prog 16 #[.agg #[.int .i64 x.g, .bool x.b0, .bool x.b1, .bool x.b2, .bool x.b3, .bool x.b4, .bool x.b5, .bool x.b6, .bool x.b7, .bool x.b8, .bool x.b9, u], .agg #[.int .i64 a.g, .bool a.b0, .bool a.b1, .bool a.b2, .bool a.b3, .bool a.b4, .bool a.b5, .bool a.b6, .bool a.b7, .bool a.b8, .bool a.b9, v]] w' fun e w'' => e = .returned (.bool true) ∧ Below w'.heap.size w' w'') := less_ok (chC_cnOk hx) (chC_cnOk ha) l5
  have L6 : Hid (∀ w' u v, Rows w' u intF a.vs → Rows w' v intF x.vs → Calls Try.prog 16 #[.agg #[.int .i64 a.g, .bool a.b0, .bool a.b1, .bool a.b2, .bool a.b3, .bool a.b4, .bool a.b5, .bool a.b6, .bool a.b7, .bool a.b8, .bool a.b9, u], .agg #[.int .i64 x.g, .bool x.b0, .bool x.b1, .bool x.b2, .bool x.b3, .bool x.b4, .bool x.b5, .bool x.b6, .bool x.b7, .bool x.b8, .bool x.b9, v]] w' fun e w'' => e = .returned (.bool true) ∧ Below w'.heap.size w' w'') := less_ok (chC_cnOk ha) (chC_cnOk hx) l6
  have L7 : Hid (∀ w' u v, Rows w' u intF y.vs → Rows w' v intF a.vs → Calls Try.prog 16 #[.agg #[.int .i64 y.g, .bool y.b0, .bool y.b1, .bool y.b2, .bool y.b3, .bool y.b4, .bool y.b5, .bool y.b6, .bool y.b7, .bool y.b8, .bool y.b9, u], .agg #[.int .i64 a.g, .bool a.b0, .bool a.b1, .bool a.b2, .bool a.b3, .bool a.b4, .bool a.b5, .bool a.b6, .bool a.b7, .bool a.b8, .bool a.b9, v]] w' fun e w'' => e = .returned (.bool true) ∧ Below w'.heap.size w' w'') := less_ok (chC_cnOk hy) (chC_cnOk ha) l7
  have L8 : Hid (∀ w' u v, Rows w' u intF a.vs → Rows w' v intF y.vs → Calls Try.prog 16 #[.agg #[.int .i64 a.g, .bool a.b0, .bool a.b1, .bool a.b2, .bool a.b3, .bool a.b4, .bool a.b5, .bool a.b6, .bool a.b7, .bool a.b8, .bool a.b9, u], .agg #[.int .i64 y.g, .bool y.b0, .bool y.b1, .bool y.b2, .bool y.b3, .bool y.b4, .bool y.b5, .bool y.b6, .bool y.b7, .bool y.b8, .bool y.b9, v]] w' fun e w'' => e = .returned (.bool true) ∧ Below w'.heap.size w' w'') := less_ok (chC_cnOk ha) (chC_cnOk hy) l8
  clear KCA KCB KCC HZA HZB HZC Qza Qzb Qzc ha hb hc em em2 ej ej2 ex ey ebc ep eac ep2 hm hj hx hy hbc hp hac l1 l2 l3 l4 l5 l6 l7 l8
  go_upto_region 5 with fail
  clear qqza qqzb qqzc
  have x0 := A.out.row.cell 0 rfl
  have x1 := A.out.row.cell 1 rfl
  have x2 := A.out.row.cell 2 rfl
  have x3 := A.out.row.cell 3 rfl
  have x4 := A.out.row.cell 4 rfl
  have x5 := A.out.row.cell 5 rfl
  have x6 := A.out.row.cell 6 rfl
  have x7 := A.out.row.cell 7 rfl
  have x8 := A.out.row.cell 8 rfl
  have x9 := A.out.row.cell 9 rfl
  have x10 := A.out.row.cell 10 rfl
  have x11 := A.out.row.cell 11 rfl
  have y0 := B.out.row.cell 0 rfl
  have y1 := B.out.row.cell 1 rfl
  have y2 := B.out.row.cell 2 rfl
  have y3 := B.out.row.cell 3 rfl
  have y4 := B.out.row.cell 4 rfl
  have y5 := B.out.row.cell 5 rfl
  have y6 := B.out.row.cell 6 rfl
  have y7 := B.out.row.cell 7 rfl
  have y8 := B.out.row.cell 8 rfl
  have y9 := B.out.row.cell 9 rfl
  have y10 := B.out.row.cell 10 rfl
  have y11 := B.out.row.cell 11 rfl
  go_wp2_with fail
  refine (KM.out _ _ _ A.out.rows B.out.rows).mono ?_
  rintro e v1 ⟨s1, rfl, r1, hb1⟩
  obtain ⟨ad1, cap1, rfl⟩ := r1.shape
  clear x0 y0 x1 y1 x2 y2 x3 y3 x4 y4 x5 y5 x6 y6 x7 y7 x8 y8 x9 y9 x10 y10 x11 y11
  obtain ⟨W1, hW1⟩ : ∃ W1, W1 = v1.alloc (.cells #[.int .i64 m.g, .bool m.b0, .bool m.b1, .bool m.b2, .bool m.b3, .bool m.b4, .bool m.b5, .bool m.b6, .bool m.b7, .bool m.b8, .bool m.b9, (.slice ad1 m.vs.length cap1)] 25) := ⟨_, rfl⟩
  have hc1 : Below Wd.heap.size Wd W1 := by rw [hW1]; exact next hb1 (below_new _ _)
  replace A : Hid (CB W1 w.heap.size a va) := A.out.below hc1
  replace B : Hid (CB W1 (w.heap.size + 1) b vb) := B.out.below hc1
  replace C : Hid (CB W1 (w.heap.size + 1 + 1) c vc) := C.out.below hc1
  replace S : Hid (Below w.heap.size w W1) := next S.out hc1
  have AB : Hid (CB W1 v1.heap.size m (.slice ad1 m.vs.length cap1)) := by rw [hW1]; exact CB.new v1 m _ 25 r1
  have HW1 : Hid _ := hW1
  clear r1 hb1 hc1 hW1
  go_upto_region 6 with fail
  rw [← HW1.out]
  clear HW1
  have x0 := B.out.row.cell 0 rfl
  have x1 := B.out.row.cell 1 rfl
  have x2 := B.out.row.cell 2 rfl
  have x3 := B.out.row.cell 3 rfl
  have x4 := B.out.row.cell 4 rfl
  have x5 := B.out.row.cell 5 rfl
  have x6 := B.out.row.cell 6 rfl
  have x7 := B.out.row.cell 7 rfl
  have x8 := B.out.row.cell 8 rfl
  have x9 := B.out.row.cell 9 rfl
  have x10 := B.out.row.cell 10 rfl
  have x11 := B.out.row.cell 11 rfl
  have y0 := A.out.row.cell 0 rfl
  have y1 := A.out.row.cell 1 rfl
  have y2 := A.out.row.cell 2 rfl
  have y3 := A.out.row.cell 3 rfl
  have y4 := A.out.row.cell 4 rfl
  have y5 := A.out.row.cell 5 rfl
  have y6 := A.out.row.cell 6 rfl
  have y7 := A.out.row.cell 7 rfl
  have y8 := A.out.row.cell 8 rfl
  have y9 := A.out.row.cell 9 rfl
  have y10 := A.out.row.cell 10 rfl
  have y11 := A.out.row.cell 11 rfl
  go_wp2_with fail
  refine (KM2.out _ _ _ B.out.rows A.out.rows).mono ?_
  rintro e v2 ⟨s2, rfl, r2, hb2⟩
  obtain ⟨ad2, cap2, rfl⟩ := r2.shape
  clear x0 y0 x1 y1 x2 y2 x3 y3 x4 y4 x5 y5 x6 y6 x7 y7 x8 y8 x9 y9 x10 y10 x11 y11
  obtain ⟨W2, hW2⟩ : ∃ W2, W2 = v2.alloc (.cells #[.int .i64 m.g, .bool m.b0, .bool m.b1, .bool m.b2, .bool m.b3, .bool m.b4, .bool m.b5, .bool m.b6, .bool m.b7, .bool m.b8, .bool m.b9, (.slice ad2 m.vs.length cap2)] 25) := ⟨_, rfl⟩
  have hc2 : Below W1.heap.size W1 W2 := by rw [hW2]; exact next hb2 (below_new _ _)
  replace A : Hid (CB W2 w.heap.size a va) := A.out.below hc2
  replace B : Hid (CB W2 (w.heap.size + 1) b vb) := B.out.below hc2
  replace C : Hid (CB W2 (w.heap.size + 1 + 1) c vc) := C.out.below hc2
  replace AB : Hid (CB W2 v1.heap.size m (.slice ad1 m.vs.length cap1)) := AB.out.below hc2
  replace S : Hid (Below w.heap.size w W2) := next S.out hc2
  have BA : Hid (CB W2 v2.heap.size m (.slice ad2 m.vs.length cap2)) := by rw [hW2]; exact CB.new v2 m _ 25 r2
  have HW2 : Hid _ := hW2
  clear r2 hb2 hc2 hW2
  go_upto_region 7 with fail
  rw [← HW2.out]
  clear HW2
  have x0 := A.out.row.cell 0 rfl
  have x1 := A.out.row.cell 1 rfl
  have x2 := A.out.row.cell 2 rfl
  have x3 := A.out.row.cell 3 rfl
  have x4 := A.out.row.cell 4 rfl
  have x5 := A.out.row.cell 5 rfl
  have x6 := A.out.row.cell 6 rfl
  have x7 := A.out.row.cell 7 rfl
  have x8 := A.out.row.cell 8 rfl
  have x9 := A.out.row.cell 9 rfl
  have x10 := A.out.row.cell 10 rfl
  have x11 := A.out.row.cell 11 rfl
  have y0 := B.out.row.cell 0 rfl
  have y1 := B.out.row.cell 1 rfl
  have y2 := B.out.row.cell 2 rfl
  have y3 := B.out.row.cell 3 rfl
  have y4 := B.out.row.cell 4 rfl
  have y5 := B.out.row.cell 5 rfl
  have y6 := B.out.row.cell 6 rfl
  have y7 := B.out.row.cell 7 rfl
  have y8 := B.out.row.cell 8 rfl
  have y9 := B.out.row.cell 9 rfl
  have y10 := B.out.row.cell 10 rfl
  have y11 := B.out.row.cell 11 rfl
  go_wp2_with fail
  refine (KJ.out _ _ _ A.out.rows B.out.rows).mono ?_
  rintro e v3 ⟨s3, rfl, r3, hb3⟩
  obtain ⟨ad3, cap3, rfl⟩ := r3.shape
  clear x0 y0 x1 y1 x2 y2 x3 y3 x4 y4 x5 y5 x6 y6 x7 y7 x8 y8 x9 y9 x10 y10 x11 y11
  obtain ⟨W3, hW3⟩ : ∃ W3, W3 = v3.alloc (.cells #[.int .i64 j.g, .bool j.b0, .bool j.b1, .bool j.b2, .bool j.b3, .bool j.b4, .bool j.b5, .bool j.b6, .bool j.b7, .bool j.b8, .bool j.b9, (.slice ad3 j.vs.length cap3)] 25) := ⟨_, rfl⟩
  have hc3 : Below W2.heap.size W2 W3 := by rw [hW3]; exact next hb3 (below_new _ _)
  replace A : Hid (CB W3 w.heap.size a va) := A.out.below hc3
  replace B : Hid (CB W3 (w.heap.size + 1) b vb) := B.out.below hc3
  replace C : Hid (CB W3 (w.heap.size + 1 + 1) c vc) := C.out.below hc3
  replace AB : Hid (CB W3 v1.heap.size m (.slice ad1 m.vs.length cap1)) := AB.out.below hc3
  replace BA : Hid (CB W3 v2.heap.size m (.slice ad2 m.vs.length cap2)) := BA.out.below hc3
  replace S : Hid (Below w.heap.size w W3) := next S.out hc3
  have J : Hid (CB W3 v3.heap.size j (.slice ad3 j.vs.length cap3)) := by rw [hW3]; exact CB.new v3 j _ 25 r3
  have HW3 : Hid _ := hW3
  clear r3 hb3 hc3 hW3
  go_upto_region 8 with fail
  rw [← HW3.out]
  clear HW3
  have x0 := B.out.row.cell 0 rfl
  have x1 := B.out.row.cell 1 rfl
  have x2 := B.out.row.cell 2 rfl
  have x3 := B.out.row.cell 3 rfl
  have x4 := B.out.row.cell 4 rfl
  have x5 := B.out.row.cell 5 rfl
  have x6 := B.out.row.cell 6 rfl
  have x7 := B.out.row.cell 7 rfl
  have x8 := B.out.row.cell 8 rfl
  have x9 := B.out.row.cell 9 rfl
  have x10 := B.out.row.cell 10 rfl
  have x11 := B.out.row.cell 11 rfl
  have y0 := A.out.row.cell 0 rfl
  have y1 := A.out.row.cell 1 rfl
  have y2 := A.out.row.cell 2 rfl
  have y3 := A.out.row.cell 3 rfl
  have y4 := A.out.row.cell 4 rfl
  have y5 := A.out.row.cell 5 rfl
  have y6 := A.out.row.cell 6 rfl
  have y7 := A.out.row.cell 7 rfl
  have y8 := A.out.row.cell 8 rfl
  have y9 := A.out.row.cell 9 rfl
  have y10 := A.out.row.cell 10 rfl
  have y11 := A.out.row.cell 11 rfl
  go_wp2_with fail
  refine (KJ2.out _ _ _ B.out.rows A.out.rows).mono ?_
  rintro e v4 ⟨s4, rfl, r4, hb4⟩
  obtain ⟨ad4, cap4, rfl⟩ := r4.shape
  clear x0 y0 x1 y1 x2 y2 x3 y3 x4 y4 x5 y5 x6 y6 x7 y7 x8 y8 x9 y9 x10 y10 x11 y11
  obtain ⟨W4, hW4⟩ : ∃ W4, W4 = v4.alloc (.cells #[.int .i64 j.g, .bool j.b0, .bool j.b1, .bool j.b2, .bool j.b3, .bool j.b4, .bool j.b5, .bool j.b6, .bool j.b7, .bool j.b8, .bool j.b9, (.slice ad4 j.vs.length cap4)] 25) := ⟨_, rfl⟩
  have hc4 : Below W3.heap.size W3 W4 := by rw [hW4]; exact next hb4 (below_new _ _)
  replace A : Hid (CB W4 w.heap.size a va) := A.out.below hc4
  replace B : Hid (CB W4 (w.heap.size + 1) b vb) := B.out.below hc4
  replace C : Hid (CB W4 (w.heap.size + 1 + 1) c vc) := C.out.below hc4
  replace AB : Hid (CB W4 v1.heap.size m (.slice ad1 m.vs.length cap1)) := AB.out.below hc4
  replace BA : Hid (CB W4 v2.heap.size m (.slice ad2 m.vs.length cap2)) := BA.out.below hc4
  replace J : Hid (CB W4 v3.heap.size j (.slice ad3 j.vs.length cap3)) := J.out.below hc4
  replace S : Hid (Below w.heap.size w W4) := next S.out hc4
  have K : Hid (CB W4 v4.heap.size j (.slice ad4 j.vs.length cap4)) := by rw [hW4]; exact CB.new v4 j _ 25 r4
  have HW4 : Hid _ := hW4
  clear r4 hb4 hc4 hW4
  go_upto_region 9 with fail
  rw [← HW4.out]
  clear HW4
  have x0 := AB.out.row.cell 0 rfl
  have x1 := AB.out.row.cell 1 rfl
  have x2 := AB.out.row.cell 2 rfl
  have x3 := AB.out.row.cell 3 rfl
  have x4 := AB.out.row.cell 4 rfl
  have x5 := AB.out.row.cell 5 rfl
  have x6 := AB.out.row.cell 6 rfl
  have x7 := AB.out.row.cell 7 rfl
  have x8 := AB.out.row.cell 8 rfl
  have x9 := AB.out.row.cell 9 rfl
  have x10 := AB.out.row.cell 10 rfl
  have x11 := AB.out.row.cell 11 rfl
  have y0 := BA.out.row.cell 0 rfl
  have y1 := BA.out.row.cell 1 rfl
  have y2 := BA.out.row.cell 2 rfl
  have y3 := BA.out.row.cell 3 rfl
  have y4 := BA.out.row.cell 4 rfl
  have y5 := BA.out.row.cell 5 rfl
  have y6 := BA.out.row.cell 6 rfl
  have y7 := BA.out.row.cell 7 rfl
  have y8 := BA.out.row.cell 8 rfl
  have y9 := BA.out.row.cell 9 rfl
  have y10 := BA.out.row.cell 10 rfl
  have y11 := BA.out.row.cell 11 rfl
  go_wp2_with fail
  refine (SM.out _ _ _ AB.out.rows BA.out.rows).mono ?_
  rintro e W5 ⟨rfl, hb5⟩
  clear x0 x1 x2 x3 x4 x5 x6 x7 x8 x9 x10 x11 y0 y1 y2 y3 y4 y5 y6 y7 y8 y9 y10 y11
  replace A : Hid (CB W5 w.heap.size a va) := A.out.below hb5
  replace B : Hid (CB W5 (w.heap.size + 1) b vb) := B.out.below hb5
  replace C : Hid (CB W5 (w.heap.size + 1 + 1) c vc) := C.out.below hb5
  replace AB : Hid (CB W5 v1.heap.size m (.slice ad1 m.vs.length cap1)) := AB.out.below hb5
  replace BA : Hid (CB W5 v2.heap.size m (.slice ad2 m.vs.length cap2)) := BA.out.below hb5
  replace J : Hid (CB W5 v3.heap.size j (.slice ad3 j.vs.length cap3)) := J.out.below hb5
  replace K : Hid (CB W5 v4.heap.size j (.slice ad4 j.vs.length cap4)) := K.out.below hb5
  replace S : Hid (Below w.heap.size w W5) := next S.out hb5
  clear hb5
  have x0 := J.out.row.cell 0 rfl
  have x1 := J.out.row.cell 1 rfl
  have x2 := J.out.row.cell 2 rfl
  have x3 := J.out.row.cell 3 rfl
  have x4 := J.out.row.cell 4 rfl
  have x5 := J.out.row.cell 5 rfl
  have x6 := J.out.row.cell 6 rfl
  have x7 := J.out.row.cell 7 rfl
  have x8 := J.out.row.cell 8 rfl
  have x9 := J.out.row.cell 9 rfl
  have x10 := J.out.row.cell 10 rfl
  have x11 := J.out.row.cell 11 rfl
  have y0 := K.out.row.cell 0 rfl
  have y1 := K.out.row.cell 1 rfl
  have y2 := K.out.row.cell 2 rfl
  have y3 := K.out.row.cell 3 rfl
  have y4 := K.out.row.cell 4 rfl
  have y5 := K.out.row.cell 5 rfl
  have y6 := K.out.row.cell 6 rfl
  have y7 := K.out.row.cell 7 rfl
  have y8 := K.out.row.cell 8 rfl
  have y9 := K.out.row.cell 9 rfl
  have y10 := K.out.row.cell 10 rfl
  have y11 := K.out.row.cell 11 rfl
  go_wp2_with fail
  refine (SJ.out _ _ _ J.out.rows K.out.rows).mono ?_
  rintro e W6 ⟨rfl, hb6⟩
  clear x0 x1 x2 x3 x4 x5 x6 x7 x8 x9 x10 x11 y0 y1 y2 y3 y4 y5 y6 y7 y8 y9 y10 y11
  replace A : Hid (CB W6 w.heap.size a va) := A.out.below hb6
  replace B : Hid (CB W6 (w.heap.size + 1) b vb) := B.out.below hb6
  replace C : Hid (CB W6 (w.heap.size + 1 + 1) c vc) := C.out.below hb6
  replace AB : Hid (CB W6 v1.heap.size m (.slice ad1 m.vs.length cap1)) := AB.out.below hb6
  replace BA : Hid (CB W6 v2.heap.size m (.slice ad2 m.vs.length cap2)) := BA.out.below hb6
  replace J : Hid (CB W6 v3.heap.size j (.slice ad3 j.vs.length cap3)) := J.out.below hb6
  replace K : Hid (CB W6 v4.heap.size j (.slice ad4 j.vs.length cap4)) := K.out.below hb6
  replace S : Hid (Below w.heap.size w W6) := next S.out hb6
  clear hb6
  go_upto_region 11 with fail
  clear BA K
  have x0 := AB.out.row.cell 0 rfl
  have x1 := AB.out.row.cell 1 rfl
  have x2 := AB.out.row.cell 2 rfl
  have x3 := AB.out.row.cell 3 rfl
  have x4 := AB.out.row.cell 4 rfl
  have x5 := AB.out.row.cell 5 rfl
  have x6 := AB.out.row.cell 6 rfl
  have x7 := AB.out.row.cell 7 rfl
  have x8 := AB.out.row.cell 8 rfl
  have x9 := AB.out.row.cell 9 rfl
  have x10 := AB.out.row.cell 10 rfl
  have x11 := AB.out.row.cell 11 rfl
  have y0 := A.out.row.cell 0 rfl
  have y1 := A.out.row.cell 1 rfl
  have y2 := A.out.row.cell 2 rfl
  have y3 := A.out.row.cell 3 rfl
  have y4 := A.out.row.cell 4 rfl
  have y5 := A.out.row.cell 5 rfl
  have y6 := A.out.row.cell 6 rfl
  have y7 := A.out.row.cell 7 rfl
  have y8 := A.out.row.cell 8 rfl
  have y9 := A.out.row.cell 9 rfl
  have y10 := A.out.row.cell 10 rfl
  have y11 := A.out.row.cell 11 rfl
  go_wp2_with fail
  refine (L1.out _ _ _ AB.out.rows A.out.rows).mono ?_
  rintro e W7 ⟨rfl, hb7⟩
  clear x0 x1 x2 x3 x4 x5 x6 x7 x8 x9 x10 x11 y0 y1 y2 y3 y4 y5 y6 y7 y8 y9 y10 y11
  replace A : Hid (CB W7 w.heap.size a va) := A.out.below hb7
  replace B : Hid (CB W7 (w.heap.size + 1) b vb) := B.out.below hb7
  replace C : Hid (CB W7 (w.heap.size + 1 + 1) c vc) := C.out.below hb7
  replace AB : Hid (CB W7 v1.heap.size m (.slice ad1 m.vs.length cap1)) := AB.out.below hb7
  replace J : Hid (CB W7 v3.heap.size j (.slice ad3 j.vs.length cap3)) := J.out.below hb7
  replace S : Hid (Below w.heap.size w W7) := next S.out hb7
  clear hb7
  have x0 := AB.out.row.cell 0 rfl
  have x1 := AB.out.row.cell 1 rfl
  have x2 := AB.out.row.cell 2 rfl
  have x3 := AB.out.row.cell 3 rfl
  have x4 := AB.out.row.cell 4 rfl
  have x5 := AB.out.row.cell 5 rfl
  have x6 := AB.out.row.cell 6 rfl
  have x7 := AB.out.row.cell 7 rfl
  have x8 := AB.out.row.cell 8 rfl
  have x9 := AB.out.row.cell 9 rfl
  have x10 := AB.out.row.cell 10 rfl
  have x11 := AB.out.row.cell 11 rfl
  have y0 := B.out.row.cell 0 rfl
  have y1 := B.out.row.cell 1 rfl
  have y2 := B.out.row.cell 2 rfl
  have y3 := B.out.row.cell 3 rfl
  have y4 := B.out.row.cell 4 rfl
  have y5 := B.out.row.cell 5 rfl
  have y6 := B.out.row.cell 6 rfl
  have y7 := B.out.row.cell 7 rfl
  have y8 := B.out.row.cell 8 rfl
  have y9 := B.out.row.cell 9 rfl
  have y10 := B.out.row.cell 10 rfl
  have y11 := B.out.row.cell 11 rfl
  go_wp2_with fail
  refine (L2.out _ _ _ AB.out.rows B.out.rows).mono ?_
  rintro e W8 ⟨rfl, hb8⟩
  clear x0 x1 x2 x3 x4 x5 x6 x7 x8 x9 x10 x11 y0 y1 y2 y3 y4 y5 y6 y7 y8 y9 y10 y11
  replace A : Hid (CB W8 w.heap.size a va) := A.out.below hb8
  replace B : Hid (CB W8 (w.heap.size + 1) b vb) := B.out.below hb8
  replace C : Hid (CB W8 (w.heap.size + 1 + 1) c vc) := C.out.below hb8
  replace AB : Hid (CB W8 v1.heap.size m (.slice ad1 m.vs.length cap1)) := AB.out.below hb8
  replace J : Hid (CB W8 v3.heap.size j (.slice ad3 j.vs.length cap3)) := J.out.below hb8
  replace S : Hid (Below w.heap.size w W8) := next S.out hb8
  clear hb8
  have x0 := A.out.row.cell 0 rfl
  have x1 := A.out.row.cell 1 rfl
  have x2 := A.out.row.cell 2 rfl
  have x3 := A.out.row.cell 3 rfl
  have x4 := A.out.row.cell 4 rfl
  have x5 := A.out.row.cell 5 rfl
  have x6 := A.out.row.cell 6 rfl
  have x7 := A.out.row.cell 7 rfl
  have x8 := A.out.row.cell 8 rfl
  have x9 := A.out.row.cell 9 rfl
  have x10 := A.out.row.cell 10 rfl
  have x11 := A.out.row.cell 11 rfl
  have y0 := J.out.row.cell 0 rfl
  have y1 := J.out.row.cell 1 rfl
  have y2 := J.out.row.cell 2 rfl
  have y3 := J.out.row.cell 3 rfl
  have y4 := J.out.row.cell 4 rfl
  have y5 := J.out.row.cell 5 rfl
  have y6 := J.out.row.cell 6 rfl
  have y7 := J.out.row.cell 7 rfl
  have y8 := J.out.row.cell 8 rfl
  have y9 := J.out.row.cell 9 rfl
  have y10 := J.out.row.cell 10 rfl
  have y11 := J.out.row.cell 11 rfl
  go_wp2_with fail
  refine (L3.out _ _ _ A.out.rows J.out.rows).mono ?_
  rintro e W9 ⟨rfl, hb9⟩
  clear x0 x1 x2 x3 x4 x5 x6 x7 x8 x9 x10 x11 y0 y1 y2 y3 y4 y5 y6 y7 y8 y9 y10 y11
  replace A : Hid (CB W9 w.heap.size a va) := A.out.below hb9
  replace B : Hid (CB W9 (w.heap.size + 1) b vb) := B.out.below hb9
  replace C : Hid (CB W9 (w.heap.size + 1 + 1) c vc) := C.out.below hb9
  replace AB : Hid (CB W9 v1.heap.size m (.slice ad1 m.vs.length cap1)) := AB.out.below hb9
  replace J : Hid (CB W9 v3.heap.size j (.slice ad3 j.vs.length cap3)) := J.out.below hb9
  replace S : Hid (Below w.heap.size w W9) := next S.out hb9
  clear hb9
  have x0 := B.out.row.cell 0 rfl
  have x1 := B.out.row.cell 1 rfl
  have x2 := B.out.row.cell 2 rfl
  have x3 := B.out.row.cell 3 rfl
  have x4 := B.out.row.cell 4 rfl
  have x5 := B.out.row.cell 5 rfl
  have x6 := B.out.row.cell 6 rfl
  have x7 := B.out.row.cell 7 rfl
  have x8 := B.out.row.cell 8 rfl
  have x9 := B.out.row.cell 9 rfl
  have x10 := B.out.row.cell 10 rfl
  have x11 := B.out.row.cell 11 rfl
  have y0 := J.out.row.cell 0 rfl
  have y1 := J.out.row.cell 1 rfl
  have y2 := J.out.row.cell 2 rfl
  have y3 := J.out.row.cell 3 rfl
  have y4 := J.out.row.cell 4 rfl
  have y5 := J.out.row.cell 5 rfl
  have y6 := J.out.row.cell 6 rfl
  have y7 := J.out.row.cell 7 rfl
  have y8 := J.out.row.cell 8 rfl
  have y9 := J.out.row.cell 9 rfl
  have y10 := J.out.row.cell 10 rfl
  have y11 := J.out.row.cell 11 rfl
  go_wp2_with fail
  refine (L4.out _ _ _ B.out.rows J.out.rows).mono ?_
  rintro e W10 ⟨rfl, hb10⟩
  clear x0 x1 x2 x3 x4 x5 x6 x7 x8 x9 x10 x11 y0 y1 y2 y3 y4 y5 y6 y7 y8 y9 y10 y11
  replace A : Hid (CB W10 w.heap.size a va) := A.out.below hb10
  replace B : Hid (CB W10 (w.heap.size + 1) b vb) := B.out.below hb10
  replace C : Hid (CB W10 (w.heap.size + 1 + 1) c vc) := C.out.below hb10
  replace AB : Hid (CB W10 v1.heap.size m (.slice ad1 m.vs.length cap1)) := AB.out.below hb10
  replace J : Hid (CB W10 v3.heap.size j (.slice ad3 j.vs.length cap3)) := J.out.below hb10
  replace S : Hid (Below w.heap.size w W10) := next S.out hb10
  clear hb10
  go_upto_region 13 with fail
  have x0 := A.out.row.cell 0 rfl
  have x1 := A.out.row.cell 1 rfl
  have x2 := A.out.row.cell 2 rfl
  have x3 := A.out.row.cell 3 rfl
  have x4 := A.out.row.cell 4 rfl
  have x5 := A.out.row.cell 5 rfl
  have x6 := A.out.row.cell 6 rfl
  have x7 := A.out.row.cell 7 rfl
  have x8 := A.out.row.cell 8 rfl
  have x9 := A.out.row.cell 9 rfl
  have x10 := A.out.row.cell 10 rfl
  have x11 := A.out.row.cell 11 rfl
  have y0 := AB.out.row.cell 0 rfl
  have y1 := AB.out.row.cell 1 rfl
  have y2 := AB.out.row.cell 2 rfl
  have y3 := AB.out.row.cell 3 rfl
  have y4 := AB.out.row.cell 4 rfl
  have y5 := AB.out.row.cell 5 rfl
  have y6 := AB.out.row.cell 6 rfl
  have y7 := AB.out.row.cell 7 rfl
  have y8 := AB.out.row.cell 8 rfl
  have y9 := AB.out.row.cell 9 rfl
  have y10 := AB.out.row.cell 10 rfl
  have y11 := AB.out.row.cell 11 rfl
  go_wp2_with fail
  refine (KX.out _ _ _ A.out.rows AB.out.rows).mono ?_
  rintro e v11 ⟨s11, rfl, r11, hb11⟩
  obtain ⟨ad11, cap11, rfl⟩ := r11.shape
  clear x0 y0 x1 y1 x2 y2 x3 y3 x4 y4 x5 y5 x6 y6 x7 y7 x8 y8 x9 y9 x10 y10 x11 y11
  obtain ⟨W11, hW11⟩ : ∃ W11, W11 = v11.alloc (.cells #[.int .i64 x.g, .bool x.b0, .bool x.b1, .bool x.b2, .bool x.b3, .bool x.b4, .bool x.b5, .bool x.b6, .bool x.b7, .bool x.b8, .bool x.b9, (.slice ad11 x.vs.length cap11)] 25) := ⟨_, rfl⟩
  have hc11 : Below W10.heap.size W10 W11 := by rw [hW11]; exact next hb11 (below_new _ _)
  replace A : Hid (CB W11 w.heap.size a va) := A.out.below hc11
  replace B : Hid (CB W11 (w.heap.size + 1) b vb) := B.out.below hc11
  replace C : Hid (CB W11 (w.heap.size + 1 + 1) c vc) := C.out.below hc11
  replace AB : Hid (CB W11 v1.heap.size m (.slice ad1 m.vs.length cap1)) := AB.out.below hc11
  replace J : Hid (CB W11 v3.heap.size j (.slice ad3 j.vs.length cap3)) := J.out.below hc11
  replace S : Hid (Below w.heap.size w W11) := next S.out hc11
  have X : Hid (CB W11 v11.heap.size x (.slice ad11 x.vs.length cap11)) := by rw [hW11]; exact CB.new v11 x _ 25 r11
  have HW11 : Hid _ := hW11
  clear r11 hb11 hc11 hW11
  go_upto_region 14 with fail
  rw [← HW11.out]
  clear HW11
  have x0 := A.out.row.cell 0 rfl
  have x1 := A.out.row.cell 1 rfl
  have x2 := A.out.row.cell 2 rfl
  have x3 := A.out.row.cell 3 rfl
  have x4 := A.out.row.cell 4 rfl
  have x5 := A.out.row.cell 5 rfl
  have x6 := A.out.row.cell 6 rfl
  have x7 := A.out.row.cell 7 rfl
  have x8 := A.out.row.cell 8 rfl
  have x9 := A.out.row.cell 9 rfl
  have x10 := A.out.row.cell 10 rfl
  have x11 := A.out.row.cell 11 rfl
  have y0 := J.out.row.cell 0 rfl
  have y1 := J.out.row.cell 1 rfl
  have y2 := J.out.row.cell 2 rfl
  have y3 := J.out.row.cell 3 rfl
  have y4 := J.out.row.cell 4 rfl
  have y5 := J.out.row.cell 5 rfl
  have y6 := J.out.row.cell 6 rfl
  have y7 := J.out.row.cell 7 rfl
  have y8 := J.out.row.cell 8 rfl
  have y9 := J.out.row.cell 9 rfl
  have y10 := J.out.row.cell 10 rfl
  have y11 := J.out.row.cell 11 rfl
  go_wp2_with fail
  refine (KY.out _ _ _ A.out.rows J.out.rows).mono ?_
  rintro e v12 ⟨s12, rfl, r12, hb12⟩
  obtain ⟨ad12, cap12, rfl⟩ := r12.shape
  clear x0 y0 x1 y1 x2 y2 x3 y3 x4 y4 x5 y5 x6 y6 x7 y7 x8 y8 x9 y9 x10 y10 x11 y11
  obtain ⟨W12, hW12⟩ : ∃ W12, W12 = v12.alloc (.cells #[.int .i64 y.g, .bool y.b0, .bool y.b1, .bool y.b2, .bool y.b3, .bool y.b4, .bool y.b5, .bool y.b6, .bool y.b7, .bool y.b8, .bool y.b9, (.slice ad12 y.vs.length cap12)] 25) := ⟨_, rfl⟩
  have hc12 : Below W11.heap.size W11 W12 := by rw [hW12]; exact next hb12 (below_new _ _)
  replace A : Hid (CB W12 w.heap.size a va) := A.out.below hc12
  replace B : Hid (CB W12 (w.heap.size + 1) b vb) := B.out.below hc12
  replace C : Hid (CB W12 (w.heap.size + 1 + 1) c vc) := C.out.below hc12
  replace AB : Hid (CB W12 v1.heap.size m (.slice ad1 m.vs.length cap1)) := AB.out.below hc12
  replace J : Hid (CB W12 v3.heap.size j (.slice ad3 j.vs.length cap3)) := J.out.below hc12
  replace X : Hid (CB W12 v11.heap.size x (.slice ad11 x.vs.length cap11)) := X.out.below hc12
  replace S : Hid (Below w.heap.size w W12) := next S.out hc12
  have Y : Hid (CB W12 v12.heap.size y (.slice ad12 y.vs.length cap12)) := by rw [hW12]; exact CB.new v12 y _ 25 r12
  have HW12 : Hid _ := hW12
  clear r12 hb12 hc12 hW12
  go_upto_region 15 with fail
  rw [← HW12.out]
  clear HW12
  have x0 := B.out.row.cell 0 rfl
  have x1 := B.out.row.cell 1 rfl
  have x2 := B.out.row.cell 2 rfl
  have x3 := B.out.row.cell 3 rfl
  have x4 := B.out.row.cell 4 rfl
  have x5 := B.out.row.cell 5 rfl
  have x6 := B.out.row.cell 6 rfl
  have x7 := B.out.row.cell 7 rfl
  have x8 := B.out.row.cell 8 rfl
  have x9 := B.out.row.cell 9 rfl
  have x10 := B.out.row.cell 10 rfl
  have x11 := B.out.row.cell 11 rfl
  have y0 := C.out.row.cell 0 rfl
  have y1 := C.out.row.cell 1 rfl
  have y2 := C.out.row.cell 2 rfl
  have y3 := C.out.row.cell 3 rfl
  have y4 := C.out.row.cell 4 rfl
  have y5 := C.out.row.cell 5 rfl
  have y6 := C.out.row.cell 6 rfl
  have y7 := C.out.row.cell 7 rfl
  have y8 := C.out.row.cell 8 rfl
  have y9 := C.out.row.cell 9 rfl
  have y10 := C.out.row.cell 10 rfl
  have y11 := C.out.row.cell 11 rfl
  go_wp2_with fail
  refine (KBC.out _ _ _ B.out.rows C.out.rows).mono ?_
  rintro e v13 ⟨s13, rfl, r13, hb13⟩
  obtain ⟨ad13, cap13, rfl⟩ := r13.shape
  clear x0 y0 x1 y1 x2 y2 x3 y3 x4 y4 x5 y5 x6 y6 x7 y7 x8 y8 x9 y9 x10 y10 x11 y11
  obtain ⟨W13, hW13⟩ : ∃ W13, W13 = v13.alloc (.cells #[.int .i64 bc.g, .bool bc.b0, .bool bc.b1, .bool bc.b2, .bool bc.b3, .bool bc.b4, .bool bc.b5, .bool bc.b6, .bool bc.b7, .bool bc.b8, .bool bc.b9, (.slice ad13 bc.vs.length cap13)] 25) := ⟨_, rfl⟩
  have hc13 : Below W12.heap.size W12 W13 := by rw [hW13]; exact next hb13 (below_new _ _)
  replace A : Hid (CB W13 w.heap.size a va) := A.out.below hc13
  replace B : Hid (CB W13 (w.heap.size + 1) b vb) := B.out.below hc13
  replace C : Hid (CB W13 (w.heap.size + 1 + 1) c vc) := C.out.below hc13
  replace AB : Hid (CB W13 v1.heap.size m (.slice ad1 m.vs.length cap1)) := AB.out.below hc13
  replace J : Hid (CB W13 v3.heap.size j (.slice ad3 j.vs.length cap3)) := J.out.below hc13
  replace X : Hid (CB W13 v11.heap.size x (.slice ad11 x.vs.length cap11)) := X.out.below hc13
  replace Y : Hid (CB W13 v12.heap.size y (.slice ad12 y.vs.length cap12)) := Y.out.below hc13
  replace S : Hid (Below w.heap.size w W13) := next S.out hc13
  have BC : Hid (CB W13 v13.heap.size bc (.slice ad13 bc.vs.length cap13)) := by rw [hW13]; exact CB.new v13 bc _ 25 r13
  have HW13 : Hid _ := hW13
  clear r13 hb13 hc13 hW13
  go_upto_region 16 with fail
  rw [← HW13.out]
  clear HW13
  have x0 := A.out.row.cell 0 rfl
  have x1 := A.out.row.cell 1 rfl
  have x2 := A.out.row.cell 2 rfl
  have x3 := A.out.row.cell 3 rfl
  have x4 := A.out.row.cell 4 rfl
  have x5 := A.out.row.cell 5 rfl
  have x6 := A.out.row.cell 6 rfl
  have x7 := A.out.row.cell 7 rfl
  have x8 := A.out.row.cell 8 rfl
  have x9 := A.out.row.cell 9 rfl
  have x10 := A.out.row.cell 10 rfl
  have x11 := A.out.row.cell 11 rfl
  have y0 := BC.out.row.cell 0 rfl
  have y1 := BC.out.row.cell 1 rfl
  have y2 := BC.out.row.cell 2 rfl
  have y3 := BC.out.row.cell 3 rfl
  have y4 := BC.out.row.cell 4 rfl
  have y5 := BC.out.row.cell 5 rfl
  have y6 := BC.out.row.cell 6 rfl
  have y7 := BC.out.row.cell 7 rfl
  have y8 := BC.out.row.cell 8 rfl
  have y9 := BC.out.row.cell 9 rfl
  have y10 := BC.out.row.cell 10 rfl
  have y11 := BC.out.row.cell 11 rfl
  go_wp2_with fail
  refine (KP.out _ _ _ A.out.rows BC.out.rows).mono ?_
  rintro e v14 ⟨s14, rfl, r14, hb14⟩
  obtain ⟨ad14, cap14, rfl⟩ := r14.shape
  clear x0 y0 x1 y1 x2 y2 x3 y3 x4 y4 x5 y5 x6 y6 x7 y7 x8 y8 x9 y9 x10 y10 x11 y11
  obtain ⟨W14, hW14⟩ : ∃ W14, W14 = v14.alloc (.cells #[.int .i64 p.g, .bool p.b0, .bool p.b1, .bool p.b2, .bool p.b3, .bool p.b4, .bool p.b5, .bool p.b6, .bool p.b7, .bool p.b8, .bool p.b9, (.slice ad14 p.vs.length cap14)] 25) := ⟨_, rfl⟩
  have hc14 : Below W13.heap.size W13 W14 := by rw [hW14]; exact next hb14 (below_new _ _)
  replace A : Hid (CB W14 w.heap.size a va) := A.out.below hc14
  replace B : Hid (CB W14 (w.heap.size + 1) b vb) := B.out.below hc14
  replace C : Hid (CB W14 (w.heap.size + 1 + 1) c vc) := C.out.below hc14
  replace AB : Hid (CB W14 v1.heap.size m (.slice ad1 m.vs.length cap1)) := AB.out.below hc14
  replace J : Hid (CB W14 v3.heap.size j (.slice ad3 j.vs.length cap3)) := J.out.below hc14
  replace X : Hid (CB W14 v11.heap.size x (.slice ad11 x.vs.length cap11)) := X.out.below hc14
  replace Y : Hid (CB W14 v12.heap.size y (.slice ad12 y.vs.length cap12)) := Y.out.below hc14
  replace BC : Hid (CB W14 v13.heap.size bc (.slice ad13 bc.vs.length cap13)) := BC.out.below hc14
  replace S : Hid (Below w.heap.size w W14) := next S.out hc14
  have P : Hid (CB W14 v14.heap.size p (.slice ad14 p.vs.length cap14)) := by rw [hW14]; exact CB.new v14 p _ 25 r14
  have HW14 : Hid _ := hW14
  clear r14 hb14 hc14 hW14
  go_upto_region 17 with fail
  rw [← HW14.out]
  clear HW14
  have x0 := A.out.row.cell 0 rfl
  have x1 := A.out.row.cell 1 rfl
  have x2 := A.out.row.cell 2 rfl
  have x3 := A.out.row.cell 3 rfl
  have x4 := A.out.row.cell 4 rfl
  have x5 := A.out.row.cell 5 rfl
  have x6 := A.out.row.cell 6 rfl
  have x7 := A.out.row.cell 7 rfl
  have x8 := A.out.row.cell 8 rfl
  have x9 := A.out.row.cell 9 rfl
  have x10 := A.out.row.cell 10 rfl
  have x11 := A.out.row.cell 11 rfl
  have y0 := C.out.row.cell 0 rfl
  have y1 := C.out.row.cell 1 rfl
  have y2 := C.out.row.cell 2 rfl
  have y3 := C.out.row.cell 3 rfl
  have y4 := C.out.row.cell 4 rfl
  have y5 := C.out.row.cell 5 rfl
  have y6 := C.out.row.cell 6 rfl
  have y7 := C.out.row.cell 7 rfl
  have y8 := C.out.row.cell 8 rfl
  have y9 := C.out.row.cell 9 rfl
  have y10 := C.out.row.cell 10 rfl
  have y11 := C.out.row.cell 11 rfl
  go_wp2_with fail
  refine (KAC.out _ _ _ A.out.rows C.out.rows).mono ?_
  rintro e v15 ⟨s15, rfl, r15, hb15⟩
  obtain ⟨ad15, cap15, rfl⟩ := r15.shape
  clear x0 y0 x1 y1 x2 y2 x3 y3 x4 y4 x5 y5 x6 y6 x7 y7 x8 y8 x9 y9 x10 y10 x11 y11
  obtain ⟨W15, hW15⟩ : ∃ W15, W15 = v15.alloc (.cells #[.int .i64 ac.g, .bool ac.b0, .bool ac.b1, .bool ac.b2, .bool ac.b3, .bool ac.b4, .bool ac.b5, .bool ac.b6, .bool ac.b7, .bool ac.b8, .bool ac.b9, (.slice ad15 ac.vs.length cap15)] 25) := ⟨_, rfl⟩
  have hc15 : Below W14.heap.size W14 W15 := by rw [hW15]; exact next hb15 (below_new _ _)
  replace A : Hid (CB W15 w.heap.size a va) := A.out.below hc15
  replace B : Hid (CB W15 (w.heap.size + 1) b vb) := B.out.below hc15
  replace C : Hid (CB W15 (w.heap.size + 1 + 1) c vc) := C.out.below hc15
  replace AB : Hid (CB W15 v1.heap.size m (.slice ad1 m.vs.length cap1)) := AB.out.below hc15
  replace J : Hid (CB W15 v3.heap.size j (.slice ad3 j.vs.length cap3)) := J.out.below hc15
  replace X : Hid (CB W15 v11.heap.size x (.slice ad11 x.vs.length cap11)) := X.out.below hc15
  replace Y : Hid (CB W15 v12.heap.size y (.slice ad12 y.vs.length cap12)) := Y.out.below hc15
  replace BC : Hid (CB W15 v13.heap.size bc (.slice ad13 bc.vs.length cap13)) := BC.out.below hc15
  replace P : Hid (CB W15 v14.heap.size p (.slice ad14 p.vs.length cap14)) := P.out.below hc15
  replace S : Hid (Below w.heap.size w W15) := next S.out hc15
  have AC : Hid (CB W15 v15.heap.size ac (.slice ad15 ac.vs.length cap15)) := by rw [hW15]; exact CB.new v15 ac _ 25 r15
  have HW15 : Hid _ := hW15
  clear r15 hb15 hc15 hW15
  go_upto_region 18 with fail
  rw [← HW15.out]
  clear HW15
  have x0 := AB.out.row.cell 0 rfl
  have x1 := AB.out.row.cell 1 rfl
  have x2 := AB.out.row.cell 2 rfl
  have x3 := AB.out.row.cell 3 rfl
  have x4 := AB.out.row.cell 4 rfl
  have x5 := AB.out.row.cell 5 rfl
  have x6 := AB.out.row.cell 6 rfl
  have x7 := AB.out.row.cell 7 rfl
  have x8 := AB.out.row.cell 8 rfl
  have x9 := AB.out.row.cell 9 rfl
  have x10 := AB.out.row.cell 10 rfl
  have x11 := AB.out.row.cell 11 rfl
  have y0 := AC.out.row.cell 0 rfl
  have y1 := AC.out.row.cell 1 rfl
  have y2 := AC.out.row.cell 2 rfl
  have y3 := AC.out.row.cell 3 rfl
  have y4 := AC.out.row.cell 4 rfl
  have y5 := AC.out.row.cell 5 rfl
  have y6 := AC.out.row.cell 6 rfl
  have y7 := AC.out.row.cell 7 rfl
  have y8 := AC.out.row.cell 8 rfl
  have y9 := AC.out.row.cell 9 rfl
  have y10 := AC.out.row.cell 10 rfl
  have y11 := AC.out.row.cell 11 rfl
  go_wp2_with fail
  refine (KQ.out _ _ _ AB.out.rows AC.out.rows).mono ?_
  rintro e v16 ⟨s16, rfl, r16, hb16⟩
  obtain ⟨ad16, cap16, rfl⟩ := r16.shape
  clear x0 y0 x1 y1 x2 y2 x3 y3 x4 y4 x5 y5 x6 y6 x7 y7 x8 y8 x9 y9 x10 y10 x11 y11
  obtain ⟨W16, hW16⟩ : ∃ W16, W16 = v16.alloc (.cells #[.int .i64 p.g, .bool p.b0, .bool p.b1, .bool p.b2, .bool p.b3, .bool p.b4, .bool p.b5, .bool p.b6, .bool p.b7, .bool p.b8, .bool p.b9, (.slice ad16 p.vs.length cap16)] 25) := ⟨_, rfl⟩
  have hc16 : Below W15.heap.size W15 W16 := by rw [hW16]; exact next hb16 (below_new _ _)
  replace A : Hid (CB W16 w.heap.size a va) := A.out.below hc16
  replace B : Hid (CB W16 (w.heap.size + 1) b vb) := B.out.below hc16
  replace C : Hid (CB W16 (w.heap.size + 1 + 1) c vc) := C.out.below hc16
  replace AB : Hid (CB W16 v1.heap.size m (.slice ad1 m.vs.length cap1)) := AB.out.below hc16
  replace J : Hid (CB W16 v3.heap.size j (.slice ad3 j.vs.length cap3)) := J.out.below hc16
  replace X : Hid (CB W16 v11.heap.size x (.slice ad11 x.vs.length cap11)) := X.out.below hc16
  replace Y : Hid (CB W16 v12.heap.size y (.slice ad12 y.vs.length cap12)) := Y.out.below hc16
  replace BC : Hid (CB W16 v13.heap.size bc (.slice ad13 bc.vs.length cap13)) := BC.out.below hc16
  replace P : Hid (CB W16 v14.heap.size p (.slice ad14 p.vs.length cap14)) := P.out.below hc16
  replace AC : Hid (CB W16 v15.heap.size ac (.slice ad15 ac.vs.length cap15)) := AC.out.below hc16
  replace S : Hid (Below w.heap.size w W16) := next S.out hc16
  have Q : Hid (CB W16 v16.heap.size p (.slice ad16 p.vs.length cap16)) := by rw [hW16]; exact CB.new v16 p _ 25 r16
  have HW16 : Hid _ := hW16
  clear r16 hb16 hc16 hW16
  go_upto_region 19 with fail
  rw [← HW16.out]
  clear HW16
  clear BC AC B C J AB
  go_upto_region 20 with fail
  have x0 := X.out.row.cell 0 rfl
  have x1 := X.out.row.cell 1 rfl
  have x2 := X.out.row.cell 2 rfl
  have x3 := X.out.row.cell 3 rfl
  have x4 := X.out.row.cell 4 rfl
  have x5 := X.out.row.cell 5 rfl
  have x6 := X.out.row.cell 6 rfl
  have x7 := X.out.row.cell 7 rfl
  have x8 := X.out.row.cell 8 rfl
  have x9 := X.out.row.cell 9 rfl
  have x10 := X.out.row.cell 10 rfl
  have x11 := X.out.row.cell 11 rfl
  have y0 := A.out.row.cell 0 rfl
  have y1 := A.out.row.cell 1 rfl
  have y2 := A.out.row.cell 2 rfl
  have y3 := A.out.row.cell 3 rfl
  have y4 := A.out.row.cell 4 rfl
  have y5 := A.out.row.cell 5 rfl
  have y6 := A.out.row.cell 6 rfl
  have y7 := A.out.row.cell 7 rfl
  have y8 := A.out.row.cell 8 rfl
  have y9 := A.out.row.cell 9 rfl
  have y10 := A.out.row.cell 10 rfl
  have y11 := A.out.row.cell 11 rfl
  go_wp2_with fail
  refine (L5.out _ _ _ X.out.rows A.out.rows).mono ?_
  rintro e W17 ⟨rfl, hb17⟩
  clear x0 x1 x2 x3 x4 x5 x6 x7 x8 x9 x10 x11 y0 y1 y2 y3 y4 y5 y6 y7 y8 y9 y10 y11
  replace A : Hid (CB W17 w.heap.size a va) := A.out.below hb17
  replace X : Hid (CB W17 v11.heap.size x (.slice ad11 x.vs.length cap11)) := X.out.below hb17
  replace Y : Hid (CB W17 v12.heap.size y (.slice ad12 y.vs.length cap12)) := Y.out.below hb17
  replace P : Hid (CB W17 v14.heap.size p (.slice ad14 p.vs.length cap14)) := P.out.below hb17
  replace Q : Hid (CB W17 v16.heap.size p (.slice ad16 p.vs.length cap16)) := Q.out.below hb17
  replace S : Hid (Below w.heap.size w W17) := next S.out hb17
  clear hb17
  have x0 := A.out.row.cell 0 rfl
  have x1 := A.out.row.cell 1 rfl
  have x2 := A.out.row.cell 2 rfl
  have x3 := A.out.row.cell 3 rfl
  have x4 := A.out.row.cell 4 rfl
  have x5 := A.out.row.cell 5 rfl
  have x6 := A.out.row.cell 6 rfl
  have x7 := A.out.row.cell 7 rfl
  have x8 := A.out.row.cell 8 rfl
  have x9 := A.out.row.cell 9 rfl
  have x10 := A.out.row.cell 10 rfl
  have x11 := A.out.row.cell 11 rfl
  have y0 := X.out.row.cell 0 rfl
  have y1 := X.out.row.cell 1 rfl
  have y2 := X.out.row.cell 2 rfl
  have y3 := X.out.row.cell 3 rfl
  have y4 := X.out.row.cell 4 rfl
  have y5 := X.out.row.cell 5 rfl
  have y6 := X.out.row.cell 6 rfl
  have y7 := X.out.row.cell 7 rfl
  have y8 := X.out.row.cell 8 rfl
  have y9 := X.out.row.cell 9 rfl
  have y10 := X.out.row.cell 10 rfl
  have y11 := X.out.row.cell 11 rfl
  go_wp2_with fail
  refine (L6.out _ _ _ A.out.rows X.out.rows).mono ?_
  rintro e W18 ⟨rfl, hb18⟩
  clear x0 x1 x2 x3 x4 x5 x6 x7 x8 x9 x10 x11 y0 y1 y2 y3 y4 y5 y6 y7 y8 y9 y10 y11
  replace A : Hid (CB W18 w.heap.size a va) := A.out.below hb18
  replace X : Hid (CB W18 v11.heap.size x (.slice ad11 x.vs.length cap11)) := X.out.below hb18
  replace Y : Hid (CB W18 v12.heap.size y (.slice ad12 y.vs.length cap12)) := Y.out.below hb18
  replace P : Hid (CB W18 v14.heap.size p (.slice ad14 p.vs.length cap14)) := P.out.below hb18
  replace Q : Hid (CB W18 v16.heap.size p (.slice ad16 p.vs.length cap16)) := Q.out.below hb18
  replace S : Hid (Below w.heap.size w W18) := next S.out hb18
  clear hb18
  have x0 := Y.out.row.cell 0 rfl
  have x1 := Y.out.row.cell 1 rfl
  have x2 := Y.out.row.cell 2 rfl
  have x3 := Y.out.row.cell 3 rfl
  have x4 := Y.out.row.cell 4 rfl
  have x5 := Y.out.row.cell 5 rfl
  have x6 := Y.out.row.cell 6 rfl
  have x7 := Y.out.row.cell 7 rfl
  have x8 := Y.out.row.cell 8 rfl
  have x9 := Y.out.row.cell 9 rfl
  have x10 := Y.out.row.cell 10 rfl
  have x11 := Y.out.row.cell 11 rfl
  have y0 := A.out.row.cell 0 rfl
  have y1 := A.out.row.cell 1 rfl
  have y2 := A.out.row.cell 2 rfl
  have y3 := A.out.row.cell 3 rfl
  have y4 := A.out.row.cell 4 rfl
  have y5 := A.out.row.cell 5 rfl
  have y6 := A.out.row.cell 6 rfl
  have y7 := A.out.row.cell 7 rfl
  have y8 := A.out.row.cell 8 rfl
  have y9 := A.out.row.cell 9 rfl
  have y10 := A.out.row.cell 10 rfl
  have y11 := A.out.row.cell 11 rfl
  go_wp2_with fail
  refine (L7.out _ _ _ Y.out.rows A.out.rows).mono ?_
  rintro e W19 ⟨rfl, hb19⟩
  clear x0 x1 x2 x3 x4 x5 x6 x7 x8 x9 x10 x11 y0 y1 y2 y3 y4 y5 y6 y7 y8 y9 y10 y11
  replace A : Hid (CB W19 w.heap.size a va) := A.out.below hb19
  replace X : Hid (CB W19 v11.heap.size x (.slice ad11 x.vs.length cap11)) := X.out.below hb19
  replace Y : Hid (CB W19 v12.heap.size y (.slice ad12 y.vs.length cap12)) := Y.out.below hb19
  replace P : Hid (CB W19 v14.heap.size p (.slice ad14 p.vs.length cap14)) := P.out.below hb19
  replace Q : Hid (CB W19 v16.heap.size p (.slice ad16 p.vs.length cap16)) := Q.out.below hb19
  replace S : Hid (Below w.heap.size w W19) := next S.out hb19
  clear hb19
  have x0 := A.out.row.cell 0 rfl
  have x1 := A.out.row.cell 1 rfl
  have x2 := A.out.row.cell 2 rfl
  have x3 := A.out.row.cell 3 rfl
  have x4 := A.out.row.cell 4 rfl
  have x5 := A.out.row.cell 5 rfl
  have x6 := A.out.row.cell 6 rfl
  have x7 := A.out.row.cell 7 rfl
  have x8 := A.out.row.cell 8 rfl
  have x9 := A.out.row.cell 9 rfl
  have x10 := A.out.row.cell 10 rfl
  have x11 := A.out.row.cell 11 rfl
  have y0 := Y.out.row.cell 0 rfl
  have y1 := Y.out.row.cell 1 rfl
  have y2 := Y.out.row.cell 2 rfl
  have y3 := Y.out.row.cell 3 rfl
  have y4 := Y.out.row.cell 4 rfl
  have y5 := Y.out.row.cell 5 rfl
  have y6 := Y.out.row.cell 6 rfl
  have y7 := Y.out.row.cell 7 rfl
  have y8 := Y.out.row.cell 8 rfl
  have y9 := Y.out.row.cell 9 rfl
  have y10 := Y.out.row.cell 10 rfl
  have y11 := Y.out.row.cell 11 rfl
  go_wp2_with fail
  refine (L8.out _ _ _ A.out.rows Y.out.rows).mono ?_
  rintro e W20 ⟨rfl, hb20⟩
  clear x0 x1 x2 x3 x4 x5 x6 x7 x8 x9 x10 x11 y0 y1 y2 y3 y4 y5 y6 y7 y8 y9 y10 y11
  replace A : Hid (CB W20 w.heap.size a va) := A.out.below hb20
  replace X : Hid (CB W20 v11.heap.size x (.slice ad11 x.vs.length cap11)) := X.out.below hb20
  replace Y : Hid (CB W20 v12.heap.size y (.slice ad12 y.vs.length cap12)) := Y.out.below hb20
  replace P : Hid (CB W20 v14.heap.size p (.slice ad14 p.vs.length cap14)) := P.out.below hb20
  replace Q : Hid (CB W20 v16.heap.size p (.slice ad16 p.vs.length cap16)) := Q.out.below hb20
  replace S : Hid (Below w.heap.size w W20) := next S.out hb20
  clear hb20
  have x0 := P.out.row.cell 0 rfl
  have x1 := P.out.row.cell 1 rfl
  have x2 := P.out.row.cell 2 rfl
  have x3 := P.out.row.cell 3 rfl
  have x4 := P.out.row.cell 4 rfl
  have x5 := P.out.row.cell 5 rfl
  have x6 := P.out.row.cell 6 rfl
  have x7 := P.out.row.cell 7 rfl
  have x8 := P.out.row.cell 8 rfl
  have x9 := P.out.row.cell 9 rfl
  have x10 := P.out.row.cell 10 rfl
  have x11 := P.out.row.cell 11 rfl
  have y0 := Q.out.row.cell 0 rfl
  have y1 := Q.out.row.cell 1 rfl
  have y2 := Q.out.row.cell 2 rfl
  have y3 := Q.out.row.cell 3 rfl
  have y4 := Q.out.row.cell 4 rfl
  have y5 := Q.out.row.cell 5 rfl
  have y6 := Q.out.row.cell 6 rfl
  have y7 := Q.out.row.cell 7 rfl
  have y8 := Q.out.row.cell 8 rfl
  have y9 := Q.out.row.cell 9 rfl
  have y10 := Q.out.row.cell 10 rfl
  have y11 := Q.out.row.cell 11 rfl
  go_wp2_with fail
  refine (SP.out _ _ _ P.out.rows Q.out.rows).mono ?_
  rintro e W21 ⟨rfl, hb21⟩
  clear x0 x1 x2 x3 x4 x5 x6 x7 x8 x9 x10 x11 y0 y1 y2 y3 y4 y5 y6 y7 y8 y9 y10 y11
  replace A : Hid (CB W21 w.heap.size a va) := A.out.below hb21
  replace X : Hid (CB W21 v11.heap.size x (.slice ad11 x.vs.length cap11)) := X.out.below hb21
  replace Y : Hid (CB W21 v12.heap.size y (.slice ad12 y.vs.length cap12)) := Y.out.below hb21
  replace P : Hid (CB W21 v14.heap.size p (.slice ad14 p.vs.length cap14)) := P.out.below hb21
  replace Q : Hid (CB W21 v16.heap.size p (.slice ad16 p.vs.length cap16)) := Q.out.below hb21
  replace S : Hid (Below w.heap.size w W21) := next S.out hb21
  clear hb21
  go_wp2_with fail
  go_ret
  exact ⟨rfl, S.out⟩
set_option maxRecDepth 100000 in
theorem lifted (os : Os) (started : os.Started) (H : Type) (enc : TypeId × Value → H) :
    ReturnsInHanded {} Try.checked os 4 .any (Rows.grantLatticeSpec.pre6 enc Try.prog Try.f4 Rows.grantLatticeRow.domain false) (Rows.grantLatticeSpec.post enc Try.prog Try.f4 false true false false) := by
  refine returnsInHanded_of_change_sized (C := Try.checked) own started (by kernel_rfl) Try.func4
    (ChangeSpec.witness6 (enc := enc) (C := Try.checked) false ⟨#[], #[.agg #[.int .i64 0, .bool false, .bool false, .bool false, .bool false, .bool false, .bool false, .bool false, .bool false, .bool false, .bool false, .slice none 0 0], .agg #[.int .i64 0, .bool false, .bool false, .bool false, .bool false, .bool false, .bool false, .bool false, .bool false, .bool false, .bool false, .slice none 0 0], .agg #[.int .i64 0, .bool false, .bool false, .bool false, .bool false, .bool false, .bool false, .bool false, .bool false, .bool false, .bool false, .slice none 0 0]], []⟩ 8 (by kernel_rfl) (by kernel_rfl) (by kernel_rfl) (by kernel_rfl)) ?_
  intro W base args ds gs before hval0 hW hcnd hsz0 _
  have hsz : (DataW.weightsEach Try.prog (Try.f4.params.toList ++ Rows.grantLatticeSpec.plain.varTypes Try.prog) (ds ++ gs)).all (· ≤ reachBytes) = true := hsz0
  have hval : ∀ (j : Nat) t v, Try.f4.params[j]? = some t → args[j]? = some v → Value.okWide Try.prog W .any base t v := hval0
  have hW' := hW
  obtain ⟨p, q, hA0, hV, rfl, hfz, hnd⟩ := hW
  have hA : DataW.TrodAll enc Try.prog W 0 (fun _ => true) true Try.f4.params.toList args.toList ds p := hA0
  rw [Try.params4] at hA hval hsz
  obtain ⟨v0, vs0, d0, ds0, p0, q0, hargs, rfl, rfl, h0, r0⟩ := trodAll_cons hA
  obtain ⟨v1, vs1, d1, ds1, p1, q1, rfl, rfl, rfl, h1, r1⟩ := trodAll_cons r0
  obtain ⟨v2, vs2, d2, ds2, p2, q2, rfl, rfl, rfl, h2, r2⟩ := trodAll_cons r1
  obtain ⟨rfl, rfl, rfl⟩ := trodAll_nil r2
  obtain rfl : args = #[v0, v1, v2] := by cases args; simp_all
  obtain ⟨rfl, rfl⟩ := trodVars_none hV
  have k0 := h0
  have lt0 : ∀ x ∈ p0, x.block < W.heap.size := by obtain ⟨m, hm⟩ := k0; exact DataW.trod_lt m _ _ _ hm
  have k1 := h1
  have lt1 : ∀ x ∈ p1, x.block < W.heap.size := by obtain ⟨m, hm⟩ := k1; exact DataW.trod_lt m _ _ _ hm
  have k2 := h2
  have lt2 : ∀ x ∈ p2, x.block < W.heap.size := by obtain ⟨m, hm⟩ := k2; exact DataW.trod_lt m _ _ _ hm
  obtain ⟨c0, vv0, rfl, rd0, ok0, bk0⟩ := open_consent (hval 0 25 v0 rfl rfl) k0 140737488351232 (fits_each hsz (j := 0) (t := 25) rfl rfl)
  obtain ⟨c1, vv1, rfl, rd1, ok1, bk1⟩ := open_consent (hval 1 25 v1 rfl rfl) k1 140737488351232 (fits_each hsz (j := 1) (t := 25) rfl rfl)
  obtain ⟨c2, vv2, rfl, rd2, ok2, bk2⟩ := open_consent (hval 2 25 v2 rfl rfl) k2 140737488351232 (fits_each hsz (j := 2) (t := 25) rfl rfl)
  clear hA0 hval0
  refine (walk c0 vv0 c1 vv1 c2 vv2 W rd0 ok0 rd1 ok1 rd2 ok2).mono fun e W' ⟨he, bel⟩ => ?_
  subst he
  exact ⟨_, rfl, _, _, _, [], _, [], hW', trodAll_mk1 (shut_bool Try.underlying4 _), (trodAll_cons_mk (Below.trod laidOut (by kernel_rfl) (of_decide_eq_true (by kernel_rfl)) k0 bel lt0) (trodAll_cons_mk (Below.trod laidOut (by kernel_rfl) (of_decide_eq_true (by kernel_rfl)) k1 bel lt1) (trodAll_cons_mk (Below.trod laidOut (by kernel_rfl) (of_decide_eq_true (by kernel_rfl)) k2 bel lt2) trodAll_mk0))), rfl, bel.frame _, fun h => by cases h⟩

theorem proved : Rows.GrantLatticeSaid :=
  OpenClaim.holds_of_wide 4 Try.f4 rfl rfl rfl rfl rfl rfl rfl ⟨rfl, rfl, rfl, rfl, rfl⟩ rfl rfl rfl rfl rfl (by kernel_rfl) Try.func4 (by kernel_rfl)
    (of_decide_eq_true (by kernel_rfl)) (by unfold Func.isWrapper; first | (rw [if_pos (by decide +kernel)]; kernel_rfl) | (rw [if_neg (by decide +kernel)]; exact ⟨rfl, rfl⟩))
    (fun os started H enc _ => lifted os started H enc)
#print axioms proved
end Go.Proofs.Ytklpfbakjiaaoaa.grantLattice
