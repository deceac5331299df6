/- GrantTells: for all consents, purposes, vendors and moments: May, Less, Meet, Join and Drop answer just what the document says, errors too. No condition. -/
import Derived.Test.YtklpfbakjiaaoaaRefF
import Derived.Test.YtklpfbakjiaaoaaGrantK
import Derived.Test.YtklpfbakjiaaoaaGrantE
import Derived.Test.YtklpfbakjiaaoaaGrantF
import Derived.Test.YtklpfbakjiaaoaaGrantH
import Derived.Test.YtklpfbakjiaaoaaGrantI
import Derived.Test.YtklpfbakjiaaoaaOpen
import Derived.Test.YtklpfbakjiaaoaaOpenG
import Derived.Test.YtklpfbakjiaaoaaRows
namespace Go.Proofs.Ytklpfbakjiaaoaa.grantTells
open Go.ChangeShapes Go.WideShapes Go.ChangeAt Go.RowKit
open Go.ChangeMaps (open_string shut_string)
set_option linter.all false
set_option maxRecDepth 100000

set_option maxHeartbeats 32000000 in
theorem walk (a : Cn) (va : Value) (b : Cn) (vb : Value) (p n t : Int) (w : World) (ra : Rows w va intF a.vs) (oa : a.vs.length ≤ 140737488351232 ∧ inR a.vs ∧ (-9223372036854775808 ≤ a.g ∧ a.g ≤ 9223372036854775807)) (rb : Rows w vb intF b.vs) (ob : b.vs.length ≤ 140737488351232 ∧ inR b.vs ∧ (-9223372036854775808 ≤ b.g ∧ b.g ≤ 9223372036854775807))
    (hp : -9223372036854775808 ≤ p ∧ p ≤ 9223372036854775807) (hn : -9223372036854775808 ≤ n ∧ n ≤ 9223372036854775807) (ht : -9223372036854775808 ≤ t ∧ t ≤ 9223372036854775807) :
    Calls Try.prog 3 #[.agg #[.int .i64 a.g, .bool a.b0, .bool a.b1, .bool a.b2, .bool a.b3, .bool a.b4, .bool a.b5, .bool a.b6, .bool a.b7, .bool a.b8, .bool a.b9, va], .agg #[.int .i64 b.g, .bool b.b0, .bool b.b1, .bool b.b2, .bool b.b3, .bool b.b4, .bool b.b5, .bool b.b6, .bool b.b7, .bool b.b8, .bool b.b9, vb], .int .i64 p, .int .i64 n, .int .i64 t] w fun e w' => e = .returned (.bool true) ∧ Below w.heap.size w w' := by
  have oka : CnOk a := ⟨oa.1, oa.2.1⟩
  have okb : CnOk b := ⟨ob.1, ob.2.1⟩
  obtain ⟨m, hm⟩ : ∃ m, m = bothR (fun x y => x && y) a b := ⟨_, rfl⟩
  obtain ⟨j, hj⟩ : ∃ j, j = bothR (fun x y => x || y) a b := ⟨_, rfl⟩
  obtain ⟨d, hd⟩ : ∃ d, d = dropR a p n t := ⟨_, rfl⟩
  obtain ⟨z, hz⟩ : ∃ z, z = bothE a b := ⟨_, rfl⟩
  obtain ⟨z', hz'⟩ : ∃ z, z = dropE a p n t := ⟨_, rfl⟩
  obtain ⟨x, hx⟩ : ∃ x, x = mayC a p n := ⟨_, rfl⟩
  obtain ⟨y, hy⟩ : ∃ y, y = lessC a b := ⟨_, rfl⟩
  have okm : CnOk m := by rw [hm]; exact both_cnOk _ a b
  have okj : CnOk j := by rw [hj]; exact both_cnOk _ a b
  have okd : CnOk d := by rw [hd]; exact drop_cnOk a p n t oka
  have KM : Hid (∀ w', Rows w' va intF a.vs → Rows w' vb intF b.vs → Calls Try.prog 7 #[.agg #[.int .i64 a.g, .bool a.b0, .bool a.b1, .bool a.b2, .bool a.b3, .bool a.b4, .bool a.b5, .bool a.b6, .bool a.b7, .bool a.b8, .bool a.b9, va], .agg #[.int .i64 b.g, .bool b.b0, .bool b.b1, .bool b.b2, .bool b.b3, .bool b.b4, .bool b.b5, .bool b.b6, .bool b.b7, .bool b.b8, .bool b.b9, vb]] w' fun e w'' => ∃ s, e = .returned (.tuple #[.agg #[.int .i64 m.g, .bool m.b0, .bool m.b1, .bool m.b2, .bool m.b3, .bool m.b4, .bool m.b5, .bool m.b6, .bool m.b7, .bool m.b8, .bool m.b9, s], .int .i64 z]) ∧ Rows w'' s intF m.vs ∧ Below w'.heap.size w' w'') := fun w' h1 h2 => by
    have h := meet_any a b va vb w' h1 h2 oka.1 okb.1 oka.2 okb.2
    rw [← hm, ← hz] at h
    exact h.mono fun e w'' ⟨v, h1, h2, h3⟩ => ⟨v, h1, Reads.of_own h2, h3⟩
  have KJ : Hid (∀ w', Rows w' va intF a.vs → Rows w' vb intF b.vs → Calls Try.prog 8 #[.agg #[.int .i64 a.g, .bool a.b0, .bool a.b1, .bool a.b2, .bool a.b3, .bool a.b4, .bool a.b5, .bool a.b6, .bool a.b7, .bool a.b8, .bool a.b9, va], .agg #[.int .i64 b.g, .bool b.b0, .bool b.b1, .bool b.b2, .bool b.b3, .bool b.b4, .bool b.b5, .bool b.b6, .bool b.b7, .bool b.b8, .bool b.b9, vb]] w' fun e w'' => ∃ s, e = .returned (.tuple #[.agg #[.int .i64 j.g, .bool j.b0, .bool j.b1, .bool j.b2, .bool j.b3, .bool j.b4, .bool j.b5, .bool j.b6, .bool j.b7, .bool j.b8, .bool j.b9, s], .int .i64 z]) ∧ Rows w'' s intF j.vs ∧ Below w'.heap.size w' w'') := fun w' h1 h2 => by
    have h := join_any a b va vb w' h1 h2 oka.1 okb.1 oka.2 okb.2
    rw [← hj, ← hz] at h
    exact h.mono fun e w'' ⟨v, h1, h2, h3⟩ => ⟨v, h1, Reads.of_own h2, h3⟩
  have KD : Hid (∀ w', Rows w' va intF a.vs → Calls Try.prog 9 #[.agg #[.int .i64 a.g, .bool a.b0, .bool a.b1, .bool a.b2, .bool a.b3, .bool a.b4, .bool a.b5, .bool a.b6, .bool a.b7, .bool a.b8, .bool a.b9, va], .int .i64 p, .int .i64 n, .int .i64 t] w' fun e w'' => ∃ s, e = .returned (.tuple #[.agg #[.int .i64 d.g, .bool d.b0, .bool d.b1, .bool d.b2, .bool d.b3, .bool d.b4, .bool d.b5, .bool d.b6, .bool d.b7, .bool d.b8, .bool d.b9, s], .int .i64 z']) ∧ Rows w'' s intF d.vs ∧ Below w'.heap.size w' w'') := fun w' h1 => by
    have h := drop_any a va p n t w' h1 oka.1 hp
    rw [← hd, ← hz'] at h
    exact h.mono fun e w'' ⟨v, h1, h2, h3⟩ => ⟨v, h1, Reads.of_own h2, h3⟩
  have KX : Hid (∀ w', Rows w' va intF a.vs → Rows w' vb intF b.vs → Calls Try.prog 10 #[.agg #[.int .i64 a.g, .bool a.b0, .bool a.b1, .bool a.b2, .bool a.b3, .bool a.b4, .bool a.b5, .bool a.b6, .bool a.b7, .bool a.b8, .bool a.b9, va], .agg #[.int .i64 b.g, .bool b.b0, .bool b.b1, .bool b.b2, .bool b.b3, .bool b.b4, .bool b.b5, .bool b.b6, .bool b.b7, .bool b.b8, .bool b.b9, vb]] w' fun e w'' => ∃ s, e = .returned (.tuple #[.agg #[.int .i64 m.g, .bool m.b0, .bool m.b1, .bool m.b2, .bool m.b3, .bool m.b4, .bool m.b5, .bool m.b6, .bool m.b7, .bool m.b8, .bool m.b9, s], .int .i64 z]) ∧ Rows w'' s intF m.vs ∧ Below w'.heap.size w' w'') := fun w' h1 h2 => by
    have h := meetOf_any a b va vb w' h1 h2 oka.1 okb.1
    rw [← hm, ← hz] at h
    exact h.mono fun e w'' ⟨v, h1, h2, h3⟩ => ⟨v, h1, h2, h3⟩
  have KY : Hid (∀ w', Rows w' va intF a.vs → Rows w' vb intF b.vs → Calls Try.prog 11 #[.agg #[.int .i64 a.g, .bool a.b0, .bool a.b1, .bool a.b2, .bool a.b3, .bool a.b4, .bool a.b5, .bool a.b6, .bool a.b7, .bool a.b8, .bool a.b9, va], .agg #[.int .i64 b.g, .bool b.b0, .bool b.b1, .bool b.b2, .bool b.b3, .bool b.b4, .bool b.b5, .bool b.b6, .bool b.b7, .bool b.b8, .bool b.b9, vb]] w' fun e w'' => ∃ s, e = .returned (.tuple #[.agg #[.int .i64 j.g, .bool j.b0, .bool j.b1, .bool j.b2, .bool j.b3, .bool j.b4, .bool j.b5, .bool j.b6, .bool j.b7, .bool j.b8, .bool j.b9, s], .int .i64 z]) ∧ Rows w'' s intF j.vs ∧ Below w'.heap.size w' w'') := fun w' h1 h2 => by
    have h := joinOf_any a b va vb w' h1 h2 oka.1 okb.1
    rw [← hj, ← hz] at h
    exact h.mono fun e w'' ⟨v, h1, h2, h3⟩ => ⟨v, h1, h2, h3⟩
  have KZ : Hid (∀ w', Rows w' va intF a.vs → Calls Try.prog 12 #[.agg #[.int .i64 a.g, .bool a.b0, .bool a.b1, .bool a.b2, .bool a.b3, .bool a.b4, .bool a.b5, .bool a.b6, .bool a.b7, .bool a.b8, .bool a.b9, va], .int .i64 p, .int .i64 n, .int .i64 t] w' fun e w'' => ∃ s, e = .returned (.tuple #[.agg #[.int .i64 d.g, .bool d.b0, .bool d.b1, .bool d.b2, .bool d.b3, .bool d.b4, .bool d.b5, .bool d.b6, .bool d.b7, .bool d.b8, .bool d.b9, s], .int .i64 z']) ∧ Rows w'' s intF d.vs ∧ Below w'.heap.size w' w'') := fun w' h1 => by
    have h := dropOf_any a va p n t w' h1 oka.1 hp hn ht
    rw [← hd, ← hz'] at h
    exact h.mono fun e w'' ⟨v, h1, h2, h3⟩ => ⟨v, h1, h2, h3⟩
  have SM : Hid (∀ w' u v, Rows w' u intF m.vs → Rows w' v intF m.vs → Calls Try.prog 18 #[.agg #[.int .i64 m.g, .bool m.b0, .bool m.b1, .bool m.b2, .bool m.b3, .bool m.b4, .bool m.b5, .bool m.b6, .bool m.b7, .bool m.b8, .bool m.b9, u], .agg #[.int .i64 m.g, .bool m.b0, .bool m.b1, .bool m.b2, .bool m.b3, .bool m.b4, .bool m.b5, .bool m.b6, .bool m.b7, .bool m.b8, .bool m.b9, v]] w' fun e w'' => e = .returned (.bool true) ∧ Below w'.heap.size w' w'') := fun w' u v h1 h2 => by
    have h := sameC_any m m u v w' h1 h2 okm.max okm.max
    rw [(sameC_iff m m).2 rfl] at h
    exact h
  have SJ : Hid (∀ w' u v, Rows w' u intF j.vs → Rows w' v intF j.vs → Calls Try.prog 18 #[.agg #[.int .i64 j.g, .bool j.b0, .bool j.b1, .bool j.b2, .bool j.b3, .bool j.b4, .bool j.b5, .bool j.b6, .bool j.b7, .bool j.b8, .bool j.b9, u], .agg #[.int .i64 j.g, .bool j.b0, .bool j.b1, .bool j.b2, .bool j.b3, .bool j.b4, .bool j.b5, .bool j.b6, .bool j.b7, .bool j.b8, .bool j.b9, v]] w' fun e w'' => e = .returned (.bool true) ∧ Below w'.heap.size w' w'') := fun w' u v h1 h2 => by
    have h := sameC_any j j u v w' h1 h2 okj.max okj.max
    rw [(sameC_iff j j).2 rfl] at h
    exact h
  have SD : Hid (∀ w' u v, Rows w' u intF d.vs → Rows w' v intF d.vs → Calls Try.prog 18 #[.agg #[.int .i64 d.g, .bool d.b0, .bool d.b1, .bool d.b2, .bool d.b3, .bool d.b4, .bool d.b5, .bool d.b6, .bool d.b7, .bool d.b8, .bool d.b9, u], .agg #[.int .i64 d.g, .bool d.b0, .bool d.b1, .bool d.b2, .bool d.b3, .bool d.b4, .bool d.b5, .bool d.b6, .bool d.b7, .bool d.b8, .bool d.b9, v]] w' fun e w'' => e = .returned (.bool true) ∧ Below w'.heap.size w' w'') := fun w' u v h1 h2 => by
    have h := sameC_any d d u v w' h1 h2 okd.max okd.max
    rw [(sameC_iff d d).2 rfl] at h
    exact h
  have LM : Hid (∀ w', Rows w' va intF a.vs → Calls Try.prog 14 #[.agg #[.int .i64 a.g, .bool a.b0, .bool a.b1, .bool a.b2, .bool a.b3, .bool a.b4, .bool a.b5, .bool a.b6, .bool a.b7, .bool a.b8, .bool a.b9, va], .int .i64 p, .int .i64 n] w' fun e w'' => e = .returned (.bool x) ∧ Below w'.heap.size w' w'') := fun w' h1 => by rw [hx]; exact may_any a va p n w' h1 oka.max hp hn
  have LN : Hid (∀ w', Rows w' va intF a.vs → Calls Try.prog 15 #[.agg #[.int .i64 a.g, .bool a.b0, .bool a.b1, .bool a.b2, .bool a.b3, .bool a.b4, .bool a.b5, .bool a.b6, .bool a.b7, .bool a.b8, .bool a.b9, va], .int .i64 p, .int .i64 n] w' fun e w'' => e = .returned (.bool x) ∧ Below w'.heap.size w' w'') := fun w' h1 => by rw [hx]; exact mayOf_any a va p n w' h1 oka.max hp hn
  have LL : Hid (∀ w', Rows w' va intF a.vs → Rows w' vb intF b.vs → Calls Try.prog 16 #[.agg #[.int .i64 a.g, .bool a.b0, .bool a.b1, .bool a.b2, .bool a.b3, .bool a.b4, .bool a.b5, .bool a.b6, .bool a.b7, .bool a.b8, .bool a.b9, va], .agg #[.int .i64 b.g, .bool b.b0, .bool b.b1, .bool b.b2, .bool b.b3, .bool b.b4, .bool b.b5, .bool b.b6, .bool b.b7, .bool b.b8, .bool b.b9, vb]] w' fun e w'' => e = .returned (.bool y) ∧ Below w'.heap.size w' w'') := fun w' h1 h2 => by rw [hy]; exact less_any a b va vb w' h1 h2 oka.1 okb.1 oka.2 okb.2
  have LO : Hid (∀ w', Rows w' va intF a.vs → Rows w' vb intF b.vs → Calls Try.prog 17 #[.agg #[.int .i64 a.g, .bool a.b0, .bool a.b1, .bool a.b2, .bool a.b3, .bool a.b4, .bool a.b5, .bool a.b6, .bool a.b7, .bool a.b8, .bool a.b9, va], .agg #[.int .i64 b.g, .bool b.b0, .bool b.b1, .bool b.b2, .bool b.b3, .bool b.b4, .bool b.b5, .bool b.b6, .bool b.b7, .bool b.b8, .bool b.b9, vb]] w' fun e w'' => e = .returned (.bool y) ∧ Below w'.heap.size w' w'') := fun w' h1 h2 => by rw [hy]; exact lessOf_any a b va vb w' h1 h2 oka.max okb.max
  obtain ⟨W0, hW0⟩ : ∃ W0, W0 = ((w.alloc (.cells #[.int .i64 a.g, .bool a.b0, .bool a.b1, .bool a.b2, .bool a.b3, .bool a.b4, .bool a.b5, .bool a.b6, .bool a.b7, .bool a.b8, .bool a.b9, va] 25)).alloc (.cells #[.int .i64 b.g, .bool b.b0, .bool b.b1, .bool b.b2, .bool b.b3, .bool b.b4, .bool b.b5, .bool b.b6, .bool b.b7, .bool b.b8, .bool b.b9, vb] 25)) := ⟨_, rfl⟩
  have A : Hid (CB W0 w.heap.size a va) := by
    rw [hW0]
    have h := CB.new w a va 25 ra
    exact (h.below (below_new _ _))
  have B : Hid (CB W0 (w.heap.size + 1) b vb) := by
    rw [hW0]
    have h := CB.new (w.alloc (.cells #[.int .i64 a.g, .bool a.b0, .bool a.b1, .bool a.b2, .bool a.b3, .bool a.b4, .bool a.b5, .bool a.b6, .bool a.b7, .bool a.b8, .bool a.b9, va] 25)) b vb 25 (Rows.below rb (below_new _ _) (Nat.le_refl _))
    rw [show (w.alloc (.cells #[.int .i64 a.g, .bool a.b0, .bool a.b1, .bool a.b2, .bool a.b3, .bool a.b4, .bool a.b5, .bool a.b6, .bool a.b7, .bool a.b8, .bool a.b9, va] 25)).heap.size = w.heap.size + 1 from by simp] at h
    exact h
  have S : Hid (Below w.heap.size w W0) := by rw [hW0]; exact next (below_new _ _) (below_new _ _)
  have HW0 : Hid _ := hW0
  clear ra oa rb ob hp hn ht oka okb hm hj hd hz hz' hx hy okm okj okd hW0
  go_enter Try.func3, Try.ntmps3
  go_upto_region 1 with fail
  rw [← HW0.out]
  clear HW0
  have x0 := A.out.row.cell 0 rfl
  have x1 := A.out.row.cell 1 rfl
  have x2 := A.out.row.cell 2 rfl
  have x3 := A.out.row.cell 3 rfl
  have x4 := A.out.row.cell 4 rfl
  have x5 := A.out.row.cell 5 rfl
  have x6 := A.out.row.cell 6 rfl
  have x7 := A.out.row.cell 7 rfl
  have x8 := A.out.row.cell 8 rfl
  have x9 := A.out.row.cell 9 rfl
  have x10 := A.out.row.cell 10 rfl
  have x11 := A.out.row.cell 11 rfl
  have y0 := B.out.row.cell 0 rfl
  have y1 := B.out.row.cell 1 rfl
  have y2 := B.out.row.cell 2 rfl
  have y3 := B.out.row.cell 3 rfl
  have y4 := B.out.row.cell 4 rfl
  have y5 := B.out.row.cell 5 rfl
  have y6 := B.out.row.cell 6 rfl
  have y7 := B.out.row.cell 7 rfl
  have y8 := B.out.row.cell 8 rfl
  have y9 := B.out.row.cell 9 rfl
  have y10 := B.out.row.cell 10 rfl
  have y11 := B.out.row.cell 11 rfl
  go_wp2_with fail
  refine (KM.out _ A.out.rows B.out.rows).mono ?_
  rintro e v1 ⟨s1, rfl, r1, hb1⟩
  obtain ⟨ad1, cap1, rfl⟩ := r1.shape
  clear x0 x1 x2 x3 x4 x5 x6 x7 x8 x9 x10 x11 y0 y1 y2 y3 y4 y5 y6 y7 y8 y9 y10 y11
  obtain ⟨W1, hW1⟩ : ∃ W1, W1 = v1.alloc (.cells #[.int .i64 m.g, .bool m.b0, .bool m.b1, .bool m.b2, .bool m.b3, .bool m.b4, .bool m.b5, .bool m.b6, .bool m.b7, .bool m.b8, .bool m.b9, (.slice ad1 m.vs.length cap1)] 25) := ⟨_, rfl⟩
  have hc1 : Below W0.heap.size W0 W1 := by rw [hW1]; exact next hb1 (below_new _ _)
  replace A : Hid (CB W1 w.heap.size a va) := A.out.below hc1
  replace B : Hid (CB W1 (w.heap.size + 1) b vb) := B.out.below hc1
  replace S : Hid (Below w.heap.size w W1) := next S.out hc1
  have M : Hid (CB W1 v1.heap.size m (.slice ad1 m.vs.length cap1)) := by rw [hW1]; exact CB.new v1 m (.slice ad1 m.vs.length cap1) 25 r1
  have HW1 : Hid _ := hW1
  clear r1 hb1 hc1 hW1
  go_upto_region 2 with fail
  rw [← HW1.out]
  clear HW1
  have x0 := A.out.row.cell 0 rfl
  have x1 := A.out.row.cell 1 rfl
  have x2 := A.out.row.cell 2 rfl
  have x3 := A.out.row.cell 3 rfl
  have x4 := A.out.row.cell 4 rfl
  have x5 := A.out.row.cell 5 rfl
  have x6 := A.out.row.cell 6 rfl
  have x7 := A.out.row.cell 7 rfl
  have x8 := A.out.row.cell 8 rfl
  have x9 := A.out.row.cell 9 rfl
  have x10 := A.out.row.cell 10 rfl
  have x11 := A.out.row.cell 11 rfl
  have y0 := B.out.row.cell 0 rfl
  have y1 := B.out.row.cell 1 rfl
  have y2 := B.out.row.cell 2 rfl
  have y3 := B.out.row.cell 3 rfl
  have y4 := B.out.row.cell 4 rfl
  have y5 := B.out.row.cell 5 rfl
  have y6 := B.out.row.cell 6 rfl
  have y7 := B.out.row.cell 7 rfl
  have y8 := B.out.row.cell 8 rfl
  have y9 := B.out.row.cell 9 rfl
  have y10 := B.out.row.cell 10 rfl
  have y11 := B.out.row.cell 11 rfl
  go_wp2_with fail
  refine (KJ.out _ A.out.rows B.out.rows).mono ?_
  rintro e v2 ⟨s2, rfl, r2, hb2⟩
  obtain ⟨ad2, cap2, rfl⟩ := r2.shape
  clear x0 x1 x2 x3 x4 x5 x6 x7 x8 x9 x10 x11 y0 y1 y2 y3 y4 y5 y6 y7 y8 y9 y10 y11
  obtain ⟨W2, hW2⟩ : ∃ W2, W2 = v2.alloc (.cells #[.int .i64 j.g, .bool j.b0, .bool j.b1, .bool j.b2, .bool j.b3, .bool j.b4, .bool j.b5, .bool j.b6, .bool j.b7, .bool j.b8, .bool j.b9, (.slice ad2 j.vs.length cap2)] 25) := ⟨_, rfl⟩
  have hc2 : Below W1.heap.size W1 W2 := by rw [hW2]; exact next hb2 (below_new _ _)
  replace A : Hid (CB W2 w.heap.size a va) := A.out.below hc2
  replace B : Hid (CB W2 (w.heap.size + 1) b vb) := B.out.below hc2
  replace M : Hid (CB W2 v1.heap.size m (.slice ad1 m.vs.length cap1)) := M.out.below hc2
  replace S : Hid (Below w.heap.size w W2) := next S.out hc2
  have J : Hid (CB W2 v2.heap.size j (.slice ad2 j.vs.length cap2)) := by rw [hW2]; exact CB.new v2 j (.slice ad2 j.vs.length cap2) 25 r2
  have HW2 : Hid _ := hW2
  clear r2 hb2 hc2 hW2
  go_upto_region 3 with fail
  rw [← HW2.out]
  clear HW2
  have x0 := A.out.row.cell 0 rfl
  have x1 := A.out.row.cell 1 rfl
  have x2 := A.out.row.cell 2 rfl
  have x3 := A.out.row.cell 3 rfl
  have x4 := A.out.row.cell 4 rfl
  have x5 := A.out.row.cell 5 rfl
  have x6 := A.out.row.cell 6 rfl
  have x7 := A.out.row.cell 7 rfl
  have x8 := A.out.row.cell 8 rfl
  have x9 := A.out.row.cell 9 rfl
  have x10 := A.out.row.cell 10 rfl
  have x11 := A.out.row.cell 11 rfl
  go_wp2_with fail
  refine (KD.out _ A.out.rows).mono ?_
  rintro e v3 ⟨s3, rfl, r3, hb3⟩
  obtain ⟨ad3, cap3, rfl⟩ := r3.shape
  clear x0 x1 x2 x3 x4 x5 x6 x7 x8 x9 x10 x11
  obtain ⟨W3, hW3⟩ : ∃ W3, W3 = v3.alloc (.cells #[.int .i64 d.g, .bool d.b0, .bool d.b1, .bool d.b2, .bool d.b3, .bool d.b4, .bool d.b5, .bool d.b6, .bool d.b7, .bool d.b8, .bool d.b9, (.slice ad3 d.vs.length cap3)] 25) := ⟨_, rfl⟩
  have hc3 : Below W2.heap.size W2 W3 := by rw [hW3]; exact next hb3 (below_new _ _)
  replace A : Hid (CB W3 w.heap.size a va) := A.out.below hc3
  replace B : Hid (CB W3 (w.heap.size + 1) b vb) := B.out.below hc3
  replace M : Hid (CB W3 v1.heap.size m (.slice ad1 m.vs.length cap1)) := M.out.below hc3
  replace J : Hid (CB W3 v2.heap.size j (.slice ad2 j.vs.length cap2)) := J.out.below hc3
  replace S : Hid (Below w.heap.size w W3) := next S.out hc3
  have D : Hid (CB W3 v3.heap.size d (.slice ad3 d.vs.length cap3)) := by rw [hW3]; exact CB.new v3 d (.slice ad3 d.vs.length cap3) 25 r3
  have HW3 : Hid _ := hW3
  clear r3 hb3 hc3 hW3
  go_upto_region 4 with fail
  rw [← HW3.out]
  clear HW3
  have x0 := A.out.row.cell 0 rfl
  have x1 := A.out.row.cell 1 rfl
  have x2 := A.out.row.cell 2 rfl
  have x3 := A.out.row.cell 3 rfl
  have x4 := A.out.row.cell 4 rfl
  have x5 := A.out.row.cell 5 rfl
  have x6 := A.out.row.cell 6 rfl
  have x7 := A.out.row.cell 7 rfl
  have x8 := A.out.row.cell 8 rfl
  have x9 := A.out.row.cell 9 rfl
  have x10 := A.out.row.cell 10 rfl
  have x11 := A.out.row.cell 11 rfl
  have y0 := B.out.row.cell 0 rfl
  have y1 := B.out.row.cell 1 rfl
  have y2 := B.out.row.cell 2 rfl
  have y3 := B.out.row.cell 3 rfl
  have y4 := B.out.row.cell 4 rfl
  have y5 := B.out.row.cell 5 rfl
  have y6 := B.out.row.cell 6 rfl
  have y7 := B.out.row.cell 7 rfl
  have y8 := B.out.row.cell 8 rfl
  have y9 := B.out.row.cell 9 rfl
  have y10 := B.out.row.cell 10 rfl
  have y11 := B.out.row.cell 11 rfl
  go_wp2_with fail
  refine (KX.out _ A.out.rows B.out.rows).mono ?_
  rintro e v4 ⟨s4, rfl, r4, hb4⟩
  obtain ⟨ad4, cap4, rfl⟩ := r4.shape
  clear x0 x1 x2 x3 x4 x5 x6 x7 x8 x9 x10 x11 y0 y1 y2 y3 y4 y5 y6 y7 y8 y9 y10 y11
  obtain ⟨W4, hW4⟩ : ∃ W4, W4 = v4.alloc (.cells #[.int .i64 m.g, .bool m.b0, .bool m.b1, .bool m.b2, .bool m.b3, .bool m.b4, .bool m.b5, .bool m.b6, .bool m.b7, .bool m.b8, .bool m.b9, (.slice ad4 m.vs.length cap4)] 25) := ⟨_, rfl⟩
  have hc4 : Below W3.heap.size W3 W4 := by rw [hW4]; exact next hb4 (below_new _ _)
  replace A : Hid (CB W4 w.heap.size a va) := A.out.below hc4
  replace B : Hid (CB W4 (w.heap.size + 1) b vb) := B.out.below hc4
  replace M : Hid (CB W4 v1.heap.size m (.slice ad1 m.vs.length cap1)) := M.out.below hc4
  replace J : Hid (CB W4 v2.heap.size j (.slice ad2 j.vs.length cap2)) := J.out.below hc4
  replace D : Hid (CB W4 v3.heap.size d (.slice ad3 d.vs.length cap3)) := D.out.below hc4
  replace S : Hid (Below w.heap.size w W4) := next S.out hc4
  have X : Hid (CB W4 v4.heap.size m (.slice ad4 m.vs.length cap4)) := by rw [hW4]; exact CB.new v4 m (.slice ad4 m.vs.length cap4) 25 r4
  have HW4 : Hid _ := hW4
  clear r4 hb4 hc4 hW4
  go_upto_region 5 with fail
  rw [← HW4.out]
  clear HW4
  have x0 := A.out.row.cell 0 rfl
  have x1 := A.out.row.cell 1 rfl
  have x2 := A.out.row.cell 2 rfl
  have x3 := A.out.row.cell 3 rfl
  have x4 := A.out.row.cell 4 rfl
  have x5 := A.out.row.cell 5 rfl
  have x6 := A.out.row.cell 6 rfl
  have x7 := A.out.row.cell 7 rfl
  have x8 := A.out.row.cell 8 rfl
  have x9 := A.out.row.cell 9 rfl
  have x10 := A.out.row.cell 10 rfl
  have x11 := A.out.row.cell 11 rfl
  have y0 := B.out.row.cell 0 rfl
  have y1 := B.out.row.cell 1 rfl
  have y2 := B.out.row.cell 2 rfl
  have y3 := B.out.row.cell 3 rfl
  have y4 := B.out.row.cell 4 rfl
  have y5 := B.out.row.cell 5 rfl
  have y6 := B.out.row.cell 6 rfl
  have y7 := B.out.row.cell 7 rfl
  have y8 := B.out.row.cell 8 rfl
  have y9 := B.out.row.cell 9 rfl
  have y10 := B.out.row.cell 10 rfl
  have y11 := B.out.row.cell 11 rfl
  go_wp2_with fail
  refine (KY.out _ A.out.rows B.out.rows).mono ?_
  rintro e v5 ⟨s5, rfl, r5, hb5⟩
  obtain ⟨ad5, cap5, rfl⟩ := r5.shape
  clear x0 x1 x2 x3 x4 x5 x6 x7 x8 x9 x10 x11 y0 y1 y2 y3 y4 y5 y6 y7 y8 y9 y10 y11
  obtain ⟨W5, hW5⟩ : ∃ W5, W5 = v5.alloc (.cells #[.int .i64 j.g, .bool j.b0, .bool j.b1, .bool j.b2, .bool j.b3, .bool j.b4, .bool j.b5, .bool j.b6, .bool j.b7, .bool j.b8, .bool j.b9, (.slice ad5 j.vs.length cap5)] 25) := ⟨_, rfl⟩
  have hc5 : Below W4.heap.size W4 W5 := by rw [hW5]; exact next hb5 (below_new _ _)
  replace A : Hid (CB W5 w.heap.size a va) := A.out.below hc5
  replace B : Hid (CB W5 (w.heap.size + 1) b vb) := B.out.below hc5
  replace M : Hid (CB W5 v1.heap.size m (.slice ad1 m.vs.length cap1)) := M.out.below hc5
  replace J : Hid (CB W5 v2.heap.size j (.slice ad2 j.vs.length cap2)) := J.out.below hc5
  replace D : Hid (CB W5 v3.heap.size d (.slice ad3 d.vs.length cap3)) := D.out.below hc5
  replace X : Hid (CB W5 v4.heap.size m (.slice ad4 m.vs.length cap4)) := X.out.below hc5
  replace S : Hid (Below w.heap.size w W5) := next S.out hc5
  have Y : Hid (CB W5 v5.heap.size j (.slice ad5 j.vs.length cap5)) := by rw [hW5]; exact CB.new v5 j (.slice ad5 j.vs.length cap5) 25 r5
  have HW5 : Hid _ := hW5
  clear r5 hb5 hc5 hW5
  go_upto_region 6 with fail
  rw [← HW5.out]
  clear HW5
  have x0 := A.out.row.cell 0 rfl
  have x1 := A.out.row.cell 1 rfl
  have x2 := A.out.row.cell 2 rfl
  have x3 := A.out.row.cell 3 rfl
  have x4 := A.out.row.cell 4 rfl
  have x5 := A.out.row.cell 5 rfl
  have x6 := A.out.row.cell 6 rfl
  have x7 := A.out.row.cell 7 rfl
  have x8 := A.out.row.cell 8 rfl
  have x9 := A.out.row.cell 9 rfl
  have x10 := A.out.row.cell 10 rfl
  have x11 := A.out.row.cell 11 rfl
  go_wp2_with fail
  refine (KZ.out _ A.out.rows).mono ?_
  rintro e v6 ⟨s6, rfl, r6, hb6⟩
  obtain ⟨ad6, cap6, rfl⟩ := r6.shape
  clear x0 x1 x2 x3 x4 x5 x6 x7 x8 x9 x10 x11
  obtain ⟨W6, hW6⟩ : ∃ W6, W6 = v6.alloc (.cells #[.int .i64 d.g, .bool d.b0, .bool d.b1, .bool d.b2, .bool d.b3, .bool d.b4, .bool d.b5, .bool d.b6, .bool d.b7, .bool d.b8, .bool d.b9, (.slice ad6 d.vs.length cap6)] 25) := ⟨_, rfl⟩
  have hc6 : Below W5.heap.size W5 W6 := by rw [hW6]; exact next hb6 (below_new _ _)
  replace A : Hid (CB W6 w.heap.size a va) := A.out.below hc6
  replace B : Hid (CB W6 (w.heap.size + 1) b vb) := B.out.below hc6
  replace M : Hid (CB W6 v1.heap.size m (.slice ad1 m.vs.length cap1)) := M.out.below hc6
  replace J : Hid (CB W6 v2.heap.size j (.slice ad2 j.vs.length cap2)) := J.out.below hc6
  replace D : Hid (CB W6 v3.heap.size d (.slice ad3 d.vs.length cap3)) := D.out.below hc6
  replace X : Hid (CB W6 v4.heap.size m (.slice ad4 m.vs.length cap4)) := X.out.below hc6
  replace Y : Hid (CB W6 v5.heap.size j (.slice ad5 j.vs.length cap5)) := Y.out.below hc6
  replace S : Hid (Below w.heap.size w W6) := next S.out hc6
  have Z : Hid (CB W6 v6.heap.size d (.slice ad6 d.vs.length cap6)) := by rw [hW6]; exact CB.new v6 d (.slice ad6 d.vs.length cap6) 25 r6
  have HW6 : Hid _ := hW6
  clear r6 hb6 hc6 hW6
  go_upto_region 7 with fail
  rw [← HW6.out]
  clear HW6
  clear KM KJ KD KX KY KZ
  have ca0 : ∀ w', Below W6.heap.size W6 w' → w'.cell? ⟨w.heap.size, 0, none⟩ = some (.int .i64 a.g) := fun w' h => (A.out.below h).row.cell 0 rfl
  have ca1 : ∀ w', Below W6.heap.size W6 w' → w'.cell? ⟨w.heap.size, 1, none⟩ = some (.bool a.b0) := fun w' h => (A.out.below h).row.cell 1 rfl
  have ca2 : ∀ w', Below W6.heap.size W6 w' → w'.cell? ⟨w.heap.size, 2, none⟩ = some (.bool a.b1) := fun w' h => (A.out.below h).row.cell 2 rfl
  have ca3 : ∀ w', Below W6.heap.size W6 w' → w'.cell? ⟨w.heap.size, 3, none⟩ = some (.bool a.b2) := fun w' h => (A.out.below h).row.cell 3 rfl
  have ca4 : ∀ w', Below W6.heap.size W6 w' → w'.cell? ⟨w.heap.size, 4, none⟩ = some (.bool a.b3) := fun w' h => (A.out.below h).row.cell 4 rfl
  have ca5 : ∀ w', Below W6.heap.size W6 w' → w'.cell? ⟨w.heap.size, 5, none⟩ = some (.bool a.b4) := fun w' h => (A.out.below h).row.cell 5 rfl
  have ca6 : ∀ w', Below W6.heap.size W6 w' → w'.cell? ⟨w.heap.size, 6, none⟩ = some (.bool a.b5) := fun w' h => (A.out.below h).row.cell 6 rfl
  have ca7 : ∀ w', Below W6.heap.size W6 w' → w'.cell? ⟨w.heap.size, 7, none⟩ = some (.bool a.b6) := fun w' h => (A.out.below h).row.cell 7 rfl
  have ca8 : ∀ w', Below W6.heap.size W6 w' → w'.cell? ⟨w.heap.size, 8, none⟩ = some (.bool a.b7) := fun w' h => (A.out.below h).row.cell 8 rfl
  have ca9 : ∀ w', Below W6.heap.size W6 w' → w'.cell? ⟨w.heap.size, 9, none⟩ = some (.bool a.b8) := fun w' h => (A.out.below h).row.cell 9 rfl
  have ca10 : ∀ w', Below W6.heap.size W6 w' → w'.cell? ⟨w.heap.size, 10, none⟩ = some (.bool a.b9) := fun w' h => (A.out.below h).row.cell 10 rfl
  have ca11 : ∀ w', Below W6.heap.size W6 w' → w'.cell? ⟨w.heap.size, 11, none⟩ = some (va) := fun w' h => (A.out.below h).row.cell 11 rfl
  have cb0 : ∀ w', Below W6.heap.size W6 w' → w'.cell? ⟨(w.heap.size + 1), 0, none⟩ = some (.int .i64 b.g) := fun w' h => (B.out.below h).row.cell 0 rfl
  have cb1 : ∀ w', Below W6.heap.size W6 w' → w'.cell? ⟨(w.heap.size + 1), 1, none⟩ = some (.bool b.b0) := fun w' h => (B.out.below h).row.cell 1 rfl
  have cb2 : ∀ w', Below W6.heap.size W6 w' → w'.cell? ⟨(w.heap.size + 1), 2, none⟩ = some (.bool b.b1) := fun w' h => (B.out.below h).row.cell 2 rfl
  have cb3 : ∀ w', Below W6.heap.size W6 w' → w'.cell? ⟨(w.heap.size + 1), 3, none⟩ = some (.bool b.b2) := fun w' h => (B.out.below h).row.cell 3 rfl
  have cb4 : ∀ w', Below W6.heap.size W6 w' → w'.cell? ⟨(w.heap.size + 1), 4, none⟩ = some (.bool b.b3) := fun w' h => (B.out.below h).row.cell 4 rfl
  have cb5 : ∀ w', Below W6.heap.size W6 w' → w'.cell? ⟨(w.heap.size + 1), 5, none⟩ = some (.bool b.b4) := fun w' h => (B.out.below h).row.cell 5 rfl
  have cb6 : ∀ w', Below W6.heap.size W6 w' → w'.cell? ⟨(w.heap.size + 1), 6, none⟩ = some (.bool b.b5) := fun w' h => (B.out.below h).row.cell 6 rfl
  have cb7 : ∀ w', Below W6.heap.size W6 w' → w'.cell? ⟨(w.heap.size + 1), 7, none⟩ = some (.bool b.b6) := fun w' h => (B.out.below h).row.cell 7 rfl
  have cb8 : ∀ w', Below W6.heap.size W6 w' → w'.cell? ⟨(w.heap.size + 1), 8, none⟩ = some (.bool b.b7) := fun w' h => (B.out.below h).row.cell 8 rfl
  have cb9 : ∀ w', Below W6.heap.size W6 w' → w'.cell? ⟨(w.heap.size + 1), 9, none⟩ = some (.bool b.b8) := fun w' h => (B.out.below h).row.cell 9 rfl
  have cb10 : ∀ w', Below W6.heap.size W6 w' → w'.cell? ⟨(w.heap.size + 1), 10, none⟩ = some (.bool b.b9) := fun w' h => (B.out.below h).row.cell 10 rfl
  have cb11 : ∀ w', Below W6.heap.size W6 w' → w'.cell? ⟨(w.heap.size + 1), 11, none⟩ = some (vb) := fun w' h => (B.out.below h).row.cell 11 rfl
  have cm0 : ∀ w', Below W6.heap.size W6 w' → w'.cell? ⟨v1.heap.size, 0, none⟩ = some (.int .i64 m.g) := fun w' h => (M.out.below h).row.cell 0 rfl
  have cm1 : ∀ w', Below W6.heap.size W6 w' → w'.cell? ⟨v1.heap.size, 1, none⟩ = some (.bool m.b0) := fun w' h => (M.out.below h).row.cell 1 rfl
  have cm2 : ∀ w', Below W6.heap.size W6 w' → w'.cell? ⟨v1.heap.size, 2, none⟩ = some (.bool m.b1) := fun w' h => (M.out.below h).row.cell 2 rfl
  have cm3 : ∀ w', Below W6.heap.size W6 w' → w'.cell? ⟨v1.heap.size, 3, none⟩ = some (.bool m.b2) := fun w' h => (M.out.below h).row.cell 3 rfl
  have cm4 : ∀ w', Below W6.heap.size W6 w' → w'.cell? ⟨v1.heap.size, 4, none⟩ = some (.bool m.b3) := fun w' h => (M.out.below h).row.cell 4 rfl
  have cm5 : ∀ w', Below W6.heap.size W6 w' → w'.cell? ⟨v1.heap.size, 5, none⟩ = some (.bool m.b4) := fun w' h => (M.out.below h).row.cell 5 rfl
  have cm6 : ∀ w', Below W6.heap.size W6 w' → w'.cell? ⟨v1.heap.size, 6, none⟩ = some (.bool m.b5) := fun w' h => (M.out.below h).row.cell 6 rfl
  have cm7 : ∀ w', Below W6.heap.size W6 w' → w'.cell? ⟨v1.heap.size, 7, none⟩ = some (.bool m.b6) := fun w' h => (M.out.below h).row.cell 7 rfl
  have cm8 : ∀ w', Below W6.heap.size W6 w' → w'.cell? ⟨v1.heap.size, 8, none⟩ = some (.bool m.b7) := fun w' h => (M.out.below h).row.cell 8 rfl
  have cm9 : ∀ w', Below W6.heap.size W6 w' → w'.cell? ⟨v1.heap.size, 9, none⟩ = some (.bool m.b8) := fun w' h => (M.out.below h).row.cell 9 rfl
  have cm10 : ∀ w', Below W6.heap.size W6 w' → w'.cell? ⟨v1.heap.size, 10, none⟩ = some (.bool m.b9) := fun w' h => (M.out.below h).row.cell 10 rfl
  have cm11 : ∀ w', Below W6.heap.size W6 w' → w'.cell? ⟨v1.heap.size, 11, none⟩ = some (.slice ad1 m.vs.length cap1) := fun w' h => (M.out.below h).row.cell 11 rfl
  have cj0 : ∀ w', Below W6.heap.size W6 w' → w'.cell? ⟨v2.heap.size, 0, none⟩ = some (.int .i64 j.g) := fun w' h => (J.out.below h).row.cell 0 rfl
  have cj1 : ∀ w', Below W6.heap.size W6 w' → w'.cell? ⟨v2.heap.size, 1, none⟩ = some (.bool j.b0) := fun w' h => (J.out.below h).row.cell 1 rfl
  have cj2 : ∀ w', Below W6.heap.size W6 w' → w'.cell? ⟨v2.heap.size, 2, none⟩ = some (.bool j.b1) := fun w' h => (J.out.below h).row.cell 2 rfl
  have cj3 : ∀ w', Below W6.heap.size W6 w' → w'.cell? ⟨v2.heap.size, 3, none⟩ = some (.bool j.b2) := fun w' h => (J.out.below h).row.cell 3 rfl
  have cj4 : ∀ w', Below W6.heap.size W6 w' → w'.cell? ⟨v2.heap.size, 4, none⟩ = some (.bool j.b3) := fun w' h => (J.out.below h).row.cell 4 rfl
  have cj5 : ∀ w', Below W6.heap.size W6 w' → w'.cell? ⟨v2.heap.size, 5, none⟩ = some (.bool j.b4) := fun w' h => (J.out.below h).row.cell 5 rfl
  have cj6 : ∀ w', Below W6.heap.size W6 w' → w'.cell? ⟨v2.heap.size, 6, none⟩ = some (.bool j.b5) := fun w' h => (J.out.below h).row.cell 6 rfl
  have cj7 : ∀ w', Below W6.heap.size W6 w' → w'.cell? ⟨v2.heap.size, 7, none⟩ = some (.bool j.b6) := fun w' h => (J.out.below h).row.cell 7 rfl
  have cj8 : ∀ w', Below W6.heap.size W6 w' → w'.cell? ⟨v2.heap.size, 8, none⟩ = some (.bool j.b7) := fun w' h => (J.out.below h).row.cell 8 rfl
  have cj9 : ∀ w', Below W6.heap.size W6 w' → w'.cell? ⟨v2.heap.size, 9, none⟩ = some (.bool j.b8) := fun w' h => (J.out.below h).row.cell 9 rfl
  have cj10 : ∀ w', Below W6.heap.size W6 w' → w'.cell? ⟨v2.heap.size, 10, none⟩ = some (.bool j.b9) := fun w' h => (J.out.below h).row.cell 10 rfl
  have cj11 : ∀ w', Below W6.heap.size W6 w' → w'.cell? ⟨v2.heap.size, 11, none⟩ = some (.slice ad2 j.vs.length cap2) := fun w' h => (J.out.below h).row.cell 11 rfl
  have cd0 : ∀ w', Below W6.heap.size W6 w' → w'.cell? ⟨v3.heap.size, 0, none⟩ = some (.int .i64 d.g) := fun w' h => (D.out.below h).row.cell 0 rfl
  have cd1 : ∀ w', Below W6.heap.size W6 w' → w'.cell? ⟨v3.heap.size, 1, none⟩ = some (.bool d.b0) := fun w' h => (D.out.below h).row.cell 1 rfl
  have cd2 : ∀ w', Below W6.heap.size W6 w' → w'.cell? ⟨v3.heap.size, 2, none⟩ = some (.bool d.b1) := fun w' h => (D.out.below h).row.cell 2 rfl
  have cd3 : ∀ w', Below W6.heap.size W6 w' → w'.cell? ⟨v3.heap.size, 3, none⟩ = some (.bool d.b2) := fun w' h => (D.out.below h).row.cell 3 rfl
  have cd4 : ∀ w', Below W6.heap.size W6 w' → w'.cell? ⟨v3.heap.size, 4, none⟩ = some (.bool d.b3) := fun w' h => (D.out.below h).row.cell 4 rfl
  have cd5 : ∀ w', Below W6.heap.size W6 w' → w'.cell? ⟨v3.heap.size, 5, none⟩ = some (.bool d.b4) := fun w' h => (D.out.below h).row.cell 5 rfl
  have cd6 : ∀ w', Below W6.heap.size W6 w' → w'.cell? ⟨v3.heap.size, 6, none⟩ = some (.bool d.b5) := fun w' h => (D.out.below h).row.cell 6 rfl
  have cd7 : ∀ w', Below W6.heap.size W6 w' → w'.cell? ⟨v3.heap.size, 7, none⟩ = some (.bool d.b6) := fun w' h => (D.out.below h).row.cell 7 rfl
  have cd8 : ∀ w', Below W6.heap.size W6 w' → w'.cell? ⟨v3.heap.size, 8, none⟩ = some (.bool d.b7) := fun w' h => (D.out.below h).row.cell 8 rfl
  have cd9 : ∀ w', Below W6.heap.size W6 w' → w'.cell? ⟨v3.heap.size, 9, none⟩ = some (.bool d.b8) := fun w' h => (D.out.below h).row.cell 9 rfl
  have cd10 : ∀ w', Below W6.heap.size W6 w' → w'.cell? ⟨v3.heap.size, 10, none⟩ = some (.bool d.b9) := fun w' h => (D.out.below h).row.cell 10 rfl
  have cd11 : ∀ w', Below W6.heap.size W6 w' → w'.cell? ⟨v3.heap.size, 11, none⟩ = some (.slice ad3 d.vs.length cap3) := fun w' h => (D.out.below h).row.cell 11 rfl
  have cx0 : ∀ w', Below W6.heap.size W6 w' → w'.cell? ⟨v4.heap.size, 0, none⟩ = some (.int .i64 m.g) := fun w' h => (X.out.below h).row.cell 0 rfl
  have cx1 : ∀ w', Below W6.heap.size W6 w' → w'.cell? ⟨v4.heap.size, 1, none⟩ = some (.bool m.b0) := fun w' h => (X.out.below h).row.cell 1 rfl
  have cx2 : ∀ w', Below W6.heap.size W6 w' → w'.cell? ⟨v4.heap.size, 2, none⟩ = some (.bool m.b1) := fun w' h => (X.out.below h).row.cell 2 rfl
  have cx3 : ∀ w', Below W6.heap.size W6 w' → w'.cell? ⟨v4.heap.size, 3, none⟩ = some (.bool m.b2) := fun w' h => (X.out.below h).row.cell 3 rfl
  have cx4 : ∀ w', Below W6.heap.size W6 w' → w'.cell? ⟨v4.heap.size, 4, none⟩ = some (.bool m.b3) := fun w' h => (X.out.below h).row.cell 4 rfl
  have cx5 : ∀ w', Below W6.heap.size W6 w' → w'.cell? ⟨v4.heap.size, 5, none⟩ = some (.bool m.b4) := fun w' h => (X.out.below h).row.cell 5 rfl
  have cx6 : ∀ w', Below W6.heap.size W6 w' → w'.cell? ⟨v4.heap.size, 6, none⟩ = some (.bool m.b5) := fun w' h => (X.out.below h).row.cell 6 rfl
  have cx7 : ∀ w', Below W6.heap.size W6 w' → w'.cell? ⟨v4.heap.size, 7, none⟩ = some (.bool m.b6) := fun w' h => (X.out.below h).row.cell 7 rfl
  have cx8 : ∀ w', Below W6.heap.size W6 w' → w'.cell? ⟨v4.heap.size, 8, none⟩ = some (.bool m.b7) := fun w' h => (X.out.below h).row.cell 8 rfl
  have cx9 : ∀ w', Below W6.heap.size W6 w' → w'.cell? ⟨v4.heap.size, 9, none⟩ = some (.bool m.b8) := fun w' h => (X.out.below h).row.cell 9 rfl
  have cx10 : ∀ w', Below W6.heap.size W6 w' → w'.cell? ⟨v4.heap.size, 10, none⟩ = some (.bool m.b9) := fun w' h => (X.out.below h).row.cell 10 rfl
  have cx11 : ∀ w', Below W6.heap.size W6 w' → w'.cell? ⟨v4.heap.size, 11, none⟩ = some (.slice ad4 m.vs.length cap4) := fun w' h => (X.out.below h).row.cell 11 rfl
  have cy0 : ∀ w', Below W6.heap.size W6 w' → w'.cell? ⟨v5.heap.size, 0, none⟩ = some (.int .i64 j.g) := fun w' h => (Y.out.below h).row.cell 0 rfl
  have cy1 : ∀ w', Below W6.heap.size W6 w' → w'.cell? ⟨v5.heap.size, 1, none⟩ = some (.bool j.b0) := fun w' h => (Y.out.below h).row.cell 1 rfl
  have cy2 : ∀ w', Below W6.heap.size W6 w' → w'.cell? ⟨v5.heap.size, 2, none⟩ = some (.bool j.b1) := fun w' h => (Y.out.below h).row.cell 2 rfl
  have cy3 : ∀ w', Below W6.heap.size W6 w' → w'.cell? ⟨v5.heap.size, 3, none⟩ = some (.bool j.b2) := fun w' h => (Y.out.below h).row.cell 3 rfl
  have cy4 : ∀ w', Below W6.heap.size W6 w' → w'.cell? ⟨v5.heap.size, 4, none⟩ = some (.bool j.b3) := fun w' h => (Y.out.below h).row.cell 4 rfl
  have cy5 : ∀ w', Below W6.heap.size W6 w' → w'.cell? ⟨v5.heap.size, 5, none⟩ = some (.bool j.b4) := fun w' h => (Y.out.below h).row.cell 5 rfl
  have cy6 : ∀ w', Below W6.heap.size W6 w' → w'.cell? ⟨v5.heap.size, 6, none⟩ = some (.bool j.b5) := fun w' h => (Y.out.below h).row.cell 6 rfl
  have cy7 : ∀ w', Below W6.heap.size W6 w' → w'.cell? ⟨v5.heap.size, 7, none⟩ = some (.bool j.b6) := fun w' h => (Y.out.below h).row.cell 7 rfl
  have cy8 : ∀ w', Below W6.heap.size W6 w' → w'.cell? ⟨v5.heap.size, 8, none⟩ = some (.bool j.b7) := fun w' h => (Y.out.below h).row.cell 8 rfl
  have cy9 : ∀ w', Below W6.heap.size W6 w' → w'.cell? ⟨v5.heap.size, 9, none⟩ = some (.bool j.b8) := fun w' h => (Y.out.below h).row.cell 9 rfl
  have cy10 : ∀ w', Below W6.heap.size W6 w' → w'.cell? ⟨v5.heap.size, 10, none⟩ = some (.bool j.b9) := fun w' h => (Y.out.below h).row.cell 10 rfl
  have cy11 : ∀ w', Below W6.heap.size W6 w' → w'.cell? ⟨v5.heap.size, 11, none⟩ = some (.slice ad5 j.vs.length cap5) := fun w' h => (Y.out.below h).row.cell 11 rfl
  have cz0 : ∀ w', Below W6.heap.size W6 w' → w'.cell? ⟨v6.heap.size, 0, none⟩ = some (.int .i64 d.g) := fun w' h => (Z.out.below h).row.cell 0 rfl
  have cz1 : ∀ w', Below W6.heap.size W6 w' → w'.cell? ⟨v6.heap.size, 1, none⟩ = some (.bool d.b0) := fun w' h => (Z.out.below h).row.cell 1 rfl
  have cz2 : ∀ w', Below W6.heap.size W6 w' → w'.cell? ⟨v6.heap.size, 2, none⟩ = some (.bool d.b1) := fun w' h => (Z.out.below h).row.cell 2 rfl
  have cz3 : ∀ w', Below W6.heap.size W6 w' → w'.cell? ⟨v6.heap.size, 3, none⟩ = some (.bool d.b2) := fun w' h => (Z.out.below h).row.cell 3 rfl
  have cz4 : ∀ w', Below W6.heap.size W6 w' → w'.cell? ⟨v6.heap.size, 4, none⟩ = some (.bool d.b3) := fun w' h => (Z.out.below h).row.cell 4 rfl
  have cz5 : ∀ w', Below W6.heap.size W6 w' → w'.cell? ⟨v6.heap.size, 5, none⟩ = some (.bool d.b4) := fun w' h => (Z.out.below h).row.cell 5 rfl
  have cz6 : ∀ w', Below W6.heap.size W6 w' → w'.cell? ⟨v6.heap.size, 6, none⟩ = some (.bool d.b5) := fun w' h => (Z.out.below h).row.cell 6 rfl
  have cz7 : ∀ w', Below W6.heap.size W6 w' → w'.cell? ⟨v6.heap.size, 7, none⟩ = some (.bool d.b6) := fun w' h => (Z.out.below h).row.cell 7 rfl
  have cz8 : ∀ w', Below W6.heap.size W6 w' → w'.cell? ⟨v6.heap.size, 8, none⟩ = some (.bool d.b7) := fun w' h => (Z.out.below h).row.cell 8 rfl
  have cz9 : ∀ w', Below W6.heap.size W6 w' → w'.cell? ⟨v6.heap.size, 9, none⟩ = some (.bool d.b8) := fun w' h => (Z.out.below h).row.cell 9 rfl
  have cz10 : ∀ w', Below W6.heap.size W6 w' → w'.cell? ⟨v6.heap.size, 10, none⟩ = some (.bool d.b9) := fun w' h => (Z.out.below h).row.cell 10 rfl
  have cz11 : ∀ w', Below W6.heap.size W6 w' → w'.cell? ⟨v6.heap.size, 11, none⟩ = some (.slice ad6 d.vs.length cap6) := fun w' h => (Z.out.below h).row.cell 11 rfl
  go_region_held3 (fun w' => Below W6.heap.size W6 w') (first | assumption | exact (Below.refl _ W6).drew | exact Below.drew (by assumption) | fail)
    (first
    | (go_at_call 13; refine (grantBegun_any _).mono ?_; rintro e wN ⟨rfl, hbN⟩; have hSN : Below W6.heap.size W6 wN := Below.trans (by first | assumption | exact (Below.refl _ W6).drew | exact Below.drew (by assumption)) (hbN.mono (Below.size (by first | assumption | exact (Below.refl _ W6).drew | exact Below.drew (by assumption)))); clear hbN)
    | (go_at_call 14; refine (LM.out _ (Rows.below A.out.rows (by first | assumption | exact (Below.refl _ W6).drew | exact Below.drew (by assumption)) (Nat.le_refl _))).mono ?_; rintro e wN ⟨rfl, hbN⟩; have hSN : Below W6.heap.size W6 wN := Below.trans (by first | assumption | exact (Below.refl _ W6).drew | exact Below.drew (by assumption)) (hbN.mono (Below.size (by first | assumption | exact (Below.refl _ W6).drew | exact Below.drew (by assumption)))); clear hbN)
    | (go_at_call 15; refine (LN.out _ (Rows.below A.out.rows (by first | assumption | exact (Below.refl _ W6).drew | exact Below.drew (by assumption)) (Nat.le_refl _))).mono ?_; rintro e wN ⟨rfl, hbN⟩; have hSN : Below W6.heap.size W6 wN := Below.trans (by first | assumption | exact (Below.refl _ W6).drew | exact Below.drew (by assumption)) (hbN.mono (Below.size (by first | assumption | exact (Below.refl _ W6).drew | exact Below.drew (by assumption)))); clear hbN)
    | (go_at_call 16; refine (LL.out _ (Rows.below A.out.rows (by first | assumption | exact (Below.refl _ W6).drew | exact Below.drew (by assumption)) (Nat.le_refl _)) (Rows.below B.out.rows (by first | assumption | exact (Below.refl _ W6).drew | exact Below.drew (by assumption)) (Nat.le_refl _))).mono ?_; rintro e wN ⟨rfl, hbN⟩; have hSN : Below W6.heap.size W6 wN := Below.trans (by first | assumption | exact (Below.refl _ W6).drew | exact Below.drew (by assumption)) (hbN.mono (Below.size (by first | assumption | exact (Below.refl _ W6).drew | exact Below.drew (by assumption)))); clear hbN)
    | (go_at_call 17; refine (LO.out _ (Rows.below A.out.rows (by first | assumption | exact (Below.refl _ W6).drew | exact Below.drew (by assumption)) (Nat.le_refl _)) (Rows.below B.out.rows (by first | assumption | exact (Below.refl _ W6).drew | exact Below.drew (by assumption)) (Nat.le_refl _))).mono ?_; rintro e wN ⟨rfl, hbN⟩; have hSN : Below W6.heap.size W6 wN := Below.trans (by first | assumption | exact (Below.refl _ W6).drew | exact Below.drew (by assumption)) (hbN.mono (Below.size (by first | assumption | exact (Below.refl _ W6).drew | exact Below.drew (by assumption)))); clear hbN)
    | (go_at_call_of 18 (Value.slice ad1 m.vs.length cap1); refine (SM.out _ _ _ (Rows.below M.out.rows (by first | assumption | exact (Below.refl _ W6).drew | exact Below.drew (by assumption)) (Nat.le_refl _)) (Rows.below X.out.rows (by first | assumption | exact (Below.refl _ W6).drew | exact Below.drew (by assumption)) (Nat.le_refl _))).mono ?_; rintro e wN ⟨rfl, hbN⟩; have hSN : Below W6.heap.size W6 wN := Below.trans (by first | assumption | exact (Below.refl _ W6).drew | exact Below.drew (by assumption)) (hbN.mono (Below.size (by first | assumption | exact (Below.refl _ W6).drew | exact Below.drew (by assumption)))); clear hbN)
    | (go_at_call_of 18 (Value.slice ad2 j.vs.length cap2); refine (SJ.out _ _ _ (Rows.below J.out.rows (by first | assumption | exact (Below.refl _ W6).drew | exact Below.drew (by assumption)) (Nat.le_refl _)) (Rows.below Y.out.rows (by first | assumption | exact (Below.refl _ W6).drew | exact Below.drew (by assumption)) (Nat.le_refl _))).mono ?_; rintro e wN ⟨rfl, hbN⟩; have hSN : Below W6.heap.size W6 wN := Below.trans (by first | assumption | exact (Below.refl _ W6).drew | exact Below.drew (by assumption)) (hbN.mono (Below.size (by first | assumption | exact (Below.refl _ W6).drew | exact Below.drew (by assumption)))); clear hbN)
    | (go_at_call_of 18 (Value.slice ad3 d.vs.length cap3); refine (SD.out _ _ _ (Rows.below D.out.rows (by first | assumption | exact (Below.refl _ W6).drew | exact Below.drew (by assumption)) (Nat.le_refl _)) (Rows.below Z.out.rows (by first | assumption | exact (Below.refl _ W6).drew | exact Below.drew (by assumption)) (Nat.le_refl _))).mono ?_; rintro e wN ⟨rfl, hbN⟩; have hSN : Below W6.heap.size W6 wN := Below.trans (by first | assumption | exact (Below.refl _ W6).drew | exact Below.drew (by assumption)) (hbN.mono (Below.size (by first | assumption | exact (Below.refl _ W6).drew | exact Below.drew (by assumption)))); clear hbN)
    | fail)
  go_wp2_with fail
  go_ret
  exact ⟨rfl, next S.out (by assumption)⟩
set_option maxRecDepth 100000 in
theorem lifted (os : Os) (started : os.Started) (H : Type) (enc : TypeId × Value → H) :
    ReturnsInHanded {} Try.checked os 3 .any (Rows.grantTellsSpec.pre6 enc Try.prog Try.f3 Rows.grantTellsRow.domain false) (Rows.grantTellsSpec.post enc Try.prog Try.f3 false true false false) := by
  refine returnsInHanded_of_change_sized (C := Try.checked) own started (by kernel_rfl) Try.func3
    (ChangeSpec.witness6 (enc := enc) (C := Try.checked) false ⟨#[], #[.agg #[.int .i64 0, .bool false, .bool false, .bool false, .bool false, .bool false, .bool false, .bool false, .bool false, .bool false, .bool false, .slice none 0 0], .agg #[.int .i64 0, .bool false, .bool false, .bool false, .bool false, .bool false, .bool false, .bool false, .bool false, .bool false, .bool false, .slice none 0 0], .int .i64 0, .int .i64 0, .int .i64 0], []⟩ 8 (by kernel_rfl) (by kernel_rfl) (by kernel_rfl) (by kernel_rfl)) ?_
  intro W base args ds gs before hval0 hW hcnd hsz0 _
  have hsz : (DataW.weightsEach Try.prog (Try.f3.params.toList ++ Rows.grantTellsSpec.plain.varTypes Try.prog) (ds ++ gs)).all (· ≤ reachBytes) = true := hsz0
  have hval : ∀ (j : Nat) t v, Try.f3.params[j]? = some t → args[j]? = some v → Value.okWide Try.prog W .any base t v := hval0
  have hW' := hW
  obtain ⟨p, q, hA0, hV, rfl, hfz, hnd⟩ := hW
  have hA : DataW.TrodAll enc Try.prog W 0 (fun _ => true) true Try.f3.params.toList args.toList ds p := hA0
  rw [Try.params3] at hA hval hsz
  obtain ⟨v0, vs0, d0, ds0, p0, q0, hargs, rfl, rfl, h0, r0⟩ := trodAll_cons hA
  obtain ⟨v1, vs1, d1, ds1, p1, q1, rfl, rfl, rfl, h1, r1⟩ := trodAll_cons r0
  obtain ⟨v2, vs2, d2, ds2, p2, q2, rfl, rfl, rfl, h2, r2⟩ := trodAll_cons r1
  obtain ⟨v3, vs3, d3, ds3, p3, q3, rfl, rfl, rfl, h3, r3⟩ := trodAll_cons r2
  obtain ⟨v4, vs4, d4, ds4, p4, q4, rfl, rfl, rfl, h4, r4⟩ := trodAll_cons r3
  obtain ⟨rfl, rfl, rfl⟩ := trodAll_nil r4
  obtain rfl : args = #[v0, v1, v2, v3, v4] := by cases args; simp_all
  obtain ⟨rfl, rfl⟩ := trodVars_none hV
  have k0 := h0
  have lt0 : ∀ x ∈ p0, x.block < W.heap.size := by obtain ⟨m, hm⟩ := k0; exact DataW.trod_lt m _ _ _ hm
  have k1 := h1
  have lt1 : ∀ x ∈ p1, x.block < W.heap.size := by obtain ⟨m, hm⟩ := k1; exact DataW.trod_lt m _ _ _ hm
  have k2 := h2
  have lt2 : ∀ x ∈ p2, x.block < W.heap.size := by obtain ⟨m, hm⟩ := k2; exact DataW.trod_lt m _ _ _ hm
  have k3 := h3
  have lt3 : ∀ x ∈ p3, x.block < W.heap.size := by obtain ⟨m, hm⟩ := k3; exact DataW.trod_lt m _ _ _ hm
  have k4 := h4
  have lt4 : ∀ x ∈ p4, x.block < W.heap.size := by obtain ⟨m, hm⟩ := k4; exact DataW.trod_lt m _ _ _ hm
  obtain ⟨c0, vv0, rfl, rd0, ok0, bk0⟩ := open_consent (hval 0 25 v0 rfl rfl) k0 140737488351232 (fits_each hsz (j := 0) (t := 25) rfl rfl)
  obtain ⟨c1, vv1, rfl, rd1, ok1, bk1⟩ := open_consent (hval 1 25 v1 rfl rfl) k1 140737488351232 (fits_each hsz (j := 1) (t := 25) rfl rfl)
  obtain ⟨x2, rfl, rfl, hp2, w2⟩ := open_int Try.underlying3 (hval 2 3 v2 rfl rfl) h2
  have b2 := i64_of w2
  obtain ⟨x3, rfl, rfl, hp3, w3⟩ := open_int Try.underlying3 (hval 3 3 v3 rfl rfl) h3
  have b3 := i64_of w3
  obtain ⟨x4, rfl, rfl, hp4, w4⟩ := open_int Try.underlying3 (hval 4 3 v4 rfl rfl) h4
  have b4 := i64_of w4
  clear hA0 hval0
  refine (walk c0 vv0 c1 vv1 x2 x3 x4 W rd0 ok0 rd1 ok1 b2 b3 b4).mono fun e W' ⟨he, bel⟩ => ?_
  subst he
  exact ⟨_, rfl, _, _, _, [], _, [], hW', trodAll_mk1 (shut_bool Try.underlying4 _), (trodAll_cons_mk (Below.trod laidOut (by kernel_rfl) (of_decide_eq_true (by kernel_rfl)) k0 bel lt0) (trodAll_cons_mk (Below.trod laidOut (by kernel_rfl) (of_decide_eq_true (by kernel_rfl)) k1 bel lt1) (trodAll_cons_mk (Below.trod laidOut (by kernel_rfl) (of_decide_eq_true (by kernel_rfl)) k2 bel lt2) (trodAll_cons_mk (Below.trod laidOut (by kernel_rfl) (of_decide_eq_true (by kernel_rfl)) k3 bel lt3) (trodAll_cons_mk (Below.trod laidOut (by kernel_rfl) (of_decide_eq_true (by kernel_rfl)) k4 bel lt4) trodAll_mk0))))), rfl, bel.frame _, fun h => by cases h⟩

theorem proved : Rows.GrantTellsSaid :=
  OpenClaim.holds_of_wide 3 Try.f3 rfl rfl rfl rfl rfl rfl rfl ⟨rfl, rfl, rfl, rfl, rfl⟩ rfl rfl rfl rfl rfl (by kernel_rfl) Try.func3 (by kernel_rfl)
    (of_decide_eq_true (by kernel_rfl)) (by unfold Func.isWrapper; first | (rw [if_pos (by decide +kernel)]; kernel_rfl) | (rw [if_neg (by decide +kernel)]; exact ⟨rfl, rfl⟩))
    (fun os started H enc _ => lifted os started H enc)
#print axioms proved
end Go.Proofs.Ytklpfbakjiaaoaa.grantTells
