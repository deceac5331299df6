/- How a jar that is handed in is read. No walk. PurgeMeet: for every jar, policy, all two consents and every moment: by one consent, then by another one, it is purged by both ones' meet, in whichever order. No condition. -/
import Derived.Test.YtcfdajaideidkaaOpenF
import Derived.Test.YtcfdajaideidkaaXB
import Derived.Test.YtcfdajaideidkaaXD
import Derived.Test.YtcfdajaideidkaaXC
import Derived.Test.YtcfdajaideidkaaXH
import Derived.Test.YtcfdajaideidkaaOpen
import Derived.Test.YtcfdajaideidkaaOpenG
import Derived.Test.YtcfdajaideidkaaOpenP
import Derived.Test.YtcfdajaideidkaaRows
namespace Go.Proofs.Ytcfdajaideidkaa
open Go.ChangeShapes Go.WideShapes Go.ChangeAt Go.RowKit
set_option linter.all false
set_option maxRecDepth 100000
set_option maxRecDepth 100000

theorem opens_jcks : Opens Try.prog 22 (wList wCookie) :=
  opens_list Try.underlying22 (by kernel_rfl) (by decide) (of_decide_eq_true (by kernel_rfl)) opens_cookie
def wJa0 : Way (List Ck × Int) := wPair (wList wCookie) wInt
theorem opens_ja0 : Opens Try.prog 24 wJa0 :=
  opens_struct Try.underlying24 (by kernel_rfl) (opensF_cons rfl opens_jcks (opensF_one rfl (opens_int Try.underlying3 (by kernel_rfl))))
def jaBulk (j : Ja) : Nat := 1 + (j.cks.map wCookie.bulk).sum + 1
theorem open_jar {H : Type} {enc : TypeId × Value → H} {W : World} {base : Nat} {v : Value} {d : DataW H} {ps : List MemPlace} (hv : Value.okWide Try.prog W .any base 24 v)
    (h : DataW.Trod enc Try.prog W 0 (fun _ => true) true 24 v d ps) (m : Nat) (hf : Fits m (DataW.weights Try.prog 24 d)) :
    ∃ (j : Ja) (jv : Value), v = .agg #[jv, .int .i64 j.next] ∧ Rows W jv ckC j.cks ∧ JaOk m j ∧ jaBulk j ≤ Rows.uptoBulk d := by
  obtain ⟨⟨l, n⟩, hl, hb⟩ := open_way opens_ja0 h
  have hl := hl m hf
  have e := struct_cells Try.underlying24 hv
  obtain ⟨x, y, he, hx1, hx, hn, hn2⟩ := hl
  have hx0 := hx
  obtain ⟨ad, cap, hys, hlen, _⟩ := hx
  simp only at hn hn2 hys hlen hx0 he hb
  refine ⟨⟨l, n⟩, .slice ad l.length cap, ?_, ?_, ⟨hlen, ?_, hn2⟩, hb⟩
  · rw [e, he, hys, hn]; rfl
  · rw [hys] at hx0
    exact rows_of wCookie_is (fun _ => rfl) hx0
  · intro c hc
    rw [hys] at hx0
    obtain ⟨ds, hd⟩ := list_all hx0 c hc
    exact wCookie_ok _ _ _ _ hd
end Go.Proofs.Ytcfdajaideidkaa
namespace Go.Proofs.Ytcfdajaideidkaa.purgeMeet
open Go.ChangeShapes Go.WideShapes Go.ChangeAt Go.RowKit
open Go.ChangeMaps (open_string shut_string)
set_option linter.all false
set_option maxRecDepth 100000
set_option maxRecDepth 100000

set_option maxHeartbeats 16000000 in
theorem walk (j : Ja) (jv : Value) (p : Po) (pv : Value) (g : Cn) (gv : Value) (h : Cn) (hv : Value) (now : Int) (w : World) (rj : Rows w jv ckC j.cks) (oj : JaOk 140737488351232 j) (rp : Rows w pv ruC p.rules) (op : PoOk 140737488351232 p) (rg : Rows w gv intF g.vs) (og : g.vs.length ≤ 140737488351232 ∧ inR g.vs ∧ (-9223372036854775808 ≤ g.g ∧ g.g ≤ 9223372036854775807)) (rh : Rows w hv intF h.vs) (oh : h.vs.length ≤ 140737488351232 ∧ inR h.vs ∧ (-9223372036854775808 ≤ h.g ∧ h.g ≤ 9223372036854775807)) (on : -9223372036854775808 ≤ now ∧ now ≤ 9223372036854775807) :
    Calls Try.prog 5 #[.agg #[jv, .int .i64 j.next], .agg #[pv, .int .i64 p.dflt, .int .i64 p.c0, .int .i64 p.c1, .int .i64 p.c2, .int .i64 p.c3, .int .i64 p.c4, .int .i64 p.c5, .int .i64 p.c6, .int .i64 p.c7, .int .i64 p.c8, .int .i64 p.c9, .int .i64 p.c10], .agg #[.int .i64 g.g, .bool g.b0, .bool g.b1, .bool g.b2, .bool g.b3, .bool g.b4, .bool g.b5, .bool g.b6, .bool g.b7, .bool g.b8, .bool g.b9, gv], .agg #[.int .i64 h.g, .bool h.b0, .bool h.b1, .bool h.b2, .bool h.b3, .bool h.b4, .bool h.b5, .bool h.b6, .bool h.b7, .bool h.b8, .bool h.b9, hv], .int .i64 now] w fun e w' => e = .returned (.bool true) ∧ Below w.heap.size w w' := by
  obtain ⟨m, hm⟩ : ∃ m, m = bothR (fun x y => x && y) g h := ⟨_, rfl⟩
  obtain ⟨E, hE⟩ : ∃ e, e = bothE g h := ⟨_, rfl⟩
  obtain ⟨a, ha⟩ : ∃ qq, qq = purJ j p g now := ⟨_, rfl⟩
  obtain ⟨b, hb⟩ : ∃ qq, qq = purJ j p h now := ⟨_, rfl⟩
  obtain ⟨x, hx⟩ : ∃ qq, qq = purJ a p h now := ⟨_, rfl⟩
  obtain ⟨y, hy⟩ : ∃ qq, qq = purJ b p g now := ⟨_, rfl⟩
  obtain ⟨z, hz⟩ : ∃ qq, qq = purJ j p m now := ⟨_, rfl⟩
  obtain ⟨ea, hea⟩ : ∃ qq, qq = chPu j p g now := ⟨_, rfl⟩
  obtain ⟨eb, heb⟩ : ∃ qq, qq = chPu j p h now := ⟨_, rfl⟩
  obtain ⟨kx, hkx⟩ : ∃ qq, qq = chPu a p h now := ⟨_, rfl⟩
  obtain ⟨ky, hky⟩ : ∃ qq, qq = chPu b p g now := ⟨_, rfl⟩
  obtain ⟨kz, hkz⟩ : ∃ qq, qq = chPu j p m now := ⟨_, rfl⟩
  obtain ⟨n1, hn1⟩ : ∃ qq, qq = purN j p g now := ⟨_, rfl⟩
  obtain ⟨n2, hn2⟩ : ∃ qq, qq = purN j p h now := ⟨_, rfl⟩
  obtain ⟨n3, hn3⟩ : ∃ qq, qq = purN a p h now := ⟨_, rfl⟩
  obtain ⟨n4, hn4⟩ : ∃ qq, qq = purN b p g now := ⟨_, rfl⟩
  obtain ⟨n5, hn5⟩ : ∃ qq, qq = purN j p m now := ⟨_, rfl⟩
  have HF : Hid (E = 0 → ea = 0 → eb = 0 → kx = 0 ∧ ky = 0 ∧ kz = 0 ∧ x = y ∧ x = z) := fun h1 h2 h3 => by
    have k := pu_meet (j := j) (p := p) (g := g) (h := h) (now := now) (hE ▸ h1) (hea ▸ h2) (heb ▸ h3)
    rw [hkx, hky, hkz, hx, hy, hz, ha, hb, hm]
    exact k
  have okg : CnOk g := ⟨og.1, og.2.1⟩
  have okh : CnOk h := ⟨oh.1, oh.2.1⟩
  have okm : CnOk m := by rw [hm]; exact both_cnOk _ _ _
  have oka : JaOk 140737488351232 a := by rw [ha]; exact purJ_ok oj
  have okb : JaOk 140737488351232 b := by rw [hb]; exact purJ_ok oj
  have okx : JaOk 140737488351232 x := by rw [hx]; exact purJ_ok oka
  have oky : JaOk 140737488351232 y := by rw [hy]; exact purJ_ok okb
  have okz : JaOk 140737488351232 z := by rw [hz]; exact purJ_ok oj
  have KM : Hid (∀ w' u v, Rows w' u intF g.vs → Rows w' v intF h.vs → Calls Try.prog 18 #[.agg #[.int .i64 g.g, .bool g.b0, .bool g.b1, .bool g.b2, .bool g.b3, .bool g.b4, .bool g.b5, .bool g.b6, .bool g.b7, .bool g.b8, .bool g.b9, u], .agg #[.int .i64 h.g, .bool h.b0, .bool h.b1, .bool h.b2, .bool h.b3, .bool h.b4, .bool h.b5, .bool h.b6, .bool h.b7, .bool h.b8, .bool h.b9, v]] w' fun e w'' => ∃ s, e = .returned (.tuple #[.agg #[.int .i64 m.g, .bool m.b0, .bool m.b1, .bool m.b2, .bool m.b3, .bool m.b4, .bool m.b5, .bool m.b6, .bool m.b7, .bool m.b8, .bool m.b9, s], .int .i64 E]) ∧ Rows w'' s intF m.vs ∧ Below w'.heap.size w' w'') := fun w' u v h1 h2 => by
    rw [hm, hE]
    exact (meet_any g h u v w' h1 h2 okg.1 okh.1 okg.2 okh.2).mono fun e w'' ⟨s, e1, e2, e3⟩ => ⟨s, e1, Reads.of_own e2, e3⟩
  have K1 : Hid (∀ w' vj vp vg, Rows w' vj ckC j.cks → Rows w' vp ruC p.rules → Rows w' vg intF g.vs → Calls Try.prog 7 #[.agg #[vj, .int .i64 j.next], .agg #[vp, .int .i64 p.dflt, .int .i64 p.c0, .int .i64 p.c1, .int .i64 p.c2, .int .i64 p.c3, .int .i64 p.c4, .int .i64 p.c5, .int .i64 p.c6, .int .i64 p.c7, .int .i64 p.c8, .int .i64 p.c9, .int .i64 p.c10], .agg #[.int .i64 g.g, .bool g.b0, .bool g.b1, .bool g.b2, .bool g.b3, .bool g.b4, .bool g.b5, .bool g.b6, .bool g.b7, .bool g.b8, .bool g.b9, vg], .int .i64 now] w' fun e w'' => ∃ s, e = .returned (.tuple #[.agg #[s, .int .i64 a.next], .int .i64 n1, .int .i64 ea]) ∧ Rows w'' s ckC a.cks ∧ Below w'.heap.size w' w'') := fun w' vj vp vg h1 h2 h3 => by
    rw [ha, hn1, hea]
    exact (purge_any j vj p vp g vg now w' h1 oj h2 op h3 okg).mono fun e w'' ⟨s, e1, e2, e3⟩ => ⟨s, e1, Reads.of_own e2, e3⟩
  have K2 : Hid (∀ w' vj vp vg, Rows w' vj ckC j.cks → Rows w' vp ruC p.rules → Rows w' vg intF h.vs → Calls Try.prog 7 #[.agg #[vj, .int .i64 j.next], .agg #[vp, .int .i64 p.dflt, .int .i64 p.c0, .int .i64 p.c1, .int .i64 p.c2, .int .i64 p.c3, .int .i64 p.c4, .int .i64 p.c5, .int .i64 p.c6, .int .i64 p.c7, .int .i64 p.c8, .int .i64 p.c9, .int .i64 p.c10], .agg #[.int .i64 h.g, .bool h.b0, .bool h.b1, .bool h.b2, .bool h.b3, .bool h.b4, .bool h.b5, .bool h.b6, .bool h.b7, .bool h.b8, .bool h.b9, vg], .int .i64 now] w' fun e w'' => ∃ s, e = .returned (.tuple #[.agg #[s, .int .i64 b.next], .int .i64 n2, .int .i64 eb]) ∧ Rows w'' s ckC b.cks ∧ Below w'.heap.size w' w'') := fun w' vj vp vg h1 h2 h3 => by
    rw [hb, hn2, heb]
    exact (purge_any j vj p vp h vg now w' h1 oj h2 op h3 okh).mono fun e w'' ⟨s, e1, e2, e3⟩ => ⟨s, e1, Reads.of_own e2, e3⟩
  have K3 : Hid (∀ w' vj vp vg, Rows w' vj ckC a.cks → Rows w' vp ruC p.rules → Rows w' vg intF h.vs → Calls Try.prog 7 #[.agg #[vj, .int .i64 a.next], .agg #[vp, .int .i64 p.dflt, .int .i64 p.c0, .int .i64 p.c1, .int .i64 p.c2, .int .i64 p.c3, .int .i64 p.c4, .int .i64 p.c5, .int .i64 p.c6, .int .i64 p.c7, .int .i64 p.c8, .int .i64 p.c9, .int .i64 p.c10], .agg #[.int .i64 h.g, .bool h.b0, .bool h.b1, .bool h.b2, .bool h.b3, .bool h.b4, .bool h.b5, .bool h.b6, .bool h.b7, .bool h.b8, .bool h.b9, vg], .int .i64 now] w' fun e w'' => ∃ s, e = .returned (.tuple #[.agg #[s, .int .i64 x.next], .int .i64 n3, .int .i64 kx]) ∧ Rows w'' s ckC x.cks ∧ Below w'.heap.size w' w'') := fun w' vj vp vg h1 h2 h3 => by
    rw [hx, hn3, hkx]
    exact (purge_any a vj p vp h vg now w' h1 oka h2 op h3 okh).mono fun e w'' ⟨s, e1, e2, e3⟩ => ⟨s, e1, Reads.of_own e2, e3⟩
  have K4 : Hid (∀ w' vj vp vg, Rows w' vj ckC b.cks → Rows w' vp ruC p.rules → Rows w' vg intF g.vs → Calls Try.prog 7 #[.agg #[vj, .int .i64 b.next], .agg #[vp, .int .i64 p.dflt, .int .i64 p.c0, .int .i64 p.c1, .int .i64 p.c2, .int .i64 p.c3, .int .i64 p.c4, .int .i64 p.c5, .int .i64 p.c6, .int .i64 p.c7, .int .i64 p.c8, .int .i64 p.c9, .int .i64 p.c10], .agg #[.int .i64 g.g, .bool g.b0, .bool g.b1, .bool g.b2, .bool g.b3, .bool g.b4, .bool g.b5, .bool g.b6, .bool g.b7, .bool g.b8, .bool g.b9, vg], .int .i64 now] w' fun e w'' => ∃ s, e = .returned (.tuple #[.agg #[s, .int .i64 y.next], .int .i64 n4, .int .i64 ky]) ∧ Rows w'' s ckC y.cks ∧ Below w'.heap.size w' w'') := fun w' vj vp vg h1 h2 h3 => by
    rw [hy, hn4, hky]
    exact (purge_any b vj p vp g vg now w' h1 okb h2 op h3 okg).mono fun e w'' ⟨s, e1, e2, e3⟩ => ⟨s, e1, Reads.of_own e2, e3⟩
  have K5 : Hid (∀ w' vj vp vg, Rows w' vj ckC j.cks → Rows w' vp ruC p.rules → Rows w' vg intF m.vs → Calls Try.prog 7 #[.agg #[vj, .int .i64 j.next], .agg #[vp, .int .i64 p.dflt, .int .i64 p.c0, .int .i64 p.c1, .int .i64 p.c2, .int .i64 p.c3, .int .i64 p.c4, .int .i64 p.c5, .int .i64 p.c6, .int .i64 p.c7, .int .i64 p.c8, .int .i64 p.c9, .int .i64 p.c10], .agg #[.int .i64 m.g, .bool m.b0, .bool m.b1, .bool m.b2, .bool m.b3, .bool m.b4, .bool m.b5, .bool m.b6, .bool m.b7, .bool m.b8, .bool m.b9, vg], .int .i64 now] w' fun e w'' => ∃ s, e = .returned (.tuple #[.agg #[s, .int .i64 z.next], .int .i64 n5, .int .i64 kz]) ∧ Rows w'' s ckC z.cks ∧ Below w'.heap.size w' w'') := fun w' vj vp vg h1 h2 h3 => by
    rw [hz, hn5, hkz]
    exact (purge_any j vj p vp m vg now w' h1 oj h2 op h3 okm).mono fun e w'' ⟨s, e1, e2, e3⟩ => ⟨s, e1, Reads.of_own e2, e3⟩
  have KS1 : Hid (x = y → ∀ w' va vb, Rows w' va ckC x.cks → Rows w' vb ckC y.cks → Calls Try.prog 12 #[.agg #[va, .int .i64 x.next], .agg #[vb, .int .i64 y.next]] w' fun e w'' => e = .returned (.bool true) ∧ Below w'.heap.size w' w'') := fun h w' va vb h1 h2 => by
    have k := sameJar_any va vb x y w' h1 h2 okx.max oky.max
    rw [(eqJ_iff _ _).2 h] at k
    exact k
  have KS2 : Hid (x = z → ∀ w' va vb, Rows w' va ckC x.cks → Rows w' vb ckC z.cks → Calls Try.prog 12 #[.agg #[va, .int .i64 x.next], .agg #[vb, .int .i64 z.next]] w' fun e w'' => e = .returned (.bool true) ∧ Below w'.heap.size w' w'') := fun h w' va vb h1 h2 => by
    have k := sameJar_any va vb x z w' h1 h2 okx.max okz.max
    rw [(eqJ_iff _ _).2 h] at k
    exact k
  obtain ⟨W0, hW0⟩ : ∃ W0, W0 = ((((w.alloc (.cells #[jv, .int .i64 j.next] 24)).alloc (.cells #[pv, .int .i64 p.dflt, .int .i64 p.c0, .int .i64 p.c1, .int .i64 p.c2, .int .i64 p.c3, .int .i64 p.c4, .int .i64 p.c5, .int .i64 p.c6, .int .i64 p.c7, .int .i64 p.c8, .int .i64 p.c9, .int .i64 p.c10] 28)).alloc (.cells #[.int .i64 g.g, .bool g.b0, .bool g.b1, .bool g.b2, .bool g.b3, .bool g.b4, .bool g.b5, .bool g.b6, .bool g.b7, .bool g.b8, .bool g.b9, gv] 32)).alloc (.cells #[.int .i64 h.g, .bool h.b0, .bool h.b1, .bool h.b2, .bool h.b3, .bool h.b4, .bool h.b5, .bool h.b6, .bool h.b7, .bool h.b8, .bool h.b9, hv] 32)) := ⟨_, rfl⟩
  have J : Hid (JB W0 w.heap.size j jv) := by
    rw [hW0]
    have h := JB.new w j jv 24 rj
    exact (((h.below (below_new _ _)).below (below_new _ _)).below (below_new _ _))
  have P : Hid (PB W0 (w.heap.size + 1) p pv) := by
    rw [hW0]
    have h := PB.new (w.alloc (.cells #[jv, .int .i64 j.next] 24)) p pv 28 (Rows.below rp (below_new _ _) (Nat.le_refl _))
    rw [show (w.alloc (.cells #[jv, .int .i64 j.next] 24)).heap.size = w.heap.size + 1 from by simp] at h
    exact ((h.below (below_new _ _)).below (below_new _ _))
  have G : Hid (CB W0 (w.heap.size + 1 + 1) g gv) := by
    rw [hW0]
    have h := CB.new ((w.alloc (.cells #[jv, .int .i64 j.next] 24)).alloc (.cells #[pv, .int .i64 p.dflt, .int .i64 p.c0, .int .i64 p.c1, .int .i64 p.c2, .int .i64 p.c3, .int .i64 p.c4, .int .i64 p.c5, .int .i64 p.c6, .int .i64 p.c7, .int .i64 p.c8, .int .i64 p.c9, .int .i64 p.c10] 28)) g gv 32 (Rows.below (Rows.below rg (below_new _ _) (Nat.le_refl _)) (below_new _ _) (Nat.le_refl _))
    rw [show ((w.alloc (.cells #[jv, .int .i64 j.next] 24)).alloc (.cells #[pv, .int .i64 p.dflt, .int .i64 p.c0, .int .i64 p.c1, .int .i64 p.c2, .int .i64 p.c3, .int .i64 p.c4, .int .i64 p.c5, .int .i64 p.c6, .int .i64 p.c7, .int .i64 p.c8, .int .i64 p.c9, .int .i64 p.c10] 28)).heap.size = w.heap.size + 1 + 1 from by simp] at h
    exact (h.below (below_new _ _))
  have H : Hid (CB W0 (w.heap.size + 1 + 1 + 1) h hv) := by
    rw [hW0]
    have h := CB.new (((w.alloc (.cells #[jv, .int .i64 j.next] 24)).alloc (.cells #[pv, .int .i64 p.dflt, .int .i64 p.c0, .int .i64 p.c1, .int .i64 p.c2, .int .i64 p.c3, .int .i64 p.c4, .int .i64 p.c5, .int .i64 p.c6, .int .i64 p.c7, .int .i64 p.c8, .int .i64 p.c9, .int .i64 p.c10] 28)).alloc (.cells #[.int .i64 g.g, .bool g.b0, .bool g.b1, .bool g.b2, .bool g.b3, .bool g.b4, .bool g.b5, .bool g.b6, .bool g.b7, .bool g.b8, .bool g.b9, gv] 32)) h hv 32 (Rows.below (Rows.below (Rows.below rh (below_new _ _) (Nat.le_refl _)) (below_new _ _) (Nat.le_refl _)) (below_new _ _) (Nat.le_refl _))
    rw [show (((w.alloc (.cells #[jv, .int .i64 j.next] 24)).alloc (.cells #[pv, .int .i64 p.dflt, .int .i64 p.c0, .int .i64 p.c1, .int .i64 p.c2, .int .i64 p.c3, .int .i64 p.c4, .int .i64 p.c5, .int .i64 p.c6, .int .i64 p.c7, .int .i64 p.c8, .int .i64 p.c9, .int .i64 p.c10] 28)).alloc (.cells #[.int .i64 g.g, .bool g.b0, .bool g.b1, .bool g.b2, .bool g.b3, .bool g.b4, .bool g.b5, .bool g.b6, .bool g.b7, .bool g.b8, .bool g.b9, gv] 32)).heap.size = w.heap.size + 1 + 1 + 1 from by simp] at h
    exact h
  have S : Hid (Below w.heap.size w W0) := by rw [hW0]; exact next (next (next (below_new _ _) (below_new _ _)) (below_new _ _)) (below_new _ _)
  have HW0 : Hid _ := hW0
  clear rj oj rp op rg og rh oh on hm hE ha hb hx hy hz hea heb hkx hky hkz hn1 hn2 hn3 hn4 hn5 okg okh okm oka okb okx oky okz hW0
  go_enter Try.func5, Try.ntmps5
  go_upto_region 1 with fail
  rw [← HW0.out]
  clear HW0
  go_wp2_with fail
  refine (purgeBegun_any _).mono ?_
  rintro e Wn1 ⟨rfl, hb1⟩
  replace J : Hid (JB Wn1 w.heap.size j jv) := J.out.below hb1
  replace P : Hid (PB Wn1 (w.heap.size + 1) p pv) := P.out.below hb1
  replace G : Hid (CB Wn1 (w.heap.size + 1 + 1) g gv) := G.out.below hb1
  replace H : Hid (CB Wn1 (w.heap.size + 1 + 1 + 1) h hv) := H.out.below hb1
  replace S : Hid (Below w.heap.size w Wn1) := next S.out hb1
  clear hb1
  go_wp2_with fail
  refine (grantBegun_any _).mono ?_
  rintro e Wn2 ⟨rfl, hb2⟩
  replace J : Hid (JB Wn2 w.heap.size j jv) := J.out.below hb2
  replace P : Hid (PB Wn2 (w.heap.size + 1) p pv) := P.out.below hb2
  replace G : Hid (CB Wn2 (w.heap.size + 1 + 1) g gv) := G.out.below hb2
  replace H : Hid (CB Wn2 (w.heap.size + 1 + 1 + 1) h hv) := H.out.below hb2
  replace S : Hid (Below w.heap.size w Wn2) := next S.out hb2
  clear hb2
  have x0 := G.out.row.cell 0 rfl
  have x1 := G.out.row.cell 1 rfl
  have x2 := G.out.row.cell 2 rfl
  have x3 := G.out.row.cell 3 rfl
  have x4 := G.out.row.cell 4 rfl
  have x5 := G.out.row.cell 5 rfl
  have x6 := G.out.row.cell 6 rfl
  have x7 := G.out.row.cell 7 rfl
  have x8 := G.out.row.cell 8 rfl
  have x9 := G.out.row.cell 9 rfl
  have x10 := G.out.row.cell 10 rfl
  have x11 := G.out.row.cell 11 rfl
  have y0 := H.out.row.cell 0 rfl
  have y1 := H.out.row.cell 1 rfl
  have y2 := H.out.row.cell 2 rfl
  have y3 := H.out.row.cell 3 rfl
  have y4 := H.out.row.cell 4 rfl
  have y5 := H.out.row.cell 5 rfl
  have y6 := H.out.row.cell 6 rfl
  have y7 := H.out.row.cell 7 rfl
  have y8 := H.out.row.cell 8 rfl
  have y9 := H.out.row.cell 9 rfl
  have y10 := H.out.row.cell 10 rfl
  have y11 := H.out.row.cell 11 rfl
  go_wp2_with fail
  refine (KM.out _ _ _ G.out.rows H.out.rows).mono ?_
  rintro e v3 ⟨s3, rfl, r3, hb3⟩
  obtain ⟨ad3, cap3, rfl⟩ := r3.shape
  clear x0 x1 x2 x3 x4 x5 x6 x7 x8 x9 x10 x11 y0 y1 y2 y3 y4 y5 y6 y7 y8 y9 y10 y11
  obtain ⟨W3, hW3⟩ : ∃ W3, W3 = v3.alloc (.cells #[.int .i64 m.g, .bool m.b0, .bool m.b1, .bool m.b2, .bool m.b3, .bool m.b4, .bool m.b5, .bool m.b6, .bool m.b7, .bool m.b8, .bool m.b9, (.slice ad3 m.vs.length cap3)] 32) := ⟨_, rfl⟩
  have hc3 : Below Wn2.heap.size Wn2 W3 := by rw [hW3]; exact next hb3 (below_new _ _)
  replace J : Hid (JB W3 w.heap.size j jv) := J.out.below hc3
  replace P : Hid (PB W3 (w.heap.size + 1) p pv) := P.out.below hc3
  replace G : Hid (CB W3 (w.heap.size + 1 + 1) g gv) := G.out.below hc3
  replace H : Hid (CB W3 (w.heap.size + 1 + 1 + 1) h hv) := H.out.below hc3
  replace S : Hid (Below w.heap.size w W3) := next S.out hc3
  have M : Hid (CB W3 v3.heap.size m (.slice ad3 m.vs.length cap3)) := by rw [hW3]; exact CB.new v3 m (.slice ad3 m.vs.length cap3) 32 r3
  have HW3 : Hid _ := hW3
  clear hb3 hc3 hW3
  go_upto_region 4 with fail
  rw [← HW3.out]
  clear HW3
  have x0 := J.out.row.cell 0 rfl
  have x1 := J.out.row.cell 1 rfl
  have y0 := P.out.row.cell 0 rfl
  have y1 := P.out.row.cell 1 rfl
  have y2 := P.out.row.cell 2 rfl
  have y3 := P.out.row.cell 3 rfl
  have y4 := P.out.row.cell 4 rfl
  have y5 := P.out.row.cell 5 rfl
  have y6 := P.out.row.cell 6 rfl
  have y7 := P.out.row.cell 7 rfl
  have y8 := P.out.row.cell 8 rfl
  have y9 := P.out.row.cell 9 rfl
  have y10 := P.out.row.cell 10 rfl
  have y11 := P.out.row.cell 11 rfl
  have y12 := P.out.row.cell 12 rfl
  have z0 := G.out.row.cell 0 rfl
  have z1 := G.out.row.cell 1 rfl
  have z2 := G.out.row.cell 2 rfl
  have z3 := G.out.row.cell 3 rfl
  have z4 := G.out.row.cell 4 rfl
  have z5 := G.out.row.cell 5 rfl
  have z6 := G.out.row.cell 6 rfl
  have z7 := G.out.row.cell 7 rfl
  have z8 := G.out.row.cell 8 rfl
  have z9 := G.out.row.cell 9 rfl
  have z10 := G.out.row.cell 10 rfl
  have z11 := G.out.row.cell 11 rfl
  go_wp2_with fail
  refine (K1.out _ _ _ _ J.out.rows P.out.rows G.out.rows).mono ?_
  rintro e v4 ⟨s4, rfl, r4, hb4⟩
  obtain ⟨ad4, cap4, rfl⟩ := r4.shape
  clear x0 x1 y0 y1 y2 y3 y4 y5 y6 y7 y8 y9 y10 y11 y12 z0 z1 z2 z3 z4 z5 z6 z7 z8 z9 z10 z11
  obtain ⟨W4, hW4⟩ : ∃ W4, W4 = v4.alloc (.cells #[(.slice ad4 a.cks.length cap4), .int .i64 a.next] 24) := ⟨_, rfl⟩
  have hc4 : Below W3.heap.size W3 W4 := by rw [hW4]; exact next hb4 (below_new _ _)
  replace J : Hid (JB W4 w.heap.size j jv) := J.out.below hc4
  replace P : Hid (PB W4 (w.heap.size + 1) p pv) := P.out.below hc4
  replace G : Hid (CB W4 (w.heap.size + 1 + 1) g gv) := G.out.below hc4
  replace H : Hid (CB W4 (w.heap.size + 1 + 1 + 1) h hv) := H.out.below hc4
  replace M : Hid (CB W4 v3.heap.size m (.slice ad3 m.vs.length cap3)) := M.out.below hc4
  replace S : Hid (Below w.heap.size w W4) := next S.out hc4
  have A : Hid (JB W4 v4.heap.size a (.slice ad4 a.cks.length cap4)) := by rw [hW4]; exact JB.new v4 a (.slice ad4 a.cks.length cap4) 24 r4
  have HW4 : Hid _ := hW4
  clear hb4 hc4 hW4
  go_upto_region 5 with fail
  rw [← HW4.out]
  clear HW4
  have x0 := J.out.row.cell 0 rfl
  have x1 := J.out.row.cell 1 rfl
  have y0 := P.out.row.cell 0 rfl
  have y1 := P.out.row.cell 1 rfl
  have y2 := P.out.row.cell 2 rfl
  have y3 := P.out.row.cell 3 rfl
  have y4 := P.out.row.cell 4 rfl
  have y5 := P.out.row.cell 5 rfl
  have y6 := P.out.row.cell 6 rfl
  have y7 := P.out.row.cell 7 rfl
  have y8 := P.out.row.cell 8 rfl
  have y9 := P.out.row.cell 9 rfl
  have y10 := P.out.row.cell 10 rfl
  have y11 := P.out.row.cell 11 rfl
  have y12 := P.out.row.cell 12 rfl
  have z0 := H.out.row.cell 0 rfl
  have z1 := H.out.row.cell 1 rfl
  have z2 := H.out.row.cell 2 rfl
  have z3 := H.out.row.cell 3 rfl
  have z4 := H.out.row.cell 4 rfl
  have z5 := H.out.row.cell 5 rfl
  have z6 := H.out.row.cell 6 rfl
  have z7 := H.out.row.cell 7 rfl
  have z8 := H.out.row.cell 8 rfl
  have z9 := H.out.row.cell 9 rfl
  have z10 := H.out.row.cell 10 rfl
  have z11 := H.out.row.cell 11 rfl
  go_wp2_with fail
  refine (K2.out _ _ _ _ J.out.rows P.out.rows H.out.rows).mono ?_
  rintro e v5 ⟨s5, rfl, r5, hb5⟩
  obtain ⟨ad5, cap5, rfl⟩ := r5.shape
  clear x0 x1 y0 y1 y2 y3 y4 y5 y6 y7 y8 y9 y10 y11 y12 z0 z1 z2 z3 z4 z5 z6 z7 z8 z9 z10 z11
  obtain ⟨W5, hW5⟩ : ∃ W5, W5 = v5.alloc (.cells #[(.slice ad5 b.cks.length cap5), .int .i64 b.next] 24) := ⟨_, rfl⟩
  have hc5 : Below W4.heap.size W4 W5 := by rw [hW5]; exact next hb5 (below_new _ _)
  replace J : Hid (JB W5 w.heap.size j jv) := J.out.below hc5
  replace P : Hid (PB W5 (w.heap.size + 1) p pv) := P.out.below hc5
  replace G : Hid (CB W5 (w.heap.size + 1 + 1) g gv) := G.out.below hc5
  replace H : Hid (CB W5 (w.heap.size + 1 + 1 + 1) h hv) := H.out.below hc5
  replace M : Hid (CB W5 v3.heap.size m (.slice ad3 m.vs.length cap3)) := M.out.below hc5
  replace A : Hid (JB W5 v4.heap.size a (.slice ad4 a.cks.length cap4)) := A.out.below hc5
  replace S : Hid (Below w.heap.size w W5) := next S.out hc5
  have B : Hid (JB W5 v5.heap.size b (.slice ad5 b.cks.length cap5)) := by rw [hW5]; exact JB.new v5 b (.slice ad5 b.cks.length cap5) 24 r5
  have HW5 : Hid _ := hW5
  clear hb5 hc5 hW5
  go_upto_region 6 with fail
  rw [← HW5.out]
  clear HW5
  by_cases hE : E = 0
  rotate_left
  · have q : (E != 0) = true := by rw [bne_iff_ne]; exact hE
    go_wp2_with fail
    go_ret
    exact ⟨rfl, S.out⟩
  have qE : (E != 0) = false := by rw [hE]; rfl
  have HHE : Hid (E = 0) := hE
  clear hE
  by_cases hea : ea = 0
  rotate_left
  · have q : (ea != 0) = true := by rw [bne_iff_ne]; exact hea
    go_wp2_with fail
    go_ret
    exact ⟨rfl, S.out⟩
  have qea : (ea != 0) = false := by rw [hea]; rfl
  have HHea : Hid (ea = 0) := hea
  clear hea
  by_cases heb : eb = 0
  rotate_left
  · have q : (eb != 0) = true := by rw [bne_iff_ne]; exact heb
    go_wp2_with fail
    go_ret
    exact ⟨rfl, S.out⟩
  have qeb : (eb != 0) = false := by rw [heb]; rfl
  have HHeb : Hid (eb = 0) := heb
  clear heb
  obtain ⟨e1, e2, e3, e4, e5⟩ := HF.out HHE.out HHea.out HHeb.out
  have t1 : (kx == 0) = true := by rw [e1]; rfl
  have t2 : (ky == 0) = true := by rw [e2]; rfl
  have t3 : (kz == 0) = true := by rw [e3]; rfl
  have HXY : Hid (x = y) := e4
  have HXZ : Hid (x = z) := e5
  clear e1 e2 e3 e4 e5
  go_upto_region 8 with fail
  have x0 := A.out.row.cell 0 rfl
  have x1 := A.out.row.cell 1 rfl
  have y0 := P.out.row.cell 0 rfl
  have y1 := P.out.row.cell 1 rfl
  have y2 := P.out.row.cell 2 rfl
  have y3 := P.out.row.cell 3 rfl
  have y4 := P.out.row.cell 4 rfl
  have y5 := P.out.row.cell 5 rfl
  have y6 := P.out.row.cell 6 rfl
  have y7 := P.out.row.cell 7 rfl
  have y8 := P.out.row.cell 8 rfl
  have y9 := P.out.row.cell 9 rfl
  have y10 := P.out.row.cell 10 rfl
  have y11 := P.out.row.cell 11 rfl
  have y12 := P.out.row.cell 12 rfl
  have z0 := H.out.row.cell 0 rfl
  have z1 := H.out.row.cell 1 rfl
  have z2 := H.out.row.cell 2 rfl
  have z3 := H.out.row.cell 3 rfl
  have z4 := H.out.row.cell 4 rfl
  have z5 := H.out.row.cell 5 rfl
  have z6 := H.out.row.cell 6 rfl
  have z7 := H.out.row.cell 7 rfl
  have z8 := H.out.row.cell 8 rfl
  have z9 := H.out.row.cell 9 rfl
  have z10 := H.out.row.cell 10 rfl
  have z11 := H.out.row.cell 11 rfl
  go_wp2_with fail
  refine (K3.out _ _ _ _ A.out.rows P.out.rows H.out.rows).mono ?_
  rintro e v6 ⟨s6, rfl, r6, hb6⟩
  obtain ⟨ad6, cap6, rfl⟩ := r6.shape
  clear x0 x1 y0 y1 y2 y3 y4 y5 y6 y7 y8 y9 y10 y11 y12 z0 z1 z2 z3 z4 z5 z6 z7 z8 z9 z10 z11
  obtain ⟨W6, hW6⟩ : ∃ W6, W6 = v6.alloc (.cells #[(.slice ad6 x.cks.length cap6), .int .i64 x.next] 24) := ⟨_, rfl⟩
  have hc6 : Below W5.heap.size W5 W6 := by rw [hW6]; exact next hb6 (below_new _ _)
  replace J : Hid (JB W6 w.heap.size j jv) := J.out.below hc6
  replace P : Hid (PB W6 (w.heap.size + 1) p pv) := P.out.below hc6
  replace G : Hid (CB W6 (w.heap.size + 1 + 1) g gv) := G.out.below hc6
  replace H : Hid (CB W6 (w.heap.size + 1 + 1 + 1) h hv) := H.out.below hc6
  replace M : Hid (CB W6 v3.heap.size m (.slice ad3 m.vs.length cap3)) := M.out.below hc6
  replace A : Hid (JB W6 v4.heap.size a (.slice ad4 a.cks.length cap4)) := A.out.below hc6
  replace B : Hid (JB W6 v5.heap.size b (.slice ad5 b.cks.length cap5)) := B.out.below hc6
  replace S : Hid (Below w.heap.size w W6) := next S.out hc6
  have X : Hid (JB W6 v6.heap.size x (.slice ad6 x.cks.length cap6)) := by rw [hW6]; exact JB.new v6 x (.slice ad6 x.cks.length cap6) 24 r6
  have HW6 : Hid _ := hW6
  clear hb6 hc6 hW6
  go_upto_region 9 with fail
  rw [← HW6.out]
  clear HW6
  have x0 := B.out.row.cell 0 rfl
  have x1 := B.out.row.cell 1 rfl
  have y0 := P.out.row.cell 0 rfl
  have y1 := P.out.row.cell 1 rfl
  have y2 := P.out.row.cell 2 rfl
  have y3 := P.out.row.cell 3 rfl
  have y4 := P.out.row.cell 4 rfl
  have y5 := P.out.row.cell 5 rfl
  have y6 := P.out.row.cell 6 rfl
  have y7 := P.out.row.cell 7 rfl
  have y8 := P.out.row.cell 8 rfl
  have y9 := P.out.row.cell 9 rfl
  have y10 := P.out.row.cell 10 rfl
  have y11 := P.out.row.cell 11 rfl
  have y12 := P.out.row.cell 12 rfl
  have z0 := G.out.row.cell 0 rfl
  have z1 := G.out.row.cell 1 rfl
  have z2 := G.out.row.cell 2 rfl
  have z3 := G.out.row.cell 3 rfl
  have z4 := G.out.row.cell 4 rfl
  have z5 := G.out.row.cell 5 rfl
  have z6 := G.out.row.cell 6 rfl
  have z7 := G.out.row.cell 7 rfl
  have z8 := G.out.row.cell 8 rfl
  have z9 := G.out.row.cell 9 rfl
  have z10 := G.out.row.cell 10 rfl
  have z11 := G.out.row.cell 11 rfl
  go_wp2_with fail
  refine (K4.out _ _ _ _ B.out.rows P.out.rows G.out.rows).mono ?_
  rintro e v7 ⟨s7, rfl, r7, hb7⟩
  obtain ⟨ad7, cap7, rfl⟩ := r7.shape
  clear x0 x1 y0 y1 y2 y3 y4 y5 y6 y7 y8 y9 y10 y11 y12 z0 z1 z2 z3 z4 z5 z6 z7 z8 z9 z10 z11
  obtain ⟨W7, hW7⟩ : ∃ W7, W7 = v7.alloc (.cells #[(.slice ad7 y.cks.length cap7), .int .i64 y.next] 24) := ⟨_, rfl⟩
  have hc7 : Below W6.heap.size W6 W7 := by rw [hW7]; exact next hb7 (below_new _ _)
  replace J : Hid (JB W7 w.heap.size j jv) := J.out.below hc7
  replace P : Hid (PB W7 (w.heap.size + 1) p pv) := P.out.below hc7
  replace G : Hid (CB W7 (w.heap.size + 1 + 1) g gv) := G.out.below hc7
  replace H : Hid (CB W7 (w.heap.size + 1 + 1 + 1) h hv) := H.out.below hc7
  replace M : Hid (CB W7 v3.heap.size m (.slice ad3 m.vs.length cap3)) := M.out.below hc7
  replace A : Hid (JB W7 v4.heap.size a (.slice ad4 a.cks.length cap4)) := A.out.below hc7
  replace B : Hid (JB W7 v5.heap.size b (.slice ad5 b.cks.length cap5)) := B.out.below hc7
  replace X : Hid (JB W7 v6.heap.size x (.slice ad6 x.cks.length cap6)) := X.out.below hc7
  replace S : Hid (Below w.heap.size w W7) := next S.out hc7
  have Y : Hid (JB W7 v7.heap.size y (.slice ad7 y.cks.length cap7)) := by rw [hW7]; exact JB.new v7 y (.slice ad7 y.cks.length cap7) 24 r7
  have HW7 : Hid _ := hW7
  clear hb7 hc7 hW7
  go_upto_region 10 with fail
  rw [← HW7.out]
  clear HW7
  have x0 := J.out.row.cell 0 rfl
  have x1 := J.out.row.cell 1 rfl
  have y0 := P.out.row.cell 0 rfl
  have y1 := P.out.row.cell 1 rfl
  have y2 := P.out.row.cell 2 rfl
  have y3 := P.out.row.cell 3 rfl
  have y4 := P.out.row.cell 4 rfl
  have y5 := P.out.row.cell 5 rfl
  have y6 := P.out.row.cell 6 rfl
  have y7 := P.out.row.cell 7 rfl
  have y8 := P.out.row.cell 8 rfl
  have y9 := P.out.row.cell 9 rfl
  have y10 := P.out.row.cell 10 rfl
  have y11 := P.out.row.cell 11 rfl
  have y12 := P.out.row.cell 12 rfl
  have z0 := M.out.row.cell 0 rfl
  have z1 := M.out.row.cell 1 rfl
  have z2 := M.out.row.cell 2 rfl
  have z3 := M.out.row.cell 3 rfl
  have z4 := M.out.row.cell 4 rfl
  have z5 := M.out.row.cell 5 rfl
  have z6 := M.out.row.cell 6 rfl
  have z7 := M.out.row.cell 7 rfl
  have z8 := M.out.row.cell 8 rfl
  have z9 := M.out.row.cell 9 rfl
  have z10 := M.out.row.cell 10 rfl
  have z11 := M.out.row.cell 11 rfl
  go_wp2_with fail
  refine (K5.out _ _ _ _ J.out.rows P.out.rows M.out.rows).mono ?_
  rintro e v8 ⟨s8, rfl, r8, hb8⟩
  obtain ⟨ad8, cap8, rfl⟩ := r8.shape
  clear x0 x1 y0 y1 y2 y3 y4 y5 y6 y7 y8 y9 y10 y11 y12 z0 z1 z2 z3 z4 z5 z6 z7 z8 z9 z10 z11
  obtain ⟨W8, hW8⟩ : ∃ W8, W8 = v8.alloc (.cells #[(.slice ad8 z.cks.length cap8), .int .i64 z.next] 24) := ⟨_, rfl⟩
  have hc8 : Below W7.heap.size W7 W8 := by rw [hW8]; exact next hb8 (below_new _ _)
  replace J : Hid (JB W8 w.heap.size j jv) := J.out.below hc8
  replace P : Hid (PB W8 (w.heap.size + 1) p pv) := P.out.below hc8
  replace G : Hid (CB W8 (w.heap.size + 1 + 1) g gv) := G.out.below hc8
  replace H : Hid (CB W8 (w.heap.size + 1 + 1 + 1) h hv) := H.out.below hc8
  replace M : Hid (CB W8 v3.heap.size m (.slice ad3 m.vs.length cap3)) := M.out.below hc8
  replace A : Hid (JB W8 v4.heap.size a (.slice ad4 a.cks.length cap4)) := A.out.below hc8
  replace B : Hid (JB W8 v5.heap.size b (.slice ad5 b.cks.length cap5)) := B.out.below hc8
  replace X : Hid (JB W8 v6.heap.size x (.slice ad6 x.cks.length cap6)) := X.out.below hc8
  replace Y : Hid (JB W8 v7.heap.size y (.slice ad7 y.cks.length cap7)) := Y.out.below hc8
  replace S : Hid (Below w.heap.size w W8) := next S.out hc8
  have Z : Hid (JB W8 v8.heap.size z (.slice ad8 z.cks.length cap8)) := by rw [hW8]; exact JB.new v8 z (.slice ad8 z.cks.length cap8) 24 r8
  have HW8 : Hid _ := hW8
  clear hb8 hc8 hW8
  go_upto_region 11 with fail
  rw [← HW8.out]
  clear HW8
  have x0 := X.out.row.cell 0 rfl
  have x1 := X.out.row.cell 1 rfl
  have y0 := Y.out.row.cell 0 rfl
  have y1 := Y.out.row.cell 1 rfl
  go_wp2_with fail
  refine (KS1.out HXY.out _ _ _ X.out.rows Y.out.rows).mono ?_
  rintro e Wn9 ⟨rfl, hb9⟩
  clear x0 x1 y0 y1
  replace J : Hid (JB Wn9 w.heap.size j jv) := J.out.below hb9
  replace P : Hid (PB Wn9 (w.heap.size + 1) p pv) := P.out.below hb9
  replace G : Hid (CB Wn9 (w.heap.size + 1 + 1) g gv) := G.out.below hb9
  replace H : Hid (CB Wn9 (w.heap.size + 1 + 1 + 1) h hv) := H.out.below hb9
  replace M : Hid (CB Wn9 v3.heap.size m (.slice ad3 m.vs.length cap3)) := M.out.below hb9
  replace A : Hid (JB Wn9 v4.heap.size a (.slice ad4 a.cks.length cap4)) := A.out.below hb9
  replace B : Hid (JB Wn9 v5.heap.size b (.slice ad5 b.cks.length cap5)) := B.out.below hb9
  replace X : Hid (JB Wn9 v6.heap.size x (.slice ad6 x.cks.length cap6)) := X.out.below hb9
  replace Y : Hid (JB Wn9 v7.heap.size y (.slice ad7 y.cks.length cap7)) := Y.out.below hb9
  replace Z : Hid (JB Wn9 v8.heap.size z (.slice ad8 z.cks.length cap8)) := Z.out.below hb9
  replace S : Hid (Below w.heap.size w Wn9) := next S.out hb9
  clear hb9
  have x0 := X.out.row.cell 0 rfl
  have x1 := X.out.row.cell 1 rfl
  have y0 := Z.out.row.cell 0 rfl
  have y1 := Z.out.row.cell 1 rfl
  go_wp2_with fail
  refine (KS2.out HXZ.out _ _ _ X.out.rows Z.out.rows).mono ?_
  rintro e Wn10 ⟨rfl, hb10⟩
  clear x0 x1 y0 y1
  replace J : Hid (JB Wn10 w.heap.size j jv) := J.out.below hb10
  replace P : Hid (PB Wn10 (w.heap.size + 1) p pv) := P.out.below hb10
  replace G : Hid (CB Wn10 (w.heap.size + 1 + 1) g gv) := G.out.below hb10
  replace H : Hid (CB Wn10 (w.heap.size + 1 + 1 + 1) h hv) := H.out.below hb10
  replace M : Hid (CB Wn10 v3.heap.size m (.slice ad3 m.vs.length cap3)) := M.out.below hb10
  replace A : Hid (JB Wn10 v4.heap.size a (.slice ad4 a.cks.length cap4)) := A.out.below hb10
  replace B : Hid (JB Wn10 v5.heap.size b (.slice ad5 b.cks.length cap5)) := B.out.below hb10
  replace X : Hid (JB Wn10 v6.heap.size x (.slice ad6 x.cks.length cap6)) := X.out.below hb10
  replace Y : Hid (JB Wn10 v7.heap.size y (.slice ad7 y.cks.length cap7)) := Y.out.below hb10
  replace Z : Hid (JB Wn10 v8.heap.size z (.slice ad8 z.cks.length cap8)) := Z.out.below hb10
  replace S : Hid (Below w.heap.size w Wn10) := next S.out hb10
  clear hb10
  go_wp2_with fail
  go_ret
  exact ⟨rfl, S.out⟩
set_option maxRecDepth 100000 in
theorem lifted (os : Os) (started : os.Started) (H : Type) (enc : TypeId × Value → H) :
    ReturnsInHanded {} Try.checked os 5 .any (Rows.purgeMeetSpec.pre6 enc Try.prog Try.f5 Rows.purgeMeetRow.domain false) (Rows.purgeMeetSpec.post enc Try.prog Try.f5 false true false false) := by
  refine returnsInHanded_of_change_sized (C := Try.checked) own started (by kernel_rfl) Try.func5
    (ChangeSpec.witness6 (enc := enc) (C := Try.checked) false ⟨#[], #[.agg #[.slice none 0 0, .int .i64 0], .agg #[.slice none 0 0, .int .i64 0, .int .i64 0, .int .i64 0, .int .i64 0, .int .i64 0, .int .i64 0, .int .i64 0, .int .i64 0, .int .i64 0, .int .i64 0, .int .i64 0, .int .i64 0], .agg #[.int .i64 0, .bool false, .bool false, .bool false, .bool false, .bool false, .bool false, .bool false, .bool false, .bool false, .bool false, .slice none 0 0], .agg #[.int .i64 0, .bool false, .bool false, .bool false, .bool false, .bool false, .bool false, .bool false, .bool false, .bool false, .bool false, .slice none 0 0], .int .i64 0], []⟩ 8 (by kernel_rfl) (by kernel_rfl) (by kernel_rfl) (by kernel_rfl)) ?_
  intro W base args ds gs before hval0 hW hcnd hsz0 _
  have hsz : (DataW.weightsEach Try.prog (Try.f5.params.toList ++ Rows.purgeMeetSpec.plain.varTypes Try.prog) (ds ++ gs)).all (· ≤ reachBytes) = true := hsz0
  have hval : ∀ (j : Nat) t v, Try.f5.params[j]? = some t → args[j]? = some v → Value.okWide Try.prog W .any base t v := hval0
  have hW' := hW
  obtain ⟨p, q, hA0, hV, rfl, hfz, hnd⟩ := hW
  have hA : DataW.TrodAll enc Try.prog W 0 (fun _ => true) true Try.f5.params.toList args.toList ds p := hA0
  rw [Try.params5] at hA hval hsz
  obtain ⟨v0, vs0, d0, ds0, p0, q0, hargs, rfl, rfl, h0, r0⟩ := trodAll_cons hA
  obtain ⟨v1, vs1, d1, ds1, p1, q1, rfl, rfl, rfl, h1, r1⟩ := trodAll_cons r0
  obtain ⟨v2, vs2, d2, ds2, p2, q2, rfl, rfl, rfl, h2, r2⟩ := trodAll_cons r1
  obtain ⟨v3, vs3, d3, ds3, p3, q3, rfl, rfl, rfl, h3, r3⟩ := trodAll_cons r2
  obtain ⟨v4, vs4, d4, ds4, p4, q4, rfl, rfl, rfl, h4, r4⟩ := trodAll_cons r3
  obtain ⟨rfl, rfl, rfl⟩ := trodAll_nil r4
  obtain rfl : args = #[v0, v1, v2, v3, v4] := by cases args; simp_all
  obtain ⟨rfl, rfl⟩ := trodVars_none hV
  have k0 := h0
  have lt0 : ∀ x ∈ p0, x.block < W.heap.size := by obtain ⟨m, hm⟩ := k0; exact DataW.trod_lt m _ _ _ hm
  have k1 := h1
  have lt1 : ∀ x ∈ p1, x.block < W.heap.size := by obtain ⟨m, hm⟩ := k1; exact DataW.trod_lt m _ _ _ hm
  have k2 := h2
  have lt2 : ∀ x ∈ p2, x.block < W.heap.size := by obtain ⟨m, hm⟩ := k2; exact DataW.trod_lt m _ _ _ hm
  have k3 := h3
  have lt3 : ∀ x ∈ p3, x.block < W.heap.size := by obtain ⟨m, hm⟩ := k3; exact DataW.trod_lt m _ _ _ hm
  have k4 := h4
  have lt4 : ∀ x ∈ p4, x.block < W.heap.size := by obtain ⟨m, hm⟩ := k4; exact DataW.trod_lt m _ _ _ hm
  obtain ⟨ja0, jv0, rfl, rd0, ok0, bk0⟩ := open_jar (hval 0 24 v0 rfl rfl) k0 140737488351232 (fits_each hsz (j := 0) (t := 24) rfl rfl)
  obtain ⟨po1, pv1, rfl, rd1, ok1, bk1⟩ := open_policy (hval 1 28 v1 rfl rfl) k1 140737488351232 (fits_each hsz (j := 1) (t := 28) rfl rfl)
  obtain ⟨c2, vv2, rfl, rd2, ok2, bk2⟩ := open_consent (hval 2 32 v2 rfl rfl) k2 140737488351232 (fits_each hsz (j := 2) (t := 32) rfl rfl)
  obtain ⟨c3, vv3, rfl, rd3, ok3, bk3⟩ := open_consent (hval 3 32 v3 rfl rfl) k3 140737488351232 (fits_each hsz (j := 3) (t := 32) rfl rfl)
  obtain ⟨x4, rfl, rfl, hp4, w4⟩ := open_int Try.underlying3 (hval 4 3 v4 rfl rfl) h4
  have b4 := i64_of w4
  clear hA0 hval0
  refine (walk ja0 jv0 po1 pv1 c2 vv2 c3 vv3 x4 W rd0 ok0 rd1 ok1 rd2 ok2 rd3 ok3 b4).mono fun e W' ⟨he, bel⟩ => ?_
  subst he
  exact ⟨_, rfl, _, _, _, [], _, [], hW', trodAll_mk1 (shut_bool Try.underlying4 _), (trodAll_cons_mk (Below.trod laidOut (by kernel_rfl) (of_decide_eq_true (by kernel_rfl)) k0 bel lt0) (trodAll_cons_mk (Below.trod laidOut (by kernel_rfl) (of_decide_eq_true (by kernel_rfl)) k1 bel lt1) (trodAll_cons_mk (Below.trod laidOut (by kernel_rfl) (of_decide_eq_true (by kernel_rfl)) k2 bel lt2) (trodAll_cons_mk (Below.trod laidOut (by kernel_rfl) (of_decide_eq_true (by kernel_rfl)) k3 bel lt3) (trodAll_cons_mk (Below.trod laidOut (by kernel_rfl) (of_decide_eq_true (by kernel_rfl)) k4 bel lt4) trodAll_mk0))))), rfl, bel.frame _, fun h => by cases h⟩

theorem proved : Rows.PurgeMeetSaid :=
  OpenClaim.holds_of_wide 5 Try.f5 rfl rfl rfl rfl rfl rfl rfl ⟨rfl, rfl, rfl, rfl, rfl⟩ rfl rfl rfl rfl rfl (by kernel_rfl) Try.func5 (by kernel_rfl)
    (of_decide_eq_true (by kernel_rfl)) (by unfold Func.isWrapper; first | (rw [if_pos (by decide +kernel)]; kernel_rfl) | (rw [if_neg (by decide +kernel)]; exact ⟨rfl, rfl⟩))
    (fun os started H enc _ => lifted os started H enc)
#print axioms proved
end Go.Proofs.Ytcfdajaideidkaa.purgeMeet
