/- How a jar that is handed in is read. No walk. What a bound on all that is handed in says of each text. No walk. What a bound on all that is handed in says of a jar; what all that is kept is. No walk. PurgeTwice: for every jar, policy, consent and moment that a machine holds: purged twice it is purged once; the jar stays right, and all in it are let, live, and not over their caps. Condition: a bound on the size of all that is handed in. -/
import Derived.Test.YtcfdajaideidkaaOpenF
import Derived.Test.YtcfdajaideidkaaXB
import Derived.Test.YtcfdajaideidkaaOpenP
import Derived.Test.YtcfdajaideidkaaXC
import Derived.Test.YtcfdajaideidkaaXD
import Derived.Test.YtcfdajaideidkaaXR
import Derived.Test.YtcfdajaideidkaaOpen
import Derived.Test.YtcfdajaideidkaaOpenG
import Derived.Test.YtcfdajaideidkaaRows
namespace Go.Proofs.Ytcfdajaideidkaa
open Go.ChangeShapes Go.WideShapes Go.ChangeAt Go.RowKit
set_option linter.all false
set_option maxRecDepth 100000
set_option maxRecDepth 100000

theorem opens_jcks : Opens Try.prog 22 (wList wCookie) :=
  opens_list Try.underlying22 (by kernel_rfl) (by decide) (of_decide_eq_true (by kernel_rfl)) opens_cookie
def wJa0 : Way (List Ck × Int) := wPair (wList wCookie) wInt
theorem opens_ja0 : Opens Try.prog 24 wJa0 :=
  opens_struct Try.underlying24 (by kernel_rfl) (opensF_cons rfl opens_jcks (opensF_one rfl (opens_int Try.underlying3 (by kernel_rfl))))
def jaBulk (j : Ja) : Nat := 1 + (j.cks.map wCookie.bulk).sum + 1
theorem open_jar {H : Type} {enc : TypeId × Value → H} {W : World} {base : Nat} {v : Value} {d : DataW H} {ps : List MemPlace} (hv : Value.okWide Try.prog W .any base 24 v)
    (h : DataW.Trod enc Try.prog W 0 (fun _ => true) true 24 v d ps) (m : Nat) (hf : Fits m (DataW.weights Try.prog 24 d)) :
    ∃ (j : Ja) (jv : Value), v = .agg #[jv, .int .i64 j.next] ∧ Rows W jv ckC j.cks ∧ JaOk m j ∧ jaBulk j ≤ Rows.uptoBulk d := by
  obtain ⟨⟨l, n⟩, hl, hb⟩ := open_way opens_ja0 h
  have hl := hl m hf
  have e := struct_cells Try.underlying24 hv
  obtain ⟨x, y, he, hx1, hx, hn, hn2⟩ := hl
  have hx0 := hx
  obtain ⟨ad, cap, hys, hlen, _⟩ := hx
  simp only at hn hn2 hys hlen hx0 he hb
  refine ⟨⟨l, n⟩, .slice ad l.length cap, ?_, ?_, ⟨hlen, ?_, hn2⟩, hb⟩
  · rw [e, he, hys, hn]; rfl
  · rw [hys] at hx0
    exact rows_of wCookie_is (fun _ => rfl) hx0
  · intro c hc
    rw [hys] at hx0
    obtain ⟨ds, hd⟩ := list_all hx0 c hc
    exact wCookie_ok _ _ _ _ hd
end Go.Proofs.Ytcfdajaideidkaa
namespace Go.Proofs.Ytcfdajaideidkaa
open Go.ChangeShapes Go.WideShapes Go.ChangeAt Go.RowKit
set_option linter.all false
set_option maxRecDepth 100000
/-- what is bounded in all is bounded in each -/
theorem sum_mem (l : List Nat) (x : Nat) (h : x ∈ l) : x ≤ l.sum := by
  induction l with
  | nil => simp at h
  | cons a l ih =>
    rw [List.sum_cons]
    rcases List.mem_cons.1 h with rfl | h
    · omega
    · have := ih h; omega
theorem sum_len (f : Ru → Nat) (l : List Ru) (h : ∀ r, 1 ≤ f r) : l.length ≤ (l.map f).sum := by
  induction l with
  | nil => simp
  | cons a l ih => rw [List.map_cons, List.sum_cons, List.length_cons]; have := h a; omega
theorem po_small {p : Po} (h : PoOk maxLen p) (hk : poBulk p ≤ 1099511627776) : PoOk 140737488351232 p := by
  have h1 : (p.rules.map ruBulk).sum ≤ 1099511627776 := by unfold poBulk at hk; omega
  refine ⟨?_, fun r hr => ?_, h.dflt, h.caps⟩
  · have := sum_len ruBulk p.rules (fun r => by unfold ruBulk; omega); omega
  · have h2 := sum_mem (p.rules.map ruBulk) (ruBulk r) (List.mem_map.2 ⟨r, hr, rfl⟩)
    have h3 := h.rules r hr
    have h4 : ruBulk r ≤ 1099511627776 := Nat.le_trans h2 h1
    unfold ruBulk at h4
    exact ⟨by omega, h3.kind, h3.purpose, h3.vendor⟩
theorem ck_small {c : Ck} (h : CkOk maxLen c) (hk : wCookie.bulk c ≤ 1099511627776) : CkOk 140737488351232 c ∧ (c.domain.length + 1) * 16 ≤ 140737488355328 := by
  have e2 : wCookie.bulk c = (c.name.length + 1) + ((c.value.length + 1) + ((c.domain.length + 1) + ((c.path.length + 1) + (1 + (1 + (1 + (1 + (1 + (1 + (1 + (1 + 1))))))))))) := rfl
  exact ⟨⟨by omega, by omega, by omega, by omega, h.site, h.expiry, h.created, h.used, h.no⟩, by omega⟩
theorem ru_small {r : Ru} (h : RuOk maxLen r) (hk : ruBulk r ≤ 1099511627776) : RuOk 140737488351232 r := by
  have hk' := hk
  unfold ruBulk at hk'
  exact ⟨by omega, h.kind, h.purpose, h.vendor⟩
end Go.Proofs.Ytcfdajaideidkaa
namespace Go.Proofs.Ytcfdajaideidkaa
open Go.ChangeShapes Go.WideShapes Go.ChangeAt Go.RowKit
set_option linter.all false
set_option maxRecDepth 100000

theorem len_sum (l : List Int) : l.length = (l.map fun _ => 1).sum := by
  induction l with
  | nil => rfl
  | cons a l ih => rw [List.map_cons, List.sum_cons, List.length_cons]; omega
theorem sum_len2 {α : Type} (f : α → Nat) (l : List α) (h : ∀ r, 1 ≤ f r) : l.length ≤ (l.map f).sum := by
  induction l with
  | nil => simp
  | cons a l ih => rw [List.map_cons, List.sum_cons, List.length_cons]; have := h a; omega
theorem ck_bulk1 (c : Ck) : 1 ≤ wCookie.bulk c := by
  have e2 : wCookie.bulk c = (c.name.length + 1) + ((c.value.length + 1) + ((c.domain.length + 1) + ((c.path.length + 1) + (1 + (1 + (1 + (1 + (1 + (1 + (1 + (1 + 1))))))))))) := rfl
  omega
theorem ja_small {j : Ja} (h : JaOk maxLen j) (hk : jaBulk j ≤ 1099511627776) : JaOk 140737488351232 j ∧ ∀ c ∈ j.cks, (c.domain.length + 1) * 16 ≤ 140737488355328 := by
  have h1 : (j.cks.map wCookie.bulk).sum ≤ 1099511627776 := by unfold jaBulk at hk; omega
  have each : ∀ c ∈ j.cks, CkOk 140737488351232 c ∧ (c.domain.length + 1) * 16 ≤ 140737488355328 := fun c hc => by
    have h2 := sum_mem (j.cks.map wCookie.bulk) (wCookie.bulk c) (List.mem_map.2 ⟨c, hc, rfl⟩)
    exact ck_small (h.cks c hc) (by omega)
  refine ⟨⟨?_, fun c hc => (each c hc).1, h.next⟩, fun c hc => (each c hc).2⟩
  have := sum_len2 wCookie.bulk j.cks ck_bulk1
  omega
theorem pu_twice {j : Ja} {p : Po} {g : Cn} {now : Int} (h : chPu j p g now = 0) :
    chPu (purJ j p g now) p g now = 0 ∧ purN (purJ j p g now) p g now = 0 ∧ purJ j p g now = purJ (purJ j p g now) p g now ∧ chJ (purJ j p g now) = 0 ∧ purN j p g now = (j.cks.length : Int) - ((purJ j p g now).cks.length : Int) := by
  obtain ⟨j1, p1, g1, n1⟩ := (chPu_zero _ _ _ _).1 h
  have hm := moms j1
  have a1 := keepL_jar h
  have e := keepL_same (now := now) hm p1 g1
  have e1 : chPu (purJ j p g now) p g now = 0 := by rw [purJ_yes h]; exact (chPu_zero _ _ _ _).2 ⟨a1, p1, g1, n1⟩
  refine ⟨e1, ?_, ?_, ?_, ?_⟩
  · unfold purN
    rw [if_pos e1, purJ_yes h]
    show ((keepL p g now j.cks).length : Int) - ((keepL p g now (keepL p g now j.cks)).length : Int) = 0
    rw [e]; omega
  · rw [purJ_yes e1, purJ_yes h]
    show (⟨keepL p g now j.cks, j.next⟩ : Ja) = ⟨keepL p g now (keepL p g now j.cks), j.next⟩
    rw [e]
  · rw [purJ_yes h]; exact a1
  · unfold purN
    rw [if_pos h, purJ_yes h]
theorem pu_each {j : Ja} {p : Po} {g : Cn} {now : Int} (h : chPu j p g now = 0) : ∀ c ∈ (purJ j p g now).cks, letsP p g c = true ∧ liveB c now = true ∧ capE p c = 0 ∧ c.expiry ≤ capN p c := fun d hd => by
  obtain ⟨j1, p1, g1, n1⟩ := (chPu_zero _ _ _ _).1 h
  rw [purJ_yes h] at hd
  obtain ⟨c, hc, rfl, h1, h2⟩ := keepL_in (moms j1) p1 g1 hd
  refine ⟨h1, ?_, capE_zero p1 (show momB (cut p c).created = true from moms j1 c hc), ?_⟩
  · unfold liveB; exact decide_eq_true (show now < min c.expiry (capN p c) from h2)
  · show min c.expiry (capN p c) ≤ capN p c
    omega
theorem pu_dom {j : Ja} {p : Po} {g : Cn} {now : Int} (h : ∀ c ∈ j.cks, (c.domain.length + 1) * 16 ≤ 140737488355328) : ∀ d ∈ (purJ j p g now).cks, (d.domain.length + 1) * 16 ≤ 140737488355328 := fun d hd => by
  unfold purJ at hd
  split at hd
  · obtain ⟨c, hc, hcd⟩ := List.mem_filterMap.1 hd
    unfold keep1 at hcd
    split at hcd
    · rename_i h1
      injection hcd with hcd
      rw [← hcd]
      unfold gateC
      rw [if_pos h1.1]
      unfold clampC
      split
      · exact h c hc
      · decide
    · cases hcd
  · exact absurd hd (by simp)
end Go.Proofs.Ytcfdajaideidkaa
namespace Go.Proofs.Ytcfdajaideidkaa.purgeTwice
open Go.ChangeShapes Go.WideShapes Go.ChangeAt Go.RowKit
open Go.ChangeMaps (open_string shut_string)
set_option linter.all false
set_option maxRecDepth 100000
set_option maxRecDepth 100000

set_option maxHeartbeats 16000000 in
theorem walk (j : Ja) (jv : Value) (p : Po) (pv : Value) (g : Cn) (gv : Value) (now : Int) (w : World) (rj : Rows w jv ckC j.cks) (oj0 : JaOk maxLen j) (rp : Rows w pv ruC p.rules) (op0 : PoOk maxLen p) (rg : Rows w gv intF g.vs) (og : g.vs.length ≤ maxLen ∧ inR g.vs ∧ (-9223372036854775808 ≤ g.g ∧ g.g ≤ 9223372036854775807)) (on : -9223372036854775808 ≤ now ∧ now ≤ 9223372036854775807)
    (hk : jaBulk j + poBulk p + (1 + (g.vs.map fun _ => 1).sum) ≤ 1099511627776) :
    Calls Try.prog 4 #[.agg #[jv, .int .i64 j.next], .agg #[pv, .int .i64 p.dflt, .int .i64 p.c0, .int .i64 p.c1, .int .i64 p.c2, .int .i64 p.c3, .int .i64 p.c4, .int .i64 p.c5, .int .i64 p.c6, .int .i64 p.c7, .int .i64 p.c8, .int .i64 p.c9, .int .i64 p.c10], .agg #[.int .i64 g.g, .bool g.b0, .bool g.b1, .bool g.b2, .bool g.b3, .bool g.b4, .bool g.b5, .bool g.b6, .bool g.b7, .bool g.b8, .bool g.b9, gv], .int .i64 now] w fun e w' => e = .returned (.bool true) ∧ Below w.heap.size w w' := by
  have op : PoOk 140737488351232 p := po_small op0 (by omega)
  have oj : JaOk 140737488351232 j := (ja_small oj0 (by omega)).1
  have ojd := (ja_small oj0 (by omega)).2
  have okg : CnOk g := ⟨by have := len_sum g.vs; omega, og.2.1⟩
  obtain ⟨adj, capj, rfl⟩ := rj.shape
  obtain ⟨a, ha⟩ : ∃ qq, qq = purJ j p g now := ⟨_, rfl⟩
  obtain ⟨b, hb⟩ : ∃ qq, qq = purJ a p g now := ⟨_, rfl⟩
  obtain ⟨E, hE⟩ : ∃ qq, qq = chPu j p g now := ⟨_, rfl⟩
  obtain ⟨kb, hkb⟩ : ∃ qq, qq = chPu a p g now := ⟨_, rfl⟩
  obtain ⟨ka, hka⟩ : ∃ qq, qq = chJ a := ⟨_, rfl⟩
  obtain ⟨n1, hn1⟩ : ∃ qq, qq = purN j p g now := ⟨_, rfl⟩
  obtain ⟨n2, hn2⟩ : ∃ qq, qq = purN a p g now := ⟨_, rfl⟩
  have oka : JaOk 140737488351232 a := by rw [ha]; exact purJ_ok oj
  have okb : JaOk 140737488351232 b := by rw [hb]; exact purJ_ok oka
  have HZ : Hid (¬ E = 0 → a = ⟨[], 0⟩ ∧ n1 = 0) := fun h => by
    rw [ha, hn1]; unfold purJ purN; rw [← hE, if_neg h, if_neg h]; exact ⟨rfl, rfl⟩
  have HF : Hid (E = 0 → kb = 0 ∧ n2 = 0 ∧ a = b ∧ ka = 0 ∧ n1 = (j.cks.length : Int) - (a.cks.length : Int)) := fun h => by
    rw [hkb, hn2, hka, hn1, hb, ha]
    exact pu_twice (hE ▸ h)
  have HC : Hid (E = 0 → ∀ c ∈ a.cks, letsP p g c = true ∧ liveB c now = true ∧ capE p c = 0 ∧ c.expiry ≤ capN p c) := fun h => by rw [ha]; exact pu_each (hE ▸ h)
  have HOK : Hid (∀ c ∈ a.cks, CkOk 140737488351232 c ∧ (c.domain.length + 1) * 16 ≤ 140737488355328) := fun c hc => ⟨oka.cks c hc, by rw [ha] at hc; exact pu_dom ojd c hc⟩
  have HOP : Hid (PoOk 140737488351232 p) := op
  have HOG : Hid (CnOk g) := okg
  have K1 : Hid (∀ w' vj vp vg, Rows w' vj ckC j.cks → Rows w' vp ruC p.rules → Rows w' vg intF g.vs → Calls Try.prog 7 #[.agg #[vj, .int .i64 j.next], .agg #[vp, .int .i64 p.dflt, .int .i64 p.c0, .int .i64 p.c1, .int .i64 p.c2, .int .i64 p.c3, .int .i64 p.c4, .int .i64 p.c5, .int .i64 p.c6, .int .i64 p.c7, .int .i64 p.c8, .int .i64 p.c9, .int .i64 p.c10], .agg #[.int .i64 g.g, .bool g.b0, .bool g.b1, .bool g.b2, .bool g.b3, .bool g.b4, .bool g.b5, .bool g.b6, .bool g.b7, .bool g.b8, .bool g.b9, vg], .int .i64 now] w' fun e w'' => ∃ s, e = .returned (.tuple #[.agg #[s, .int .i64 a.next], .int .i64 n1, .int .i64 E]) ∧ Rows w'' s ckC a.cks ∧ Below w'.heap.size w' w'') := fun w' vj vp vg h1 h2 h3 => by
    rw [ha, hn1, hE]
    exact (purge_any j vj p vp g vg now w' h1 oj h2 op h3 okg).mono fun e w'' ⟨s, e1, e2, e3⟩ => ⟨s, e1, Reads.of_own e2, e3⟩
  have K2 : Hid (∀ w' vj vp vg, Rows w' vj ckC a.cks → Rows w' vp ruC p.rules → Rows w' vg intF g.vs → Calls Try.prog 7 #[.agg #[vj, .int .i64 a.next], .agg #[vp, .int .i64 p.dflt, .int .i64 p.c0, .int .i64 p.c1, .int .i64 p.c2, .int .i64 p.c3, .int .i64 p.c4, .int .i64 p.c5, .int .i64 p.c6, .int .i64 p.c7, .int .i64 p.c8, .int .i64 p.c9, .int .i64 p.c10], .agg #[.int .i64 g.g, .bool g.b0, .bool g.b1, .bool g.b2, .bool g.b3, .bool g.b4, .bool g.b5, .bool g.b6, .bool g.b7, .bool g.b8, .bool g.b9, vg], .int .i64 now] w' fun e w'' => ∃ s, e = .returned (.tuple #[.agg #[s, .int .i64 b.next], .int .i64 n2, .int .i64 kb]) ∧ Rows w'' s ckC b.cks ∧ Below w'.heap.size w' w'') := fun w' vj vp vg h1 h2 h3 => by
    rw [hb, hn2, hkb]
    exact (purge_any a vj p vp g vg now w' h1 oka h2 op h3 okg).mono fun e w'' ⟨s, e1, e2, e3⟩ => ⟨s, e1, Reads.of_own e2, e3⟩
  have KS : Hid (a = b → ∀ w' va vb, Rows w' va ckC a.cks → Rows w' vb ckC b.cks → Calls Try.prog 12 #[.agg #[va, .int .i64 a.next], .agg #[vb, .int .i64 b.next]] w' fun e w'' => e = .returned (.bool true) ∧ Below w'.heap.size w' w'') := fun h w' va vb h1 h2 => by
    have k := sameJar_any va vb a b w' h1 h2 oka.max okb.max
    rw [(eqJ_iff _ _).2 h] at k
    exact k
  have KSZ : Hid (a = ⟨[], 0⟩ → ∀ w' va vb, Rows w' va ckC a.cks → Rows w' vb ckC (⟨[], 0⟩ : Ja).cks → Calls Try.prog 12 #[.agg #[va, .int .i64 a.next], .agg #[vb, .int .i64 0]] w' fun e w'' => e = .returned (.bool true) ∧ Below w'.heap.size w' w'') := fun h w' va vb h1 h2 => by
    have k := sameJar_any va vb a ⟨[], 0⟩ w' h1 h2 oka.max (Nat.zero_le _)
    rw [(eqJ_iff _ _).2 h] at k
    exact k
  have KJ : Hid (∀ w' va, Rows w' va ckC a.cks → Calls Try.prog 13 #[.agg #[va, .int .i64 a.next]] w' fun e w'' => e = .returned (.int .i64 ka) ∧ Below w'.heap.size w' w'') := fun w' va h1 => by rw [hka]; exact jarCheck_any a va w' h1 oka
  have hjm : j.cks.length ≤ 140737488351232 := oj.len
  have ham : a.cks.length ≤ 140737488351232 := oka.len
  obtain ⟨W0, hW0⟩ : ∃ W0, W0 = (((w.alloc (.cells #[(.slice adj j.cks.length capj), .int .i64 j.next] 24)).alloc (.cells #[pv, .int .i64 p.dflt, .int .i64 p.c0, .int .i64 p.c1, .int .i64 p.c2, .int .i64 p.c3, .int .i64 p.c4, .int .i64 p.c5, .int .i64 p.c6, .int .i64 p.c7, .int .i64 p.c8, .int .i64 p.c9, .int .i64 p.c10] 28)).alloc (.cells #[.int .i64 g.g, .bool g.b0, .bool g.b1, .bool g.b2, .bool g.b3, .bool g.b4, .bool g.b5, .bool g.b6, .bool g.b7, .bool g.b8, .bool g.b9, gv] 32)) := ⟨_, rfl⟩
  have J : Hid (JB W0 w.heap.size j (.slice adj j.cks.length capj)) := by
    rw [hW0]
    have h := JB.new w j (.slice adj j.cks.length capj) 24 rj
    exact ((h.below (below_new _ _)).below (below_new _ _))
  have P : Hid (PB W0 (w.heap.size + 1) p pv) := by
    rw [hW0]
    have h := PB.new (w.alloc (.cells #[(.slice adj j.cks.length capj), .int .i64 j.next] 24)) p pv 28 (Rows.below rp (below_new _ _) (Nat.le_refl _))
    rw [show (w.alloc (.cells #[(.slice adj j.cks.length capj), .int .i64 j.next] 24)).heap.size = w.heap.size + 1 from by simp] at h
    exact (h.below (below_new _ _))
  have G : Hid (CB W0 (w.heap.size + 1 + 1) g gv) := by
    rw [hW0]
    have h := CB.new ((w.alloc (.cells #[(.slice adj j.cks.length capj), .int .i64 j.next] 24)).alloc (.cells #[pv, .int .i64 p.dflt, .int .i64 p.c0, .int .i64 p.c1, .int .i64 p.c2, .int .i64 p.c3, .int .i64 p.c4, .int .i64 p.c5, .int .i64 p.c6, .int .i64 p.c7, .int .i64 p.c8, .int .i64 p.c9, .int .i64 p.c10] 28)) g gv 32 (Rows.below (Rows.below rg (below_new _ _) (Nat.le_refl _)) (below_new _ _) (Nat.le_refl _))
    rw [show ((w.alloc (.cells #[(.slice adj j.cks.length capj), .int .i64 j.next] 24)).alloc (.cells #[pv, .int .i64 p.dflt, .int .i64 p.c0, .int .i64 p.c1, .int .i64 p.c2, .int .i64 p.c3, .int .i64 p.c4, .int .i64 p.c5, .int .i64 p.c6, .int .i64 p.c7, .int .i64 p.c8, .int .i64 p.c9, .int .i64 p.c10] 28)).heap.size = w.heap.size + 1 + 1 from by simp] at h
    exact h
  have S : Hid (Below w.heap.size w W0) := by rw [hW0]; exact next (next (below_new _ _) (below_new _ _)) (below_new _ _)
  have HW0 : Hid _ := hW0
  clear rj oj0 oj ojd rp op op0 rg og okg on ha hb hE hkb hka hn1 hn2 oka okb hk hW0
  go_enter Try.func4, Try.ntmps4
  go_upto_region 1 with fail
  rw [← HW0.out]
  clear HW0
  have x0 := J.out.row.cell 0 rfl
  have x1 := J.out.row.cell 1 rfl
  have y0 := P.out.row.cell 0 rfl
  have y1 := P.out.row.cell 1 rfl
  have y2 := P.out.row.cell 2 rfl
  have y3 := P.out.row.cell 3 rfl
  have y4 := P.out.row.cell 4 rfl
  have y5 := P.out.row.cell 5 rfl
  have y6 := P.out.row.cell 6 rfl
  have y7 := P.out.row.cell 7 rfl
  have y8 := P.out.row.cell 8 rfl
  have y9 := P.out.row.cell 9 rfl
  have y10 := P.out.row.cell 10 rfl
  have y11 := P.out.row.cell 11 rfl
  have y12 := P.out.row.cell 12 rfl
  have z0 := G.out.row.cell 0 rfl
  have z1 := G.out.row.cell 1 rfl
  have z2 := G.out.row.cell 2 rfl
  have z3 := G.out.row.cell 3 rfl
  have z4 := G.out.row.cell 4 rfl
  have z5 := G.out.row.cell 5 rfl
  have z6 := G.out.row.cell 6 rfl
  have z7 := G.out.row.cell 7 rfl
  have z8 := G.out.row.cell 8 rfl
  have z9 := G.out.row.cell 9 rfl
  have z10 := G.out.row.cell 10 rfl
  have z11 := G.out.row.cell 11 rfl
  go_wp2_with fail
  refine (K1.out _ _ _ _ J.out.rows P.out.rows G.out.rows).mono ?_
  rintro e v1 ⟨s1, rfl, r1, hb1⟩
  obtain ⟨ad1, cap1, rfl⟩ := r1.shape
  clear x0 x1 y0 y1 y2 y3 y4 y5 y6 y7 y8 y9 y10 y11 y12 z0 z1 z2 z3 z4 z5 z6 z7 z8 z9 z10 z11
  obtain ⟨W1, hW1⟩ : ∃ W1, W1 = v1.alloc (.cells #[(.slice ad1 a.cks.length cap1), .int .i64 a.next] 24) := ⟨_, rfl⟩
  have hc1 : Below W0.heap.size W0 W1 := by rw [hW1]; exact next hb1 (below_new _ _)
  replace J : Hid (JB W1 w.heap.size j (.slice adj j.cks.length capj)) := J.out.below hc1
  replace P : Hid (PB W1 (w.heap.size + 1) p pv) := P.out.below hc1
  replace G : Hid (CB W1 (w.heap.size + 1 + 1) g gv) := G.out.below hc1
  replace S : Hid (Below w.heap.size w W1) := next S.out hc1
  have A : Hid (JB W1 v1.heap.size a (.slice ad1 a.cks.length cap1)) := by rw [hW1]; exact JB.new v1 a (.slice ad1 a.cks.length cap1) 24 r1
  have HW1 : Hid _ := hW1
  clear hb1 hc1 hW1
  go_upto_region 2 with fail
  rw [← HW1.out]
  clear HW1
  go_wp2_with fail
  refine (purgeBegun_any _).mono ?_
  rintro e Wn2 ⟨rfl, hb2⟩
  replace J : Hid (JB Wn2 w.heap.size j (.slice adj j.cks.length capj)) := J.out.below hb2
  replace P : Hid (PB Wn2 (w.heap.size + 1) p pv) := P.out.below hb2
  replace G : Hid (CB Wn2 (w.heap.size + 1 + 1) g gv) := G.out.below hb2
  replace A : Hid (JB Wn2 v1.heap.size a (.slice ad1 a.cks.length cap1)) := A.out.below hb2
  replace S : Hid (Below w.heap.size w Wn2) := next S.out hb2
  clear hb2
  by_cases hE : E = 0
  rotate_left
  · have q : (E != 0) = true := by rw [bne_iff_ne]; exact hE
    have HA0 : Hid (a = ⟨[], 0⟩ ∧ n1 = 0) := HZ.out hE
    have tz : (n1 == 0) = true := by rw [HA0.out.2]; rfl
    clear hE
    have x0 := A.out.row.cell 0 rfl
    have x1 := A.out.row.cell 1 rfl
    go_wp2_with fail
    refine (KSZ.out HA0.out.1 _ _ _ A.out.rows (⟨none, 0, rfl, .inl rfl⟩)).mono ?_
    rintro e Wn3 ⟨rfl, hb3⟩
    clear x0 x1
    replace J : Hid (JB Wn3 w.heap.size j (.slice adj j.cks.length capj)) := J.out.below hb3
    replace P : Hid (PB Wn3 (w.heap.size + 1) p pv) := P.out.below hb3
    replace G : Hid (CB Wn3 (w.heap.size + 1 + 1) g gv) := G.out.below hb3
    replace A : Hid (JB Wn3 v1.heap.size a (.slice ad1 a.cks.length cap1)) := A.out.below hb3
    replace S : Hid (Below w.heap.size w Wn3) := next S.out hb3
    clear hb3
    go_wp2_with fail
    go_ret
    exact ⟨rfl, S.out⟩
  have qE : (E != 0) = false := by rw [hE]; rfl
  have HHE : Hid (E = 0) := hE
  obtain ⟨eb, en, eab, ea0, enn⟩ := HF.out hE
  clear hE
  have t1 : (kb != 0) = false := by rw [eb]; rfl
  have t2 : (n2 != 0) = false := by rw [en]; rfl
  have t3 : (ka != 0) = false := by rw [ea0]; rfl
  have HAB : Hid (a = b) := eab
  have HNN : Hid (n1 = (j.cks.length : Int) - (a.cks.length : Int)) := enn
  have t4 : (n1 != (j.cks.length : Int) - (a.cks.length : Int)) = false := by rw [enn]; simp
  clear eb en eab ea0 enn
  go_upto_region 6 with fail
  have x0 := A.out.row.cell 0 rfl
  have x1 := A.out.row.cell 1 rfl
  have y0 := P.out.row.cell 0 rfl
  have y1 := P.out.row.cell 1 rfl
  have y2 := P.out.row.cell 2 rfl
  have y3 := P.out.row.cell 3 rfl
  have y4 := P.out.row.cell 4 rfl
  have y5 := P.out.row.cell 5 rfl
  have y6 := P.out.row.cell 6 rfl
  have y7 := P.out.row.cell 7 rfl
  have y8 := P.out.row.cell 8 rfl
  have y9 := P.out.row.cell 9 rfl
  have y10 := P.out.row.cell 10 rfl
  have y11 := P.out.row.cell 11 rfl
  have y12 := P.out.row.cell 12 rfl
  have z0 := G.out.row.cell 0 rfl
  have z1 := G.out.row.cell 1 rfl
  have z2 := G.out.row.cell 2 rfl
  have z3 := G.out.row.cell 3 rfl
  have z4 := G.out.row.cell 4 rfl
  have z5 := G.out.row.cell 5 rfl
  have z6 := G.out.row.cell 6 rfl
  have z7 := G.out.row.cell 7 rfl
  have z8 := G.out.row.cell 8 rfl
  have z9 := G.out.row.cell 9 rfl
  have z10 := G.out.row.cell 10 rfl
  have z11 := G.out.row.cell 11 rfl
  go_wp2_with fail
  refine (K2.out _ _ _ _ A.out.rows P.out.rows G.out.rows).mono ?_
  rintro e v3 ⟨s3, rfl, r3, hb3⟩
  obtain ⟨ad3, cap3, rfl⟩ := r3.shape
  clear x0 x1 y0 y1 y2 y3 y4 y5 y6 y7 y8 y9 y10 y11 y12 z0 z1 z2 z3 z4 z5 z6 z7 z8 z9 z10 z11
  obtain ⟨W3, hW3⟩ : ∃ W3, W3 = v3.alloc (.cells #[(.slice ad3 b.cks.length cap3), .int .i64 b.next] 24) := ⟨_, rfl⟩
  have hc3 : Below Wn2.heap.size Wn2 W3 := by rw [hW3]; exact next hb3 (below_new _ _)
  replace J : Hid (JB W3 w.heap.size j (.slice adj j.cks.length capj)) := J.out.below hc3
  replace P : Hid (PB W3 (w.heap.size + 1) p pv) := P.out.below hc3
  replace G : Hid (CB W3 (w.heap.size + 1 + 1) g gv) := G.out.below hc3
  replace A : Hid (JB W3 v1.heap.size a (.slice ad1 a.cks.length cap1)) := A.out.below hc3
  replace S : Hid (Below w.heap.size w W3) := next S.out hc3
  have B : Hid (JB W3 v3.heap.size b (.slice ad3 b.cks.length cap3)) := by rw [hW3]; exact JB.new v3 b (.slice ad3 b.cks.length cap3) 24 r3
  have HW3 : Hid _ := hW3
  clear hb3 hc3 hW3
  go_upto_region 7 with fail
  rw [← HW3.out]
  clear HW3
  have x0 := A.out.row.cell 0 rfl
  have x1 := A.out.row.cell 1 rfl
  have y0 := B.out.row.cell 0 rfl
  have y1 := B.out.row.cell 1 rfl
  go_wp2_with fail
  refine (KS.out HAB.out _ _ _ A.out.rows B.out.rows).mono ?_
  rintro e Wn4 ⟨rfl, hb4⟩
  clear x0 x1 y0 y1
  replace J : Hid (JB Wn4 w.heap.size j (.slice adj j.cks.length capj)) := J.out.below hb4
  replace P : Hid (PB Wn4 (w.heap.size + 1) p pv) := P.out.below hb4
  replace G : Hid (CB Wn4 (w.heap.size + 1 + 1) g gv) := G.out.below hb4
  replace A : Hid (JB Wn4 v1.heap.size a (.slice ad1 a.cks.length cap1)) := A.out.below hb4
  replace B : Hid (JB Wn4 v3.heap.size b (.slice ad3 b.cks.length cap3)) := B.out.below hb4
  replace S : Hid (Below w.heap.size w Wn4) := next S.out hb4
  clear hb4
  have x0 := A.out.row.cell 0 rfl
  have x1 := A.out.row.cell 1 rfl
  go_wp2_with fail
  refine (KJ.out _ _ A.out.rows).mono ?_
  rintro e Wn5 ⟨rfl, hb5⟩
  clear x0 x1
  replace J : Hid (JB Wn5 w.heap.size j (.slice adj j.cks.length capj)) := J.out.below hb5
  replace P : Hid (PB Wn5 (w.heap.size + 1) p pv) := P.out.below hb5
  replace G : Hid (CB Wn5 (w.heap.size + 1 + 1) g gv) := G.out.below hb5
  replace A : Hid (JB Wn5 v1.heap.size a (.slice ad1 a.cks.length cap1)) := A.out.below hb5
  replace B : Hid (JB Wn5 v3.heap.size b (.slice ad3 b.cks.length cap3)) := B.out.below hb5
  replace S : Hid (Below w.heap.size w Wn5) := next S.out hb5
  clear hb5
  have x0 := A.out.row.cell 0 rfl
  have x1 := A.out.row.cell 1 rfl
  have y0 := J.out.row.cell 0 rfl
  have y1 := J.out.row.cell 1 rfl
  go_upto_region 9 with fail
  clear x0 x1 y0 y1
  go_wp2_with fail
  go_loopw [15] (fun i wr => ∃ k : Nat, k ≤ a.cks.length ∧ i = .int .i64 (k : Int) ∧ Hid (Below Wn5.heap.size Wn5 wr)) (fun i _ => a.cks.length - (intOf i).toNat)
  case atStart => exact ⟨0, Nat.zero_le _, rfl, Below.refl _ _⟩
  case round =>
    obtain ⟨k, hk, rfl, hb⟩ := hrel
    have Ar : Hid (JB wr v1.heap.size a (.slice ad1 a.cks.length cap1)) := A.out.below hb.out
    have Pr : Hid (PB wr (w.heap.size + 1) p pv) := P.out.below hb.out
    have Gr : Hid (CB wr (w.heap.size + 1 + 1) g gv) := G.out.below hb.out
    have Sr : Hid (Below w.heap.size w wr) := next S.out hb.out
    by_cases hlt : k < a.cks.length
    · obtain ⟨c, e1⟩ : ∃ r, a.cks[k]? = some r := ⟨_, List.getElem?_eq_getElem hlt⟩
      obtain ⟨bl, ol, had, hbl, hcell⟩ := Rows.at Ar.out.rows rfl 12 (fun _ => rfl) k c e1
      subst had
      have c0 : ∀ w', Below wr.heap.size wr w' → w'.cell? ⟨bl, ol + k * 13, none⟩ = some (.string (txt c.name)) := fun w' h => by have q := (h.cell (p := ⟨bl, ol + k * 13 + 0, none⟩) hbl).trans (hcell 0 _ rfl); rw [Nat.add_zero] at q; exact q
      have c1 : ∀ w', Below wr.heap.size wr w' → w'.cell? ⟨bl, ol + k * 13 + 1, none⟩ = some (.string (txt c.value)) := fun w' h => (h.cell (p := ⟨bl, ol + k * 13 + 1, none⟩) hbl).trans (hcell 1 _ rfl)
      have c2 : ∀ w', Below wr.heap.size wr w' → w'.cell? ⟨bl, ol + k * 13 + 2, none⟩ = some (.string (txt c.domain)) := fun w' h => (h.cell (p := ⟨bl, ol + k * 13 + 2, none⟩) hbl).trans (hcell 2 _ rfl)
      have c3 : ∀ w', Below wr.heap.size wr w' → w'.cell? ⟨bl, ol + k * 13 + 3, none⟩ = some (.string (txt c.path)) := fun w' h => (h.cell (p := ⟨bl, ol + k * 13 + 3, none⟩) hbl).trans (hcell 3 _ rfl)
      have c4 : ∀ w', Below wr.heap.size wr w' → w'.cell? ⟨bl, ol + k * 13 + 4, none⟩ = some (.bool c.hostOnly) := fun w' h => (h.cell (p := ⟨bl, ol + k * 13 + 4, none⟩) hbl).trans (hcell 4 _ rfl)
      have c5 : ∀ w', Below wr.heap.size wr w' → w'.cell? ⟨bl, ol + k * 13 + 5, none⟩ = some (.bool c.secure) := fun w' h => (h.cell (p := ⟨bl, ol + k * 13 + 5, none⟩) hbl).trans (hcell 5 _ rfl)
      have c6 : ∀ w', Below wr.heap.size wr w' → w'.cell? ⟨bl, ol + k * 13 + 6, none⟩ = some (.bool c.httpOnly) := fun w' h => (h.cell (p := ⟨bl, ol + k * 13 + 6, none⟩) hbl).trans (hcell 6 _ rfl)
      have c7 : ∀ w', Below wr.heap.size wr w' → w'.cell? ⟨bl, ol + k * 13 + 7, none⟩ = some (.bool c.lasting) := fun w' h => (h.cell (p := ⟨bl, ol + k * 13 + 7, none⟩) hbl).trans (hcell 7 _ rfl)
      have c8 : ∀ w', Below wr.heap.size wr w' → w'.cell? ⟨bl, ol + k * 13 + 8, none⟩ = some (.int .i64 c.site) := fun w' h => (h.cell (p := ⟨bl, ol + k * 13 + 8, none⟩) hbl).trans (hcell 8 _ rfl)
      have c9 : ∀ w', Below wr.heap.size wr w' → w'.cell? ⟨bl, ol + k * 13 + 9, none⟩ = some (.int .i64 c.expiry) := fun w' h => (h.cell (p := ⟨bl, ol + k * 13 + 9, none⟩) hbl).trans (hcell 9 _ rfl)
      have c10 : ∀ w', Below wr.heap.size wr w' → w'.cell? ⟨bl, ol + k * 13 + 10, none⟩ = some (.int .i64 c.created) := fun w' h => (h.cell (p := ⟨bl, ol + k * 13 + 10, none⟩) hbl).trans (hcell 10 _ rfl)
      have c11 : ∀ w', Below wr.heap.size wr w' → w'.cell? ⟨bl, ol + k * 13 + 11, none⟩ = some (.int .i64 c.used) := fun w' h => (h.cell (p := ⟨bl, ol + k * 13 + 11, none⟩) hbl).trans (hcell 11 _ rfl)
      have c12 : ∀ w', Below wr.heap.size wr w' → w'.cell? ⟨bl, ol + k * 13 + 12, none⟩ = some (.int .i64 c.no) := fun w' h => (h.cell (p := ⟨bl, ol + k * 13 + 12, none⟩) hbl).trans (hcell 12 _ rfl)
      have x0 : ∀ w', Below wr.heap.size wr w' → w'.cell? ⟨w.heap.size + 1, 0, none⟩ = some (pv) := fun w' h => (Pr.out.below h).row.cell 0 rfl
      have x1 : ∀ w', Below wr.heap.size wr w' → w'.cell? ⟨w.heap.size + 1, 1, none⟩ = some (.int .i64 p.dflt) := fun w' h => (Pr.out.below h).row.cell 1 rfl
      have x2 : ∀ w', Below wr.heap.size wr w' → w'.cell? ⟨w.heap.size + 1, 2, none⟩ = some (.int .i64 p.c0) := fun w' h => (Pr.out.below h).row.cell 2 rfl
      have x3 : ∀ w', Below wr.heap.size wr w' → w'.cell? ⟨w.heap.size + 1, 3, none⟩ = some (.int .i64 p.c1) := fun w' h => (Pr.out.below h).row.cell 3 rfl
      have x4 : ∀ w', Below wr.heap.size wr w' → w'.cell? ⟨w.heap.size + 1, 4, none⟩ = some (.int .i64 p.c2) := fun w' h => (Pr.out.below h).row.cell 4 rfl
      have x5 : ∀ w', Below wr.heap.size wr w' → w'.cell? ⟨w.heap.size + 1, 5, none⟩ = some (.int .i64 p.c3) := fun w' h => (Pr.out.below h).row.cell 5 rfl
      have x6 : ∀ w', Below wr.heap.size wr w' → w'.cell? ⟨w.heap.size + 1, 6, none⟩ = some (.int .i64 p.c4) := fun w' h => (Pr.out.below h).row.cell 6 rfl
      have x7 : ∀ w', Below wr.heap.size wr w' → w'.cell? ⟨w.heap.size + 1, 7, none⟩ = some (.int .i64 p.c5) := fun w' h => (Pr.out.below h).row.cell 7 rfl
      have x8 : ∀ w', Below wr.heap.size wr w' → w'.cell? ⟨w.heap.size + 1, 8, none⟩ = some (.int .i64 p.c6) := fun w' h => (Pr.out.below h).row.cell 8 rfl
      have x9 : ∀ w', Below wr.heap.size wr w' → w'.cell? ⟨w.heap.size + 1, 9, none⟩ = some (.int .i64 p.c7) := fun w' h => (Pr.out.below h).row.cell 9 rfl
      have x10 : ∀ w', Below wr.heap.size wr w' → w'.cell? ⟨w.heap.size + 1, 10, none⟩ = some (.int .i64 p.c8) := fun w' h => (Pr.out.below h).row.cell 10 rfl
      have x11 : ∀ w', Below wr.heap.size wr w' → w'.cell? ⟨w.heap.size + 1, 11, none⟩ = some (.int .i64 p.c9) := fun w' h => (Pr.out.below h).row.cell 11 rfl
      have x12 : ∀ w', Below wr.heap.size wr w' → w'.cell? ⟨w.heap.size + 1, 12, none⟩ = some (.int .i64 p.c10) := fun w' h => (Pr.out.below h).row.cell 12 rfl
      have y0 : ∀ w', Below wr.heap.size wr w' → w'.cell? ⟨w.heap.size + 1 + 1, 0, none⟩ = some (.int .i64 g.g) := fun w' h => (Gr.out.below h).row.cell 0 rfl
      have y1 : ∀ w', Below wr.heap.size wr w' → w'.cell? ⟨w.heap.size + 1 + 1, 1, none⟩ = some (.bool g.b0) := fun w' h => (Gr.out.below h).row.cell 1 rfl
      have y2 : ∀ w', Below wr.heap.size wr w' → w'.cell? ⟨w.heap.size + 1 + 1, 2, none⟩ = some (.bool g.b1) := fun w' h => (Gr.out.below h).row.cell 2 rfl
      have y3 : ∀ w', Below wr.heap.size wr w' → w'.cell? ⟨w.heap.size + 1 + 1, 3, none⟩ = some (.bool g.b2) := fun w' h => (Gr.out.below h).row.cell 3 rfl
      have y4 : ∀ w', Below wr.heap.size wr w' → w'.cell? ⟨w.heap.size + 1 + 1, 4, none⟩ = some (.bool g.b3) := fun w' h => (Gr.out.below h).row.cell 4 rfl
      have y5 : ∀ w', Below wr.heap.size wr w' → w'.cell? ⟨w.heap.size + 1 + 1, 5, none⟩ = some (.bool g.b4) := fun w' h => (Gr.out.below h).row.cell 5 rfl
      have y6 : ∀ w', Below wr.heap.size wr w' → w'.cell? ⟨w.heap.size + 1 + 1, 6, none⟩ = some (.bool g.b5) := fun w' h => (Gr.out.below h).row.cell 6 rfl
      have y7 : ∀ w', Below wr.heap.size wr w' → w'.cell? ⟨w.heap.size + 1 + 1, 7, none⟩ = some (.bool g.b6) := fun w' h => (Gr.out.below h).row.cell 7 rfl
      have y8 : ∀ w', Below wr.heap.size wr w' → w'.cell? ⟨w.heap.size + 1 + 1, 8, none⟩ = some (.bool g.b7) := fun w' h => (Gr.out.below h).row.cell 8 rfl
      have y9 : ∀ w', Below wr.heap.size wr w' → w'.cell? ⟨w.heap.size + 1 + 1, 9, none⟩ = some (.bool g.b8) := fun w' h => (Gr.out.below h).row.cell 9 rfl
      have y10 : ∀ w', Below wr.heap.size wr w' → w'.cell? ⟨w.heap.size + 1 + 1, 10, none⟩ = some (.bool g.b9) := fun w' h => (Gr.out.below h).row.cell 10 rfl
      have y11 : ∀ w', Below wr.heap.size wr w' → w'.cell? ⟨w.heap.size + 1 + 1, 11, none⟩ = some (gv) := fun w' h => (Gr.out.below h).row.cell 11 rfl
      have z0 : ∀ w', Below wr.heap.size wr w' → w'.cell? ⟨v1.heap.size, 0, none⟩ = some (.slice (some ⟨bl, ol, none⟩) a.cks.length cap1) := fun w' h => (Ar.out.below h).row.cell 0 rfl
      have hmem := List.mem_of_getElem? e1
      obtain ⟨f1, f2, f3, f4⟩ := HC.out HHE.out c hmem
      obtain ⟨N, hN⟩ : ∃ N, N = capN p c := ⟨_, rfl⟩
      have gN : ¬ N < c.expiry := by rw [hN]; omega
      have hok := HOK.out c hmem
      have KL : Hid (∀ w', Rows w' pv ruC p.rules → Calls Try.prog 14 #[.agg #[pv, .int .i64 p.dflt, .int .i64 p.c0, .int .i64 p.c1, .int .i64 p.c2, .int .i64 p.c3, .int .i64 p.c4, .int .i64 p.c5, .int .i64 p.c6, .int .i64 p.c7, .int .i64 p.c8, .int .i64 p.c9, .int .i64 p.c10], .agg #[.string (txt c.name), .string (txt c.value), .string (txt c.domain), .string (txt c.path), .bool c.hostOnly, .bool c.secure, .bool c.httpOnly, .bool c.lasting, .int .i64 c.site, .int .i64 c.expiry, .int .i64 c.created, .int .i64 c.used, .int .i64 c.no]] w' fun e w'' => e = .returned (.tuple #[.int .i64 N, .int .i64 0]) ∧ Below w'.heap.size w' w'') := fun w' h1 => by
        have k := latestOf_any p pv c w' h1 HOP.out hok.1 hok.2
        rw [← hN, f3] at k
        exact k
      have KT : Hid (∀ w', Rows w' pv ruC p.rules → Rows w' gv intF g.vs → Calls Try.prog 15 #[.agg #[pv, .int .i64 p.dflt, .int .i64 p.c0, .int .i64 p.c1, .int .i64 p.c2, .int .i64 p.c3, .int .i64 p.c4, .int .i64 p.c5, .int .i64 p.c6, .int .i64 p.c7, .int .i64 p.c8, .int .i64 p.c9, .int .i64 p.c10], .agg #[.int .i64 g.g, .bool g.b0, .bool g.b1, .bool g.b2, .bool g.b3, .bool g.b4, .bool g.b5, .bool g.b6, .bool g.b7, .bool g.b8, .bool g.b9, gv], .agg #[.string (txt c.name), .string (txt c.value), .string (txt c.domain), .string (txt c.path), .bool c.hostOnly, .bool c.secure, .bool c.httpOnly, .bool c.lasting, .int .i64 c.site, .int .i64 c.expiry, .int .i64 c.created, .int .i64 c.used, .int .i64 c.no]] w' fun e w'' => e = .returned (.bool true) ∧ Below w'.heap.size w' w'') := fun w' h1 h2 => by
        have k := lets_any p pv g gv c w' HOP.out h1 h2 HOG.out.max hok.1
        rw [f1] at k
        exact k
      have KV : Hid (∀ w', Calls Try.prog 16 #[.agg #[.string (txt c.name), .string (txt c.value), .string (txt c.domain), .string (txt c.path), .bool c.hostOnly, .bool c.secure, .bool c.httpOnly, .bool c.lasting, .int .i64 c.site, .int .i64 c.expiry, .int .i64 c.created, .int .i64 c.used, .int .i64 c.no], .int .i64 now] w' fun e w'' => e = .returned (.bool true) ∧ Below w'.heap.size w' w'') := fun w' => by
        have k := live_any c now w'
        rw [f2] at k
        exact k
      have q0 := z0 wr (Below.refl _ _)
      clear e1 hbl hcell hmem f1 f2 f3 f4 hN hok
      go_upto_region 12 with fail
      clear q0
      go_region_held3 (fun w' => Below wr.heap.size wr w') (first | with_reducible assumption | with_reducible exact (Below.refl _ wr).drew | with_reducible exact Below.refl _ wr | with_reducible exact Below.drew (by assumption) | fail)
        (first
        | (go_at_call 14
           refine (KL.out _ (Rows.below Pr.out.rows (by first | with_reducible assumption | exact (Below.refl _ wr).drew | exact Below.drew (by with_reducible assumption)) (Nat.le_refl _))).mono ?_
           rintro e w5 ⟨rfl, hb9⟩
           have hS5 : Below wr.heap.size wr w5 := Below.trans (by first | with_reducible assumption | exact (Below.refl _ wr).drew | exact Below.drew (by with_reducible assumption)) (hb9.mono (Below.size (by first | with_reducible assumption | exact (Below.refl _ wr).drew | exact Below.drew (by with_reducible assumption))))
           clear hb9)
        | fail)
      go_upto_region 13 with fail
      go_region_held3 (fun w' => Below wr.heap.size wr w') (first | with_reducible assumption | with_reducible exact (Below.refl _ wr).drew | with_reducible exact Below.refl _ wr | with_reducible exact Below.drew (by assumption) | fail)
        (first
        | (go_at_call 15
           refine (KT.out _ (Rows.below Pr.out.rows (by first | with_reducible assumption | exact (Below.refl _ wr).drew | exact Below.drew (by with_reducible assumption)) (Nat.le_refl _)) (Rows.below Gr.out.rows (by first | with_reducible assumption | exact (Below.refl _ wr).drew | exact Below.drew (by with_reducible assumption)) (Nat.le_refl _))).mono ?_
           rintro e w6 ⟨rfl, hb9⟩
           have hS6 : Below wr.heap.size wr w6 := Below.trans (by first | with_reducible assumption | exact (Below.refl _ wr).drew | exact Below.drew (by with_reducible assumption)) (hb9.mono (Below.size (by first | with_reducible assumption | exact (Below.refl _ wr).drew | exact Below.drew (by with_reducible assumption))))
           clear hb9)
        | (go_at_call 16
           refine (KV.out _).mono ?_
           rintro e w7 ⟨rfl, hb9⟩
           have hS7 : Below wr.heap.size wr w7 := Below.trans (by first | with_reducible assumption | exact (Below.refl _ wr).drew | exact Below.drew (by with_reducible assumption)) (hb9.mono (Below.size (by first | with_reducible assumption | exact (Below.refl _ wr).drew | exact Below.drew (by with_reducible assumption))))
           clear hb9)
        | fail)
      have HS7 : Hid _ := hS7
      clear hS5 hS6 hS7 KL KT KV z0 c0 x0 c1 x1 c2 x2 c3 x3 c4 x4 c5 x5 c6 x6 c7 x7 c8 x8 c9 x9 c10 x10 c11 x11 c12 x12 y0 y1 y2 y3 y4 y5 y6 y7 y8 y9 y10 y11
      go_wp2_with fail
      go_roundw
      case rel => exact ⟨k + 1, by omega, by go_num, next hb.out HS7.out⟩
      case measure => simp [intOf]; omega
    · have z0 := Ar.out.row.cell 0 rfl
      go_wp2_with fail
      go_ret
      exact ⟨rfl, Sr.out⟩
set_option maxRecDepth 100000 in
theorem lifted (os : Os) (started : os.Started) (H : Type) (enc : TypeId × Value → H) (F : Stop.Interp) :
    ReturnsInHanded {} Try.checked os 4 .any ((Rows.OpenSpec.upto Rows.purgeTwiceSpec).pre6 enc Try.prog Try.f4 Rows.purgeTwiceUptoRow.domain false) (((Rows.OpenSpec.upto Rows.purgeTwiceSpec).at F).post enc Try.prog Try.f4 false true false false) := by
  refine returnsInHanded_of_cond (C := Try.checked) (s := (Rows.OpenSpec.upto Rows.purgeTwiceSpec)) (k := Rows.uptoSmall) rfl own started (by kernel_rfl) Try.func4
    (OpenSpec.witness (enc := enc) (C := Try.checked) (s := (Rows.OpenSpec.upto Rows.purgeTwiceSpec)) (k := Rows.uptoSmall) rfl false ⟨#[], #[.agg #[.slice none 0 0, .int .i64 0], .agg #[.slice none 0 0, .int .i64 0, .int .i64 0, .int .i64 0, .int .i64 0, .int .i64 0, .int .i64 0, .int .i64 0, .int .i64 0, .int .i64 0, .int .i64 0, .int .i64 0, .int .i64 0], .agg #[.int .i64 0, .bool false, .bool false, .bool false, .bool false, .bool false, .bool false, .bool false, .bool false, .bool false, .bool false, .slice none 0 0], .int .i64 0], []⟩ 8 (by kernel_rfl) (by kernel_rfl) (by kernel_rfl)
      (x := ([.agg [.nil, .lit (.int .i64 0)], .agg [.nil, .lit (.int .i64 0), .agg [.lit (.int .i64 0), .lit (.int .i64 0), .lit (.int .i64 0), .lit (.int .i64 0), .lit (.int .i64 0), .lit (.int .i64 0), .lit (.int .i64 0), .lit (.int .i64 0), .lit (.int .i64 0), .lit (.int .i64 0), .lit (.int .i64 0)]], .agg [.lit (.int .i64 0), .agg [.lit (.bool false), .lit (.bool false), .lit (.bool false), .lit (.bool false), .lit (.bool false), .lit (.bool false), .lit (.bool false), .lit (.bool false), .lit (.bool false), .lit (.bool false)], .nil], .lit (.int .i64 0)], [], [])) (by kernel_rfl) rfl (by kernel_rfl)) ?_
  intro W base args ds gs before hval0 hW hcnd hk _
  have hval : ∀ (j : Nat) t v, Try.f4.params[j]? = some t → args[j]? = some v → Value.okWide Try.prog W .any base t v := hval0
  have hW' := hW
  obtain ⟨p, q, hA0, hV, rfl, hfz, hnd⟩ := hW
  have hA : DataW.TrodAll enc Try.prog W 0 (fun _ => true) true Try.f4.params.toList args.toList ds p := hA0
  rw [Try.params4] at hA hval
  obtain ⟨v0, vs0, d0, ds0, p0, q0, hargs, rfl, rfl, h0, r0⟩ := trodAll_cons hA
  obtain ⟨v1, vs1, d1, ds1, p1, q1, rfl, rfl, rfl, h1, r1⟩ := trodAll_cons r0
  obtain ⟨v2, vs2, d2, ds2, p2, q2, rfl, rfl, rfl, h2, r2⟩ := trodAll_cons r1
  obtain ⟨v3, vs3, d3, ds3, p3, q3, rfl, rfl, rfl, h3, r3⟩ := trodAll_cons r2
  obtain ⟨rfl, rfl, rfl⟩ := trodAll_nil r3
  obtain rfl : args = #[v0, v1, v2, v3] := by cases args; simp_all
  obtain ⟨rfl, rfl⟩ := trodVars_none hV
  have k0 := h0
  have lt0 : ∀ x ∈ p0, x.block < W.heap.size := by obtain ⟨m, hm⟩ := k0; exact DataW.trod_lt m _ _ _ hm
  have k1 := h1
  have lt1 : ∀ x ∈ p1, x.block < W.heap.size := by obtain ⟨m, hm⟩ := k1; exact DataW.trod_lt m _ _ _ hm
  have k2 := h2
  have lt2 : ∀ x ∈ p2, x.block < W.heap.size := by obtain ⟨m, hm⟩ := k2; exact DataW.trod_lt m _ _ _ hm
  have k3 := h3
  have lt3 : ∀ x ∈ p3, x.block < W.heap.size := by obtain ⟨m, hm⟩ := k3; exact DataW.trod_lt m _ _ _ hm
  obtain ⟨ja0, jv0, rfl, rd0, ok0, bk0⟩ := open_jar (hval 0 24 v0 rfl rfl) k0 maxLen (fits_max _)
  obtain ⟨po1, pv1, rfl, rd1, ok1, bk1⟩ := open_policy (hval 1 28 v1 rfl rfl) k1 maxLen (fits_max _)
  obtain ⟨c2, vv2, rfl, rd2, ok2, bk2⟩ := open_consent (hval 2 32 v2 rfl rfl) k2 maxLen (fits_max _)
  obtain ⟨x3, rfl, rfl, hp3, w3⟩ := open_int Try.underlying3 (hval 3 3 v3 rfl rfl) h3
  have b3 := i64_of w3
  have hbulk := bulk_of hk
  simp only [List.cons_append, List.nil_append, List.append_nil, Rows.uptoBulkAll] at hbulk
  have hbk0 := bk0
  have hbk1 := bk1
  have hbk2 := bk2
  clear hA0 hval0
  refine (walk ja0 jv0 po1 pv1 c2 vv2 x3 W rd0 ok0 rd1 ok1 rd2 ok2 b3 (by omega)).mono fun e W' ⟨he, bel⟩ => ?_
  subst he
  exact ⟨_, rfl, _, _, _, [], _, [], hW', trodAll_mk1 (shut_bool Try.underlying4 _), (trodAll_cons_mk (Below.trod laidOut (by kernel_rfl) (of_decide_eq_true (by kernel_rfl)) k0 bel lt0) (trodAll_cons_mk (Below.trod laidOut (by kernel_rfl) (of_decide_eq_true (by kernel_rfl)) k1 bel lt1) (trodAll_cons_mk (Below.trod laidOut (by kernel_rfl) (of_decide_eq_true (by kernel_rfl)) k2 bel lt2) (trodAll_cons_mk (Below.trod laidOut (by kernel_rfl) (of_decide_eq_true (by kernel_rfl)) k3 bel lt3) trodAll_mk0)))), rfl, bel.frame _, fun h => by cases h⟩

theorem proved : Rows.PurgeTwiceUptoSaid :=
  OpenClaim.holds_of_cond 4 Try.f4 rfl rfl rfl rfl rfl rfl rfl ⟨rfl, rfl, rfl, rfl, rfl⟩ rfl rfl rfl rfl rfl (by kernel_rfl) Try.func4 (by kernel_rfl)
    (of_decide_eq_true (by kernel_rfl)) (by unfold Func.isWrapper; first | (rw [if_pos (by decide +kernel)]; kernel_rfl) | (rw [if_neg (by decide +kernel)]; exact ⟨rfl, rfl⟩))
    (fun os started H enc _ F => lifted os started H enc F)
#print axioms proved
end Go.Proofs.Ytcfdajaideidkaa.purgeTwice
