/- How a jar that is handed in is read. No walk. What a bound on all that is handed in says of each text. No walk. What a bound on all that is handed in says of a jar; what all that is kept is. No walk. PurgeTells: for every jar, policy, consent, moment and cookie that a machine holds: Purge and Gate answer just what the document says, errors too. Condition: a bound on the size of all that is handed in. -/
import Derived.Test.YtcfdajaideidkaaOpenF
import Derived.Test.YtcfdajaideidkaaXB
import Derived.Test.YtcfdajaideidkaaOpenP
import Derived.Test.YtcfdajaideidkaaXC
import Derived.Test.YtcfdajaideidkaaXD
import Derived.Test.YtcfdajaideidkaaXJ
import Derived.Test.YtcfdajaideidkaaOpen
import Derived.Test.YtcfdajaideidkaaOpenG
import Derived.Test.YtcfdajaideidkaaRows
namespace Go.Proofs.Ytcfdajaideidkaa
open Go.ChangeShapes Go.WideShapes Go.ChangeAt Go.RowKit
set_option linter.all false
set_option maxRecDepth 100000
set_option maxRecDepth 100000

theorem opens_jcks : Opens Try.prog 22 (wList wCookie) :=
  opens_list Try.underlying22 (by kernel_rfl) (by decide) (of_decide_eq_true (by kernel_rfl)) opens_cookie
def wJa0 : Way (List Ck × Int) := wPair (wList wCookie) wInt
theorem opens_ja0 : Opens Try.prog 24 wJa0 :=
  opens_struct Try.underlying24 (by kernel_rfl) (opensF_cons rfl opens_jcks (opensF_one rfl (opens_int Try.underlying3 (by kernel_rfl))))
def jaBulk (j : Ja) : Nat := 1 + (j.cks.map wCookie.bulk).sum + 1
theorem open_jar {H : Type} {enc : TypeId × Value → H} {W : World} {base : Nat} {v : Value} {d : DataW H} {ps : List MemPlace} (hv : Value.okWide Try.prog W .any base 24 v)
    (h : DataW.Trod enc Try.prog W 0 (fun _ => true) true 24 v d ps) (m : Nat) (hf : Fits m (DataW.weights Try.prog 24 d)) :
    ∃ (j : Ja) (jv : Value), v = .agg #[jv, .int .i64 j.next] ∧ Rows W jv ckC j.cks ∧ JaOk m j ∧ jaBulk j ≤ Rows.uptoBulk d := by
  obtain ⟨⟨l, n⟩, hl, hb⟩ := open_way opens_ja0 h
  have hl := hl m hf
  have e := struct_cells Try.underlying24 hv
  obtain ⟨x, y, he, hx1, hx, hn, hn2⟩ := hl
  have hx0 := hx
  obtain ⟨ad, cap, hys, hlen, _⟩ := hx
  simp only at hn hn2 hys hlen hx0 he hb
  refine ⟨⟨l, n⟩, .slice ad l.length cap, ?_, ?_, ⟨hlen, ?_, hn2⟩, hb⟩
  · rw [e, he, hys, hn]; rfl
  · rw [hys] at hx0
    exact rows_of wCookie_is (fun _ => rfl) hx0
  · intro c hc
    rw [hys] at hx0
    obtain ⟨ds, hd⟩ := list_all hx0 c hc
    exact wCookie_ok _ _ _ _ hd
end Go.Proofs.Ytcfdajaideidkaa
namespace Go.Proofs.Ytcfdajaideidkaa
open Go.ChangeShapes Go.WideShapes Go.ChangeAt Go.RowKit
set_option linter.all false
set_option maxRecDepth 100000
/-- what is bounded in all is bounded in each -/
theorem sum_mem (l : List Nat) (x : Nat) (h : x ∈ l) : x ≤ l.sum := by
  induction l with
  | nil => simp at h
  | cons a l ih =>
    rw [List.sum_cons]
    rcases List.mem_cons.1 h with rfl | h
    · omega
    · have := ih h; omega
theorem sum_len (f : Ru → Nat) (l : List Ru) (h : ∀ r, 1 ≤ f r) : l.length ≤ (l.map f).sum := by
  induction l with
  | nil => simp
  | cons a l ih => rw [List.map_cons, List.sum_cons, List.length_cons]; have := h a; omega
theorem po_small {p : Po} (h : PoOk maxLen p) (hk : poBulk p ≤ 1099511627776) : PoOk 140737488351232 p := by
  have h1 : (p.rules.map ruBulk).sum ≤ 1099511627776 := by unfold poBulk at hk; omega
  refine ⟨?_, fun r hr => ?_, h.dflt, h.caps⟩
  · have := sum_len ruBulk p.rules (fun r => by unfold ruBulk; omega); omega
  · have h2 := sum_mem (p.rules.map ruBulk) (ruBulk r) (List.mem_map.2 ⟨r, hr, rfl⟩)
    have h3 := h.rules r hr
    have h4 : ruBulk r ≤ 1099511627776 := Nat.le_trans h2 h1
    unfold ruBulk at h4
    exact ⟨by omega, h3.kind, h3.purpose, h3.vendor⟩
theorem ck_small {c : Ck} (h : CkOk maxLen c) (hk : wCookie.bulk c ≤ 1099511627776) : CkOk 140737488351232 c ∧ (c.domain.length + 1) * 16 ≤ 140737488355328 := by
  have e2 : wCookie.bulk c = (c.name.length + 1) + ((c.value.length + 1) + ((c.domain.length + 1) + ((c.path.length + 1) + (1 + (1 + (1 + (1 + (1 + (1 + (1 + (1 + 1))))))))))) := rfl
  exact ⟨⟨by omega, by omega, by omega, by omega, h.site, h.expiry, h.created, h.used, h.no⟩, by omega⟩
theorem ru_small {r : Ru} (h : RuOk maxLen r) (hk : ruBulk r ≤ 1099511627776) : RuOk 140737488351232 r := by
  have hk' := hk
  unfold ruBulk at hk'
  exact ⟨by omega, h.kind, h.purpose, h.vendor⟩
end Go.Proofs.Ytcfdajaideidkaa
namespace Go.Proofs.Ytcfdajaideidkaa
open Go.ChangeShapes Go.WideShapes Go.ChangeAt Go.RowKit
set_option linter.all false
set_option maxRecDepth 100000

theorem len_sum (l : List Int) : l.length = (l.map fun _ => 1).sum := by
  induction l with
  | nil => rfl
  | cons a l ih => rw [List.map_cons, List.sum_cons, List.length_cons]; omega
theorem sum_len2 {α : Type} (f : α → Nat) (l : List α) (h : ∀ r, 1 ≤ f r) : l.length ≤ (l.map f).sum := by
  induction l with
  | nil => simp
  | cons a l ih => rw [List.map_cons, List.sum_cons, List.length_cons]; have := h a; omega
theorem ck_bulk1 (c : Ck) : 1 ≤ wCookie.bulk c := by
  have e2 : wCookie.bulk c = (c.name.length + 1) + ((c.value.length + 1) + ((c.domain.length + 1) + ((c.path.length + 1) + (1 + (1 + (1 + (1 + (1 + (1 + (1 + (1 + 1))))))))))) := rfl
  omega
theorem ja_small {j : Ja} (h : JaOk maxLen j) (hk : jaBulk j ≤ 1099511627776) : JaOk 140737488351232 j ∧ ∀ c ∈ j.cks, (c.domain.length + 1) * 16 ≤ 140737488355328 := by
  have h1 : (j.cks.map wCookie.bulk).sum ≤ 1099511627776 := by unfold jaBulk at hk; omega
  have each : ∀ c ∈ j.cks, CkOk 140737488351232 c ∧ (c.domain.length + 1) * 16 ≤ 140737488355328 := fun c hc => by
    have h2 := sum_mem (j.cks.map wCookie.bulk) (wCookie.bulk c) (List.mem_map.2 ⟨c, hc, rfl⟩)
    exact ck_small (h.cks c hc) (by omega)
  refine ⟨⟨?_, fun c hc => (each c hc).1, h.next⟩, fun c hc => (each c hc).2⟩
  have := sum_len2 wCookie.bulk j.cks ck_bulk1
  omega
theorem pu_twice {j : Ja} {p : Po} {g : Cn} {now : Int} (h : chPu j p g now = 0) :
    chPu (purJ j p g now) p g now = 0 ∧ purN (purJ j p g now) p g now = 0 ∧ purJ j p g now = purJ (purJ j p g now) p g now ∧ chJ (purJ j p g now) = 0 ∧ purN j p g now = (j.cks.length : Int) - ((purJ j p g now).cks.length : Int) := by
  obtain ⟨j1, p1, g1, n1⟩ := (chPu_zero _ _ _ _).1 h
  have hm := moms j1
  have a1 := keepL_jar h
  have e := keepL_same (now := now) hm p1 g1
  have e1 : chPu (purJ j p g now) p g now = 0 := by rw [purJ_yes h]; exact (chPu_zero _ _ _ _).2 ⟨a1, p1, g1, n1⟩
  refine ⟨e1, ?_, ?_, ?_, ?_⟩
  · unfold purN
    rw [if_pos e1, purJ_yes h]
    show ((keepL p g now j.cks).length : Int) - ((keepL p g now (keepL p g now j.cks)).length : Int) = 0
    rw [e]; omega
  · rw [purJ_yes e1, purJ_yes h]
    show (⟨keepL p g now j.cks, j.next⟩ : Ja) = ⟨keepL p g now (keepL p g now j.cks), j.next⟩
    rw [e]
  · rw [purJ_yes h]; exact a1
  · unfold purN
    rw [if_pos h, purJ_yes h]
theorem pu_each {j : Ja} {p : Po} {g : Cn} {now : Int} (h : chPu j p g now = 0) : ∀ c ∈ (purJ j p g now).cks, letsP p g c = true ∧ liveB c now = true ∧ capE p c = 0 ∧ c.expiry ≤ capN p c := fun d hd => by
  obtain ⟨j1, p1, g1, n1⟩ := (chPu_zero _ _ _ _).1 h
  rw [purJ_yes h] at hd
  obtain ⟨c, hc, rfl, h1, h2⟩ := keepL_in (moms j1) p1 g1 hd
  refine ⟨h1, ?_, capE_zero p1 (show momB (cut p c).created = true from moms j1 c hc), ?_⟩
  · unfold liveB; exact decide_eq_true (show now < min c.expiry (capN p c) from h2)
  · show min c.expiry (capN p c) ≤ capN p c
    omega
theorem pu_dom {j : Ja} {p : Po} {g : Cn} {now : Int} (h : ∀ c ∈ j.cks, (c.domain.length + 1) * 16 ≤ 140737488355328) : ∀ d ∈ (purJ j p g now).cks, (d.domain.length + 1) * 16 ≤ 140737488355328 := fun d hd => by
  unfold purJ at hd
  split at hd
  · obtain ⟨c, hc, hcd⟩ := List.mem_filterMap.1 hd
    unfold keep1 at hcd
    split at hcd
    · rename_i h1
      injection hcd with hcd
      rw [← hcd]
      unfold gateC
      rw [if_pos h1.1]
      unfold clampC
      split
      · exact h c hc
      · decide
    · cases hcd
  · exact absurd hd (by simp)
end Go.Proofs.Ytcfdajaideidkaa
namespace Go.Proofs.Ytcfdajaideidkaa.purgeTells
open Go.ChangeShapes Go.WideShapes Go.ChangeAt Go.RowKit
open Go.ChangeMaps (open_string shut_string)
set_option linter.all false
set_option maxRecDepth 100000
set_option maxRecDepth 100000

set_option maxHeartbeats 16000000 in
theorem walk (j : Ja) (jv : Value) (p : Po) (pv : Value) (g : Cn) (gv : Value) (now : Int) (c : Ck) (w : World) (rj : Rows w jv ckC j.cks) (oj0 : JaOk maxLen j) (rp : Rows w pv ruC p.rules) (op0 : PoOk maxLen p) (rg : Rows w gv intF g.vs) (og : g.vs.length ≤ maxLen ∧ inR g.vs ∧ (-9223372036854775808 ≤ g.g ∧ g.g ≤ 9223372036854775807)) (on : -9223372036854775808 ≤ now ∧ now ≤ 9223372036854775807) (oc0 : CkOk maxLen c)
    (hk : jaBulk j + poBulk p + (1 + (g.vs.map fun _ => 1).sum) + wCookie.bulk c ≤ 1099511627776) :
    Calls Try.prog 3 #[.agg #[jv, .int .i64 j.next], .agg #[pv, .int .i64 p.dflt, .int .i64 p.c0, .int .i64 p.c1, .int .i64 p.c2, .int .i64 p.c3, .int .i64 p.c4, .int .i64 p.c5, .int .i64 p.c6, .int .i64 p.c7, .int .i64 p.c8, .int .i64 p.c9, .int .i64 p.c10], .agg #[.int .i64 g.g, .bool g.b0, .bool g.b1, .bool g.b2, .bool g.b3, .bool g.b4, .bool g.b5, .bool g.b6, .bool g.b7, .bool g.b8, .bool g.b9, gv], .int .i64 now, .agg (ckC c).toArray] w fun e w' => e = .returned (.bool true) ∧ Below w.heap.size w w' := by
  have op : PoOk 140737488351232 p := po_small op0 (by omega)
  have oj : JaOk 140737488351232 j := (ja_small oj0 (by omega)).1
  have ojd := (ja_small oj0 (by omega)).2
  have oc : CkOk 140737488351232 c := (ck_small oc0 (by omega)).1
  have od := (ck_small oc0 (by omega)).2
  have okg : CnOk g := ⟨by have := len_sum g.vs; omega, og.2.1⟩
  obtain ⟨adj, capj, rfl⟩ := rj.shape
  obtain ⟨a, ha⟩ : ∃ qq, qq = purJ j p g now := ⟨_, rfl⟩
  obtain ⟨E, hE⟩ : ∃ qq, qq = chPu j p g now := ⟨_, rfl⟩
  obtain ⟨n1, hn1⟩ : ∃ qq, qq = purN j p g now := ⟨_, rfl⟩
  obtain ⟨d, hd⟩ : ∃ qq, qq = gateC p g c := ⟨_, rfl⟩
  obtain ⟨f, hf⟩ : ∃ qq, qq = gateE p g c := ⟨_, rfl⟩
  have oka : JaOk 140737488351232 a := by rw [ha]; exact purJ_ok oj
  have K1 : Hid (∀ w' vj vp vg, Rows w' vj ckC j.cks → Rows w' vp ruC p.rules → Rows w' vg intF g.vs → Calls Try.prog 7 #[.agg #[vj, .int .i64 j.next], .agg #[vp, .int .i64 p.dflt, .int .i64 p.c0, .int .i64 p.c1, .int .i64 p.c2, .int .i64 p.c3, .int .i64 p.c4, .int .i64 p.c5, .int .i64 p.c6, .int .i64 p.c7, .int .i64 p.c8, .int .i64 p.c9, .int .i64 p.c10], .agg #[.int .i64 g.g, .bool g.b0, .bool g.b1, .bool g.b2, .bool g.b3, .bool g.b4, .bool g.b5, .bool g.b6, .bool g.b7, .bool g.b8, .bool g.b9, vg], .int .i64 now] w' fun e w'' => ∃ s, e = .returned (.tuple #[.agg #[s, .int .i64 a.next], .int .i64 n1, .int .i64 E]) ∧ Rows w'' s ckC a.cks ∧ Below w'.heap.size w' w'') := fun w' vj vp vg h1 h2 h3 => by
    rw [ha, hn1, hE]
    exact (purge_any j vj p vp g vg now w' h1 oj h2 op h3 okg).mono fun e w'' ⟨s, e1, e2, e3⟩ => ⟨s, e1, Reads.of_own e2, e3⟩
  have K2 : Hid (∀ w' vj vp vg, Rows w' vj ckC j.cks → Rows w' vp ruC p.rules → Rows w' vg intF g.vs → Calls Try.prog 9 #[.agg #[vj, .int .i64 j.next], .agg #[vp, .int .i64 p.dflt, .int .i64 p.c0, .int .i64 p.c1, .int .i64 p.c2, .int .i64 p.c3, .int .i64 p.c4, .int .i64 p.c5, .int .i64 p.c6, .int .i64 p.c7, .int .i64 p.c8, .int .i64 p.c9, .int .i64 p.c10], .agg #[.int .i64 g.g, .bool g.b0, .bool g.b1, .bool g.b2, .bool g.b3, .bool g.b4, .bool g.b5, .bool g.b6, .bool g.b7, .bool g.b8, .bool g.b9, vg], .int .i64 now] w' fun e w'' => ∃ s, e = .returned (.tuple #[.agg #[s, .int .i64 a.next], .int .i64 n1, .int .i64 E]) ∧ Rows w'' s ckC a.cks ∧ Below w'.heap.size w' w'') := fun w' vj vp vg h1 h2 h3 => by
    rw [ha, hn1, hE]
    exact (purgeOf_any j vj p vp g vg now w' h1 oj ojd h2 op h3 okg).mono fun e w'' ⟨s, e1, e2, e3⟩ => ⟨s, e1, Reads.of_own e2, e3⟩
  have KG : Hid (∀ w', Rows w' pv ruC p.rules → Rows w' gv intF g.vs → Calls Try.prog 8 #[.agg #[pv, .int .i64 p.dflt, .int .i64 p.c0, .int .i64 p.c1, .int .i64 p.c2, .int .i64 p.c3, .int .i64 p.c4, .int .i64 p.c5, .int .i64 p.c6, .int .i64 p.c7, .int .i64 p.c8, .int .i64 p.c9, .int .i64 p.c10], .agg #[.int .i64 g.g, .bool g.b0, .bool g.b1, .bool g.b2, .bool g.b3, .bool g.b4, .bool g.b5, .bool g.b6, .bool g.b7, .bool g.b8, .bool g.b9, gv], .agg #[.string (txt c.name), .string (txt c.value), .string (txt c.domain), .string (txt c.path), .bool c.hostOnly, .bool c.secure, .bool c.httpOnly, .bool c.lasting, .int .i64 c.site, .int .i64 c.expiry, .int .i64 c.created, .int .i64 c.used, .int .i64 c.no]] w' fun e w'' => e = .returned (.tuple #[.agg #[.string (txt d.name), .string (txt d.value), .string (txt d.domain), .string (txt d.path), .bool d.hostOnly, .bool d.secure, .bool d.httpOnly, .bool d.lasting, .int .i64 d.site, .int .i64 d.expiry, .int .i64 d.created, .int .i64 d.used, .int .i64 d.no], .int .i64 f]) ∧ Below w'.heap.size w' w'') := fun w' r1 r2 => by rw [hd, hf]; exact gate_any p pv g gv c w' r1 op r2 okg oc
  have KH : Hid (∀ w', Rows w' pv ruC p.rules → Rows w' gv intF g.vs → Calls Try.prog 10 #[.agg #[pv, .int .i64 p.dflt, .int .i64 p.c0, .int .i64 p.c1, .int .i64 p.c2, .int .i64 p.c3, .int .i64 p.c4, .int .i64 p.c5, .int .i64 p.c6, .int .i64 p.c7, .int .i64 p.c8, .int .i64 p.c9, .int .i64 p.c10], .agg #[.int .i64 g.g, .bool g.b0, .bool g.b1, .bool g.b2, .bool g.b3, .bool g.b4, .bool g.b5, .bool g.b6, .bool g.b7, .bool g.b8, .bool g.b9, gv], .agg #[.string (txt c.name), .string (txt c.value), .string (txt c.domain), .string (txt c.path), .bool c.hostOnly, .bool c.secure, .bool c.httpOnly, .bool c.lasting, .int .i64 c.site, .int .i64 c.expiry, .int .i64 c.created, .int .i64 c.used, .int .i64 c.no]] w' fun e w'' => e = .returned (.tuple #[.agg #[.string (txt d.name), .string (txt d.value), .string (txt d.domain), .string (txt d.path), .bool d.hostOnly, .bool d.secure, .bool d.httpOnly, .bool d.lasting, .int .i64 d.site, .int .i64 d.expiry, .int .i64 d.created, .int .i64 d.used, .int .i64 d.no], .int .i64 f]) ∧ Below w'.heap.size w' w'') := fun w' r1 r2 => by rw [hd, hf]; exact gateOf_any p pv g gv c w' r1 op r2 okg oc od
  have KS : Hid (∀ w' va vb, Rows w' va ckC a.cks → Rows w' vb ckC a.cks → Calls Try.prog 12 #[.agg #[va, .int .i64 a.next], .agg #[vb, .int .i64 a.next]] w' fun e w'' => e = .returned (.bool true) ∧ Below w'.heap.size w' w'') := fun w' va vb h1 h2 => by
    have k := sameJar_any va vb a a w' h1 h2 oka.max oka.max
    rw [(eqJ_iff _ _).2 rfl] at k
    exact k
  have qd : ∀ w : World, (Op.equalIn 10000 34 (.agg #[.string (txt d.name), .string (txt d.value), .string (txt d.domain), .string (txt d.path), .bool d.hostOnly, .bool d.secure, .bool d.httpOnly, .bool d.lasting, .int .i64 d.site, .int .i64 d.expiry, .int .i64 d.created, .int .i64 d.used, .int .i64 d.no]) (.agg #[.string (txt d.name), .string (txt d.value), .string (txt d.domain), .string (txt d.path), .bool d.hostOnly, .bool d.secure, .bool d.httpOnly, .bool d.lasting, .int .i64 d.site, .int .i64 d.expiry, .int .i64 d.created, .int .i64 d.used, .int .i64 d.no])).run Try.prog w = .ok true w := fun w => by
    have k := ck_eqIn d d w
    rw [(eqC_iff d d).2 rfl] at k
    exact k
  have qn : (n1 == n1) = true := by simp
  have qE : (E == E) = true := by simp
  have qf : (f == f) = true := by simp
  simp only [ckC]
  obtain ⟨W0, hW0⟩ : ∃ W0, W0 = ((((w.alloc (.cells #[(.slice adj j.cks.length capj), .int .i64 j.next] 24)).alloc (.cells #[pv, .int .i64 p.dflt, .int .i64 p.c0, .int .i64 p.c1, .int .i64 p.c2, .int .i64 p.c3, .int .i64 p.c4, .int .i64 p.c5, .int .i64 p.c6, .int .i64 p.c7, .int .i64 p.c8, .int .i64 p.c9, .int .i64 p.c10] 28)).alloc (.cells #[.int .i64 g.g, .bool g.b0, .bool g.b1, .bool g.b2, .bool g.b3, .bool g.b4, .bool g.b5, .bool g.b6, .bool g.b7, .bool g.b8, .bool g.b9, gv] 32)).alloc (.cells #[.string (txt c.name), .string (txt c.value), .string (txt c.domain), .string (txt c.path), .bool c.hostOnly, .bool c.secure, .bool c.httpOnly, .bool c.lasting, .int .i64 c.site, .int .i64 c.expiry, .int .i64 c.created, .int .i64 c.used, .int .i64 c.no] 34)) := ⟨_, rfl⟩
  have J : Hid (JB W0 w.heap.size j (.slice adj j.cks.length capj)) := by
    rw [hW0]
    have h := JB.new w j (.slice adj j.cks.length capj) 24 rj
    exact (((h.below (below_new _ _)).below (below_new _ _)).below (below_new _ _))
  have P : Hid (PB W0 (w.heap.size + 1) p pv) := by
    rw [hW0]
    have h := PB.new (w.alloc (.cells #[(.slice adj j.cks.length capj), .int .i64 j.next] 24)) p pv 28 (Rows.below rp (below_new _ _) (Nat.le_refl _))
    rw [show (w.alloc (.cells #[(.slice adj j.cks.length capj), .int .i64 j.next] 24)).heap.size = w.heap.size + 1 from by simp] at h
    exact ((h.below (below_new _ _)).below (below_new _ _))
  have G : Hid (CB W0 (w.heap.size + 1 + 1) g gv) := by
    rw [hW0]
    have h := CB.new ((w.alloc (.cells #[(.slice adj j.cks.length capj), .int .i64 j.next] 24)).alloc (.cells #[pv, .int .i64 p.dflt, .int .i64 p.c0, .int .i64 p.c1, .int .i64 p.c2, .int .i64 p.c3, .int .i64 p.c4, .int .i64 p.c5, .int .i64 p.c6, .int .i64 p.c7, .int .i64 p.c8, .int .i64 p.c9, .int .i64 p.c10] 28)) g gv 32 (Rows.below (Rows.below rg (below_new _ _) (Nat.le_refl _)) (below_new _ _) (Nat.le_refl _))
    rw [show ((w.alloc (.cells #[(.slice adj j.cks.length capj), .int .i64 j.next] 24)).alloc (.cells #[pv, .int .i64 p.dflt, .int .i64 p.c0, .int .i64 p.c1, .int .i64 p.c2, .int .i64 p.c3, .int .i64 p.c4, .int .i64 p.c5, .int .i64 p.c6, .int .i64 p.c7, .int .i64 p.c8, .int .i64 p.c9, .int .i64 p.c10] 28)).heap.size = w.heap.size + 1 + 1 from by simp] at h
    exact (h.below (below_new _ _))
  have C : Hid (KB W0 (w.heap.size + 1 + 1 + 1) c) := by
    rw [hW0]
    have h := KB.new (((w.alloc (.cells #[(.slice adj j.cks.length capj), .int .i64 j.next] 24)).alloc (.cells #[pv, .int .i64 p.dflt, .int .i64 p.c0, .int .i64 p.c1, .int .i64 p.c2, .int .i64 p.c3, .int .i64 p.c4, .int .i64 p.c5, .int .i64 p.c6, .int .i64 p.c7, .int .i64 p.c8, .int .i64 p.c9, .int .i64 p.c10] 28)).alloc (.cells #[.int .i64 g.g, .bool g.b0, .bool g.b1, .bool g.b2, .bool g.b3, .bool g.b4, .bool g.b5, .bool g.b6, .bool g.b7, .bool g.b8, .bool g.b9, gv] 32)) c 34
    rw [show (((w.alloc (.cells #[(.slice adj j.cks.length capj), .int .i64 j.next] 24)).alloc (.cells #[pv, .int .i64 p.dflt, .int .i64 p.c0, .int .i64 p.c1, .int .i64 p.c2, .int .i64 p.c3, .int .i64 p.c4, .int .i64 p.c5, .int .i64 p.c6, .int .i64 p.c7, .int .i64 p.c8, .int .i64 p.c9, .int .i64 p.c10] 28)).alloc (.cells #[.int .i64 g.g, .bool g.b0, .bool g.b1, .bool g.b2, .bool g.b3, .bool g.b4, .bool g.b5, .bool g.b6, .bool g.b7, .bool g.b8, .bool g.b9, gv] 32)).heap.size = w.heap.size + 1 + 1 + 1 from by simp] at h
    exact h
  have S : Hid (Below w.heap.size w W0) := by rw [hW0]; exact next (next (next (below_new _ _) (below_new _ _)) (below_new _ _)) (below_new _ _)
  have HW0 : Hid _ := hW0
  clear rj oj0 oj ojd rp op op0 rg og okg on oc oc0 od ha hE hn1 hd hf oka hk hW0 qn qE qf
  go_enter Try.func3, Try.ntmps3
  go_upto_region 1 with fail
  rw [← HW0.out]
  clear HW0
  have x0 := J.out.row.cell 0 rfl
  have x1 := J.out.row.cell 1 rfl
  have y0 := P.out.row.cell 0 rfl
  have y1 := P.out.row.cell 1 rfl
  have y2 := P.out.row.cell 2 rfl
  have y3 := P.out.row.cell 3 rfl
  have y4 := P.out.row.cell 4 rfl
  have y5 := P.out.row.cell 5 rfl
  have y6 := P.out.row.cell 6 rfl
  have y7 := P.out.row.cell 7 rfl
  have y8 := P.out.row.cell 8 rfl
  have y9 := P.out.row.cell 9 rfl
  have y10 := P.out.row.cell 10 rfl
  have y11 := P.out.row.cell 11 rfl
  have y12 := P.out.row.cell 12 rfl
  have z0 := G.out.row.cell 0 rfl
  have z1 := G.out.row.cell 1 rfl
  have z2 := G.out.row.cell 2 rfl
  have z3 := G.out.row.cell 3 rfl
  have z4 := G.out.row.cell 4 rfl
  have z5 := G.out.row.cell 5 rfl
  have z6 := G.out.row.cell 6 rfl
  have z7 := G.out.row.cell 7 rfl
  have z8 := G.out.row.cell 8 rfl
  have z9 := G.out.row.cell 9 rfl
  have z10 := G.out.row.cell 10 rfl
  have z11 := G.out.row.cell 11 rfl
  go_wp2_with fail
  refine (K1.out _ _ _ _ J.out.rows P.out.rows G.out.rows).mono ?_
  rintro e v1 ⟨s1, rfl, r1, hb1⟩
  obtain ⟨ad1, cap1, rfl⟩ := r1.shape
  clear x0 x1 y0 y1 y2 y3 y4 y5 y6 y7 y8 y9 y10 y11 y12 z0 z1 z2 z3 z4 z5 z6 z7 z8 z9 z10 z11
  obtain ⟨W1, hW1⟩ : ∃ W1, W1 = v1.alloc (.cells #[(.slice ad1 a.cks.length cap1), .int .i64 a.next] 24) := ⟨_, rfl⟩
  have hc1 : Below W0.heap.size W0 W1 := by rw [hW1]; exact next hb1 (below_new _ _)
  replace J : Hid (JB W1 w.heap.size j (.slice adj j.cks.length capj)) := J.out.below hc1
  replace P : Hid (PB W1 (w.heap.size + 1) p pv) := P.out.below hc1
  replace G : Hid (CB W1 (w.heap.size + 1 + 1) g gv) := G.out.below hc1
  replace C : Hid (KB W1 (w.heap.size + 1 + 1 + 1) c) := C.out.below hc1
  replace S : Hid (Below w.heap.size w W1) := next S.out hc1
  have A : Hid (JB W1 v1.heap.size a (.slice ad1 a.cks.length cap1)) := by rw [hW1]; exact JB.new v1 a (.slice ad1 a.cks.length cap1) 24 r1
  have HW1 : Hid _ := hW1
  clear hb1 hc1 hW1
  go_upto_region 2 with fail
  rw [← HW1.out]
  clear HW1
  have x0 := P.out.row.cell 0 rfl
  have x1 := P.out.row.cell 1 rfl
  have x2 := P.out.row.cell 2 rfl
  have x3 := P.out.row.cell 3 rfl
  have x4 := P.out.row.cell 4 rfl
  have x5 := P.out.row.cell 5 rfl
  have x6 := P.out.row.cell 6 rfl
  have x7 := P.out.row.cell 7 rfl
  have x8 := P.out.row.cell 8 rfl
  have x9 := P.out.row.cell 9 rfl
  have x10 := P.out.row.cell 10 rfl
  have x11 := P.out.row.cell 11 rfl
  have x12 := P.out.row.cell 12 rfl
  have y0 := G.out.row.cell 0 rfl
  have y1 := G.out.row.cell 1 rfl
  have y2 := G.out.row.cell 2 rfl
  have y3 := G.out.row.cell 3 rfl
  have y4 := G.out.row.cell 4 rfl
  have y5 := G.out.row.cell 5 rfl
  have y6 := G.out.row.cell 6 rfl
  have y7 := G.out.row.cell 7 rfl
  have y8 := G.out.row.cell 8 rfl
  have y9 := G.out.row.cell 9 rfl
  have y10 := G.out.row.cell 10 rfl
  have y11 := G.out.row.cell 11 rfl
  have z0 := C.out.row.cell 0 rfl
  have z1 := C.out.row.cell 1 rfl
  have z2 := C.out.row.cell 2 rfl
  have z3 := C.out.row.cell 3 rfl
  have z4 := C.out.row.cell 4 rfl
  have z5 := C.out.row.cell 5 rfl
  have z6 := C.out.row.cell 6 rfl
  have z7 := C.out.row.cell 7 rfl
  have z8 := C.out.row.cell 8 rfl
  have z9 := C.out.row.cell 9 rfl
  have z10 := C.out.row.cell 10 rfl
  have z11 := C.out.row.cell 11 rfl
  have z12 := C.out.row.cell 12 rfl
  go_wp2_with fail
  refine (KG.out _ P.out.rows G.out.rows).mono ?_
  rintro e v2 ⟨rfl, hb2⟩
  clear x0 x1 x2 x3 x4 x5 x6 x7 x8 x9 x10 x11 x12 y0 y1 y2 y3 y4 y5 y6 y7 y8 y9 y10 y11 z0 z1 z2 z3 z4 z5 z6 z7 z8 z9 z10 z11 z12
  obtain ⟨W2, hW2⟩ : ∃ W2, W2 = v2.alloc (.cells #[.string (txt d.name), .string (txt d.value), .string (txt d.domain), .string (txt d.path), .bool d.hostOnly, .bool d.secure, .bool d.httpOnly, .bool d.lasting, .int .i64 d.site, .int .i64 d.expiry, .int .i64 d.created, .int .i64 d.used, .int .i64 d.no] 34) := ⟨_, rfl⟩
  have hc2 : Below W1.heap.size W1 W2 := by rw [hW2]; exact next hb2 (below_new _ _)
  replace J : Hid (JB W2 w.heap.size j (.slice adj j.cks.length capj)) := J.out.below hc2
  replace P : Hid (PB W2 (w.heap.size + 1) p pv) := P.out.below hc2
  replace G : Hid (CB W2 (w.heap.size + 1 + 1) g gv) := G.out.below hc2
  replace C : Hid (KB W2 (w.heap.size + 1 + 1 + 1) c) := C.out.below hc2
  replace A : Hid (JB W2 v1.heap.size a (.slice ad1 a.cks.length cap1)) := A.out.below hc2
  replace S : Hid (Below w.heap.size w W2) := next S.out hc2
  have D : Hid (KB W2 v2.heap.size d) := by rw [hW2]; exact KB.new v2 d 34
  have HW2 : Hid _ := hW2
  clear hb2 hc2 hW2
  go_upto_region 3 with fail
  rw [← HW2.out]
  clear HW2
  have x0 := J.out.row.cell 0 rfl
  have x1 := J.out.row.cell 1 rfl
  have y0 := P.out.row.cell 0 rfl
  have y1 := P.out.row.cell 1 rfl
  have y2 := P.out.row.cell 2 rfl
  have y3 := P.out.row.cell 3 rfl
  have y4 := P.out.row.cell 4 rfl
  have y5 := P.out.row.cell 5 rfl
  have y6 := P.out.row.cell 6 rfl
  have y7 := P.out.row.cell 7 rfl
  have y8 := P.out.row.cell 8 rfl
  have y9 := P.out.row.cell 9 rfl
  have y10 := P.out.row.cell 10 rfl
  have y11 := P.out.row.cell 11 rfl
  have y12 := P.out.row.cell 12 rfl
  have z0 := G.out.row.cell 0 rfl
  have z1 := G.out.row.cell 1 rfl
  have z2 := G.out.row.cell 2 rfl
  have z3 := G.out.row.cell 3 rfl
  have z4 := G.out.row.cell 4 rfl
  have z5 := G.out.row.cell 5 rfl
  have z6 := G.out.row.cell 6 rfl
  have z7 := G.out.row.cell 7 rfl
  have z8 := G.out.row.cell 8 rfl
  have z9 := G.out.row.cell 9 rfl
  have z10 := G.out.row.cell 10 rfl
  have z11 := G.out.row.cell 11 rfl
  go_wp2_with fail
  refine (K2.out _ _ _ _ J.out.rows P.out.rows G.out.rows).mono ?_
  rintro e v3 ⟨s3, rfl, r3, hb3⟩
  obtain ⟨ad3, cap3, rfl⟩ := r3.shape
  clear x0 x1 y0 y1 y2 y3 y4 y5 y6 y7 y8 y9 y10 y11 y12 z0 z1 z2 z3 z4 z5 z6 z7 z8 z9 z10 z11
  obtain ⟨W3, hW3⟩ : ∃ W3, W3 = v3.alloc (.cells #[(.slice ad3 a.cks.length cap3), .int .i64 a.next] 24) := ⟨_, rfl⟩
  have hc3 : Below W2.heap.size W2 W3 := by rw [hW3]; exact next hb3 (below_new _ _)
  replace J : Hid (JB W3 w.heap.size j (.slice adj j.cks.length capj)) := J.out.below hc3
  replace P : Hid (PB W3 (w.heap.size + 1) p pv) := P.out.below hc3
  replace G : Hid (CB W3 (w.heap.size + 1 + 1) g gv) := G.out.below hc3
  replace C : Hid (KB W3 (w.heap.size + 1 + 1 + 1) c) := C.out.below hc3
  replace A : Hid (JB W3 v1.heap.size a (.slice ad1 a.cks.length cap1)) := A.out.below hc3
  replace D : Hid (KB W3 v2.heap.size d) := D.out.below hc3
  replace S : Hid (Below w.heap.size w W3) := next S.out hc3
  have B : Hid (JB W3 v3.heap.size a (.slice ad3 a.cks.length cap3)) := by rw [hW3]; exact JB.new v3 a (.slice ad3 a.cks.length cap3) 24 r3
  have HW3 : Hid _ := hW3
  clear hb3 hc3 hW3
  go_upto_region 4 with fail
  rw [← HW3.out]
  clear HW3
  have x0 := P.out.row.cell 0 rfl
  have x1 := P.out.row.cell 1 rfl
  have x2 := P.out.row.cell 2 rfl
  have x3 := P.out.row.cell 3 rfl
  have x4 := P.out.row.cell 4 rfl
  have x5 := P.out.row.cell 5 rfl
  have x6 := P.out.row.cell 6 rfl
  have x7 := P.out.row.cell 7 rfl
  have x8 := P.out.row.cell 8 rfl
  have x9 := P.out.row.cell 9 rfl
  have x10 := P.out.row.cell 10 rfl
  have x11 := P.out.row.cell 11 rfl
  have x12 := P.out.row.cell 12 rfl
  have y0 := G.out.row.cell 0 rfl
  have y1 := G.out.row.cell 1 rfl
  have y2 := G.out.row.cell 2 rfl
  have y3 := G.out.row.cell 3 rfl
  have y4 := G.out.row.cell 4 rfl
  have y5 := G.out.row.cell 5 rfl
  have y6 := G.out.row.cell 6 rfl
  have y7 := G.out.row.cell 7 rfl
  have y8 := G.out.row.cell 8 rfl
  have y9 := G.out.row.cell 9 rfl
  have y10 := G.out.row.cell 10 rfl
  have y11 := G.out.row.cell 11 rfl
  have z0 := C.out.row.cell 0 rfl
  have z1 := C.out.row.cell 1 rfl
  have z2 := C.out.row.cell 2 rfl
  have z3 := C.out.row.cell 3 rfl
  have z4 := C.out.row.cell 4 rfl
  have z5 := C.out.row.cell 5 rfl
  have z6 := C.out.row.cell 6 rfl
  have z7 := C.out.row.cell 7 rfl
  have z8 := C.out.row.cell 8 rfl
  have z9 := C.out.row.cell 9 rfl
  have z10 := C.out.row.cell 10 rfl
  have z11 := C.out.row.cell 11 rfl
  have z12 := C.out.row.cell 12 rfl
  go_wp2_with fail
  refine (KH.out _ P.out.rows G.out.rows).mono ?_
  rintro e v4 ⟨rfl, hb4⟩
  clear x0 x1 x2 x3 x4 x5 x6 x7 x8 x9 x10 x11 x12 y0 y1 y2 y3 y4 y5 y6 y7 y8 y9 y10 y11 z0 z1 z2 z3 z4 z5 z6 z7 z8 z9 z10 z11 z12
  obtain ⟨W4, hW4⟩ : ∃ W4, W4 = v4.alloc (.cells #[.string (txt d.name), .string (txt d.value), .string (txt d.domain), .string (txt d.path), .bool d.hostOnly, .bool d.secure, .bool d.httpOnly, .bool d.lasting, .int .i64 d.site, .int .i64 d.expiry, .int .i64 d.created, .int .i64 d.used, .int .i64 d.no] 34) := ⟨_, rfl⟩
  have hc4 : Below W3.heap.size W3 W4 := by rw [hW4]; exact next hb4 (below_new _ _)
  replace J : Hid (JB W4 w.heap.size j (.slice adj j.cks.length capj)) := J.out.below hc4
  replace P : Hid (PB W4 (w.heap.size + 1) p pv) := P.out.below hc4
  replace G : Hid (CB W4 (w.heap.size + 1 + 1) g gv) := G.out.below hc4
  replace C : Hid (KB W4 (w.heap.size + 1 + 1 + 1) c) := C.out.below hc4
  replace A : Hid (JB W4 v1.heap.size a (.slice ad1 a.cks.length cap1)) := A.out.below hc4
  replace D : Hid (KB W4 v2.heap.size d) := D.out.below hc4
  replace B : Hid (JB W4 v3.heap.size a (.slice ad3 a.cks.length cap3)) := B.out.below hc4
  replace S : Hid (Below w.heap.size w W4) := next S.out hc4
  have X : Hid (KB W4 v4.heap.size d) := by rw [hW4]; exact KB.new v4 d 34
  have HW4 : Hid _ := hW4
  clear hb4 hc4 hW4
  go_upto_region 5 with fail
  rw [← HW4.out]
  clear HW4
  go_wp2_with fail
  refine (purgeBegun_any _).mono ?_
  rintro e Wn5 ⟨rfl, hb5⟩
  replace J : Hid (JB Wn5 w.heap.size j (.slice adj j.cks.length capj)) := J.out.below hb5
  replace P : Hid (PB Wn5 (w.heap.size + 1) p pv) := P.out.below hb5
  replace G : Hid (CB Wn5 (w.heap.size + 1 + 1) g gv) := G.out.below hb5
  replace C : Hid (KB Wn5 (w.heap.size + 1 + 1 + 1) c) := C.out.below hb5
  replace A : Hid (JB Wn5 v1.heap.size a (.slice ad1 a.cks.length cap1)) := A.out.below hb5
  replace D : Hid (KB Wn5 v2.heap.size d) := D.out.below hb5
  replace B : Hid (JB Wn5 v3.heap.size a (.slice ad3 a.cks.length cap3)) := B.out.below hb5
  replace X : Hid (KB Wn5 v4.heap.size d) := X.out.below hb5
  replace S : Hid (Below w.heap.size w Wn5) := next S.out hb5
  clear hb5
  have x0 := A.out.row.cell 0 rfl
  have x1 := A.out.row.cell 1 rfl
  have y0 := B.out.row.cell 0 rfl
  have y1 := B.out.row.cell 1 rfl
  go_wp2_with fail
  refine (KS.out _ _ _ A.out.rows B.out.rows).mono ?_
  rintro e Wn6 ⟨rfl, hb6⟩
  clear x0 x1 y0 y1
  replace J : Hid (JB Wn6 w.heap.size j (.slice adj j.cks.length capj)) := J.out.below hb6
  replace P : Hid (PB Wn6 (w.heap.size + 1) p pv) := P.out.below hb6
  replace G : Hid (CB Wn6 (w.heap.size + 1 + 1) g gv) := G.out.below hb6
  replace C : Hid (KB Wn6 (w.heap.size + 1 + 1 + 1) c) := C.out.below hb6
  replace A : Hid (JB Wn6 v1.heap.size a (.slice ad1 a.cks.length cap1)) := A.out.below hb6
  replace D : Hid (KB Wn6 v2.heap.size d) := D.out.below hb6
  replace B : Hid (JB Wn6 v3.heap.size a (.slice ad3 a.cks.length cap3)) := B.out.below hb6
  replace X : Hid (KB Wn6 v4.heap.size d) := X.out.below hb6
  replace S : Hid (Below w.heap.size w Wn6) := next S.out hb6
  clear hb6
  have x0 := D.out.row.cell 0 rfl
  have x1 := D.out.row.cell 1 rfl
  have x2 := D.out.row.cell 2 rfl
  have x3 := D.out.row.cell 3 rfl
  have x4 := D.out.row.cell 4 rfl
  have x5 := D.out.row.cell 5 rfl
  have x6 := D.out.row.cell 6 rfl
  have x7 := D.out.row.cell 7 rfl
  have x8 := D.out.row.cell 8 rfl
  have x9 := D.out.row.cell 9 rfl
  have x10 := D.out.row.cell 10 rfl
  have x11 := D.out.row.cell 11 rfl
  have x12 := D.out.row.cell 12 rfl
  have y0 := X.out.row.cell 0 rfl
  have y1 := X.out.row.cell 1 rfl
  have y2 := X.out.row.cell 2 rfl
  have y3 := X.out.row.cell 3 rfl
  have y4 := X.out.row.cell 4 rfl
  have y5 := X.out.row.cell 5 rfl
  have y6 := X.out.row.cell 6 rfl
  have y7 := X.out.row.cell 7 rfl
  have y8 := X.out.row.cell 8 rfl
  have y9 := X.out.row.cell 9 rfl
  have y10 := X.out.row.cell 10 rfl
  have y11 := X.out.row.cell 11 rfl
  have y12 := X.out.row.cell 12 rfl
  go_wp2_with fail
  go_ret
  exact ⟨rfl, S.out⟩
set_option maxRecDepth 100000 in
theorem lifted (os : Os) (started : os.Started) (H : Type) (enc : TypeId × Value → H) (F : Stop.Interp) :
    ReturnsInHanded {} Try.checked os 3 .any ((Rows.OpenSpec.upto Rows.purgeTellsSpec).pre6 enc Try.prog Try.f3 Rows.purgeTellsUptoRow.domain false) (((Rows.OpenSpec.upto Rows.purgeTellsSpec).at F).post enc Try.prog Try.f3 false true false false) := by
  refine returnsInHanded_of_cond (C := Try.checked) (s := (Rows.OpenSpec.upto Rows.purgeTellsSpec)) (k := Rows.uptoSmall) rfl own started (by kernel_rfl) Try.func3
    (OpenSpec.witness (enc := enc) (C := Try.checked) (s := (Rows.OpenSpec.upto Rows.purgeTellsSpec)) (k := Rows.uptoSmall) rfl false ⟨#[], #[.agg #[.slice none 0 0, .int .i64 0], .agg #[.slice none 0 0, .int .i64 0, .int .i64 0, .int .i64 0, .int .i64 0, .int .i64 0, .int .i64 0, .int .i64 0, .int .i64 0, .int .i64 0, .int .i64 0, .int .i64 0, .int .i64 0], .agg #[.int .i64 0, .bool false, .bool false, .bool false, .bool false, .bool false, .bool false, .bool false, .bool false, .bool false, .bool false, .slice none 0 0], .int .i64 0, .agg #[.string ByteArray.empty, .string ByteArray.empty, .string ByteArray.empty, .string ByteArray.empty, .bool false, .bool false, .bool false, .bool false, .int .i64 0, .int .i64 0, .int .i64 0, .int .i64 0, .int .i64 0]], []⟩ 8 (by kernel_rfl) (by kernel_rfl) (by kernel_rfl)
      (x := ([.agg [.nil, .lit (.int .i64 0)], .agg [.nil, .lit (.int .i64 0), .agg [.lit (.int .i64 0), .lit (.int .i64 0), .lit (.int .i64 0), .lit (.int .i64 0), .lit (.int .i64 0), .lit (.int .i64 0), .lit (.int .i64 0), .lit (.int .i64 0), .lit (.int .i64 0), .lit (.int .i64 0), .lit (.int .i64 0)]], .agg [.lit (.int .i64 0), .agg [.lit (.bool false), .lit (.bool false), .lit (.bool false), .lit (.bool false), .lit (.bool false), .lit (.bool false), .lit (.bool false), .lit (.bool false), .lit (.bool false), .lit (.bool false)], .nil], .lit (.int .i64 0), .agg [.lit (.string []), .lit (.string []), .lit (.string []), .lit (.string []), .lit (.bool false), .lit (.bool false), .lit (.bool false), .lit (.bool false), .lit (.int .i64 0), .lit (.int .i64 0), .lit (.int .i64 0), .lit (.int .i64 0), .lit (.int .i64 0)]], [], [])) (by kernel_rfl) rfl (by kernel_rfl)) ?_
  intro W base args ds gs before hval0 hW hcnd hk _
  have hval : ∀ (j : Nat) t v, Try.f3.params[j]? = some t → args[j]? = some v → Value.okWide Try.prog W .any base t v := hval0
  have hW' := hW
  obtain ⟨p, q, hA0, hV, rfl, hfz, hnd⟩ := hW
  have hA : DataW.TrodAll enc Try.prog W 0 (fun _ => true) true Try.f3.params.toList args.toList ds p := hA0
  rw [Try.params3] at hA hval
  obtain ⟨v0, vs0, d0, ds0, p0, q0, hargs, rfl, rfl, h0, r0⟩ := trodAll_cons hA
  obtain ⟨v1, vs1, d1, ds1, p1, q1, rfl, rfl, rfl, h1, r1⟩ := trodAll_cons r0
  obtain ⟨v2, vs2, d2, ds2, p2, q2, rfl, rfl, rfl, h2, r2⟩ := trodAll_cons r1
  obtain ⟨v3, vs3, d3, ds3, p3, q3, rfl, rfl, rfl, h3, r3⟩ := trodAll_cons r2
  obtain ⟨v4, vs4, d4, ds4, p4, q4, rfl, rfl, rfl, h4, r4⟩ := trodAll_cons r3
  obtain ⟨rfl, rfl, rfl⟩ := trodAll_nil r4
  obtain rfl : args = #[v0, v1, v2, v3, v4] := by cases args; simp_all
  obtain ⟨rfl, rfl⟩ := trodVars_none hV
  have k0 := h0
  have lt0 : ∀ x ∈ p0, x.block < W.heap.size := by obtain ⟨m, hm⟩ := k0; exact DataW.trod_lt m _ _ _ hm
  have k1 := h1
  have lt1 : ∀ x ∈ p1, x.block < W.heap.size := by obtain ⟨m, hm⟩ := k1; exact DataW.trod_lt m _ _ _ hm
  have k2 := h2
  have lt2 : ∀ x ∈ p2, x.block < W.heap.size := by obtain ⟨m, hm⟩ := k2; exact DataW.trod_lt m _ _ _ hm
  have k3 := h3
  have lt3 : ∀ x ∈ p3, x.block < W.heap.size := by obtain ⟨m, hm⟩ := k3; exact DataW.trod_lt m _ _ _ hm
  have k4 := h4
  have lt4 : ∀ x ∈ p4, x.block < W.heap.size := by obtain ⟨m, hm⟩ := k4; exact DataW.trod_lt m _ _ _ hm
  obtain ⟨ja0, jv0, rfl, rd0, ok0, bk0⟩ := open_jar (hval 0 24 v0 rfl rfl) k0 maxLen (fits_max _)
  obtain ⟨po1, pv1, rfl, rd1, ok1, bk1⟩ := open_policy (hval 1 28 v1 rfl rfl) k1 maxLen (fits_max _)
  obtain ⟨c2, vv2, rfl, rd2, ok2, bk2⟩ := open_consent (hval 2 32 v2 rfl rfl) k2 maxLen (fits_max _)
  obtain ⟨x3, rfl, rfl, hp3, w3⟩ := open_int Try.underlying3 (hval 3 3 v3 rfl rfl) h3
  have b3 := i64_of w3
  obtain ⟨l4, rfl, ok4, bk4⟩ := open_cookie (hval 4 34 v4 rfl rfl) k4 maxLen (fits_max _)
  have hbulk := bulk_of hk
  simp only [List.cons_append, List.nil_append, List.append_nil, Rows.uptoBulkAll] at hbulk
  have hbk0 := bk0
  have hbk1 := bk1
  have hbk2 := bk2
  have hbk3 := bk4
  clear hA0 hval0
  refine (walk ja0 jv0 po1 pv1 c2 vv2 x3 l4 W rd0 ok0 rd1 ok1 rd2 ok2 b3 ok4 (by omega)).mono fun e W' ⟨he, bel⟩ => ?_
  subst he
  exact ⟨_, rfl, _, _, _, [], _, [], hW', trodAll_mk1 (shut_bool Try.underlying4 _), (trodAll_cons_mk (Below.trod laidOut (by kernel_rfl) (of_decide_eq_true (by kernel_rfl)) k0 bel lt0) (trodAll_cons_mk (Below.trod laidOut (by kernel_rfl) (of_decide_eq_true (by kernel_rfl)) k1 bel lt1) (trodAll_cons_mk (Below.trod laidOut (by kernel_rfl) (of_decide_eq_true (by kernel_rfl)) k2 bel lt2) (trodAll_cons_mk (Below.trod laidOut (by kernel_rfl) (of_decide_eq_true (by kernel_rfl)) k3 bel lt3) (trodAll_cons_mk (Below.trod laidOut (by kernel_rfl) (of_decide_eq_true (by kernel_rfl)) k4 bel lt4) trodAll_mk0))))), rfl, bel.frame _, fun h => by cases h⟩

theorem proved : Rows.PurgeTellsUptoSaid :=
  OpenClaim.holds_of_cond 3 Try.f3 rfl rfl rfl rfl rfl rfl rfl ⟨rfl, rfl, rfl, rfl, rfl⟩ rfl rfl rfl rfl rfl (by kernel_rfl) Try.func3 (by kernel_rfl)
    (of_decide_eq_true (by kernel_rfl)) (by unfold Func.isWrapper; first | (rw [if_pos (by decide +kernel)]; kernel_rfl) | (rw [if_neg (by decide +kernel)]; exact ⟨rfl, rfl⟩))
    (fun os started H enc _ F => lifted os started H enc F)
#print axioms proved
end Go.Proofs.Ytcfdajaideidkaa.purgeTells
