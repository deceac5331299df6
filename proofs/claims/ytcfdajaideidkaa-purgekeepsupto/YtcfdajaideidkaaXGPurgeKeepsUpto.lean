/- How a jar that is handed in is read. No walk. What a bound on all that is handed in says of each text. No walk. What a bound on all that is handed in says of a jar; what all that is kept is. No walk. Who stays in a jar that is purged. No walk. PurgeKeeps: for every jar, policy, all two consents, every moment and place that a machine holds: who is let and live stays, if its cap is not over; but for when it expires it is as it was; and by a consent that is below no more stay. Condition: a bound on the size of all that is handed in. -/
import Derived.Test.YtcfdajaideidkaaOpenF
import Derived.Test.YtcfdajaideidkaaXB
import Derived.Test.YtcfdajaideidkaaOpenP
import Derived.Test.YtcfdajaideidkaaXC
import Derived.Test.YtcfdajaideidkaaXD
import Derived.Test.YtcfdajaideidkaaXR
import Derived.Test.YtcfdajaideidkaaOpen
import Derived.Test.YtcfdajaideidkaaOpenG
import Derived.Test.YtcfdajaideidkaaRows
namespace Go.Proofs.Ytcfdajaideidkaa
open Go.ChangeShapes Go.WideShapes Go.ChangeAt Go.RowKit
set_option linter.all false
set_option maxRecDepth 100000
set_option maxRecDepth 100000

theorem opens_jcks : Opens Try.prog 22 (wList wCookie) :=
  opens_list Try.underlying22 (by kernel_rfl) (by decide) (of_decide_eq_true (by kernel_rfl)) opens_cookie
def wJa0 : Way (List Ck × Int) := wPair (wList wCookie) wInt
theorem opens_ja0 : Opens Try.prog 24 wJa0 :=
  opens_struct Try.underlying24 (by kernel_rfl) (opensF_cons rfl opens_jcks (opensF_one rfl (opens_int Try.underlying3 (by kernel_rfl))))
def jaBulk (j : Ja) : Nat := 1 + (j.cks.map wCookie.bulk).sum + 1
theorem open_jar {H : Type} {enc : TypeId × Value → H} {W : World} {base : Nat} {v : Value} {d : DataW H} {ps : List MemPlace} (hv : Value.okWide Try.prog W .any base 24 v)
    (h : DataW.Trod enc Try.prog W 0 (fun _ => true) true 24 v d ps) (m : Nat) (hf : Fits m (DataW.weights Try.prog 24 d)) :
    ∃ (j : Ja) (jv : Value), v = .agg #[jv, .int .i64 j.next] ∧ Rows W jv ckC j.cks ∧ JaOk m j ∧ jaBulk j ≤ Rows.uptoBulk d := by
  obtain ⟨⟨l, n⟩, hl, hb⟩ := open_way opens_ja0 h
  have hl := hl m hf
  have e := struct_cells Try.underlying24 hv
  obtain ⟨x, y, he, hx1, hx, hn, hn2⟩ := hl
  have hx0 := hx
  obtain ⟨ad, cap, hys, hlen, _⟩ := hx
  simp only at hn hn2 hys hlen hx0 he hb
  refine ⟨⟨l, n⟩, .slice ad l.length cap, ?_, ?_, ⟨hlen, ?_, hn2⟩, hb⟩
  · rw [e, he, hys, hn]; rfl
  · rw [hys] at hx0
    exact rows_of wCookie_is (fun _ => rfl) hx0
  · intro c hc
    rw [hys] at hx0
    obtain ⟨ds, hd⟩ := list_all hx0 c hc
    exact wCookie_ok _ _ _ _ hd
end Go.Proofs.Ytcfdajaideidkaa
namespace Go.Proofs.Ytcfdajaideidkaa
open Go.ChangeShapes Go.WideShapes Go.ChangeAt Go.RowKit
set_option linter.all false
set_option maxRecDepth 100000
/-- what is bounded in all is bounded in each -/
theorem sum_mem (l : List Nat) (x : Nat) (h : x ∈ l) : x ≤ l.sum := by
  induction l with
  | nil => simp at h
  | cons a l ih =>
    rw [List.sum_cons]
    rcases List.mem_cons.1 h with rfl | h
    · omega
    · have := ih h; omega
theorem sum_len (f : Ru → Nat) (l : List Ru) (h : ∀ r, 1 ≤ f r) : l.length ≤ (l.map f).sum := by
  induction l with
  | nil => simp
  | cons a l ih => rw [List.map_cons, List.sum_cons, List.length_cons]; have := h a; omega
theorem po_small {p : Po} (h : PoOk maxLen p) (hk : poBulk p ≤ 1099511627776) : PoOk 140737488351232 p := by
  have h1 : (p.rules.map ruBulk).sum ≤ 1099511627776 := by unfold poBulk at hk; omega
  refine ⟨?_, fun r hr => ?_, h.dflt, h.caps⟩
  · have := sum_len ruBulk p.rules (fun r => by unfold ruBulk; omega); omega
  · have h2 := sum_mem (p.rules.map ruBulk) (ruBulk r) (List.mem_map.2 ⟨r, hr, rfl⟩)
    have h3 := h.rules r hr
    have h4 : ruBulk r ≤ 1099511627776 := Nat.le_trans h2 h1
    unfold ruBulk at h4
    exact ⟨by omega, h3.kind, h3.purpose, h3.vendor⟩
theorem ck_small {c : Ck} (h : CkOk maxLen c) (hk : wCookie.bulk c ≤ 1099511627776) : CkOk 140737488351232 c ∧ (c.domain.length + 1) * 16 ≤ 140737488355328 := by
  have e2 : wCookie.bulk c = (c.name.length + 1) + ((c.value.length + 1) + ((c.domain.length + 1) + ((c.path.length + 1) + (1 + (1 + (1 + (1 + (1 + (1 + (1 + (1 + 1))))))))))) := rfl
  exact ⟨⟨by omega, by omega, by omega, by omega, h.site, h.expiry, h.created, h.used, h.no⟩, by omega⟩
theorem ru_small {r : Ru} (h : RuOk maxLen r) (hk : ruBulk r ≤ 1099511627776) : RuOk 140737488351232 r := by
  have hk' := hk
  unfold ruBulk at hk'
  exact ⟨by omega, h.kind, h.purpose, h.vendor⟩
end Go.Proofs.Ytcfdajaideidkaa
namespace Go.Proofs.Ytcfdajaideidkaa
open Go.ChangeShapes Go.WideShapes Go.ChangeAt Go.RowKit
set_option linter.all false
set_option maxRecDepth 100000

theorem len_sum (l : List Int) : l.length = (l.map fun _ => 1).sum := by
  induction l with
  | nil => rfl
  | cons a l ih => rw [List.map_cons, List.sum_cons, List.length_cons]; omega
theorem sum_len2 {α : Type} (f : α → Nat) (l : List α) (h : ∀ r, 1 ≤ f r) : l.length ≤ (l.map f).sum := by
  induction l with
  | nil => simp
  | cons a l ih => rw [List.map_cons, List.sum_cons, List.length_cons]; have := h a; omega
theorem ck_bulk1 (c : Ck) : 1 ≤ wCookie.bulk c := by
  have e2 : wCookie.bulk c = (c.name.length + 1) + ((c.value.length + 1) + ((c.domain.length + 1) + ((c.path.length + 1) + (1 + (1 + (1 + (1 + (1 + (1 + (1 + (1 + 1))))))))))) := rfl
  omega
theorem ja_small {j : Ja} (h : JaOk maxLen j) (hk : jaBulk j ≤ 1099511627776) : JaOk 140737488351232 j ∧ ∀ c ∈ j.cks, (c.domain.length + 1) * 16 ≤ 140737488355328 := by
  have h1 : (j.cks.map wCookie.bulk).sum ≤ 1099511627776 := by unfold jaBulk at hk; omega
  have each : ∀ c ∈ j.cks, CkOk 140737488351232 c ∧ (c.domain.length + 1) * 16 ≤ 140737488355328 := fun c hc => by
    have h2 := sum_mem (j.cks.map wCookie.bulk) (wCookie.bulk c) (List.mem_map.2 ⟨c, hc, rfl⟩)
    exact ck_small (h.cks c hc) (by omega)
  refine ⟨⟨?_, fun c hc => (each c hc).1, h.next⟩, fun c hc => (each c hc).2⟩
  have := sum_len2 wCookie.bulk j.cks ck_bulk1
  omega
theorem pu_twice {j : Ja} {p : Po} {g : Cn} {now : Int} (h : chPu j p g now = 0) :
    chPu (purJ j p g now) p g now = 0 ∧ purN (purJ j p g now) p g now = 0 ∧ purJ j p g now = purJ (purJ j p g now) p g now ∧ chJ (purJ j p g now) = 0 ∧ purN j p g now = (j.cks.length : Int) - ((purJ j p g now).cks.length : Int) := by
  obtain ⟨j1, p1, g1, n1⟩ := (chPu_zero _ _ _ _).1 h
  have hm := moms j1
  have a1 := keepL_jar h
  have e := keepL_same (now := now) hm p1 g1
  have e1 : chPu (purJ j p g now) p g now = 0 := by rw [purJ_yes h]; exact (chPu_zero _ _ _ _).2 ⟨a1, p1, g1, n1⟩
  refine ⟨e1, ?_, ?_, ?_, ?_⟩
  · unfold purN
    rw [if_pos e1, purJ_yes h]
    show ((keepL p g now j.cks).length : Int) - ((keepL p g now (keepL p g now j.cks)).length : Int) = 0
    rw [e]; omega
  · rw [purJ_yes e1, purJ_yes h]
    show (⟨keepL p g now j.cks, j.next⟩ : Ja) = ⟨keepL p g now (keepL p g now j.cks), j.next⟩
    rw [e]
  · rw [purJ_yes h]; exact a1
  · unfold purN
    rw [if_pos h, purJ_yes h]
theorem pu_each {j : Ja} {p : Po} {g : Cn} {now : Int} (h : chPu j p g now = 0) : ∀ c ∈ (purJ j p g now).cks, letsP p g c = true ∧ liveB c now = true ∧ capE p c = 0 ∧ c.expiry ≤ capN p c := fun d hd => by
  obtain ⟨j1, p1, g1, n1⟩ := (chPu_zero _ _ _ _).1 h
  rw [purJ_yes h] at hd
  obtain ⟨c, hc, rfl, h1, h2⟩ := keepL_in (moms j1) p1 g1 hd
  refine ⟨h1, ?_, capE_zero p1 (show momB (cut p c).created = true from moms j1 c hc), ?_⟩
  · unfold liveB; exact decide_eq_true (show now < min c.expiry (capN p c) from h2)
  · show min c.expiry (capN p c) ≤ capN p c
    omega
theorem pu_dom {j : Ja} {p : Po} {g : Cn} {now : Int} (h : ∀ c ∈ j.cks, (c.domain.length + 1) * 16 ≤ 140737488355328) : ∀ d ∈ (purJ j p g now).cks, (d.domain.length + 1) * 16 ≤ 140737488355328 := fun d hd => by
  unfold purJ at hd
  split at hd
  · obtain ⟨c, hc, hcd⟩ := List.mem_filterMap.1 hd
    unfold keep1 at hcd
    split at hcd
    · rename_i h1
      injection hcd with hcd
      rw [← hcd]
      unfold gateC
      rw [if_pos h1.1]
      unfold clampC
      split
      · exact h c hc
      · decide
    · cases hcd
  · exact absurd hd (by simp)
end Go.Proofs.Ytcfdajaideidkaa
namespace Go.Proofs.Ytcfdajaideidkaa
open Go.RowKit
set_option linter.all false
set_option maxRecDepth 100000

theorem findI_bd (l : List Ck) (c : Ck) : -1 ≤ findI l c ∧ findI l c < l.length := by
  unfold findI
  cases h : l.findIdx? (fun x => sameK x c) with
  | none => simp; omega
  | some i =>
    have := (List.findIdx?_eq_some_iff_getElem.1 h).1
    simp; omega
theorem findI_neg (l : List Ck) (c : Ck) : findI l c < 0 ↔ ∀ x ∈ l, sameK x c = false := by
  unfold findI
  cases h : l.findIdx? (fun x => sameK x c) with
  | none => rw [List.findIdx?_eq_none_iff] at h; exact ⟨fun _ => h, fun _ => by decide⟩
  | some i =>
    obtain ⟨h1, h2, _⟩ := List.findIdx?_eq_some_iff_getElem.1 h
    refine ⟨fun h => absurd h (by simp), fun hx => ?_⟩
    have := hx _ (List.getElem_mem h1)
    rw [this] at h2; cases h2
theorem findI_pos (l : List Ck) (c : Ck) (h : 0 ≤ findI l c) : ∃ x, l[(findI l c).toNat]? = some x ∧ sameK x c = true := by
  unfold findI at h ⊢
  cases hf : l.findIdx? (fun x => sameK x c) with
  | none => rw [hf] at h; exact absurd h (by decide)
  | some i =>
    obtain ⟨h1, h2, _⟩ := List.findIdx?_eq_some_iff_getElem.1 hf
    exact ⟨_, by simp [List.getElem?_eq_getElem h1], h2⟩
theorem sameK_trans {a b c : Ck} (h : sameK a b = true) (g : sameK b c = true) : sameK a c = true := by
  rw [sameK_iff] at h g ⊢
  exact ⟨h.1.trans g.1, h.2.1.trans g.2.1, h.2.2.trans g.2.2⟩
/-- of one key there is one cookie -/
theorem key_one {nx : Int} {l : List Ck} (h : JarW nx l) {a b : Ck} (ha : a ∈ l) (hb : b ∈ l) (hs : sameK a b = true) : a = b := by
  obtain ⟨i, hi⟩ := List.getElem?_of_mem ha
  obtain ⟨k, hk⟩ := List.getElem?_of_mem hb
  have hi1 := (List.getElem?_eq_some_iff.1 hi)
  have hk1 := (List.getElem?_eq_some_iff.1 hk)
  obtain ⟨hi1, hi2⟩ := hi1
  obtain ⟨hk1, hk2⟩ := hk1
  have hp := List.pairwise_iff_getElem.1 h.apart
  rcases Nat.lt_trichotomy i k with e | e | e
  · have := (hp i k hi1 hk1 e).1
    rw [hi2, hk2, hs] at this; cases this
  · subst e; rw [hi] at hk; injection hk
  · have := (hp k i hk1 hi1 e).1
    rw [hi2, hk2, sameK_symm, hs] at this; cases this
theorem pu_keeps {j : Ja} {p : Po} {g h : Cn} {now : Int} (e : chPu j p g now = 0) {k : Nat} {c : Ck} (hc : j.cks[k]? = some c) :
    capE p c = 0 ∧ (letsP p g c = true → liveB c now = true → now < capN p c → 0 ≤ findI (purJ j p g now).cks c ∧ (purJ j p g now).cks[(findI (purJ j p g now).cks c).toNat]? = some { c with expiry := min c.expiry (capN p c) })
    ∧ (¬ (letsP p g c = true ∧ liveB c now = true ∧ now < capN p c) → findI (purJ j p g now).cks c < 0)
    ∧ (chPu j p h now = 0 → lessC h g = true → findI (purJ j p g now).cks c < 0 → findI (purJ j p h now).cks c < 0) := by
  have hmem := List.mem_of_getElem? hc
  obtain ⟨j1, p1, g1, n1⟩ := (chPu_zero _ _ _ _).1 e
  have hm := moms j1
  have hw := ((chJ_char j).1 j1).2.1
  have live_iff : ∀ x : Ck, (now < min x.expiry (capN p x)) ↔ (liveB x now = true ∧ now < capN p x) := fun x => by
    unfold liveB; rw [decide_eq_true_iff]; omega
  -- who is in a purged jar
  have inn : ∀ (q : Cn), chC q = 0 → ∀ x ∈ keepL p q now j.cks, sameK x c = true → x = cut p c ∧ letsP p q c = true ∧ now < min c.expiry (capN p c) := fun q hq x hx hs => by
    obtain ⟨y, hy, rfl, h1, h2⟩ := keepL_in hm p1 hq hx
    have e2 : y = c := key_one hw hy hmem (by rw [← hs]; rfl)
    subst e2
    exact ⟨rfl, h1, h2⟩
  have put : ∀ (q : Cn), chC q = 0 → letsP p q c = true → now < min c.expiry (capN p c) → cut p c ∈ keepL p q now j.cks := fun q hq h1 h2 =>
    List.mem_filterMap.2 ⟨c, hmem, by rw [keep1_yes p1 hq (hm c hmem), if_pos ⟨h1, h2⟩]⟩
  rw [purJ_yes e]
  refine ⟨capE_zero p1 (hm c hmem), fun h1 h2 h3 => ?_, fun h1 => ?_, fun h1 h2 h3 => ?_⟩
  · have hp := put g g1 h1 ((live_iff c).2 ⟨h2, h3⟩)
    have h0 : 0 ≤ findI (keepL p g now j.cks) c := by
      rcases Int.lt_or_le (findI (keepL p g now j.cks) c) 0 with h4 | h4
      · have := (findI_neg _ _).1 h4 _ hp
        rw [show sameK (cut p c) c = sameK c c from rfl, sameK_refl] at this; cases this
      · exact h4
    refine ⟨h0, ?_⟩
    obtain ⟨x, hx, hs⟩ := findI_pos _ _ h0
    show (keepL p g now j.cks)[(findI (keepL p g now j.cks) c).toNat]? = _
    rw [hx, (inn g g1 x (List.mem_of_getElem? hx) hs).1]; rfl
  · show findI (keepL p g now j.cks) c < 0
    rw [findI_neg]
    intro x hx
    cases hs : sameK x c
    · rfl
    · obtain ⟨_, h2, h3⟩ := inn g g1 x hx hs
      have := (live_iff c).1 h3
      exact absurd ⟨h2, this.1, this.2⟩ h1
  · obtain ⟨_, _, k1, _⟩ := (chPu_zero _ _ _ _).1 h1
    rw [purJ_yes h1]
    show findI (keepL p h now j.cks) c < 0
    rw [findI_neg]
    intro x hx
    cases hs : sameK x c
    · rfl
    · obtain ⟨_, h4, h5⟩ := inn h k1 x hx hs
      have h6 := put g g1 (may_less h2 _ _ h4) h5
      have := (findI_neg _ _).1 h3 _ h6
      rw [show sameK (cut p c) c = sameK c c from rfl, sameK_refl] at this; cases this
end Go.Proofs.Ytcfdajaideidkaa
namespace Go.Proofs.Ytcfdajaideidkaa.purgeKeeps
open Go.ChangeShapes Go.WideShapes Go.ChangeAt Go.RowKit
open Go.ChangeMaps (open_string shut_string)
set_option linter.all false
set_option maxRecDepth 100000
set_option maxRecDepth 100000

set_option maxHeartbeats 16000000 in
theorem walk (j : Ja) (jv : Value) (p : Po) (pv : Value) (g : Cn) (gv : Value) (h : Cn) (hv : Value) (now i : Int) (w : World) (rj : Rows w jv ckC j.cks) (oj0 : JaOk maxLen j) (rp : Rows w pv ruC p.rules) (op0 : PoOk maxLen p) (rg : Rows w gv intF g.vs) (og : g.vs.length ≤ maxLen ∧ inR g.vs ∧ (-9223372036854775808 ≤ g.g ∧ g.g ≤ 9223372036854775807)) (rh : Rows w hv intF h.vs) (oh : h.vs.length ≤ maxLen ∧ inR h.vs ∧ (-9223372036854775808 ≤ h.g ∧ h.g ≤ 9223372036854775807)) (on : -9223372036854775808 ≤ now ∧ now ≤ 9223372036854775807) (oi : -9223372036854775808 ≤ i ∧ i ≤ 9223372036854775807)
    (hk : jaBulk j + poBulk p + (1 + (g.vs.map fun _ => 1).sum) + (1 + (h.vs.map fun _ => 1).sum) ≤ 1099511627776) :
    Calls Try.prog 6 #[.agg #[jv, .int .i64 j.next], .agg #[pv, .int .i64 p.dflt, .int .i64 p.c0, .int .i64 p.c1, .int .i64 p.c2, .int .i64 p.c3, .int .i64 p.c4, .int .i64 p.c5, .int .i64 p.c6, .int .i64 p.c7, .int .i64 p.c8, .int .i64 p.c9, .int .i64 p.c10], .agg #[.int .i64 g.g, .bool g.b0, .bool g.b1, .bool g.b2, .bool g.b3, .bool g.b4, .bool g.b5, .bool g.b6, .bool g.b7, .bool g.b8, .bool g.b9, gv], .agg #[.int .i64 h.g, .bool h.b0, .bool h.b1, .bool h.b2, .bool h.b3, .bool h.b4, .bool h.b5, .bool h.b6, .bool h.b7, .bool h.b8, .bool h.b9, hv], .int .i64 now, .int .i64 i] w fun e w' => e = .returned (.bool true) ∧ Below w.heap.size w w' := by
  have op : PoOk 140737488351232 p := po_small op0 (by omega)
  have oj : JaOk 140737488351232 j := (ja_small oj0 (by omega)).1
  have ojd := (ja_small oj0 (by omega)).2
  have okg : CnOk g := ⟨by have := len_sum g.vs; omega, og.2.1⟩
  have okh : CnOk h := ⟨by have := len_sum h.vs; omega, oh.2.1⟩
  obtain ⟨adj, capj, rfl⟩ := rj.shape
  obtain ⟨a, ha⟩ : ∃ qq, qq = purJ j p g now := ⟨_, rfl⟩
  obtain ⟨b, hb⟩ : ∃ qq, qq = purJ j p h now := ⟨_, rfl⟩
  obtain ⟨E, hE⟩ : ∃ qq, qq = chPu j p g now := ⟨_, rfl⟩
  obtain ⟨F, hF⟩ : ∃ qq, qq = chPu j p h now := ⟨_, rfl⟩
  obtain ⟨n1, hn1⟩ : ∃ qq, qq = purN j p g now := ⟨_, rfl⟩
  obtain ⟨n2, hn2⟩ : ∃ qq, qq = purN j p h now := ⟨_, rfl⟩
  obtain ⟨u, hu⟩ : ∃ qq, qq = lessC h g := ⟨_, rfl⟩
  have oka : JaOk 140737488351232 a := by rw [ha]; exact purJ_ok oj
  have okb : JaOk 140737488351232 b := by rw [hb]; exact purJ_ok oj
  have HC : Hid (E = 0 → ∀ (k : Nat) c, j.cks[k]? = some c → capE p c = 0 ∧ (letsP p g c = true → liveB c now = true → now < capN p c → 0 ≤ findI a.cks c ∧ a.cks[(findI a.cks c).toNat]? = some { c with expiry := min c.expiry (capN p c) }) ∧ (¬ (letsP p g c = true ∧ liveB c now = true ∧ now < capN p c) → findI a.cks c < 0) ∧ (F = 0 → u = true → findI a.cks c < 0 → findI b.cks c < 0)) := fun h1 k c hc => by
    rw [ha, hb, hF, hu]
    exact pu_keeps (hE ▸ h1) hc
  have HOK : Hid (∀ c ∈ j.cks, CkOk 140737488351232 c ∧ (c.domain.length + 1) * 16 ≤ 140737488355328) := fun c hc => ⟨oj.cks c hc, ojd c hc⟩
  have HOP : Hid (PoOk 140737488351232 p) := op
  have HOG : Hid (CnOk g) := okg
  have HAM : Hid (a.cks.length ≤ maxLen) := oka.max
  have HBM : Hid (b.cks.length ≤ maxLen) := okb.max
  have KU : Hid (∀ w' u1 u2, Rows w' u1 intF h.vs → Rows w' u2 intF g.vs → Calls Try.prog 20 #[.agg #[.int .i64 h.g, .bool h.b0, .bool h.b1, .bool h.b2, .bool h.b3, .bool h.b4, .bool h.b5, .bool h.b6, .bool h.b7, .bool h.b8, .bool h.b9, u1], .agg #[.int .i64 g.g, .bool g.b0, .bool g.b1, .bool g.b2, .bool g.b3, .bool g.b4, .bool g.b5, .bool g.b6, .bool g.b7, .bool g.b8, .bool g.b9, u2]] w' fun e w'' => e = .returned (.bool u) ∧ Below w'.heap.size w' w'') := fun w' u1 u2 h1 h2 => by rw [hu]; exact less_any h g u1 u2 w' h1 h2 okh.1 okg.1 okh.2 okg.2
  have K1 : Hid (∀ w' vj vp vg, Rows w' vj ckC j.cks → Rows w' vp ruC p.rules → Rows w' vg intF g.vs → Calls Try.prog 7 #[.agg #[vj, .int .i64 j.next], .agg #[vp, .int .i64 p.dflt, .int .i64 p.c0, .int .i64 p.c1, .int .i64 p.c2, .int .i64 p.c3, .int .i64 p.c4, .int .i64 p.c5, .int .i64 p.c6, .int .i64 p.c7, .int .i64 p.c8, .int .i64 p.c9, .int .i64 p.c10], .agg #[.int .i64 g.g, .bool g.b0, .bool g.b1, .bool g.b2, .bool g.b3, .bool g.b4, .bool g.b5, .bool g.b6, .bool g.b7, .bool g.b8, .bool g.b9, vg], .int .i64 now] w' fun e w'' => ∃ s, e = .returned (.tuple #[.agg #[s, .int .i64 a.next], .int .i64 n1, .int .i64 E]) ∧ Rows w'' s ckC a.cks ∧ Below w'.heap.size w' w'') := fun w' vj vp vg h1 h2 h3 => by
    rw [ha, hn1, hE]
    exact (purge_any j vj p vp g vg now w' h1 oj h2 op h3 okg).mono fun e w'' ⟨s, e1, e2, e3⟩ => ⟨s, e1, Reads.of_own e2, e3⟩
  have K2 : Hid (∀ w' vj vp vg, Rows w' vj ckC j.cks → Rows w' vp ruC p.rules → Rows w' vg intF h.vs → Calls Try.prog 7 #[.agg #[vj, .int .i64 j.next], .agg #[vp, .int .i64 p.dflt, .int .i64 p.c0, .int .i64 p.c1, .int .i64 p.c2, .int .i64 p.c3, .int .i64 p.c4, .int .i64 p.c5, .int .i64 p.c6, .int .i64 p.c7, .int .i64 p.c8, .int .i64 p.c9, .int .i64 p.c10], .agg #[.int .i64 h.g, .bool h.b0, .bool h.b1, .bool h.b2, .bool h.b3, .bool h.b4, .bool h.b5, .bool h.b6, .bool h.b7, .bool h.b8, .bool h.b9, vg], .int .i64 now] w' fun e w'' => ∃ s, e = .returned (.tuple #[.agg #[s, .int .i64 b.next], .int .i64 n2, .int .i64 F]) ∧ Rows w'' s ckC b.cks ∧ Below w'.heap.size w' w'') := fun w' vj vp vg h1 h2 h3 => by
    rw [hb, hn2, hF]
    exact (purge_any j vj p vp h vg now w' h1 oj h2 op h3 okh).mono fun e w'' ⟨s, e1, e2, e3⟩ => ⟨s, e1, Reads.of_own e2, e3⟩
  have hjm : j.cks.length ≤ 140737488351232 := oj.len
  have ham : a.cks.length ≤ 140737488351232 := oka.len
  obtain ⟨W0, hW0⟩ : ∃ W0, W0 = ((((w.alloc (.cells #[(.slice adj j.cks.length capj), .int .i64 j.next] 24)).alloc (.cells #[pv, .int .i64 p.dflt, .int .i64 p.c0, .int .i64 p.c1, .int .i64 p.c2, .int .i64 p.c3, .int .i64 p.c4, .int .i64 p.c5, .int .i64 p.c6, .int .i64 p.c7, .int .i64 p.c8, .int .i64 p.c9, .int .i64 p.c10] 28)).alloc (.cells #[.int .i64 g.g, .bool g.b0, .bool g.b1, .bool g.b2, .bool g.b3, .bool g.b4, .bool g.b5, .bool g.b6, .bool g.b7, .bool g.b8, .bool g.b9, gv] 32)).alloc (.cells #[.int .i64 h.g, .bool h.b0, .bool h.b1, .bool h.b2, .bool h.b3, .bool h.b4, .bool h.b5, .bool h.b6, .bool h.b7, .bool h.b8, .bool h.b9, hv] 32)) := ⟨_, rfl⟩
  have J : Hid (JB W0 w.heap.size j (.slice adj j.cks.length capj)) := by
    rw [hW0]
    have h := JB.new w j (.slice adj j.cks.length capj) 24 rj
    exact (((h.below (below_new _ _)).below (below_new _ _)).below (below_new _ _))
  have P : Hid (PB W0 (w.heap.size + 1) p pv) := by
    rw [hW0]
    have h := PB.new (w.alloc (.cells #[(.slice adj j.cks.length capj), .int .i64 j.next] 24)) p pv 28 (Rows.below rp (below_new _ _) (Nat.le_refl _))
    rw [show (w.alloc (.cells #[(.slice adj j.cks.length capj), .int .i64 j.next] 24)).heap.size = w.heap.size + 1 from by simp] at h
    exact ((h.below (below_new _ _)).below (below_new _ _))
  have G : Hid (CB W0 (w.heap.size + 1 + 1) g gv) := by
    rw [hW0]
    have h := CB.new ((w.alloc (.cells #[(.slice adj j.cks.length capj), .int .i64 j.next] 24)).alloc (.cells #[pv, .int .i64 p.dflt, .int .i64 p.c0, .int .i64 p.c1, .int .i64 p.c2, .int .i64 p.c3, .int .i64 p.c4, .int .i64 p.c5, .int .i64 p.c6, .int .i64 p.c7, .int .i64 p.c8, .int .i64 p.c9, .int .i64 p.c10] 28)) g gv 32 (Rows.below (Rows.below rg (below_new _ _) (Nat.le_refl _)) (below_new _ _) (Nat.le_refl _))
    rw [show ((w.alloc (.cells #[(.slice adj j.cks.length capj), .int .i64 j.next] 24)).alloc (.cells #[pv, .int .i64 p.dflt, .int .i64 p.c0, .int .i64 p.c1, .int .i64 p.c2, .int .i64 p.c3, .int .i64 p.c4, .int .i64 p.c5, .int .i64 p.c6, .int .i64 p.c7, .int .i64 p.c8, .int .i64 p.c9, .int .i64 p.c10] 28)).heap.size = w.heap.size + 1 + 1 from by simp] at h
    exact (h.below (below_new _ _))
  have H : Hid (CB W0 (w.heap.size + 1 + 1 + 1) h hv) := by
    rw [hW0]
    have h := CB.new (((w.alloc (.cells #[(.slice adj j.cks.length capj), .int .i64 j.next] 24)).alloc (.cells #[pv, .int .i64 p.dflt, .int .i64 p.c0, .int .i64 p.c1, .int .i64 p.c2, .int .i64 p.c3, .int .i64 p.c4, .int .i64 p.c5, .int .i64 p.c6, .int .i64 p.c7, .int .i64 p.c8, .int .i64 p.c9, .int .i64 p.c10] 28)).alloc (.cells #[.int .i64 g.g, .bool g.b0, .bool g.b1, .bool g.b2, .bool g.b3, .bool g.b4, .bool g.b5, .bool g.b6, .bool g.b7, .bool g.b8, .bool g.b9, gv] 32)) h hv 32 (Rows.below (Rows.below (Rows.below rh (below_new _ _) (Nat.le_refl _)) (below_new _ _) (Nat.le_refl _)) (below_new _ _) (Nat.le_refl _))
    rw [show (((w.alloc (.cells #[(.slice adj j.cks.length capj), .int .i64 j.next] 24)).alloc (.cells #[pv, .int .i64 p.dflt, .int .i64 p.c0, .int .i64 p.c1, .int .i64 p.c2, .int .i64 p.c3, .int .i64 p.c4, .int .i64 p.c5, .int .i64 p.c6, .int .i64 p.c7, .int .i64 p.c8, .int .i64 p.c9, .int .i64 p.c10] 28)).alloc (.cells #[.int .i64 g.g, .bool g.b0, .bool g.b1, .bool g.b2, .bool g.b3, .bool g.b4, .bool g.b5, .bool g.b6, .bool g.b7, .bool g.b8, .bool g.b9, gv] 32)).heap.size = w.heap.size + 1 + 1 + 1 from by simp] at h
    exact h
  have S : Hid (Below w.heap.size w W0) := by rw [hW0]; exact next (next (next (below_new _ _) (below_new _ _)) (below_new _ _)) (below_new _ _)
  have HW0 : Hid _ := hW0
  clear rj oj0 oj ojd rp op op0 rg og okg rh oh okh on ha hb hE hF hn1 hn2 hu oka okb hk hW0
  go_enter Try.func6, Try.ntmps6
  go_upto_region 1 with fail
  rw [← HW0.out]
  clear HW0
  have x0 := J.out.row.cell 0 rfl
  have x1 := J.out.row.cell 1 rfl
  have y0 := P.out.row.cell 0 rfl
  have y1 := P.out.row.cell 1 rfl
  have y2 := P.out.row.cell 2 rfl
  have y3 := P.out.row.cell 3 rfl
  have y4 := P.out.row.cell 4 rfl
  have y5 := P.out.row.cell 5 rfl
  have y6 := P.out.row.cell 6 rfl
  have y7 := P.out.row.cell 7 rfl
  have y8 := P.out.row.cell 8 rfl
  have y9 := P.out.row.cell 9 rfl
  have y10 := P.out.row.cell 10 rfl
  have y11 := P.out.row.cell 11 rfl
  have y12 := P.out.row.cell 12 rfl
  have z0 := G.out.row.cell 0 rfl
  have z1 := G.out.row.cell 1 rfl
  have z2 := G.out.row.cell 2 rfl
  have z3 := G.out.row.cell 3 rfl
  have z4 := G.out.row.cell 4 rfl
  have z5 := G.out.row.cell 5 rfl
  have z6 := G.out.row.cell 6 rfl
  have z7 := G.out.row.cell 7 rfl
  have z8 := G.out.row.cell 8 rfl
  have z9 := G.out.row.cell 9 rfl
  have z10 := G.out.row.cell 10 rfl
  have z11 := G.out.row.cell 11 rfl
  go_wp2_with fail
  refine (K1.out _ _ _ _ J.out.rows P.out.rows G.out.rows).mono ?_
  rintro e v1 ⟨s1, rfl, r1, hb1⟩
  obtain ⟨ad1, cap1, rfl⟩ := r1.shape
  clear x0 x1 y0 y1 y2 y3 y4 y5 y6 y7 y8 y9 y10 y11 y12 z0 z1 z2 z3 z4 z5 z6 z7 z8 z9 z10 z11
  obtain ⟨W1, hW1⟩ : ∃ W1, W1 = v1.alloc (.cells #[(.slice ad1 a.cks.length cap1), .int .i64 a.next] 24) := ⟨_, rfl⟩
  have hc1 : Below W0.heap.size W0 W1 := by rw [hW1]; exact next hb1 (below_new _ _)
  replace J : Hid (JB W1 w.heap.size j (.slice adj j.cks.length capj)) := J.out.below hc1
  replace P : Hid (PB W1 (w.heap.size + 1) p pv) := P.out.below hc1
  replace G : Hid (CB W1 (w.heap.size + 1 + 1) g gv) := G.out.below hc1
  replace H : Hid (CB W1 (w.heap.size + 1 + 1 + 1) h hv) := H.out.below hc1
  replace S : Hid (Below w.heap.size w W1) := next S.out hc1
  have A : Hid (JB W1 v1.heap.size a (.slice ad1 a.cks.length cap1)) := by rw [hW1]; exact JB.new v1 a (.slice ad1 a.cks.length cap1) 24 r1
  have HW1 : Hid _ := hW1
  clear hb1 hc1 hW1
  go_upto_region 2 with fail
  rw [← HW1.out]
  clear HW1
  go_wp2_with fail
  refine (purgeBegun_any _).mono ?_
  rintro e Wn2 ⟨rfl, hb2⟩
  replace J : Hid (JB Wn2 w.heap.size j (.slice adj j.cks.length capj)) := J.out.below hb2
  replace P : Hid (PB Wn2 (w.heap.size + 1) p pv) := P.out.below hb2
  replace G : Hid (CB Wn2 (w.heap.size + 1 + 1) g gv) := G.out.below hb2
  replace H : Hid (CB Wn2 (w.heap.size + 1 + 1 + 1) h hv) := H.out.below hb2
  replace A : Hid (JB Wn2 v1.heap.size a (.slice ad1 a.cks.length cap1)) := A.out.below hb2
  replace S : Hid (Below w.heap.size w Wn2) := next S.out hb2
  clear hb2
  by_cases hE : E = 0
  rotate_left
  · have q : (E != 0) = true := by rw [bne_iff_ne]; exact hE
    go_wp2_with fail
    go_ret
    exact ⟨rfl, S.out⟩
  have qE : (E != 0) = false := by rw [hE]; rfl
  have HHE : Hid (E = 0) := hE
  clear hE
  by_cases hi0 : i < 0
  · go_wp2_with fail
    go_ret
    exact ⟨rfl, S.out⟩
  obtain ⟨k, rfl⟩ : ∃ k : Nat, i = (k : Int) := ⟨i.toNat, by omega⟩
  have v0 := J.out.row.cell 0 rfl
  by_cases hlt : k < j.cks.length
  rotate_left
  · go_wp2_with fail
    go_ret
    exact ⟨rfl, S.out⟩
  obtain ⟨c, e1⟩ : ∃ r, j.cks[k]? = some r := ⟨_, List.getElem?_eq_getElem hlt⟩
  obtain ⟨bl, ol, had, hbl, hcell⟩ := Rows.at J.out.rows rfl 12 (fun _ => rfl) k c e1
  subst had
  have c0 := hcell 0 _ rfl
  have c1 := hcell 1 _ rfl
  have c2 := hcell 2 _ rfl
  have c3 := hcell 3 _ rfl
  have c4 := hcell 4 _ rfl
  have c5 := hcell 5 _ rfl
  have c6 := hcell 6 _ rfl
  have c7 := hcell 7 _ rfl
  have c8 := hcell 8 _ rfl
  have c9 := hcell 9 _ rfl
  have c10 := hcell 10 _ rfl
  have c11 := hcell 11 _ rfl
  have c12 := hcell 12 _ rfl
  rw [Nat.add_zero] at c0
  obtain ⟨N, hN⟩ : ∃ N, N = capN p c := ⟨_, rfl⟩
  obtain ⟨mm, hmm⟩ : ∃ m, m = min c.expiry N := ⟨_, rfl⟩
  obtain ⟨at', hat⟩ : ∃ x, x = findI a.cks c := ⟨_, rfl⟩
  obtain ⟨fb, hfb⟩ : ∃ x, x = findI b.cks c := ⟨_, rfl⟩
  obtain ⟨lt, hlet⟩ : ∃ x, x = letsP p g c := ⟨_, rfl⟩
  obtain ⟨lv, hlv⟩ : ∃ x, x = liveB c now := ⟨_, rfl⟩
  have hmem := List.mem_of_getElem? e1
  obtain ⟨oc, od⟩ := HOK.out c hmem
  obtain ⟨k1, k2, k3, k4⟩ := HC.out HHE.out k c e1
  have KL : Hid (∀ w', Rows w' pv ruC p.rules → Calls Try.prog 14 #[.agg #[pv, .int .i64 p.dflt, .int .i64 p.c0, .int .i64 p.c1, .int .i64 p.c2, .int .i64 p.c3, .int .i64 p.c4, .int .i64 p.c5, .int .i64 p.c6, .int .i64 p.c7, .int .i64 p.c8, .int .i64 p.c9, .int .i64 p.c10], .agg #[.string (txt c.name), .string (txt c.value), .string (txt c.domain), .string (txt c.path), .bool c.hostOnly, .bool c.secure, .bool c.httpOnly, .bool c.lasting, .int .i64 c.site, .int .i64 c.expiry, .int .i64 c.created, .int .i64 c.used, .int .i64 c.no]] w' fun e w'' => e = .returned (.tuple #[.int .i64 N, .int .i64 0]) ∧ Below w'.heap.size w' w'') := fun w' h1 => by
    have q := latestOf_any p pv c w' h1 HOP.out oc od
    rw [← hN, k1] at q
    exact q
  have KF : Hid (∀ w' va, Rows w' va ckC a.cks → Calls Try.prog 19 #[.agg #[va, .int .i64 a.next], .agg #[.string (txt c.name), .string (txt c.value), .string (txt c.domain), .string (txt c.path), .bool c.hostOnly, .bool c.secure, .bool c.httpOnly, .bool c.lasting, .int .i64 c.site, .int .i64 c.expiry, .int .i64 c.created, .int .i64 c.used, .int .i64 c.no]] w' fun e w'' => e = .returned (.int .i64 at') ∧ Below w'.heap.size w' w'') := fun w' va h1 => by rw [hat]; exact find_any va a c w' h1 HAM.out
  have KFB : Hid (∀ w' va, Rows w' va ckC b.cks → Calls Try.prog 19 #[.agg #[va, .int .i64 b.next], .agg #[.string (txt c.name), .string (txt c.value), .string (txt c.domain), .string (txt c.path), .bool c.hostOnly, .bool c.secure, .bool c.httpOnly, .bool c.lasting, .int .i64 c.site, .int .i64 c.expiry, .int .i64 c.created, .int .i64 c.used, .int .i64 c.no]] w' fun e w'' => e = .returned (.int .i64 fb) ∧ Below w'.heap.size w' w'') := fun w' va h1 => by rw [hfb]; exact find_any va b c w' h1 HBM.out
  have KFM : Hid (∀ w' va, Rows w' va ckC b.cks → Calls Try.prog 19 #[.agg #[va, .int .i64 b.next], .agg #[.string (txt c.name), .string (txt c.value), .string (txt c.domain), .string (txt c.path), .bool c.hostOnly, .bool c.secure, .bool c.httpOnly, .bool c.lasting, .int .i64 c.site, .int .i64 mm, .int .i64 c.created, .int .i64 c.used, .int .i64 c.no]] w' fun e w'' => e = .returned (.int .i64 fb) ∧ Below w'.heap.size w' w'') := fun w' va h1 => by rw [hfb]; exact find_any va b { c with expiry := mm } w' h1 HBM.out
  have KT : Hid (∀ w', Rows w' pv ruC p.rules → Rows w' gv intF g.vs → Calls Try.prog 15 #[.agg #[pv, .int .i64 p.dflt, .int .i64 p.c0, .int .i64 p.c1, .int .i64 p.c2, .int .i64 p.c3, .int .i64 p.c4, .int .i64 p.c5, .int .i64 p.c6, .int .i64 p.c7, .int .i64 p.c8, .int .i64 p.c9, .int .i64 p.c10], .agg #[.int .i64 g.g, .bool g.b0, .bool g.b1, .bool g.b2, .bool g.b3, .bool g.b4, .bool g.b5, .bool g.b6, .bool g.b7, .bool g.b8, .bool g.b9, gv], .agg #[.string (txt c.name), .string (txt c.value), .string (txt c.domain), .string (txt c.path), .bool c.hostOnly, .bool c.secure, .bool c.httpOnly, .bool c.lasting, .int .i64 c.site, .int .i64 c.expiry, .int .i64 c.created, .int .i64 c.used, .int .i64 c.no]] w' fun e w'' => e = .returned (.bool lt) ∧ Below w'.heap.size w' w'') := fun w' h1 h2 => by rw [hlet]; exact lets_any p pv g gv c w' HOP.out h1 h2 HOG.out.max oc
  have KV : Hid (∀ w', Calls Try.prog 16 #[.agg #[.string (txt c.name), .string (txt c.value), .string (txt c.domain), .string (txt c.path), .bool c.hostOnly, .bool c.secure, .bool c.httpOnly, .bool c.lasting, .int .i64 c.site, .int .i64 c.expiry, .int .i64 c.created, .int .i64 c.used, .int .i64 c.no], .int .i64 now] w' fun e w'' => e = .returned (.bool lv) ∧ Below w'.heap.size w' w'') := fun w' => by rw [hlv]; exact live_any c now w'
  have HYES : Hid (lt = true → lv = true → now < N → 0 ≤ at' ∧ a.cks[at'.toNat]? = some { c with expiry := mm }) := fun h1 h2 h3 => by
    rw [hat, hmm, hN]
    exact k2 (hlet ▸ h1) (hlv ▸ h2) (hN ▸ h3)
  have HNO : Hid (¬ (lt = true ∧ lv = true ∧ now < N) → at' < 0) := fun h => by rw [hat]; exact k3 (by rw [← hlet, ← hlv, ← hN]; exact h)
  have HLS : Hid (F = 0 → u = true → at' < 0 → fb < 0) := fun h1 h2 h3 => by rw [hfb]; exact k4 h1 h2 (by rw [← hat]; exact h3)
  have HMM : Hid (mm = min c.expiry N) := hmm
  have hbat : -9223372036854775808 ≤ at' ∧ at' ≤ 9223372036854775807 := by
    rw [hat]
    have q := findI_bd a.cks c
    have := HAM.out
    unfold maxLen at this
    omega
  have OJ : Hid (JB Wn2 w.heap.size j (.slice (some ⟨bl, ol, none⟩) j.cks.length capj)) := J
  have OP : Hid (PB Wn2 (w.heap.size + 1) p pv) := P
  have OG : Hid (CB Wn2 (w.heap.size + 1 + 1) g gv) := G
  have OH : Hid (CB Wn2 (w.heap.size + 1 + 1 + 1) h hv) := H
  have OA : Hid (JB Wn2 v1.heap.size a (.slice ad1 a.cks.length cap1)) := A
  have S0' : Hid (Below w.heap.size w Wn2) := S
  have SC : Hid (Below Wn2.heap.size Wn2 Wn2) := Below.refl _ _
  obtain ⟨W7, hW7⟩ : ∃ W7, W7 = Wn2.alloc (.cells #[.string (txt c.name), .string (txt c.value), .string (txt c.domain), .string (txt c.path), .bool c.hostOnly, .bool c.secure, .bool c.httpOnly, .bool c.lasting, .int .i64 c.site, .int .i64 c.expiry, .int .i64 c.created, .int .i64 c.used, .int .i64 c.no] 34) := ⟨_, rfl⟩
  have hb7 : Below Wn2.heap.size Wn2 W7 := by rw [hW7]; exact below_new _ _
  have C : Hid (KB W7 Wn2.heap.size c) := by rw [hW7]; exact KB.new Wn2 c 34
  have HW7 : Hid _ := hW7
  clear hN hmm hat hfb hlet hlv hmem oc od k1 k2 k3 k4 e1 hbl hcell hW7
  replace J : Hid (JB W7 w.heap.size j (.slice (some ⟨bl, ol, none⟩) j.cks.length capj)) := J.out.below hb7
  replace P : Hid (PB W7 (w.heap.size + 1) p pv) := P.out.below hb7
  replace G : Hid (CB W7 (w.heap.size + 1 + 1) g gv) := G.out.below hb7
  replace H : Hid (CB W7 (w.heap.size + 1 + 1 + 1) h hv) := H.out.below hb7
  replace A : Hid (JB W7 v1.heap.size a (.slice ad1 a.cks.length cap1)) := A.out.below hb7
  replace S : Hid (Below w.heap.size w W7) := next S.out hb7
  replace SC : Hid (Below Wn2.heap.size Wn2 W7) := next SC.out hb7
  have HCLT : Hid (w.heap.size ≤ Wn2.heap.size) := S0'.out.size
  have HCNE : Hid (Wn2.heap.size < W7.heap.size) := cell_in (C.out.row.cell 0 rfl)
  clear hb7
  go_upto_region 7 with fail
  rw [← HW7.out]
  clear HW7 v0 c0 c1 c2 c3 c4 c5 c6 c7 c8 c9 c10 c11 c12
  have x0 := P.out.row.cell 0 rfl
  have x1 := P.out.row.cell 1 rfl
  have x2 := P.out.row.cell 2 rfl
  have x3 := P.out.row.cell 3 rfl
  have x4 := P.out.row.cell 4 rfl
  have x5 := P.out.row.cell 5 rfl
  have x6 := P.out.row.cell 6 rfl
  have x7 := P.out.row.cell 7 rfl
  have x8 := P.out.row.cell 8 rfl
  have x9 := P.out.row.cell 9 rfl
  have x10 := P.out.row.cell 10 rfl
  have x11 := P.out.row.cell 11 rfl
  have x12 := P.out.row.cell 12 rfl
  have y0 := C.out.row.cell 0 rfl
  have y1 := C.out.row.cell 1 rfl
  have y2 := C.out.row.cell 2 rfl
  have y3 := C.out.row.cell 3 rfl
  have y4 := C.out.row.cell 4 rfl
  have y5 := C.out.row.cell 5 rfl
  have y6 := C.out.row.cell 6 rfl
  have y7 := C.out.row.cell 7 rfl
  have y8 := C.out.row.cell 8 rfl
  have y9 := C.out.row.cell 9 rfl
  have y10 := C.out.row.cell 10 rfl
  have y11 := C.out.row.cell 11 rfl
  have y12 := C.out.row.cell 12 rfl
  go_wp2_with fail
  refine (KL.out _ P.out.rows).mono ?_
  rintro e Wn3 ⟨rfl, hb3⟩
  clear x0 x1 x2 x3 x4 x5 x6 x7 x8 x9 x10 x11 x12 y0 y1 y2 y3 y4 y5 y6 y7 y8 y9 y10 y11 y12
  replace J : Hid (JB Wn3 w.heap.size j (.slice (some ⟨bl, ol, none⟩) j.cks.length capj)) := J.out.below hb3
  replace P : Hid (PB Wn3 (w.heap.size + 1) p pv) := P.out.below hb3
  replace G : Hid (CB Wn3 (w.heap.size + 1 + 1) g gv) := G.out.below hb3
  replace H : Hid (CB Wn3 (w.heap.size + 1 + 1 + 1) h hv) := H.out.below hb3
  replace A : Hid (JB Wn3 v1.heap.size a (.slice ad1 a.cks.length cap1)) := A.out.below hb3
  replace C : Hid (KB Wn3 Wn2.heap.size c) := C.out.below hb3
  replace S : Hid (Below w.heap.size w Wn3) := next S.out hb3
  replace SC : Hid (Below Wn2.heap.size Wn2 Wn3) := next SC.out hb3
  clear hb3
  have x0 := A.out.row.cell 0 rfl
  have x1 := A.out.row.cell 1 rfl
  have y0 := C.out.row.cell 0 rfl
  have y1 := C.out.row.cell 1 rfl
  have y2 := C.out.row.cell 2 rfl
  have y3 := C.out.row.cell 3 rfl
  have y4 := C.out.row.cell 4 rfl
  have y5 := C.out.row.cell 5 rfl
  have y6 := C.out.row.cell 6 rfl
  have y7 := C.out.row.cell 7 rfl
  have y8 := C.out.row.cell 8 rfl
  have y9 := C.out.row.cell 9 rfl
  have y10 := C.out.row.cell 10 rfl
  have y11 := C.out.row.cell 11 rfl
  have y12 := C.out.row.cell 12 rfl
  go_wp2_with fail
  refine (KF.out _ _ A.out.rows).mono ?_
  rintro e Wn4 ⟨rfl, hb4⟩
  clear x0 x1 y0 y1 y2 y3 y4 y5 y6 y7 y8 y9 y10 y11 y12
  replace J : Hid (JB Wn4 w.heap.size j (.slice (some ⟨bl, ol, none⟩) j.cks.length capj)) := J.out.below hb4
  replace P : Hid (PB Wn4 (w.heap.size + 1) p pv) := P.out.below hb4
  replace G : Hid (CB Wn4 (w.heap.size + 1 + 1) g gv) := G.out.below hb4
  replace H : Hid (CB Wn4 (w.heap.size + 1 + 1 + 1) h hv) := H.out.below hb4
  replace A : Hid (JB Wn4 v1.heap.size a (.slice ad1 a.cks.length cap1)) := A.out.below hb4
  replace C : Hid (KB Wn4 Wn2.heap.size c) := C.out.below hb4
  replace S : Hid (Below w.heap.size w Wn4) := next S.out hb4
  replace SC : Hid (Below Wn2.heap.size Wn2 Wn4) := next SC.out hb4
  clear hb4
  have x0 := P.out.row.cell 0 rfl
  have x1 := P.out.row.cell 1 rfl
  have x2 := P.out.row.cell 2 rfl
  have x3 := P.out.row.cell 3 rfl
  have x4 := P.out.row.cell 4 rfl
  have x5 := P.out.row.cell 5 rfl
  have x6 := P.out.row.cell 6 rfl
  have x7 := P.out.row.cell 7 rfl
  have x8 := P.out.row.cell 8 rfl
  have x9 := P.out.row.cell 9 rfl
  have x10 := P.out.row.cell 10 rfl
  have x11 := P.out.row.cell 11 rfl
  have x12 := P.out.row.cell 12 rfl
  have y0 := G.out.row.cell 0 rfl
  have y1 := G.out.row.cell 1 rfl
  have y2 := G.out.row.cell 2 rfl
  have y3 := G.out.row.cell 3 rfl
  have y4 := G.out.row.cell 4 rfl
  have y5 := G.out.row.cell 5 rfl
  have y6 := G.out.row.cell 6 rfl
  have y7 := G.out.row.cell 7 rfl
  have y8 := G.out.row.cell 8 rfl
  have y9 := G.out.row.cell 9 rfl
  have y10 := G.out.row.cell 10 rfl
  have y11 := G.out.row.cell 11 rfl
  have z0 := C.out.row.cell 0 rfl
  have z1 := C.out.row.cell 1 rfl
  have z2 := C.out.row.cell 2 rfl
  have z3 := C.out.row.cell 3 rfl
  have z4 := C.out.row.cell 4 rfl
  have z5 := C.out.row.cell 5 rfl
  have z6 := C.out.row.cell 6 rfl
  have z7 := C.out.row.cell 7 rfl
  have z8 := C.out.row.cell 8 rfl
  have z9 := C.out.row.cell 9 rfl
  have z10 := C.out.row.cell 10 rfl
  have z11 := C.out.row.cell 11 rfl
  have z12 := C.out.row.cell 12 rfl
  go_wp2_with fail
  refine (KT.out _ P.out.rows G.out.rows).mono ?_
  rintro e Wn5 ⟨rfl, hb5⟩
  clear x0 x1 x2 x3 x4 x5 x6 x7 x8 x9 x10 x11 x12 y0 y1 y2 y3 y4 y5 y6 y7 y8 y9 y10 y11 z0 z1 z2 z3 z4 z5 z6 z7 z8 z9 z10 z11 z12
  replace J : Hid (JB Wn5 w.heap.size j (.slice (some ⟨bl, ol, none⟩) j.cks.length capj)) := J.out.below hb5
  replace P : Hid (PB Wn5 (w.heap.size + 1) p pv) := P.out.below hb5
  replace G : Hid (CB Wn5 (w.heap.size + 1 + 1) g gv) := G.out.below hb5
  replace H : Hid (CB Wn5 (w.heap.size + 1 + 1 + 1) h hv) := H.out.below hb5
  replace A : Hid (JB Wn5 v1.heap.size a (.slice ad1 a.cks.length cap1)) := A.out.below hb5
  replace C : Hid (KB Wn5 Wn2.heap.size c) := C.out.below hb5
  replace S : Hid (Below w.heap.size w Wn5) := next S.out hb5
  replace SC : Hid (Below Wn2.heap.size Wn2 Wn5) := next SC.out hb5
  clear hb5
  cases lt
  · have hat : at' < 0 := HNO.out (by rintro ⟨h, _⟩; cases h)
    have hat2 : ¬ 0 ≤ at' := by omega
    have HAT : Hid (at' < 0) := hat
    clear hat hat2
    have hat : at' < 0 := by have := HAT.out; omega
    have hat2 : ¬ 0 ≤ at' := by omega
    go_upto_region 15 with fail
    have x0 := J.out.row.cell 0 rfl
    have x1 := J.out.row.cell 1 rfl
    have y0 := P.out.row.cell 0 rfl
    have y1 := P.out.row.cell 1 rfl
    have y2 := P.out.row.cell 2 rfl
    have y3 := P.out.row.cell 3 rfl
    have y4 := P.out.row.cell 4 rfl
    have y5 := P.out.row.cell 5 rfl
    have y6 := P.out.row.cell 6 rfl
    have y7 := P.out.row.cell 7 rfl
    have y8 := P.out.row.cell 8 rfl
    have y9 := P.out.row.cell 9 rfl
    have y10 := P.out.row.cell 10 rfl
    have y11 := P.out.row.cell 11 rfl
    have y12 := P.out.row.cell 12 rfl
    have z0 := H.out.row.cell 0 rfl
    have z1 := H.out.row.cell 1 rfl
    have z2 := H.out.row.cell 2 rfl
    have z3 := H.out.row.cell 3 rfl
    have z4 := H.out.row.cell 4 rfl
    have z5 := H.out.row.cell 5 rfl
    have z6 := H.out.row.cell 6 rfl
    have z7 := H.out.row.cell 7 rfl
    have z8 := H.out.row.cell 8 rfl
    have z9 := H.out.row.cell 9 rfl
    have z10 := H.out.row.cell 10 rfl
    have z11 := H.out.row.cell 11 rfl
    go_wp2_with fail
    refine (K2.out _ _ _ _ J.out.rows P.out.rows H.out.rows).mono ?_
    rintro e v6 ⟨s6, rfl, r6, hb6⟩
    obtain ⟨ad6, cap6, rfl⟩ := r6.shape
    clear x0 x1 y0 y1 y2 y3 y4 y5 y6 y7 y8 y9 y10 y11 y12 z0 z1 z2 z3 z4 z5 z6 z7 z8 z9 z10 z11
    obtain ⟨W6, hW6⟩ : ∃ W6, W6 = v6.alloc (.cells #[(.slice ad6 b.cks.length cap6), .int .i64 b.next] 24) := ⟨_, rfl⟩
    have hc6 : Below Wn5.heap.size Wn5 W6 := by rw [hW6]; exact next hb6 (below_new _ _)
    replace J : Hid (JB W6 w.heap.size j (.slice (some ⟨bl, ol, none⟩) j.cks.length capj)) := J.out.below hc6
    replace P : Hid (PB W6 (w.heap.size + 1) p pv) := P.out.below hc6
    replace G : Hid (CB W6 (w.heap.size + 1 + 1) g gv) := G.out.below hc6
    replace H : Hid (CB W6 (w.heap.size + 1 + 1 + 1) h hv) := H.out.below hc6
    replace A : Hid (JB W6 v1.heap.size a (.slice ad1 a.cks.length cap1)) := A.out.below hc6
    replace C : Hid (KB W6 Wn2.heap.size c) := C.out.below hc6
    replace S : Hid (Below w.heap.size w W6) := next S.out hc6
    replace SC : Hid (Below Wn2.heap.size Wn2 W6) := next SC.out hc6
    have B : Hid (JB W6 v6.heap.size b (.slice ad6 b.cks.length cap6)) := by rw [hW6]; exact JB.new v6 b (.slice ad6 b.cks.length cap6) 24 r6
    have HW6 : Hid _ := hW6
    clear hb6 hc6 hW6
    go_upto_region 16 with fail
    rw [← HW6.out]
    clear HW6
    by_cases hF : F = 0
    rotate_left
    · have qF : (F != 0) = true := by rw [bne_iff_ne]; exact hF
      go_wp2_with fail
      go_ret
      exact ⟨rfl, S.out⟩
    have qF : (F != 0) = false := by rw [hF]; rfl
    have HHF : Hid (F = 0) := hF
    clear hF
    have x0 := H.out.row.cell 0 rfl
    have x1 := H.out.row.cell 1 rfl
    have x2 := H.out.row.cell 2 rfl
    have x3 := H.out.row.cell 3 rfl
    have x4 := H.out.row.cell 4 rfl
    have x5 := H.out.row.cell 5 rfl
    have x6 := H.out.row.cell 6 rfl
    have x7 := H.out.row.cell 7 rfl
    have x8 := H.out.row.cell 8 rfl
    have x9 := H.out.row.cell 9 rfl
    have x10 := H.out.row.cell 10 rfl
    have x11 := H.out.row.cell 11 rfl
    have y0 := G.out.row.cell 0 rfl
    have y1 := G.out.row.cell 1 rfl
    have y2 := G.out.row.cell 2 rfl
    have y3 := G.out.row.cell 3 rfl
    have y4 := G.out.row.cell 4 rfl
    have y5 := G.out.row.cell 5 rfl
    have y6 := G.out.row.cell 6 rfl
    have y7 := G.out.row.cell 7 rfl
    have y8 := G.out.row.cell 8 rfl
    have y9 := G.out.row.cell 9 rfl
    have y10 := G.out.row.cell 10 rfl
    have y11 := G.out.row.cell 11 rfl
    go_wp2_with fail
    refine (KU.out _ _ _ H.out.rows G.out.rows).mono ?_
    rintro e Wn7 ⟨rfl, hb7⟩
    clear x0 x1 x2 x3 x4 x5 x6 x7 x8 x9 x10 x11 y0 y1 y2 y3 y4 y5 y6 y7 y8 y9 y10 y11
    replace J : Hid (JB Wn7 w.heap.size j (.slice (some ⟨bl, ol, none⟩) j.cks.length capj)) := J.out.below hb7
    replace P : Hid (PB Wn7 (w.heap.size + 1) p pv) := P.out.below hb7
    replace G : Hid (CB Wn7 (w.heap.size + 1 + 1) g gv) := G.out.below hb7
    replace H : Hid (CB Wn7 (w.heap.size + 1 + 1 + 1) h hv) := H.out.below hb7
    replace A : Hid (JB Wn7 v1.heap.size a (.slice ad1 a.cks.length cap1)) := A.out.below hb7
    replace C : Hid (KB Wn7 Wn2.heap.size c) := C.out.below hb7
    replace B : Hid (JB Wn7 v6.heap.size b (.slice ad6 b.cks.length cap6)) := B.out.below hb7
    replace S : Hid (Below w.heap.size w Wn7) := next S.out hb7
    replace SC : Hid (Below Wn2.heap.size Wn2 Wn7) := next SC.out hb7
    clear hb7
    cases u
    · go_wp2_with fail
      go_ret
      exact ⟨rfl, S.out⟩
    have x0 := B.out.row.cell 0 rfl
    have x1 := B.out.row.cell 1 rfl
    have y0 := C.out.row.cell 0 rfl
    have y1 := C.out.row.cell 1 rfl
    have y2 := C.out.row.cell 2 rfl
    have y3 := C.out.row.cell 3 rfl
    have y4 := C.out.row.cell 4 rfl
    have y5 := C.out.row.cell 5 rfl
    have y6 := C.out.row.cell 6 rfl
    have y7 := C.out.row.cell 7 rfl
    have y8 := C.out.row.cell 8 rfl
    have y9 := C.out.row.cell 9 rfl
    have y10 := C.out.row.cell 10 rfl
    have y11 := C.out.row.cell 11 rfl
    have y12 := C.out.row.cell 12 rfl
    go_wp2_with fail
    refine (KFB.out _ _ B.out.rows).mono ?_
    rintro e Wn8 ⟨rfl, hb8⟩
    clear x0 x1 y0 y1 y2 y3 y4 y5 y6 y7 y8 y9 y10 y11 y12
    replace J : Hid (JB Wn8 w.heap.size j (.slice (some ⟨bl, ol, none⟩) j.cks.length capj)) := J.out.below hb8
    replace P : Hid (PB Wn8 (w.heap.size + 1) p pv) := P.out.below hb8
    replace G : Hid (CB Wn8 (w.heap.size + 1 + 1) g gv) := G.out.below hb8
    replace H : Hid (CB Wn8 (w.heap.size + 1 + 1 + 1) h hv) := H.out.below hb8
    replace A : Hid (JB Wn8 v1.heap.size a (.slice ad1 a.cks.length cap1)) := A.out.below hb8
    replace C : Hid (KB Wn8 Wn2.heap.size c) := C.out.below hb8
    replace B : Hid (JB Wn8 v6.heap.size b (.slice ad6 b.cks.length cap6)) := B.out.below hb8
    replace S : Hid (Below w.heap.size w Wn8) := next S.out hb8
    replace SC : Hid (Below Wn2.heap.size Wn2 Wn8) := next SC.out hb8
    clear hb8
    have hfb := HLS.out HHF.out (by first | rfl | trivial) HAT.out
    go_wp2_with fail
    go_ret
    exact ⟨rfl, S.out⟩
  cases lv
  · have hat : at' < 0 := HNO.out (by rintro ⟨_, h, _⟩; cases h)
    have hat2 : ¬ 0 ≤ at' := by omega
    have HAT : Hid (at' < 0) := hat
    clear hat hat2
    have x0 := C.out.row.cell 0 rfl
    have x1 := C.out.row.cell 1 rfl
    have x2 := C.out.row.cell 2 rfl
    have x3 := C.out.row.cell 3 rfl
    have x4 := C.out.row.cell 4 rfl
    have x5 := C.out.row.cell 5 rfl
    have x6 := C.out.row.cell 6 rfl
    have x7 := C.out.row.cell 7 rfl
    have x8 := C.out.row.cell 8 rfl
    have x9 := C.out.row.cell 9 rfl
    have x10 := C.out.row.cell 10 rfl
    have x11 := C.out.row.cell 11 rfl
    have x12 := C.out.row.cell 12 rfl
    go_wp2_with fail
    refine (KV.out _).mono ?_
    rintro e Wn6 ⟨rfl, hb6⟩
    clear x0 x1 x2 x3 x4 x5 x6 x7 x8 x9 x10 x11 x12
    replace J : Hid (JB Wn6 w.heap.size j (.slice (some ⟨bl, ol, none⟩) j.cks.length capj)) := J.out.below hb6
    replace P : Hid (PB Wn6 (w.heap.size + 1) p pv) := P.out.below hb6
    replace G : Hid (CB Wn6 (w.heap.size + 1 + 1) g gv) := G.out.below hb6
    replace H : Hid (CB Wn6 (w.heap.size + 1 + 1 + 1) h hv) := H.out.below hb6
    replace A : Hid (JB Wn6 v1.heap.size a (.slice ad1 a.cks.length cap1)) := A.out.below hb6
    replace C : Hid (KB Wn6 Wn2.heap.size c) := C.out.below hb6
    replace S : Hid (Below w.heap.size w Wn6) := next S.out hb6
    replace SC : Hid (Below Wn2.heap.size Wn2 Wn6) := next SC.out hb6
    clear hb6
    have hat : at' < 0 := by have := HAT.out; omega
    have hat2 : ¬ 0 ≤ at' := by omega
    go_upto_region 15 with fail
    have x0 := J.out.row.cell 0 rfl
    have x1 := J.out.row.cell 1 rfl
    have y0 := P.out.row.cell 0 rfl
    have y1 := P.out.row.cell 1 rfl
    have y2 := P.out.row.cell 2 rfl
    have y3 := P.out.row.cell 3 rfl
    have y4 := P.out.row.cell 4 rfl
    have y5 := P.out.row.cell 5 rfl
    have y6 := P.out.row.cell 6 rfl
    have y7 := P.out.row.cell 7 rfl
    have y8 := P.out.row.cell 8 rfl
    have y9 := P.out.row.cell 9 rfl
    have y10 := P.out.row.cell 10 rfl
    have y11 := P.out.row.cell 11 rfl
    have y12 := P.out.row.cell 12 rfl
    have z0 := H.out.row.cell 0 rfl
    have z1 := H.out.row.cell 1 rfl
    have z2 := H.out.row.cell 2 rfl
    have z3 := H.out.row.cell 3 rfl
    have z4 := H.out.row.cell 4 rfl
    have z5 := H.out.row.cell 5 rfl
    have z6 := H.out.row.cell 6 rfl
    have z7 := H.out.row.cell 7 rfl
    have z8 := H.out.row.cell 8 rfl
    have z9 := H.out.row.cell 9 rfl
    have z10 := H.out.row.cell 10 rfl
    have z11 := H.out.row.cell 11 rfl
    go_wp2_with fail
    refine (K2.out _ _ _ _ J.out.rows P.out.rows H.out.rows).mono ?_
    rintro e v7 ⟨s7, rfl, r7, hb7⟩
    obtain ⟨ad7, cap7, rfl⟩ := r7.shape
    clear x0 x1 y0 y1 y2 y3 y4 y5 y6 y7 y8 y9 y10 y11 y12 z0 z1 z2 z3 z4 z5 z6 z7 z8 z9 z10 z11
    obtain ⟨W7, hW7⟩ : ∃ W7, W7 = v7.alloc (.cells #[(.slice ad7 b.cks.length cap7), .int .i64 b.next] 24) := ⟨_, rfl⟩
    have hc7 : Below Wn6.heap.size Wn6 W7 := by rw [hW7]; exact next hb7 (below_new _ _)
    replace J : Hid (JB W7 w.heap.size j (.slice (some ⟨bl, ol, none⟩) j.cks.length capj)) := J.out.below hc7
    replace P : Hid (PB W7 (w.heap.size + 1) p pv) := P.out.below hc7
    replace G : Hid (CB W7 (w.heap.size + 1 + 1) g gv) := G.out.below hc7
    replace H : Hid (CB W7 (w.heap.size + 1 + 1 + 1) h hv) := H.out.below hc7
    replace A : Hid (JB W7 v1.heap.size a (.slice ad1 a.cks.length cap1)) := A.out.below hc7
    replace C : Hid (KB W7 Wn2.heap.size c) := C.out.below hc7
    replace S : Hid (Below w.heap.size w W7) := next S.out hc7
    replace SC : Hid (Below Wn2.heap.size Wn2 W7) := next SC.out hc7
    have B : Hid (JB W7 v7.heap.size b (.slice ad7 b.cks.length cap7)) := by rw [hW7]; exact JB.new v7 b (.slice ad7 b.cks.length cap7) 24 r7
    have HW7 : Hid _ := hW7
    clear hb7 hc7 hW7
    go_upto_region 16 with fail
    rw [← HW7.out]
    clear HW7
    by_cases hF : F = 0
    rotate_left
    · have qF : (F != 0) = true := by rw [bne_iff_ne]; exact hF
      go_wp2_with fail
      go_ret
      exact ⟨rfl, S.out⟩
    have qF : (F != 0) = false := by rw [hF]; rfl
    have HHF : Hid (F = 0) := hF
    clear hF
    have x0 := H.out.row.cell 0 rfl
    have x1 := H.out.row.cell 1 rfl
    have x2 := H.out.row.cell 2 rfl
    have x3 := H.out.row.cell 3 rfl
    have x4 := H.out.row.cell 4 rfl
    have x5 := H.out.row.cell 5 rfl
    have x6 := H.out.row.cell 6 rfl
    have x7 := H.out.row.cell 7 rfl
    have x8 := H.out.row.cell 8 rfl
    have x9 := H.out.row.cell 9 rfl
    have x10 := H.out.row.cell 10 rfl
    have x11 := H.out.row.cell 11 rfl
    have y0 := G.out.row.cell 0 rfl
    have y1 := G.out.row.cell 1 rfl
    have y2 := G.out.row.cell 2 rfl
    have y3 := G.out.row.cell 3 rfl
    have y4 := G.out.row.cell 4 rfl
    have y5 := G.out.row.cell 5 rfl
    have y6 := G.out.row.cell 6 rfl
    have y7 := G.out.row.cell 7 rfl
    have y8 := G.out.row.cell 8 rfl
    have y9 := G.out.row.cell 9 rfl
    have y10 := G.out.row.cell 10 rfl
    have y11 := G.out.row.cell 11 rfl
    go_wp2_with fail
    refine (KU.out _ _ _ H.out.rows G.out.rows).mono ?_
    rintro e Wn8 ⟨rfl, hb8⟩
    clear x0 x1 x2 x3 x4 x5 x6 x7 x8 x9 x10 x11 y0 y1 y2 y3 y4 y5 y6 y7 y8 y9 y10 y11
    replace J : Hid (JB Wn8 w.heap.size j (.slice (some ⟨bl, ol, none⟩) j.cks.length capj)) := J.out.below hb8
    replace P : Hid (PB Wn8 (w.heap.size + 1) p pv) := P.out.below hb8
    replace G : Hid (CB Wn8 (w.heap.size + 1 + 1) g gv) := G.out.below hb8
    replace H : Hid (CB Wn8 (w.heap.size + 1 + 1 + 1) h hv) := H.out.below hb8
    replace A : Hid (JB Wn8 v1.heap.size a (.slice ad1 a.cks.length cap1)) := A.out.below hb8
    replace C : Hid (KB Wn8 Wn2.heap.size c) := C.out.below hb8
    replace B : Hid (JB Wn8 v7.heap.size b (.slice ad7 b.cks.length cap7)) := B.out.below hb8
    replace S : Hid (Below w.heap.size w Wn8) := next S.out hb8
    replace SC : Hid (Below Wn2.heap.size Wn2 Wn8) := next SC.out hb8
    clear hb8
    cases u
    · go_wp2_with fail
      go_ret
      exact ⟨rfl, S.out⟩
    have x0 := B.out.row.cell 0 rfl
    have x1 := B.out.row.cell 1 rfl
    have y0 := C.out.row.cell 0 rfl
    have y1 := C.out.row.cell 1 rfl
    have y2 := C.out.row.cell 2 rfl
    have y3 := C.out.row.cell 3 rfl
    have y4 := C.out.row.cell 4 rfl
    have y5 := C.out.row.cell 5 rfl
    have y6 := C.out.row.cell 6 rfl
    have y7 := C.out.row.cell 7 rfl
    have y8 := C.out.row.cell 8 rfl
    have y9 := C.out.row.cell 9 rfl
    have y10 := C.out.row.cell 10 rfl
    have y11 := C.out.row.cell 11 rfl
    have y12 := C.out.row.cell 12 rfl
    go_wp2_with fail
    refine (KFB.out _ _ B.out.rows).mono ?_
    rintro e Wn9 ⟨rfl, hb9⟩
    clear x0 x1 y0 y1 y2 y3 y4 y5 y6 y7 y8 y9 y10 y11 y12
    replace J : Hid (JB Wn9 w.heap.size j (.slice (some ⟨bl, ol, none⟩) j.cks.length capj)) := J.out.below hb9
    replace P : Hid (PB Wn9 (w.heap.size + 1) p pv) := P.out.below hb9
    replace G : Hid (CB Wn9 (w.heap.size + 1 + 1) g gv) := G.out.below hb9
    replace H : Hid (CB Wn9 (w.heap.size + 1 + 1 + 1) h hv) := H.out.below hb9
    replace A : Hid (JB Wn9 v1.heap.size a (.slice ad1 a.cks.length cap1)) := A.out.below hb9
    replace C : Hid (KB Wn9 Wn2.heap.size c) := C.out.below hb9
    replace B : Hid (JB Wn9 v7.heap.size b (.slice ad7 b.cks.length cap7)) := B.out.below hb9
    replace S : Hid (Below w.heap.size w Wn9) := next S.out hb9
    replace SC : Hid (Below Wn2.heap.size Wn2 Wn9) := next SC.out hb9
    clear hb9
    have hfb := HLS.out HHF.out (by first | rfl | trivial) HAT.out
    go_wp2_with fail
    go_ret
    exact ⟨rfl, S.out⟩
  by_cases hnow : now < N
  rotate_left
  · have hat : at' < 0 := HNO.out (by rintro ⟨_, _, h⟩; exact hnow h)
    have hat2 : ¬ 0 ≤ at' := by omega
    have HNW : Hid (¬ now < N) := hnow
    clear hnow
    have HAT : Hid (at' < 0) := hat
    clear hat hat2
    have x0 := C.out.row.cell 0 rfl
    have x1 := C.out.row.cell 1 rfl
    have x2 := C.out.row.cell 2 rfl
    have x3 := C.out.row.cell 3 rfl
    have x4 := C.out.row.cell 4 rfl
    have x5 := C.out.row.cell 5 rfl
    have x6 := C.out.row.cell 6 rfl
    have x7 := C.out.row.cell 7 rfl
    have x8 := C.out.row.cell 8 rfl
    have x9 := C.out.row.cell 9 rfl
    have x10 := C.out.row.cell 10 rfl
    have x11 := C.out.row.cell 11 rfl
    have x12 := C.out.row.cell 12 rfl
    go_wp2_with fail
    refine (KV.out _).mono ?_
    rintro e Wn6 ⟨rfl, hb6⟩
    clear x0 x1 x2 x3 x4 x5 x6 x7 x8 x9 x10 x11 x12
    replace J : Hid (JB Wn6 w.heap.size j (.slice (some ⟨bl, ol, none⟩) j.cks.length capj)) := J.out.below hb6
    replace P : Hid (PB Wn6 (w.heap.size + 1) p pv) := P.out.below hb6
    replace G : Hid (CB Wn6 (w.heap.size + 1 + 1) g gv) := G.out.below hb6
    replace H : Hid (CB Wn6 (w.heap.size + 1 + 1 + 1) h hv) := H.out.below hb6
    replace A : Hid (JB Wn6 v1.heap.size a (.slice ad1 a.cks.length cap1)) := A.out.below hb6
    replace C : Hid (KB Wn6 Wn2.heap.size c) := C.out.below hb6
    replace S : Hid (Below w.heap.size w Wn6) := next S.out hb6
    replace SC : Hid (Below Wn2.heap.size Wn2 Wn6) := next SC.out hb6
    clear hb6
    have hnow : ¬ now < N := by have := HNW.out; omega
    have hat : at' < 0 := by have := HAT.out; omega
    have hat2 : ¬ 0 ≤ at' := by omega
    have hq : (!decide (0 ≤ at') == decide (now < N)) = false := by rw [show decide (0 ≤ at') = false from decide_eq_false hat2, show decide (now < N) = false from decide_eq_false hnow]; rfl
    go_upto_region 15 with fail
    have x0 := J.out.row.cell 0 rfl
    have x1 := J.out.row.cell 1 rfl
    have y0 := P.out.row.cell 0 rfl
    have y1 := P.out.row.cell 1 rfl
    have y2 := P.out.row.cell 2 rfl
    have y3 := P.out.row.cell 3 rfl
    have y4 := P.out.row.cell 4 rfl
    have y5 := P.out.row.cell 5 rfl
    have y6 := P.out.row.cell 6 rfl
    have y7 := P.out.row.cell 7 rfl
    have y8 := P.out.row.cell 8 rfl
    have y9 := P.out.row.cell 9 rfl
    have y10 := P.out.row.cell 10 rfl
    have y11 := P.out.row.cell 11 rfl
    have y12 := P.out.row.cell 12 rfl
    have z0 := H.out.row.cell 0 rfl
    have z1 := H.out.row.cell 1 rfl
    have z2 := H.out.row.cell 2 rfl
    have z3 := H.out.row.cell 3 rfl
    have z4 := H.out.row.cell 4 rfl
    have z5 := H.out.row.cell 5 rfl
    have z6 := H.out.row.cell 6 rfl
    have z7 := H.out.row.cell 7 rfl
    have z8 := H.out.row.cell 8 rfl
    have z9 := H.out.row.cell 9 rfl
    have z10 := H.out.row.cell 10 rfl
    have z11 := H.out.row.cell 11 rfl
    go_wp2_with fail
    refine (K2.out _ _ _ _ J.out.rows P.out.rows H.out.rows).mono ?_
    rintro e v7 ⟨s7, rfl, r7, hb7⟩
    obtain ⟨ad7, cap7, rfl⟩ := r7.shape
    clear x0 x1 y0 y1 y2 y3 y4 y5 y6 y7 y8 y9 y10 y11 y12 z0 z1 z2 z3 z4 z5 z6 z7 z8 z9 z10 z11
    obtain ⟨W7, hW7⟩ : ∃ W7, W7 = v7.alloc (.cells #[(.slice ad7 b.cks.length cap7), .int .i64 b.next] 24) := ⟨_, rfl⟩
    have hc7 : Below Wn6.heap.size Wn6 W7 := by rw [hW7]; exact next hb7 (below_new _ _)
    replace J : Hid (JB W7 w.heap.size j (.slice (some ⟨bl, ol, none⟩) j.cks.length capj)) := J.out.below hc7
    replace P : Hid (PB W7 (w.heap.size + 1) p pv) := P.out.below hc7
    replace G : Hid (CB W7 (w.heap.size + 1 + 1) g gv) := G.out.below hc7
    replace H : Hid (CB W7 (w.heap.size + 1 + 1 + 1) h hv) := H.out.below hc7
    replace A : Hid (JB W7 v1.heap.size a (.slice ad1 a.cks.length cap1)) := A.out.below hc7
    replace C : Hid (KB W7 Wn2.heap.size c) := C.out.below hc7
    replace S : Hid (Below w.heap.size w W7) := next S.out hc7
    replace SC : Hid (Below Wn2.heap.size Wn2 W7) := next SC.out hc7
    have B : Hid (JB W7 v7.heap.size b (.slice ad7 b.cks.length cap7)) := by rw [hW7]; exact JB.new v7 b (.slice ad7 b.cks.length cap7) 24 r7
    have HW7 : Hid _ := hW7
    clear hb7 hc7 hW7
    go_upto_region 16 with fail
    rw [← HW7.out]
    clear HW7
    by_cases hF : F = 0
    rotate_left
    · have qF : (F != 0) = true := by rw [bne_iff_ne]; exact hF
      go_wp2_with fail
      go_ret
      exact ⟨rfl, S.out⟩
    have qF : (F != 0) = false := by rw [hF]; rfl
    have HHF : Hid (F = 0) := hF
    clear hF
    have x0 := H.out.row.cell 0 rfl
    have x1 := H.out.row.cell 1 rfl
    have x2 := H.out.row.cell 2 rfl
    have x3 := H.out.row.cell 3 rfl
    have x4 := H.out.row.cell 4 rfl
    have x5 := H.out.row.cell 5 rfl
    have x6 := H.out.row.cell 6 rfl
    have x7 := H.out.row.cell 7 rfl
    have x8 := H.out.row.cell 8 rfl
    have x9 := H.out.row.cell 9 rfl
    have x10 := H.out.row.cell 10 rfl
    have x11 := H.out.row.cell 11 rfl
    have y0 := G.out.row.cell 0 rfl
    have y1 := G.out.row.cell 1 rfl
    have y2 := G.out.row.cell 2 rfl
    have y3 := G.out.row.cell 3 rfl
    have y4 := G.out.row.cell 4 rfl
    have y5 := G.out.row.cell 5 rfl
    have y6 := G.out.row.cell 6 rfl
    have y7 := G.out.row.cell 7 rfl
    have y8 := G.out.row.cell 8 rfl
    have y9 := G.out.row.cell 9 rfl
    have y10 := G.out.row.cell 10 rfl
    have y11 := G.out.row.cell 11 rfl
    go_wp2_with fail
    refine (KU.out _ _ _ H.out.rows G.out.rows).mono ?_
    rintro e Wn8 ⟨rfl, hb8⟩
    clear x0 x1 x2 x3 x4 x5 x6 x7 x8 x9 x10 x11 y0 y1 y2 y3 y4 y5 y6 y7 y8 y9 y10 y11
    replace J : Hid (JB Wn8 w.heap.size j (.slice (some ⟨bl, ol, none⟩) j.cks.length capj)) := J.out.below hb8
    replace P : Hid (PB Wn8 (w.heap.size + 1) p pv) := P.out.below hb8
    replace G : Hid (CB Wn8 (w.heap.size + 1 + 1) g gv) := G.out.below hb8
    replace H : Hid (CB Wn8 (w.heap.size + 1 + 1 + 1) h hv) := H.out.below hb8
    replace A : Hid (JB Wn8 v1.heap.size a (.slice ad1 a.cks.length cap1)) := A.out.below hb8
    replace C : Hid (KB Wn8 Wn2.heap.size c) := C.out.below hb8
    replace B : Hid (JB Wn8 v7.heap.size b (.slice ad7 b.cks.length cap7)) := B.out.below hb8
    replace S : Hid (Below w.heap.size w Wn8) := next S.out hb8
    replace SC : Hid (Below Wn2.heap.size Wn2 Wn8) := next SC.out hb8
    clear hb8
    cases u
    · go_wp2_with fail
      go_ret
      exact ⟨rfl, S.out⟩
    have x0 := B.out.row.cell 0 rfl
    have x1 := B.out.row.cell 1 rfl
    have y0 := C.out.row.cell 0 rfl
    have y1 := C.out.row.cell 1 rfl
    have y2 := C.out.row.cell 2 rfl
    have y3 := C.out.row.cell 3 rfl
    have y4 := C.out.row.cell 4 rfl
    have y5 := C.out.row.cell 5 rfl
    have y6 := C.out.row.cell 6 rfl
    have y7 := C.out.row.cell 7 rfl
    have y8 := C.out.row.cell 8 rfl
    have y9 := C.out.row.cell 9 rfl
    have y10 := C.out.row.cell 10 rfl
    have y11 := C.out.row.cell 11 rfl
    have y12 := C.out.row.cell 12 rfl
    go_wp2_with fail
    refine (KFB.out _ _ B.out.rows).mono ?_
    rintro e Wn9 ⟨rfl, hb9⟩
    clear x0 x1 y0 y1 y2 y3 y4 y5 y6 y7 y8 y9 y10 y11 y12
    replace J : Hid (JB Wn9 w.heap.size j (.slice (some ⟨bl, ol, none⟩) j.cks.length capj)) := J.out.below hb9
    replace P : Hid (PB Wn9 (w.heap.size + 1) p pv) := P.out.below hb9
    replace G : Hid (CB Wn9 (w.heap.size + 1 + 1) g gv) := G.out.below hb9
    replace H : Hid (CB Wn9 (w.heap.size + 1 + 1 + 1) h hv) := H.out.below hb9
    replace A : Hid (JB Wn9 v1.heap.size a (.slice ad1 a.cks.length cap1)) := A.out.below hb9
    replace C : Hid (KB Wn9 Wn2.heap.size c) := C.out.below hb9
    replace B : Hid (JB Wn9 v7.heap.size b (.slice ad7 b.cks.length cap7)) := B.out.below hb9
    replace S : Hid (Below w.heap.size w Wn9) := next S.out hb9
    replace SC : Hid (Below Wn2.heap.size Wn2 Wn9) := next SC.out hb9
    clear hb9
    have hfb := HLS.out HHF.out (by first | rfl | trivial) HAT.out
    go_wp2_with fail
    go_ret
    exact ⟨rfl, S.out⟩
  have HNW : Hid (now < N) := hnow
  clear hnow
  have x0 := C.out.row.cell 0 rfl
  have x1 := C.out.row.cell 1 rfl
  have x2 := C.out.row.cell 2 rfl
  have x3 := C.out.row.cell 3 rfl
  have x4 := C.out.row.cell 4 rfl
  have x5 := C.out.row.cell 5 rfl
  have x6 := C.out.row.cell 6 rfl
  have x7 := C.out.row.cell 7 rfl
  have x8 := C.out.row.cell 8 rfl
  have x9 := C.out.row.cell 9 rfl
  have x10 := C.out.row.cell 10 rfl
  have x11 := C.out.row.cell 11 rfl
  have x12 := C.out.row.cell 12 rfl
  go_wp2_with fail
  refine (KV.out _).mono ?_
  rintro e Wn6 ⟨rfl, hb6⟩
  clear x0 x1 x2 x3 x4 x5 x6 x7 x8 x9 x10 x11 x12
  replace J : Hid (JB Wn6 w.heap.size j (.slice (some ⟨bl, ol, none⟩) j.cks.length capj)) := J.out.below hb6
  replace P : Hid (PB Wn6 (w.heap.size + 1) p pv) := P.out.below hb6
  replace G : Hid (CB Wn6 (w.heap.size + 1 + 1) g gv) := G.out.below hb6
  replace H : Hid (CB Wn6 (w.heap.size + 1 + 1 + 1) h hv) := H.out.below hb6
  replace A : Hid (JB Wn6 v1.heap.size a (.slice ad1 a.cks.length cap1)) := A.out.below hb6
  replace C : Hid (KB Wn6 Wn2.heap.size c) := C.out.below hb6
  replace S : Hid (Below w.heap.size w Wn6) := next S.out hb6
  replace SC : Hid (Below Wn2.heap.size Wn2 Wn6) := next SC.out hb6
  clear hb6
  have hnow := HNW.out
  obtain ⟨hat, hget⟩ := HYES.out (by first | rfl | trivial) (by first | rfl | trivial) hnow
  obtain ⟨q, rfl⟩ : ∃ q : Nat, at' = (q : Int) := ⟨at'.toNat, by omega⟩
  rw [Int.toNat_natCast] at hget
  have HGET : Hid _ := hget
  have hmin : min c.expiry N = mm := HMM.out.symm
  clear hget
  have f9 := C.out.row.frozen 9 rfl
  have x9 := C.out.row.cell 9 rfl
  
  obtain ⟨W9, hW9⟩ : ∃ W9, W9 = Wn6.setCell ⟨Wn2.heap.size, 9, none⟩ (.int .i64 mm) := ⟨_, rfl⟩
  have S9 : Hid (Below Wn2.heap.size Wn2 W9) := by rw [hW9]; exact SC.out.setCell (p := ⟨Wn2.heap.size, 9, none⟩) (Nat.le_refl _) _
  have C9 : Hid (KB W9 (Wn2.heap.size) { c with expiry := mm }) := by rw [hW9]; exact ⟨C.out.row.set 9 (.int .i64 mm)⟩
  have HW9 : Hid _ := hW9
  clear hW9
  replace J : Hid (JB W9 w.heap.size j (.slice (some ⟨bl, ol, none⟩) j.cks.length capj)) := OJ.out.below S9.out
  replace P : Hid (PB W9 (w.heap.size + 1) p pv) := OP.out.below S9.out
  replace G : Hid (CB W9 (w.heap.size + 1 + 1) g gv) := OG.out.below S9.out
  replace H : Hid (CB W9 (w.heap.size + 1 + 1 + 1) h hv) := OH.out.below S9.out
  replace A : Hid (JB W9 v1.heap.size a (.slice ad1 a.cks.length cap1)) := OA.out.below S9.out
  replace S : Hid (Below w.heap.size w W9) := next S0'.out S9.out
  clear C SC
  rename Hid (KB W9 _ _) => C
  have SC : Hid _ := S9
  go_upto_region 13 with fail
  rw [← HW9.out]
  clear HW9 f9 x9
  obtain ⟨ba, oa, had, hba, hca⟩ := Rows.at A.out.rows rfl 12 (fun _ => rfl) q { c with expiry := mm } HGET.out
  have hql : q < a.cks.length := (List.getElem?_eq_some_iff.1 HGET.out).1
  subst had
  have d0 : W9.cell? ⟨ba, oa + q * 13 + 0, none⟩ = some (.string (txt c.name)) := hca 0 _ rfl
  have d1 : W9.cell? ⟨ba, oa + q * 13 + 1, none⟩ = some (.string (txt c.value)) := hca 1 _ rfl
  have d2 : W9.cell? ⟨ba, oa + q * 13 + 2, none⟩ = some (.string (txt c.domain)) := hca 2 _ rfl
  have d3 : W9.cell? ⟨ba, oa + q * 13 + 3, none⟩ = some (.string (txt c.path)) := hca 3 _ rfl
  have d4 : W9.cell? ⟨ba, oa + q * 13 + 4, none⟩ = some (.bool c.hostOnly) := hca 4 _ rfl
  have d5 : W9.cell? ⟨ba, oa + q * 13 + 5, none⟩ = some (.bool c.secure) := hca 5 _ rfl
  have d6 : W9.cell? ⟨ba, oa + q * 13 + 6, none⟩ = some (.bool c.httpOnly) := hca 6 _ rfl
  have d7 : W9.cell? ⟨ba, oa + q * 13 + 7, none⟩ = some (.bool c.lasting) := hca 7 _ rfl
  have d8 : W9.cell? ⟨ba, oa + q * 13 + 8, none⟩ = some (.int .i64 c.site) := hca 8 _ rfl
  have d9 : W9.cell? ⟨ba, oa + q * 13 + 9, none⟩ = some (.int .i64 mm) := hca 9 _ rfl
  have d10 : W9.cell? ⟨ba, oa + q * 13 + 10, none⟩ = some (.int .i64 c.created) := hca 10 _ rfl
  have d11 : W9.cell? ⟨ba, oa + q * 13 + 11, none⟩ = some (.int .i64 c.used) := hca 11 _ rfl
  have d12 : W9.cell? ⟨ba, oa + q * 13 + 12, none⟩ = some (.int .i64 c.no) := hca 12 _ rfl
  rw [Nat.add_zero] at d0
  have qd : ∀ w : World, (Op.equalIn 10000 34 (.agg #[.string (txt c.name), .string (txt c.value), .string (txt c.domain), .string (txt c.path), .bool c.hostOnly, .bool c.secure, .bool c.httpOnly, .bool c.lasting, .int .i64 c.site, .int .i64 mm, .int .i64 c.created, .int .i64 c.used, .int .i64 c.no]) (.agg #[.string (txt c.name), .string (txt c.value), .string (txt c.domain), .string (txt c.path), .bool c.hostOnly, .bool c.secure, .bool c.httpOnly, .bool c.lasting, .int .i64 c.site, .int .i64 mm, .int .i64 c.created, .int .i64 c.used, .int .i64 c.no])).run Try.prog w = .ok true w := fun w => by
    have k := ck_eqIn { c with expiry := mm } { c with expiry := mm } w
    rw [(eqC_iff { c with expiry := mm } { c with expiry := mm }).2 rfl] at k
    exact k
  have x0 := C.out.row.cell 0 rfl
  have x1 := C.out.row.cell 1 rfl
  have x2 := C.out.row.cell 2 rfl
  have x3 := C.out.row.cell 3 rfl
  have x4 := C.out.row.cell 4 rfl
  have x5 := C.out.row.cell 5 rfl
  have x6 := C.out.row.cell 6 rfl
  have x7 := C.out.row.cell 7 rfl
  have x8 := C.out.row.cell 8 rfl
  have x9 := C.out.row.cell 9 rfl
  have x10 := C.out.row.cell 10 rfl
  have x11 := C.out.row.cell 11 rfl
  have x12 := C.out.row.cell 12 rfl
  have v0 := A.out.row.cell 0 rfl
  clear hca hba
  go_region
  go_upto_region 15 with fail
  clear v0 qd x0 d0 x1 d1 x2 d2 x3 d3 x4 d4 x5 d5 x6 d6 x7 d7 x8 d8 x9 d9 x10 d10 x11 d11 x12 d12
  obtain ⟨Wd, hWd⟩ : ∃ Wd, Wd = W9.drew := ⟨_, rfl⟩
  have hbd : Below W9.heap.size W9 Wd := by rw [hWd]; exact (Below.refl _ W9).drew
  rw [← hWd]
  replace J : Hid (JB Wd w.heap.size j (.slice (some ⟨bl, ol, none⟩) j.cks.length capj)) := J.out.below hbd
  replace P : Hid (PB Wd (w.heap.size + 1) p pv) := P.out.below hbd
  replace G : Hid (CB Wd (w.heap.size + 1 + 1) g gv) := G.out.below hbd
  replace H : Hid (CB Wd (w.heap.size + 1 + 1 + 1) h hv) := H.out.below hbd
  replace A : Hid (JB Wd v1.heap.size a (.slice (some ⟨ba, oa, none⟩) a.cks.length cap1)) := A.out.below hbd
  replace C : Hid (KB Wd Wn2.heap.size { c with expiry := mm }) := C.out.below hbd
  replace S : Hid (Below w.heap.size w Wd) := next S.out hbd
  replace SC : Hid (Below Wn2.heap.size Wn2 Wd) := next SC.out hbd
  clear hWd hbd
  have x0 := J.out.row.cell 0 rfl
  have x1 := J.out.row.cell 1 rfl
  have y0 := P.out.row.cell 0 rfl
  have y1 := P.out.row.cell 1 rfl
  have y2 := P.out.row.cell 2 rfl
  have y3 := P.out.row.cell 3 rfl
  have y4 := P.out.row.cell 4 rfl
  have y5 := P.out.row.cell 5 rfl
  have y6 := P.out.row.cell 6 rfl
  have y7 := P.out.row.cell 7 rfl
  have y8 := P.out.row.cell 8 rfl
  have y9 := P.out.row.cell 9 rfl
  have y10 := P.out.row.cell 10 rfl
  have y11 := P.out.row.cell 11 rfl
  have y12 := P.out.row.cell 12 rfl
  have z0 := H.out.row.cell 0 rfl
  have z1 := H.out.row.cell 1 rfl
  have z2 := H.out.row.cell 2 rfl
  have z3 := H.out.row.cell 3 rfl
  have z4 := H.out.row.cell 4 rfl
  have z5 := H.out.row.cell 5 rfl
  have z6 := H.out.row.cell 6 rfl
  have z7 := H.out.row.cell 7 rfl
  have z8 := H.out.row.cell 8 rfl
  have z9 := H.out.row.cell 9 rfl
  have z10 := H.out.row.cell 10 rfl
  have z11 := H.out.row.cell 11 rfl
  go_wp2_with fail
  refine (K2.out _ _ _ _ J.out.rows P.out.rows H.out.rows).mono ?_
  rintro e v7 ⟨s7, rfl, r7, hb7⟩
  obtain ⟨ad7, cap7, rfl⟩ := r7.shape
  clear x0 x1 y0 y1 y2 y3 y4 y5 y6 y7 y8 y9 y10 y11 y12 z0 z1 z2 z3 z4 z5 z6 z7 z8 z9 z10 z11
  obtain ⟨W7, hW7⟩ : ∃ W7, W7 = v7.alloc (.cells #[(.slice ad7 b.cks.length cap7), .int .i64 b.next] 24) := ⟨_, rfl⟩
  have hc7 : Below Wd.heap.size Wd W7 := by rw [hW7]; exact next hb7 (below_new _ _)
  replace J : Hid (JB W7 w.heap.size j (.slice (some ⟨bl, ol, none⟩) j.cks.length capj)) := J.out.below hc7
  replace P : Hid (PB W7 (w.heap.size + 1) p pv) := P.out.below hc7
  replace G : Hid (CB W7 (w.heap.size + 1 + 1) g gv) := G.out.below hc7
  replace H : Hid (CB W7 (w.heap.size + 1 + 1 + 1) h hv) := H.out.below hc7
  replace A : Hid (JB W7 v1.heap.size a (.slice (some ⟨ba, oa, none⟩) a.cks.length cap1)) := A.out.below hc7
  replace C : Hid (KB W7 Wn2.heap.size { c with expiry := mm }) := C.out.below hc7
  replace S : Hid (Below w.heap.size w W7) := next S.out hc7
  replace SC : Hid (Below Wn2.heap.size Wn2 W7) := next SC.out hc7
  have B : Hid (JB W7 v7.heap.size b (.slice ad7 b.cks.length cap7)) := by rw [hW7]; exact JB.new v7 b (.slice ad7 b.cks.length cap7) 24 r7
  have HW7 : Hid _ := hW7
  clear hb7 hc7 hW7
  go_upto_region 16 with fail
  rw [← HW7.out]
  clear HW7
  by_cases hF : F = 0
  rotate_left
  · have qF : (F != 0) = true := by rw [bne_iff_ne]; exact hF
    go_wp2_with fail
    go_ret
    exact ⟨rfl, S.out⟩
  have qF : (F != 0) = false := by rw [hF]; rfl
  have HHF : Hid (F = 0) := hF
  clear hF
  have x0 := H.out.row.cell 0 rfl
  have x1 := H.out.row.cell 1 rfl
  have x2 := H.out.row.cell 2 rfl
  have x3 := H.out.row.cell 3 rfl
  have x4 := H.out.row.cell 4 rfl
  have x5 := H.out.row.cell 5 rfl
  have x6 := H.out.row.cell 6 rfl
  have x7 := H.out.row.cell 7 rfl
  have x8 := H.out.row.cell 8 rfl
  have x9 := H.out.row.cell 9 rfl
  have x10 := H.out.row.cell 10 rfl
  have x11 := H.out.row.cell 11 rfl
  have y0 := G.out.row.cell 0 rfl
  have y1 := G.out.row.cell 1 rfl
  have y2 := G.out.row.cell 2 rfl
  have y3 := G.out.row.cell 3 rfl
  have y4 := G.out.row.cell 4 rfl
  have y5 := G.out.row.cell 5 rfl
  have y6 := G.out.row.cell 6 rfl
  have y7 := G.out.row.cell 7 rfl
  have y8 := G.out.row.cell 8 rfl
  have y9 := G.out.row.cell 9 rfl
  have y10 := G.out.row.cell 10 rfl
  have y11 := G.out.row.cell 11 rfl
  go_wp2_with fail
  refine (KU.out _ _ _ H.out.rows G.out.rows).mono ?_
  rintro e Wn8 ⟨rfl, hb8⟩
  clear x0 x1 x2 x3 x4 x5 x6 x7 x8 x9 x10 x11 y0 y1 y2 y3 y4 y5 y6 y7 y8 y9 y10 y11
  replace J : Hid (JB Wn8 w.heap.size j (.slice (some ⟨bl, ol, none⟩) j.cks.length capj)) := J.out.below hb8
  replace P : Hid (PB Wn8 (w.heap.size + 1) p pv) := P.out.below hb8
  replace G : Hid (CB Wn8 (w.heap.size + 1 + 1) g gv) := G.out.below hb8
  replace H : Hid (CB Wn8 (w.heap.size + 1 + 1 + 1) h hv) := H.out.below hb8
  replace A : Hid (JB Wn8 v1.heap.size a (.slice (some ⟨ba, oa, none⟩) a.cks.length cap1)) := A.out.below hb8
  replace C : Hid (KB Wn8 Wn2.heap.size { c with expiry := mm }) := C.out.below hb8
  replace B : Hid (JB Wn8 v7.heap.size b (.slice ad7 b.cks.length cap7)) := B.out.below hb8
  replace S : Hid (Below w.heap.size w Wn8) := next S.out hb8
  replace SC : Hid (Below Wn2.heap.size Wn2 Wn8) := next SC.out hb8
  clear hb8
  cases u
  · go_wp2_with fail
    go_ret
    exact ⟨rfl, S.out⟩
  have x0 := B.out.row.cell 0 rfl
  have x1 := B.out.row.cell 1 rfl
  have y0 := C.out.row.cell 0 rfl
  have y1 := C.out.row.cell 1 rfl
  have y2 := C.out.row.cell 2 rfl
  have y3 := C.out.row.cell 3 rfl
  have y4 := C.out.row.cell 4 rfl
  have y5 := C.out.row.cell 5 rfl
  have y6 := C.out.row.cell 6 rfl
  have y7 := C.out.row.cell 7 rfl
  have y8 := C.out.row.cell 8 rfl
  have y9 := C.out.row.cell 9 rfl
  have y10 := C.out.row.cell 10 rfl
  have y11 := C.out.row.cell 11 rfl
  have y12 := C.out.row.cell 12 rfl
  go_wp2_with fail
  refine (KFM.out _ _ B.out.rows).mono ?_
  rintro e Wn9 ⟨rfl, hb9⟩
  clear x0 x1 y0 y1 y2 y3 y4 y5 y6 y7 y8 y9 y10 y11 y12
  replace J : Hid (JB Wn9 w.heap.size j (.slice (some ⟨bl, ol, none⟩) j.cks.length capj)) := J.out.below hb9
  replace P : Hid (PB Wn9 (w.heap.size + 1) p pv) := P.out.below hb9
  replace G : Hid (CB Wn9 (w.heap.size + 1 + 1) g gv) := G.out.below hb9
  replace H : Hid (CB Wn9 (w.heap.size + 1 + 1 + 1) h hv) := H.out.below hb9
  replace A : Hid (JB Wn9 v1.heap.size a (.slice (some ⟨ba, oa, none⟩) a.cks.length cap1)) := A.out.below hb9
  replace C : Hid (KB Wn9 Wn2.heap.size { c with expiry := mm }) := C.out.below hb9
  replace B : Hid (JB Wn9 v7.heap.size b (.slice ad7 b.cks.length cap7)) := B.out.below hb9
  replace S : Hid (Below w.heap.size w Wn9) := next S.out hb9
  replace SC : Hid (Below Wn2.heap.size Wn2 Wn9) := next SC.out hb9
  clear hb9
  by_cases hfb : fb < 0
  · go_wp2_with fail
    go_ret
    exact ⟨rfl, S.out⟩
  · go_wp2_with fail
    go_ret
    exact ⟨rfl, S.out⟩
set_option maxRecDepth 100000 in
theorem lifted (os : Os) (started : os.Started) (H : Type) (enc : TypeId × Value → H) (F : Stop.Interp) :
    ReturnsInHanded {} Try.checked os 6 .any ((Rows.OpenSpec.upto Rows.purgeKeepsSpec).pre6 enc Try.prog Try.f6 Rows.purgeKeepsUptoRow.domain false) (((Rows.OpenSpec.upto Rows.purgeKeepsSpec).at F).post enc Try.prog Try.f6 false true false false) := by
  refine returnsInHanded_of_cond (C := Try.checked) (s := (Rows.OpenSpec.upto Rows.purgeKeepsSpec)) (k := Rows.uptoSmall) rfl own started (by kernel_rfl) Try.func6
    (OpenSpec.witness (enc := enc) (C := Try.checked) (s := (Rows.OpenSpec.upto Rows.purgeKeepsSpec)) (k := Rows.uptoSmall) rfl false ⟨#[], #[.agg #[.slice none 0 0, .int .i64 0], .agg #[.slice none 0 0, .int .i64 0, .int .i64 0, .int .i64 0, .int .i64 0, .int .i64 0, .int .i64 0, .int .i64 0, .int .i64 0, .int .i64 0, .int .i64 0, .int .i64 0, .int .i64 0], .agg #[.int .i64 0, .bool false, .bool false, .bool false, .bool false, .bool false, .bool false, .bool false, .bool false, .bool false, .bool false, .slice none 0 0], .agg #[.int .i64 0, .bool false, .bool false, .bool false, .bool false, .bool false, .bool false, .bool false, .bool false, .bool false, .bool false, .slice none 0 0], .int .i64 0, .int .i64 0], []⟩ 8 (by kernel_rfl) (by kernel_rfl) (by kernel_rfl)
      (x := ([.agg [.nil, .lit (.int .i64 0)], .agg [.nil, .lit (.int .i64 0), .agg [.lit (.int .i64 0), .lit (.int .i64 0), .lit (.int .i64 0), .lit (.int .i64 0), .lit (.int .i64 0), .lit (.int .i64 0), .lit (.int .i64 0), .lit (.int .i64 0), .lit (.int .i64 0), .lit (.int .i64 0), .lit (.int .i64 0)]], .agg [.lit (.int .i64 0), .agg [.lit (.bool false), .lit (.bool false), .lit (.bool false), .lit (.bool false), .lit (.bool false), .lit (.bool false), .lit (.bool false), .lit (.bool false), .lit (.bool false), .lit (.bool false)], .nil], .agg [.lit (.int .i64 0), .agg [.lit (.bool false), .lit (.bool false), .lit (.bool false), .lit (.bool false), .lit (.bool false), .lit (.bool false), .lit (.bool false), .lit (.bool false), .lit (.bool false), .lit (.bool false)], .nil], .lit (.int .i64 0), .lit (.int .i64 0)], [], [])) (by kernel_rfl) rfl (by kernel_rfl)) ?_
  intro W base args ds gs before hval0 hW hcnd hk _
  have hval : ∀ (j : Nat) t v, Try.f6.params[j]? = some t → args[j]? = some v → Value.okWide Try.prog W .any base t v := hval0
  have hW' := hW
  obtain ⟨p, q, hA0, hV, rfl, hfz, hnd⟩ := hW
  have hA : DataW.TrodAll enc Try.prog W 0 (fun _ => true) true Try.f6.params.toList args.toList ds p := hA0
  rw [Try.params6] at hA hval
  obtain ⟨v0, vs0, d0, ds0, p0, q0, hargs, rfl, rfl, h0, r0⟩ := trodAll_cons hA
  obtain ⟨v1, vs1, d1, ds1, p1, q1, rfl, rfl, rfl, h1, r1⟩ := trodAll_cons r0
  obtain ⟨v2, vs2, d2, ds2, p2, q2, rfl, rfl, rfl, h2, r2⟩ := trodAll_cons r1
  obtain ⟨v3, vs3, d3, ds3, p3, q3, rfl, rfl, rfl, h3, r3⟩ := trodAll_cons r2
  obtain ⟨v4, vs4, d4, ds4, p4, q4, rfl, rfl, rfl, h4, r4⟩ := trodAll_cons r3
  obtain ⟨v5, vs5, d5, ds5, p5, q5, rfl, rfl, rfl, h5, r5⟩ := trodAll_cons r4
  obtain ⟨rfl, rfl, rfl⟩ := trodAll_nil r5
  obtain rfl : args = #[v0, v1, v2, v3, v4, v5] := by cases args; simp_all
  obtain ⟨rfl, rfl⟩ := trodVars_none hV
  have k0 := h0
  have lt0 : ∀ x ∈ p0, x.block < W.heap.size := by obtain ⟨m, hm⟩ := k0; exact DataW.trod_lt m _ _ _ hm
  have k1 := h1
  have lt1 : ∀ x ∈ p1, x.block < W.heap.size := by obtain ⟨m, hm⟩ := k1; exact DataW.trod_lt m _ _ _ hm
  have k2 := h2
  have lt2 : ∀ x ∈ p2, x.block < W.heap.size := by obtain ⟨m, hm⟩ := k2; exact DataW.trod_lt m _ _ _ hm
  have k3 := h3
  have lt3 : ∀ x ∈ p3, x.block < W.heap.size := by obtain ⟨m, hm⟩ := k3; exact DataW.trod_lt m _ _ _ hm
  have k4 := h4
  have lt4 : ∀ x ∈ p4, x.block < W.heap.size := by obtain ⟨m, hm⟩ := k4; exact DataW.trod_lt m _ _ _ hm
  have k5 := h5
  have lt5 : ∀ x ∈ p5, x.block < W.heap.size := by obtain ⟨m, hm⟩ := k5; exact DataW.trod_lt m _ _ _ hm
  obtain ⟨ja0, jv0, rfl, rd0, ok0, bk0⟩ := open_jar (hval 0 24 v0 rfl rfl) k0 maxLen (fits_max _)
  obtain ⟨po1, pv1, rfl, rd1, ok1, bk1⟩ := open_policy (hval 1 28 v1 rfl rfl) k1 maxLen (fits_max _)
  obtain ⟨c2, vv2, rfl, rd2, ok2, bk2⟩ := open_consent (hval 2 32 v2 rfl rfl) k2 maxLen (fits_max _)
  obtain ⟨c3, vv3, rfl, rd3, ok3, bk3⟩ := open_consent (hval 3 32 v3 rfl rfl) k3 maxLen (fits_max _)
  obtain ⟨x4, rfl, rfl, hp4, w4⟩ := open_int Try.underlying3 (hval 4 3 v4 rfl rfl) h4
  have b4 := i64_of w4
  obtain ⟨x5, rfl, rfl, hp5, w5⟩ := open_int Try.underlying3 (hval 5 3 v5 rfl rfl) h5
  have b5 := i64_of w5
  have hbulk := bulk_of hk
  simp only [List.cons_append, List.nil_append, List.append_nil, Rows.uptoBulkAll] at hbulk
  have hbk0 := bk0
  have hbk1 := bk1
  have hbk2 := bk2
  have hbk3 := bk3
  clear hA0 hval0
  refine (walk ja0 jv0 po1 pv1 c2 vv2 c3 vv3 x4 x5 W rd0 ok0 rd1 ok1 rd2 ok2 rd3 ok3 b4 b5 (by omega)).mono fun e W' ⟨he, bel⟩ => ?_
  subst he
  exact ⟨_, rfl, _, _, _, [], _, [], hW', trodAll_mk1 (shut_bool Try.underlying4 _), (trodAll_cons_mk (Below.trod laidOut (by kernel_rfl) (of_decide_eq_true (by kernel_rfl)) k0 bel lt0) (trodAll_cons_mk (Below.trod laidOut (by kernel_rfl) (of_decide_eq_true (by kernel_rfl)) k1 bel lt1) (trodAll_cons_mk (Below.trod laidOut (by kernel_rfl) (of_decide_eq_true (by kernel_rfl)) k2 bel lt2) (trodAll_cons_mk (Below.trod laidOut (by kernel_rfl) (of_decide_eq_true (by kernel_rfl)) k3 bel lt3) (trodAll_cons_mk (Below.trod laidOut (by kernel_rfl) (of_decide_eq_true (by kernel_rfl)) k4 bel lt4) (trodAll_cons_mk (Below.trod laidOut (by kernel_rfl) (of_decide_eq_true (by kernel_rfl)) k5 bel lt5) trodAll_mk0)))))), rfl, bel.frame _, fun h => by cases h⟩

theorem proved : Rows.PurgeKeepsUptoSaid :=
  OpenClaim.holds_of_cond 6 Try.f6 rfl rfl rfl rfl rfl rfl rfl ⟨rfl, rfl, rfl, rfl, rfl⟩ rfl rfl rfl rfl rfl (by kernel_rfl) Try.func6 (by kernel_rfl)
    (of_decide_eq_true (by kernel_rfl)) (by unfold Func.isWrapper; first | (rw [if_pos (by decide +kernel)]; kernel_rfl) | (rw [if_neg (by decide +kernel)]; exact ⟨rfl, rfl⟩))
    (fun os started H enc _ F => lifted os started H enc F)
#print axioms proved
end Go.Proofs.Ytcfdajaideidkaa.purgeKeeps
