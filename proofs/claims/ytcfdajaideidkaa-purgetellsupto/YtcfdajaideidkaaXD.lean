/- Are two lists of cookies, two jars one? Who is the same? The contracts of the reference's SameCookies, SameJar, SameKey, Find. The contract of purgeBegun. -/
import Derived.Test.YtcfdajaideidkaaCkEq
import Derived.Test.YtcfdajaideidkaaKit3
import Derived.Test.YtcfdajaideidkaaKit4
import Derived.Test.YtcfdajaideidkaaXB
import Derived.Deep.RegionHeld3
import Derived.Deep.Cut
import Derived.Test.YtcfdajaideidkaaXC
import Derived.Test.YtcfdajaideidkaaXI
import Derived.Test.YtcfdajaideidkaaXH
namespace Go.Proofs.Ytcfdajaideidkaa
open Go.RowKit
set_option linter.all false
set_option maxRecDepth 100000
set_option maxRecDepth 100000

def eqL : List Ck → List Ck → Bool
  | [], [] => true
  | a :: r, b :: q => eqC a b && eqL r q
  | _, _ => false
theorem eqL_iff (l r : List Ck) : eqL l r = true ↔ l = r := by
  induction l generalizing r with
  | nil => cases r <;> simp [eqL]
  | cons a l ih => cases r with
    | nil => simp [eqL]
    | cons b r => simp [eqL, eqC_iff, ih]
theorem eqL_no {l r : List Ck} (h : l ≠ r) : eqL l r = false := by
  rw [← Bool.not_eq_true, eqL_iff]; exact h
set_option maxHeartbeats 4000000 in
theorem sameCk_any (va vb : Value) (a b : List Ck) (w : World) (ha : Rows w va ckC a) (hb : Rows w vb ckC b) (hma : a.length ≤ maxLen) (hmb : b.length ≤ maxLen) :
    Calls Try.prog 35 #[va, vb] w fun e w' => e = .returned (.bool (eqL a b)) ∧ ∃ n, w' = w.drewN n := by
  obtain ⟨ada, capa, rfl⟩ := ha.shape
  obtain ⟨adb, capb, rfl⟩ := hb.shape
  have HRA : Hid _ := ha
  have HRB : Hid _ := hb
  unfold maxLen at hma hmb
  obtain ⟨q, hq⟩ : ∃ q, q = eqL a b := ⟨_, rfl⟩
  rw [← hq]
  have HQ : Hid _ := hq
  clear ha hb hq
  by_cases hl : a.length = b.length
  · have HL : Hid _ := hl
    have z2 : ((a.length : Int) != (b.length : Int)) = false := by rw [hl]; simp
    have z2' : ((a.length : Int) == (b.length : Int)) = true := by rw [hl]; simp
    clear hl
    go_enter Try.func35, Try.ntmps35
    go_wp2_with fail
    go_loopw [5] (fun i wr => ∃ k n : Nat, k ≤ a.length ∧ i = .int .i64 k ∧ wr = w.drewN n ∧ Hid (∀ (j : Nat) x y, a[j]? = some x → b[j]? = some y → j < k → x = y)) (fun i _ => a.length - (intOf i).toNat)
    case atStart => exact ⟨0, 0, Nat.zero_le _, rfl, rfl, fun _ _ _ _ _ h => absurd h (by omega)⟩
    case round =>
      obtain ⟨k, n, hk, rfl, rfl, hall⟩ := hrel
      by_cases hlt : k < a.length
      · have hltb : k < b.length := by have := HL.out; omega
        obtain ⟨x, hx⟩ : ∃ x, a[k]? = some x := ⟨_, List.getElem?_eq_getElem hlt⟩
        obtain ⟨y, hy⟩ : ∃ y, b[k]? = some y := ⟨_, List.getElem?_eq_getElem hltb⟩
        obtain ⟨ba, oa, rfl, hbla, hcla⟩ := Rows.at HRA.out rfl 12 (fun _ => rfl) k _ hx
        obtain ⟨bb, ob, rfl, hblb, hclb⟩ := Rows.at HRB.out rfl 12 (fun _ => rfl) k _ hy
        have p0 := hcla 0 _ rfl
        have p1 := hcla 1 _ rfl
        have p2 := hcla 2 _ rfl
        have p3 := hcla 3 _ rfl
        have p4 := hcla 4 _ rfl
        have p5 := hcla 5 _ rfl
        have p6 := hcla 6 _ rfl
        have p7 := hcla 7 _ rfl
        have p8 := hcla 8 _ rfl
        have p9 := hcla 9 _ rfl
        have p10 := hcla 10 _ rfl
        have p11 := hcla 11 _ rfl
        have p12 := hcla 12 _ rfl
        have q0 := hclb 0 _ rfl
        have q1 := hclb 1 _ rfl
        have q2 := hclb 2 _ rfl
        have q3 := hclb 3 _ rfl
        have q4 := hclb 4 _ rfl
        have q5 := hclb 5 _ rfl
        have q6 := hclb 6 _ rfl
        have q7 := hclb 7 _ rfl
        have q8 := hclb 8 _ rfl
        have q9 := hclb 9 _ rfl
        have q10 := hclb 10 _ rfl
        have q11 := hclb 11 _ rfl
        have q12 := hclb 12 _ rfl
        rw [Nat.add_zero] at p0 q0
        have HX : Hid _ := hx
        have HY : Hid _ := hy
        have hE := ck_eqIn x y
        simp only [ckC] at hE
        obtain ⟨e, he⟩ : ∃ e, e = eqC x y := ⟨_, rfl⟩
        have HEE : Hid _ := he
        rw [← he] at hE
        clear hx hy hcla hclb he
        cases e
        · have HT : Hid (q = false) := by
            show _ = _
            rw [HQ.out]
            refine eqL_no (fun e => ?_)
            have h1 : x = y := by
              have h2 := HX.out
              rw [e, HY.out] at h2
              injection h2 with h2
              exact h2.symm
            have := HEE.out
            rw [(eqC_iff x y).2 h1] at this
            cases this
          go_wp2_with fail
          go_quiet (fail)
          go_wp2_with fail
          go_ret
          exact ⟨by rw [HT.out]; rfl, _, World.drewN_drewN _ _ _⟩
        · have HXY : Hid (x = y) := (eqC_iff x y).1 HEE.out.symm
          go_wp2_with fail
          go_quiet (fail)
          go_wp2_with fail
          go_roundw
          case rel =>
            refine ⟨k + 1, _, by omega, by go_num, by first | rfl | exact World.drewN_drewN _ _ _, fun j x' y' hj hj2 hlt2 => ?_⟩
            by_cases e : j = k
            · subst e
              rw [HX.out] at hj
              rw [HY.out] at hj2
              injection hj with hj
              injection hj2 with hj2
              rw [← hj, ← hj2]; exact HXY.out
            · exact hall.out j x' y' hj hj2 (by omega)
          case measure => simp [intOf]; omega
      · have HT : Hid (q = true) := by
          show _ = _
          rw [HQ.out, eqL_iff]
          apply List.ext_getElem?
          intro j
          have hll := HL.out
          rcases Nat.lt_or_ge j a.length with hj | hj
          · have e1 := List.getElem?_eq_getElem hj
            have e2 := List.getElem?_eq_getElem (l := b) (i := j) (by omega)
            rw [e1, e2, hall.out j _ _ e1 e2 (by omega)]
          · rw [List.getElem?_eq_none hj, List.getElem?_eq_none (by omega)]
        go_wp2_with fail
        go_ret
        exact ⟨by rw [HT.out]; rfl, n, rfl⟩
  · have z2 : ((a.length : Int) != (b.length : Int)) = true := by rw [bne_iff_ne]; omega
    have z2' : ((a.length : Int) == (b.length : Int)) = false := by rw [beq_eq_false_iff_ne]; omega
    have HT : Hid (q = false) := HQ.out.trans (eqL_no (fun e => hl (by rw [e])))
    clear hl
    go_enter Try.func35, Try.ntmps35
    go_wp2_with fail
    go_ret
    exact ⟨by rw [HT.out]; rfl, 0, rfl⟩

def eqJ (a b : Ja) : Bool := decide (a.next = b.next) && eqL a.cks b.cks
theorem eqJ_iff (a b : Ja) : eqJ a b = true ↔ a = b := by
  obtain ⟨a1, a2⟩ := a
  obtain ⟨b1, b2⟩ := b
  simp only [eqJ, Bool.and_eq_true, decide_eq_true_eq, eqL_iff, Ja.mk.injEq]
  exact ⟨fun ⟨h1, h2⟩ => ⟨h2, h1⟩, fun ⟨h1, h2⟩ => ⟨h2, h1⟩⟩
set_option maxHeartbeats 2000000 in
theorem sameJar_any (va vb : Value) (a b : Ja) (w : World) (ha : Rows w va ckC a.cks) (hb : Rows w vb ckC b.cks) (hma : a.cks.length ≤ maxLen) (hmb : b.cks.length ≤ maxLen) :
    Calls Try.prog 12 #[.agg #[va, .int .i64 a.next], .agg #[vb, .int .i64 b.next]] w fun e w' => e = .returned (.bool (eqJ a b)) ∧ Below w.heap.size w w' := by
  obtain ⟨q, hq⟩ : ∃ q, q = eqL a.cks b.cks := ⟨_, rfl⟩
  obtain ⟨W0, hW0⟩ : ∃ W0, W0 = (w.alloc (.cells #[va, .int .i64 a.next] 24)).alloc (.cells #[vb, .int .i64 b.next] 24) := ⟨_, rfl⟩
  have S : Hid (Below w.heap.size w W0) := by rw [hW0]; exact ((Below.refl _ w).alloc (Nat.le_refl _) _).alloc (by simp) _
  have A : Hid (LRow W0 w.heap.size [va, .int .i64 a.next]) := by
    rw [hW0]; exact (LRow.new w [va, .int .i64 a.next] _).below ((Below.refl _ _).alloc (Nat.le_refl _) _) (by simp)
  have B : Hid (LRow W0 (w.heap.size + 1) [vb, .int .i64 b.next]) := by
    rw [hW0]
    have h := LRow.new (w.alloc (.cells #[va, .int .i64 a.next] 24)) [vb, .int .i64 b.next] 24
    rw [show (w.alloc (.cells #[va, .int .i64 a.next] 24)).heap.size = w.heap.size + 1 from by simp] at h
    exact h
  have K : Hid (Calls Try.prog 35 #[va, vb] W0 fun e w' => e = .returned (.bool q) ∧ ∃ n, w' = W0.drewN n) := by
    rw [hq]; exact sameCk_any va vb _ _ W0 (Rows.below ha S.out (Nat.le_refl _)) (Rows.below hb S.out (Nat.le_refl _)) hma hmb
  have HW0 : Hid _ := hW0
  by_cases h1 : a.next = b.next
  · have e1 : (a.next == b.next) = true := by rw [h1]; simp
    have HQ : Hid (eqJ a b = q) := by show _ = _; unfold eqJ; rw [← hq]; simp [h1]
    rw [HQ.out]
    clear hq hW0 ha hb hma hmb h1
    go_enter Try.func12, Try.ntmps12
    go_upto_region 1 with fail
    rw [← HW0.out]
    clear HW0
    have x0 := A.out.cell 0 rfl
    have x1 := A.out.cell 1 rfl
    have y0 := B.out.cell 0 rfl
    have y1 := B.out.cell 1 rfl
    go_wp2_with fail
    refine K.out.mono ?_
    rintro e w1 ⟨rfl, nn, hw1⟩
    have HB : Hid (Below w.heap.size w w1) := by rw [hw1]; exact S.out.trans (below_drewN' W0 w.heap.size nn)
    clear hw1 x0 x1 y0 y1
    go_wp2_with fail
    go_ret
    exact ⟨rfl, HB.out⟩
  · have e1 : (a.next == b.next) = false := by rw [beq_eq_false_iff_ne]; exact h1
    have HQ : Hid (eqJ a b = false) := by show _ = _; unfold eqJ; simp [h1]
    rw [HQ.out]
    clear hq hW0 ha hb hma hmb h1
    go_enter Try.func12, Try.ntmps12
    go_upto_region 1 with fail
    rw [← HW0.out]
    clear HW0
    have x0 := A.out.cell 0 rfl
    have x1 := A.out.cell 1 rfl
    have y0 := B.out.cell 0 rfl
    have y1 := B.out.cell 1 rfl
    go_wp2_with fail
    go_ret
    exact ⟨rfl, S.out⟩
set_option maxHeartbeats 2000000 in
theorem sameKey_any (a b : Ck) (w : World) : Calls Try.prog 48 #[.agg #[.string (txt a.name), .string (txt a.value), .string (txt a.domain), .string (txt a.path), .bool a.hostOnly, .bool a.secure, .bool a.httpOnly, .bool a.lasting, .int .i64 a.site, .int .i64 a.expiry, .int .i64 a.created, .int .i64 a.used, .int .i64 a.no], .agg #[.string (txt b.name), .string (txt b.value), .string (txt b.domain), .string (txt b.path), .bool b.hostOnly, .bool b.secure, .bool b.httpOnly, .bool b.lasting, .int .i64 b.site, .int .i64 b.expiry, .int .i64 b.created, .int .i64 b.used, .int .i64 b.no]] w fun e w' => e = .returned (.bool (sameK a b)) ∧ Below w.heap.size w w' := by
  have HB : Hid (∀ x y, Below w.heap.size w ((w.alloc x).alloc y)) := fun x y => ((Below.refl _ _).alloc (Nat.le_refl _) _).alloc (by simp) _
  have T : ∀ x y : List UInt8, ((txt x).toList == (txt y).toList) = (x == y) := fun x y => by rw [Lib.toList_data, Lib.toList_data]; rfl
  have t1 := T a.name b.name
  have t2 := T a.domain b.domain
  have t3 := T a.path b.path
  obtain ⟨q1, h1⟩ : ∃ q, q = (a.name == b.name) := ⟨_, rfl⟩
  obtain ⟨q2, h2⟩ : ∃ q, q = (a.domain == b.domain) := ⟨_, rfl⟩
  obtain ⟨q3, h3⟩ : ∃ q, q = (a.path == b.path) := ⟨_, rfl⟩
  have HQ : Hid (sameK a b = (q1 && (q2 && q3))) := by show _ = _; rw [h1, h2, h3]; rfl
  rw [HQ.out]
  rw [← h1] at t1
  rw [← h2] at t2
  rw [← h3] at t3
  clear h1 h2 h3 T
  cases q1 <;> cases q2 <;> cases q3 <;> (
    go_enter Try.func48, Try.ntmps48
    go_wp2_with fail
    go_ret
    exact ⟨rfl, HB.out _ _⟩)
/-- the place of the first that is the same -/
def findI (l : List Ck) (c : Ck) : Int := match l.findIdx? (fun x => sameK x c) with | some i => (i : Int) | none => -1
theorem findI_at (l : List Ck) (c : Ck) (k : Nat) (x : Ck) (h : l[k]? = some x) (hs : sameK x c = true) (hall : ∀ (j : Nat) y, j < k → l[j]? = some y → sameK y c = false) : findI l c = (k : Int) := by
  have hlt := (List.getElem?_eq_some_iff.1 h).1
  have : l.findIdx? (fun x => sameK x c) = some k := by
    rw [List.findIdx?_eq_some_iff_getElem]
    refine ⟨hlt, ?_, fun j hj => ?_⟩
    · have := (List.getElem?_eq_some_iff.1 h).2; rw [this]; exact hs
    · rw [hall j _ hj (List.getElem?_eq_getElem (Nat.lt_trans hj hlt))]; decide
  unfold findI; rw [this]
theorem findI_none (l : List Ck) (c : Ck) (hall : ∀ (j : Nat) y, l[j]? = some y → sameK y c = false) : findI l c = -1 := by
  have : l.findIdx? (fun x => sameK x c) = none := by
    rw [List.findIdx?_eq_none_iff]
    intro x hx
    obtain ⟨j, hj⟩ := List.getElem?_of_mem hx
    exact hall j x hj
  unfold findI; rw [this]
set_option maxHeartbeats 4000000 in
theorem find_any (v : Value) (j : Ja) (c : Ck) (w : World) (hr : Rows w v ckC j.cks) (hm : j.cks.length ≤ maxLen) :
    Calls Try.prog 19 #[.agg #[v, .int .i64 j.next], .agg #[.string (txt c.name), .string (txt c.value), .string (txt c.domain), .string (txt c.path), .bool c.hostOnly, .bool c.secure, .bool c.httpOnly, .bool c.lasting, .int .i64 c.site, .int .i64 c.expiry, .int .i64 c.created, .int .i64 c.used, .int .i64 c.no]] w fun e w' => e = .returned (.int .i64 (findI j.cks c)) ∧ Below w.heap.size w w' := by
  obtain ⟨ad, cap, rfl⟩ := hr.shape
  obtain ⟨z, hz⟩ : ∃ z, z = findI j.cks c := ⟨_, rfl⟩
  obtain ⟨nx, hnx⟩ : ∃ nx, nx = j.next := ⟨_, rfl⟩
  obtain ⟨l, hl⟩ : ∃ l, l = j.cks := ⟨_, rfl⟩
  rw [← hz, ← hnx]
  rw [← hl] at hr hm hz ⊢
  obtain ⟨n, hn⟩ : ∃ n, n = l.length := ⟨_, rfl⟩
  have HN : Hid _ := hn
  have HZ : Hid _ := hz
  rw [← hn] at hm ⊢
  have HR : Hid (Rows w (.slice ad n cap) ckC l) := by rw [HN.out]; exact hr
  unfold maxLen at hm
  obtain ⟨W0, hW0⟩ : ∃ W0, W0 = (w.alloc (.cells #[.slice ad n cap, .int .i64 nx] 24)).alloc (.cells #[.string (txt c.name), .string (txt c.value), .string (txt c.domain), .string (txt c.path), .bool c.hostOnly, .bool c.secure, .bool c.httpOnly, .bool c.lasting, .int .i64 c.site, .int .i64 c.expiry, .int .i64 c.created, .int .i64 c.used, .int .i64 c.no] 34) := ⟨_, rfl⟩
  have S : Hid (Below w.heap.size w W0) := by rw [hW0]; exact ((Below.refl _ w).alloc (Nat.le_refl _) _).alloc (by simp) _
  have J : Hid (QB W0 w.heap.size [.slice ad n cap, .int .i64 nx]) := by
    rw [hW0]; exact (QB.new w [.slice ad n cap, .int .i64 nx] _).below (below_new _ _)
  have C : Hid (KB W0 (w.heap.size + 1) c) := by
    rw [hW0]
    have h := KB.new (w.alloc (.cells #[.slice ad n cap, .int .i64 nx] 24)) c 34
    rw [show (w.alloc (.cells #[.slice ad n cap, .int .i64 nx] 24)).heap.size = w.heap.size + 1 from by simp] at h
    exact h
  have HW0 : Hid _ := hW0
  clear hz hnx hl hn hr hW0
  go_enter Try.func19, Try.ntmps19
  go_upto_region 1 with fail
  rw [← HW0.out]
  clear HW0
  go_wp2_with fail
  go_loopw [5] (fun i wr => ∃ k : Nat, k ≤ n ∧ i = .int .i64 (k : Int) ∧ Hid (Below W0.heap.size W0 wr) ∧ Hid (∀ (q : Nat) y, q < k → l[q]? = some y → sameK y c = false)) (fun i _ => n - (intOf i).toNat)
  case atStart => exact ⟨0, Nat.zero_le _, rfl, Below.refl _ _, fun _ _ h => absurd h (by omega)⟩
  case round =>
    obtain ⟨k, hk, rfl, hb, hall⟩ := hrel
    have Jr : Hid (QB wr w.heap.size [.slice ad n cap, .int .i64 nx]) := J.out.below hb.out
    have Cr : Hid (KB wr (w.heap.size + 1) c) := C.out.below hb.out
    have HSr : Hid (Below w.heap.size w wr) := next S.out hb.out
    by_cases hlt : k < n
    · obtain ⟨x, e1⟩ : ∃ r, l[k]? = some r := ⟨_, List.getElem?_eq_getElem (by rw [← HN.out]; exact hlt)⟩
      obtain ⟨bl, ol, rfl, hbl, hcell⟩ := Rows.at HR.out rfl 12 (fun _ => rfl) k x e1
      have cc : ∀ i u, (ckC x)[i]? = some u → wr.cell? ⟨bl, ol + k * 13 + i, none⟩ = some u := fun i u h => (HSr.out.cell (p := ⟨bl, ol + k * 13 + i, none⟩) hbl).trans (hcell i u h)
      have d0 : ∀ w', Below wr.heap.size wr w' → w'.cell? ⟨bl, ol + k * 13, none⟩ = some (.string (txt x.name)) := fun w' h => by have q := cc 0 _ rfl; rw [Nat.add_zero] at q; exact (h.cell (p := ⟨bl, ol + k * 13, none⟩) (cell_in q)).trans q
      have d1 : ∀ w', Below wr.heap.size wr w' → w'.cell? ⟨bl, ol + k * 13 + 1, none⟩ = some (.string (txt x.value)) := fun w' h => (h.cell (p := ⟨bl, ol + k * 13 + 1, none⟩) (cell_in (cc 1 _ rfl))).trans (cc 1 _ rfl)
      have d2 : ∀ w', Below wr.heap.size wr w' → w'.cell? ⟨bl, ol + k * 13 + 2, none⟩ = some (.string (txt x.domain)) := fun w' h => (h.cell (p := ⟨bl, ol + k * 13 + 2, none⟩) (cell_in (cc 2 _ rfl))).trans (cc 2 _ rfl)
      have d3 : ∀ w', Below wr.heap.size wr w' → w'.cell? ⟨bl, ol + k * 13 + 3, none⟩ = some (.string (txt x.path)) := fun w' h => (h.cell (p := ⟨bl, ol + k * 13 + 3, none⟩) (cell_in (cc 3 _ rfl))).trans (cc 3 _ rfl)
      have d4 : ∀ w', Below wr.heap.size wr w' → w'.cell? ⟨bl, ol + k * 13 + 4, none⟩ = some (.bool x.hostOnly) := fun w' h => (h.cell (p := ⟨bl, ol + k * 13 + 4, none⟩) (cell_in (cc 4 _ rfl))).trans (cc 4 _ rfl)
      have d5 : ∀ w', Below wr.heap.size wr w' → w'.cell? ⟨bl, ol + k * 13 + 5, none⟩ = some (.bool x.secure) := fun w' h => (h.cell (p := ⟨bl, ol + k * 13 + 5, none⟩) (cell_in (cc 5 _ rfl))).trans (cc 5 _ rfl)
      have d6 : ∀ w', Below wr.heap.size wr w' → w'.cell? ⟨bl, ol + k * 13 + 6, none⟩ = some (.bool x.httpOnly) := fun w' h => (h.cell (p := ⟨bl, ol + k * 13 + 6, none⟩) (cell_in (cc 6 _ rfl))).trans (cc 6 _ rfl)
      have d7 : ∀ w', Below wr.heap.size wr w' → w'.cell? ⟨bl, ol + k * 13 + 7, none⟩ = some (.bool x.lasting) := fun w' h => (h.cell (p := ⟨bl, ol + k * 13 + 7, none⟩) (cell_in (cc 7 _ rfl))).trans (cc 7 _ rfl)
      have d8 : ∀ w', Below wr.heap.size wr w' → w'.cell? ⟨bl, ol + k * 13 + 8, none⟩ = some (.int .i64 x.site) := fun w' h => (h.cell (p := ⟨bl, ol + k * 13 + 8, none⟩) (cell_in (cc 8 _ rfl))).trans (cc 8 _ rfl)
      have d9 : ∀ w', Below wr.heap.size wr w' → w'.cell? ⟨bl, ol + k * 13 + 9, none⟩ = some (.int .i64 x.expiry) := fun w' h => (h.cell (p := ⟨bl, ol + k * 13 + 9, none⟩) (cell_in (cc 9 _ rfl))).trans (cc 9 _ rfl)
      have d10 : ∀ w', Below wr.heap.size wr w' → w'.cell? ⟨bl, ol + k * 13 + 10, none⟩ = some (.int .i64 x.created) := fun w' h => (h.cell (p := ⟨bl, ol + k * 13 + 10, none⟩) (cell_in (cc 10 _ rfl))).trans (cc 10 _ rfl)
      have d11 : ∀ w', Below wr.heap.size wr w' → w'.cell? ⟨bl, ol + k * 13 + 11, none⟩ = some (.int .i64 x.used) := fun w' h => (h.cell (p := ⟨bl, ol + k * 13 + 11, none⟩) (cell_in (cc 11 _ rfl))).trans (cc 11 _ rfl)
      have d12 : ∀ w', Below wr.heap.size wr w' → w'.cell? ⟨bl, ol + k * 13 + 12, none⟩ = some (.int .i64 x.no) := fun w' h => (h.cell (p := ⟨bl, ol + k * 13 + 12, none⟩) (cell_in (cc 12 _ rfl))).trans (cc 12 _ rfl)
      have x0 : ∀ w', Below wr.heap.size wr w' → w'.cell? ⟨w.heap.size + 1, 0, none⟩ = some (.string (txt c.name)) := fun w' h => (Cr.out.below h).row.cell 0 rfl
      have x1 : ∀ w', Below wr.heap.size wr w' → w'.cell? ⟨w.heap.size + 1, 1, none⟩ = some (.string (txt c.value)) := fun w' h => (Cr.out.below h).row.cell 1 rfl
      have x2 : ∀ w', Below wr.heap.size wr w' → w'.cell? ⟨w.heap.size + 1, 2, none⟩ = some (.string (txt c.domain)) := fun w' h => (Cr.out.below h).row.cell 2 rfl
      have x3 : ∀ w', Below wr.heap.size wr w' → w'.cell? ⟨w.heap.size + 1, 3, none⟩ = some (.string (txt c.path)) := fun w' h => (Cr.out.below h).row.cell 3 rfl
      have x4 : ∀ w', Below wr.heap.size wr w' → w'.cell? ⟨w.heap.size + 1, 4, none⟩ = some (.bool c.hostOnly) := fun w' h => (Cr.out.below h).row.cell 4 rfl
      have x5 : ∀ w', Below wr.heap.size wr w' → w'.cell? ⟨w.heap.size + 1, 5, none⟩ = some (.bool c.secure) := fun w' h => (Cr.out.below h).row.cell 5 rfl
      have x6 : ∀ w', Below wr.heap.size wr w' → w'.cell? ⟨w.heap.size + 1, 6, none⟩ = some (.bool c.httpOnly) := fun w' h => (Cr.out.below h).row.cell 6 rfl
      have x7 : ∀ w', Below wr.heap.size wr w' → w'.cell? ⟨w.heap.size + 1, 7, none⟩ = some (.bool c.lasting) := fun w' h => (Cr.out.below h).row.cell 7 rfl
      have x8 : ∀ w', Below wr.heap.size wr w' → w'.cell? ⟨w.heap.size + 1, 8, none⟩ = some (.int .i64 c.site) := fun w' h => (Cr.out.below h).row.cell 8 rfl
      have x9 : ∀ w', Below wr.heap.size wr w' → w'.cell? ⟨w.heap.size + 1, 9, none⟩ = some (.int .i64 c.expiry) := fun w' h => (Cr.out.below h).row.cell 9 rfl
      have x10 : ∀ w', Below wr.heap.size wr w' → w'.cell? ⟨w.heap.size + 1, 10, none⟩ = some (.int .i64 c.created) := fun w' h => (Cr.out.below h).row.cell 10 rfl
      have x11 : ∀ w', Below wr.heap.size wr w' → w'.cell? ⟨w.heap.size + 1, 11, none⟩ = some (.int .i64 c.used) := fun w' h => (Cr.out.below h).row.cell 11 rfl
      have x12 : ∀ w', Below wr.heap.size wr w' → w'.cell? ⟨w.heap.size + 1, 12, none⟩ = some (.int .i64 c.no) := fun w' h => (Cr.out.below h).row.cell 12 rfl
      have y0 : ∀ w', Below wr.heap.size wr w' → w'.cell? ⟨w.heap.size, 0, none⟩ = some (.slice (some ⟨bl, ol, none⟩) n cap) := fun w' h => (Jr.out.below h).row.cell 0 rfl
      obtain ⟨q, hq⟩ : ∃ q, q = sameK x c := ⟨_, rfl⟩
      have KS : Hid (∀ w', Calls Try.prog 48 #[.agg #[.string (txt x.name), .string (txt x.value), .string (txt x.domain), .string (txt x.path), .bool x.hostOnly, .bool x.secure, .bool x.httpOnly, .bool x.lasting, .int .i64 x.site, .int .i64 x.expiry, .int .i64 x.created, .int .i64 x.used, .int .i64 x.no], .agg #[.string (txt c.name), .string (txt c.value), .string (txt c.domain), .string (txt c.path), .bool c.hostOnly, .bool c.secure, .bool c.httpOnly, .bool c.lasting, .int .i64 c.site, .int .i64 c.expiry, .int .i64 c.created, .int .i64 c.used, .int .i64 c.no]] w' fun e w'' => e = .returned (.bool q) ∧ Below w'.heap.size w' w'') := fun w' => by rw [hq]; exact sameKey_any x c w'
      have HE : Hid _ := e1
      have HQ : Hid _ := hq
      have z0 := y0 wr (Below.refl _ _)
      clear e1 hcell hbl cc hq
      go_upto_region 4 with fail
      clear z0
      go_region_held3 (fun w' => Below wr.heap.size wr w') (first | assumption | exact (Below.refl _ wr).drew | exact Below.refl _ wr | fail)
        (first
        | (go_at_call 48
           refine (KS.out _).mono ?_
           rintro e w3 ⟨rfl, hb3⟩
           have hS3 : Below wr.heap.size wr w3 := Below.trans (by first | exact (Below.refl _ wr).drew | assumption) (hb3.mono (by first | exact Nat.le_refl _ | exact Below.size (by assumption)))
           clear hb3)
        | fail)
      have HS3 : Hid _ := hS3
      clear hS3 KS x0 x1 x2 x3 x4 x5 x6 x7 x8 x9 x10 x11 x12 d0 d1 d2 d3 d4 d5 d6 d7 d8 d9 d10 d11 d12 y0
      cases q
      · have HA : Hid (∀ (q : Nat) y, q < k + 1 → l[q]? = some y → sameK y c = false) := fun q y hq hy => by
          by_cases e : q = k
          · subst e
            rw [HE.out] at hy
            injection hy with hy
            rw [← hy]; exact HQ.out.symm
          · exact hall.out q y (by omega) hy
        go_wp2_with fail
        go_roundw
        case rel => exact ⟨k + 1, by omega, by go_num, next hb.out HS3.out, HA⟩
        case measure => simp [intOf]; omega
      · have HZ1 : Hid (z = (k : Int)) := by show _ = _; rw [HZ.out]; exact findI_at l c k x HE.out HQ.out.symm hall.out
        go_wp2_with fail
        go_ret
        exact ⟨by rw [HZ1.out]; rfl, next HSr.out HS3.out⟩
    · have HZ1 : Hid (z = -1) := by show _ = _; rw [HZ.out]; exact findI_none l c (fun q y hy => hall.out q y (by have := (List.getElem?_eq_some_iff.1 hy).1; rw [← HN.out] at this; omega) hy)
      have y0 := Jr.out.row.cell 0 rfl
      go_wp2_with fail
      go_ret
      exact ⟨by rw [HZ1.out]; rfl, HSr.out⟩
end Go.Proofs.Ytcfdajaideidkaa
namespace Go.Proofs.Ytcfdajaideidkaa
open Go.RowKit
set_option linter.all false
set_option maxRecDepth 100000
set_option maxRecDepth 100000

theorem rows_lrow {α : Type} {f : α → List Value} {W : World} {B cap : Nat} {l : List α} (h : LRow W B (l.flatMap f)) : Rows W (.slice (some ⟨B, 0, none⟩) l.length cap) f l :=
  ⟨_, _, rfl, .inr ⟨B, 0, rfl, fun j u hj => by rw [Nat.zero_add]; exact h.cell j hj⟩⟩
theorem pr_i (w3 : World) (l : List Ck) (n : Int) (t u : TypeId) : LRow ((w3.alloc (.cells (l.flatMap ckC).toArray t)).alloc (.cells #[.slice (some ⟨w3.heap.size, 0, none⟩) l.length l.length, .int .i64 n] u)) (w3.heap.size + 1) [.slice (some ⟨w3.heap.size, 0, none⟩) l.length l.length, .int .i64 n]
    ∧ Rows ((w3.alloc (.cells (l.flatMap ckC).toArray t)).alloc (.cells #[.slice (some ⟨w3.heap.size, 0, none⟩) l.length l.length, .int .i64 n] u)) (.slice (some ⟨w3.heap.size, 0, none⟩) l.length l.length) ckC l := by
  refine ⟨?_, rows_lrow ((LRow.new w3 (l.flatMap ckC) t).below (below_new _ _) (by simp))⟩
  have h := LRow.new (w3.alloc (.cells (l.flatMap ckC).toArray t)) [.slice (some ⟨w3.heap.size, 0, none⟩) l.length l.length, .int .i64 n] u
  rw [show (w3.alloc (.cells (l.flatMap ckC).toArray t)).heap.size = w3.heap.size + 1 from by simp] at h
  exact h
theorem pr_ii (w3 : World) (l : List Ck) (n : Int) (t u : TypeId) : LRow ((w3.alloc (.cells #[.slice (some ⟨w3.heap.size + 1, 0, none⟩) l.length l.length, .int .i64 n] u)).alloc (.cells (l.flatMap ckC).toArray t)) w3.heap.size [.slice (some ⟨w3.heap.size + 1, 0, none⟩) l.length l.length, .int .i64 n]
    ∧ Rows ((w3.alloc (.cells #[.slice (some ⟨w3.heap.size + 1, 0, none⟩) l.length l.length, .int .i64 n] u)).alloc (.cells (l.flatMap ckC).toArray t)) (.slice (some ⟨w3.heap.size + 1, 0, none⟩) l.length l.length) ckC l := by
  refine ⟨(LRow.new w3 [.slice (some ⟨w3.heap.size + 1, 0, none⟩) l.length l.length, .int .i64 n] u).below (below_new _ _) (by simp), ?_⟩
  have h := LRow.new (w3.alloc (.cells #[.slice (some ⟨w3.heap.size + 1, 0, none⟩) l.length l.length, .int .i64 n] u)) (l.flatMap ckC) t
  rw [show (w3.alloc (.cells #[.slice (some ⟨w3.heap.size + 1, 0, none⟩) l.length l.length, .int .i64 n] u)).heap.size = w3.heap.size + 1 from by simp] at h
  exact rows_lrow h
theorem pr_iii (w3 : World) (l : List Ck) (n : Int) (t : TypeId) (p : Nat) {z0 z1 : Value} (h : LRow w3 p [z0, z1]) : LRow (((w3.alloc (.cells (l.flatMap ckC).toArray t)).setCell ⟨p, 0, none⟩ (.slice (some ⟨w3.heap.size, 0, none⟩) l.length l.length)).setCell ⟨p, 1, none⟩ (.int .i64 n)) p [.slice (some ⟨w3.heap.size, 0, none⟩) l.length l.length, .int .i64 n]
    ∧ Rows (((w3.alloc (.cells (l.flatMap ckC).toArray t)).setCell ⟨p, 0, none⟩ (.slice (some ⟨w3.heap.size, 0, none⟩) l.length l.length)).setCell ⟨p, 1, none⟩ (.int .i64 n)) (.slice (some ⟨w3.heap.size, 0, none⟩) l.length l.length) ckC l := by
  have hp : p < w3.heap.size := cell_in (h.cell 0 rfl)
  have hne : w3.heap.size ≠ p := by omega
  exact ⟨((h.below (below_new _ _) hp).set 0 _).set 1 _, rows_lrow (rowSet (rowSet (LRow.new w3 (l.flatMap ckC) t) hne) hne)⟩
theorem early2 {W P wC : World} {q m : Nat} {e : TypeId} {z0 z1 v : Value} {cs : List Value} (n : LRow P q [z0, z1]) (hb : Below P.heap.size P wC) (own : wC.ownsRow P.heap.size e 13 v m cs) (hS : Below W.heap.size W wC) (hq : W.heap.size ≤ q) (x y : Value) :
    (LRow ((wC.setCell ⟨q, 0, none⟩ x).setCell ⟨q, 1, none⟩ y) q [x, y] ∧ ((wC.setCell ⟨q, 0, none⟩ x).setCell ⟨q, 1, none⟩ y).ownsRow P.heap.size e 13 v m cs ∧ Below W.heap.size W ((wC.setCell ⟨q, 0, none⟩ x).setCell ⟨q, 1, none⟩ y)) ∧ wC.cell? ⟨q, 0, none⟩ = some z0 ∧ wC.cell? ⟨q, 1, none⟩ = some z1 ∧ wC.frozen? ⟨q, 0, none⟩ = false ∧ wC.frozen? ⟨q, 1, none⟩ = false := by
  have hlt : q < P.heap.size := cell_in (n.cell 0 rfl)
  have nC := n.below hb hlt
  exact ⟨⟨(nC.set 0 _).set 1 _, own_set' (own_set' own hlt) hlt, (hS.setCell (p := ⟨q, 0, none⟩) hq _).setCell (p := ⟨q, 1, none⟩) hq _⟩, nC.cell 0 rfl, nC.cell 1 rfl, nC.frozen 0 rfl, nC.frozen 1 rfl⟩
def cAd : Ck := { cIdt with name := [97, 100, 95, 120], expiry := 5000, no := 1 }
def cAe : Ck := { cAd with expiry := 1050 }
def jX : Ja := ⟨[cIdt, cAd], 2⟩
theorem pb1 : chPu jX poR agC 1010 = 0 ∧ eqL (keepL poR agC 1010 jX.cks) [cIdt, cAe] = true := by decide +kernel
theorem pb2 : chPu jX poR c0 1010 = 0 ∧ eqL (keepL poR c0 1010 jX.cks) [cIdt] = true := by decide +kernel
theorem pb3 : gateE poR c0 cAd = 8 ∧ eqC (gateC poR c0 cAd) ckZ = true := by decide +kernel
theorem pb4 : gateE poR agC cAd = 0 ∧ eqC (gateC poR agC cAd) cAe = true := by decide +kernel
theorem agC_ok : CnOk agC := ⟨by decide, inR_small _ (by decide)⟩
theorem cAd_ok : CkOk 140737488351232 cAd := ⟨by simp [cAd, cIdt], by simp [cAd, cIdt], by simp [cAd, cIdt], by simp [cAd, cIdt], by simp [cAd, cIdt, i64B], by simp [cAd, i64B], by simp [cAd, cIdt, i64B], by simp [cAd, cIdt, i64B], by simp [cAd, i64B]⟩
theorem jX_ok : JaOk 140737488351232 jX := ⟨by decide, fun c hc => by
  simp only [jX, List.mem_cons, List.not_mem_nil, or_false] at hc
  rcases hc with rfl | rfl
  · exact cIdt_ok
  · exact cAd_ok, by simp [jX, i64B]⟩
set_option maxHeartbeats 16000000 in
theorem purgeBegun_any (w : World) : Calls Try.prog 11 #[] w fun e w' => e = .returned (.bool true) ∧ Below w.heap.size w w' := by
  have KP1 : Hid (∀ w' vj vp vg, Rows w' vj ckC jX.cks → Rows w' vp ruC poR.rules → Rows w' vg intF agC.vs → Calls Try.prog 7 #[.agg #[vj, .int .i64 2], .agg #[vp, .int .i64 1, .int .i64 100, .int .i64 60, .int .i64 60, .int .i64 60, .int .i64 50, .int .i64 60, .int .i64 60, .int .i64 60, .int .i64 60, .int .i64 60, .int .i64 60], .agg #[.int .i64 1000, .bool true, .bool false, .bool false, .bool true, .bool false, .bool false, .bool false, .bool false, .bool false, .bool false, vg], .int .i64 1010] w' fun e w'' => ∃ v', e = .returned (.tuple #[.agg #[v', .int .i64 2], .int .i64 0, .int .i64 0]) ∧ w''.ownsRow w'.heap.size 34 13 v' ([cIdt, cAe] : List Ck).length (([cIdt, cAe] : List Ck).flatMap ckC) ∧ Below w'.heap.size w' w'') := fun w' vj vp vg h1 h2 h3 => by
    have k := purge_any jX vj poR vp agC vg 1010 w' h1 jX_ok h2 poR_po h3 agC_ok
    rw [show purJ jX poR agC 1010 = ⟨[cIdt, cAe], 2⟩ from by unfold purJ; rw [if_pos pb1.1, (eqL_iff _ _).1 pb1.2]; rfl, show purN jX poR agC 1010 = 0 from by unfold purN; rw [if_pos pb1.1, (eqL_iff _ _).1 pb1.2]; rfl, pb1.1] at k
    exact k
  have KP2 : Hid (∀ w' vj vp vg, Rows w' vj ckC jX.cks → Rows w' vp ruC poR.rules → Rows w' vg intF c0.vs → Calls Try.prog 7 #[.agg #[vj, .int .i64 2], .agg #[vp, .int .i64 1, .int .i64 100, .int .i64 60, .int .i64 60, .int .i64 60, .int .i64 50, .int .i64 60, .int .i64 60, .int .i64 60, .int .i64 60, .int .i64 60, .int .i64 60], .agg #[.int .i64 0, .bool false, .bool false, .bool false, .bool false, .bool false, .bool false, .bool false, .bool false, .bool false, .bool false, vg], .int .i64 1010] w' fun e w'' => ∃ v', e = .returned (.tuple #[.agg #[v', .int .i64 2], .int .i64 1, .int .i64 0]) ∧ w''.ownsRow w'.heap.size 34 13 v' ([cIdt] : List Ck).length (([cIdt] : List Ck).flatMap ckC) ∧ Below w'.heap.size w' w'') := fun w' vj vp vg h1 h2 h3 => by
    have k := purge_any jX vj poR vp c0 vg 1010 w' h1 jX_ok h2 poR_po h3 c0_ok
    rw [show purJ jX poR c0 1010 = ⟨[cIdt], 2⟩ from by unfold purJ; rw [if_pos pb2.1, (eqL_iff _ _).1 pb2.2]; rfl, show purN jX poR c0 1010 = 1 from by unfold purN; rw [if_pos pb2.1, (eqL_iff _ _).1 pb2.2]; rfl, pb2.1] at k
    exact k
  have KG3 : Hid (∀ w' vp vg, Rows w' vp ruC poR.rules → Rows w' vg intF c0.vs → Calls Try.prog 8 #[.agg #[vp, .int .i64 1, .int .i64 100, .int .i64 60, .int .i64 60, .int .i64 60, .int .i64 50, .int .i64 60, .int .i64 60, .int .i64 60, .int .i64 60, .int .i64 60, .int .i64 60], .agg #[.int .i64 0, .bool false, .bool false, .bool false, .bool false, .bool false, .bool false, .bool false, .bool false, .bool false, .bool false, vg], .agg #[.string (txt [97, 100, 95, 120]), .string (txt [55]), .string (txt [115, 104, 111, 112, 46, 99, 111, 109]), .string (txt [47, 99, 97, 114, 116]), .bool false, .bool true, .bool false, .bool true, .int .i64 0, .int .i64 5000, .int .i64 1000, .int .i64 1000, .int .i64 1]] w' fun e w'' => e = .returned (.tuple #[.agg #[.string ⟨#[]⟩, .string ⟨#[]⟩, .string ⟨#[]⟩, .string ⟨#[]⟩, .bool false, .bool false, .bool false, .bool false, .int .i64 0, .int .i64 0, .int .i64 0, .int .i64 0, .int .i64 0], .int .i64 8]) ∧ Below w'.heap.size w' w'') := fun w' vp vg h1 h2 => by
    have k := gate_any poR vp c0 vg cAd w' h1 poR_po h2 c0_ok cAd_ok
    rw [(eqC_iff _ _).1 pb3.2, pb3.1] at k
    exact k
  have KG4 : Hid (∀ w' vp vg, Rows w' vp ruC poR.rules → Rows w' vg intF agC.vs → Calls Try.prog 8 #[.agg #[vp, .int .i64 1, .int .i64 100, .int .i64 60, .int .i64 60, .int .i64 60, .int .i64 50, .int .i64 60, .int .i64 60, .int .i64 60, .int .i64 60, .int .i64 60, .int .i64 60], .agg #[.int .i64 1000, .bool true, .bool false, .bool false, .bool true, .bool false, .bool false, .bool false, .bool false, .bool false, .bool false, vg], .agg #[.string (txt [97, 100, 95, 120]), .string (txt [55]), .string (txt [115, 104, 111, 112, 46, 99, 111, 109]), .string (txt [47, 99, 97, 114, 116]), .bool false, .bool true, .bool false, .bool true, .int .i64 0, .int .i64 5000, .int .i64 1000, .int .i64 1000, .int .i64 1]] w' fun e w'' => e = .returned (.tuple #[.agg #[.string (txt [97, 100, 95, 120]), .string (txt [55]), .string (txt [115, 104, 111, 112, 46, 99, 111, 109]), .string (txt [47, 99, 97, 114, 116]), .bool false, .bool true, .bool false, .bool true, .int .i64 0, .int .i64 1050, .int .i64 1000, .int .i64 1000, .int .i64 1], .int .i64 0]) ∧ Below w'.heap.size w' w'') := fun w' vp vg h1 h2 => by
    have k := gate_any poR vp agC vg cAd w' h1 poR_po h2 agC_ok cAd_ok
    rw [(eqC_iff _ _).1 pb4.2, pb4.1] at k
    exact k
  have KI : Hid (∀ w', Calls Try.prog 32 #[] w' fun e w'' => e = .returned (.agg #[.string (txt [105, 100]), .string (txt [55]), .string (txt [115, 104, 111, 112, 46, 99, 111, 109]), .string (txt [47, 99, 97, 114, 116]), .bool false, .bool true, .bool false, .bool true, .int .i64 0, .int .i64 1060, .int .i64 1000, .int .i64 1000, .int .i64 0]) ∧ Below w'.heap.size w' w'') := fun w' => identP_any w'
  go_enter Try.func11, Try.ntmps11
  go_wp2_with fail
  refine (KI.out _).mono ?_
  rintro e w1 ⟨rfl, hb1⟩
  obtain ⟨W1, hW1⟩ : ∃ W1, W1 = w1.alloc (.cells #[.string (txt [105, 100]), .string (txt [55]), .string (txt [115, 104, 111, 112, 46, 99, 111, 109]), .string (txt [47, 99, 97, 114, 116]), .bool false, .bool true, .bool false, .bool true, .int .i64 0, .int .i64 1060, .int .i64 1000, .int .i64 1000, .int .i64 0] 34) := ⟨_, rfl⟩
  have l1 : LRow W1 w1.heap.size (ckC cIdt) := by rw [hW1]; exact LRow.new w1 (ckC cIdt) 34
  have g0 := l1.cell 0 rfl
  have f0 := l1.frozen 0 rfl
  have g12 := l1.cell 12 rfl
  have f12 := l1.frozen 12 rfl
  have g9 := l1.cell 9 rfl
  have f9 := l1.frozen 9 rfl
  obtain ⟨W2, hW2⟩ : ∃ W2, W2 = ((W1.setCell ⟨w1.heap.size, 0, none⟩ (.string ⟨#[97, 100, 95, 120]⟩)).setCell ⟨w1.heap.size, 12, none⟩ (.int .i64 1)).setCell ⟨w1.heap.size, 9, none⟩ (.int .i64 5000) := ⟨_, rfl⟩
  have L2 : Hid (LRow W2 w1.heap.size (ckC cAd)) := by rw [hW2]; exact ((l1.set 0 _).set 12 _).set 9 _
  have S2 : Hid (Below w.heap.size w W2) := by
    have h1 : Below w.heap.size w W1 := by rw [hW1]; exact next hb1 (below_new' _ _)
    rw [hW2]
    iterate 3 refine Below.setCell ?_ hb1.size _
    exact h1
  have HW1 : Hid _ := hW1
  have HW2 : Hid _ := hW2
  clear l1 hW1 hW2 hb1
  go_upto_region 2 with fail
  rw [← HW1.out]
  go_upto_region 3 with fail
  rw [← HW2.out]
  clear HW1 HW2 g0 f0 g12 f12 g9 f9
  have x0 : ∀ w', Below W2.heap.size W2 w' → w'.cell? ⟨w1.heap.size, 0, none⟩ = some (.string (txt [97, 100, 95, 120])) := fun w' h => (L2.out.below h (cell_in (L2.out.cell 0 rfl))).cell 0 rfl
  have x1 : ∀ w', Below W2.heap.size W2 w' → w'.cell? ⟨w1.heap.size, 1, none⟩ = some (.string (txt [55])) := fun w' h => (L2.out.below h (cell_in (L2.out.cell 0 rfl))).cell 1 rfl
  have x2 : ∀ w', Below W2.heap.size W2 w' → w'.cell? ⟨w1.heap.size, 2, none⟩ = some (.string (txt [115, 104, 111, 112, 46, 99, 111, 109])) := fun w' h => (L2.out.below h (cell_in (L2.out.cell 0 rfl))).cell 2 rfl
  have x3 : ∀ w', Below W2.heap.size W2 w' → w'.cell? ⟨w1.heap.size, 3, none⟩ = some (.string (txt [47, 99, 97, 114, 116])) := fun w' h => (L2.out.below h (cell_in (L2.out.cell 0 rfl))).cell 3 rfl
  have x4 : ∀ w', Below W2.heap.size W2 w' → w'.cell? ⟨w1.heap.size, 4, none⟩ = some (.bool false) := fun w' h => (L2.out.below h (cell_in (L2.out.cell 0 rfl))).cell 4 rfl
  have x5 : ∀ w', Below W2.heap.size W2 w' → w'.cell? ⟨w1.heap.size, 5, none⟩ = some (.bool true) := fun w' h => (L2.out.below h (cell_in (L2.out.cell 0 rfl))).cell 5 rfl
  have x6 : ∀ w', Below W2.heap.size W2 w' → w'.cell? ⟨w1.heap.size, 6, none⟩ = some (.bool false) := fun w' h => (L2.out.below h (cell_in (L2.out.cell 0 rfl))).cell 6 rfl
  have x7 : ∀ w', Below W2.heap.size W2 w' → w'.cell? ⟨w1.heap.size, 7, none⟩ = some (.bool true) := fun w' h => (L2.out.below h (cell_in (L2.out.cell 0 rfl))).cell 7 rfl
  have x8 : ∀ w', Below W2.heap.size W2 w' → w'.cell? ⟨w1.heap.size, 8, none⟩ = some (.int .i64 0) := fun w' h => (L2.out.below h (cell_in (L2.out.cell 0 rfl))).cell 8 rfl
  have x9 : ∀ w', Below W2.heap.size W2 w' → w'.cell? ⟨w1.heap.size, 9, none⟩ = some (.int .i64 5000) := fun w' h => (L2.out.below h (cell_in (L2.out.cell 0 rfl))).cell 9 rfl
  have x10 : ∀ w', Below W2.heap.size W2 w' → w'.cell? ⟨w1.heap.size, 10, none⟩ = some (.int .i64 1000) := fun w' h => (L2.out.below h (cell_in (L2.out.cell 0 rfl))).cell 10 rfl
  have x11 : ∀ w', Below W2.heap.size W2 w' → w'.cell? ⟨w1.heap.size, 11, none⟩ = some (.int .i64 1000) := fun w' h => (L2.out.below h (cell_in (L2.out.cell 0 rfl))).cell 11 rfl
  have x12 : ∀ w', Below W2.heap.size W2 w' → w'.cell? ⟨w1.heap.size, 12, none⟩ = some (.int .i64 1) := fun w' h => (L2.out.below h (cell_in (L2.out.cell 0 rfl))).cell 12 rfl
  go_cut [2] from 17 to 20 (fun s2 wx => ∃ p b : Nat, s2 = .pointer (some ⟨p, 0, none⟩) ∧ Hid (LRow wx p [.slice (some ⟨b, 0, none⟩) 2 2, .int .i64 2]) ∧ Hid (Rows wx (.slice (some ⟨b, 0, none⟩) 2 2) ckC [cIdt, cAd]) ∧ Hid (Below W2.heap.size W2 wx))
  case first =>
    have NZ : Hid True := trivial
    go_region_held3 (fun w' => Below W2.heap.size W2 w') (first | assumption | ((repeat (first | assumption | refine Below.drew ?_ | refine keepA ?_ _ | refine Below.setCell ?_ (by first | exact Nat.le_refl _ | exact Below.size (by assumption) | exact Nat.le_succ_of_le (Below.size (by assumption))) _)); first | done | exact Below.refl _ _) | fail)
      (first
      | (go_at_call 32
         refine (KI.out _).mono ?_
         rintro e w3 ⟨rfl, hb3⟩
         have hS3 : Below W2.heap.size W2 w3 := Below.trans (by first | exact (Below.refl _ W2).drew | assumption) (hb3.mono (by first | exact Nat.le_refl _ | exact Below.size (by assumption)))
         have HS3' : Hid _ := hS3
         try (have NA : Hid (LRow w3 W2.heap.size [.slice none 0 0, .int .i64 0]) := (LRow.new W2.drew [.slice none 0 0, .int .i64 0] 24).below hb3 (by simp)
              have NB : Hid (LRow (w3.alloc (.cells #[.string (txt [105, 100]), .string (txt [55]), .string (txt [115, 104, 111, 112, 46, 99, 111, 109]), .string (txt [47, 99, 97, 114, 116]), .bool false, .bool true, .bool false, .bool true, .int .i64 0, .int .i64 1060, .int .i64 1000, .int .i64 1000, .int .i64 0, .string (txt [97, 100, 95, 120]), .string (txt [55]), .string (txt [115, 104, 111, 112, 46, 99, 111, 109]), .string (txt [47, 99, 97, 114, 116]), .bool false, .bool true, .bool false, .bool true, .int .i64 0, .int .i64 5000, .int .i64 1000, .int .i64 1000, .int .i64 1] 34)) W2.heap.size [.slice none 0 0, .int .i64 0]) := NA.out.below (below_new _ _) (cell_in (NA.out.cell 0 rfl))
              have n0 := NA.out.cell 0 rfl
              have n1 := NA.out.cell 1 rfl
              have z0 := NA.out.frozen 0 rfl
              have z1 := NA.out.frozen 1 rfl
              have m0 := NB.out.cell 0 rfl
              have m1 := NB.out.cell 1 rfl
              have y0 := NB.out.frozen 0 rfl
              have y1 := NB.out.frozen 1 rfl)
         clear hb3)
      | fail)
    all_goals (go_wp2_with fail; go_meet)
    all_goals first
      | exact ⟨_, _, rfl, (pr_i w3 [cIdt, cAd] 2 34 24).1, (pr_i w3 [cIdt, cAd] 2 34 24).2, keepA (keepA HS3'.out _) _⟩
      | exact ⟨_, _, rfl, (pr_ii w3 [cIdt, cAd] 2 34 24).1, (pr_ii w3 [cIdt, cAd] 2 34 24).2, keepA (keepA HS3'.out _) _⟩
      | exact ⟨_, _, rfl, (pr_iii w3 [cIdt, cAd] 2 34 _ NA.out).1, (pr_iii w3 [cIdt, cAd] 2 34 _ NA.out).2, ((keepA HS3'.out _).setCell (p := ⟨W2.heap.size, 0, none⟩) (Nat.le_refl _) _).setCell (p := ⟨W2.heap.size, 1, none⟩) (Nat.le_refl _) _⟩
  case rest =>
  obtain ⟨p, b, rfl, HJ, HRJ, HS3⟩ := hcut
  rename World => W3
  clear x0 x1 x2 x3 x4 x5 x6 x7 x8 x9 x10 x11 x12
  go_upto_region 4 with fail
  have y0 : ∀ w', Below W3.heap.size W3 w' → w'.cell? ⟨p, 0, none⟩ = some (.slice (some ⟨b, 0, none⟩) 2 2) := fun w' h => (HJ.out.below h (cell_in (HJ.out.cell 0 rfl))).cell 0 rfl
  have y1 : ∀ w', Below W3.heap.size W3 w' → w'.cell? ⟨p, 1, none⟩ = some (.int .i64 2) := fun w' h => (HJ.out.below h (cell_in (HJ.out.cell 0 rfl))).cell 1 rfl
  go_cut [3, 4, 5] from 21 to 28 (fun s3 s4 s5 wx => ∃ p3 ad3 cap3, s3 = .pointer (some ⟨p3, 0, none⟩) ∧ s4 = .int .i64 0 ∧ s5 = .int .i64 0 ∧ Hid (LRow wx p3 [.slice ad3 2 cap3, .int .i64 2]) ∧ Hid (Rows wx (.slice ad3 2 cap3) ckC [cIdt, cAe]) ∧ Hid (Below W3.heap.size W3 wx))
  case first =>
    go_region_held3 (fun w' => Below W3.heap.size W3 w') (first | with_reducible assumption | ((repeat (first | with_reducible assumption | with_reducible refine Below.drew ?_ | with_reducible refine keepA ?_ _ | with_reducible refine Below.setCell ?_ (by first | exact Nat.le_refl _ | exact Below.size (by assumption) | exact Nat.le_succ_of_le (Below.size (by assumption))) _)); first | done | with_reducible exact Below.refl _ _) | fail)
      (first
      | (go_at_call 33
         refine (rules_any _).mono ?_
         rintro e wA ⟨bA, rfl, rA, hbA⟩
         have hSA : Below W3.heap.size W3 wA := Below.trans (by first | exact (Below.refl _ W3).drew | exact ((Below.refl _ W3).drew).alloc (Nat.le_refl _) _ | exact ((Below.refl _ W3).alloc (Nat.le_refl _) _).drew | exact Below.refl _ W3 | exact (Below.refl _ W3).alloc (Nat.le_refl _) _) (hbA.mono (by first | exact Nat.le_refl _ | simp))
         have RA : Hid (Rows wA (.slice (some ⟨bA, 0, none⟩) 3 3) ruC poR.rules) := rA
         have HSA : Hid _ := hSA
         try (have NA : Hid (LRow wA W3.heap.size [.slice none 0 0, .int .i64 0]) := (LRow.new W3.drew [.slice none 0 0, .int .i64 0] 24).below hbA (by simp))
         clear rA hbA)
      | (go_at_call 34
         refine (agreed_any _).mono ?_
         rintro e wB ⟨bB, rfl, rB, hbB⟩
         have hSB : Below W3.heap.size W3 wB := Below.trans (by first | exact hSA | exact keepA hSA _) (hbB.mono (by first | exact Below.size hSA | exact Below.size (keepA hSA _)))
         have RB : Hid (Rows wB (.slice (some ⟨bB, 0, none⟩) 4 4) intF agC.vs) := rB
         have RAB : Hid (Rows wB (.slice (some ⟨bA, 0, none⟩) 3 3) ruC poR.rules) := Rows.below RA.out (by first | exact hbB | exact next (below_new wA _) hbB) (Nat.le_refl _)
         have HSB : Hid _ := hSB
         try (have NB : Hid (LRow wB W3.heap.size [.slice none 0 0, .int .i64 0]) := NA.out.below hbB (cell_in (NA.out.cell 0 rfl)))
         try (have NB2 : Hid (LRow wB wA.heap.size [.slice none 0 0, .int .i64 0]) := (LRow.new wA [.slice none 0 0, .int .i64 0] 24).below hbB (by simp))
         clear rB hbB)
      | (go_at_call 7
         refine (KP1.out _ _ _ _ (Rows.below HRJ.out (by first | exact hSB | exact keepA hSB _) (Nat.le_refl _)) (by first | exact RAB.out | exact Rows.below RAB.out (below_new _ _) (Nat.le_refl _)) (by first | exact RB.out | exact Rows.below RB.out (below_new _ _) (Nat.le_refl _))).mono ?_
         rintro e wC ⟨vC, rfl, ownC, hbC⟩
         obtain ⟨adC, capC, rfl⟩ := g_slice ownC
         have hSC : Below W3.heap.size W3 wC := Below.trans (by first | exact hSB | exact keepA hSB _) (hbC.mono (by first | exact Below.size hSB | exact Below.size (keepA hSB _)))
         have RC : Hid (Rows wC (.slice adC 2 capC) ckC [cIdt, cAe]) := Reads.of_own ownC
         have HSC : Hid _ := hSC
         try (have HE : Hid ((LRow ((wC.setCell ⟨W3.heap.size, 0, none⟩ (.slice adC 2 capC)).setCell ⟨W3.heap.size, 1, none⟩ (.int .i64 2)) W3.heap.size [.slice adC 2 capC, .int .i64 2] ∧ Rows ((wC.setCell ⟨W3.heap.size, 0, none⟩ (.slice adC 2 capC)).setCell ⟨W3.heap.size, 1, none⟩ (.int .i64 2)) (.slice adC 2 capC) ckC [cIdt, cAe] ∧ Below W3.heap.size W3 ((wC.setCell ⟨W3.heap.size, 0, none⟩ (.slice adC 2 capC)).setCell ⟨W3.heap.size, 1, none⟩ (.int .i64 2))) ∧ wC.cell? ⟨W3.heap.size, 0, none⟩ = some (.slice none 0 0) ∧ wC.cell? ⟨W3.heap.size, 1, none⟩ = some (.int .i64 0) ∧ wC.frozen? ⟨W3.heap.size, 0, none⟩ = false ∧ wC.frozen? ⟨W3.heap.size, 1, none⟩ = false) := by
                have k := early2 NB.out hbC ownC hSC (by first | exact Nat.le_refl _ | exact hSA.size | exact hSB.size) (.slice adC 2 capC) (.int .i64 2)
                exact ⟨⟨k.1.1, Reads.of_own k.1.2.1, k.1.2.2⟩, k.2⟩
              obtain ⟨k1, k2, k3, k4⟩ := HE.out.2)
         try (have HE : Hid ((LRow ((wC.setCell ⟨wA.heap.size, 0, none⟩ (.slice adC 2 capC)).setCell ⟨wA.heap.size, 1, none⟩ (.int .i64 2)) wA.heap.size [.slice adC 2 capC, .int .i64 2] ∧ Rows ((wC.setCell ⟨wA.heap.size, 0, none⟩ (.slice adC 2 capC)).setCell ⟨wA.heap.size, 1, none⟩ (.int .i64 2)) (.slice adC 2 capC) ckC [cIdt, cAe] ∧ Below W3.heap.size W3 ((wC.setCell ⟨wA.heap.size, 0, none⟩ (.slice adC 2 capC)).setCell ⟨wA.heap.size, 1, none⟩ (.int .i64 2))) ∧ wC.cell? ⟨wA.heap.size, 0, none⟩ = some (.slice none 0 0) ∧ wC.cell? ⟨wA.heap.size, 1, none⟩ = some (.int .i64 0) ∧ wC.frozen? ⟨wA.heap.size, 0, none⟩ = false ∧ wC.frozen? ⟨wA.heap.size, 1, none⟩ = false) := by
                have k := early2 NB2.out hbC ownC hSC (by first | exact Nat.le_refl _ | exact hSA.size | exact hSB.size) (.slice adC 2 capC) (.int .i64 2)
                exact ⟨⟨k.1.1, Reads.of_own k.1.2.1, k.1.2.2⟩, k.2⟩
              obtain ⟨k1, k2, k3, k4⟩ := HE.out.2)
         try (have HE : Hid ((LRow ((wC.setCell ⟨wB.heap.size, 0, none⟩ (.slice adC 2 capC)).setCell ⟨wB.heap.size, 1, none⟩ (.int .i64 2)) wB.heap.size [.slice adC 2 capC, .int .i64 2] ∧ Rows ((wC.setCell ⟨wB.heap.size, 0, none⟩ (.slice adC 2 capC)).setCell ⟨wB.heap.size, 1, none⟩ (.int .i64 2)) (.slice adC 2 capC) ckC [cIdt, cAe] ∧ Below W3.heap.size W3 ((wC.setCell ⟨wB.heap.size, 0, none⟩ (.slice adC 2 capC)).setCell ⟨wB.heap.size, 1, none⟩ (.int .i64 2))) ∧ wC.cell? ⟨wB.heap.size, 0, none⟩ = some (.slice none 0 0) ∧ wC.cell? ⟨wB.heap.size, 1, none⟩ = some (.int .i64 0) ∧ wC.frozen? ⟨wB.heap.size, 0, none⟩ = false ∧ wC.frozen? ⟨wB.heap.size, 1, none⟩ = false) := by
                have k := early2 (LRow.new wB [.slice none 0 0, .int .i64 0] 24) hbC ownC hSC (by first | exact Nat.le_refl _ | exact hSA.size | exact hSB.size) (.slice adC 2 capC) (.int .i64 2)
                exact ⟨⟨k.1.1, Reads.of_own k.1.2.1, k.1.2.2⟩, k.2⟩
              obtain ⟨k1, k2, k3, k4⟩ := HE.out.2)
         clear ownC hbC)
      | fail)
    all_goals (go_wp2_with fail; go_meet)
    all_goals first
      | exact ⟨_, _, _, rfl, rfl, rfl, HE.out.1.1, HE.out.1.2.1, HE.out.1.2.2⟩
      | exact ⟨_, _, _, rfl, rfl, rfl, LRow.new wC [.slice adC 2 capC, .int .i64 2] 24, Rows.below RC.out (below_new _ _) (Nat.le_refl _), keepA HSC.out _⟩
  case rest =>
  obtain ⟨p3, ad3, cap3, rfl, rfl, rfl, HJ4, HRJ4, HS4⟩ := hcut
  rename World => W4
  clear y0 y1 KP1
  have HRJb : Hid (Rows W4 (.slice (some ⟨b, 0, none⟩) 2 2) ckC [cIdt, cAd]) := Rows.below HRJ.out HS4.out (Nat.le_refl _)
  have HJb : Hid (LRow W4 p [.slice (some ⟨b, 0, none⟩) 2 2, .int .i64 2]) := HJ.out.below HS4.out (cell_in (HJ.out.cell 0 rfl))
  have Lb : Hid (LRow W4 w1.heap.size (ckC cAd)) := (L2.out.below HS3.out (cell_in (L2.out.cell 0 rfl))).below HS4.out (cell_in ((L2.out.below HS3.out (cell_in (L2.out.cell 0 rfl))).cell 0 rfl))
  have Sb : Hid (Below w.heap.size w W4) := next (next S2.out HS3.out) HS4.out
  clear HRJ HJ L2 S2 HS3 HS4
  rename Hid (Rows W4 (.slice (some ⟨b, 0, none⟩) 2 2) ckC [cIdt, cAd]) => HRJ
  rename Hid (LRow W4 p _) => HJ
  rename Hid (LRow W4 w1.heap.size (ckC cAd)) => L2
  rename Hid (Below w.heap.size w W4) => S2
  go_upto_region 5 with fail
  have y0 : ∀ w', Below W4.heap.size W4 w' → w'.cell? ⟨p, 0, none⟩ = some (.slice (some ⟨b, 0, none⟩) 2 2) := fun w' h => (HJ.out.below h (cell_in (HJ.out.cell 0 rfl))).cell 0 rfl
  have y1 : ∀ w', Below W4.heap.size W4 w' → w'.cell? ⟨p, 1, none⟩ = some (.int .i64 2) := fun w' h => (HJ.out.below h (cell_in (HJ.out.cell 0 rfl))).cell 1 rfl
  go_cut [6, 7, 8] from 29 to 36 (fun s6 s7 s8 wx => ∃ p6 ad6 cap6, s6 = .pointer (some ⟨p6, 0, none⟩) ∧ s7 = .int .i64 1 ∧ s8 = .int .i64 0 ∧ Hid (LRow wx p6 [.slice ad6 1 cap6, .int .i64 2]) ∧ Hid (Rows wx (.slice ad6 1 cap6) ckC [cIdt]) ∧ Hid (Below W4.heap.size W4 wx))
  case first =>
    go_region_held3 (fun w' => Below W4.heap.size W4 w') (first | with_reducible assumption | ((repeat (first | with_reducible assumption | with_reducible refine Below.drew ?_ | with_reducible refine keepA ?_ _ | with_reducible refine Below.setCell ?_ (by first | exact Nat.le_refl _ | exact Below.size (by assumption) | exact Nat.le_succ_of_le (Below.size (by assumption))) _)); first | done | with_reducible exact Below.refl _ _) | fail)
      (first
      | (go_at_call 33
         refine (rules_any _).mono ?_
         rintro e wA ⟨bA, rfl, rA, hbA⟩
         have hSA : Below W4.heap.size W4 wA := Below.trans (by first | exact (Below.refl _ W4).drew | exact ((Below.refl _ W4).drew).alloc (Nat.le_refl _) _ | exact ((Below.refl _ W4).alloc (Nat.le_refl _) _).drew | exact Below.refl _ W4 | exact (Below.refl _ W4).alloc (Nat.le_refl _) _) (hbA.mono (by first | exact Nat.le_refl _ | simp))
         have RA : Hid (Rows wA (.slice (some ⟨bA, 0, none⟩) 3 3) ruC poR.rules) := rA
         have HSA : Hid _ := hSA
         try (have NA : Hid (LRow wA W4.heap.size [.slice none 0 0, .int .i64 0]) := (LRow.new W4.drew [.slice none 0 0, .int .i64 0] 24).below hbA (by simp))
         clear rA hbA)
      | (go_at_call 7
         refine (KP2.out _ _ _ _ (Rows.below HRJ.out (by first | exact hSA | exact keepA hSA _) (Nat.le_refl _)) (by first | exact RA.out | exact Rows.below RA.out (below_new _ _) (Nat.le_refl _)) (⟨none, 0, rfl, .inl rfl⟩)).mono ?_
         rintro e wC ⟨vC, rfl, ownC, hbC⟩
         obtain ⟨adC, capC, rfl⟩ := g_slice ownC
         have hSC : Below W4.heap.size W4 wC := Below.trans (by first | exact hSA | exact keepA hSA _) (hbC.mono (by first | exact Below.size hSA | exact Below.size (keepA hSA _)))
         have RC : Hid (Rows wC (.slice adC 1 capC) ckC [cIdt]) := Reads.of_own ownC
         have HSC : Hid _ := hSC
         try (have HE : Hid ((LRow ((wC.setCell ⟨W4.heap.size, 0, none⟩ (.slice adC 1 capC)).setCell ⟨W4.heap.size, 1, none⟩ (.int .i64 2)) W4.heap.size [.slice adC 1 capC, .int .i64 2] ∧ Rows ((wC.setCell ⟨W4.heap.size, 0, none⟩ (.slice adC 1 capC)).setCell ⟨W4.heap.size, 1, none⟩ (.int .i64 2)) (.slice adC 1 capC) ckC [cIdt] ∧ Below W4.heap.size W4 ((wC.setCell ⟨W4.heap.size, 0, none⟩ (.slice adC 1 capC)).setCell ⟨W4.heap.size, 1, none⟩ (.int .i64 2))) ∧ wC.cell? ⟨W4.heap.size, 0, none⟩ = some (.slice none 0 0) ∧ wC.cell? ⟨W4.heap.size, 1, none⟩ = some (.int .i64 0) ∧ wC.frozen? ⟨W4.heap.size, 0, none⟩ = false ∧ wC.frozen? ⟨W4.heap.size, 1, none⟩ = false) := by
                have k := early2 NA.out hbC ownC hSC (by first | exact Nat.le_refl _ | exact hSA.size | exact hSA.size) (.slice adC 1 capC) (.int .i64 2)
                exact ⟨⟨k.1.1, Reads.of_own k.1.2.1, k.1.2.2⟩, k.2⟩
              obtain ⟨k1, k2, k3, k4⟩ := HE.out.2)
         try (have HE : Hid ((LRow ((wC.setCell ⟨wA.heap.size, 0, none⟩ (.slice adC 1 capC)).setCell ⟨wA.heap.size, 1, none⟩ (.int .i64 2)) wA.heap.size [.slice adC 1 capC, .int .i64 2] ∧ Rows ((wC.setCell ⟨wA.heap.size, 0, none⟩ (.slice adC 1 capC)).setCell ⟨wA.heap.size, 1, none⟩ (.int .i64 2)) (.slice adC 1 capC) ckC [cIdt] ∧ Below W4.heap.size W4 ((wC.setCell ⟨wA.heap.size, 0, none⟩ (.slice adC 1 capC)).setCell ⟨wA.heap.size, 1, none⟩ (.int .i64 2))) ∧ wC.cell? ⟨wA.heap.size, 0, none⟩ = some (.slice none 0 0) ∧ wC.cell? ⟨wA.heap.size, 1, none⟩ = some (.int .i64 0) ∧ wC.frozen? ⟨wA.heap.size, 0, none⟩ = false ∧ wC.frozen? ⟨wA.heap.size, 1, none⟩ = false) := by
                have k := early2 (LRow.new wA [.slice none 0 0, .int .i64 0] 24) hbC ownC hSC (by first | exact Nat.le_refl _ | exact hSA.size | exact hSA.size) (.slice adC 1 capC) (.int .i64 2)
                exact ⟨⟨k.1.1, Reads.of_own k.1.2.1, k.1.2.2⟩, k.2⟩
              obtain ⟨k1, k2, k3, k4⟩ := HE.out.2)
         clear ownC hbC)
      | fail)
    all_goals (go_wp2_with fail; go_meet)
    all_goals first
      | exact ⟨_, _, _, rfl, rfl, rfl, HE.out.1.1, HE.out.1.2.1, HE.out.1.2.2⟩
      | exact ⟨_, _, _, rfl, rfl, rfl, LRow.new wC [.slice adC 1 capC, .int .i64 2] 24, Rows.below RC.out (below_new _ _) (Nat.le_refl _), keepA HSC.out _⟩
  case rest =>
  obtain ⟨p6, ad6, cap6, rfl, rfl, rfl, HJ5, HRJ5, HS5⟩ := hcut
  rename World => W5
  clear y0 y1 KP2 HRJ HJ
  have L5 : Hid (LRow W5 w1.heap.size (ckC cAd)) := L2.out.below HS5.out (cell_in (L2.out.cell 0 rfl))
  go_upto_region 6 with fail
  have x0 : ∀ w', Below W5.heap.size W5 w' → w'.cell? ⟨w1.heap.size, 0, none⟩ = some (.string (txt [97, 100, 95, 120])) := fun w' h => (L5.out.below h (cell_in (L5.out.cell 0 rfl))).cell 0 rfl
  have x1 : ∀ w', Below W5.heap.size W5 w' → w'.cell? ⟨w1.heap.size, 1, none⟩ = some (.string (txt [55])) := fun w' h => (L5.out.below h (cell_in (L5.out.cell 0 rfl))).cell 1 rfl
  have x2 : ∀ w', Below W5.heap.size W5 w' → w'.cell? ⟨w1.heap.size, 2, none⟩ = some (.string (txt [115, 104, 111, 112, 46, 99, 111, 109])) := fun w' h => (L5.out.below h (cell_in (L5.out.cell 0 rfl))).cell 2 rfl
  have x3 : ∀ w', Below W5.heap.size W5 w' → w'.cell? ⟨w1.heap.size, 3, none⟩ = some (.string (txt [47, 99, 97, 114, 116])) := fun w' h => (L5.out.below h (cell_in (L5.out.cell 0 rfl))).cell 3 rfl
  have x4 : ∀ w', Below W5.heap.size W5 w' → w'.cell? ⟨w1.heap.size, 4, none⟩ = some (.bool false) := fun w' h => (L5.out.below h (cell_in (L5.out.cell 0 rfl))).cell 4 rfl
  have x5 : ∀ w', Below W5.heap.size W5 w' → w'.cell? ⟨w1.heap.size, 5, none⟩ = some (.bool true) := fun w' h => (L5.out.below h (cell_in (L5.out.cell 0 rfl))).cell 5 rfl
  have x6 : ∀ w', Below W5.heap.size W5 w' → w'.cell? ⟨w1.heap.size, 6, none⟩ = some (.bool false) := fun w' h => (L5.out.below h (cell_in (L5.out.cell 0 rfl))).cell 6 rfl
  have x7 : ∀ w', Below W5.heap.size W5 w' → w'.cell? ⟨w1.heap.size, 7, none⟩ = some (.bool true) := fun w' h => (L5.out.below h (cell_in (L5.out.cell 0 rfl))).cell 7 rfl
  have x8 : ∀ w', Below W5.heap.size W5 w' → w'.cell? ⟨w1.heap.size, 8, none⟩ = some (.int .i64 0) := fun w' h => (L5.out.below h (cell_in (L5.out.cell 0 rfl))).cell 8 rfl
  have x9 : ∀ w', Below W5.heap.size W5 w' → w'.cell? ⟨w1.heap.size, 9, none⟩ = some (.int .i64 5000) := fun w' h => (L5.out.below h (cell_in (L5.out.cell 0 rfl))).cell 9 rfl
  have x10 : ∀ w', Below W5.heap.size W5 w' → w'.cell? ⟨w1.heap.size, 10, none⟩ = some (.int .i64 1000) := fun w' h => (L5.out.below h (cell_in (L5.out.cell 0 rfl))).cell 10 rfl
  have x11 : ∀ w', Below W5.heap.size W5 w' → w'.cell? ⟨w1.heap.size, 11, none⟩ = some (.int .i64 1000) := fun w' h => (L5.out.below h (cell_in (L5.out.cell 0 rfl))).cell 11 rfl
  have x12 : ∀ w', Below W5.heap.size W5 w' → w'.cell? ⟨w1.heap.size, 12, none⟩ = some (.int .i64 1) := fun w' h => (L5.out.below h (cell_in (L5.out.cell 0 rfl))).cell 12 rfl
  go_cut [9, 10] from 37 to 43 (fun s9 s10 wx => ∃ p9 : Nat, s9 = .pointer (some ⟨p9, 0, none⟩) ∧ s10 = .int .i64 8 ∧ Hid (Below W5.heap.size W5 wx))
  case first =>
    go_region_held3 (fun w' => Below W5.heap.size W5 w') (first | with_reducible assumption | ((repeat (first | with_reducible assumption | with_reducible refine Below.drew ?_ | with_reducible refine keepA ?_ _ | with_reducible refine Below.setCell ?_ (by first | exact Nat.le_refl _ | exact Below.size (by assumption) | exact Nat.le_succ_of_le (Below.size (by assumption))) _)); first | done | with_reducible exact Below.refl _ _) | fail)
      (first
      | (go_at_call 33
         refine (rules_any _).mono ?_
         rintro e wA ⟨bA, rfl, rA, hbA⟩
         have hSA : Below W5.heap.size W5 wA := Below.trans (by first | exact (Below.refl _ W5).drew | exact ((Below.refl _ W5).drew).alloc (Nat.le_refl _) _ | exact ((Below.refl _ W5).alloc (Nat.le_refl _) _).drew | exact Below.refl _ W5 | exact (Below.refl _ W5).alloc (Nat.le_refl _) _) (hbA.mono (by first | exact Nat.le_refl _ | simp))
         have RA : Hid (Rows wA (.slice (some ⟨bA, 0, none⟩) 3 3) ruC poR.rules) := rA
         have HSA : Hid _ := hSA
         try (have NA : Hid (LRow wA W5.heap.size (ckC ckZ)) := (LRow.new W5.drew (ckC ckZ) 34).below hbA (by simp))
         clear rA hbA)
      | (go_at_call 8
         refine (KG3.out _ _ _ (by first | exact RA.out | exact Rows.below RA.out (below_new _ _) (Nat.le_refl _)) (⟨none, 0, rfl, .inl rfl⟩)).mono ?_
         rintro e wC ⟨rfl, hbC⟩
         have hSC : Below W5.heap.size W5 wC := Below.trans (by first | exact hSA | exact keepA hSA _) (hbC.mono (by first | exact Below.size hSA | exact Below.size (keepA hSA _)))
         have HSC : Hid _ := hSC
         try (have nC : LRow wC W5.heap.size (ckC ckZ) := by first | exact NA.out.below hbC (cell_in (NA.out.cell 0 rfl)) | exact NA.out.below hbC (by simp)
              have HE : Hid _ := set13 nC hSC (by first | exact Nat.le_refl _ | exact hSA.size | exact hSA.size) (.string ⟨#[]⟩) (.string ⟨#[]⟩) (.string ⟨#[]⟩) (.string ⟨#[]⟩) (.bool false) (.bool false) (.bool false) (.bool false) (.int .i64 0) (.int .i64 0) (.int .i64 0) (.int .i64 0) (.int .i64 0)
              have hE2 := HE.out.2
              obtain ⟨k0, k1, k2, k3, k4, k5, k6, k7, k8, k9, k10, k11, k12⟩ := nC.cells13
              obtain ⟨j0, j1, j2, j3, j4, j5, j6, j7, j8, j9, j10, j11, j12⟩ := nC.frozen13
              clear nC)
         try (have nC : LRow wC wA.heap.size (ckC ckZ) := by first | exact (LRow.new wA (ckC ckZ) 34).below hbC (cell_in ((LRow.new wA (ckC ckZ) 34).cell 0 rfl)) | exact (LRow.new wA (ckC ckZ) 34).below hbC (by simp)
              have HE : Hid _ := set13 nC hSC (by first | exact Nat.le_refl _ | exact hSA.size | exact hSA.size) (.string ⟨#[]⟩) (.string ⟨#[]⟩) (.string ⟨#[]⟩) (.string ⟨#[]⟩) (.bool false) (.bool false) (.bool false) (.bool false) (.int .i64 0) (.int .i64 0) (.int .i64 0) (.int .i64 0) (.int .i64 0)
              have hE2 := HE.out.2
              obtain ⟨k0, k1, k2, k3, k4, k5, k6, k7, k8, k9, k10, k11, k12⟩ := nC.cells13
              obtain ⟨j0, j1, j2, j3, j4, j5, j6, j7, j8, j9, j10, j11, j12⟩ := nC.frozen13
              clear nC)
         clear hbC)
      | fail)
    all_goals (go_wp2_with fail; go_meet)
    all_goals first
      | exact ⟨_, rfl, rfl, HE.out.2⟩
      | exact ⟨_, rfl, rfl, keepA HSC.out _⟩
  case rest =>
  obtain ⟨p9, rfl, rfl, HS6⟩ := hcut
  rename World => W6
  clear KG3 x0 x1 x2 x3 x4 x5 x6 x7 x8 x9 x10 x11 x12
  have L6 : Hid (LRow W6 w1.heap.size (ckC cAd)) := L5.out.below HS6.out (cell_in (L5.out.cell 0 rfl))
  go_upto_region 7 with fail
  have x0 : ∀ w', Below W6.heap.size W6 w' → w'.cell? ⟨w1.heap.size, 0, none⟩ = some (.string (txt [97, 100, 95, 120])) := fun w' h => (L6.out.below h (cell_in (L6.out.cell 0 rfl))).cell 0 rfl
  have x1 : ∀ w', Below W6.heap.size W6 w' → w'.cell? ⟨w1.heap.size, 1, none⟩ = some (.string (txt [55])) := fun w' h => (L6.out.below h (cell_in (L6.out.cell 0 rfl))).cell 1 rfl
  have x2 : ∀ w', Below W6.heap.size W6 w' → w'.cell? ⟨w1.heap.size, 2, none⟩ = some (.string (txt [115, 104, 111, 112, 46, 99, 111, 109])) := fun w' h => (L6.out.below h (cell_in (L6.out.cell 0 rfl))).cell 2 rfl
  have x3 : ∀ w', Below W6.heap.size W6 w' → w'.cell? ⟨w1.heap.size, 3, none⟩ = some (.string (txt [47, 99, 97, 114, 116])) := fun w' h => (L6.out.below h (cell_in (L6.out.cell 0 rfl))).cell 3 rfl
  have x4 : ∀ w', Below W6.heap.size W6 w' → w'.cell? ⟨w1.heap.size, 4, none⟩ = some (.bool false) := fun w' h => (L6.out.below h (cell_in (L6.out.cell 0 rfl))).cell 4 rfl
  have x5 : ∀ w', Below W6.heap.size W6 w' → w'.cell? ⟨w1.heap.size, 5, none⟩ = some (.bool true) := fun w' h => (L6.out.below h (cell_in (L6.out.cell 0 rfl))).cell 5 rfl
  have x6 : ∀ w', Below W6.heap.size W6 w' → w'.cell? ⟨w1.heap.size, 6, none⟩ = some (.bool false) := fun w' h => (L6.out.below h (cell_in (L6.out.cell 0 rfl))).cell 6 rfl
  have x7 : ∀ w', Below W6.heap.size W6 w' → w'.cell? ⟨w1.heap.size, 7, none⟩ = some (.bool true) := fun w' h => (L6.out.below h (cell_in (L6.out.cell 0 rfl))).cell 7 rfl
  have x8 : ∀ w', Below W6.heap.size W6 w' → w'.cell? ⟨w1.heap.size, 8, none⟩ = some (.int .i64 0) := fun w' h => (L6.out.below h (cell_in (L6.out.cell 0 rfl))).cell 8 rfl
  have x9 : ∀ w', Below W6.heap.size W6 w' → w'.cell? ⟨w1.heap.size, 9, none⟩ = some (.int .i64 5000) := fun w' h => (L6.out.below h (cell_in (L6.out.cell 0 rfl))).cell 9 rfl
  have x10 : ∀ w', Below W6.heap.size W6 w' → w'.cell? ⟨w1.heap.size, 10, none⟩ = some (.int .i64 1000) := fun w' h => (L6.out.below h (cell_in (L6.out.cell 0 rfl))).cell 10 rfl
  have x11 : ∀ w', Below W6.heap.size W6 w' → w'.cell? ⟨w1.heap.size, 11, none⟩ = some (.int .i64 1000) := fun w' h => (L6.out.below h (cell_in (L6.out.cell 0 rfl))).cell 11 rfl
  have x12 : ∀ w', Below W6.heap.size W6 w' → w'.cell? ⟨w1.heap.size, 12, none⟩ = some (.int .i64 1) := fun w' h => (L6.out.below h (cell_in (L6.out.cell 0 rfl))).cell 12 rfl
  go_cut [11, 12] from 44 to 50 (fun s11 s12 wx => ∃ p11 : Nat, s11 = .pointer (some ⟨p11, 0, none⟩) ∧ s12 = .int .i64 0 ∧ Hid (LRow wx p11 (ckC cAe)) ∧ Hid (Below W6.heap.size W6 wx))
  case first =>
    go_region_held3 (fun w' => Below W6.heap.size W6 w') (first | with_reducible assumption | ((repeat (first | with_reducible assumption | with_reducible refine Below.drew ?_ | with_reducible refine keepA ?_ _ | with_reducible refine Below.setCell ?_ (by first | exact Nat.le_refl _ | exact Below.size (by assumption) | exact Nat.le_succ_of_le (Below.size (by assumption))) _)); first | done | with_reducible exact Below.refl _ _) | fail)
      (first
      | (go_at_call 33
         refine (rules_any _).mono ?_
         rintro e wA ⟨bA, rfl, rA, hbA⟩
         have hSA : Below W6.heap.size W6 wA := Below.trans (by first | exact (Below.refl _ W6).drew | exact ((Below.refl _ W6).drew).alloc (Nat.le_refl _) _ | exact ((Below.refl _ W6).alloc (Nat.le_refl _) _).drew | exact Below.refl _ W6 | exact (Below.refl _ W6).alloc (Nat.le_refl _) _) (hbA.mono (by first | exact Nat.le_refl _ | simp))
         have RA : Hid (Rows wA (.slice (some ⟨bA, 0, none⟩) 3 3) ruC poR.rules) := rA
         have HSA : Hid _ := hSA
         try (have NA : Hid (LRow wA W6.heap.size (ckC ckZ)) := (LRow.new W6.drew (ckC ckZ) 34).below hbA (by simp))
         clear rA hbA)
      | (go_at_call 34
         refine (agreed_any _).mono ?_
         rintro e wB ⟨bB, rfl, rB, hbB⟩
         have hSB : Below W6.heap.size W6 wB := Below.trans (by first | exact hSA | exact keepA hSA _) (hbB.mono (by first | exact Below.size hSA | exact Below.size (keepA hSA _)))
         have RB : Hid (Rows wB (.slice (some ⟨bB, 0, none⟩) 4 4) intF agC.vs) := rB
         have RAB : Hid (Rows wB (.slice (some ⟨bA, 0, none⟩) 3 3) ruC poR.rules) := Rows.below RA.out (by first | exact hbB | exact next (below_new wA _) hbB) (Nat.le_refl _)
         have HSB : Hid _ := hSB
         try (have NB : Hid (LRow wB W6.heap.size (ckC ckZ)) := NA.out.below hbB (cell_in (NA.out.cell 0 rfl)))
         try (have NB2 : Hid (LRow wB wA.heap.size (ckC ckZ)) := (LRow.new wA (ckC ckZ) 34).below hbB (by simp))
         clear rB hbB)
      | (go_at_call 8
         refine (KG4.out _ _ _ (by first | exact RAB.out | exact Rows.below RAB.out (below_new _ _) (Nat.le_refl _)) (by first | exact RB.out | exact Rows.below RB.out (below_new _ _) (Nat.le_refl _))).mono ?_
         rintro e wC ⟨rfl, hbC⟩
         have hSC : Below W6.heap.size W6 wC := Below.trans (by first | exact hSB | exact keepA hSB _) (hbC.mono (by first | exact Below.size hSB | exact Below.size (keepA hSB _)))
         have HSC : Hid _ := hSC
         try (have nC : LRow wC W6.heap.size (ckC ckZ) := by first | exact NB.out.below hbC (cell_in (NB.out.cell 0 rfl)) | exact NB.out.below hbC (by simp)
              have HE : Hid _ := set13 nC hSC (by first | exact Nat.le_refl _ | exact hSA.size | exact hSB.size) (.string (txt [97, 100, 95, 120])) (.string (txt [55])) (.string (txt [115, 104, 111, 112, 46, 99, 111, 109])) (.string (txt [47, 99, 97, 114, 116])) (.bool false) (.bool true) (.bool false) (.bool true) (.int .i64 0) (.int .i64 1050) (.int .i64 1000) (.int .i64 1000) (.int .i64 1)
              have hE2 := HE.out.2
              obtain ⟨k0, k1, k2, k3, k4, k5, k6, k7, k8, k9, k10, k11, k12⟩ := nC.cells13
              obtain ⟨j0, j1, j2, j3, j4, j5, j6, j7, j8, j9, j10, j11, j12⟩ := nC.frozen13
              clear nC)
         try (have nC : LRow wC wA.heap.size (ckC ckZ) := by first | exact NB2.out.below hbC (cell_in (NB2.out.cell 0 rfl)) | exact NB2.out.below hbC (by simp)
              have HE : Hid _ := set13 nC hSC (by first | exact Nat.le_refl _ | exact hSA.size | exact hSB.size) (.string (txt [97, 100, 95, 120])) (.string (txt [55])) (.string (txt [115, 104, 111, 112, 46, 99, 111, 109])) (.string (txt [47, 99, 97, 114, 116])) (.bool false) (.bool true) (.bool false) (.bool true) (.int .i64 0) (.int .i64 1050) (.int .i64 1000) (.int .i64 1000) (.int .i64 1)
              have hE2 := HE.out.2
              obtain ⟨k0, k1, k2, k3, k4, k5, k6, k7, k8, k9, k10, k11, k12⟩ := nC.cells13
              obtain ⟨j0, j1, j2, j3, j4, j5, j6, j7, j8, j9, j10, j11, j12⟩ := nC.frozen13
              clear nC)
         try (have nC : LRow wC wB.heap.size (ckC ckZ) := by first | exact (LRow.new wB (ckC ckZ) 34).below hbC (cell_in ((LRow.new wB (ckC ckZ) 34).cell 0 rfl)) | exact (LRow.new wB (ckC ckZ) 34).below hbC (by simp)
              have HE : Hid _ := set13 nC hSC (by first | exact Nat.le_refl _ | exact hSA.size | exact hSB.size) (.string (txt [97, 100, 95, 120])) (.string (txt [55])) (.string (txt [115, 104, 111, 112, 46, 99, 111, 109])) (.string (txt [47, 99, 97, 114, 116])) (.bool false) (.bool true) (.bool false) (.bool true) (.int .i64 0) (.int .i64 1050) (.int .i64 1000) (.int .i64 1000) (.int .i64 1)
              have hE2 := HE.out.2
              obtain ⟨k0, k1, k2, k3, k4, k5, k6, k7, k8, k9, k10, k11, k12⟩ := nC.cells13
              obtain ⟨j0, j1, j2, j3, j4, j5, j6, j7, j8, j9, j10, j11, j12⟩ := nC.frozen13
              clear nC)
         clear hbC)
      | fail)
    all_goals (go_wp2_with fail; go_meet)
    all_goals first
      | exact ⟨_, rfl, rfl, HE.out.1, HE.out.2⟩
      | exact ⟨_, rfl, rfl, LRow.new wC (ckC cAe) 34, keepA HSC.out _⟩
  case rest =>
  obtain ⟨p11, rfl, rfl, L7, HS7⟩ := hcut
  rename World => W7
  clear KG4 x0 x1 x2 x3 x4 x5 x6 x7 x8 x9 x10 x11 x12
  have A7 : Hid (LRow W7 p3 [.slice ad3 2 cap3, .int .i64 2]) := ((HJ4.out.below HS5.out (cell_in (HJ4.out.cell 0 rfl))).below HS6.out (cell_in ((HJ4.out.below HS5.out (cell_in (HJ4.out.cell 0 rfl))).cell 0 rfl))).below HS7.out (cell_in (((HJ4.out.below HS5.out (cell_in (HJ4.out.cell 0 rfl))).below HS6.out (cell_in ((HJ4.out.below HS5.out (cell_in (HJ4.out.cell 0 rfl))).cell 0 rfl))).cell 0 rfl))
  have B7 : Hid (LRow W7 p6 [.slice ad6 1 cap6, .int .i64 2]) := (HJ5.out.below HS6.out (cell_in (HJ5.out.cell 0 rfl))).below HS7.out (cell_in ((HJ5.out.below HS6.out (cell_in (HJ5.out.cell 0 rfl))).cell 0 rfl))
  have RA7 : Hid (Rows W7 (.slice ad3 2 cap3) ckC [cIdt, cAe]) := Rows.below (Rows.below (Rows.below HRJ4.out HS5.out (Nat.le_refl _)) HS6.out (Nat.le_refl _)) HS7.out (Nat.le_refl _)
  have RB7 : Hid (Rows W7 (.slice ad6 1 cap6) ckC [cIdt]) := Rows.below (Rows.below HRJ5.out HS6.out (Nat.le_refl _)) HS7.out (Nat.le_refl _)
  have S7 : Hid (Below w.heap.size w W7) := next (next (next S2.out HS5.out) HS6.out) HS7.out
  obtain ⟨ba, oa, rfl, hba, hca⟩ := Rows.at RA7.out rfl 12 (fun _ => rfl) 1 cAe rfl
  obtain ⟨bb, ob, rfl, hbb, hcb⟩ := Rows.at RB7.out rfl 12 (fun _ => rfl) 0 cIdt rfl
  go_upto_region 8 with fail
  have ea : ∀ w', Below W7.heap.size W7 w' → w'.cell? ⟨ba, oa + 1 * 13 + 9, none⟩ = some (.int .i64 1050) := fun w' h => (h.cell (p := ⟨ba, oa + 1 * 13 + 9, none⟩) hba).trans (hca 9 _ rfl)
  have ea' : ∀ w', Below W7.heap.size W7 w' → w'.cell? ⟨ba, oa + 13 + 9, none⟩ = some (.int .i64 1050) := fun w' h => by have := ea w' h; rwa [Nat.one_mul] at this
  have u0 : ∀ w', Below W7.heap.size W7 w' → w'.cell? ⟨bb, ob, none⟩ = some (.string (txt [105, 100])) := fun w' h => by have q := (h.cell (p := ⟨bb, ob + 0 * 13 + 0, none⟩) hbb).trans (hcb 0 _ rfl); rw [show ob + 0 * 13 + 0 = ob by omega] at q; exact q
  have u1 : ∀ w', Below W7.heap.size W7 w' → w'.cell? ⟨bb, ob + 1, none⟩ = some (.string (txt [55])) := fun w' h => by have q := (h.cell (p := ⟨bb, ob + 0 * 13 + 1, none⟩) hbb).trans (hcb 1 _ rfl); rw [show ob + 0 * 13 + 1 = ob + 1 by omega] at q; exact q
  have u2 : ∀ w', Below W7.heap.size W7 w' → w'.cell? ⟨bb, ob + 2, none⟩ = some (.string (txt [115, 104, 111, 112, 46, 99, 111, 109])) := fun w' h => by have q := (h.cell (p := ⟨bb, ob + 0 * 13 + 2, none⟩) hbb).trans (hcb 2 _ rfl); rw [show ob + 0 * 13 + 2 = ob + 2 by omega] at q; exact q
  have u3 : ∀ w', Below W7.heap.size W7 w' → w'.cell? ⟨bb, ob + 3, none⟩ = some (.string (txt [47, 99, 97, 114, 116])) := fun w' h => by have q := (h.cell (p := ⟨bb, ob + 0 * 13 + 3, none⟩) hbb).trans (hcb 3 _ rfl); rw [show ob + 0 * 13 + 3 = ob + 3 by omega] at q; exact q
  have u4 : ∀ w', Below W7.heap.size W7 w' → w'.cell? ⟨bb, ob + 4, none⟩ = some (.bool false) := fun w' h => by have q := (h.cell (p := ⟨bb, ob + 0 * 13 + 4, none⟩) hbb).trans (hcb 4 _ rfl); rw [show ob + 0 * 13 + 4 = ob + 4 by omega] at q; exact q
  have u5 : ∀ w', Below W7.heap.size W7 w' → w'.cell? ⟨bb, ob + 5, none⟩ = some (.bool true) := fun w' h => by have q := (h.cell (p := ⟨bb, ob + 0 * 13 + 5, none⟩) hbb).trans (hcb 5 _ rfl); rw [show ob + 0 * 13 + 5 = ob + 5 by omega] at q; exact q
  have u6 : ∀ w', Below W7.heap.size W7 w' → w'.cell? ⟨bb, ob + 6, none⟩ = some (.bool false) := fun w' h => by have q := (h.cell (p := ⟨bb, ob + 0 * 13 + 6, none⟩) hbb).trans (hcb 6 _ rfl); rw [show ob + 0 * 13 + 6 = ob + 6 by omega] at q; exact q
  have u7 : ∀ w', Below W7.heap.size W7 w' → w'.cell? ⟨bb, ob + 7, none⟩ = some (.bool true) := fun w' h => by have q := (h.cell (p := ⟨bb, ob + 0 * 13 + 7, none⟩) hbb).trans (hcb 7 _ rfl); rw [show ob + 0 * 13 + 7 = ob + 7 by omega] at q; exact q
  have u8 : ∀ w', Below W7.heap.size W7 w' → w'.cell? ⟨bb, ob + 8, none⟩ = some (.int .i64 0) := fun w' h => by have q := (h.cell (p := ⟨bb, ob + 0 * 13 + 8, none⟩) hbb).trans (hcb 8 _ rfl); rw [show ob + 0 * 13 + 8 = ob + 8 by omega] at q; exact q
  have u9 : ∀ w', Below W7.heap.size W7 w' → w'.cell? ⟨bb, ob + 9, none⟩ = some (.int .i64 1060) := fun w' h => by have q := (h.cell (p := ⟨bb, ob + 0 * 13 + 9, none⟩) hbb).trans (hcb 9 _ rfl); rw [show ob + 0 * 13 + 9 = ob + 9 by omega] at q; exact q
  have u10 : ∀ w', Below W7.heap.size W7 w' → w'.cell? ⟨bb, ob + 10, none⟩ = some (.int .i64 1000) := fun w' h => by have q := (h.cell (p := ⟨bb, ob + 0 * 13 + 10, none⟩) hbb).trans (hcb 10 _ rfl); rw [show ob + 0 * 13 + 10 = ob + 10 by omega] at q; exact q
  have u11 : ∀ w', Below W7.heap.size W7 w' → w'.cell? ⟨bb, ob + 11, none⟩ = some (.int .i64 1000) := fun w' h => by have q := (h.cell (p := ⟨bb, ob + 0 * 13 + 11, none⟩) hbb).trans (hcb 11 _ rfl); rw [show ob + 0 * 13 + 11 = ob + 11 by omega] at q; exact q
  have u12 : ∀ w', Below W7.heap.size W7 w' → w'.cell? ⟨bb, ob + 12, none⟩ = some (.int .i64 0) := fun w' h => by have q := (h.cell (p := ⟨bb, ob + 0 * 13 + 12, none⟩) hbb).trans (hcb 12 _ rfl); rw [show ob + 0 * 13 + 12 = ob + 12 by omega] at q; exact q
  have c9 : ∀ w', Below W7.heap.size W7 w' → w'.cell? ⟨p11, 9, none⟩ = some (.int .i64 1050) := fun w' h => (L7.out.below h (cell_in (L7.out.cell 0 rfl))).cell 9 rfl
  have a0 : ∀ w', Below W7.heap.size W7 w' → w'.cell? ⟨p3, 0, none⟩ = some (.slice (some ⟨ba, oa, none⟩) 2 cap3) := fun w' h => (A7.out.below h (cell_in (A7.out.cell 0 rfl))).cell 0 rfl
  have b0 : ∀ w', Below W7.heap.size W7 w' → w'.cell? ⟨p6, 0, none⟩ = some (.slice (some ⟨bb, ob, none⟩) 1 cap6) := fun w' h => (B7.out.below h (cell_in (B7.out.cell 0 rfl))).cell 0 rfl
  have qe : ∀ w : World, (Op.equalIn 10000 34 (.agg #[.string (txt [105, 100]), .string (txt [55]), .string (txt [115, 104, 111, 112, 46, 99, 111, 109]), .string (txt [47, 99, 97, 114, 116]), .bool false, .bool true, .bool false, .bool true, .int .i64 0, .int .i64 1060, .int .i64 1000, .int .i64 1000, .int .i64 0]) (.agg #[.string (txt [105, 100]), .string (txt [55]), .string (txt [115, 104, 111, 112, 46, 99, 111, 109]), .string (txt [47, 99, 97, 114, 116]), .bool false, .bool true, .bool false, .bool true, .int .i64 0, .int .i64 1060, .int .i64 1000, .int .i64 1000, .int .i64 0])).run Try.prog w = .ok true w := fun w => by
    have k := ck_eqIn cIdt cIdt w
    rw [(eqC_iff cIdt cIdt).2 rfl] at k
    exact k
  clear hca hcb hba hbb
  go_region_held3 (fun w' => Below W7.heap.size W7 w') (first | assumption | exact (Below.refl _ W7).drew | exact Below.refl _ W7 | fail)
      (first
      | (go_at_call 32
         refine (KI.out _).mono ?_
         rintro e w8 ⟨rfl, hb8⟩
         have hS8 : Below W7.heap.size W7 w8 := Below.trans (by first | exact (Below.refl _ W7).drew | assumption) (hb8.mono (by first | exact Nat.le_refl _ | exact Below.size (by assumption)))
         have HS8 : Hid _ := hS8
         clear hb8)
      | fail)
  go_wp2_with fail
  go_ret
  exact ⟨rfl, next S7.out HS8.out⟩
end Go.Proofs.Ytcfdajaideidkaa
