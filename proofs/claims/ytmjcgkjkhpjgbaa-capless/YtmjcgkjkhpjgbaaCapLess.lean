/- CapLess: for every policy, all other caps and every cookie: lower caps let nothing last longer; and clamped by both policies of the same rules it is as by the lower caps. No condition. -/
import Derived.Test.YtmjcgkjkhpjgbaaPolicyG
import Derived.Test.YtmjcgkjkhpjgbaaOpenX
import Derived.Test.YtmjcgkjkhpjgbaaCkEq
import Derived.Test.YtmjcgkjkhpjgbaaOpen
import Derived.Test.YtmjcgkjkhpjgbaaOpenF
import Derived.Test.YtmjcgkjkhpjgbaaRows
namespace Go.Proofs.Ytmjcgkjkhpjgbaa.capLess
open Go.ChangeShapes Go.WideShapes Go.ChangeAt Go.RowKit
open Go.ChangeMaps (open_string shut_string)
set_option linter.all false
set_option maxRecDepth 100000

theorem two_new (W : World) (p : Po) (v : Value) (t : TypeId) : LRow ((W.alloc (.cells (poL p v).toArray t)).alloc (.cells (poL p v).toArray t)).drew W.heap.size (poL p v) ∧ LRow ((W.alloc (.cells (poL p v).toArray t)).alloc (.cells (poL p v).toArray t)).drew (W.heap.size + 1) (poL p v) ∧ Below W.heap.size W ((W.alloc (.cells (poL p v).toArray t)).alloc (.cells (poL p v).toArray t)).drew := by
  have h1 := LRow.new W (poL p v) t
  have h2 := LRow.new (W.alloc (.cells (poL p v).toArray t)) (poL p v) t
  rw [show (W.alloc (.cells (poL p v).toArray t)).heap.size = W.heap.size + 1 from by simp] at h2
  exact ⟨⟨(h1.below (below_new' _ _) (by simp)).all⟩, ⟨h2.all⟩, (next (below_new' _ _) (below_new' _ _)).drew⟩
theorem addN_mono (n s t : Int) (h : s ≤ t) : addN n s ≤ addN n t := by
  unfold addN
  split <;> split <;> (try split) <;> (try split) <;> omega
theorem addN_min (n s t : Int) : addN n (min s t) = min (addN n s) (addN n t) := by
  by_cases h : s ≤ t
  · have := addN_mono n s t h
    rw [show min s t = s by omega]; omega
  · have := addN_mono n t s (by omega)
    rw [show min s t = t by omega]; omega
theorem addN_range (n s : Int) : -11644473600 ≤ addN n s ∧ addN n s ≤ 253402300799 := by unfold addN; split <;> (try split) <;> omega
theorem capN_range (p : Po) (c : Ck) : -11644473600 ≤ capN p c ∧ capN p c ≤ 253402300799 := by
  unfold capN
  split
  · split
    · exact addN_range _ _
    · omega
  · omega
theorem exp_ok {m : Nat} {c : Ck} (h : CkOk m c) (n : Int) (hn : -11644473600 ≤ n ∧ n ≤ 253402300799) : CkOk m { c with expiry := min c.expiry n } :=
  ⟨h.name, h.value, h.domain, h.path, h.site, by have := h.expiry; show i64B (min c.expiry n); unfold i64B at this ⊢; omega, h.created, h.used, h.no⟩
theorem clamp_ok {m : Nat} {c : Ck} (p : Po) (h : CkOk m c) : CkOk m (clampC p c) := by
  unfold clampC
  by_cases e : capE p c = 0
  · rw [if_pos e]; exact exp_ok h _ (capN_range p c)
  · rw [if_neg e]; exact ⟨Nat.zero_le _, Nat.zero_le _, Nat.zero_le _, Nat.zero_le _, by show i64B 0; unfold i64B; omega, by show i64B 0; unfold i64B; omega, by show i64B 0; unfold i64B; omega, by show i64B 0; unfold i64B; omega, by show i64B 0; unfold i64B; omega⟩
theorem mix_caps (p : Po) (o : Cp) (a : Nat) (ha : a < 11) : (mixP p o 11).caps[a]?.getD 0 = min (p.caps[a]?.getD 0) (o.list[a]?.getD 0) := by
  rcases eleven a ha with rfl | rfl | rfl | rfl | rfl | rfl | rfl | rfl | rfl | rfl | rfl <;> rfl
theorem mix_ok {m : Nat} {p : Po} {o : Cp} (hp : PoOk m p) (ho : ∀ x ∈ o.list, i64B x) : PoOk m (mixP p o 11) := by
  refine ⟨hp.len, hp.rules, hp.dflt, fun x hx => ?_⟩
  obtain ⟨a, ha⟩ := List.getElem?_of_mem hx
  have hal : a < 11 := (List.getElem?_eq_some_iff.1 ha).1
  have h := mix_caps p o a hal
  rw [ha] at h
  have h1 := cap_i64 hp a
  have h2 : i64B (o.list[a]?.getD 0) := by
    cases e : o.list[a]? with
    | none => show i64B 0; unfold i64B; omega
    | some x => exact ho x (List.mem_of_getElem? e)
  have h' : x = min (p.caps[a]?.getD 0) (o.list[a]?.getD 0) := h
  unfold i64B at h1 h2 ⊢
  omega
theorem with_ok {m : Nat} {p : Po} {o : Cp} (hp : PoOk m p) (ho : ∀ x ∈ o.list, i64B x) : PoOk m (withC p o) := ⟨hp.len, hp.rules, hp.dflt, ho⟩
theorem capE_zero {p : Po} {c : Ck} (h : capE p c = 0) : chP p = 0 ∧ momB c.created = true := by
  unfold capE at h
  split at h
  · rename_i h1
    split at h
    · rename_i h2; exact ⟨h1, h2⟩
    · cases h
  · rename_i h1; exact absurd h h1
theorem capE_of {p : Po} {c : Ck} (h1 : chP p = 0) (h2 : momB c.created = true) : capE p c = 0 := by unfold capE; rw [if_pos h1, if_pos h2]
theorem mix_ch {p : Po} {o : Cp} (h1 : chP p = 0) (h2 : chP (withC p o) = 0) : chP (mixP p o 11) = 0 := by
  obtain ⟨a1, a2, a3, a4⟩ := chP_ok h1
  obtain ⟨_, _, _, b4⟩ := chP_ok h2
  refine chP_of a1 (chRs_all _ fun j x hj => a2 x (List.mem_of_getElem? hj)) a3 ?_
  rw [List.all_eq_true] at a4 b4 ⊢
  intro x hx
  obtain ⟨a, ha⟩ := List.getElem?_of_mem hx
  have hal : a < 11 := (List.getElem?_eq_some_iff.1 ha).1
  have h := mix_caps p o a hal
  rw [ha] at h
  have hp : a < p.caps.length := hal
  have hq : a < (withC p o).caps.length := hal
  have c1 := a4 (p.caps[a]?.getD 0) (by rw [List.getElem?_eq_getElem hp]; exact List.getElem_mem hp)
  have c2 := b4 ((withC p o).caps[a]?.getD 0) (by rw [List.getElem?_eq_getElem hq]; exact List.getElem_mem hq)
  have e2 : (withC p o).caps = o.list := rfl
  rw [e2] at c2
  have h' : x = min (p.caps[a]?.getD 0) (o.list[a]?.getD 0) := h
  unfold capB at c1 c2 ⊢
  rw [Bool.and_eq_true, decide_eq_true_eq, decide_eq_true_eq] at c1 c2 ⊢
  omega
theorem clampC_of {p : Po} {c : Ck} (h : capE p c = 0) : clampC p c = { c with expiry := min c.expiry (capN p c) } := by unfold clampC; rw [if_pos h]
theorem kind_exp (p : Po) (c : Ck) (e : Int) : kindP p { c with expiry := e } = kindP p c := rfl
theorem final {p : Po} {o : Cp} {c : Ck} (h1 : capE p c = 0) (h2 : capE (withC p o) (clampC p c) = 0) : capE (mixP p o 11) c = 0 ∧ clampC (mixP p o 11) c = clampC (withC p o) (clampC p c) ∧ (clampC (mixP p o 11) c).expiry ≤ (clampC p c).expiry := by
  obtain ⟨p1, m1⟩ := capE_zero h1
  obtain ⟨p2, _⟩ := capE_zero h2
  have p3 := mix_ch p1 p2
  have h3 : capE (mixP p o 11) c = 0 := capE_of p3 m1
  have hr := kindP_range p1 c
  have hd1 : clampC p c = { c with expiry := min c.expiry (capN p c) } := by unfold clampC; rw [if_pos h1]
  have hd3 : clampC (mixP p o 11) c = { c with expiry := min c.expiry (capN (mixP p o 11) c) } := by unfold clampC; rw [if_pos h3]
  have n2 : capN (withC p o) (clampC p c) = addN c.created (o.list[(kindP p c).1.toNat]?.getD 0) := by
    rw [hd1]
    unfold capN
    rw [if_pos p2]
    show (if momB c.created then _ else _) = _
    rw [if_pos m1]; rfl
  have n1 : capN p c = addN c.created (p.caps[(kindP p c).1.toNat]?.getD 0) := by unfold capN; rw [if_pos p1, if_pos m1]
  have n3 : capN (mixP p o 11) c = min (capN p c) (capN (withC p o) (clampC p c)) := by
    rw [n1, n2, ← addN_min]
    unfold capN
    rw [if_pos p3, if_pos m1]
    show addN c.created ((mixP p o 11).caps[(kindP p c).1.toNat]?.getD 0) = _
    rw [mix_caps p o _ (by omega)]
  have hd2 : clampC (withC p o) (clampC p c) = { c with expiry := min (min c.expiry (capN p c)) (capN (withC p o) (clampC p c)) } := by
    rw [clampC_of h2, hd1]
  refine ⟨h3, ?_, ?_⟩
  · rw [hd3, hd2, n3]
    congr 1
    omega
  · rw [hd3, hd1, n3]
    show min c.expiry (min (capN p c) _) ≤ min c.expiry (capN p c)
    omega
set_option maxHeartbeats 32000000 in
theorem walk (p : Po) (pv : Value) (o : Cp) (c : Ck) (w : World) (rp : Rows w pv ruC p.rules) (op : PoOk 140737488351232 p) (oo : ∀ x ∈ o.list, i64B x) (oc : CkOk 140737488351232 c) :
    Calls Try.prog 9 #[.agg #[pv, .int .i64 p.dflt, .int .i64 p.c0, .int .i64 p.c1, .int .i64 p.c2, .int .i64 p.c3, .int .i64 p.c4, .int .i64 p.c5, .int .i64 p.c6, .int .i64 p.c7, .int .i64 p.c8, .int .i64 p.c9, .int .i64 p.c10], .agg #[.int .i64 o.c0, .int .i64 o.c1, .int .i64 o.c2, .int .i64 o.c3, .int .i64 o.c4, .int .i64 o.c5, .int .i64 o.c6, .int .i64 o.c7, .int .i64 o.c8, .int .i64 o.c9, .int .i64 o.c10], .agg (ckC c).toArray] w fun e w' => e = .returned (.bool true) ∧ Below w.heap.size w w' := by
  obtain ⟨ad, cap, rfl⟩ := rp.shape
  obtain ⟨pq, hpq⟩ : ∃ q, q = withC p o := ⟨_, rfl⟩
  obtain ⟨pb, hpb⟩ : ∃ q, q = mixP p o 11 := ⟨_, rfl⟩
  obtain ⟨d1, hd1⟩ : ∃ d, d = clampC p c := ⟨_, rfl⟩
  obtain ⟨d2, hd2⟩ : ∃ d, d = clampC pq d1 := ⟨_, rfl⟩
  obtain ⟨d3, hd3⟩ : ∃ d, d = clampC pb c := ⟨_, rfl⟩
  obtain ⟨E1, hE1⟩ : ∃ d, d = capE p c := ⟨_, rfl⟩
  obtain ⟨E2, hE2⟩ : ∃ d, d = capE pq d1 := ⟨_, rfl⟩
  obtain ⟨E3, hE3⟩ : ∃ d, d = capE pb c := ⟨_, rfl⟩
  have HPQ : Hid _ := hpq
  have HPBB : Hid _ := hpb
  have HPQR : Hid (pq.rules = p.rules) := by show _ = _; rw [hpq]; rfl
  have HPBR : Hid (pb.rules = p.rules) := by show _ = _; rw [hpb]; rfl
  have HFIN : Hid (E1 = 0 → E2 = 0 → E3 = 0 ∧ d3 = d2 ∧ d3.expiry ≤ d1.expiry) := fun h1 h2 => by
    rw [hE1] at h1
    rw [hE2, hpq, hd1] at h2
    rw [hE3, hd3, hd2, hd1, hpq, hpb]
    exact final h1 h2
  have o1 : CkOk 140737488351232 d1 := by rw [hd1]; exact clamp_ok p oc
  have op2 : PoOk 140737488351232 pq := by rw [hpq]; exact with_ok op oo
  have op3 : PoOk 140737488351232 pb := by rw [hpb]; exact mix_ok op oo
  have K1 : Hid (∀ w', Rows w' (.slice ad p.rules.length cap) ruC p.rules → Calls Try.prog 20 #[.agg #[(.slice ad p.rules.length cap), .int .i64 p.dflt, .int .i64 p.c0, .int .i64 p.c1, .int .i64 p.c2, .int .i64 p.c3, .int .i64 p.c4, .int .i64 p.c5, .int .i64 p.c6, .int .i64 p.c7, .int .i64 p.c8, .int .i64 p.c9, .int .i64 p.c10], .agg #[.string (txt c.name), .string (txt c.value), .string (txt c.domain), .string (txt c.path), .bool c.hostOnly, .bool c.secure, .bool c.httpOnly, .bool c.lasting, .int .i64 c.site, .int .i64 c.expiry, .int .i64 c.created, .int .i64 c.used, .int .i64 c.no]] w' fun e w'' => e = .returned (.tuple #[.agg #[.string (txt d1.name), .string (txt d1.value), .string (txt d1.domain), .string (txt d1.path), .bool d1.hostOnly, .bool d1.secure, .bool d1.httpOnly, .bool d1.lasting, .int .i64 d1.site, .int .i64 d1.expiry, .int .i64 d1.created, .int .i64 d1.used, .int .i64 d1.no], .int .i64 E1]) ∧ Below w'.heap.size w' w'') := fun w' h1 => by
    rw [hd1, hE1]; exact clamp_any p _ c w' h1 op oc
  have K2 : Hid (∀ w', Rows w' (.slice ad p.rules.length cap) ruC p.rules → Calls Try.prog 20 #[.agg #[(.slice ad p.rules.length cap), .int .i64 pq.dflt, .int .i64 pq.c0, .int .i64 pq.c1, .int .i64 pq.c2, .int .i64 pq.c3, .int .i64 pq.c4, .int .i64 pq.c5, .int .i64 pq.c6, .int .i64 pq.c7, .int .i64 pq.c8, .int .i64 pq.c9, .int .i64 pq.c10], .agg #[.string (txt d1.name), .string (txt d1.value), .string (txt d1.domain), .string (txt d1.path), .bool d1.hostOnly, .bool d1.secure, .bool d1.httpOnly, .bool d1.lasting, .int .i64 d1.site, .int .i64 d1.expiry, .int .i64 d1.created, .int .i64 d1.used, .int .i64 d1.no]] w' fun e w'' => e = .returned (.tuple #[.agg #[.string (txt d2.name), .string (txt d2.value), .string (txt d2.domain), .string (txt d2.path), .bool d2.hostOnly, .bool d2.secure, .bool d2.httpOnly, .bool d2.lasting, .int .i64 d2.site, .int .i64 d2.expiry, .int .i64 d2.created, .int .i64 d2.used, .int .i64 d2.no], .int .i64 E2]) ∧ Below w'.heap.size w' w'') := fun w' h1 => by
    rw [hd2, hE2]; exact clamp_any pq _ d1 w' (by rw [HPQR.out]; exact h1) op2 o1
  have K3 : Hid (∀ w', Rows w' (.slice ad p.rules.length cap) ruC p.rules → Calls Try.prog 20 #[.agg #[(.slice ad p.rules.length cap), .int .i64 pb.dflt, .int .i64 pb.c0, .int .i64 pb.c1, .int .i64 pb.c2, .int .i64 pb.c3, .int .i64 pb.c4, .int .i64 pb.c5, .int .i64 pb.c6, .int .i64 pb.c7, .int .i64 pb.c8, .int .i64 pb.c9, .int .i64 pb.c10], .agg #[.string (txt c.name), .string (txt c.value), .string (txt c.domain), .string (txt c.path), .bool c.hostOnly, .bool c.secure, .bool c.httpOnly, .bool c.lasting, .int .i64 c.site, .int .i64 c.expiry, .int .i64 c.created, .int .i64 c.used, .int .i64 c.no]] w' fun e w'' => e = .returned (.tuple #[.agg #[.string (txt d3.name), .string (txt d3.value), .string (txt d3.domain), .string (txt d3.path), .bool d3.hostOnly, .bool d3.secure, .bool d3.httpOnly, .bool d3.lasting, .int .i64 d3.site, .int .i64 d3.expiry, .int .i64 d3.created, .int .i64 d3.used, .int .i64 d3.no], .int .i64 E3]) ∧ Below w'.heap.size w' w'') := fun w' h1 => by
    rw [hd3, hE3]; exact clamp_any pb _ c w' (by rw [HPBR.out]; exact h1) op3 oc
  have qd : ∀ w : World, (Op.equalIn 10000 31 (.agg #[.string (txt d2.name), .string (txt d2.value), .string (txt d2.domain), .string (txt d2.path), .bool d2.hostOnly, .bool d2.secure, .bool d2.httpOnly, .bool d2.lasting, .int .i64 d2.site, .int .i64 d2.expiry, .int .i64 d2.created, .int .i64 d2.used, .int .i64 d2.no]) (.agg #[.string (txt d2.name), .string (txt d2.value), .string (txt d2.domain), .string (txt d2.path), .bool d2.hostOnly, .bool d2.secure, .bool d2.httpOnly, .bool d2.lasting, .int .i64 d2.site, .int .i64 d2.expiry, .int .i64 d2.created, .int .i64 d2.used, .int .i64 d2.no])).run Try.prog w = .ok true w := fun w => by
    have k := ck_eqIn d2 d2 w
    rw [(eqC_iff d2 d2).2 rfl] at k
    exact k
  simp only [ckC]
  obtain ⟨W0, hW0⟩ : ∃ W0, W0 = (((w.alloc (.cells #[(.slice ad p.rules.length cap), .int .i64 p.dflt, .int .i64 p.c0, .int .i64 p.c1, .int .i64 p.c2, .int .i64 p.c3, .int .i64 p.c4, .int .i64 p.c5, .int .i64 p.c6, .int .i64 p.c7, .int .i64 p.c8, .int .i64 p.c9, .int .i64 p.c10] 25)).alloc (.cells #[.int .i64 o.c0, .int .i64 o.c1, .int .i64 o.c2, .int .i64 o.c3, .int .i64 o.c4, .int .i64 o.c5, .int .i64 o.c6, .int .i64 o.c7, .int .i64 o.c8, .int .i64 o.c9, .int .i64 o.c10] 23)).alloc (.cells #[.string (txt c.name), .string (txt c.value), .string (txt c.domain), .string (txt c.path), .bool c.hostOnly, .bool c.secure, .bool c.httpOnly, .bool c.lasting, .int .i64 c.site, .int .i64 c.expiry, .int .i64 c.created, .int .i64 c.used, .int .i64 c.no] 31)) := ⟨_, rfl⟩
  have P : Hid (PB W0 w.heap.size p (.slice ad p.rules.length cap)) := by
    rw [hW0]
    have h := PB.new w p (.slice ad p.rules.length cap) 25 rp
    exact ((h.below (below_new _ _)).below (below_new _ _))
  have O : Hid (OB W0 (w.heap.size + 1) o) := by
    rw [hW0]
    have h := OB.new (w.alloc (.cells #[(.slice ad p.rules.length cap), .int .i64 p.dflt, .int .i64 p.c0, .int .i64 p.c1, .int .i64 p.c2, .int .i64 p.c3, .int .i64 p.c4, .int .i64 p.c5, .int .i64 p.c6, .int .i64 p.c7, .int .i64 p.c8, .int .i64 p.c9, .int .i64 p.c10] 25)) o 23
    rw [show (w.alloc (.cells #[(.slice ad p.rules.length cap), .int .i64 p.dflt, .int .i64 p.c0, .int .i64 p.c1, .int .i64 p.c2, .int .i64 p.c3, .int .i64 p.c4, .int .i64 p.c5, .int .i64 p.c6, .int .i64 p.c7, .int .i64 p.c8, .int .i64 p.c9, .int .i64 p.c10] 25)).heap.size = w.heap.size + 1 from by simp] at h
    exact (h.below (below_new _ _))
  have C : Hid (KB W0 (w.heap.size + 1 + 1) c) := by
    rw [hW0]
    have h := KB.new ((w.alloc (.cells #[(.slice ad p.rules.length cap), .int .i64 p.dflt, .int .i64 p.c0, .int .i64 p.c1, .int .i64 p.c2, .int .i64 p.c3, .int .i64 p.c4, .int .i64 p.c5, .int .i64 p.c6, .int .i64 p.c7, .int .i64 p.c8, .int .i64 p.c9, .int .i64 p.c10] 25)).alloc (.cells #[.int .i64 o.c0, .int .i64 o.c1, .int .i64 o.c2, .int .i64 o.c3, .int .i64 o.c4, .int .i64 o.c5, .int .i64 o.c6, .int .i64 o.c7, .int .i64 o.c8, .int .i64 o.c9, .int .i64 o.c10] 23)) c 31
    rw [show ((w.alloc (.cells #[(.slice ad p.rules.length cap), .int .i64 p.dflt, .int .i64 p.c0, .int .i64 p.c1, .int .i64 p.c2, .int .i64 p.c3, .int .i64 p.c4, .int .i64 p.c5, .int .i64 p.c6, .int .i64 p.c7, .int .i64 p.c8, .int .i64 p.c9, .int .i64 p.c10] 25)).alloc (.cells #[.int .i64 o.c0, .int .i64 o.c1, .int .i64 o.c2, .int .i64 o.c3, .int .i64 o.c4, .int .i64 o.c5, .int .i64 o.c6, .int .i64 o.c7, .int .i64 o.c8, .int .i64 o.c9, .int .i64 o.c10] 23)).heap.size = w.heap.size + 1 + 1 from by simp] at h
    exact h
  have S : Hid (Below w.heap.size w W0) := by rw [hW0]; exact next (next (below_new _ _) (below_new _ _)) (below_new _ _)
  have HW0 : Hid _ := hW0
  clear rp op oo oc hW0 hpq hpb hd1 hd2 hd3 hE1 hE2 hE3 o1 op2 op3
  go_enter Try.func9, Try.ntmps9
  go_upto_region 1 with fail
  rw [← HW0.out]
  clear HW0
  go_wp2_with fail
  refine (capBegun_any _).mono ?_
  rintro e Wn1 ⟨rfl, hb1⟩
  replace P : Hid (PB Wn1 w.heap.size p (.slice ad p.rules.length cap)) := P.out.below hb1
  replace O : Hid (OB Wn1 (w.heap.size + 1) o) := O.out.below hb1
  replace C : Hid (KB Wn1 (w.heap.size + 1 + 1) c) := C.out.below hb1
  replace S : Hid (Below w.heap.size w Wn1) := next S.out hb1
  clear hb1
  have x0 : ∀ w', Below Wn1.heap.size Wn1 w' → w'.cell? ⟨w.heap.size, 0, none⟩ = some ((.slice ad p.rules.length cap)) := fun w' h => (P.out.below h).row.cell 0 rfl
  have x1 : ∀ w', Below Wn1.heap.size Wn1 w' → w'.cell? ⟨w.heap.size, 1, none⟩ = some (.int .i64 p.dflt) := fun w' h => (P.out.below h).row.cell 1 rfl
  have x2 : ∀ w', Below Wn1.heap.size Wn1 w' → w'.cell? ⟨w.heap.size, 2, none⟩ = some (.int .i64 p.c0) := fun w' h => (P.out.below h).row.cell 2 rfl
  have x3 : ∀ w', Below Wn1.heap.size Wn1 w' → w'.cell? ⟨w.heap.size, 3, none⟩ = some (.int .i64 p.c1) := fun w' h => (P.out.below h).row.cell 3 rfl
  have x4 : ∀ w', Below Wn1.heap.size Wn1 w' → w'.cell? ⟨w.heap.size, 4, none⟩ = some (.int .i64 p.c2) := fun w' h => (P.out.below h).row.cell 4 rfl
  have x5 : ∀ w', Below Wn1.heap.size Wn1 w' → w'.cell? ⟨w.heap.size, 5, none⟩ = some (.int .i64 p.c3) := fun w' h => (P.out.below h).row.cell 5 rfl
  have x6 : ∀ w', Below Wn1.heap.size Wn1 w' → w'.cell? ⟨w.heap.size, 6, none⟩ = some (.int .i64 p.c4) := fun w' h => (P.out.below h).row.cell 6 rfl
  have x7 : ∀ w', Below Wn1.heap.size Wn1 w' → w'.cell? ⟨w.heap.size, 7, none⟩ = some (.int .i64 p.c5) := fun w' h => (P.out.below h).row.cell 7 rfl
  have x8 : ∀ w', Below Wn1.heap.size Wn1 w' → w'.cell? ⟨w.heap.size, 8, none⟩ = some (.int .i64 p.c6) := fun w' h => (P.out.below h).row.cell 8 rfl
  have x9 : ∀ w', Below Wn1.heap.size Wn1 w' → w'.cell? ⟨w.heap.size, 9, none⟩ = some (.int .i64 p.c7) := fun w' h => (P.out.below h).row.cell 9 rfl
  have x10 : ∀ w', Below Wn1.heap.size Wn1 w' → w'.cell? ⟨w.heap.size, 10, none⟩ = some (.int .i64 p.c8) := fun w' h => (P.out.below h).row.cell 10 rfl
  have x11 : ∀ w', Below Wn1.heap.size Wn1 w' → w'.cell? ⟨w.heap.size, 11, none⟩ = some (.int .i64 p.c9) := fun w' h => (P.out.below h).row.cell 11 rfl
  have x12 : ∀ w', Below Wn1.heap.size Wn1 w' → w'.cell? ⟨w.heap.size, 12, none⟩ = some (.int .i64 p.c10) := fun w' h => (P.out.below h).row.cell 12 rfl
  go_upto_region 3 with fail
  go_cut [7, 8] from 18 to 19 (fun s7 s8 wx => ∃ q b : Nat, s7 = .pointer (some ⟨q, 0, none⟩) ∧ s8 = .pointer (some ⟨b, 0, none⟩) ∧ Hid (LRow wx q (poL p (.slice ad p.rules.length cap)) ∧ LRow wx b (poL p (.slice ad p.rules.length cap)) ∧ q ≠ b ∧ Wn1.heap.size ≤ q ∧ Wn1.heap.size ≤ b) ∧ Hid (Below Wn1.heap.size Wn1 wx))
  case first =>
    go_region_held3 (fun w' => Below Wn1.heap.size Wn1 w') (first | assumption | ((repeat (first | assumption | refine Below.drew ?_ | refine Below.alloc ?_ (by first | exact Nat.le_refl _ | exact Below.size (by assumption) | (simp; done) | (simp; omega)) _)); first | done | exact Below.refl _ _) | fail) (fail)
    all_goals go_wp2_with fail
    all_goals go_meet
    · exact ⟨Wn1.heap.size, Wn1.heap.size + 1, rfl, rfl, ⟨(two_new Wn1 p _ 25).1, (two_new Wn1 p _ 25).2.1, by omega, Nat.le_refl _, Nat.le_succ _⟩, (two_new Wn1 p _ 25).2.2⟩
    · exact ⟨Wn1.heap.size + 1, Wn1.heap.size, rfl, rfl, ⟨(two_new Wn1 p _ 25).2.1, (two_new Wn1 p _ 25).1, by omega, Nat.le_succ _, Nat.le_refl _⟩, (two_new Wn1 p _ 25).2.2⟩
  case rest =>
  obtain ⟨q, b, rfl, rfl, HQB, HBX⟩ := hcut
  rename World => wx
  clear x0 x1 x2 x3 x4 x5 x6 x7 x8 x9 x10 x11 x12
  have O1 : Hid (LRow wx (w.heap.size + 1) (cpL o)) := (O.out.below HBX.out).row
  have y0 := O1.out.cell 0 rfl
  have y1 := O1.out.cell 1 rfl
  have y2 := O1.out.cell 2 rfl
  have y3 := O1.out.cell 3 rfl
  have y4 := O1.out.cell 4 rfl
  have y5 := O1.out.cell 5 rfl
  have y6 := O1.out.cell 6 rfl
  have y7 := O1.out.cell 7 rfl
  have y8 := O1.out.cell 8 rfl
  have y9 := O1.out.cell 9 rfl
  have y10 := O1.out.cell 10 rfl
  have f0 := HQB.out.1.frozen 2 rfl
  have g0 := HQB.out.1.cell 2 rfl
  have f1 := HQB.out.1.frozen 3 rfl
  have g1 := HQB.out.1.cell 3 rfl
  have f2 := HQB.out.1.frozen 4 rfl
  have g2 := HQB.out.1.cell 4 rfl
  have f3 := HQB.out.1.frozen 5 rfl
  have g3 := HQB.out.1.cell 5 rfl
  have f4 := HQB.out.1.frozen 6 rfl
  have g4 := HQB.out.1.cell 6 rfl
  have f5 := HQB.out.1.frozen 7 rfl
  have g5 := HQB.out.1.cell 7 rfl
  have f6 := HQB.out.1.frozen 8 rfl
  have g6 := HQB.out.1.cell 8 rfl
  have f7 := HQB.out.1.frozen 9 rfl
  have g7 := HQB.out.1.cell 9 rfl
  have f8 := HQB.out.1.frozen 10 rfl
  have g8 := HQB.out.1.cell 10 rfl
  have f9 := HQB.out.1.frozen 11 rfl
  have g9 := HQB.out.1.cell 11 rfl
  have f10 := HQB.out.1.frozen 12 rfl
  have g10 := HQB.out.1.cell 12 rfl
  go_upto_region 5 with fail
  generalize hW2 : World.setCell _ _ _ = W2
  have Q2 : Hid (LRow W2 q (poL pq (.slice ad p.rules.length cap))) := by
    rw [← hW2, HPQ.out]
    exact ((((((((((HQB.out.1.set 2 _).set 3 _).set 4 _).set 5 _).set 6 _).set 7 _).set 8 _).set 9 _).set 10 _).set 11 _).set 12 _
  have B2 : Hid (LRow W2 b (poL (mixP p o 0) (.slice ad p.rules.length cap))) := by
    rw [← hW2]
    have hne : b ≠ q := fun e => HQB.out.2.2.1 e.symm
    exact rowSet (rowSet (rowSet (rowSet (rowSet (rowSet (rowSet (rowSet (rowSet (rowSet (rowSet HQB.out.2.1 hne) hne) hne) hne) hne) hne) hne) hne) hne) hne) hne
  have BW2 : Hid (Below Wn1.heap.size Wn1 W2) := by
    rw [← hW2]
    iterate 11 refine Below.setCell ?_ HQB.out.2.2.2.1 _
    exact HBX.out
  have HNE : Hid (q ≠ b ∧ Wn1.heap.size ≤ q ∧ Wn1.heap.size ≤ b) := HQB.out.2.2
  clear hW2 O1 HQB HBX y0 f0 g0 y1 f1 g1 y2 f2 g2 y3 f3 g3 y4 f4 g4 y5 f5 g5 y6 f6 g6 y7 f7 g7 y8 f8 g8 y9 f9 g9 y10 f10 g10
  go_wp2_with fail
  go_loopw [9] (fun i wr => ∃ k : Nat, k ≤ 11 ∧ i = .int .i64 k ∧ Hid (LRow wr b (poL (mixP p o k) (.slice ad p.rules.length cap))) ∧ Hid (LRow wr q (poL pq (.slice ad p.rules.length cap))) ∧ Hid (Below Wn1.heap.size Wn1 wr)) (fun i _ => 11 - (intOf i).toNat)
  case atStart => exact ⟨0, Nat.zero_le _, rfl, B2, Q2, BW2⟩
  case round =>
    obtain ⟨k, hk, rfl, hrb, hrq, hbw⟩ := hrel
    by_cases hlt : k < 11
    · obtain ⟨x, hx⟩ : ∃ x, x = p.caps[k]?.getD 0 := ⟨_, rfl⟩
      obtain ⟨y, hy⟩ : ∃ y, y = o.list[k]?.getD 0 := ⟨_, rfl⟩
      obtain ⟨m, hm⟩ : ∃ m, m = min x y := ⟨_, rfl⟩
      obtain ⟨Wr, hWr⟩ : ∃ W, W = wr := ⟨_, rfl⟩
      rw [← hWr] at hrb hrq hbw ⊢
      have cx : Wr.cell? ⟨w.heap.size, 2 + k, none⟩ = some (.int .i64 x) := by rw [hx]; exact (P.out.below hbw.out).row.cell (2 + k) (poL_cap p _ k hlt)
      have cy : Wr.cell? ⟨w.heap.size + 1, k, none⟩ = some (.int .i64 y) := by rw [hy]; exact (O.out.below hbw.out).row.cell k (cp_get o k hlt)
      obtain ⟨u, hu⟩ := mixP_get p o (.slice ad p.rules.length cap) k k hlt
      have co : Wr.cell? ⟨b, 2 + k, none⟩ = some u := hrb.out.cell (2 + k) hu
      have fo : Wr.frozen? ⟨b, 2 + k, none⟩ = false := hrb.out.frozen (2 + k) hu
      have hP0 : w.heap.size < Wn1.heap.size := cell_in (P.out.row.cell 1 rfl)
      have hO0 : w.heap.size + 1 < Wn1.heap.size := cell_in (O.out.row.cell 0 rfl)
      have n1 : ¬ w.heap.size = b := by have := HNE.out.2.2; omega
      have n2 : ¬ w.heap.size + 1 = b := by have := HNE.out.2.2; omega
      have HSET : Hid (LRow (Wr.setCell ⟨b, 2 + k, none⟩ (.int .i64 m)) b (poL (mixP p o (k + 1)) (.slice ad p.rules.length cap))) := by
        show LRow _ _ _
        rw [← mixP_set p o _ k hlt, ← hx, ← hy, ← hm]
        exact hrb.out.set (2 + k) _
      have HSQ : Hid (LRow (Wr.setCell ⟨b, 2 + k, none⟩ (.int .i64 m)) q (poL pq (.slice ad p.rules.length cap))) := rowSet hrq.out HNE.out.1
      have HBS : Hid (Below Wn1.heap.size Wn1 (Wr.setCell ⟨b, 2 + k, none⟩ (.int .i64 m))) := hbw.out.setCell (p := ⟨b, 2 + k, none⟩) HNE.out.2.2 _
      have sx : (Wr.setCell ⟨b, 2 + k, none⟩ (.int .i64 m)).cell? ⟨w.heap.size, 2 + k, none⟩ = some (.int .i64 x) := by
        rw [World.cell?_setCell_other _ _ _ _ (by intro e; injection e with e1 _; exact n1 e1.symm)]; exact cx
      have sy : (Wr.setCell ⟨b, 2 + k, none⟩ (.int .i64 m)).cell? ⟨w.heap.size + 1, k, none⟩ = some (.int .i64 y) := by
        rw [World.cell?_setCell_other _ _ _ _ (by intro e; injection e with e1 _; exact n2 e1.symm)]; exact cy
      have SX : Hid _ := And.intro sx sy
      have hmin : min x y = m := hm.symm
      have hk2 : (k : Int) < 11 := by omega
      have hk3 : (0 : Int) ≤ (k : Int) := by omega
      clear hx hy hm hWr hu sx sy hP0 hO0
      go_wp2_with fail
      go_region_held3 (fun w' => w'.cell? ⟨w.heap.size, 2 + k, none⟩ = some (.int .i64 x) ∧ w'.cell? ⟨w.heap.size + 1, k, none⟩ = some (.int .i64 y)) (first | exact SX.out | exact SX.out.1 | exact SX.out.2 | go_keep) (fail)
      go_wp2_with fail
      go_roundw
      case rel => exact ⟨k + 1, by omega, by go_num, ⟨HSET.out.all⟩, ⟨HSQ.out.all⟩, HBS.out.trans (below_drewN' _ _ 1)⟩
      case measure => simp [intOf]; omega
    · obtain rfl : k = 11 := by omega
      obtain ⟨Wz, hWz⟩ : ∃ W, W = wr := ⟨_, rfl⟩
      rw [← hWz] at hrb hrq hbw ⊢
      clear hWz hk hlt
      have hP0 : Below Wn1.heap.size Wn1 Wz := hbw.out
      replace P : Hid (PB Wz w.heap.size p (.slice ad p.rules.length cap)) := P.out.below hP0
      replace C : Hid (KB Wz (w.heap.size + 1 + 1) c) := C.out.below hP0
      replace S : Hid (Below w.heap.size w Wz) := next S.out hP0
      have Q : Hid (PB Wz q pq (.slice ad p.rules.length cap)) := ⟨hrq.out, by rw [HPQ.out]; exact P.out.rows⟩
      have B : Hid (PB Wz b pb (.slice ad p.rules.length cap)) := ⟨by rw [HPBB.out]; exact hrb.out, by rw [HPBB.out]; exact P.out.rows⟩
      clear hP0 O hrb hrq hbw B2 Q2 BW2 HNE
      go_upto_region 9 with fail
      have x0 := P.out.row.cell 0 rfl
      have x1 := P.out.row.cell 1 rfl
      have x2 := P.out.row.cell 2 rfl
      have x3 := P.out.row.cell 3 rfl
      have x4 := P.out.row.cell 4 rfl
      have x5 := P.out.row.cell 5 rfl
      have x6 := P.out.row.cell 6 rfl
      have x7 := P.out.row.cell 7 rfl
      have x8 := P.out.row.cell 8 rfl
      have x9 := P.out.row.cell 9 rfl
      have x10 := P.out.row.cell 10 rfl
      have x11 := P.out.row.cell 11 rfl
      have x12 := P.out.row.cell 12 rfl
      have y0 := C.out.row.cell 0 rfl
      have y1 := C.out.row.cell 1 rfl
      have y2 := C.out.row.cell 2 rfl
      have y3 := C.out.row.cell 3 rfl
      have y4 := C.out.row.cell 4 rfl
      have y5 := C.out.row.cell 5 rfl
      have y6 := C.out.row.cell 6 rfl
      have y7 := C.out.row.cell 7 rfl
      have y8 := C.out.row.cell 8 rfl
      have y9 := C.out.row.cell 9 rfl
      have y10 := C.out.row.cell 10 rfl
      have y11 := C.out.row.cell 11 rfl
      have y12 := C.out.row.cell 12 rfl
      go_wp2_with fail
      refine (K1.out _ P.out.rows).mono ?_
      rintro e v1 ⟨rfl, hb1⟩
      clear x0 x1 x2 x3 x4 x5 x6 x7 x8 x9 x10 x11 x12 y0 y1 y2 y3 y4 y5 y6 y7 y8 y9 y10 y11 y12
      obtain ⟨W1, hW1⟩ : ∃ W1, W1 = v1.alloc (.cells #[.string (txt d1.name), .string (txt d1.value), .string (txt d1.domain), .string (txt d1.path), .bool d1.hostOnly, .bool d1.secure, .bool d1.httpOnly, .bool d1.lasting, .int .i64 d1.site, .int .i64 d1.expiry, .int .i64 d1.created, .int .i64 d1.used, .int .i64 d1.no] 31) := ⟨_, rfl⟩
      have hc1 : Below Wz.heap.size Wz W1 := by rw [hW1]; exact next hb1 (below_new _ _)
      replace P : Hid (PB W1 w.heap.size p (.slice ad p.rules.length cap)) := P.out.below hc1
      replace C : Hid (KB W1 (w.heap.size + 1 + 1) c) := C.out.below hc1
      replace Q : Hid (PB W1 q pq (.slice ad p.rules.length cap)) := Q.out.below hc1
      replace B : Hid (PB W1 b pb (.slice ad p.rules.length cap)) := B.out.below hc1
      replace S : Hid (Below w.heap.size w W1) := next S.out hc1
      have X : Hid (KB W1 v1.heap.size d1) := by rw [hW1]; exact KB.new v1 d1 31
      have HW1 : Hid _ := hW1
      clear hb1 hc1 hW1
      go_upto_region 10 with fail
      rw [← HW1.out]
      clear HW1
      have x0 := Q.out.row.cell 0 rfl
      have x1 := Q.out.row.cell 1 rfl
      have x2 := Q.out.row.cell 2 rfl
      have x3 := Q.out.row.cell 3 rfl
      have x4 := Q.out.row.cell 4 rfl
      have x5 := Q.out.row.cell 5 rfl
      have x6 := Q.out.row.cell 6 rfl
      have x7 := Q.out.row.cell 7 rfl
      have x8 := Q.out.row.cell 8 rfl
      have x9 := Q.out.row.cell 9 rfl
      have x10 := Q.out.row.cell 10 rfl
      have x11 := Q.out.row.cell 11 rfl
      have x12 := Q.out.row.cell 12 rfl
      have y0 := X.out.row.cell 0 rfl
      have y1 := X.out.row.cell 1 rfl
      have y2 := X.out.row.cell 2 rfl
      have y3 := X.out.row.cell 3 rfl
      have y4 := X.out.row.cell 4 rfl
      have y5 := X.out.row.cell 5 rfl
      have y6 := X.out.row.cell 6 rfl
      have y7 := X.out.row.cell 7 rfl
      have y8 := X.out.row.cell 8 rfl
      have y9 := X.out.row.cell 9 rfl
      have y10 := X.out.row.cell 10 rfl
      have y11 := X.out.row.cell 11 rfl
      have y12 := X.out.row.cell 12 rfl
      go_wp2_with fail
      refine (K2.out _ (by have h := Q.out.rows; rw [HPQR.out] at h; exact h)).mono ?_
      rintro e v2 ⟨rfl, hb2⟩
      clear x0 x1 x2 x3 x4 x5 x6 x7 x8 x9 x10 x11 x12 y0 y1 y2 y3 y4 y5 y6 y7 y8 y9 y10 y11 y12
      obtain ⟨W2, hW2⟩ : ∃ W2, W2 = v2.alloc (.cells #[.string (txt d2.name), .string (txt d2.value), .string (txt d2.domain), .string (txt d2.path), .bool d2.hostOnly, .bool d2.secure, .bool d2.httpOnly, .bool d2.lasting, .int .i64 d2.site, .int .i64 d2.expiry, .int .i64 d2.created, .int .i64 d2.used, .int .i64 d2.no] 31) := ⟨_, rfl⟩
      have hc2 : Below W1.heap.size W1 W2 := by rw [hW2]; exact next hb2 (below_new _ _)
      replace P : Hid (PB W2 w.heap.size p (.slice ad p.rules.length cap)) := P.out.below hc2
      replace C : Hid (KB W2 (w.heap.size + 1 + 1) c) := C.out.below hc2
      replace Q : Hid (PB W2 q pq (.slice ad p.rules.length cap)) := Q.out.below hc2
      replace B : Hid (PB W2 b pb (.slice ad p.rules.length cap)) := B.out.below hc2
      replace X : Hid (KB W2 v1.heap.size d1) := X.out.below hc2
      replace S : Hid (Below w.heap.size w W2) := next S.out hc2
      have Y : Hid (KB W2 v2.heap.size d2) := by rw [hW2]; exact KB.new v2 d2 31
      have HW2 : Hid _ := hW2
      clear hb2 hc2 hW2
      go_upto_region 11 with fail
      rw [← HW2.out]
      clear HW2
      have x0 := B.out.row.cell 0 rfl
      have x1 := B.out.row.cell 1 rfl
      have x2 := B.out.row.cell 2 rfl
      have x3 := B.out.row.cell 3 rfl
      have x4 := B.out.row.cell 4 rfl
      have x5 := B.out.row.cell 5 rfl
      have x6 := B.out.row.cell 6 rfl
      have x7 := B.out.row.cell 7 rfl
      have x8 := B.out.row.cell 8 rfl
      have x9 := B.out.row.cell 9 rfl
      have x10 := B.out.row.cell 10 rfl
      have x11 := B.out.row.cell 11 rfl
      have x12 := B.out.row.cell 12 rfl
      have y0 := C.out.row.cell 0 rfl
      have y1 := C.out.row.cell 1 rfl
      have y2 := C.out.row.cell 2 rfl
      have y3 := C.out.row.cell 3 rfl
      have y4 := C.out.row.cell 4 rfl
      have y5 := C.out.row.cell 5 rfl
      have y6 := C.out.row.cell 6 rfl
      have y7 := C.out.row.cell 7 rfl
      have y8 := C.out.row.cell 8 rfl
      have y9 := C.out.row.cell 9 rfl
      have y10 := C.out.row.cell 10 rfl
      have y11 := C.out.row.cell 11 rfl
      have y12 := C.out.row.cell 12 rfl
      go_wp2_with fail
      refine (K3.out _ (by have h := B.out.rows; rw [HPBR.out] at h; exact h)).mono ?_
      rintro e v3 ⟨rfl, hb3⟩
      clear x0 x1 x2 x3 x4 x5 x6 x7 x8 x9 x10 x11 x12 y0 y1 y2 y3 y4 y5 y6 y7 y8 y9 y10 y11 y12
      obtain ⟨W3, hW3⟩ : ∃ W3, W3 = v3.alloc (.cells #[.string (txt d3.name), .string (txt d3.value), .string (txt d3.domain), .string (txt d3.path), .bool d3.hostOnly, .bool d3.secure, .bool d3.httpOnly, .bool d3.lasting, .int .i64 d3.site, .int .i64 d3.expiry, .int .i64 d3.created, .int .i64 d3.used, .int .i64 d3.no] 31) := ⟨_, rfl⟩
      have hc3 : Below W2.heap.size W2 W3 := by rw [hW3]; exact next hb3 (below_new _ _)
      replace P : Hid (PB W3 w.heap.size p (.slice ad p.rules.length cap)) := P.out.below hc3
      replace C : Hid (KB W3 (w.heap.size + 1 + 1) c) := C.out.below hc3
      replace Q : Hid (PB W3 q pq (.slice ad p.rules.length cap)) := Q.out.below hc3
      replace B : Hid (PB W3 b pb (.slice ad p.rules.length cap)) := B.out.below hc3
      replace X : Hid (KB W3 v1.heap.size d1) := X.out.below hc3
      replace Y : Hid (KB W3 v2.heap.size d2) := Y.out.below hc3
      replace S : Hid (Below w.heap.size w W3) := next S.out hc3
      have Z : Hid (KB W3 v3.heap.size d3) := by rw [hW3]; exact KB.new v3 d3 31
      have HW3 : Hid _ := hW3
      clear hb3 hc3 hW3
      go_upto_region 12 with fail
      rw [← HW3.out]
      clear HW3
      by_cases h1 : E1 = 0
      rotate_left
      · have q1 : (E1 != 0) = true := by rw [bne_iff_ne]; exact h1
        clear h1
        go_wp2_with fail
        go_ret
        exact ⟨rfl, S.out⟩
      have q1 : (E1 != 0) = false := by rw [h1]; rfl
      by_cases h2 : E2 = 0
      rotate_left
      · have q2 : (E2 != 0) = true := by rw [bne_iff_ne]; exact h2
        clear h1 h2
        go_wp2_with fail
        go_ret
        exact ⟨rfl, S.out⟩
      have q2 : (E2 != 0) = false := by rw [h2]; rfl
      obtain ⟨h3, h4, h5⟩ := HFIN.out h1 h2
      clear h1 h2
      have q3 : (E3 == 0) = true := by rw [h3]; rfl
      subst h4
      clear h3
      have x0 := Z.out.row.cell 0 rfl
      have x1 := Z.out.row.cell 1 rfl
      have x2 := Z.out.row.cell 2 rfl
      have x3 := Z.out.row.cell 3 rfl
      have x4 := Z.out.row.cell 4 rfl
      have x5 := Z.out.row.cell 5 rfl
      have x6 := Z.out.row.cell 6 rfl
      have x7 := Z.out.row.cell 7 rfl
      have x8 := Z.out.row.cell 8 rfl
      have x9 := Z.out.row.cell 9 rfl
      have x10 := Z.out.row.cell 10 rfl
      have x11 := Z.out.row.cell 11 rfl
      have x12 := Z.out.row.cell 12 rfl
      have y0 := Y.out.row.cell 0 rfl
      have y1 := Y.out.row.cell 1 rfl
      have y2 := Y.out.row.cell 2 rfl
      have y3 := Y.out.row.cell 3 rfl
      have y4 := Y.out.row.cell 4 rfl
      have y5 := Y.out.row.cell 5 rfl
      have y6 := Y.out.row.cell 6 rfl
      have y7 := Y.out.row.cell 7 rfl
      have y8 := Y.out.row.cell 8 rfl
      have y9 := Y.out.row.cell 9 rfl
      have y10 := Y.out.row.cell 10 rfl
      have y11 := Y.out.row.cell 11 rfl
      have y12 := Y.out.row.cell 12 rfl
      have z9 := X.out.row.cell 9 rfl
      go_wp2_with fail
      go_ret
      exact ⟨rfl, S.out⟩
set_option maxRecDepth 100000 in
theorem lifted (os : Os) (started : os.Started) (H : Type) (enc : TypeId × Value → H) :
    ReturnsInHanded {} Try.checked os 9 .any (Rows.capLessSpec.pre6 enc Try.prog Try.f9 Rows.capLessRow.domain false) (Rows.capLessSpec.post enc Try.prog Try.f9 false true false false) := by
  refine returnsInHanded_of_change_sized (C := Try.checked) own started (by kernel_rfl) Try.func9
    (ChangeSpec.witness6 (enc := enc) (C := Try.checked) false ⟨#[], #[.agg #[.slice none 0 0, .int .i64 0, .int .i64 0, .int .i64 0, .int .i64 0, .int .i64 0, .int .i64 0, .int .i64 0, .int .i64 0, .int .i64 0, .int .i64 0, .int .i64 0, .int .i64 0], .agg #[.int .i64 0, .int .i64 0, .int .i64 0, .int .i64 0, .int .i64 0, .int .i64 0, .int .i64 0, .int .i64 0, .int .i64 0, .int .i64 0, .int .i64 0], .agg #[.string ByteArray.empty, .string ByteArray.empty, .string ByteArray.empty, .string ByteArray.empty, .bool false, .bool false, .bool false, .bool false, .int .i64 0, .int .i64 0, .int .i64 0, .int .i64 0, .int .i64 0]], []⟩ 8 (by kernel_rfl) (by kernel_rfl) (by kernel_rfl) (by kernel_rfl)) ?_
  intro W base args ds gs before hval0 hW hcnd hsz0 _
  have hsz : (DataW.weightsEach Try.prog (Try.f9.params.toList ++ Rows.capLessSpec.plain.varTypes Try.prog) (ds ++ gs)).all (· ≤ reachBytes) = true := hsz0
  have hval : ∀ (j : Nat) t v, Try.f9.params[j]? = some t → args[j]? = some v → Value.okWide Try.prog W .any base t v := hval0
  have hW' := hW
  obtain ⟨p, q, hA0, hV, rfl, hfz, hnd⟩ := hW
  have hA : DataW.TrodAll enc Try.prog W 0 (fun _ => true) true Try.f9.params.toList args.toList ds p := hA0
  rw [Try.params9] at hA hval hsz
  obtain ⟨v0, vs0, d0, ds0, p0, q0, hargs, rfl, rfl, h0, r0⟩ := trodAll_cons hA
  obtain ⟨v1, vs1, d1, ds1, p1, q1, rfl, rfl, rfl, h1, r1⟩ := trodAll_cons r0
  obtain ⟨v2, vs2, d2, ds2, p2, q2, rfl, rfl, rfl, h2, r2⟩ := trodAll_cons r1
  obtain ⟨rfl, rfl, rfl⟩ := trodAll_nil r2
  obtain rfl : args = #[v0, v1, v2] := by cases args; simp_all
  obtain ⟨rfl, rfl⟩ := trodVars_none hV
  have k0 := h0
  have lt0 : ∀ x ∈ p0, x.block < W.heap.size := by obtain ⟨m, hm⟩ := k0; exact DataW.trod_lt m _ _ _ hm
  have k1 := h1
  have lt1 : ∀ x ∈ p1, x.block < W.heap.size := by obtain ⟨m, hm⟩ := k1; exact DataW.trod_lt m _ _ _ hm
  have k2 := h2
  have lt2 : ∀ x ∈ p2, x.block < W.heap.size := by obtain ⟨m, hm⟩ := k2; exact DataW.trod_lt m _ _ _ hm
  obtain ⟨po0, pv0, rfl, rd0, ok0, bk0⟩ := open_policy (hval 0 25 v0 rfl rfl) k0 140737488351232 (fits_each hsz (j := 0) (t := 25) rfl rfl)
  obtain ⟨cp1, rfl, ok1, bk1⟩ := open_cp (hval 1 23 v1 rfl rfl) k1 140737488351232 (fits_each hsz (j := 1) (t := 23) rfl rfl)
  obtain ⟨l2, rfl, ok2, bk2⟩ := open_cookie (hval 2 31 v2 rfl rfl) k2 140737488351232 (fits_each hsz (j := 2) (t := 31) rfl rfl)
  clear hA0 hval0
  refine (walk po0 pv0 cp1 l2 W rd0 ok0 ok1 ok2).mono fun e W' ⟨he, bel⟩ => ?_
  subst he
  exact ⟨_, rfl, _, _, _, [], _, [], hW', trodAll_mk1 (shut_bool Try.underlying4 _), (trodAll_cons_mk (Below.trod laidOut (by kernel_rfl) (of_decide_eq_true (by kernel_rfl)) k0 bel lt0) (trodAll_cons_mk (Below.trod laidOut (by kernel_rfl) (of_decide_eq_true (by kernel_rfl)) k1 bel lt1) (trodAll_cons_mk (Below.trod laidOut (by kernel_rfl) (of_decide_eq_true (by kernel_rfl)) k2 bel lt2) trodAll_mk0))), rfl, bel.frame _, fun h => by cases h⟩

theorem proved : Rows.CapLessSaid :=
  OpenClaim.holds_of_wide 9 Try.f9 rfl rfl rfl rfl rfl rfl rfl ⟨rfl, rfl, rfl, rfl, rfl⟩ rfl rfl rfl rfl rfl (by kernel_rfl) Try.func9 (by kernel_rfl)
    (of_decide_eq_true (by kernel_rfl)) (by unfold Func.isWrapper; first | (rw [if_pos (by decide +kernel)]; kernel_rfl) | (rw [if_neg (by decide +kernel)]; exact ⟨rfl, rfl⟩))
    (fun os started H enc _ => lifted os started H enc)
#print axioms proved
end Go.Proofs.Ytmjcgkjkhpjgbaa.capLess
