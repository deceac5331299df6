/- PolicyFirst: for all policies, cookies, places and rules whose texts and lists are bounded as the statement says: the first rule that names a cookie counts. -/
import Derived.Test.YtmjcgkjkhpjgbaaRefP
import Derived.Test.YtmjcgkjkhpjgbaaPolicyS
import Derived.Test.YtmjcgkjkhpjgbaaKit5
import Derived.Test.YtmjcgkjkhpjgbaaOpen
import Derived.Test.YtmjcgkjkhpjgbaaOpenF
import Derived.Test.YtmjcgkjkhpjgbaaOpenP
import Derived.Test.YtmjcgkjkhpjgbaaRows
namespace Go.Proofs.Ytmjcgkjkhpjgbaa.policyFirst
open Go.ChangeShapes Go.WideShapes Go.ChangeAt Go.RowKit
open Go.ChangeMaps (open_string shut_string)
set_option linter.all false
set_option maxRecDepth 100000

theorem own_sl {W : World} {base : Nat} {e : TypeId} {size : Nat} {v : Value} {n : Nat} {cs : List Value} (h : W.ownsRow base e size v n cs) : ∃ ad cap, v = .slice ad n cap := by
  rcases h.2 with ⟨h1, h2⟩ | ⟨g, cap, cur, h1, _⟩
  · exact ⟨none, 0, by rw [h1, h2]⟩
  · exact ⟨_, cap, h1⟩
theorem own_set1 {W : World} {base : Nat} {e : TypeId} {size : Nat} {v : Value} {n : Nat} {cs : List Value} {X k : Nat} {x : Value} (h : W.ownsRow base e size v n cs) (hX : X < base) : (W.setCell ⟨X, k, none⟩ x).ownsRow base e size v n cs := by
  refine h.kept (row := some X) ⟨rfl, rfl, rfl, by simp, fun j hj hne => Below.heap_setCell _ _ _ _ (fun e => hne (by rw [show j = X from by first | exact e | exact e.symm]))⟩ (Or.inr fun e => ?_)
  have := (h.lt X e).1
  omega
theorem infoRu : (Try.prog.info? 39).map (fun i => (i.zero, i.size, i.bytes)) = some (some (.agg #[.int .i64 0, .string ⟨#[]⟩, .int .i64 0, .int .i64 0]), 4, 40) := by kernel_rfl
theorem g_infoRu : ∃ i, Try.prog.info? 39 = some i ∧ i.zero = some (.agg #[.int .i64 0, .string ⟨#[]⟩, .int .i64 0, .int .i64 0]) ∧ i.size = 4 ∧ i.bytes = 40 := by
  have h := infoRu
  cases hx : Try.prog.info? 39 with
  | none => rw [hx] at h; cases h
  | some i =>
    rw [hx] at h
    injection h with h
    injection h with h1 h2
    injection h2 with h2 h3
    exact ⟨i, rfl, h1, h2, h3⟩
theorem rows_fin {W : World} {base m : Nat} {v : Value} {cs : List Value} {q : List Ru} (h : W.ownsRow base 39 4 v m cs) (hm : q.length = m) (hc : q.flatMap ruC = cs) : Rows W v ruC q := by
  subst hm hc
  exact Reads.of_own h
theorem mem_ins {l : List Ru} {i : Nat} {u r : Ru} (h : r ∈ l.take i ++ [u] ++ l.drop i) : r ∈ l ∨ r = u := by
  rcases List.mem_append.1 h with h | h
  · rcases List.mem_append.1 h with h | h
    · exact .inl (List.mem_of_mem_take h)
    · exact .inr (by simpa using h)
  · exact .inl (List.mem_of_mem_drop h)
theorem none_of {l : List Ru} {c : Ck} (h : l.any (fun r => namesR r c) = false) : ∀ r ∈ l, namesR r c = false := fun r hr => by
  cases hn : namesR r c
  · rfl
  · rw [List.any_eq_true.2 ⟨r, hr, hn⟩] at h; cases h
theorem ins_early (l : List Ru) (i : Nat) (u : Ru) (d : Int) (c : Ck) (h : (l.take i).any (fun r => namesR r c) = true) : kindL (l.take i ++ [u] ++ l.drop i) d c = kindL l d c := by
  have hs : ∃ r ∈ l.take i, namesR r c = true := List.any_eq_true.1 h
  rw [List.append_assoc, kindL_some _ _ _ _ hs]
  conv => rhs; rw [← List.take_append_drop i l]
  rw [kindL_some _ _ _ _ hs]
theorem ins_no (l : List Ru) (i : Nat) (u : Ru) (d : Int) (c : Ck) (h : (l.take i).any (fun r => namesR r c) = false) (hu : namesR u c = false) : kindL (l.take i ++ [u] ++ l.drop i) d c = kindL l d c := by
  rw [List.append_assoc, kindL_append _ _ _ _ (none_of h), List.singleton_append, kindL_no _ _ _ _ hu]
  conv => rhs; rw [← List.take_append_drop i l]
  rw [kindL_append _ _ _ _ (none_of h)]
theorem ins_yes (l : List Ru) (i : Nat) (u : Ru) (d : Int) (c : Ck) (h : (l.take i).any (fun r => namesR r c) = false) (hu : namesR u c = true) : kindL (l.take i ++ [u] ++ l.drop i) d c = (u.purpose, u.vendor) := by
  rw [List.append_assoc, kindL_append _ _ _ _ (none_of h), List.singleton_append, kindL_yes _ _ _ _ hu]
theorem keepA {w w' : World} (h : Below w.heap.size w w') (o : Obj) : Below w.heap.size w (w'.alloc o) := h.alloc h.size o
theorem reads_sliced {W : World} {ad : Option Addr} {n cap i : Nat} {l : List Ru} (h : Rows W (.slice ad n cap) ruC l) (hn : n = l.length) (hi : i ≤ n) (hc : n ≤ cap) : Reads W (sliced ad 0 i cap 4) i ((l.take i).flatMap ruC) ∧ Reads W (sliced ad i n cap 4) (n - i) ((l.drop i).flatMap ruC) := by
  have h0 := h
  obtain ⟨ad', cap', hv, h⟩ := h
  injection hv with e1 e2 e3
  subst e1
  rcases h with h | ⟨b, off, rfl, h⟩
  · have hl : l = [] := flat_nil ruC 3 (fun _ => rfl) l h
    subst hl
    exact ⟨⟨_, _, rfl, .inl (by simp)⟩, ⟨_, _, rfl, .inl (by simp)⟩⟩
  · refine ⟨?_, ?_⟩
    · have k := rows_to h0 i i cap (by rw [List.length_take]; omega)
      have k : Reads _ _ (l.take i).length _ := k
      rw [List.length_take, Nat.min_eq_left (by omega)] at k
      have e : sliced (some ⟨b, off, none⟩) 0 i cap 4 = .slice (some ⟨b, off, none⟩) i cap := by
        unfold sliced
        by_cases hz : cap = 0
        · rw [if_pos hz]; rfl
        · rw [if_neg hz]; simp [Addr.add]
      rw [e]; exact k
    · by_cases hz : cap = i
      · have hd : l.drop i = [] := List.drop_eq_nil_of_le (by omega)
        rw [hd]
        exact ⟨_, _, rfl, .inl rfl⟩
      · have k := rows_from 4 (fun _ => rfl) h0 i (n - i) (cap - i) (by rw [List.length_drop, hn])
        have k : Reads _ _ (l.drop i).length _ := k
        rw [List.length_drop, ← hn] at k
        have e : sliced (some ⟨b, off, none⟩) i n cap 4 = .slice (some ⟨b, off + i * 4, none⟩) (n - i) (cap - i) := by
          unfold sliced
          rw [if_neg hz]
          show Value.slice (some (Addr.add _ _)) _ _ = _
          rw [add_none5]
        rw [e]; exact k
theorem cellTys : Try.prog.cellTypes Try.prog.depth 25 = some [22, 3, 3, 3, 3, 3, 3, 3, 3, 3, 3, 3, 3] := by kernel_rfl
theorem policy_cap {W : World} {base : Nat} {ad : Option Addr} {n cap : Nat} {xs : List Value} (hv : Value.okWide Try.prog W .any base 25 (.agg (Value.slice ad n cap :: xs).toArray)) : n ≤ cap := by
  simp only [Value.okWide, Try.underlying25] at hv
  obtain ⟨cs, h1, _, ts, hts, _, hall⟩ := hv
  injection h1 with h1
  subst h1
  rw [cellTys] at hts
  injection hts with hts
  subst hts
  obtain ⟨t, ht, hc⟩ := hall 0 _ rfl
  have e : t = 22 := by simpa using ht.symm
  subst e
  simp only [Cell.okWide, Try.underlying22] at hc
  unfold Cell.ok at hc
  simp only [Try.underlying22] at hc
  cases ad with
  | none =>
    cases n with
    | zero => exact Nat.zero_le _
    | succ n => cases cap <;> simp at hc
  | some a => exact hc.1
theorem open_policy2 {H : Type} {enc : TypeId × Value → H} {W : World} {base : Nat} {v : Value} {d : DataW H} {ps : List MemPlace} (hv : Value.okWide Try.prog W .any base 25 v)
    (h : DataW.Trod enc Try.prog W 0 (fun _ => true) true 25 v d ps) (m : Nat) (hf : Fits m (DataW.weights Try.prog 25 d)) :
    ∃ (p : Po) (pv : Value), v = .agg #[pv, .int .i64 p.dflt, .int .i64 p.c0, .int .i64 p.c1, .int .i64 p.c2, .int .i64 p.c3, .int .i64 p.c4, .int .i64 p.c5, .int .i64 p.c6, .int .i64 p.c7, .int .i64 p.c8, .int .i64 p.c9, .int .i64 p.c10] ∧ Rows W pv ruC p.rules ∧ (PoOk m p ∧ ∀ ad n cap, pv = .slice ad n cap → n ≤ cap) ∧ poBulk p ≤ Rows.uptoBulk d := by
  obtain ⟨p, pv, e, h1, h2, h3⟩ := open_policy hv h m hf
  refine ⟨p, pv, e, h1, ⟨h2, fun ad n cap hp => ?_⟩, h3⟩
  rw [e, hp] at hv
  exact policy_cap hv
set_option maxHeartbeats 64000000 in
theorem walk (p : Po) (pv : Value) (c : Ck) (x : Int) (u : Ru) (w : World) (rp : Rows w pv ruC p.rules) (op0 : PoOk maxLen p ∧ ∀ ad n cap, pv = .slice ad n cap → n ≤ cap) (oc0 : CkOk maxLen c) (hx : -9223372036854775808 ≤ x ∧ x ≤ 9223372036854775807) (ou0 : RuOk maxLen u)
    (hk : poBulk p + wCookie.bulk c + ruBulk u ≤ 1099511627776) :
    Calls Try.prog 4 #[.agg #[pv, .int .i64 p.dflt, .int .i64 p.c0, .int .i64 p.c1, .int .i64 p.c2, .int .i64 p.c3, .int .i64 p.c4, .int .i64 p.c5, .int .i64 p.c6, .int .i64 p.c7, .int .i64 p.c8, .int .i64 p.c9, .int .i64 p.c10], .agg (ckC c).toArray, .int .i64 x, .agg #[.int .i64 u.kind, .string (txt u.text), .int .i64 u.purpose, .int .i64 u.vendor]] w fun e w' => e = .returned (.bool true) ∧ Below w.heap.size w w' := by
  have op : PoOk 140737488351232 p := po_small op0.1 (by omega)
  have oc : CkOk 140737488351232 c := (ck_small oc0 (by omega)).1
  have hd : (c.domain.length + 1) * 16 ≤ 140737488355328 := (ck_small oc0 (by omega)).2
  have ou : RuOk 140737488351232 u := ru_small ou0 (by omega)
  have hnb : p.rules.length ≤ 1099511627776 := by
    have h1 : (p.rules.map ruBulk).sum ≤ 1099511627776 := by unfold poBulk at hk; omega
    have := sum_len ruBulk p.rules (fun r => by unfold ruBulk; omega)
    omega
  obtain ⟨ad, cap, rfl⟩ := rp.shape
  have hcap := op0.2 _ _ _ rfl
  obtain ⟨a, ha⟩ : ∃ a, a = (kindP p c).1 := ⟨_, rfl⟩
  obtain ⟨b, hb⟩ : ∃ b, b = (kindP p c).2 := ⟨_, rfl⟩
  obtain ⟨l, hl⟩ : ∃ l, l = p.rules := ⟨_, rfl⟩
  have HLL : Hid (l = p.rules) := hl
  obtain ⟨n, hn⟩ : ∃ n, n = p.rules.length := ⟨_, rfl⟩
  have HN : Hid (n = l.length) := by show _ = _; rw [hn, hl]
  rw [← hn] at rp hnb hcap ⊢
  have HCAP : Hid (n ≤ cap) := hcap
  have HNB : Hid (n ≤ 1099511627776) := hnb
  have HAB : Hid (kindL l p.dflt c = (a, b)) := by show _ = _; rw [hl, ha, hb]; rfl
  have HRR : Hid (∀ w', Below w.heap.size w w' → Rows w' (.slice ad n cap) ruC p.rules) := fun w' h => Rows.below rp h (Nat.le_refl _)
  have KK : Hid (∀ w', Rows w' (.slice ad n cap) ruC p.rules → Calls Try.prog 10 #[.agg #[(.slice ad n cap), .int .i64 p.dflt, .int .i64 p.c0, .int .i64 p.c1, .int .i64 p.c2, .int .i64 p.c3, .int .i64 p.c4, .int .i64 p.c5, .int .i64 p.c6, .int .i64 p.c7, .int .i64 p.c8, .int .i64 p.c9, .int .i64 p.c10], .agg #[.string (txt c.name), .string (txt c.value), .string (txt c.domain), .string (txt c.path), .bool c.hostOnly, .bool c.secure, .bool c.httpOnly, .bool c.lasting, .int .i64 c.site, .int .i64 c.expiry, .int .i64 c.created, .int .i64 c.used, .int .i64 c.no]] w' fun e w'' => e = .returned (.tuple #[.int .i64 a, .int .i64 b]) ∧ Below w'.heap.size w' w'') := fun w' h1 => by rw [ha, hb]; exact kind_any p _ c w' h1 op.len op.rules oc
  have KF : Hid (∀ w' sd m sc q, Rows w' (.slice sd m sc) ruC q → (∀ r ∈ q, r ∈ l ∨ r = u) → q.length ≤ 140737488351232 → Calls Try.prog 10 #[.agg #[(.slice sd m sc), .int .i64 p.dflt, .int .i64 p.c0, .int .i64 p.c1, .int .i64 p.c2, .int .i64 p.c3, .int .i64 p.c4, .int .i64 p.c5, .int .i64 p.c6, .int .i64 p.c7, .int .i64 p.c8, .int .i64 p.c9, .int .i64 p.c10], .agg #[.string (txt c.name), .string (txt c.value), .string (txt c.domain), .string (txt c.path), .bool c.hostOnly, .bool c.secure, .bool c.httpOnly, .bool c.lasting, .int .i64 c.site, .int .i64 c.expiry, .int .i64 c.created, .int .i64 c.used, .int .i64 c.no]] w' fun e w'' => e = .returned (.tuple #[.int .i64 (kindL q p.dflt c).1, .int .i64 (kindL q p.dflt c).2]) ∧ Below w'.heap.size w' w'') := fun w' sd m sc q h1 h2 h3 => by
    have k := kind_any { p with rules := q } (.slice sd m sc) c w' h1 h3 (fun r hr => by
      rcases h2 r hr with h | rfl
      · exact op.rules r (by rw [← hl]; exact h)
      · exact ou) oc
    exact k
  have KN : Hid (∀ (r : Ru), r ∈ l ∨ r = u → ∀ w', Calls Try.prog 17 #[.agg #[.int .i64 r.kind, .string (txt r.text), .int .i64 r.purpose, .int .i64 r.vendor], .agg #[.string (txt c.name), .string (txt c.value), .string (txt c.domain), .string (txt c.path), .bool c.hostOnly, .bool c.secure, .bool c.httpOnly, .bool c.lasting, .int .i64 c.site, .int .i64 c.expiry, .int .i64 c.created, .int .i64 c.used, .int .i64 c.no]] w' fun e w'' => e = .returned (.bool (namesR r c)) ∧ Below w'.heap.size w' w'') := fun r h w' => namesOf_any r c w' oc.name (by
    rcases h with h | rfl
    · exact (op.rules r (by rw [← hl]; exact h)).text
    · exact ou.text) hd
  simp only [ckC]
  obtain ⟨W0, hW0⟩ : ∃ W0, W0 = (((w.alloc (.cells #[(.slice ad n cap), .int .i64 p.dflt, .int .i64 p.c0, .int .i64 p.c1, .int .i64 p.c2, .int .i64 p.c3, .int .i64 p.c4, .int .i64 p.c5, .int .i64 p.c6, .int .i64 p.c7, .int .i64 p.c8, .int .i64 p.c9, .int .i64 p.c10] 25)).alloc (.cells #[.string (txt c.name), .string (txt c.value), .string (txt c.domain), .string (txt c.path), .bool c.hostOnly, .bool c.secure, .bool c.httpOnly, .bool c.lasting, .int .i64 c.site, .int .i64 c.expiry, .int .i64 c.created, .int .i64 c.used, .int .i64 c.no] 31)).alloc (.cells #[.int .i64 u.kind, .string (txt u.text), .int .i64 u.purpose, .int .i64 u.vendor] 39)) := ⟨_, rfl⟩
  have P : Hid (PB W0 w.heap.size p (.slice ad n cap)) := by
    rw [hW0]
    have h := PB.new w p (.slice ad n cap) 25 rp
    exact ((h.below (below_new _ _)).below (below_new _ _))
  have C : Hid (KB W0 (w.heap.size + 1) c) := by
    rw [hW0]
    have h := KB.new (w.alloc (.cells #[(.slice ad n cap), .int .i64 p.dflt, .int .i64 p.c0, .int .i64 p.c1, .int .i64 p.c2, .int .i64 p.c3, .int .i64 p.c4, .int .i64 p.c5, .int .i64 p.c6, .int .i64 p.c7, .int .i64 p.c8, .int .i64 p.c9, .int .i64 p.c10] 25)) c 31
    rw [show (w.alloc (.cells #[(.slice ad n cap), .int .i64 p.dflt, .int .i64 p.c0, .int .i64 p.c1, .int .i64 p.c2, .int .i64 p.c3, .int .i64 p.c4, .int .i64 p.c5, .int .i64 p.c6, .int .i64 p.c7, .int .i64 p.c8, .int .i64 p.c9, .int .i64 p.c10] 25)).heap.size = w.heap.size + 1 from by simp] at h
    exact (h.below (below_new _ _))
  have R : Hid (RB W0 (w.heap.size + 1 + 1) u) := by
    rw [hW0]
    have h := RB.new ((w.alloc (.cells #[(.slice ad n cap), .int .i64 p.dflt, .int .i64 p.c0, .int .i64 p.c1, .int .i64 p.c2, .int .i64 p.c3, .int .i64 p.c4, .int .i64 p.c5, .int .i64 p.c6, .int .i64 p.c7, .int .i64 p.c8, .int .i64 p.c9, .int .i64 p.c10] 25)).alloc (.cells #[.string (txt c.name), .string (txt c.value), .string (txt c.domain), .string (txt c.path), .bool c.hostOnly, .bool c.secure, .bool c.httpOnly, .bool c.lasting, .int .i64 c.site, .int .i64 c.expiry, .int .i64 c.created, .int .i64 c.used, .int .i64 c.no] 31)) u 39
    rw [show ((w.alloc (.cells #[(.slice ad n cap), .int .i64 p.dflt, .int .i64 p.c0, .int .i64 p.c1, .int .i64 p.c2, .int .i64 p.c3, .int .i64 p.c4, .int .i64 p.c5, .int .i64 p.c6, .int .i64 p.c7, .int .i64 p.c8, .int .i64 p.c9, .int .i64 p.c10] 25)).alloc (.cells #[.string (txt c.name), .string (txt c.value), .string (txt c.domain), .string (txt c.path), .bool c.hostOnly, .bool c.secure, .bool c.httpOnly, .bool c.lasting, .int .i64 c.site, .int .i64 c.expiry, .int .i64 c.created, .int .i64 c.used, .int .i64 c.no] 31)).heap.size = w.heap.size + 1 + 1 from by simp] at h
    exact h
  have S : Hid (Below w.heap.size w W0) := by rw [hW0]; exact next (next (below_new _ _) (below_new _ _)) (below_new _ _)
  have HW0 : Hid _ := hW0
  clear rp op0 oc0 ou0 hk op oc ou hd ha hb hl hn hnb hcap hW0
  go_enter Try.func4, Try.ntmps4
  go_upto_region 1 with fail
  rw [← HW0.out]
  clear HW0
  have x0 := P.out.row.cell 0 rfl
  have x1 := P.out.row.cell 1 rfl
  have x2 := P.out.row.cell 2 rfl
  have x3 := P.out.row.cell 3 rfl
  have x4 := P.out.row.cell 4 rfl
  have x5 := P.out.row.cell 5 rfl
  have x6 := P.out.row.cell 6 rfl
  have x7 := P.out.row.cell 7 rfl
  have x8 := P.out.row.cell 8 rfl
  have x9 := P.out.row.cell 9 rfl
  have x10 := P.out.row.cell 10 rfl
  have x11 := P.out.row.cell 11 rfl
  have x12 := P.out.row.cell 12 rfl
  have y0 := C.out.row.cell 0 rfl
  have y1 := C.out.row.cell 1 rfl
  have y2 := C.out.row.cell 2 rfl
  have y3 := C.out.row.cell 3 rfl
  have y4 := C.out.row.cell 4 rfl
  have y5 := C.out.row.cell 5 rfl
  have y6 := C.out.row.cell 6 rfl
  have y7 := C.out.row.cell 7 rfl
  have y8 := C.out.row.cell 8 rfl
  have y9 := C.out.row.cell 9 rfl
  have y10 := C.out.row.cell 10 rfl
  have y11 := C.out.row.cell 11 rfl
  have y12 := C.out.row.cell 12 rfl
  go_wp2_with fail
  refine (KK.out _ (HRR.out _ S.out)).mono ?_
  rintro e Wn1 ⟨rfl, hb1⟩
  clear x0 x1 x2 x3 x4 x5 x6 x7 x8 x9 x10 x11 x12 y0 y1 y2 y3 y4 y5 y6 y7 y8 y9 y10 y11 y12
  replace P : Hid (PB Wn1 w.heap.size p (.slice ad n cap)) := P.out.below hb1
  replace C : Hid (KB Wn1 (w.heap.size + 1) c) := C.out.below hb1
  replace R : Hid (RB Wn1 (w.heap.size + 1 + 1) u) := R.out.below hb1
  replace S : Hid (Below w.heap.size w Wn1) := next S.out hb1
  clear hb1
  go_wp2_with fail
  refine (policyBegun_any _).mono ?_
  rintro e Wn2 ⟨rfl, hb2⟩
  replace P : Hid (PB Wn2 w.heap.size p (.slice ad n cap)) := P.out.below hb2
  replace C : Hid (KB Wn2 (w.heap.size + 1) c) := C.out.below hb2
  replace R : Hid (RB Wn2 (w.heap.size + 1 + 1) u) := R.out.below hb2
  replace S : Hid (Below w.heap.size w Wn2) := next S.out hb2
  clear hb2
  have x0 := P.out.row.cell 0 rfl
  by_cases hx0 : x < 0
  · go_wp2_with fail
    go_ret
    exact ⟨rfl, S.out⟩
  obtain ⟨i, hix⟩ : ∃ i : Nat, x = (i : Int) := ⟨x.toNat, by omega⟩
  subst hix
  clear hx0 hx
  by_cases hin : n < i
  · have hin' : (n : Int) < (i : Int) := by omega
    go_wp2_with fail
    go_ret
    exact ⟨rfl, S.out⟩
  have hin' : ¬ (n : Int) < (i : Int) := by omega
  have hii : ¬ (i : Int) < 0 := by omega
  clear x0
  have x0 := P.out.row.cell 0 rfl
  have x1 := P.out.row.cell 1 rfl
  have x2 := P.out.row.cell 2 rfl
  have x3 := P.out.row.cell 3 rfl
  have x4 := P.out.row.cell 4 rfl
  have x5 := P.out.row.cell 5 rfl
  have x6 := P.out.row.cell 6 rfl
  have x7 := P.out.row.cell 7 rfl
  have x8 := P.out.row.cell 8 rfl
  have x9 := P.out.row.cell 9 rfl
  have x10 := P.out.row.cell 10 rfl
  have x11 := P.out.row.cell 11 rfl
  have x12 := P.out.row.cell 12 rfl
  obtain ⟨X, hX⟩ : ∃ X, X = Wn2.heap.size := ⟨_, rfl⟩
  obtain ⟨W, hW⟩ : ∃ W, W = Wn2.alloc (.cells #[(.slice ad n cap), .int .i64 p.dflt, .int .i64 p.c0, .int .i64 p.c1, .int .i64 p.c2, .int .i64 p.c3, .int .i64 p.c4, .int .i64 p.c5, .int .i64 p.c6, .int .i64 p.c7, .int .i64 p.c8, .int .i64 p.c9, .int .i64 p.c10] 25) := ⟨_, rfl⟩
  have Q4 : Hid (LRow W X (poL p (.slice ad n cap))) := by rw [hW, hX]; exact LRow.new Wn2 (poL p (.slice ad n cap)) 25
  have b5 : Below Wn2.heap.size Wn2 W := by rw [hW]; exact below_new _ _
  have HXS : Hid (w.heap.size + 1 + 1 < X) := by show _ < _; rw [hX]; exact cell_in (R.out.row.cell 0 rfl)
  have HXW : Hid (X < W.heap.size) := by show _ < _; rw [hW, hX]; simp
  have HX : Hid _ := hX
  have HW : Hid _ := hW
  clear hW hX
  go_upto_region 7 with fail
  rw [← HW.out, ← HX.out]
  clear HW HX x0 x1 x2 x3 x4 x5 x6 x7 x8 x9 x10 x11 x12
  replace P : Hid (PB W w.heap.size p (.slice ad n cap)) := P.out.below b5
  replace C : Hid (KB W (w.heap.size + 1) c) := C.out.below b5
  replace R : Hid (RB W (w.heap.size + 1 + 1) u) := R.out.below b5
  replace S : Hid (Below w.heap.size w W) := next S.out b5
  clear b5
  have f0 : ∀ w', Below X W w' → w'.cell? ⟨w.heap.size, 0, none⟩ = some (.slice ad n cap) := fun w' h => (P.out.row.below h (by have := HXS.out; omega)).cell 0 rfl
  have r0 : ∀ w', Below X W w' → w'.cell? ⟨w.heap.size + 1 + 1, 0, none⟩ = some (.int .i64 u.kind) := fun w' h => (R.out.row.below h HXS.out).cell 0 rfl
  have r1 : ∀ w', Below X W w' → w'.cell? ⟨w.heap.size + 1 + 1, 1, none⟩ = some (.string (txt u.text)) := fun w' h => (R.out.row.below h HXS.out).cell 1 rfl
  have r2 : ∀ w', Below X W w' → w'.cell? ⟨w.heap.size + 1 + 1, 2, none⟩ = some (.int .i64 u.purpose) := fun w' h => (R.out.row.below h HXS.out).cell 2 rfl
  have r3 : ∀ w', Below X W w' → w'.cell? ⟨w.heap.size + 1 + 1, 3, none⟩ = some (.int .i64 u.vendor) := fun w' h => (R.out.row.below h HXS.out).cell 3 rfl
  have HS : Hid (∀ w', Below W.heap.size W w' → Rows w' (.slice ad n cap) ruC l) := fun w' h => by have k := HRR.out w' (next S.out h); rw [← HLL.out] at k; exact k
  obtain ⟨V1, hV1⟩ : ∃ V, V = sliced ad 0 i cap 4 := ⟨_, rfl⟩
  obtain ⟨V3, hV3⟩ : ∃ V, V = sliced ad i n cap 4 := ⟨_, rfl⟩
  have RV1 : Hid (∀ w', Below W.heap.size W w' → Reads w' V1 i ((l.take i).flatMap ruC)) := fun w' h => by rw [hV1]; exact (reads_sliced (HS.out w' h) HN.out (by omega) HCAP.out).1
  have RV3 : Hid (∀ w', Below W.heap.size W w' → Reads w' V3 (n - i) ((l.drop i).flatMap ruC)) := fun w' h => by rw [hV3]; exact (reads_sliced (HS.out w' h) HN.out (by omega) HCAP.out).2
  have hicap : i ≤ cap := Nat.le_trans (by omega) HCAP.out
  have s1 : ∀ W' : World, (Instr.slice 22 (.slice ad n cap) none (some (.int .i64 (i : Int))) none).run Try.prog W' = .ok V1 W' := fun W' => by
    rw [hV1, run_slice_h W' 22 ad n cap Try.underlying22 .i64 (i : Int) (by omega) (by omega), show Try.prog.elem 22 = 39 by kernel_rfl, Try.sizeOf39]
    rfl
  have s2 : ∀ W' : World, (Instr.sliceAt 22 (.slice ad n cap) none (some (.int .i64 (i : Int))) none).run Try.prog W' = .ok V1 W' := fun W' => (run_sliceAt_slice W' 22 _ _ _ _ Try.underlying22).trans (s1 W')
  have s3 : ∀ W' : World, (Instr.slice 22 (.slice ad n cap) (some (.int .i64 (i : Int))) none none).run Try.prog W' = .ok V3 W' := fun W' => by
    rw [hV3, run_slice_l W' 22 ad n cap Try.underlying22 .i64 (i : Int) (by omega) (by omega), show Try.prog.elem 22 = 39 by kernel_rfl, Try.sizeOf39]
    rfl
  have s4 : ∀ W' : World, (Instr.sliceAt 22 (.slice ad n cap) (some (.int .i64 (i : Int))) none none).run Try.prog W' = .ok V3 W' := fun W' => (run_sliceAt_slice W' 22 _ _ _ _ Try.underlying22).trans (s3 W')
  have hl1 : ((l.take i).flatMap ruC).length = i * 4 := by rw [flat_len ruC 4 (fun _ => rfl), List.length_take, Nat.min_eq_left (by have := HN.out; omega)]
  have hl3 : ((l.drop i).flatMap ruC).length = (n - i) * 4 := by rw [flat_len ruC 4 (fun _ => rfl), List.length_drop, HN.out]
  have HL1 : Hid _ := hl1
  have HL3 : Hid _ := hl3
  have HONE : Hid (∀ r : List Ru, ∀ z ∈ r.flatMap ruC, z.oneCell' = true) := fun r z hz => by
    obtain ⟨c, _, h⟩ := List.mem_flatMap.1 hz
    simp only [ruC, List.mem_cons, List.not_mem_nil, or_false] at h
    rcases h with rfl | rfl | rfl | rfl <;> rfl
  have HONU : Hid (∀ z ∈ ruC u, z.oneCell' = true) := fun z hz => by
    simp only [ruC, List.mem_cons, List.not_mem_nil, or_false] at hz
    rcases hz with rfl | rfl | rfl | rfl <;> rfl
  have hnn := HNB.out
  have M1 : Hid (0 + i ≤ maxLen) := by show _ ≤ _; unfold maxLen; omega
  have M2 : Hid ((0 + i) * 40 ≤ 140737488355328) := by show _ ≤ _; omega
  have M3 : Hid (0 + i + 1 ≤ maxLen) := by show _ ≤ _; unfold maxLen; omega
  have M4 : Hid ((0 + i + 1) * 40 ≤ 140737488355328) := by show _ ≤ _; omega
  have M5 : Hid (0 + i + 1 + (n - i) ≤ maxLen) := by show _ ≤ _; unfold maxLen; omega
  have M6 : Hid ((0 + i + 1 + (n - i)) * 40 ≤ 140737488355328) := by show _ ≤ _; omega
  have HW1 : Hid (Below W.heap.size W (W.drew.alloc (.cells #[] 39))) := keepA (Below.refl _ W).drew _
  have HW2 : Hid (Below W.heap.size W ((W.drew.alloc (.cells #[] 39)).alloc (.cells #[.int .i64 u.kind, .string (txt u.text), .int .i64 u.purpose, .int .i64 u.vendor] 39))) := keepA HW1.out _
  have HW3 : Hid (Below W.heap.size W ((W.drew.alloc (.cells #[.int .i64 u.kind, .string (txt u.text), .int .i64 u.purpose, .int .i64 u.vendor] 39)).alloc (.cells #[] 39))) := keepA (keepA (Below.refl _ W).drew _) _
  have HO1 : Hid ((W.drew.alloc (.cells #[] 39)).ownsRow W.heap.size 39 4 (.slice (some ⟨W.heap.size, 0, none⟩) 0 0) 0 []) := World.ownsRow_lit W.drew #[] 0 (Nat.le_refl _) (Nat.zero_le _) rfl
  have HO3 : Hid (((W.drew.alloc (.cells #[.int .i64 u.kind, .string (txt u.text), .int .i64 u.purpose, .int .i64 u.vendor] 39)).alloc (.cells #[] 39)).ownsRow W.heap.size 39 4 (.slice (some ⟨W.heap.size + 1, 0, none⟩) 0 0) 0 []) := by
    have h := World.ownsRow_lit (base := W.heap.size) (e := 39) (size := 4) (W.drew.alloc (.cells #[.int .i64 u.kind, .string (txt u.text), .int .i64 u.purpose, .int .i64 u.vendor] 39)) #[] 0 (by simp) (Nat.zero_le _) rfl
    rw [show (W.drew.alloc (.cells #[.int .i64 u.kind, .string (txt u.text), .int .i64 u.purpose, .int .i64 u.vendor] 39)).heap.size = W.heap.size + 1 from by simp] at h
    exact h
  have RLIT : Hid (∀ w' : World, Reads (w'.alloc (.cells #[.int .i64 u.kind, .string (txt u.text), .int .i64 u.purpose, .int .i64 u.vendor] 39)) (.slice (some ⟨w'.heap.size, 0, none⟩) 1 1) 1 (ruC u)) := fun w' => ⟨_, 1, rfl, .inr ⟨_, 0, rfl, fun q z hq => by rw [Nat.zero_add, World.cell?_alloc_new]; simpa [ruC] using hq⟩⟩
  have RB2 : Hid (∀ w', ((W.drew.alloc (.cells #[] 39)).alloc (.cells #[.int .i64 u.kind, .string (txt u.text), .int .i64 u.purpose, .int .i64 u.vendor] 39)).grownBy w' (some W.heap.size) → Reads w' (.slice (some ⟨W.heap.size + 1, 0, none⟩) 1 1) 1 (ruC u)) := fun w' hg => ⟨_, 1, rfl, .inr ⟨_, 0, rfl, fun q z hq => by
    have h := World.cell?_alloc_new (W.drew.alloc (.cells #[] 39)) #[.int .i64 u.kind, .string (txt u.text), .int .i64 u.purpose, .int .i64 u.vendor] 39 q
    rw [show (W.drew.alloc (.cells #[] 39)).heap.size = W.heap.size + 1 from by simp] at h
    rw [Nat.zero_add]
    exact hg.cell (h.trans (by simpa [ruC] using hq)) (by intro e; have h9 : W.heap.size + 1 = W.heap.size := Option.some.inj e; omega)⟩⟩
  have RB3 : Hid (∀ w', ((W.drew.alloc (.cells #[.int .i64 u.kind, .string (txt u.text), .int .i64 u.purpose, .int .i64 u.vendor] 39)).alloc (.cells #[] 39)).grownBy w' (some (W.heap.size + 1)) → Reads w' (.slice (some ⟨W.heap.size, 0, none⟩) 1 1) 1 (ruC u)) := fun w' hg => ⟨_, 1, rfl, .inr ⟨_, 0, rfl, fun q z hq => by
    have h := World.cell?_alloc_new W.drew #[.int .i64 u.kind, .string (txt u.text), .int .i64 u.purpose, .int .i64 u.vendor] 39 q
    have h2 : (W.drew.alloc (.cells #[.int .i64 u.kind, .string (txt u.text), .int .i64 u.purpose, .int .i64 u.vendor] 39)).cell? ⟨W.heap.size, q, none⟩ = some z := h.trans (by simpa [ruC] using hq)
    rw [Nat.zero_add]
    have h3 : ((W.drew.alloc (.cells #[.int .i64 u.kind, .string (txt u.text), .int .i64 u.purpose, .int .i64 u.vendor] 39)).alloc (.cells #[] 39)).cell? ⟨W.heap.size, q, none⟩ = some z := ((Below.refl (W.heap.size + 1) (W.drew.alloc (.cells #[.int .i64 u.kind, .string (txt u.text), .int .i64 u.purpose, .int .i64 u.vendor] 39))).alloc (by simp) (.cells #[] 39) |>.cell (p := ⟨W.heap.size, q, none⟩) (by simp)).trans h2
    exact hg.cell h3 (by intro e; have h9 : W.heap.size = W.heap.size + 1 := Option.some.inj e; omega)⟩⟩
  have g0 : ∀ w', Below W.heap.size W w' → w'.cell? ⟨X, 0, none⟩ = some (.slice ad n cap) := fun w' h => (Q4.out.below h HXW.out).cell 0 rfl
  have HQF : Hid (∀ w', Below W.heap.size W w' → w'.cell? ⟨X, 0, none⟩ = some (.slice ad n cap) ∧ w'.frozen? ⟨X, 0, none⟩ = false) := fun w' h => ⟨g0 w' h, (Q4.out.below h HXW.out).frozen 0 rfl⟩
  have HLX : Hid (X ≤ W.heap.size) := Nat.le_of_lt HXW.out
  obtain ⟨i0, hi, hz0, hz1, hz2⟩ := g_infoRu
  have hi1 : (0 : Int) ≤ (i : Int) := by omega
  have hi2 : (i : Int) ≤ (n : Int) := by omega
  have hi3 : (i : Int) ≤ (cap : Int) := by omega
  have HLEN : Hid ((l.take i ++ [u] ++ l.drop i).length = i + 1 + (n - i)) := by
    show _ = _
    simp only [List.length_append, List.length_take, List.length_drop, List.length_cons, List.length_nil]
    have := HN.out
    omega
  have HCEL : Hid ((l.take i ++ [u] ++ l.drop i).flatMap ruC = [] ++ (l.take i).flatMap ruC ++ ruC u ++ (l.drop i).flatMap ruC) := by
    show _ = _
    rw [List.flatMap_append, List.flatMap_append, List.nil_append]
    congr 2
  have HLQ : Hid ((l.take i ++ [u] ++ l.drop i).length ≤ 140737488351232) := by show _ ≤ _; rw [HLEN.out]; omega
  obtain ⟨xx, hxx⟩ : ∃ z, z = (kindL (l.take i ++ [u] ++ l.drop i) p.dflt c).1 := ⟨_, rfl⟩
  obtain ⟨yy, hyy⟩ : ∃ z, z = (kindL (l.take i ++ [u] ++ l.drop i) p.dflt c).2 := ⟨_, rfl⟩
  have HXY : Hid (kindL (l.take i ++ [u] ++ l.drop i) p.dflt c = (xx, yy)) := by show _ = _; rw [hxx, hyy]
  clear hV1 hV3 hl1 hl3 g0 hxx hyy
  go_cut [11] from 34 to 48 (fun s11 wx => s11 = .pointer (some ⟨X, 0, none⟩) ∧ ∃ ad9 m9 cap9, Hid (LRow wx X (poL p (.slice ad9 m9 cap9)) ∧ Rows wx (.slice ad9 m9 cap9) ruC (l.take i ++ [u] ++ l.drop i)) ∧ Hid (Below X W wx))
  case first =>
    go_region_held3 (fun w' => Below X W w') (first | assumption | exact (Below.refl _ W).drew | exact HW1.out.mono HLX.out | exact HW2.out.mono HLX.out | exact HW3.out.mono HLX.out | exact (keepA (Below.refl _ W).drew _).mono HLX.out | exact (keepA (by assumption) _).mono HLX.out | exact Below.mono (by assumption) HLX.out | exact Below.setCell (p := ⟨X, 0, none⟩) (by assumption) (Nat.le_refl _) _ | exact (Below.setCell (p := ⟨X, 0, none⟩) (by assumption) (Nat.le_refl _) _).drew | fail)
      (first
      | (refine step_append_reads (by rfl) (.tmp 34) (.tmp 38) 22 (by rfl) W.heap.size 39 i0 (.agg #[.int .i64 0, .string ⟨#[]⟩, .int .i64 0, .int .i64 0]) 4 40 Try.underlying22 hi hz0 hz1 hz2 rfl (by decide) _ _ _ (by rfl) HO1.out _ (by rfl) i _ (RV1.out _ HW1.out) HL1.out (HONE.out _) M1.out M2.out HW1.out.size ?_; intro v6 w6 hown6 hg6; have HB6 : Below W.heap.size W w6 := (HW1.out).grown hg6 (HW1.out).size (fun q e => ((HO1.out).lt q e).1); have HS6 := HB6.mono HLX.out; skip)
      | (refine step_append_reads (by rfl) (.tmp 34) (.tmp 38) 22 (by rfl) W.heap.size 39 i0 (.agg #[.int .i64 0, .string ⟨#[]⟩, .int .i64 0, .int .i64 0]) 4 40 Try.underlying22 hi hz0 hz1 hz2 rfl (by decide) (.slice (some ⟨W.heap.size, 0, none⟩) 0 0) 0 [] (by rfl) (HO1.out.alloc (.cells #[.int .i64 u.kind, .string (txt u.text), .int .i64 u.purpose, .int .i64 u.vendor] 39)) _ (by rfl) i _ (RV1.out _ HW2.out) HL1.out (HONE.out _) M1.out M2.out HW2.out.size ?_; intro v6 w6 hown6 hg6; have HB6 : Below W.heap.size W w6 := (HW2.out).grown hg6 (HW2.out).size (fun q e => (HO1.out.lt q e).1); have HS6 := HB6.mono HLX.out; have RB6 := RB2.out w6 hg6)
      | (refine step_append_reads (by rfl) (.tmp 34) (.tmp 38) 22 (by rfl) W.heap.size 39 i0 (.agg #[.int .i64 0, .string ⟨#[]⟩, .int .i64 0, .int .i64 0]) 4 40 Try.underlying22 hi hz0 hz1 hz2 rfl (by decide) (.slice (some ⟨W.heap.size + 1, 0, none⟩) 0 0) 0 [] (by rfl) HO3.out _ (by rfl) i _ (RV1.out _ HW3.out) HL1.out (HONE.out _) M1.out M2.out HW3.out.size ?_; intro v6 w6 hown6 hg6; have HB6 : Below W.heap.size W w6 := (HW3.out).grown hg6 (HW3.out).size (fun q e => ((HO3.out).lt q e).1); have HS6 := HB6.mono HLX.out; have RB6 := RB3.out w6 hg6)
      | (refine step_append_reads (by rfl) (.tmp 39) (.tmp 41) 22 (by rfl) W.heap.size 39 i0 (.agg #[.int .i64 0, .string ⟨#[]⟩, .int .i64 0, .int .i64 0]) 4 40 Try.underlying22 hi hz0 hz1 hz2 rfl (by decide) v6 (0 + i) ([] ++ (l.take i).flatMap ruC) (by rfl) (hown6.alloc (.cells #[.int .i64 u.kind, .string (txt u.text), .int .i64 u.purpose, .int .i64 u.vendor] 39)) (.slice (some ⟨w6.heap.size, 0, none⟩) 1 1) (by rfl) 1 (ruC u) (RLIT.out w6) rfl HONU.out M3.out M4.out (keepA HB6 (.cells #[.int .i64 u.kind, .string (txt u.text), .int .i64 u.purpose, .int .i64 u.vendor] 39)).size ?_; intro v7 w7 hown7 hg7; have HB7 : Below W.heap.size W w7 := (keepA HB6 (.cells #[.int .i64 u.kind, .string (txt u.text), .int .i64 u.purpose, .int .i64 u.vendor] 39)).grown hg7 (keepA HB6 (.cells #[.int .i64 u.kind, .string (txt u.text), .int .i64 u.purpose, .int .i64 u.vendor] 39)).size (fun q e => (hown6.lt q e).1); have HS7 := HB7.mono HLX.out)
      | (refine step_append_reads (by rfl) (.tmp 39) (.tmp 41) 22 (by rfl) W.heap.size 39 i0 (.agg #[.int .i64 0, .string ⟨#[]⟩, .int .i64 0, .int .i64 0]) 4 40 Try.underlying22 hi hz0 hz1 hz2 rfl (by decide) v6 (0 + i) ([] ++ (l.take i).flatMap ruC) (by rfl) hown6 _ (by rfl) 1 (ruC u) RB6 rfl HONU.out M3.out M4.out HB6.size ?_; intro v7 w7 hown7 hg7; have HB7 : Below W.heap.size W w7 := (HB6).grown hg7 (HB6).size (fun q e => ((hown6).lt q e).1); have HS7 := HB7.mono HLX.out)
      | (refine step_append_reads (by rfl) (.tmp 42) (.tmp 46) 22 (by rfl) W.heap.size 39 i0 (.agg #[.int .i64 0, .string ⟨#[]⟩, .int .i64 0, .int .i64 0]) 4 40 Try.underlying22 hi hz0 hz1 hz2 rfl (by decide) v7 (0 + i + 1) ([] ++ (l.take i).flatMap ruC ++ ruC u) (by rfl) hown7 V3 (by rfl) (n - i) _ (RV3.out w7 HB7) HL3.out (HONE.out _) M5.out M6.out HB7.size ?_; intro v9 w9 hown9 hg9; have HB9 : Below W.heap.size W w9 := (HB7).grown hg9 (HB7).size (fun q e => ((hown7).lt q e).1); have HS9 := HB9.mono HLX.out; obtain ⟨ad9, cap9, rfl⟩ := own_sl hown9; obtain ⟨c9, f9⟩ := HQF.out w9 HB9)
      | fail)
    all_goals go_wp2_with fail
    all_goals go_meet
    all_goals
      have hown9 := hown9
      try rw [show 0 + i + 1 + (n - i) = i + 1 + (n - i) by omega] at hown9
      refine ⟨rfl, ad9, i + 1 + (n - i), cap9, ⟨?_, ?_⟩, ?_⟩
      · exact ⟨((Q4.out.below HB9 HXW.out).set 0 _).all⟩
      · exact rows_fin (own_set1 hown9 HXW.out) HLEN.out HCEL.out
      · first | exact HS9.setCell (p := ⟨X, 0, none⟩) (Nat.le_refl _) _ | exact (HS9.setCell (p := ⟨X, 0, none⟩) (Nat.le_refl _) _).drew
  case rest =>
  obtain ⟨rfl, ad9, m9, cap9, HQR, HBX⟩ := hcut
  rename World => wx
  clear f0 r0 r1 r2 r3 s1 s2 s3 s4 RV1 RV3 HL1 HL3 HONE HONU M1 M2 M3 M4 M5 M6 HW1 HW2 HW3 HO1 HO3 RLIT RB2 RB3 HQF hi hz0 hz1 hz2 HS HLEN HCEL Q4
  have HWX : Hid (w.heap.size ≤ X) := by have := HXS.out; show _ ≤ _; omega
  have Q : Hid (LRow wx X (poL p (.slice ad9 m9 cap9))) := HQR.out.1
  have CX : Hid (KB wx (w.heap.size + 1) c) := ⟨C.out.row.below HBX.out (by have := HXS.out; omega)⟩
  have RX : Hid (RB wx (w.heap.size + 1 + 1) u) := ⟨R.out.row.below HBX.out HXS.out⟩
  have PX : Hid (LRow wx w.heap.size (poL p (.slice ad n cap))) := P.out.row.below HBX.out (by have := HXS.out; omega)
  have SX : Hid (Below w.heap.size w wx) := S.out.trans (HBX.out.mono HWX.out)
  clear P C R S HBX
  have z0 := Q.out.cell 0 rfl
  have y0 := CX.out.row.cell 0 rfl
  have z1 := Q.out.cell 1 rfl
  have y1 := CX.out.row.cell 1 rfl
  have z2 := Q.out.cell 2 rfl
  have y2 := CX.out.row.cell 2 rfl
  have z3 := Q.out.cell 3 rfl
  have y3 := CX.out.row.cell 3 rfl
  have z4 := Q.out.cell 4 rfl
  have y4 := CX.out.row.cell 4 rfl
  have z5 := Q.out.cell 5 rfl
  have y5 := CX.out.row.cell 5 rfl
  have z6 := Q.out.cell 6 rfl
  have y6 := CX.out.row.cell 6 rfl
  have z7 := Q.out.cell 7 rfl
  have y7 := CX.out.row.cell 7 rfl
  have z8 := Q.out.cell 8 rfl
  have y8 := CX.out.row.cell 8 rfl
  have z9 := Q.out.cell 9 rfl
  have y9 := CX.out.row.cell 9 rfl
  have z10 := Q.out.cell 10 rfl
  have y10 := CX.out.row.cell 10 rfl
  have z11 := Q.out.cell 11 rfl
  have y11 := CX.out.row.cell 11 rfl
  have z12 := Q.out.cell 12 rfl
  have y12 := CX.out.row.cell 12 rfl
  go_wp2_with fail
  refine (KF.out _ _ _ _ _ HQR.out.2 (fun r hr => mem_ins hr) HLQ.out).mono ?_
  rw [HXY.out]
  rintro e wk ⟨rfl, hbk⟩
  have CK : Hid (KB wk (w.heap.size + 1) c) := CX.out.below hbk
  have RK : Hid (RB wk (w.heap.size + 1 + 1) u) := RX.out.below hbk
  have PK : Hid (LRow wk w.heap.size (poL p (.slice ad n cap))) := PX.out.below hbk (cell_in (PX.out.cell 1 rfl))
  have SK : Hid (Below w.heap.size w wk) := next SX.out hbk
  clear hbk Q HQR CX RX PX SX z0 y0 z1 y1 z2 y2 z3 y3 z4 y4 z5 y5 z6 y6 z7 y7 z8 y8 z9 y9 z10 y10 z11 y11 z12 y12
  go_wp2_with fail
  go_loopw [14, 15] (fun ev kv wr => ∃ (k : Nat) (eb : Bool), k ≤ i ∧ kv = .int .i64 k ∧ ev = .bool eb ∧ Hid (eb = (l.take k).any (fun r => namesR r c)) ∧ Hid (Below wk.heap.size wk wr)) (fun _ kv _ => i - (intOf kv).toNat)
  case atStart => exact ⟨0, false, Nat.zero_le _, rfl, rfl, by show _ = _; simp, Below.refl _ _⟩
  case round =>
    obtain ⟨k, eb, hk, rfl, rfl, heb, hb⟩ := hrel
    have PR : Hid (LRow wr w.heap.size (poL p (.slice ad n cap))) := PK.out.below hb.out (cell_in (PK.out.cell 1 rfl))
    have CR : Hid (KB wr (w.heap.size + 1) c) := CK.out.below hb.out
    have RR : Hid (RB wr (w.heap.size + 1 + 1) u) := RK.out.below hb.out
    have SR : Hid (Below w.heap.size w wr) := next SK.out hb.out
    by_cases hlt : k < i
    · obtain ⟨r, e1⟩ : ∃ r, l[k]? = some r := ⟨_, List.getElem?_eq_getElem (by rw [← HN.out]; omega)⟩
      have HT : Hid ((l.take (k + 1)).any (fun r => namesR r c) = (eb || namesR r c)) := by show _ = _; rw [List.take_succ, e1, List.any_append, ← heb.out]; simp
      cases eb
      · obtain ⟨bl, ol, rfl, hbl, hcell⟩ := Rows.at (HRR.out wr SR.out) rfl 3 (fun _ => rfl) k r (by rw [← HLL.out]; exact e1)
        have cc : ∀ w', Below wr.heap.size wr w' → ∀ i u, (ruC r)[i]? = some u → w'.cell? ⟨bl, ol + k * 4 + i, none⟩ = some u := fun w' h i u hu => (h.cell (p := ⟨bl, ol + k * 4 + i, none⟩) hbl).trans (hcell i u hu)
        have d0 : ∀ w', Below wr.heap.size wr w' → w'.cell? ⟨bl, ol + k * 4, none⟩ = some (.int .i64 r.kind) := fun w' h => cc w' h 0 _ rfl
        have d1 : ∀ w', Below wr.heap.size wr w' → w'.cell? ⟨bl, ol + k * 4 + 1, none⟩ = some (.string (txt r.text)) := fun w' h => cc w' h 1 _ rfl
        have d2 : ∀ w', Below wr.heap.size wr w' → w'.cell? ⟨bl, ol + k * 4 + 2, none⟩ = some (.int .i64 r.purpose) := fun w' h => cc w' h 2 _ rfl
        have d3 : ∀ w', Below wr.heap.size wr w' → w'.cell? ⟨bl, ol + k * 4 + 3, none⟩ = some (.int .i64 r.vendor) := fun w' h => cc w' h 3 _ rfl
        have f0 : ∀ w', Below wr.heap.size wr w' → w'.cell? ⟨w.heap.size, 0, none⟩ = some (.slice (some ⟨bl, ol, none⟩) n cap) := fun w' h => (PR.out.below h (cell_in (PR.out.cell 1 rfl))).cell 0 rfl
        have y0 : ∀ w', Below wr.heap.size wr w' → w'.cell? ⟨w.heap.size + 1, 0, none⟩ = some (.string (txt c.name)) := fun w' h => (CR.out.below h).row.cell 0 rfl
        have y1 : ∀ w', Below wr.heap.size wr w' → w'.cell? ⟨w.heap.size + 1, 1, none⟩ = some (.string (txt c.value)) := fun w' h => (CR.out.below h).row.cell 1 rfl
        have y2 : ∀ w', Below wr.heap.size wr w' → w'.cell? ⟨w.heap.size + 1, 2, none⟩ = some (.string (txt c.domain)) := fun w' h => (CR.out.below h).row.cell 2 rfl
        have y3 : ∀ w', Below wr.heap.size wr w' → w'.cell? ⟨w.heap.size + 1, 3, none⟩ = some (.string (txt c.path)) := fun w' h => (CR.out.below h).row.cell 3 rfl
        have y4 : ∀ w', Below wr.heap.size wr w' → w'.cell? ⟨w.heap.size + 1, 4, none⟩ = some (.bool c.hostOnly) := fun w' h => (CR.out.below h).row.cell 4 rfl
        have y5 : ∀ w', Below wr.heap.size wr w' → w'.cell? ⟨w.heap.size + 1, 5, none⟩ = some (.bool c.secure) := fun w' h => (CR.out.below h).row.cell 5 rfl
        have y6 : ∀ w', Below wr.heap.size wr w' → w'.cell? ⟨w.heap.size + 1, 6, none⟩ = some (.bool c.httpOnly) := fun w' h => (CR.out.below h).row.cell 6 rfl
        have y7 : ∀ w', Below wr.heap.size wr w' → w'.cell? ⟨w.heap.size + 1, 7, none⟩ = some (.bool c.lasting) := fun w' h => (CR.out.below h).row.cell 7 rfl
        have y8 : ∀ w', Below wr.heap.size wr w' → w'.cell? ⟨w.heap.size + 1, 8, none⟩ = some (.int .i64 c.site) := fun w' h => (CR.out.below h).row.cell 8 rfl
        have y9 : ∀ w', Below wr.heap.size wr w' → w'.cell? ⟨w.heap.size + 1, 9, none⟩ = some (.int .i64 c.expiry) := fun w' h => (CR.out.below h).row.cell 9 rfl
        have y10 : ∀ w', Below wr.heap.size wr w' → w'.cell? ⟨w.heap.size + 1, 10, none⟩ = some (.int .i64 c.created) := fun w' h => (CR.out.below h).row.cell 10 rfl
        have y11 : ∀ w', Below wr.heap.size wr w' → w'.cell? ⟨w.heap.size + 1, 11, none⟩ = some (.int .i64 c.used) := fun w' h => (CR.out.below h).row.cell 11 rfl
        have y12 : ∀ w', Below wr.heap.size wr w' → w'.cell? ⟨w.heap.size + 1, 12, none⟩ = some (.int .i64 c.no) := fun w' h => (CR.out.below h).row.cell 12 rfl
        obtain ⟨nm, hnm⟩ : ∃ b, b = namesR r c := ⟨_, rfl⟩
        have KR : Hid (∀ w', Calls Try.prog 17 #[.agg #[.int .i64 r.kind, .string (txt r.text), .int .i64 r.purpose, .int .i64 r.vendor], .agg #[.string (txt c.name), .string (txt c.value), .string (txt c.domain), .string (txt c.path), .bool c.hostOnly, .bool c.secure, .bool c.httpOnly, .bool c.lasting, .int .i64 c.site, .int .i64 c.expiry, .int .i64 c.created, .int .i64 c.used, .int .i64 c.no]] w' fun e w'' => e = .returned (.bool nm) ∧ Below w'.heap.size w' w'') := by rw [hnm]; exact KN.out r (.inl (List.mem_of_getElem? e1))
        have HT2 : Hid (nm = (l.take (k + 1)).any (fun r => namesR r c)) := by show _ = _; rw [HT.out, hnm]; rfl
        have hk0 : (0 : Int) ≤ (k : Int) := by omega
        have hk1 : (k : Int) < (n : Int) := by omega
        have hk2 : (k : Int) < (i : Int) := by omega
        clear e1 hcell hbl cc hnm heb HT
        go_upto_region 13 with fail
        go_region_held3 (fun w' => Below wr.heap.size wr w') (first | assumption | exact (Below.refl _ wr).drew | exact Below.drew (by assumption) | fail)
          (first
          | (go_at_call 17; refine (KR.out _).mono ?_; rintro e w1 ⟨rfl, hbN⟩; have hX1 : Below wr.heap.size wr w1 := Below.trans (by first | assumption | exact (Below.refl _ wr).drew) (hbN.mono (Below.size (by first | assumption | exact (Below.refl _ wr).drew))); clear hbN)
          | fail)
        have HB1 : Hid (Below wk.heap.size wk w1) := next hb.out hX1
        clear hX1 d0 d1 d2 d3 f0 y0 y1 y2 y3 y4 y5 y6 y7 y8 y9 y10 y11 y12
        go_wp2_with fail
        go_roundw
        case rel => exact ⟨k + 1, nm, by omega, by go_num, rfl, HT2, HB1⟩
        case measure => simp [intOf]; omega
      · have HT2 : Hid (true = (l.take (k + 1)).any (fun r => namesR r c)) := by show _ = _; rw [HT.out]; rfl
        have hk2 : (k : Int) < (i : Int) := by omega
        clear e1 heb HT
        go_wp2_with fail
        go_quiet (fail)
        go_wp2_with fail
        go_roundw
        case rel => exact ⟨k + 1, true, by omega, by go_num, rfl, HT2, hb.out.trans (below_drewN' _ _ _)⟩
        case measure => simp [intOf]; omega
    · obtain rfl : k = i := by omega
      have HEB : Hid (eb = (l.take k).any (fun r => namesR r c)) := heb
      clear heb hk hlt hb
      cases eb
      · obtain ⟨nu, hnu⟩ : ∃ b, b = namesR u c := ⟨_, rfl⟩
        have KU : Hid (∀ w', Calls Try.prog 17 #[.agg #[.int .i64 u.kind, .string (txt u.text), .int .i64 u.purpose, .int .i64 u.vendor], .agg #[.string (txt c.name), .string (txt c.value), .string (txt c.domain), .string (txt c.path), .bool c.hostOnly, .bool c.secure, .bool c.httpOnly, .bool c.lasting, .int .i64 c.site, .int .i64 c.expiry, .int .i64 c.created, .int .i64 c.used, .int .i64 c.no]] w' fun e w'' => e = .returned (.bool nu) ∧ Below w'.heap.size w' w'') := by rw [hnu]; exact KN.out u (.inr rfl)
        have H0 : Hid (nu = false → xx = a ∧ yy = b) := fun h => by
          have h2 := HXY.out
          rw [ins_no l k u p.dflt c HEB.out.symm (by rw [← hnu]; exact h), HAB.out] at h2
          injection h2 with h3 h4
          exact ⟨h3.symm, h4.symm⟩
        have H1 : Hid (nu = true → xx = u.purpose ∧ yy = u.vendor) := fun h => by
          have h2 := HXY.out
          rw [ins_yes l k u p.dflt c HEB.out.symm (by rw [← hnu]; exact h)] at h2
          injection h2 with h3 h4
          exact ⟨h3.symm, h4.symm⟩
        have z0 := RR.out.row.cell 0 rfl
        have z1 := RR.out.row.cell 1 rfl
        have z2 := RR.out.row.cell 2 rfl
        have z3 := RR.out.row.cell 3 rfl
        have y0 := CR.out.row.cell 0 rfl
        have y1 := CR.out.row.cell 1 rfl
        have y2 := CR.out.row.cell 2 rfl
        have y3 := CR.out.row.cell 3 rfl
        have y4 := CR.out.row.cell 4 rfl
        have y5 := CR.out.row.cell 5 rfl
        have y6 := CR.out.row.cell 6 rfl
        have y7 := CR.out.row.cell 7 rfl
        have y8 := CR.out.row.cell 8 rfl
        have y9 := CR.out.row.cell 9 rfl
        have y10 := CR.out.row.cell 10 rfl
        have y11 := CR.out.row.cell 11 rfl
        have y12 := CR.out.row.cell 12 rfl
        clear hnu
        go_wp2_with fail
        refine (KU.out _).mono ?_
        rintro e wz ⟨rfl, hbz⟩
        have SZ : Hid (Below w.heap.size w wz) := next SR.out hbz
        have RZ : Hid (RB wz (w.heap.size + 1 + 1) u) := RR.out.below hbz
        clear hbz z0 z1 z2 z3 y0 y1 y2 y3 y4 y5 y6 y7 y8 y9 y10 y11 y12
        cases nu
        · obtain ⟨rfl, rfl⟩ := H0.out rfl
          go_wp2_with fail
          go_ret
          exact ⟨rfl, SZ.out⟩
        · obtain ⟨rfl, rfl⟩ := H1.out rfl
          have z2 := RZ.out.row.cell 2 rfl
          have z3 := RZ.out.row.cell 3 rfl
          go_wp2_with fail
          go_ret
          exact ⟨rfl, SZ.out⟩
      · have H0 : xx = a ∧ yy = b := by
          have h2 := HXY.out
          rw [ins_early l k u p.dflt c HEB.out.symm, HAB.out] at h2
          injection h2 with h3 h4
          exact ⟨h3.symm, h4.symm⟩
        obtain ⟨rfl, rfl⟩ := H0
        go_wp2_with fail
        go_ret
        exact ⟨rfl, SR.out⟩
set_option maxRecDepth 100000 in
theorem lifted (os : Os) (started : os.Started) (H : Type) (enc : TypeId × Value → H) (F : Stop.Interp) :
    ReturnsInHanded {} Try.checked os 4 .any ((Rows.OpenSpec.upto Rows.policyFirstSpec).pre6 enc Try.prog Try.f4 Rows.policyFirstUptoRow.domain false) (((Rows.OpenSpec.upto Rows.policyFirstSpec).at F).post enc Try.prog Try.f4 false true false false) := by
  refine returnsInHanded_of_cond (C := Try.checked) (s := (Rows.OpenSpec.upto Rows.policyFirstSpec)) (k := Rows.uptoSmall) rfl own started (by kernel_rfl) Try.func4
    (OpenSpec.witness (enc := enc) (C := Try.checked) (s := (Rows.OpenSpec.upto Rows.policyFirstSpec)) (k := Rows.uptoSmall) rfl false ⟨#[], #[.agg #[.slice none 0 0, .int .i64 0, .int .i64 0, .int .i64 0, .int .i64 0, .int .i64 0, .int .i64 0, .int .i64 0, .int .i64 0, .int .i64 0, .int .i64 0, .int .i64 0, .int .i64 0], .agg #[.string ByteArray.empty, .string ByteArray.empty, .string ByteArray.empty, .string ByteArray.empty, .bool false, .bool false, .bool false, .bool false, .int .i64 0, .int .i64 0, .int .i64 0, .int .i64 0, .int .i64 0], .int .i64 0, .agg #[.int .i64 0, .string ByteArray.empty, .int .i64 0, .int .i64 0]], []⟩ 8 (by kernel_rfl) (by kernel_rfl) (by kernel_rfl)
      (x := ([.agg [.nil, .lit (.int .i64 0), .agg [.lit (.int .i64 0), .lit (.int .i64 0), .lit (.int .i64 0), .lit (.int .i64 0), .lit (.int .i64 0), .lit (.int .i64 0), .lit (.int .i64 0), .lit (.int .i64 0), .lit (.int .i64 0), .lit (.int .i64 0), .lit (.int .i64 0)]], .agg [.lit (.string []), .lit (.string []), .lit (.string []), .lit (.string []), .lit (.bool false), .lit (.bool false), .lit (.bool false), .lit (.bool false), .lit (.int .i64 0), .lit (.int .i64 0), .lit (.int .i64 0), .lit (.int .i64 0), .lit (.int .i64 0)], .lit (.int .i64 0), .agg [.lit (.int .i64 0), .lit (.string []), .lit (.int .i64 0), .lit (.int .i64 0)]], [], [])) (by kernel_rfl) rfl (by kernel_rfl)) ?_
  intro W base args ds gs before hval0 hW hcnd hk _
  have hval : ∀ (j : Nat) t v, Try.f4.params[j]? = some t → args[j]? = some v → Value.okWide Try.prog W .any base t v := hval0
  have hW' := hW
  obtain ⟨p, q, hA0, hV, rfl, hfz, hnd⟩ := hW
  have hA : DataW.TrodAll enc Try.prog W 0 (fun _ => true) true Try.f4.params.toList args.toList ds p := hA0
  rw [Try.params4] at hA hval
  obtain ⟨v0, vs0, d0, ds0, p0, q0, hargs, rfl, rfl, h0, r0⟩ := trodAll_cons hA
  obtain ⟨v1, vs1, d1, ds1, p1, q1, rfl, rfl, rfl, h1, r1⟩ := trodAll_cons r0
  obtain ⟨v2, vs2, d2, ds2, p2, q2, rfl, rfl, rfl, h2, r2⟩ := trodAll_cons r1
  obtain ⟨v3, vs3, d3, ds3, p3, q3, rfl, rfl, rfl, h3, r3⟩ := trodAll_cons r2
  obtain ⟨rfl, rfl, rfl⟩ := trodAll_nil r3
  obtain rfl : args = #[v0, v1, v2, v3] := by cases args; simp_all
  obtain ⟨rfl, rfl⟩ := trodVars_none hV
  have k0 := h0
  have lt0 : ∀ x ∈ p0, x.block < W.heap.size := by obtain ⟨m, hm⟩ := k0; exact DataW.trod_lt m _ _ _ hm
  have k1 := h1
  have lt1 : ∀ x ∈ p1, x.block < W.heap.size := by obtain ⟨m, hm⟩ := k1; exact DataW.trod_lt m _ _ _ hm
  have k2 := h2
  have lt2 : ∀ x ∈ p2, x.block < W.heap.size := by obtain ⟨m, hm⟩ := k2; exact DataW.trod_lt m _ _ _ hm
  have k3 := h3
  have lt3 : ∀ x ∈ p3, x.block < W.heap.size := by obtain ⟨m, hm⟩ := k3; exact DataW.trod_lt m _ _ _ hm
  obtain ⟨po0, pv0, rfl, rd0, ok0, bk0⟩ := open_policy2 (hval 0 25 v0 rfl rfl) k0 maxLen (fits_max _)
  obtain ⟨l1, rfl, ok1, bk1⟩ := open_cookie (hval 1 31 v1 rfl rfl) k1 maxLen (fits_max _)
  obtain ⟨x2, rfl, rfl, hp2, w2⟩ := open_int Try.underlying3 (hval 2 3 v2 rfl rfl) h2
  have b2 := i64_of w2
  obtain ⟨ru3, rfl, ok3, bk3⟩ := open_rule (hval 3 39 v3 rfl rfl) k3 maxLen (fits_max _)
  have hbulk := bulk_of hk
  simp only [List.cons_append, List.nil_append, List.append_nil, Rows.uptoBulkAll] at hbulk
  have hbk0 := bk0
  have hbk1 := bk1
  have hbk2 := bk3
  clear hA0 hval0
  refine (walk po0 pv0 l1 x2 ru3 W rd0 ok0 ok1 b2 ok3 (by omega)).mono fun e W' ⟨he, bel⟩ => ?_
  subst he
  exact ⟨_, rfl, _, _, _, [], _, [], hW', trodAll_mk1 (shut_bool Try.underlying4 _), (trodAll_cons_mk (Below.trod laidOut (by kernel_rfl) (of_decide_eq_true (by kernel_rfl)) k0 bel lt0) (trodAll_cons_mk (Below.trod laidOut (by kernel_rfl) (of_decide_eq_true (by kernel_rfl)) k1 bel lt1) (trodAll_cons_mk (Below.trod laidOut (by kernel_rfl) (of_decide_eq_true (by kernel_rfl)) k2 bel lt2) (trodAll_cons_mk (Below.trod laidOut (by kernel_rfl) (of_decide_eq_true (by kernel_rfl)) k3 bel lt3) trodAll_mk0)))), rfl, bel.frame _, fun h => by cases h⟩

theorem proved : Rows.PolicyFirstUptoSaid :=
  OpenClaim.holds_of_cond 4 Try.f4 rfl rfl rfl rfl rfl rfl rfl ⟨rfl, rfl, rfl, rfl, rfl⟩ rfl rfl rfl rfl rfl (by kernel_rfl) Try.func4 (by kernel_rfl)
    (of_decide_eq_true (by kernel_rfl)) (by unfold Func.isWrapper; first | (rw [if_pos (by decide +kernel)]; kernel_rfl) | (rw [if_neg (by decide +kernel)]; exact ⟨rfl, rfl⟩))
    (fun os started H enc _ F => lifted os started H enc F)
#print axioms proved
end Go.Proofs.Ytmjcgkjkhpjgbaa.policyFirst
