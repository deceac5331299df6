/- PolicyAway: for all policies and cookies whose texts and lists are bounded as the statement says: without the rules that do not name it a cookie is for what it was; without all it is for Default. -/
import Derived.Test.YtmjcgkjkhpjgbaaRefP
import Derived.Test.YtmjcgkjkhpjgbaaPolicyS
import Derived.Test.YtmjcgkjkhpjgbaaKit5
import Derived.Test.YtmjcgkjkhpjgbaaOpen
import Derived.Test.YtmjcgkjkhpjgbaaOpenF
import Derived.Test.YtmjcgkjkhpjgbaaOpenP
import Derived.Test.YtmjcgkjkhpjgbaaRows
namespace Go.Proofs.Ytmjcgkjkhpjgbaa.policyAway
open Go.ChangeShapes Go.WideShapes Go.ChangeAt Go.RowKit
open Go.ChangeMaps (open_string shut_string)
set_option linter.all false
set_option maxRecDepth 100000

theorem own_sl {W : World} {base : Nat} {e : TypeId} {size : Nat} {v : Value} {n : Nat} {cs : List Value} (h : W.ownsRow base e size v n cs) : ∃ ad cap, v = .slice ad n cap := by
  rcases h.2 with ⟨h1, h2⟩ | ⟨g, cap, cur, h1, _⟩
  · exact ⟨none, 0, by rw [h1, h2]⟩
  · exact ⟨_, cap, h1⟩
theorem own_set1 {W : World} {base : Nat} {e : TypeId} {size : Nat} {v : Value} {n : Nat} {cs : List Value} {X k : Nat} {x : Value} (h : W.ownsRow base e size v n cs) (hX : X < base) : (W.setCell ⟨X, k, none⟩ x).ownsRow base e size v n cs := by
  refine h.kept (row := some X) ⟨rfl, rfl, rfl, by simp, fun j hj hne => Below.heap_setCell _ _ _ _ (fun e => hne (by rw [show j = X from by first | exact e | exact e.symm]))⟩ (Or.inr fun e => ?_)
  have := (h.lt X e).1
  omega
theorem infoRu : (Try.prog.info? 39).map (fun i => (i.zero, i.size, i.bytes)) = some (some (.agg #[.int .i64 0, .string ⟨#[]⟩, .int .i64 0, .int .i64 0]), 4, 40) := by kernel_rfl
theorem g_infoRu : ∃ i, Try.prog.info? 39 = some i ∧ i.zero = some (.agg #[.int .i64 0, .string ⟨#[]⟩, .int .i64 0, .int .i64 0]) ∧ i.size = 4 ∧ i.bytes = 40 := by
  have h := infoRu
  cases hx : Try.prog.info? 39 with
  | none => rw [hx] at h; cases h
  | some i =>
    rw [hx] at h
    injection h with h
    injection h with h1 h2
    injection h2 with h2 h3
    exact ⟨i, rfl, h1, h2, h3⟩
def acc (l : List Ru) (c : Ck) (k : Nat) : List Ru := (l.take k).filter fun r => namesR r c
theorem acc_len (l : List Ru) (c : Ck) (k : Nat) : (acc l c k).length ≤ k := by
  unfold acc
  have h1 := List.length_filter_le (fun r => namesR r c) (l.take k)
  have h2 : (l.take k).length ≤ k := by rw [List.length_take]; omega
  omega
theorem acc_yes (l : List Ru) (c : Ck) (k : Nat) (r : Ru) (h : l[k]? = some r) (hn : namesR r c = true) : acc l c (k + 1) = acc l c k ++ [r] := by
  unfold acc
  rw [List.take_succ, h, List.filter_append, show (some r).toList = [r] from rfl, List.filter_cons_of_pos (by exact hn), List.filter_nil]
theorem acc_no (l : List Ru) (c : Ck) (k : Nat) (r : Ru) (h : l[k]? = some r) (hn : namesR r c = false) : acc l c (k + 1) = acc l c k := by
  unfold acc
  rw [List.take_succ, h, List.filter_append, show (some r).toList = [r] from rfl, List.filter_cons_of_neg (by rw [hn]; decide), List.filter_nil, List.append_nil]
set_option maxHeartbeats 32000000 in
theorem walk (p : Po) (pv : Value) (c : Ck) (w : World) (rp : Rows w pv ruC p.rules) (op0 : PoOk maxLen p) (oc0 : CkOk maxLen c)
    (hk : poBulk p + wCookie.bulk c ≤ 1099511627776) :
    Calls Try.prog 5 #[.agg #[pv, .int .i64 p.dflt, .int .i64 p.c0, .int .i64 p.c1, .int .i64 p.c2, .int .i64 p.c3, .int .i64 p.c4, .int .i64 p.c5, .int .i64 p.c6, .int .i64 p.c7, .int .i64 p.c8, .int .i64 p.c9, .int .i64 p.c10], .agg (ckC c).toArray] w fun e w' => e = .returned (.bool true) ∧ Below w.heap.size w w' := by
  have op : PoOk 140737488351232 p := po_small op0 (by omega)
  have oc : CkOk 140737488351232 c := (ck_small oc0 (by omega)).1
  have hd : (c.domain.length + 1) * 16 ≤ 140737488355328 := (ck_small oc0 (by omega)).2
  have hnb : p.rules.length ≤ 1099511627776 := by
    have h1 : (p.rules.map ruBulk).sum ≤ 1099511627776 := by unfold poBulk at hk; omega
    have := sum_len ruBulk p.rules (fun r => by unfold ruBulk; omega)
    omega
  obtain ⟨ad, cap, rfl⟩ := rp.shape
  obtain ⟨a, ha⟩ : ∃ a, a = (kindP p c).1 := ⟨_, rfl⟩
  obtain ⟨b, hb⟩ : ∃ b, b = (kindP p c).2 := ⟨_, rfl⟩
  obtain ⟨l, hl⟩ : ∃ l, l = p.rules := ⟨_, rfl⟩
  have HLL : Hid (l = p.rules) := hl
  obtain ⟨n, hn⟩ : ∃ n, n = p.rules.length := ⟨_, rfl⟩
  have HN : Hid (n = l.length) := by show _ = _; rw [hn, hl]
  rw [← hn] at rp hnb ⊢
  have HNB : Hid (n ≤ 1099511627776) := hnb
  have HRR : Hid (∀ w', Below w.heap.size w w' → Rows w' (.slice ad n cap) ruC p.rules) := fun w' h => Rows.below rp h (Nat.le_refl _)
  have KK : Hid (∀ w', Rows w' (.slice ad n cap) ruC p.rules → Calls Try.prog 10 #[.agg #[(.slice ad n cap), .int .i64 p.dflt, .int .i64 p.c0, .int .i64 p.c1, .int .i64 p.c2, .int .i64 p.c3, .int .i64 p.c4, .int .i64 p.c5, .int .i64 p.c6, .int .i64 p.c7, .int .i64 p.c8, .int .i64 p.c9, .int .i64 p.c10], .agg #[.string (txt c.name), .string (txt c.value), .string (txt c.domain), .string (txt c.path), .bool c.hostOnly, .bool c.secure, .bool c.httpOnly, .bool c.lasting, .int .i64 c.site, .int .i64 c.expiry, .int .i64 c.created, .int .i64 c.used, .int .i64 c.no]] w' fun e w'' => e = .returned (.tuple #[.int .i64 a, .int .i64 b]) ∧ Below w'.heap.size w' w'') := fun w' h1 => by rw [ha, hb]; exact kind_any p _ c w' h1 op.len op.rules oc
  have KQ0 : Hid (∀ w', Calls Try.prog 10 #[.agg #[(.slice none 0 0), .int .i64 p.dflt, .int .i64 p.c0, .int .i64 p.c1, .int .i64 p.c2, .int .i64 p.c3, .int .i64 p.c4, .int .i64 p.c5, .int .i64 p.c6, .int .i64 p.c7, .int .i64 p.c8, .int .i64 p.c9, .int .i64 p.c10], .agg #[.string (txt c.name), .string (txt c.value), .string (txt c.domain), .string (txt c.path), .bool c.hostOnly, .bool c.secure, .bool c.httpOnly, .bool c.lasting, .int .i64 c.site, .int .i64 c.expiry, .int .i64 c.created, .int .i64 c.used, .int .i64 c.no]] w' fun e w'' => e = .returned (.tuple #[.int .i64 p.dflt, .int .i64 0]) ∧ Below w'.heap.size w' w'') := fun w' => by
    have k := kind_any { p with rules := [] } (.slice none 0 0) c w' ⟨none, 0, rfl, .inl rfl⟩ (Nat.zero_le _) (fun r hr => absurd hr (by simp)) oc
    exact k
  have KF : Hid (∀ w' sd m sc, Rows w' (.slice sd m sc) ruC (l.filter fun r => namesR r c) → Calls Try.prog 10 #[.agg #[(.slice sd m sc), .int .i64 p.dflt, .int .i64 p.c0, .int .i64 p.c1, .int .i64 p.c2, .int .i64 p.c3, .int .i64 p.c4, .int .i64 p.c5, .int .i64 p.c6, .int .i64 p.c7, .int .i64 p.c8, .int .i64 p.c9, .int .i64 p.c10], .agg #[.string (txt c.name), .string (txt c.value), .string (txt c.domain), .string (txt c.path), .bool c.hostOnly, .bool c.secure, .bool c.httpOnly, .bool c.lasting, .int .i64 c.site, .int .i64 c.expiry, .int .i64 c.created, .int .i64 c.used, .int .i64 c.no]] w' fun e w'' => e = .returned (.tuple #[.int .i64 a, .int .i64 b]) ∧ Below w'.heap.size w' w'') := fun w' sd m sc h1 => by
    have k := kind_any { p with rules := l.filter fun r => namesR r c } (.slice sd m sc) c w' h1 (Nat.le_trans (List.length_filter_le _ _) (by rw [hl]; exact op.len)) (fun r hr => op.rules r (by rw [← hl]; exact (List.mem_filter.1 hr).1)) oc
    have e : kindP { p with rules := l.filter fun r => namesR r c } c = kindP p c := by
      show kindL (l.filter fun r => namesR r c) p.dflt c = kindL p.rules p.dflt c
      rw [kindL_filter, hl]
    rw [e, ← ha, ← hb] at k
    exact k
  have KN : Hid (∀ (r : Ru), r ∈ l → ∀ w', Calls Try.prog 17 #[.agg #[.int .i64 r.kind, .string (txt r.text), .int .i64 r.purpose, .int .i64 r.vendor], .agg #[.string (txt c.name), .string (txt c.value), .string (txt c.domain), .string (txt c.path), .bool c.hostOnly, .bool c.secure, .bool c.httpOnly, .bool c.lasting, .int .i64 c.site, .int .i64 c.expiry, .int .i64 c.created, .int .i64 c.used, .int .i64 c.no]] w' fun e w'' => e = .returned (.bool (namesR r c)) ∧ Below w'.heap.size w' w'') := fun r h w' => namesOf_any r c w' oc.name (op.rules r (by rw [← hl]; exact h)).text hd
  simp only [ckC]
  obtain ⟨W0, hW0⟩ : ∃ W0, W0 = ((w.alloc (.cells #[(.slice ad n cap), .int .i64 p.dflt, .int .i64 p.c0, .int .i64 p.c1, .int .i64 p.c2, .int .i64 p.c3, .int .i64 p.c4, .int .i64 p.c5, .int .i64 p.c6, .int .i64 p.c7, .int .i64 p.c8, .int .i64 p.c9, .int .i64 p.c10] 25)).alloc (.cells #[.string (txt c.name), .string (txt c.value), .string (txt c.domain), .string (txt c.path), .bool c.hostOnly, .bool c.secure, .bool c.httpOnly, .bool c.lasting, .int .i64 c.site, .int .i64 c.expiry, .int .i64 c.created, .int .i64 c.used, .int .i64 c.no] 31)) := ⟨_, rfl⟩
  have P : Hid (PB W0 w.heap.size p (.slice ad n cap)) := by
    rw [hW0]
    have h := PB.new w p (.slice ad n cap) 25 rp
    exact (h.below (below_new _ _))
  have C : Hid (KB W0 (w.heap.size + 1) c) := by
    rw [hW0]
    have h := KB.new (w.alloc (.cells #[(.slice ad n cap), .int .i64 p.dflt, .int .i64 p.c0, .int .i64 p.c1, .int .i64 p.c2, .int .i64 p.c3, .int .i64 p.c4, .int .i64 p.c5, .int .i64 p.c6, .int .i64 p.c7, .int .i64 p.c8, .int .i64 p.c9, .int .i64 p.c10] 25)) c 31
    rw [show (w.alloc (.cells #[(.slice ad n cap), .int .i64 p.dflt, .int .i64 p.c0, .int .i64 p.c1, .int .i64 p.c2, .int .i64 p.c3, .int .i64 p.c4, .int .i64 p.c5, .int .i64 p.c6, .int .i64 p.c7, .int .i64 p.c8, .int .i64 p.c9, .int .i64 p.c10] 25)).heap.size = w.heap.size + 1 from by simp] at h
    exact h
  have S : Hid (Below w.heap.size w W0) := by rw [hW0]; exact next (below_new _ _) (below_new _ _)
  have HW0 : Hid _ := hW0
  clear rp op0 oc0 hk op oc hd ha hb hl hn hnb hW0
  go_enter Try.func5, Try.ntmps5
  go_upto_region 1 with fail
  rw [← HW0.out]
  clear HW0
  have x0 := P.out.row.cell 0 rfl
  have x1 := P.out.row.cell 1 rfl
  have x2 := P.out.row.cell 2 rfl
  have x3 := P.out.row.cell 3 rfl
  have x4 := P.out.row.cell 4 rfl
  have x5 := P.out.row.cell 5 rfl
  have x6 := P.out.row.cell 6 rfl
  have x7 := P.out.row.cell 7 rfl
  have x8 := P.out.row.cell 8 rfl
  have x9 := P.out.row.cell 9 rfl
  have x10 := P.out.row.cell 10 rfl
  have x11 := P.out.row.cell 11 rfl
  have x12 := P.out.row.cell 12 rfl
  have y0 := C.out.row.cell 0 rfl
  have y1 := C.out.row.cell 1 rfl
  have y2 := C.out.row.cell 2 rfl
  have y3 := C.out.row.cell 3 rfl
  have y4 := C.out.row.cell 4 rfl
  have y5 := C.out.row.cell 5 rfl
  have y6 := C.out.row.cell 6 rfl
  have y7 := C.out.row.cell 7 rfl
  have y8 := C.out.row.cell 8 rfl
  have y9 := C.out.row.cell 9 rfl
  have y10 := C.out.row.cell 10 rfl
  have y11 := C.out.row.cell 11 rfl
  have y12 := C.out.row.cell 12 rfl
  go_wp2_with fail
  refine (KK.out _ (HRR.out _ S.out)).mono ?_
  rintro e Wn1 ⟨rfl, hb1⟩
  clear x0 x1 x2 x3 x4 x5 x6 x7 x8 x9 x10 x11 x12 y0 y1 y2 y3 y4 y5 y6 y7 y8 y9 y10 y11 y12
  replace P : Hid (PB Wn1 w.heap.size p (.slice ad n cap)) := P.out.below hb1
  replace C : Hid (KB Wn1 (w.heap.size + 1) c) := C.out.below hb1
  replace S : Hid (Below w.heap.size w Wn1) := next S.out hb1
  clear hb1
  go_wp2_with fail
  refine (policyBegun_any _).mono ?_
  rintro e Wn2 ⟨rfl, hb2⟩
  replace P : Hid (PB Wn2 w.heap.size p (.slice ad n cap)) := P.out.below hb2
  replace C : Hid (KB Wn2 (w.heap.size + 1) c) := C.out.below hb2
  replace S : Hid (Below w.heap.size w Wn2) := next S.out hb2
  clear hb2
  have x0 := P.out.row.cell 0 rfl
  have x1 := P.out.row.cell 1 rfl
  have x2 := P.out.row.cell 2 rfl
  have x3 := P.out.row.cell 3 rfl
  have x4 := P.out.row.cell 4 rfl
  have x5 := P.out.row.cell 5 rfl
  have x6 := P.out.row.cell 6 rfl
  have x7 := P.out.row.cell 7 rfl
  have x8 := P.out.row.cell 8 rfl
  have x9 := P.out.row.cell 9 rfl
  have x10 := P.out.row.cell 10 rfl
  have x11 := P.out.row.cell 11 rfl
  have x12 := P.out.row.cell 12 rfl
  obtain ⟨X, hX⟩ : ∃ X, X = Wn2.heap.size := ⟨_, rfl⟩
  obtain ⟨W4, hW4⟩ : ∃ W4, W4 = Wn2.alloc (.cells #[(.slice ad n cap), .int .i64 p.dflt, .int .i64 p.c0, .int .i64 p.c1, .int .i64 p.c2, .int .i64 p.c3, .int .i64 p.c4, .int .i64 p.c5, .int .i64 p.c6, .int .i64 p.c7, .int .i64 p.c8, .int .i64 p.c9, .int .i64 p.c10] 25) := ⟨_, rfl⟩
  obtain ⟨W5, hW5⟩ : ∃ W5, W5 = W4.setCell ⟨X, 0, none⟩ (.slice none 0 0) := ⟨_, rfl⟩
  have l4 : LRow W4 X (poL p (.slice ad n cap)) := by rw [hW4, hX]; exact LRow.new Wn2 (poL p (.slice ad n cap)) 25
  have Q5 : Hid (LRow W5 X (poL p (.slice none 0 0))) := by rw [hW5]; exact l4.set 0 _
  have b5 : Below Wn2.heap.size Wn2 W5 := by rw [hW5, hW4, hX]; exact (below_new _ _).setCell (p := ⟨Wn2.heap.size, 0, none⟩) (Nat.le_refl _) _
  have g0 := l4.cell 0 rfl
  have f0 := l4.frozen 0 rfl
  have HXS : Hid (w.heap.size + 1 < X) := by show _ < _; rw [hX]; exact cell_in (C.out.row.cell 0 rfl)
  have HX : Hid _ := hX
  have HW4 : Hid _ := hW4
  have HW5 : Hid _ := hW5
  clear l4 hW4 hW5 hX
  go_upto_region 5 with fail
  rw [← HW4.out, ← HX.out]
  go_upto_region 6 with fail
  rw [← HW5.out]
  clear HW4 HW5 g0 f0 x0 x1 x2 x3 x4 x5 x6 x7 x8 x9 x10 x11 x12
  replace P : Hid (PB W5 w.heap.size p (.slice ad n cap)) := P.out.below b5
  replace C : Hid (KB W5 (w.heap.size + 1) c) := C.out.below b5
  replace S : Hid (Below w.heap.size w W5) := next S.out b5
  clear b5
  have z0 := Q5.out.cell 0 rfl
  have z1 := Q5.out.cell 1 rfl
  have z2 := Q5.out.cell 2 rfl
  have z3 := Q5.out.cell 3 rfl
  have z4 := Q5.out.cell 4 rfl
  have z5 := Q5.out.cell 5 rfl
  have z6 := Q5.out.cell 6 rfl
  have z7 := Q5.out.cell 7 rfl
  have z8 := Q5.out.cell 8 rfl
  have z9 := Q5.out.cell 9 rfl
  have z10 := Q5.out.cell 10 rfl
  have z11 := Q5.out.cell 11 rfl
  have z12 := Q5.out.cell 12 rfl
  have y0 := C.out.row.cell 0 rfl
  have y1 := C.out.row.cell 1 rfl
  have y2 := C.out.row.cell 2 rfl
  have y3 := C.out.row.cell 3 rfl
  have y4 := C.out.row.cell 4 rfl
  have y5 := C.out.row.cell 5 rfl
  have y6 := C.out.row.cell 6 rfl
  have y7 := C.out.row.cell 7 rfl
  have y8 := C.out.row.cell 8 rfl
  have y9 := C.out.row.cell 9 rfl
  have y10 := C.out.row.cell 10 rfl
  have y11 := C.out.row.cell 11 rfl
  have y12 := C.out.row.cell 12 rfl
  go_wp2_with fail
  refine (KQ0.out _).mono ?_
  rintro e Wc ⟨rfl, hbc⟩
  have QC : Hid (LRow Wc X (poL p (.slice none 0 0))) := Q5.out.below hbc (cell_in (Q5.out.cell 0 rfl))
  have C0 : Hid (KB Wc (w.heap.size + 1) c) := C.out.below hbc
  have P0 : Hid (LRow Wc w.heap.size (poL p (.slice ad n cap))) := (P.out.below hbc).row
  have S0 : Hid (Below w.heap.size w Wc) := next S.out hbc
  clear hbc P C S Q5 z0 y0 z1 y1 z2 y2 z3 y3 z4 y4 z5 y5 z6 y6 z7 y7 z8 y8 z9 y9 z10 y10 z11 y11 z12 y12
  have p0 := P0.out.cell 0 rfl
  go_wp2_with fail
  clear p0
  go_loopw [10] (fun i wr => ∃ (k : Nat) (vv : Value), k ≤ n ∧ i = .int .i64 k ∧ Hid (LRow wr X (poL p vv)) ∧ wr.ownsRow (X + 1) 39 4 vv (acc l c k).length ((acc l c k).flatMap ruC) ∧ Hid (Below X Wc wr)) (fun i _ => n - (intOf i).toNat)
  case atStart => exact ⟨0, (.slice none 0 0), Nat.zero_le _, rfl, QC, World.ownsRow_nil _ _ _ _, Below.refl _ _⟩
  case round =>
    obtain ⟨k, vv, hk, rfl, hrow, hown, hb⟩ := hrel
    obtain ⟨sad, scap, rfl⟩ := own_sl hown
    have PR : Hid (LRow wr w.heap.size (poL p (.slice ad n cap))) := P0.out.below hb.out (by have := HXS.out; omega)
    have CR : Hid (KB wr (w.heap.size + 1) c) := ⟨C0.out.row.below hb.out HXS.out⟩
    have SR : Hid (Below w.heap.size w wr) := S0.out.trans (hb.out.mono (by have := HXS.out; omega))
    have hnn := HNB.out
    have hXw : Hid (X < wr.heap.size) := cell_in (hrow.out.cell 0 rfl)
    by_cases hlt : k < n
    · obtain ⟨r, e1⟩ : ∃ r, l[k]? = some r := ⟨_, List.getElem?_eq_getElem (by rw [← HN.out]; exact hlt)⟩
      obtain ⟨bl, ol, rfl, hbl, hcell⟩ := Rows.at (HRR.out wr SR.out) rfl 3 (fun _ => rfl) k r (by rw [← HLL.out]; exact e1)
      have cc : ∀ w', Below wr.heap.size wr w' → ∀ i u, (ruC r)[i]? = some u → w'.cell? ⟨bl, ol + k * 4 + i, none⟩ = some u := fun w' h i u hu => (h.cell (p := ⟨bl, ol + k * 4 + i, none⟩) hbl).trans (hcell i u hu)
      have d0 : ∀ w', Below wr.heap.size wr w' → w'.cell? ⟨bl, ol + k * 4, none⟩ = some (.int .i64 r.kind) := fun w' h => cc w' h 0 _ rfl
      have d1 : ∀ w', Below wr.heap.size wr w' → w'.cell? ⟨bl, ol + k * 4 + 1, none⟩ = some (.string (txt r.text)) := fun w' h => cc w' h 1 _ rfl
      have d2 : ∀ w', Below wr.heap.size wr w' → w'.cell? ⟨bl, ol + k * 4 + 2, none⟩ = some (.int .i64 r.purpose) := fun w' h => cc w' h 2 _ rfl
      have d3 : ∀ w', Below wr.heap.size wr w' → w'.cell? ⟨bl, ol + k * 4 + 3, none⟩ = some (.int .i64 r.vendor) := fun w' h => cc w' h 3 _ rfl
      have f0 : ∀ w', Below wr.heap.size wr w' → w'.cell? ⟨w.heap.size, 0, none⟩ = some (.slice (some ⟨bl, ol, none⟩) n cap) := fun w' h => (PR.out.below h (cell_in (PR.out.cell 1 rfl))).cell 0 rfl
      have y0 : ∀ w', Below wr.heap.size wr w' → w'.cell? ⟨w.heap.size + 1, 0, none⟩ = some (.string (txt c.name)) := fun w' h => (CR.out.below h).row.cell 0 rfl
      have y1 : ∀ w', Below wr.heap.size wr w' → w'.cell? ⟨w.heap.size + 1, 1, none⟩ = some (.string (txt c.value)) := fun w' h => (CR.out.below h).row.cell 1 rfl
      have y2 : ∀ w', Below wr.heap.size wr w' → w'.cell? ⟨w.heap.size + 1, 2, none⟩ = some (.string (txt c.domain)) := fun w' h => (CR.out.below h).row.cell 2 rfl
      have y3 : ∀ w', Below wr.heap.size wr w' → w'.cell? ⟨w.heap.size + 1, 3, none⟩ = some (.string (txt c.path)) := fun w' h => (CR.out.below h).row.cell 3 rfl
      have y4 : ∀ w', Below wr.heap.size wr w' → w'.cell? ⟨w.heap.size + 1, 4, none⟩ = some (.bool c.hostOnly) := fun w' h => (CR.out.below h).row.cell 4 rfl
      have y5 : ∀ w', Below wr.heap.size wr w' → w'.cell? ⟨w.heap.size + 1, 5, none⟩ = some (.bool c.secure) := fun w' h => (CR.out.below h).row.cell 5 rfl
      have y6 : ∀ w', Below wr.heap.size wr w' → w'.cell? ⟨w.heap.size + 1, 6, none⟩ = some (.bool c.httpOnly) := fun w' h => (CR.out.below h).row.cell 6 rfl
      have y7 : ∀ w', Below wr.heap.size wr w' → w'.cell? ⟨w.heap.size + 1, 7, none⟩ = some (.bool c.lasting) := fun w' h => (CR.out.below h).row.cell 7 rfl
      have y8 : ∀ w', Below wr.heap.size wr w' → w'.cell? ⟨w.heap.size + 1, 8, none⟩ = some (.int .i64 c.site) := fun w' h => (CR.out.below h).row.cell 8 rfl
      have y9 : ∀ w', Below wr.heap.size wr w' → w'.cell? ⟨w.heap.size + 1, 9, none⟩ = some (.int .i64 c.expiry) := fun w' h => (CR.out.below h).row.cell 9 rfl
      have y10 : ∀ w', Below wr.heap.size wr w' → w'.cell? ⟨w.heap.size + 1, 10, none⟩ = some (.int .i64 c.created) := fun w' h => (CR.out.below h).row.cell 10 rfl
      have y11 : ∀ w', Below wr.heap.size wr w' → w'.cell? ⟨w.heap.size + 1, 11, none⟩ = some (.int .i64 c.used) := fun w' h => (CR.out.below h).row.cell 11 rfl
      have y12 : ∀ w', Below wr.heap.size wr w' → w'.cell? ⟨w.heap.size + 1, 12, none⟩ = some (.int .i64 c.no) := fun w' h => (CR.out.below h).row.cell 12 rfl
      obtain ⟨nm, hnm⟩ : ∃ b, b = namesR r c := ⟨_, rfl⟩
      have KR : Hid (∀ w', Calls Try.prog 17 #[.agg #[.int .i64 r.kind, .string (txt r.text), .int .i64 r.purpose, .int .i64 r.vendor], .agg #[.string (txt c.name), .string (txt c.value), .string (txt c.domain), .string (txt c.path), .bool c.hostOnly, .bool c.secure, .bool c.httpOnly, .bool c.lasting, .int .i64 c.site, .int .i64 c.expiry, .int .i64 c.created, .int .i64 c.used, .int .i64 c.no]] w' fun e w'' => e = .returned (.bool nm) ∧ Below w'.heap.size w' w'') := by rw [hnm]; exact KN.out r (List.mem_of_getElem? e1)
      have HA1 : Hid (nm = true → acc l c (k + 1) = acc l c k ++ [r]) := fun h => acc_yes l c k r e1 (by rw [← hnm]; exact h)
      have HA0 : Hid (nm = false → acc l c (k + 1) = acc l c k) := fun h => acc_no l c k r e1 (by rw [← hnm]; exact h)
      have f0r := f0 wr (Below.refl _ _)
      have hk0 : (0 : Int) ≤ (k : Int) := by omega
      have hk1 : (k : Int) < (n : Int) := by omega
      obtain ⟨m, hm⟩ : ∃ m, m = (acc l c k).length := ⟨_, rfl⟩
      have hmk : Hid (m ≤ k) := by show _ ≤ _; rw [hm]; exact acc_len l c k
      obtain ⟨xs, hxs⟩ : ∃ xs, xs = (acc l c k).flatMap ruC := ⟨_, rfl⟩
      rw [← hm, ← hxs] at hown
      rw [← hm] at hrow
      have HM : Hid _ := hm
      have HXSS : Hid _ := hxs
      have HOWN : Hid (wr.ownsRow (X + 1) 39 4 (.slice sad m scap) m xs) := hown
      clear e1 hcell hbl cc hnm hm hxs hown
      go_upto_region 10 with fail
      go_region_held3 (fun w' => Below wr.heap.size wr w') (first | assumption | exact (Below.refl _ wr).drew | exact Below.drew (by assumption) | fail)
        (first
        | (go_at_call 17; refine (KR.out _).mono ?_; rintro e w1 ⟨rfl, hbN⟩; have hX1 : Below wr.heap.size wr w1 := Below.trans (by first | assumption | exact (Below.refl _ wr).drew) (hbN.mono (Below.size (by first | assumption | exact (Below.refl _ wr).drew))); clear hbN)
        | fail)
      have HX1 : Hid _ := hX1
      have R1 : Hid (LRow w1 X (poL p (.slice sad m scap))) := hrow.out.below hX1 hXw.out
      have OW1 : Hid (w1.ownsRow (X + 1) 39 4 (.slice sad m scap) m xs) := own_below HOWN.out hX1 (Nat.le_refl _)
      have B1 : Hid (Below X Wc w1) := hb.out.trans (hX1.mono (Nat.le_of_lt hXw.out))
      have L1 : Hid (X + 1 ≤ w1.heap.size) := Nat.le_trans hXw.out hX1.size
      cases nm
      · clear hX1 d0 d1 d2 d3 f0 f0r y0 y1 y2 y3 y4 y5 y6 y7 y8 y9 y10 y11 y12
        go_wp2_with fail
        go_roundw
        case rel => exact ⟨k + 1, _, by omega, by go_num, R1, by rw [HA0.out rfl, ← HM.out, ← HXSS.out]; exact OW1.out, B1⟩
        case measure => simp [intOf]; omega
      · have hA : Below wr.heap.size wr ((w1.alloc (.cells #[.int .i64 r.kind, .string (txt r.text), .int .i64 r.purpose, .int .i64 r.vendor] 39)).drew) := (hX1.alloc hX1.size _).drew
        have hAn : Below wr.heap.size wr (w1.alloc (.cells #[.int .i64 r.kind, .string (txt r.text), .int .i64 r.purpose, .int .i64 r.vendor] 39)) := hX1.alloc hX1.size _
        have a0 := d0 _ hAn
        have a1 := d1 _ hAn
        have a2 := d2 _ hAn
        have a3 := d3 _ hAn
        have a4 := f0 _ hAn
        have e0 := d0 _ hX1
        have e1 := d1 _ hX1
        have e2 := d2 _ hX1
        have e3 := d3 _ hX1
        have e4 := f0 _ hX1
        have c0 := R1.out.cell 0 rfl
        have c0f := R1.out.frozen 0 rfl
        have RA : Hid (LRow ((w1.alloc (.cells #[.int .i64 r.kind, .string (txt r.text), .int .i64 r.purpose, .int .i64 r.vendor] 39)).drew) X (poL p (.slice sad m scap))) := R1.out.below ((Below.refl _ w1).alloc (Nat.le_refl _) _).drew (Nat.lt_of_succ_le L1.out)
        have cA : (w1.alloc (.cells #[.int .i64 r.kind, .string (txt r.text), .int .i64 r.purpose, .int .i64 r.vendor] 39)).cell? ⟨X, 0, none⟩ = some (.slice sad m scap) := RA.out.cell 0 rfl
        have NW : Hid (Reads ((w1.alloc (.cells #[.int .i64 r.kind, .string (txt r.text), .int .i64 r.purpose, .int .i64 r.vendor] 39)).drew) (.slice (some ⟨w1.heap.size, 0, none⟩) 1 1) 1 (ruC r)) := by
          have h := Rows.lit (f := ruC) w1 [r] 39 w1.heap.size 1 1 #[.int .i64 r.kind, .string (txt r.text), .int .i64 r.purpose, .int .i64 r.vendor] rfl rfl rfl
          exact h
        have OWA : Hid (((w1.alloc (.cells #[.int .i64 r.kind, .string (txt r.text), .int .i64 r.purpose, .int .i64 r.vendor] 39)).drew).ownsRow (X + 1) 39 4 (.slice sad m scap) m xs) := own_below OW1.out ((Below.refl _ w1).alloc (Nat.le_refl _) _).drew (Nat.le_refl _)
        have N2 : Hid (∀ u ∈ ruC r, u.oneCell' = true) := fun u hu => by simp [ruC] at hu; rcases hu with rfl | rfl | rfl | rfl <;> rfl
        have N3 : Hid (m + 1 ≤ maxLen) := by show _ ≤ _; have := hmk.out; have := HNB.out; unfold maxLen; omega
        have N4 : Hid ((m + 1) * 40 ≤ 140737488355328) := by show _ ≤ _; have := hmk.out; have := HNB.out; omega
        have LA : Hid (X + 1 ≤ ((w1.alloc (.cells #[.int .i64 r.kind, .string (txt r.text), .int .i64 r.purpose, .int .i64 r.vendor] 39)).drew).heap.size) := by show _ ≤ _; have := L1.out; simp; omega
        obtain ⟨i0, hi, hz0, hz1, hz2⟩ := g_infoRu
        clear hX1 d0 d1 d2 d3 f0 f0r y0 y1 y2 y3 y4 y5 y6 y7 y8 y9 y10 y11 y12 hA hAn
        go_upto_region 11 with fail
        go_region_law (first
          | (refine step_append_reads (by rfl) (.tmp 44) (.tmp 50) 22 (by rfl) (X + 1) 39 i0 (.agg #[.int .i64 0, .string ⟨#[]⟩, .int .i64 0, .int .i64 0]) 4 40 Try.underlying22 hi hz0 hz1 hz2 rfl (by decide) _ m xs (by rfl) OWA.out _ (by rfl) 1 (ruC r) NW.out rfl N2.out N3.out N4.out LA.out ?_; intro v7 w7 hown7 hg7; obtain ⟨ad7, cap7, rfl⟩ := own_sl hown7; have hb7 : Below (X + 1) ((w1.alloc (.cells #[.int .i64 r.kind, .string (txt r.text), .int .i64 r.purpose, .int .i64 r.vendor] 39)).drew) w7 := (Below.refl (X + 1) _).grown hg7 LA.out (fun q e => (OWA.out.lt q e).1); have R7 : Hid (LRow w7 X (poL p (.slice sad m scap))) := RA.out.below hb7 (Nat.lt_succ_self X); have c7 := R7.out.cell 0 rfl; have f7 := R7.out.frozen 0 rfl)
          | fail)
        all_goals
          have R8 : Hid (LRow (w7.setCell ⟨X, 0, none⟩ (.slice ad7 (m + 1) cap7)) X (poL p (.slice ad7 (m + 1) cap7))) := R7.out.set 0 _
          have O8 : Hid ((w7.setCell ⟨X, 0, none⟩ (.slice ad7 (m + 1) cap7)).ownsRow (X + 1) 39 4 (.slice ad7 (m + 1) cap7) (m + 1) (xs ++ ruC r)) := own_set1 hown7 (Nat.lt_succ_self X)
          have B8 : Hid (Below X Wc (w7.setCell ⟨X, 0, none⟩ (.slice ad7 (m + 1) cap7))) := ((B1.out.trans (((Below.refl _ w1).alloc (Nat.le_refl _) _).drew.mono (Nat.le_of_succ_le L1.out))).trans (hb7.mono (Nat.le_succ X))).setCell (p := ⟨X, 0, none⟩) (Nat.le_refl _) _
          clear hown7 hg7 hb7 c7 f7 c0 c0f cA a0 a1 a2 a3 a4 e0 e1 e2 e3 e4 hi hz0 hz1 hz2
          go_wp2_with fail
          go_roundw
          case rel => exact ⟨k + 1, _, by omega, by go_num, R8, by rw [HA1.out rfl, List.length_append, List.flatMap_append, ← HM.out, ← HXSS.out]; exact O8.out, B8⟩
          case measure => simp [intOf]; omega
    · obtain rfl : k = n := by omega
      have HAL : Hid (acc l c k = l.filter fun r => namesR r c) := by show _ = _; unfold acc; rw [List.take_of_length_le (by rw [← HN.out]; exact Nat.le_refl _)]
      have RV : Hid (Rows wr (.slice sad (acc l c k).length scap) ruC (l.filter fun r => namesR r c)) := by
        have h := Reads.of_own hown
        rw [HAL.out] at h ⊢
        exact h
      obtain ⟨m, hm⟩ : ∃ m, m = (acc l c k).length := ⟨_, rfl⟩
      rw [← hm] at hrow RV
      have q0 := PR.out.cell 0 rfl
      have z0 := hrow.out.cell 0 rfl
      have y0 := CR.out.row.cell 0 rfl
      have z1 := hrow.out.cell 1 rfl
      have y1 := CR.out.row.cell 1 rfl
      have z2 := hrow.out.cell 2 rfl
      have y2 := CR.out.row.cell 2 rfl
      have z3 := hrow.out.cell 3 rfl
      have y3 := CR.out.row.cell 3 rfl
      have z4 := hrow.out.cell 4 rfl
      have y4 := CR.out.row.cell 4 rfl
      have z5 := hrow.out.cell 5 rfl
      have y5 := CR.out.row.cell 5 rfl
      have z6 := hrow.out.cell 6 rfl
      have y6 := CR.out.row.cell 6 rfl
      have z7 := hrow.out.cell 7 rfl
      have y7 := CR.out.row.cell 7 rfl
      have z8 := hrow.out.cell 8 rfl
      have y8 := CR.out.row.cell 8 rfl
      have z9 := hrow.out.cell 9 rfl
      have y9 := CR.out.row.cell 9 rfl
      have z10 := hrow.out.cell 10 rfl
      have y10 := CR.out.row.cell 10 rfl
      have z11 := hrow.out.cell 11 rfl
      have y11 := CR.out.row.cell 11 rfl
      have z12 := hrow.out.cell 12 rfl
      have y12 := CR.out.row.cell 12 rfl
      clear hown hm
      go_wp2_with fail
      refine (KF.out _ _ _ _ RV.out).mono ?_
      rintro e w9 ⟨rfl, hb9⟩
      have S9 : Hid (Below w.heap.size w w9) := next SR.out hb9
      have x1 := (PR.out.below hb9 (cell_in q0)).cell 1 rfl
      clear hb9 q0 z0 y0 z1 y1 z2 y2 z3 y3 z4 y4 z5 y5 z6 y6 z7 y7 z8 y8 z9 y9 z10 y10 z11 y11 z12 y12
      go_wp2_with fail
      go_ret
      exact ⟨rfl, S9.out⟩
set_option maxRecDepth 100000 in
theorem lifted (os : Os) (started : os.Started) (H : Type) (enc : TypeId × Value → H) (F : Stop.Interp) :
    ReturnsInHanded {} Try.checked os 5 .any ((Rows.OpenSpec.upto Rows.policyAwaySpec).pre6 enc Try.prog Try.f5 Rows.policyAwayUptoRow.domain false) (((Rows.OpenSpec.upto Rows.policyAwaySpec).at F).post enc Try.prog Try.f5 false true false false) := by
  refine returnsInHanded_of_cond (C := Try.checked) (s := (Rows.OpenSpec.upto Rows.policyAwaySpec)) (k := Rows.uptoSmall) rfl own started (by kernel_rfl) Try.func5
    (OpenSpec.witness (enc := enc) (C := Try.checked) (s := (Rows.OpenSpec.upto Rows.policyAwaySpec)) (k := Rows.uptoSmall) rfl false ⟨#[], #[.agg #[.slice none 0 0, .int .i64 0, .int .i64 0, .int .i64 0, .int .i64 0, .int .i64 0, .int .i64 0, .int .i64 0, .int .i64 0, .int .i64 0, .int .i64 0, .int .i64 0, .int .i64 0], .agg #[.string ByteArray.empty, .string ByteArray.empty, .string ByteArray.empty, .string ByteArray.empty, .bool false, .bool false, .bool false, .bool false, .int .i64 0, .int .i64 0, .int .i64 0, .int .i64 0, .int .i64 0]], []⟩ 8 (by kernel_rfl) (by kernel_rfl) (by kernel_rfl)
      (x := ([.agg [.nil, .lit (.int .i64 0), .agg [.lit (.int .i64 0), .lit (.int .i64 0), .lit (.int .i64 0), .lit (.int .i64 0), .lit (.int .i64 0), .lit (.int .i64 0), .lit (.int .i64 0), .lit (.int .i64 0), .lit (.int .i64 0), .lit (.int .i64 0), .lit (.int .i64 0)]], .agg [.lit (.string []), .lit (.string []), .lit (.string []), .lit (.string []), .lit (.bool false), .lit (.bool false), .lit (.bool false), .lit (.bool false), .lit (.int .i64 0), .lit (.int .i64 0), .lit (.int .i64 0), .lit (.int .i64 0), .lit (.int .i64 0)]], [], [])) (by kernel_rfl) rfl (by kernel_rfl)) ?_
  intro W base args ds gs before hval0 hW hcnd hk _
  have hval : ∀ (j : Nat) t v, Try.f5.params[j]? = some t → args[j]? = some v → Value.okWide Try.prog W .any base t v := hval0
  have hW' := hW
  obtain ⟨p, q, hA0, hV, rfl, hfz, hnd⟩ := hW
  have hA : DataW.TrodAll enc Try.prog W 0 (fun _ => true) true Try.f5.params.toList args.toList ds p := hA0
  rw [Try.params5] at hA hval
  obtain ⟨v0, vs0, d0, ds0, p0, q0, hargs, rfl, rfl, h0, r0⟩ := trodAll_cons hA
  obtain ⟨v1, vs1, d1, ds1, p1, q1, rfl, rfl, rfl, h1, r1⟩ := trodAll_cons r0
  obtain ⟨rfl, rfl, rfl⟩ := trodAll_nil r1
  obtain rfl : args = #[v0, v1] := by cases args; simp_all
  obtain ⟨rfl, rfl⟩ := trodVars_none hV
  have k0 := h0
  have lt0 : ∀ x ∈ p0, x.block < W.heap.size := by obtain ⟨m, hm⟩ := k0; exact DataW.trod_lt m _ _ _ hm
  have k1 := h1
  have lt1 : ∀ x ∈ p1, x.block < W.heap.size := by obtain ⟨m, hm⟩ := k1; exact DataW.trod_lt m _ _ _ hm
  obtain ⟨po0, pv0, rfl, rd0, ok0, bk0⟩ := open_policy (hval 0 25 v0 rfl rfl) k0 maxLen (fits_max _)
  obtain ⟨l1, rfl, ok1, bk1⟩ := open_cookie (hval 1 31 v1 rfl rfl) k1 maxLen (fits_max _)
  have hbulk := bulk_of hk
  simp only [List.cons_append, List.nil_append, List.append_nil, Rows.uptoBulkAll] at hbulk
  have hbk0 := bk0
  have hbk1 := bk1
  clear hA0 hval0
  refine (walk po0 pv0 l1 W rd0 ok0 ok1 (by omega)).mono fun e W' ⟨he, bel⟩ => ?_
  subst he
  exact ⟨_, rfl, _, _, _, [], _, [], hW', trodAll_mk1 (shut_bool Try.underlying4 _), (trodAll_cons_mk (Below.trod laidOut (by kernel_rfl) (of_decide_eq_true (by kernel_rfl)) k0 bel lt0) (trodAll_cons_mk (Below.trod laidOut (by kernel_rfl) (of_decide_eq_true (by kernel_rfl)) k1 bel lt1) trodAll_mk0)), rfl, bel.frame _, fun h => by cases h⟩

theorem proved : Rows.PolicyAwayUptoSaid :=
  OpenClaim.holds_of_cond 5 Try.f5 rfl rfl rfl rfl rfl rfl rfl ⟨rfl, rfl, rfl, rfl, rfl⟩ rfl rfl rfl rfl rfl (by kernel_rfl) Try.func5 (by kernel_rfl)
    (of_decide_eq_true (by kernel_rfl)) (by unfold Func.isWrapper; first | (rw [if_pos (by decide +kernel)]; kernel_rfl) | (rw [if_neg (by decide +kernel)]; exact ⟨rfl, rfl⟩))
    (fun os started H enc _ F => lifted os started H enc F)
#print axioms proved
end Go.Proofs.Ytmjcgkjkhpjgbaa.policyAway
