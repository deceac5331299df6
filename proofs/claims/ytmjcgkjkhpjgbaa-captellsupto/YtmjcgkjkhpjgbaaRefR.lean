/- The document's own answer: what a cookie is for. -/
import Derived.Test.YtmjcgkjkhpjgbaaRefP
namespace Go.Proofs.Ytmjcgkjkhpjgbaa
open Go.RowKit
set_option linter.all false
set_option maxRecDepth 100000

set_option maxHeartbeats 16000000 in
theorem kindOf_any (p : Po) (v : Value) (c : Ck) (w : World) (hr : Rows w v ruC p.rules) (hm : p.rules.length ≤ 140737488351232) (ho : ∀ r ∈ p.rules, RuOk 140737488351232 r) (hc : CkOk 140737488351232 c) (hd : (c.domain.length + 1) * 16 ≤ 140737488355328) :
    Calls Try.prog 11 #[.agg #[v, .int .i64 p.dflt, .int .i64 p.c0, .int .i64 p.c1, .int .i64 p.c2, .int .i64 p.c3, .int .i64 p.c4, .int .i64 p.c5, .int .i64 p.c6, .int .i64 p.c7, .int .i64 p.c8, .int .i64 p.c9, .int .i64 p.c10], .agg #[.string (txt c.name), .string (txt c.value), .string (txt c.domain), .string (txt c.path), .bool c.hostOnly, .bool c.secure, .bool c.httpOnly, .bool c.lasting, .int .i64 c.site, .int .i64 c.expiry, .int .i64 c.created, .int .i64 c.used, .int .i64 c.no]] w fun e w' => e = .returned (.tuple #[.int .i64 (kindP p c).1, .int .i64 (kindP p c).2]) ∧ Below w.heap.size w w' := by
  obtain ⟨ad, cap, rfl⟩ := hr.shape
  obtain ⟨P', hP⟩ : ∃ P, P = (kindP p c).1 := ⟨_, rfl⟩
  obtain ⟨V', hV⟩ : ∃ V, V = (kindP p c).2 := ⟨_, rfl⟩
  rw [← hP, ← hV]
  obtain ⟨l, hl⟩ : ∃ l, l = p.rules := ⟨_, rfl⟩
  have HLL : Hid (l = p.rules) := hl
  rw [← hl] at hm ho ⊢
  have HK : Hid (kindL l p.dflt c = (P', V')) := by show _ = _; rw [hl, hP, hV]; rfl
  obtain ⟨n, hn⟩ : ∃ n, n = l.length := ⟨_, rfl⟩
  have HN : Hid _ := hn
  rw [← hn] at hm ⊢
  have hr2 : Rows w (.slice ad n cap) ruC p.rules := by rw [hn, hl]; exact hr
  have KN : Hid (∀ (r : Ru), r ∈ l → ∀ w', Calls Try.prog 17 #[.agg #[.int .i64 r.kind, .string (txt r.text), .int .i64 r.purpose, .int .i64 r.vendor], .agg #[.string (txt c.name), .string (txt c.value), .string (txt c.domain), .string (txt c.path), .bool c.hostOnly, .bool c.secure, .bool c.httpOnly, .bool c.lasting, .int .i64 c.site, .int .i64 c.expiry, .int .i64 c.created, .int .i64 c.used, .int .i64 c.no]] w' fun e w'' => e = .returned (.bool (namesR r c)) ∧ Below w'.heap.size w' w'') := fun r h w' => namesOf_any r c w' hc.name (ho r h).text hd
  obtain ⟨W0, hW0⟩ : ∃ W0, W0 = ((w.alloc (.cells #[(.slice ad n cap), .int .i64 p.dflt, .int .i64 p.c0, .int .i64 p.c1, .int .i64 p.c2, .int .i64 p.c3, .int .i64 p.c4, .int .i64 p.c5, .int .i64 p.c6, .int .i64 p.c7, .int .i64 p.c8, .int .i64 p.c9, .int .i64 p.c10] 25)).alloc (.cells #[.string (txt c.name), .string (txt c.value), .string (txt c.domain), .string (txt c.path), .bool c.hostOnly, .bool c.secure, .bool c.httpOnly, .bool c.lasting, .int .i64 c.site, .int .i64 c.expiry, .int .i64 c.created, .int .i64 c.used, .int .i64 c.no] 31)) := ⟨_, rfl⟩
  have P : Hid (PB W0 w.heap.size p (.slice ad n cap)) := by
    rw [hW0]
    have h := PB.new w p (.slice ad n cap) 25 hr2
    exact (h.below (below_new _ _))
  have C : Hid (KB W0 (w.heap.size + 1) c) := by
    rw [hW0]
    have h := KB.new (w.alloc (.cells #[(.slice ad n cap), .int .i64 p.dflt, .int .i64 p.c0, .int .i64 p.c1, .int .i64 p.c2, .int .i64 p.c3, .int .i64 p.c4, .int .i64 p.c5, .int .i64 p.c6, .int .i64 p.c7, .int .i64 p.c8, .int .i64 p.c9, .int .i64 p.c10] 25)) c 31
    rw [show (w.alloc (.cells #[(.slice ad n cap), .int .i64 p.dflt, .int .i64 p.c0, .int .i64 p.c1, .int .i64 p.c2, .int .i64 p.c3, .int .i64 p.c4, .int .i64 p.c5, .int .i64 p.c6, .int .i64 p.c7, .int .i64 p.c8, .int .i64 p.c9, .int .i64 p.c10] 25)).heap.size = w.heap.size + 1 from by simp] at h
    exact h
  have S : Hid (Below w.heap.size w W0) := by rw [hW0]; exact next (below_new _ _) (below_new _ _)
  have HW0 : Hid _ := hW0
  clear hP hV hn hr ho hc hd hl hr2 hW0
  go_enter Try.func11, Try.ntmps11
  go_upto_region 1 with fail
  rw [← HW0.out]
  clear HW0
  have p0 := P.out.row.cell 0 rfl
  have p1 := P.out.row.cell 1 rfl
  go_wp2_with fail
  clear p0 p1
  go_loopw [6, 7, 8] (fun a b i wr => ∃ (k : Nat) (ii : Int), k ≤ n ∧ i = .int .i64 ii ∧ Hid (ii = (k : Int) - 1) ∧ (∃ (x y : Int), a = .int .i64 x ∧ b = .int .i64 y ∧ Hid (kindL (l.drop k) p.dflt c = (x, y))) ∧ Hid (Below W0.heap.size W0 wr)) (fun _ _ i _ => (intOf i + 1).toNat)
  case atStart => exact ⟨n, (n : Int) - 1, Nat.le_refl _, rfl, rfl, ⟨p.dflt, 0, rfl, rfl, by show _ = _; rw [List.drop_eq_nil_of_le (by rw [← HN.out]; exact Nat.le_refl _)]; rfl⟩, Below.refl _ _⟩
  case round =>
    obtain ⟨k, ii, hk, rfl, hii, ⟨x, y, rfl, rfl, hxy⟩, hb⟩ := hrel
    cases k with
    | zero =>
      have g : ¬ (0 : Int) ≤ ii := by have := hii.out; omega
      have HX : Hid (x = P' ∧ y = V') := by
        have h := hxy.out
        rw [List.drop_zero, HK.out] at h
        injection h with h1 h2
        exact ⟨h1.symm, h2.symm⟩
      clear hk
      go_wp2_with fail
      go_ret2
      exact ⟨by rw [← HX.out.1, ← HX.out.2]; rfl, next S.out hb.out⟩
    | succ j =>
      obtain rfl : ii = (j : Int) := by have := hii.out; omega
      have hlt : j < n := by omega
      obtain ⟨r, e1⟩ : ∃ r, l[j]? = some r := ⟨_, List.getElem?_eq_getElem (by rw [← HN.out]; exact hlt)⟩
      have PR : Hid (PB wr w.heap.size p (.slice ad n cap)) := P.out.below hb.out
      have CR : Hid (KB wr (w.heap.size + 1) c) := C.out.below hb.out
      obtain ⟨bl, ol, rfl, hbl, hcell⟩ := Rows.at PR.out.rows rfl 3 (fun _ => rfl) j r (by rw [← HLL.out]; exact e1)
      have cc : ∀ w', Below wr.heap.size wr w' → ∀ i u, (ruC r)[i]? = some u → w'.cell? ⟨bl, ol + j * 4 + i, none⟩ = some u := fun w' h i u hu => (h.cell (p := ⟨bl, ol + j * 4 + i, none⟩) hbl).trans (hcell i u hu)
      have d0 : ∀ w', Below wr.heap.size wr w' → w'.cell? ⟨bl, ol + j * 4, none⟩ = some (.int .i64 r.kind) := fun w' h => cc w' h 0 _ rfl
      have d1 : ∀ w', Below wr.heap.size wr w' → w'.cell? ⟨bl, ol + j * 4 + 1, none⟩ = some (.string (txt r.text)) := fun w' h => cc w' h 1 _ rfl
      have d2 : ∀ w', Below wr.heap.size wr w' → w'.cell? ⟨bl, ol + j * 4 + 2, none⟩ = some (.int .i64 r.purpose) := fun w' h => cc w' h 2 _ rfl
      have d3 : ∀ w', Below wr.heap.size wr w' → w'.cell? ⟨bl, ol + j * 4 + 3, none⟩ = some (.int .i64 r.vendor) := fun w' h => cc w' h 3 _ rfl
      have f0 : ∀ w', Below wr.heap.size wr w' → w'.cell? ⟨w.heap.size, 0, none⟩ = some (.slice (some ⟨bl, ol, none⟩) n cap) := fun w' h => (PR.out.below h).row.cell 0 rfl
      have y0 : ∀ w', Below wr.heap.size wr w' → w'.cell? ⟨w.heap.size + 1, 0, none⟩ = some (.string (txt c.name)) := fun w' h => (CR.out.below h).row.cell 0 rfl
      have y1 : ∀ w', Below wr.heap.size wr w' → w'.cell? ⟨w.heap.size + 1, 1, none⟩ = some (.string (txt c.value)) := fun w' h => (CR.out.below h).row.cell 1 rfl
      have y2 : ∀ w', Below wr.heap.size wr w' → w'.cell? ⟨w.heap.size + 1, 2, none⟩ = some (.string (txt c.domain)) := fun w' h => (CR.out.below h).row.cell 2 rfl
      have y3 : ∀ w', Below wr.heap.size wr w' → w'.cell? ⟨w.heap.size + 1, 3, none⟩ = some (.string (txt c.path)) := fun w' h => (CR.out.below h).row.cell 3 rfl
      have y4 : ∀ w', Below wr.heap.size wr w' → w'.cell? ⟨w.heap.size + 1, 4, none⟩ = some (.bool c.hostOnly) := fun w' h => (CR.out.below h).row.cell 4 rfl
      have y5 : ∀ w', Below wr.heap.size wr w' → w'.cell? ⟨w.heap.size + 1, 5, none⟩ = some (.bool c.secure) := fun w' h => (CR.out.below h).row.cell 5 rfl
      have y6 : ∀ w', Below wr.heap.size wr w' → w'.cell? ⟨w.heap.size + 1, 6, none⟩ = some (.bool c.httpOnly) := fun w' h => (CR.out.below h).row.cell 6 rfl
      have y7 : ∀ w', Below wr.heap.size wr w' → w'.cell? ⟨w.heap.size + 1, 7, none⟩ = some (.bool c.lasting) := fun w' h => (CR.out.below h).row.cell 7 rfl
      have y8 : ∀ w', Below wr.heap.size wr w' → w'.cell? ⟨w.heap.size + 1, 8, none⟩ = some (.int .i64 c.site) := fun w' h => (CR.out.below h).row.cell 8 rfl
      have y9 : ∀ w', Below wr.heap.size wr w' → w'.cell? ⟨w.heap.size + 1, 9, none⟩ = some (.int .i64 c.expiry) := fun w' h => (CR.out.below h).row.cell 9 rfl
      have y10 : ∀ w', Below wr.heap.size wr w' → w'.cell? ⟨w.heap.size + 1, 10, none⟩ = some (.int .i64 c.created) := fun w' h => (CR.out.below h).row.cell 10 rfl
      have y11 : ∀ w', Below wr.heap.size wr w' → w'.cell? ⟨w.heap.size + 1, 11, none⟩ = some (.int .i64 c.used) := fun w' h => (CR.out.below h).row.cell 11 rfl
      have y12 : ∀ w', Below wr.heap.size wr w' → w'.cell? ⟨w.heap.size + 1, 12, none⟩ = some (.int .i64 c.no) := fun w' h => (CR.out.below h).row.cell 12 rfl
      obtain ⟨nm, hnm⟩ : ∃ b, b = namesR r c := ⟨_, rfl⟩
      have KR : Hid (∀ w', Calls Try.prog 17 #[.agg #[.int .i64 r.kind, .string (txt r.text), .int .i64 r.purpose, .int .i64 r.vendor], .agg #[.string (txt c.name), .string (txt c.value), .string (txt c.domain), .string (txt c.path), .bool c.hostOnly, .bool c.secure, .bool c.httpOnly, .bool c.lasting, .int .i64 c.site, .int .i64 c.expiry, .int .i64 c.created, .int .i64 c.used, .int .i64 c.no]] w' fun e w'' => e = .returned (.bool nm) ∧ Below w'.heap.size w' w'') := by rw [hnm]; exact KN.out r (List.mem_of_getElem? e1)
      have HD : Hid ((if nm then (r.purpose, r.vendor) else (x, y)) = kindL (l.drop j) p.dflt c) := by show _ = _; rw [kindL_drop l p.dflt c j r e1, hnm, hxy.out]
      have f0r := f0 wr (Below.refl _ _)
      have hj0 : (0 : Int) ≤ (j : Int) := by omega
      have hj1 : (j : Int) < (n : Int) := by omega
      have CC2 : Hid _ := cc
      clear e1 hcell hbl cc hnm hii hxy
      go_upto_region 5 with fail
      go_region_held3 (fun w' => Below wr.heap.size wr w') (first | assumption | exact (Below.refl _ wr).drew | exact Below.drew (by assumption) | fail)
        (first
        | (go_at_call 17; refine (KR.out _).mono ?_; rintro e w1 ⟨rfl, hbN⟩; have hX1 : Below wr.heap.size wr w1 := Below.trans (by first | assumption | exact (Below.refl _ wr).drew) (hbN.mono (Below.size (by first | assumption | exact (Below.refl _ wr).drew))); clear hbN)
        | fail)
      cases nm
      · have H2 : Hid (kindL (l.drop j) p.dflt c = (x, y)) := HD.out.symm
        have HB1 : Hid (Below W0.heap.size W0 w1) := next hb.out hX1
        clear hX1 d0 d1 d2 d3 f0 f0r y0 y1 y2 y3 y4 y5 y6 y7 y8 y9 y10 y11 y12
        go_wp2_with fail
        go_roundw
        case rel => exact ⟨j, (j : Int) - 1, by omega, by go_num, rfl, ⟨x, y, rfl, rfl, H2⟩, HB1⟩
        case measure => first | (simp [intOf]; done) | (simp [intOf]; omega)
      · have H2 : Hid (kindL (l.drop j) p.dflt c = (r.purpose, r.vendor)) := HD.out.symm
        have HB1 : Hid (Below W0.heap.size W0 (w1.drewN 1)) := (next hb.out hX1).trans (below_drewN' _ _ _)
        have HB1' : Hid (Below W0.heap.size W0 w1) := next hb.out hX1
        have z0 := f0 w1 hX1
        have z2 := d2 w1 hX1
        have z3 := d3 w1 hX1
        clear hX1 d0 d1 d2 d3 f0 f0r y0 y1 y2 y3 y4 y5 y6 y7 y8 y9 y10 y11 y12
        go_wp2_with fail
        go_quiet (fail)
        go_wp2_with fail
        go_roundw
        case rel => exact ⟨j, (j : Int) - 1, by omega, by go_num, rfl, ⟨r.purpose, r.vendor, rfl, rfl, H2⟩, HB1'.out.trans (below_drewN' _ _ _)⟩
        case measure => first | (simp [intOf]; done) | (simp [intOf]; omega)
end Go.Proofs.Ytmjcgkjkhpjgbaa
