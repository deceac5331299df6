/- The contracts of namerOf, and of Kind. -/
import Derived.Test.YtcfdajaideidkaaPolicyA
import Derived.BigQuiet
import Derived.Deep.RegionHeld3
import Derived.Deep.Cut
import Derived.Deep.CutRange
import Derived.Deep.RegionWith
namespace Go.Proofs.Ytcfdajaideidkaa
open Go.RowKit
set_option linter.all false
set_option maxRecDepth 100000
set_option maxRecDepth 100000

set_option maxHeartbeats 1000000 in
theorem namer1_any (r : Ru) (w : World) (h : r.kind = 1) :
    Calls Try.prog 61 #[.agg #[.int .i64 r.kind, .string (txt r.text), .int .i64 r.purpose, .int .i64 r.vendor]] w fun e w' => e = .returned (.tuple #[.iface 102 (.func (.func 71) #[] #[.pointer (some ⟨w.heap.size, 0, none⟩)]), .bool true]) ∧ w' = w.alloc (.cells #[.int .i64 r.kind, .string (txt r.text), .int .i64 r.purpose, .int .i64 r.vendor] 83) := by
  have n1 : (r.kind == 1) = true := by rw [h]; rfl
  have n2 : (r.kind == 2) = false := by rw [h]; rfl
  have n3 : (r.kind == 3) = false := by rw [h]; rfl
  have n4 : (r.kind == 4) = false := by rw [h]; rfl
  clear h
  go_enter Try.func61, Try.ntmps61
  go_wp2_with fail
  go_ret2
  exact ⟨rfl, rfl⟩
set_option maxHeartbeats 1000000 in
theorem namer2_any (r : Ru) (w : World) (h : r.kind = 2) :
    Calls Try.prog 61 #[.agg #[.int .i64 r.kind, .string (txt r.text), .int .i64 r.purpose, .int .i64 r.vendor]] w fun e w' => e = .returned (.tuple #[.iface 102 (.func (.func 72) #[] #[.pointer (some ⟨w.heap.size, 0, none⟩)]), .bool true]) ∧ w' = w.alloc (.cells #[.int .i64 r.kind, .string (txt r.text), .int .i64 r.purpose, .int .i64 r.vendor] 83) := by
  have n1 : (r.kind == 1) = false := by rw [h]; rfl
  have n2 : (r.kind == 2) = true := by rw [h]; rfl
  have n3 : (r.kind == 3) = false := by rw [h]; rfl
  have n4 : (r.kind == 4) = false := by rw [h]; rfl
  clear h
  go_enter Try.func61, Try.ntmps61
  go_wp2_with fail
  go_ret2
  exact ⟨rfl, rfl⟩
set_option maxHeartbeats 1000000 in
theorem namer3_any (r : Ru) (w : World) (h : r.kind = 3) :
    Calls Try.prog 61 #[.agg #[.int .i64 r.kind, .string (txt r.text), .int .i64 r.purpose, .int .i64 r.vendor]] w fun e w' => e = .returned (.tuple #[.iface 102 (.func (.func 74) #[] #[.pointer (some ⟨w.heap.size, 0, none⟩)]), .bool true]) ∧ w' = w.alloc (.cells #[.int .i64 r.kind, .string (txt r.text), .int .i64 r.purpose, .int .i64 r.vendor] 83) := by
  have n1 : (r.kind == 1) = false := by rw [h]; rfl
  have n2 : (r.kind == 2) = false := by rw [h]; rfl
  have n3 : (r.kind == 3) = true := by rw [h]; rfl
  have n4 : (r.kind == 4) = false := by rw [h]; rfl
  clear h
  go_enter Try.func61, Try.ntmps61
  go_wp2_with fail
  go_ret2
  exact ⟨rfl, rfl⟩
set_option maxHeartbeats 1000000 in
theorem namer4_any (r : Ru) (w : World) (h : r.kind = 4) :
    Calls Try.prog 61 #[.agg #[.int .i64 r.kind, .string (txt r.text), .int .i64 r.purpose, .int .i64 r.vendor]] w fun e w' => e = .returned (.tuple #[.iface 103 (.string (txt r.text)), .bool true]) ∧ w' = w.alloc (.cells #[.int .i64 r.kind, .string (txt r.text), .int .i64 r.purpose, .int .i64 r.vendor] 83) := by
  have n1 : (r.kind == 1) = false := by rw [h]; rfl
  have n2 : (r.kind == 2) = false := by rw [h]; rfl
  have n3 : (r.kind == 3) = false := by rw [h]; rfl
  have n4 : (r.kind == 4) = true := by rw [h]; rfl
  clear h
  go_enter Try.func61, Try.ntmps61
  go_wp2_with fail
  go_ret2
  exact ⟨rfl, rfl⟩
set_option maxHeartbeats 1000000 in
theorem namer0_any (r : Ru) (w : World) (h1 : ¬ r.kind = 1) (h2 : ¬ r.kind = 2) (h3 : ¬ r.kind = 3) (h4 : ¬ r.kind = 4) :
    Calls Try.prog 61 #[.agg #[.int .i64 r.kind, .string (txt r.text), .int .i64 r.purpose, .int .i64 r.vendor]] w fun e w' => e = .returned (.tuple #[.nilIface, .bool false]) ∧ w' = w.alloc (.cells #[.int .i64 r.kind, .string (txt r.text), .int .i64 r.purpose, .int .i64 r.vendor] 83) := by
  have n1 : (r.kind == 1) = false := by rw [beq_eq_false_iff_ne]; exact h1
  have n2 : (r.kind == 2) = false := by rw [beq_eq_false_iff_ne]; exact h2
  have n3 : (r.kind == 3) = false := by rw [beq_eq_false_iff_ne]; exact h3
  have n4 : (r.kind == 4) = false := by rw [beq_eq_false_iff_ne]; exact h4
  clear h1 h2 h3 h4
  go_enter Try.func61, Try.ntmps61
  go_wp2_with fail
  go_ret2
  exact ⟨rfl, rfl⟩
set_option maxHeartbeats 8000000 in
theorem kind_any (p : Po) (v : Value) (c : Ck) (w : World) (hr : Rows w v ruC p.rules) (hm : p.rules.length ≤ 140737488351232) (ho : ∀ r ∈ p.rules, RuOk 140737488351232 r) (hc : CkOk 140737488351232 c) :
    Calls Try.prog 40 #[.agg #[v, .int .i64 p.dflt, .int .i64 p.c0, .int .i64 p.c1, .int .i64 p.c2, .int .i64 p.c3, .int .i64 p.c4, .int .i64 p.c5, .int .i64 p.c6, .int .i64 p.c7, .int .i64 p.c8, .int .i64 p.c9, .int .i64 p.c10], .agg (ckC c).toArray] w fun e w' => e = .returned (.tuple #[.int .i64 (kindP p c).1, .int .i64 (kindP p c).2]) ∧ Below w.heap.size w w' := by
  obtain ⟨ad, cap, rfl⟩ := hr.shape
  obtain ⟨P, hP⟩ : ∃ P, P = (kindP p c).1 := ⟨_, rfl⟩
  obtain ⟨V, hV⟩ : ∃ V, V = (kindP p c).2 := ⟨_, rfl⟩
  rw [← hP, ← hV]
  obtain ⟨l, hl⟩ : ∃ l, l = p.rules := ⟨_, rfl⟩
  rw [← hl] at hr hm ho ⊢
  obtain ⟨d, hd⟩ : ∃ d, d = p.dflt := ⟨_, rfl⟩
  have HK : Hid (kindL l d c = (P, V)) := by show _ = _; rw [hl, hd, hP, hV]; rfl
  obtain ⟨n, hn⟩ : ∃ n, n = l.length := ⟨_, rfl⟩
  have HN : Hid _ := hn
  rw [← hn] at hm ⊢
  have HR : Hid (Rows w (.slice ad n cap) ruC l) := by rw [HN.out]; exact hr
  have HO : Hid _ := ho
  have HC : Hid _ := hc
  obtain ⟨W0, hW0⟩ : ∃ W0, W0 = (w.alloc (.cells #[.slice ad n cap, .int .i64 p.dflt, .int .i64 p.c0, .int .i64 p.c1, .int .i64 p.c2, .int .i64 p.c3, .int .i64 p.c4, .int .i64 p.c5, .int .i64 p.c6, .int .i64 p.c7, .int .i64 p.c8, .int .i64 p.c9, .int .i64 p.c10] 28)).alloc (.cells (ckC c).toArray 34) := ⟨_, rfl⟩
  have HB0 : Hid (Below w.heap.size w W0) := by rw [hW0]; exact next ((Below.refl _ w).alloc (Nat.le_refl _) _) ((Below.refl _ _).alloc (Nat.le_refl _) _)
  have HLP : Hid (LRow W0 w.heap.size (poL p (.slice ad n cap))) := by
    rw [hW0]
    exact (LRow.new w (poL p (.slice ad n cap)) 28).below ((Below.refl _ _).alloc (Nat.le_refl _) _) (by simp)
  have HLC : Hid (LRow W0 (w.heap.size + 1) (ckC c)) := by
    rw [hW0]
    have h := LRow.new (w.alloc (.cells #[.slice ad n cap, .int .i64 p.dflt, .int .i64 p.c0, .int .i64 p.c1, .int .i64 p.c2, .int .i64 p.c3, .int .i64 p.c4, .int .i64 p.c5, .int .i64 p.c6, .int .i64 p.c7, .int .i64 p.c8, .int .i64 p.c9, .int .i64 p.c10] 28)) (ckC c) 34
    rw [show (w.alloc (.cells #[.slice ad n cap, .int .i64 p.dflt, .int .i64 p.c0, .int .i64 p.c1, .int .i64 p.c2, .int .i64 p.c3, .int .i64 p.c4, .int .i64 p.c5, .int .i64 p.c6, .int .i64 p.c7, .int .i64 p.c8, .int .i64 p.c9, .int .i64 p.c10] 28)).heap.size = w.heap.size + 1 from by simp] at h
    exact h
  have HLT : Hid (w.heap.size + 1 < W0.heap.size) := by show _ < _; rw [hW0]; simp
  have HD : Hid (d = p.dflt) := hd
  clear hP hV hn hr ho hc hl hd
  simp only [ckC] at hW0 ⊢
  have HW0 : Hid _ := hW0
  clear hW0
  go_enter Try.func40, Try.ntmps40
  go_upto_region 1 with fail
  rw [← HW0.out]
  clear HW0
  have p0 := HLP.out.cell 0 rfl
  go_wp2_with fail
  clear p0
  go_loopw [13] (fun i wr => ∃ k : Nat, k ≤ n ∧ i = .int .i64 k ∧ Hid (kindL (l.drop k) d c = (P, V)) ∧ Hid (Below W0.heap.size W0 wr)) (fun i _ => n - (intOf i).toNat)
  case atStart => exact ⟨0, Nat.zero_le _, rfl, HK, Below.refl _ _⟩
  case round =>
    obtain ⟨k, hk, rfl, hkd, hb⟩ := hrel
    by_cases hlt : k < n
    · obtain ⟨r, e1⟩ : ∃ r, l[k]? = some r := ⟨_, List.getElem?_eq_getElem (by rw [← HN.out]; exact hlt)⟩
      obtain ⟨bl, ol, rfl, hbl, hcell⟩ := Rows.at HR.out rfl 3 (fun _ => rfl) k r e1
      have cc : ∀ i u, (ruC r)[i]? = some u → wr.cell? ⟨bl, ol + k * 4 + i, none⟩ = some u := fun i u h => by
        have h1 := (HB0.out.cell (p := ⟨bl, ol + k * 4 + i, none⟩) hbl).trans (hcell i u h)
        exact (hb.out.cell (p := ⟨bl, ol + k * 4 + i, none⟩) (cell_in h1)).trans h1
      have c0 := cc 0 _ rfl
      have c1 := cc 1 _ rfl
      have c2 := cc 2 _ rfl
      have c3 := cc 3 _ rfl
      rw [Nat.add_zero] at c0
      have HRO : Hid (RuOk 140737488351232 r) := HO.out r (List.mem_of_getElem? e1)
      have HKN : Hid ((if namesR r c then (r.purpose, r.vendor) else kindL (l.drop (k + 1)) d c) = (P, V)) := by show _ = _; rw [← kindL_drop l d c k r e1]; exact hkd.out
      have CC0 : Hid (LRow wr (w.heap.size + 1) (ckC c)) := HLC.out.below hb.out HLT.out
      have RB : Hid (LRow (wr.alloc (.cells #[.int .i64 r.kind, .string (txt r.text), .int .i64 r.purpose, .int .i64 r.vendor] 83)) wr.heap.size (ruC r)) := LRow.new wr (ruC r) 83
      have BB : Hid (Below wr.heap.size wr (wr.alloc (.cells #[.int .i64 r.kind, .string (txt r.text), .int .i64 r.purpose, .int .i64 r.vendor] 83))) := (Below.refl _ wr).alloc (Nat.le_refl _) _
      clear e1 hcell hbl cc hkd
      go_wp2_with fail
      obtain ⟨W1, hW1⟩ : ∃ W1, W1 = wr.alloc (.cells #[.int .i64 r.kind, .string (txt r.text), .int .i64 r.purpose, .int .i64 r.vendor] 83) := ⟨_, rfl⟩
      rw [← hW1] at RB BB ⊢
      have RBL : Hid (wr.heap.size < W1.heap.size) := by show _ < _; rw [hW1]; simp
      have CL0 : Hid (w.heap.size + 1 < wr.heap.size) := Nat.lt_of_lt_of_le HLT.out hb.out.size
      clear hW1 c0 c1 c2 c3
      by_cases h1 : r.kind = 1
      · have hx : namesR r c = (c.name == r.text) := by unfold namesR; rw [if_pos h1]
        obtain ⟨x, hxx⟩ : ∃ x, x = (c.name == r.text) := ⟨_, rfl⟩
        rw [← hxx] at hx
        refine (namer1_any r _ h1).mono ?_
        clear h1
        have HX : Hid _ := hxx
        have HKX : Hid ((if x then (r.purpose, r.vendor) else kindL (l.drop (k + 1)) d c) = (P, V)) := by show _ = _; rw [← hx]; exact HKN.out
        clear hx hxx HKN
        rintro e w2 ⟨rfl, hw2⟩
        obtain ⟨B, hB⟩ : ∃ B, B = W1.heap.size := ⟨_, rfl⟩
        rw [← hB]
        have RB2 : Hid (LRow w2 B (ruC r)) := by rw [hw2, hB]; exact LRow.new W1 (ruC r) 83
        have BL2 : Hid (B < w2.heap.size) := by show _ < _; rw [hw2, hB]; simp
        have S2 : Below W1.heap.size W1 w2 := by rw [hw2]; exact (Below.refl _ W1).alloc (Nat.le_refl _) _
        have T2 : Hid (Below wr.heap.size wr w2) := next BB S2
        have R2 : Hid (LRow w2 wr.heap.size (ruC r)) := RB.below S2 RBL.out
        have CC : Hid (LRow w2 (w.heap.size + 1) (ckC c)) := CC0.out.below T2.out CL0.out
        have KN : Hid (Calls Try.prog 114 #[.func (.func 71) #[] #[.pointer (some ⟨B, 0, none⟩)], .agg #[.string (txt c.name), .string (txt c.value), .string (txt c.domain), .string (txt c.path), .bool c.hostOnly, .bool c.secure, .bool c.httpOnly, .bool c.lasting, .int .i64 c.site, .int .i64 c.expiry, .int .i64 c.created, .int .i64 c.used, .int .i64 c.no]] w2 fun e w' => e = .returned (.bool x) ∧ Below w2.heap.size w2 w') := by
          have h := byName_any 71 B c x w2 (fun _ _ => by kernel_rfl) (fun w' h => by rw [HX.out]; exact cl1_any B c.name r.text w' ((RB2.out.below h BL2.out).cell 1 rfl))
          exact h
        clear hB hw2 S2 RB BB
        have x0 := CC.out.cell 0 rfl
        have x1 := CC.out.cell 1 rfl
        have x2 := CC.out.cell 2 rfl
        have x3 := CC.out.cell 3 rfl
        have x4 := CC.out.cell 4 rfl
        have x5 := CC.out.cell 5 rfl
        have x6 := CC.out.cell 6 rfl
        have x7 := CC.out.cell 7 rfl
        have x8 := CC.out.cell 8 rfl
        have x9 := CC.out.cell 9 rfl
        have x10 := CC.out.cell 10 rfl
        have x11 := CC.out.cell 11 rfl
        have x12 := CC.out.cell 12 rfl
        have hm : ∀ w' : World, (method 150 102 (.func (.func 71) #[] #[.pointer (some ⟨B, 0, none⟩)]) "gingersnap/policy.names").run Try.prog w' = .ok (114, (.func (.func 71) #[] #[.pointer (some ⟨B, 0, none⟩)])) w' := fun _ => by kernel_rfl
        go_wp2_with fail
        refine KN.out.mono ?_
        rintro e w3 ⟨rfl, hb3⟩
        clear x0 x1 x2 x3 x4 x5 x6 x7 x8 x9 x10 x11 x12
        clear hm
        cases x
        · have HK3 : Hid (kindL (l.drop (k + 1)) d c = (P, V)) := HKX.out
          have HB3 : Hid (Below W0.heap.size W0 w3) := next hb.out (next T2.out hb3)
          clear hb3 KN RB2 R2 CC T2
          go_wp2_with fail
          go_roundw
          case rel => exact ⟨k + 1, by omega, by go_num, HK3, HB3⟩
          case measure => simp [intOf]; omega
        · have HPV : Hid (P = r.purpose ∧ V = r.vendor) := by
            have h := HKX.out
            simp only [if_true, Prod.mk.injEq] at h
            exact ⟨h.1.symm, h.2.symm⟩
          have R3 : Hid (LRow w3 wr.heap.size (ruC r)) := R2.out.below hb3 (cell_in (R2.out.cell 0 rfl))
          have HB3 : Hid (Below w.heap.size w w3) := next HB0.out (next hb.out (next T2.out hb3))
          have y2 := R3.out.cell 2 rfl
          have y3 := R3.out.cell 3 rfl
          clear hb3 KN RB2 R2 CC T2
          go_wp2_with fail
          go_quiet (fail)
          go_wp2_with fail
          go_ret2
          exact ⟨by rw [HPV.out.1, HPV.out.2]; rfl, HB3.out.trans ⟨rfl, rfl, rfl, Nat.le_refl _, fun _ _ => rfl⟩⟩
      by_cases h2 : r.kind = 2
      · have hx : namesR r c = (Lib.hasPrefix c.name r.text) := by unfold namesR; rw [if_neg h1]; rw [if_pos h2]
        obtain ⟨x, hxx⟩ : ∃ x, x = (Lib.hasPrefix c.name r.text) := ⟨_, rfl⟩
        rw [← hxx] at hx
        refine (namer2_any r _ h2).mono ?_
        clear h1 h2
        have HX : Hid _ := hxx
        have HKX : Hid ((if x then (r.purpose, r.vendor) else kindL (l.drop (k + 1)) d c) = (P, V)) := by show _ = _; rw [← hx]; exact HKN.out
        clear hx hxx HKN
        rintro e w2 ⟨rfl, hw2⟩
        obtain ⟨B, hB⟩ : ∃ B, B = W1.heap.size := ⟨_, rfl⟩
        rw [← hB]
        have RB2 : Hid (LRow w2 B (ruC r)) := by rw [hw2, hB]; exact LRow.new W1 (ruC r) 83
        have BL2 : Hid (B < w2.heap.size) := by show _ < _; rw [hw2, hB]; simp
        have S2 : Below W1.heap.size W1 w2 := by rw [hw2]; exact (Below.refl _ W1).alloc (Nat.le_refl _) _
        have T2 : Hid (Below wr.heap.size wr w2) := next BB S2
        have R2 : Hid (LRow w2 wr.heap.size (ruC r)) := RB.below S2 RBL.out
        have CC : Hid (LRow w2 (w.heap.size + 1) (ckC c)) := CC0.out.below T2.out CL0.out
        have KN : Hid (Calls Try.prog 114 #[.func (.func 72) #[] #[.pointer (some ⟨B, 0, none⟩)], .agg #[.string (txt c.name), .string (txt c.value), .string (txt c.domain), .string (txt c.path), .bool c.hostOnly, .bool c.secure, .bool c.httpOnly, .bool c.lasting, .int .i64 c.site, .int .i64 c.expiry, .int .i64 c.created, .int .i64 c.used, .int .i64 c.no]] w2 fun e w' => e = .returned (.bool x) ∧ Below w2.heap.size w2 w') := by
          have h := byName_any 72 B c x w2 (fun _ _ => by kernel_rfl) (fun w' h => by rw [HX.out]; exact cl2_any B c.name r.text w' ((RB2.out.below h BL2.out).cell 1 rfl) (by have := HC.out.name; unfold maxLen; omega))
          exact h
        clear hB hw2 S2 RB BB
        have x0 := CC.out.cell 0 rfl
        have x1 := CC.out.cell 1 rfl
        have x2 := CC.out.cell 2 rfl
        have x3 := CC.out.cell 3 rfl
        have x4 := CC.out.cell 4 rfl
        have x5 := CC.out.cell 5 rfl
        have x6 := CC.out.cell 6 rfl
        have x7 := CC.out.cell 7 rfl
        have x8 := CC.out.cell 8 rfl
        have x9 := CC.out.cell 9 rfl
        have x10 := CC.out.cell 10 rfl
        have x11 := CC.out.cell 11 rfl
        have x12 := CC.out.cell 12 rfl
        have hm : ∀ w' : World, (method 150 102 (.func (.func 72) #[] #[.pointer (some ⟨B, 0, none⟩)]) "gingersnap/policy.names").run Try.prog w' = .ok (114, (.func (.func 72) #[] #[.pointer (some ⟨B, 0, none⟩)])) w' := fun _ => by kernel_rfl
        go_wp2_with fail
        refine KN.out.mono ?_
        rintro e w3 ⟨rfl, hb3⟩
        clear x0 x1 x2 x3 x4 x5 x6 x7 x8 x9 x10 x11 x12
        clear hm
        cases x
        · have HK3 : Hid (kindL (l.drop (k + 1)) d c = (P, V)) := HKX.out
          have HB3 : Hid (Below W0.heap.size W0 w3) := next hb.out (next T2.out hb3)
          clear hb3 KN RB2 R2 CC T2
          go_wp2_with fail
          go_roundw
          case rel => exact ⟨k + 1, by omega, by go_num, HK3, HB3⟩
          case measure => simp [intOf]; omega
        · have HPV : Hid (P = r.purpose ∧ V = r.vendor) := by
            have h := HKX.out
            simp only [if_true, Prod.mk.injEq] at h
            exact ⟨h.1.symm, h.2.symm⟩
          have R3 : Hid (LRow w3 wr.heap.size (ruC r)) := R2.out.below hb3 (cell_in (R2.out.cell 0 rfl))
          have HB3 : Hid (Below w.heap.size w w3) := next HB0.out (next hb.out (next T2.out hb3))
          have y2 := R3.out.cell 2 rfl
          have y3 := R3.out.cell 3 rfl
          clear hb3 KN RB2 R2 CC T2
          go_wp2_with fail
          go_quiet (fail)
          go_wp2_with fail
          go_ret2
          exact ⟨by rw [HPV.out.1, HPV.out.2]; rfl, HB3.out.trans ⟨rfl, rfl, rfl, Nat.le_refl _, fun _ _ => rfl⟩⟩
      by_cases h3 : r.kind = 3
      · have hx : namesR r c = (Lib.hasSuffix c.name r.text) := by unfold namesR; rw [if_neg h1]; rw [if_neg h2]; rw [if_pos h3]
        obtain ⟨x, hxx⟩ : ∃ x, x = (Lib.hasSuffix c.name r.text) := ⟨_, rfl⟩
        rw [← hxx] at hx
        refine (namer3_any r _ h3).mono ?_
        clear h1 h2 h3
        have HX : Hid _ := hxx
        have HKX : Hid ((if x then (r.purpose, r.vendor) else kindL (l.drop (k + 1)) d c) = (P, V)) := by show _ = _; rw [← hx]; exact HKN.out
        clear hx hxx HKN
        rintro e w2 ⟨rfl, hw2⟩
        obtain ⟨B, hB⟩ : ∃ B, B = W1.heap.size := ⟨_, rfl⟩
        rw [← hB]
        have RB2 : Hid (LRow w2 B (ruC r)) := by rw [hw2, hB]; exact LRow.new W1 (ruC r) 83
        have BL2 : Hid (B < w2.heap.size) := by show _ < _; rw [hw2, hB]; simp
        have S2 : Below W1.heap.size W1 w2 := by rw [hw2]; exact (Below.refl _ W1).alloc (Nat.le_refl _) _
        have T2 : Hid (Below wr.heap.size wr w2) := next BB S2
        have R2 : Hid (LRow w2 wr.heap.size (ruC r)) := RB.below S2 RBL.out
        have CC : Hid (LRow w2 (w.heap.size + 1) (ckC c)) := CC0.out.below T2.out CL0.out
        have KN : Hid (Calls Try.prog 114 #[.func (.func 74) #[] #[.pointer (some ⟨B, 0, none⟩)], .agg #[.string (txt c.name), .string (txt c.value), .string (txt c.domain), .string (txt c.path), .bool c.hostOnly, .bool c.secure, .bool c.httpOnly, .bool c.lasting, .int .i64 c.site, .int .i64 c.expiry, .int .i64 c.created, .int .i64 c.used, .int .i64 c.no]] w2 fun e w' => e = .returned (.bool x) ∧ Below w2.heap.size w2 w') := by
          have h := byName_any 74 B c x w2 (fun _ _ => by kernel_rfl) (fun w' h => by rw [HX.out]; exact cl3_any B c.name r.text w' ((RB2.out.below h BL2.out).cell 1 rfl) (by have := HC.out.name; unfold maxLen; omega))
          exact h
        clear hB hw2 S2 RB BB
        have x0 := CC.out.cell 0 rfl
        have x1 := CC.out.cell 1 rfl
        have x2 := CC.out.cell 2 rfl
        have x3 := CC.out.cell 3 rfl
        have x4 := CC.out.cell 4 rfl
        have x5 := CC.out.cell 5 rfl
        have x6 := CC.out.cell 6 rfl
        have x7 := CC.out.cell 7 rfl
        have x8 := CC.out.cell 8 rfl
        have x9 := CC.out.cell 9 rfl
        have x10 := CC.out.cell 10 rfl
        have x11 := CC.out.cell 11 rfl
        have x12 := CC.out.cell 12 rfl
        have hm : ∀ w' : World, (method 150 102 (.func (.func 74) #[] #[.pointer (some ⟨B, 0, none⟩)]) "gingersnap/policy.names").run Try.prog w' = .ok (114, (.func (.func 74) #[] #[.pointer (some ⟨B, 0, none⟩)])) w' := fun _ => by kernel_rfl
        go_wp2_with fail
        refine KN.out.mono ?_
        rintro e w3 ⟨rfl, hb3⟩
        clear x0 x1 x2 x3 x4 x5 x6 x7 x8 x9 x10 x11 x12
        clear hm
        cases x
        · have HK3 : Hid (kindL (l.drop (k + 1)) d c = (P, V)) := HKX.out
          have HB3 : Hid (Below W0.heap.size W0 w3) := next hb.out (next T2.out hb3)
          clear hb3 KN RB2 R2 CC T2
          go_wp2_with fail
          go_roundw
          case rel => exact ⟨k + 1, by omega, by go_num, HK3, HB3⟩
          case measure => simp [intOf]; omega
        · have HPV : Hid (P = r.purpose ∧ V = r.vendor) := by
            have h := HKX.out
            simp only [if_true, Prod.mk.injEq] at h
            exact ⟨h.1.symm, h.2.symm⟩
          have R3 : Hid (LRow w3 wr.heap.size (ruC r)) := R2.out.below hb3 (cell_in (R2.out.cell 0 rfl))
          have HB3 : Hid (Below w.heap.size w w3) := next HB0.out (next hb.out (next T2.out hb3))
          have y2 := R3.out.cell 2 rfl
          have y3 := R3.out.cell 3 rfl
          clear hb3 KN RB2 R2 CC T2
          go_wp2_with fail
          go_quiet (fail)
          go_wp2_with fail
          go_ret2
          exact ⟨by rw [HPV.out.1, HPV.out.2]; rfl, HB3.out.trans ⟨rfl, rfl, rfl, Nat.le_refl _, fun _ _ => rfl⟩⟩
      by_cases h4 : r.kind = 4
      · have hx : namesR r c = (matchL c.domain r.text) := by unfold namesR; rw [if_neg h1]; rw [if_neg h2]; rw [if_neg h3]; rw [if_pos h4]
        obtain ⟨x, hxx⟩ : ∃ x, x = (matchL c.domain r.text) := ⟨_, rfl⟩
        rw [← hxx] at hx
        refine (namer4_any r _ h4).mono ?_
        clear h1 h2 h3 h4
        have HX : Hid _ := hxx
        have HKX : Hid ((if x then (r.purpose, r.vendor) else kindL (l.drop (k + 1)) d c) = (P, V)) := by show _ = _; rw [← hx]; exact HKN.out
        clear hx hxx HKN
        rintro e w2 ⟨rfl, hw2⟩
        obtain ⟨B, hB⟩ : ∃ B, B = W1.heap.size := ⟨_, rfl⟩
        have RB2 : Hid (LRow w2 B (ruC r)) := by rw [hw2, hB]; exact LRow.new W1 (ruC r) 83
        have BL2 : Hid (B < w2.heap.size) := by show _ < _; rw [hw2, hB]; simp
        have S2 : Below W1.heap.size W1 w2 := by rw [hw2]; exact (Below.refl _ W1).alloc (Nat.le_refl _) _
        have T2 : Hid (Below wr.heap.size wr w2) := next BB S2
        have R2 : Hid (LRow w2 wr.heap.size (ruC r)) := RB.below S2 RBL.out
        have CC : Hid (LRow w2 (w.heap.size + 1) (ckC c)) := CC0.out.below T2.out CL0.out
        have KN : Hid (Calls Try.prog 115 #[.string (txt r.text), .agg #[.string (txt c.name), .string (txt c.value), .string (txt c.domain), .string (txt c.path), .bool c.hostOnly, .bool c.secure, .bool c.httpOnly, .bool c.lasting, .int .i64 c.site, .int .i64 c.expiry, .int .i64 c.created, .int .i64 c.used, .int .i64 c.no]] w2 fun e w' => e = .returned (.bool x) ∧ Below w2.heap.size w2 w') := by
          have h := byDomain_any c r.text w2 (by have := HC.out.domain; unfold maxLen; omega) (by have := HRO.out.text; unfold maxLen; omega)
          rw [← HX.out] at h
          exact h
        clear hB hw2 S2 RB BB
        have x0 := CC.out.cell 0 rfl
        have x1 := CC.out.cell 1 rfl
        have x2 := CC.out.cell 2 rfl
        have x3 := CC.out.cell 3 rfl
        have x4 := CC.out.cell 4 rfl
        have x5 := CC.out.cell 5 rfl
        have x6 := CC.out.cell 6 rfl
        have x7 := CC.out.cell 7 rfl
        have x8 := CC.out.cell 8 rfl
        have x9 := CC.out.cell 9 rfl
        have x10 := CC.out.cell 10 rfl
        have x11 := CC.out.cell 11 rfl
        have x12 := CC.out.cell 12 rfl
        have hm : ∀ w' : World, (method 150 103 (.string (txt r.text)) "gingersnap/policy.names").run Try.prog w' = .ok (115, (.string (txt r.text))) w' := fun _ => by kernel_rfl
        go_wp2_with fail
        refine KN.out.mono ?_
        rintro e w3 ⟨rfl, hb3⟩
        clear x0 x1 x2 x3 x4 x5 x6 x7 x8 x9 x10 x11 x12
        clear hm
        cases x
        · have HK3 : Hid (kindL (l.drop (k + 1)) d c = (P, V)) := HKX.out
          have HB3 : Hid (Below W0.heap.size W0 w3) := next hb.out (next T2.out hb3)
          clear hb3 KN RB2 R2 CC T2
          go_wp2_with fail
          go_roundw
          case rel => exact ⟨k + 1, by omega, by go_num, HK3, HB3⟩
          case measure => simp [intOf]; omega
        · have HPV : Hid (P = r.purpose ∧ V = r.vendor) := by
            have h := HKX.out
            simp only [if_true, Prod.mk.injEq] at h
            exact ⟨h.1.symm, h.2.symm⟩
          have R3 : Hid (LRow w3 wr.heap.size (ruC r)) := R2.out.below hb3 (cell_in (R2.out.cell 0 rfl))
          have HB3 : Hid (Below w.heap.size w w3) := next HB0.out (next hb.out (next T2.out hb3))
          have y2 := R3.out.cell 2 rfl
          have y3 := R3.out.cell 3 rfl
          clear hb3 KN RB2 R2 CC T2
          go_wp2_with fail
          go_quiet (fail)
          go_wp2_with fail
          go_ret2
          exact ⟨by rw [HPV.out.1, HPV.out.2]; rfl, HB3.out.trans ⟨rfl, rfl, rfl, Nat.le_refl _, fun _ _ => rfl⟩⟩
      have HKX : Hid (kindL (l.drop (k + 1)) d c = (P, V)) := by
        have h := HKN.out
        have e : namesR r c = false := by unfold namesR; rw [if_neg h1, if_neg h2, if_neg h3, if_neg h4]
        rw [e] at h
        exact h
      refine (namer0_any r _ h1 h2 h3 h4).mono ?_
      clear h1 h2 h3 h4 HKN
      rintro e w2 ⟨rfl, hw2⟩
      have S2 : Below W1.heap.size W1 w2 := by rw [hw2]; exact (Below.refl _ W1).alloc (Nat.le_refl _) _
      have HB3 : Hid (Below W0.heap.size W0 w2) := next hb.out (next BB S2)
      clear hw2 S2 RB BB
      go_wp2_with fail
      go_roundw
      case rel => exact ⟨k + 1, by omega, by go_num, HKX, HB3⟩
      case measure => simp [intOf]; omega
    · have HPV : Hid (P = d ∧ V = 0) := by
        have h := hkd.out
        rw [List.drop_eq_nil_of_le (by rw [← HN.out]; omega), kindL_nil] at h
        simp only [Prod.mk.injEq] at h
        exact ⟨h.1.symm, h.2.symm⟩
      have HB3 : Hid (Below w.heap.size w wr) := next HB0.out hb.out
      have y1 := (HLP.out.below hb.out (Nat.lt_of_succ_lt HLT.out)).cell 1 rfl
      go_wp2_with fail
      go_ret2
      exact ⟨by rw [HPV.out.1, HPV.out.2, HD.out]; rfl, HB3.out⟩
end Go.Proofs.Ytcfdajaideidkaa
