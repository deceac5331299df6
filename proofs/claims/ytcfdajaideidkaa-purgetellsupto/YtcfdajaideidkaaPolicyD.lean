/- The contracts of Lets, and what must be in any case of policies. -/
import Derived.Test.YtcfdajaideidkaaPolicyC
import Derived.Test.YtcfdajaideidkaaGrantC
namespace Go.Proofs.Ytcfdajaideidkaa
open Go.RowKit
set_option linter.all false
set_option maxRecDepth 100000
set_option maxRecDepth 100000

/-- a policy whose rules are not too many, its texts not too long, its numbers the machine's -/
structure PoOk (m : Nat) (p : Po) : Prop where
  len : p.rules.length ≤ m
  rules : ∀ r ∈ p.rules, RuOk m r
  dflt : i64B p.dflt
  caps : ∀ x ∈ p.caps, i64B x
theorem kindP_i64 {p : Po} {m : Nat} (h : PoOk m p) (c : Ck) : i64B (kindP p c).1 ∧ i64B (kindP p c).2 := by
  unfold kindP kindL
  cases hf : p.rules.find? (fun r => namesR r c) with
  | none => exact ⟨h.dflt, by show i64B 0; unfold i64B; omega⟩
  | some r => exact ⟨(h.rules r (List.mem_of_find?_eq_some hf)).purpose, (h.rules r (List.mem_of_find?_eq_some hf)).vendor⟩
def letsP (p : Po) (g : Cn) (c : Ck) : Bool := mayC g (kindP p c).1 (kindP p c).2
set_option maxHeartbeats 4000000 in
theorem lets_any (p : Po) (v : Value) (g : Cn) (gv : Value) (c : Ck) (w : World) (hp : PoOk 140737488351232 p) (hr : Rows w v ruC p.rules) (hg : Rows w gv intF g.vs) (hgm : g.vs.length ≤ maxLen) (hc : CkOk 140737488351232 c) :
    Calls Try.prog 15 #[.agg #[v, .int .i64 p.dflt, .int .i64 p.c0, .int .i64 p.c1, .int .i64 p.c2, .int .i64 p.c3, .int .i64 p.c4, .int .i64 p.c5, .int .i64 p.c6, .int .i64 p.c7, .int .i64 p.c8, .int .i64 p.c9, .int .i64 p.c10], .agg #[.int .i64 g.g, .bool g.b0, .bool g.b1, .bool g.b2, .bool g.b3, .bool g.b4, .bool g.b5, .bool g.b6, .bool g.b7, .bool g.b8, .bool g.b9, gv], .agg #[.string (txt c.name), .string (txt c.value), .string (txt c.domain), .string (txt c.path), .bool c.hostOnly, .bool c.secure, .bool c.httpOnly, .bool c.lasting, .int .i64 c.site, .int .i64 c.expiry, .int .i64 c.created, .int .i64 c.used, .int .i64 c.no]] w fun e w' => e = .returned (.bool (letsP p g c)) ∧ Below w.heap.size w w' := by
  obtain ⟨a, ha⟩ : ∃ a, a = (kindP p c).1 := ⟨_, rfl⟩
  obtain ⟨b, hb⟩ : ∃ b, b = (kindP p c).2 := ⟨_, rfl⟩
  obtain ⟨z, hz⟩ : ∃ z, z = letsP p g c := ⟨_, rfl⟩
  rw [← hz]
  have KK : Hid (∀ w', Below w.heap.size w w' → Calls Try.prog 40 #[.agg #[v, .int .i64 p.dflt, .int .i64 p.c0, .int .i64 p.c1, .int .i64 p.c2, .int .i64 p.c3, .int .i64 p.c4, .int .i64 p.c5, .int .i64 p.c6, .int .i64 p.c7, .int .i64 p.c8, .int .i64 p.c9, .int .i64 p.c10], .agg #[.string (txt c.name), .string (txt c.value), .string (txt c.domain), .string (txt c.path), .bool c.hostOnly, .bool c.secure, .bool c.httpOnly, .bool c.lasting, .int .i64 c.site, .int .i64 c.expiry, .int .i64 c.created, .int .i64 c.used, .int .i64 c.no]] w' fun e w'' => e = .returned (.tuple #[.int .i64 a, .int .i64 b]) ∧ Below w'.heap.size w' w'') := fun w' h => by
    rw [ha, hb]; exact kind_any p v c w' (Rows.below hr h (Nat.le_refl _)) hp.len hp.rules hc
  have KM : Hid (∀ w', Below w.heap.size w w' → Calls Try.prog 41 #[.agg #[.int .i64 g.g, .bool g.b0, .bool g.b1, .bool g.b2, .bool g.b3, .bool g.b4, .bool g.b5, .bool g.b6, .bool g.b7, .bool g.b8, .bool g.b9, gv], .int .i64 a, .int .i64 b] w' fun e w'' => e = .returned (.bool z) ∧ Below w'.heap.size w' w'') := fun w' h => by
    rw [hz, ha, hb]; exact may_any g gv _ _ w' (Rows.below hg h (Nat.le_refl _)) hgm (kindP_i64 hp c).1 (kindP_i64 hp c).2
  obtain ⟨W0, hW0⟩ : ∃ W0, W0 = ((w.alloc (.cells #[v, .int .i64 p.dflt, .int .i64 p.c0, .int .i64 p.c1, .int .i64 p.c2, .int .i64 p.c3, .int .i64 p.c4, .int .i64 p.c5, .int .i64 p.c6, .int .i64 p.c7, .int .i64 p.c8, .int .i64 p.c9, .int .i64 p.c10] 28)).alloc (.cells #[.int .i64 g.g, .bool g.b0, .bool g.b1, .bool g.b2, .bool g.b3, .bool g.b4, .bool g.b5, .bool g.b6, .bool g.b7, .bool g.b8, .bool g.b9, gv] 32)).alloc (.cells #[.string (txt c.name), .string (txt c.value), .string (txt c.domain), .string (txt c.path), .bool c.hostOnly, .bool c.secure, .bool c.httpOnly, .bool c.lasting, .int .i64 c.site, .int .i64 c.expiry, .int .i64 c.created, .int .i64 c.used, .int .i64 c.no] 34) := ⟨_, rfl⟩
  have HB0 : Hid (Below w.heap.size w W0) := by rw [hW0]; exact next (next ((Below.refl _ w).alloc (Nat.le_refl _) _) ((Below.refl _ _).alloc (Nat.le_refl _) _)) ((Below.refl _ _).alloc (Nat.le_refl _) _)
  have n1 : ∀ (W : World) (o : Obj), Below W.heap.size W (W.alloc o) := fun W o => (Below.refl _ W).alloc (Nat.le_refl _) o
  have HLP : Hid (LRow W0 w.heap.size (poL p v)) := by
    rw [hW0]
    exact ((LRow.new w (poL p v) 28).below (n1 _ _) (by simp)).below (n1 _ _) (by simp; omega)
  have HLG : Hid (LRow W0 (w.heap.size + 1) (cnL g gv)) := by
    rw [hW0]
    have h := LRow.new (w.alloc (.cells #[v, .int .i64 p.dflt, .int .i64 p.c0, .int .i64 p.c1, .int .i64 p.c2, .int .i64 p.c3, .int .i64 p.c4, .int .i64 p.c5, .int .i64 p.c6, .int .i64 p.c7, .int .i64 p.c8, .int .i64 p.c9, .int .i64 p.c10] 28)) (cnL g gv) 32
    rw [show (w.alloc (.cells #[v, .int .i64 p.dflt, .int .i64 p.c0, .int .i64 p.c1, .int .i64 p.c2, .int .i64 p.c3, .int .i64 p.c4, .int .i64 p.c5, .int .i64 p.c6, .int .i64 p.c7, .int .i64 p.c8, .int .i64 p.c9, .int .i64 p.c10] 28)).heap.size = w.heap.size + 1 from by simp] at h
    exact h.below (n1 _ _) (by simp)
  have HLC : Hid (LRow W0 (w.heap.size + 1 + 1) (ckC c)) := by
    rw [hW0]
    have h := LRow.new ((w.alloc (.cells #[v, .int .i64 p.dflt, .int .i64 p.c0, .int .i64 p.c1, .int .i64 p.c2, .int .i64 p.c3, .int .i64 p.c4, .int .i64 p.c5, .int .i64 p.c6, .int .i64 p.c7, .int .i64 p.c8, .int .i64 p.c9, .int .i64 p.c10] 28)).alloc (.cells #[.int .i64 g.g, .bool g.b0, .bool g.b1, .bool g.b2, .bool g.b3, .bool g.b4, .bool g.b5, .bool g.b6, .bool g.b7, .bool g.b8, .bool g.b9, gv] 32)) (ckC c) 34
    rw [show ((w.alloc (.cells #[v, .int .i64 p.dflt, .int .i64 p.c0, .int .i64 p.c1, .int .i64 p.c2, .int .i64 p.c3, .int .i64 p.c4, .int .i64 p.c5, .int .i64 p.c6, .int .i64 p.c7, .int .i64 p.c8, .int .i64 p.c9, .int .i64 p.c10] 28)).alloc (.cells #[.int .i64 g.g, .bool g.b0, .bool g.b1, .bool g.b2, .bool g.b3, .bool g.b4, .bool g.b5, .bool g.b6, .bool g.b7, .bool g.b8, .bool g.b9, gv] 32)).heap.size = w.heap.size + 1 + 1 from by simp] at h
    exact h
  have HLT : Hid (w.heap.size + 1 + 1 < W0.heap.size) := by show _ < _; rw [hW0]; simp
  have HW0 : Hid _ := hW0
  clear ha hb hz hp hr hg hgm hc hW0 n1
  go_enter Try.func15, Try.ntmps15
  go_upto_region 1 with fail
  rw [← HW0.out]
  clear HW0
  have p0 := HLP.out.cell 0 rfl
  have p1 := HLP.out.cell 1 rfl
  have p2 := HLP.out.cell 2 rfl
  have p3 := HLP.out.cell 3 rfl
  have p4 := HLP.out.cell 4 rfl
  have p5 := HLP.out.cell 5 rfl
  have p6 := HLP.out.cell 6 rfl
  have p7 := HLP.out.cell 7 rfl
  have p8 := HLP.out.cell 8 rfl
  have p9 := HLP.out.cell 9 rfl
  have p10 := HLP.out.cell 10 rfl
  have p11 := HLP.out.cell 11 rfl
  have p12 := HLP.out.cell 12 rfl
  have x0 := HLC.out.cell 0 rfl
  have x1 := HLC.out.cell 1 rfl
  have x2 := HLC.out.cell 2 rfl
  have x3 := HLC.out.cell 3 rfl
  have x4 := HLC.out.cell 4 rfl
  have x5 := HLC.out.cell 5 rfl
  have x6 := HLC.out.cell 6 rfl
  have x7 := HLC.out.cell 7 rfl
  have x8 := HLC.out.cell 8 rfl
  have x9 := HLC.out.cell 9 rfl
  have x10 := HLC.out.cell 10 rfl
  have x11 := HLC.out.cell 11 rfl
  have x12 := HLC.out.cell 12 rfl
  go_wp2_with fail
  refine (KK.out _ HB0.out).mono ?_
  rintro e w1 ⟨rfl, hb1⟩
  have HB1 : Hid _ := next HB0.out hb1
  have L1 : Hid _ := HLG.out.below hb1 (Nat.lt_of_succ_lt HLT.out)
  clear hb1 p0 x0 p1 x1 p2 x2 p3 x3 p4 x4 p5 x5 p6 x6 p7 x7 p8 x8 p9 x9 p10 x10 p11 x11 p12 x12
  have g0 := L1.out.cell 0 rfl
  have g1 := L1.out.cell 1 rfl
  have g2 := L1.out.cell 2 rfl
  have g3 := L1.out.cell 3 rfl
  have g4 := L1.out.cell 4 rfl
  have g5 := L1.out.cell 5 rfl
  have g6 := L1.out.cell 6 rfl
  have g7 := L1.out.cell 7 rfl
  have g8 := L1.out.cell 8 rfl
  have g9 := L1.out.cell 9 rfl
  have g10 := L1.out.cell 10 rfl
  have g11 := L1.out.cell 11 rfl
  go_wp2_with fail
  refine (KM.out _ HB1.out).mono ?_
  rintro e w2 ⟨rfl, hb2⟩
  go_wp2_with fail
  go_ret
  exact ⟨rfl, next HB1.out hb2⟩
def poR : Po := ⟨[⟨2, [97, 100, 95], 4, 9⟩, ⟨4, [97, 100, 115, 46, 99, 111, 109], 2, 3⟩, ⟨1, [105, 100], 0, 0⟩], 1, 100, 60, 60, 60, 50, 60, 60, 60, 60, 60, 60⟩
def poB : Po := ⟨[⟨2, [97, 100, 95], 4, 9⟩, ⟨4, [97, 100, 115, 46, 99, 111, 109], 2, 3⟩, ⟨1, [105, 100], 0, 0⟩], 1, 100, 60, 60, 0, 50, 60, 60, 60, 60, 60, 60⟩
theorem rules_ok3 : ∀ r ∈ poR.rules, RuOk 140737488351232 r := by
  intro r hr
  have : r = ⟨2, [97, 100, 95], 4, 9⟩ ∨ r = ⟨4, [97, 100, 115, 46, 99, 111, 109], 2, 3⟩ ∨ r = ⟨1, [105, 100], 0, 0⟩ := by simpa [poR] using hr
  rcases this with rfl | rfl | rfl <;> exact ⟨by simp, by simp [i64B], by simp [i64B], by simp [i64B]⟩
theorem poR_ok : ∀ r ∈ poR.rules, RuOk 140737488351232 r := rules_ok3
def cIdt : Ck := ⟨[105, 100], [55], [115, 104, 111, 112, 46, 99, 111, 109], [47, 99, 97, 114, 116], false, true, false, true, 0, 1060, 1000, 1000, 0⟩
def pc1 : Ck := ⟨[97, 100, 95, 120], [], [120, 46, 97, 100, 115, 46, 99, 111, 109], [], false, false, false, false, 0, 0, 0, 0, 0⟩
def pc2 : Ck := ⟨[73, 68], [], [120, 46, 97, 100, 115, 46, 99, 111, 109], [], false, false, false, false, 0, 0, 0, 0, 0⟩
def pc3 : Ck := ⟨[73, 68], [], [], [], false, false, false, false, 0, 0, 0, 0, 0⟩
theorem pc1_ok : CkOk 140737488351232 pc1 := ⟨by simp [pc1], by simp [pc1], by simp [pc1], by simp [pc1], by simp [pc1, i64B], by simp [pc1, i64B], by simp [pc1, i64B], by simp [pc1, i64B], by simp [pc1, i64B]⟩
theorem pc2_ok : CkOk 140737488351232 pc2 := ⟨by simp [pc2], by simp [pc2], by simp [pc2], by simp [pc2], by simp [pc2, i64B], by simp [pc2, i64B], by simp [pc2, i64B], by simp [pc2, i64B], by simp [pc2, i64B]⟩
theorem pc3_ok : CkOk 140737488351232 pc3 := ⟨by simp [pc3], by simp [pc3], by simp [pc3], by simp [pc3], by simp [pc3, i64B], by simp [pc3, i64B], by simp [pc3, i64B], by simp [pc3, i64B], by simp [pc3, i64B]⟩
theorem cIdt_ok : CkOk 140737488351232 cIdt := ⟨by simp [cIdt], by simp [cIdt], by simp [cIdt], by simp [cIdt], by simp [cIdt, i64B], by simp [cIdt, i64B], by simp [cIdt, i64B], by simp [cIdt, i64B], by simp [cIdt, i64B]⟩
theorem poR_po : PoOk 140737488351232 poR := ⟨by decide, rules_ok3, by simp [poR, i64B], by simp [poR, Po.caps, i64B]⟩
theorem pk1 : kindP poR pc1 = (4, 9) := by decide +kernel
theorem pk2 : kindP poR pc2 = (2, 3) := by decide +kernel
theorem pk3 : kindP poR pc3 = (1, 0) := by decide +kernel
theorem pk4 : letsP poR c0 cIdt = true := by decide +kernel
theorem pk5 : chP poR = 0 ∧ chP poB = 3 := by decide +kernel
set_option maxHeartbeats 1000000 in
theorem rules_any (w : World) : Calls Try.prog 33 #[] w fun e w' => ∃ b, e = .returned (.agg #[(.slice (some ⟨b, 0, none⟩) 3 3), .int .i64 1, .int .i64 100, .int .i64 60, .int .i64 60, .int .i64 60, .int .i64 50, .int .i64 60, .int .i64 60, .int .i64 60, .int .i64 60, .int .i64 60, .int .i64 60]) ∧ Rows w' (.slice (some ⟨b, 0, none⟩) 3 3) ruC poR.rules ∧ Below w.heap.size w w' := by
  obtain ⟨W0, hW0⟩ : ∃ W, W = w.alloc (.cells #[.slice (some ⟨w.heap.size + 1, 0, none⟩) 3 3, .int .i64 1, .int .i64 100, .int .i64 60, .int .i64 60, .int .i64 60, .int .i64 50, .int .i64 60, .int .i64 60, .int .i64 60, .int .i64 60, .int .i64 60, .int .i64 60] 28) := ⟨_, rfl⟩
  obtain ⟨W2, hW2⟩ : ∃ W, W = W0.alloc (.cells #[.int .i64 2, .string ⟨#[97, 100, 95]⟩, .int .i64 4, .int .i64 9, .int .i64 4, .string ⟨#[97, 100, 115, 46, 99, 111, 109]⟩, .int .i64 2, .int .i64 3, .int .i64 1, .string ⟨#[105, 100]⟩, .int .i64 0, .int .i64 0] 83) := ⟨_, rfl⟩
  have HS0 : W0.heap.size = w.heap.size + 1 := by rw [hW0]; simp
  have HO0 : LRow W0 w.heap.size (poL poR (.slice (some ⟨w.heap.size + 1, 0, none⟩) 3 3)) := by rw [hW0]; exact LRow.new w (poL poR (.slice (some ⟨w.heap.size + 1, 0, none⟩) 3 3)) 28
  have HB0 : Below w.heap.size w W0 := by rw [hW0]; exact (Below.refl _ w).alloc (Nat.le_refl _) _
  have n1 : Below W0.heap.size W0 W2 := by rw [hW2]; exact (Below.refl _ W0).alloc (Nat.le_refl _) _
  have HP : Hid (LRow W2 w.heap.size (poL poR (.slice (some ⟨w.heap.size + 1, 0, none⟩) 3 3))) := HO0.below n1 (by omega)
  have HB2 : Hid (Below w.heap.size w W2) := HB0.trans (n1.mono HB0.size)
  have HR2 : Hid (Rows W2 (.slice (some ⟨w.heap.size + 1, 0, none⟩) 3 3) ruC poR.rules) := by rw [hW2]; exact Rows.lit W0 poR.rules _ _ _ _ _ HS0.symm rfl rfl
  have HW2 : Hid ((w.alloc (.cells #[.slice (some ⟨w.heap.size + 1, 0, none⟩) 3 3, .int .i64 1, .int .i64 100, .int .i64 60, .int .i64 60, .int .i64 60, .int .i64 50, .int .i64 60, .int .i64 60, .int .i64 60, .int .i64 60, .int .i64 60, .int .i64 60] 28)).alloc (.cells #[.int .i64 2, .string ⟨#[97, 100, 95]⟩, .int .i64 4, .int .i64 9, .int .i64 4, .string ⟨#[97, 100, 115, 46, 99, 111, 109]⟩, .int .i64 2, .int .i64 3, .int .i64 1, .string ⟨#[105, 100]⟩, .int .i64 0, .int .i64 0] 83) = W2) := by show _ = _; rw [hW2, hW0]
  clear hW0 hW2 n1 HS0 HO0 HB0
  go_enter Try.func33, Try.ntmps33
  go_wp2_with fail
  rw [HW2.out]
  clear HW2
  have p0 := HP.out.cell 0 rfl
  have p1 := HP.out.cell 1 rfl
  have p2 := HP.out.cell 2 rfl
  have p3 := HP.out.cell 3 rfl
  have p4 := HP.out.cell 4 rfl
  have p5 := HP.out.cell 5 rfl
  have p6 := HP.out.cell 6 rfl
  have p7 := HP.out.cell 7 rfl
  have p8 := HP.out.cell 8 rfl
  have p9 := HP.out.cell 9 rfl
  have p10 := HP.out.cell 10 rfl
  have p11 := HP.out.cell 11 rfl
  have p12 := HP.out.cell 12 rfl
  exact bodyPost_ret (v := .agg #[.slice (some ⟨w.heap.size + 1, 0, none⟩) 3 3, .int .i64 1, .int .i64 100, .int .i64 60, .int .i64 60, .int .i64 60, .int .i64 50, .int .i64 60, .int .i64 60, .int .i64 60, .int .i64 60, .int .i64 60, .int .i64 60]) (by simp [results, Try.results33, go_sem, poR, p0, p1, p2, p3, p4, p5, p6, p7, p8, p9, p10, p11, p12]) rfl ⟨_, rfl, HR2.out, HB2.out⟩
theorem identP_any (w : World) : Calls Try.prog 32 #[] w fun e w' => e = .returned (.agg (ckC cIdt).toArray) ∧ Below w.heap.size w w' := by
  go_enter Try.func32, Try.ntmps32
  go_wp2_with fail
  exact bodyPost_ret (v := .agg (ckC cIdt).toArray) (by simp [results, Try.results32, go_sem]; rfl) rfl ⟨rfl, (Below.refl _ _).alloc (Nat.le_refl _) _⟩
end Go.Proofs.Ytcfdajaideidkaa
