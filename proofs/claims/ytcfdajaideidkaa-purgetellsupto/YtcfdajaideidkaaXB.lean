/- The contract of a jar's checker at one cookie. The contract of a jar's Check. A jar in a block. No walk. -/
import Derived.Test.YtcfdajaideidkaaXA
import Derived.Deep.RegionHeld3
import Derived.Deep.Cut
import Derived.Deep.CutRange
import Derived.Deep.RegionWith
import Derived.Test.YtcfdajaideidkaaPolicyK
namespace Go.Proofs.Ytcfdajaideidkaa
open Go.RowKit Go.Maps
set_option linter.all false
set_option maxRecDepth 100000
set_option maxRecDepth 100000

theorem lookB (w : World) {n b : Nat} {D : DataW Unit} {k t : TypeId} {key : Value} {kl : Lit} (h : w.ownsMap Try.prog k (unitElem (H := Unit)) b n D) (K : Keyed Try.prog k) (ht : Try.prog.underlying t = some (.map k 87)) (hkey : keyOf Try.prog k key = some kl) :
    (Instr.lookup t (.map (some b)) key true).run Try.prog w = .ok (.tuple #[.agg #[], .bool (Maps.has D kl)]) w := by
  have hz : (zeroValue 87).run Try.prog w = .ok (.agg #[]) w := by kernel_rfl
  obtain ⟨v, ps, h1, h2⟩ := h.look_ok K ht hz (zd := .agg []) (zp := []) unitElem_mk hkey
  obtain ⟨rfl, _⟩ := unitElem_inv h2
  exact h1
theorem Below.of_grown9 {a : Nat} {w w' : World} (h : w.grownBy w' (some a)) (hs : a ≤ w.heap.size) : Below a w w' := Below.grown (Below.refl a w) h hs (fun k e => by injection e with e; omega)
theorem Below.of_grown9' {a b : Nat} {w w' : World} (h : w.grownBy w' (some b)) (hs : a ≤ w.heap.size) (hab : a ≤ b) : Below a w w' := Below.grown (Below.refl a w) h hs (fun k e => by injection e with e; omega)
theorem lrow_but {W W' : World} {a B : Nat} {l : List Value} (h : LRow W B l) (hb : ∀ k, k < W.heap.size → k ≠ a → W'.heap[k]? = W.heap[k]?) (hne : B ≠ a) (hlt : B < W.heap.size) : LRow W' B l :=
  ⟨fun j v hj => by
    obtain ⟨h1, h2⟩ := h.all j v hj
    have e := hb B hlt hne
    exact ⟨(World.cell?_of_block (a := ⟨B, j, none⟩) e).trans h1, (World.frozen?_of_block (a := ⟨B, j, none⟩) e).trans h2⟩⟩
set_option maxHeartbeats 16000000 in
theorem jcheck_any (nx : Int) (jv : Value) (a b m : Nat) (l : List Ck) (c : Ck) (w : World) (hM : MAt w a b m l) (hab : a < b) (hbm : b < m) (hl : ∀ x ∈ l, KeyOk x) (hn : l.length ≤ 100) (hc : KeyOk c) (hno : -9223372036854775808 ≤ c.no ∧ c.no ≤ 9223372036854775807) :
    Calls Try.prog 36 #[.agg #[jv, .int .i64 nx, .map (some a), .map (some b), .map (some m)], .agg #[.string (txt c.name), .string (txt c.value), .string (txt c.domain), .string (txt c.path), .bool c.hostOnly, .bool c.secure, .bool c.httpOnly, .bool c.lasting, .int .i64 c.site, .int .i64 c.expiry, .int .i64 c.created, .int .i64 c.used, .int .i64 c.no]] w fun e w' => e = .returned (.int .i64 (chK nx l c)) ∧ (chK nx l c = 0 → MAt w' a b m (l ++ [c])) ∧ Below a w w' ∧ Past m w w' := by
  obtain ⟨z, hz⟩ : ∃ z, z = chK nx l c := ⟨_, rfl⟩
  rw [← hz]
  obtain ⟨m1, hm1⟩ : ∃ q, q = momB c.created := ⟨_, rfl⟩
  obtain ⟨m2, hm2⟩ : ∃ q, q = momB c.used := ⟨_, rfl⟩
  obtain ⟨q1, hq1⟩ : ∃ q, q = l.any (fun x => sameK x c) := ⟨_, rfl⟩
  obtain ⟨q2, hq2⟩ : ∃ q, q = l.any (fun x => x.no == c.no) := ⟨_, rfl⟩
  obtain ⟨pn, hpn⟩ : ∃ q, q = perD l c.domain := ⟨_, rfl⟩
  have hpl : pn ≤ 100 := by rw [hpn]; exact Nat.le_trans (perD_le _ _) hn
  have HZ : Hid (z = if m1 = false ∨ m2 = false then 3 else if c.no < 0 ∨ nx ≤ c.no then 4 else if (q1 || q2) = true then 6 else if 4 < pn + 1 then 2 else 0) := by
    show _ = _; rw [hz, hm1, hm2, hq1, hq2, hpn]; unfold chK twiceB; rfl
  have K1 : Hid (∀ w', Calls Try.prog 58 #[.int .i64 c.created] w' fun e w'' => e = .returned (.bool m1) ∧ w'' = w') := fun w' => by rw [hm1]; exact jmoment_any _ _
  have K2 : Hid (∀ w', Calls Try.prog 58 #[.int .i64 c.used] w' fun e w'' => e = .returned (.bool m2) ∧ w'' = w') := fun w' => by rw [hm2]; exact jmoment_any _ _
  have hla : a < w.heap.size := hM.same.lt
  have hlb : b < w.heap.size := hM.num.lt
  have hlm : m < w.heap.size := by obtain ⟨D, h, _⟩ := hM.per; exact h.lt
  obtain ⟨W0, hW0⟩ : ∃ W0, W0 = ((w.alloc (.cells #[jv, .int .i64 nx, .map (some a), .map (some b), .map (some m)] 68)).alloc (.cells #[.string (txt c.name), .string (txt c.value), .string (txt c.domain), .string (txt c.path), .bool c.hostOnly, .bool c.secure, .bool c.httpOnly, .bool c.lasting, .int .i64 c.site, .int .i64 c.expiry, .int .i64 c.created, .int .i64 c.used, .int .i64 c.no] 34)) := ⟨_, rfl⟩
  have K0 : Hid (LRow W0 w.heap.size [jv, .int .i64 nx, .map (some a), .map (some b), .map (some m)]) := by
    rw [hW0]
    exact (LRow.new w [jv, .int .i64 nx, .map (some a), .map (some b), .map (some m)] 68).below ((Below.refl _ _).alloc (Nat.le_refl _) _) (by simp)
  have C0 : Hid (LRow W0 (w.heap.size + 1) (ckC c)) := by
    rw [hW0]
    have h := LRow.new (w.alloc (.cells #[jv, .int .i64 nx, .map (some a), .map (some b), .map (some m)] 68)) (ckC c) 34
    rw [show (w.alloc (.cells #[jv, .int .i64 nx, .map (some a), .map (some b), .map (some m)] 68)).heap.size = w.heap.size + 1 from by simp] at h
    exact h
  have S0 : Hid (Below w.heap.size w W0) := by rw [hW0]; exact ((Below.refl _ w).alloc (Nat.le_refl _) _).alloc (by simp) _
  have HM0 : Hid (MAt W0 a b m l) := hM.below S0.out
  have HLA : Hid (a < w.heap.size ∧ b < w.heap.size ∧ m < w.heap.size ∧ a < b ∧ b < m) := ⟨hla, hlb, hlm, hab, hbm⟩
  have HC : Hid (KeyOk c) := hc
  have HNO : Hid (-9223372036854775808 ≤ c.no ∧ c.no ≤ 9223372036854775807) := hno
  have HQ1 : Hid (Maps.has (sameD l) (kid c) = q1) := by show _ = _; rw [hq1]; exact sameD_has l c hl hc
  have HQ2 : Hid (Maps.has (numD l) (.int .i64 c.no) = q2) := by show _ = _; rw [hq2]; exact numD_has l c
  have HPN : Hid (pn = perD l c.domain) := hpn
  have HN : Hid (l.length ≤ 100) := hn
  have F0 : Hid (Below a w W0 ∧ Past m w W0) := ⟨S0.out.mono (Nat.le_of_lt hla), Past.of_below S0.out⟩
  have HW0 : Hid _ := hW0
  clear hz hm1 hm2 hq1 hq2 hpn hM hla hlb hlm hab hbm hl hn hc hno hW0
  cases m1
  · go_enter Try.func36, Try.ntmps36
    go_upto_region 1 with fail
    rw [← HW0.out]
    clear HW0
    have x0 := C0.out.cell 0 rfl
    have x1 := C0.out.cell 1 rfl
    have x2 := C0.out.cell 2 rfl
    have x3 := C0.out.cell 3 rfl
    have x4 := C0.out.cell 4 rfl
    have x5 := C0.out.cell 5 rfl
    have x6 := C0.out.cell 6 rfl
    have x7 := C0.out.cell 7 rfl
    have x8 := C0.out.cell 8 rfl
    have x9 := C0.out.cell 9 rfl
    have x10 := C0.out.cell 10 rfl
    have x11 := C0.out.cell 11 rfl
    have x12 := C0.out.cell 12 rfl
    have y0 := K0.out.cell 0 rfl
    have y1 := K0.out.cell 1 rfl
    have y2 := K0.out.cell 2 rfl
    have y3 := K0.out.cell 3 rfl
    have y4 := K0.out.cell 4 rfl
    go_wp2_with fail
    refine (K1.out _).mono ?_
    rintro e w1 ⟨rfl, hww⟩
    subst w1
    have HZ1 : Hid (z = 3) := by show _ = _; rw [HZ.out]; simp
    go_wp2_with fail
    go_ret
    exact ⟨by rw [HZ1.out]; rfl, fun h => absurd (HZ1.out.symm.trans h) (by decide), F0.out.1, F0.out.2⟩
  cases m2
  · go_enter Try.func36, Try.ntmps36
    go_upto_region 1 with fail
    rw [← HW0.out]
    clear HW0
    have x0 := C0.out.cell 0 rfl
    have x1 := C0.out.cell 1 rfl
    have x2 := C0.out.cell 2 rfl
    have x3 := C0.out.cell 3 rfl
    have x4 := C0.out.cell 4 rfl
    have x5 := C0.out.cell 5 rfl
    have x6 := C0.out.cell 6 rfl
    have x7 := C0.out.cell 7 rfl
    have x8 := C0.out.cell 8 rfl
    have x9 := C0.out.cell 9 rfl
    have x10 := C0.out.cell 10 rfl
    have x11 := C0.out.cell 11 rfl
    have x12 := C0.out.cell 12 rfl
    have y0 := K0.out.cell 0 rfl
    have y1 := K0.out.cell 1 rfl
    have y2 := K0.out.cell 2 rfl
    have y3 := K0.out.cell 3 rfl
    have y4 := K0.out.cell 4 rfl
    go_wp2_with fail
    refine (K1.out _).mono ?_
    rintro e w1 ⟨rfl, hww⟩
    subst w1
    go_wp2_with fail
    refine (K2.out _).mono ?_
    rintro e w2 ⟨rfl, hww⟩
    subst w2
    have HZ1 : Hid (z = 3) := by show _ = _; rw [HZ.out]; simp
    go_wp2_with fail
    go_ret
    exact ⟨by rw [HZ1.out]; rfl, fun h => absurd (HZ1.out.symm.trans h) (by decide), F0.out.1, F0.out.2⟩
  have HZ' : Hid (z = if c.no < 0 ∨ nx ≤ c.no then 4 else if (q1 || q2) = true then 6 else if 4 < pn + 1 then 2 else 0) := by
    show _ = _; rw [HZ.out]; simp
  clear HZ
  rename Hid _ => HZ
  by_cases g1 : c.no < 0
  · go_enter Try.func36, Try.ntmps36
    go_upto_region 1 with fail
    rw [← HW0.out]
    clear HW0
    have x0 := C0.out.cell 0 rfl
    have x1 := C0.out.cell 1 rfl
    have x2 := C0.out.cell 2 rfl
    have x3 := C0.out.cell 3 rfl
    have x4 := C0.out.cell 4 rfl
    have x5 := C0.out.cell 5 rfl
    have x6 := C0.out.cell 6 rfl
    have x7 := C0.out.cell 7 rfl
    have x8 := C0.out.cell 8 rfl
    have x9 := C0.out.cell 9 rfl
    have x10 := C0.out.cell 10 rfl
    have x11 := C0.out.cell 11 rfl
    have x12 := C0.out.cell 12 rfl
    have y0 := K0.out.cell 0 rfl
    have y1 := K0.out.cell 1 rfl
    have y2 := K0.out.cell 2 rfl
    have y3 := K0.out.cell 3 rfl
    have y4 := K0.out.cell 4 rfl
    go_wp2_with fail
    refine (K1.out _).mono ?_
    rintro e w1 ⟨rfl, hww⟩
    subst w1
    go_wp2_with fail
    refine (K2.out _).mono ?_
    rintro e w2 ⟨rfl, hww⟩
    subst w2
    have HZ1 : Hid (z = 4) := by show _ = _; rw [HZ.out]; rw [if_pos (.inl g1)]
    go_wp2_with fail
    go_ret
    exact ⟨by rw [HZ1.out]; rfl, fun h => absurd (HZ1.out.symm.trans h) (by decide), F0.out.1, F0.out.2⟩
  by_cases g2 : nx ≤ c.no
  · go_enter Try.func36, Try.ntmps36
    go_upto_region 1 with fail
    rw [← HW0.out]
    clear HW0
    have x0 := C0.out.cell 0 rfl
    have x1 := C0.out.cell 1 rfl
    have x2 := C0.out.cell 2 rfl
    have x3 := C0.out.cell 3 rfl
    have x4 := C0.out.cell 4 rfl
    have x5 := C0.out.cell 5 rfl
    have x6 := C0.out.cell 6 rfl
    have x7 := C0.out.cell 7 rfl
    have x8 := C0.out.cell 8 rfl
    have x9 := C0.out.cell 9 rfl
    have x10 := C0.out.cell 10 rfl
    have x11 := C0.out.cell 11 rfl
    have x12 := C0.out.cell 12 rfl
    have y0 := K0.out.cell 0 rfl
    have y1 := K0.out.cell 1 rfl
    have y2 := K0.out.cell 2 rfl
    have y3 := K0.out.cell 3 rfl
    have y4 := K0.out.cell 4 rfl
    go_wp2_with fail
    refine (K1.out _).mono ?_
    rintro e w1 ⟨rfl, hww⟩
    subst w1
    go_wp2_with fail
    refine (K2.out _).mono ?_
    rintro e w2 ⟨rfl, hww⟩
    subst w2
    have HZ1 : Hid (z = 4) := by show _ = _; rw [HZ.out]; rw [if_pos (.inr g2)]
    go_wp2_with fail
    go_ret
    exact ⟨by rw [HZ1.out]; rfl, fun h => absurd (HZ1.out.symm.trans h) (by decide), F0.out.1, F0.out.2⟩
  go_enter Try.func36, Try.ntmps36
  go_upto_region 1 with fail
  rw [← HW0.out]
  clear HW0
  have x0 := C0.out.cell 0 rfl
  have x1 := C0.out.cell 1 rfl
  have x2 := C0.out.cell 2 rfl
  have x3 := C0.out.cell 3 rfl
  have x4 := C0.out.cell 4 rfl
  have x5 := C0.out.cell 5 rfl
  have x6 := C0.out.cell 6 rfl
  have x7 := C0.out.cell 7 rfl
  have x8 := C0.out.cell 8 rfl
  have x9 := C0.out.cell 9 rfl
  have x10 := C0.out.cell 10 rfl
  have x11 := C0.out.cell 11 rfl
  have x12 := C0.out.cell 12 rfl
  have y0 := K0.out.cell 0 rfl
  have y1 := K0.out.cell 1 rfl
  have y2 := K0.out.cell 2 rfl
  have y3 := K0.out.cell 3 rfl
  have y4 := K0.out.cell 4 rfl
  go_wp2_with fail
  refine (K1.out _).mono ?_
  rintro e w1 ⟨rfl, hww⟩
  subst w1
  go_wp2_with fail
  refine (K2.out _).mono ?_
  rintro e w2 ⟨rfl, hww⟩
  subst w2
  go_upto_region 5 with fail
  go_cut [5, 6] from 30 to 37 (fun s5 s6 wx => ∃ p : Nat, s5 = .pointer (some ⟨p, 0, none⟩) ∧ s6 = .bool q1 ∧ Hid (Below W0.heap.size W0 wx))
  case first =>
    have X0 : ∀ w', Below W0.heap.size W0 w' → w'.cell? ⟨w.heap.size + 1, 0, none⟩ = some (.string (txt c.name)) := fun w' h => (h.cell (p := ⟨w.heap.size + 1, 0, none⟩) (cell_in x0)).trans x0
    have X1 : ∀ w', Below W0.heap.size W0 w' → w'.cell? ⟨w.heap.size + 1, 1, none⟩ = some (.string (txt c.value)) := fun w' h => (h.cell (p := ⟨w.heap.size + 1, 1, none⟩) (cell_in x1)).trans x1
    have X2 : ∀ w', Below W0.heap.size W0 w' → w'.cell? ⟨w.heap.size + 1, 2, none⟩ = some (.string (txt c.domain)) := fun w' h => (h.cell (p := ⟨w.heap.size + 1, 2, none⟩) (cell_in x2)).trans x2
    have X3 : ∀ w', Below W0.heap.size W0 w' → w'.cell? ⟨w.heap.size + 1, 3, none⟩ = some (.string (txt c.path)) := fun w' h => (h.cell (p := ⟨w.heap.size + 1, 3, none⟩) (cell_in x3)).trans x3
    have X4 : ∀ w', Below W0.heap.size W0 w' → w'.cell? ⟨w.heap.size + 1, 4, none⟩ = some (.bool c.hostOnly) := fun w' h => (h.cell (p := ⟨w.heap.size + 1, 4, none⟩) (cell_in x4)).trans x4
    have X5 : ∀ w', Below W0.heap.size W0 w' → w'.cell? ⟨w.heap.size + 1, 5, none⟩ = some (.bool c.secure) := fun w' h => (h.cell (p := ⟨w.heap.size + 1, 5, none⟩) (cell_in x5)).trans x5
    have X6 : ∀ w', Below W0.heap.size W0 w' → w'.cell? ⟨w.heap.size + 1, 6, none⟩ = some (.bool c.httpOnly) := fun w' h => (h.cell (p := ⟨w.heap.size + 1, 6, none⟩) (cell_in x6)).trans x6
    have X7 : ∀ w', Below W0.heap.size W0 w' → w'.cell? ⟨w.heap.size + 1, 7, none⟩ = some (.bool c.lasting) := fun w' h => (h.cell (p := ⟨w.heap.size + 1, 7, none⟩) (cell_in x7)).trans x7
    have X8 : ∀ w', Below W0.heap.size W0 w' → w'.cell? ⟨w.heap.size + 1, 8, none⟩ = some (.int .i64 c.site) := fun w' h => (h.cell (p := ⟨w.heap.size + 1, 8, none⟩) (cell_in x8)).trans x8
    have X9 : ∀ w', Below W0.heap.size W0 w' → w'.cell? ⟨w.heap.size + 1, 9, none⟩ = some (.int .i64 c.expiry) := fun w' h => (h.cell (p := ⟨w.heap.size + 1, 9, none⟩) (cell_in x9)).trans x9
    have X10 : ∀ w', Below W0.heap.size W0 w' → w'.cell? ⟨w.heap.size + 1, 10, none⟩ = some (.int .i64 c.created) := fun w' h => (h.cell (p := ⟨w.heap.size + 1, 10, none⟩) (cell_in x10)).trans x10
    have X11 : ∀ w', Below W0.heap.size W0 w' → w'.cell? ⟨w.heap.size + 1, 11, none⟩ = some (.int .i64 c.used) := fun w' h => (h.cell (p := ⟨w.heap.size + 1, 11, none⟩) (cell_in x11)).trans x11
    have X12 : ∀ w', Below W0.heap.size W0 w' → w'.cell? ⟨w.heap.size + 1, 12, none⟩ = some (.int .i64 c.no) := fun w' h => (h.cell (p := ⟨w.heap.size + 1, 12, none⟩) (cell_in x12)).trans x12
    have Y2 : ∀ w', Below W0.heap.size W0 w' → w'.cell? ⟨w.heap.size, 2, none⟩ = some (.map (some a)) := fun w' h => (h.cell (p := ⟨w.heap.size, 2, none⟩) (cell_in y2)).trans y2
    have L3 : ∀ w', Below W0.heap.size W0 w' → (Instr.lookup 64 (.map (some a)) (.agg #[.string (txt c.name), .string (txt c.domain), .string (txt c.path)]) true).run Try.prog w' = .ok (.tuple #[.agg #[], .bool q1]) w' := fun w' h => by
      have k := lookB w' (map_kept HM0.out.same (h.block a HM0.out.same.lt)) idLaw Try.underlying64 (kid_key c HC.out.1 HC.out.2.1 HC.out.2.2)
      rw [HQ1.out] at k
      exact k
    go_region_held3 (fun w' => Below W0.heap.size W0 w') (first | assumption | exact (Below.refl _ W0).drew | exact Below.alloc (by assumption) (Below.size (by assumption)) _ | exact ((Below.refl _ W0).alloc (Nat.le_refl _) _).drew | fail)
      (first
      | (go_at_call 59
         refine (identityOf_any c _).mono ?_
         rintro e w3 ⟨rfl, hb3⟩
         have hS3 : Below W0.heap.size W0 w3 := Below.trans (by first | exact (Below.refl _ W0).drew | assumption) (hb3.mono (by first | exact Nat.le_refl _ | exact Below.size (by assumption)))
         clear hb3)
      | fail)
    all_goals (go_wp2_with fail; go_meet; exact ⟨_, rfl, rfl, by first | assumption | exact Below.alloc (by assumption) (Below.size (by assumption)) _⟩)
  case rest =>
  obtain ⟨p5, rfl, rfl, HS5⟩ := hcut
  rename World => W5
  clear x0 x1 x2 x3 x4 x5 x6 x7 x8 x9 x10 x11 x12 y0 y1 y2 y3 y4
  have K5 : Hid (LRow W5 w.heap.size [jv, .int .i64 nx, .map (some a), .map (some b), .map (some m)]) := K0.out.below HS5.out (cell_in (K0.out.cell 1 rfl))
  have C5 : Hid (LRow W5 (w.heap.size + 1) (ckC c)) := C0.out.below HS5.out (cell_in (C0.out.cell 0 rfl))
  have HM5 : Hid (MAt W5 a b m l) := HM0.out.below HS5.out
  have L5 : (Instr.lookup 65 (.map (some b)) (.int .i64 c.no) true).run Try.prog W5 = .ok (.tuple #[.agg #[], .bool q2]) W5 := by
    have k := lookB W5 HM5.out.num intLaw Try.underlying65 (no_key c.no HNO.out)
    rw [HQ2.out] at k
    exact k
  obtain ⟨W6, hW6⟩ : ∃ W6, W6 = W5.alloc (.cells #[] 87) := ⟨_, rfl⟩
  have HS6 : Hid (Below W5.heap.size W5 W6) := by rw [hW6]; exact (Below.refl _ W5).alloc (Nat.le_refl _) _
  have K6 : Hid (LRow W6 w.heap.size [jv, .int .i64 nx, .map (some a), .map (some b), .map (some m)]) := K5.out.below HS6.out (cell_in (K5.out.cell 1 rfl))
  have C6 : Hid (LRow W6 (w.heap.size + 1) (ckC c)) := C5.out.below HS6.out (cell_in (C5.out.cell 0 rfl))
  have HM6 : Hid (MAt W6 a b m l) := HM5.out.below HS6.out
  have F6 : Hid (Below a w W6 ∧ Past m w W6) := by
    have hs := S0.out.size
    have hs5 := HS5.out.size
    have h1 : Below w.heap.size w W6 := (S0.out.trans (HS5.out.mono hs)).trans (HS6.out.mono (Nat.le_trans hs hs5))
    exact ⟨h1.mono (Nat.le_of_lt HLA.out.1), Past.of_below h1⟩
  have HW6 : Hid _ := hW6
  clear hW6 K0 C0 HM0 F0 HS6
  have x0 := C5.out.cell 0 rfl
  have x1 := C5.out.cell 1 rfl
  have x2 := C5.out.cell 2 rfl
  have x3 := C5.out.cell 3 rfl
  have x4 := C5.out.cell 4 rfl
  have x5 := C5.out.cell 5 rfl
  have x6 := C5.out.cell 6 rfl
  have x7 := C5.out.cell 7 rfl
  have x8 := C5.out.cell 8 rfl
  have x9 := C5.out.cell 9 rfl
  have x10 := C5.out.cell 10 rfl
  have x11 := C5.out.cell 11 rfl
  have x12 := C5.out.cell 12 rfl
  have y0 := K5.out.cell 0 rfl
  have y1 := K5.out.cell 1 rfl
  have y2 := K5.out.cell 2 rfl
  have y3 := K5.out.cell 3 rfl
  have y4 := K5.out.cell 4 rfl
  cases q1
  rotate_left
  · go_upto_region 7 with fail
    rw [← HW6.out]
    clear HW6
    have HZ1 : Hid (z = 6) := by show _ = _; rw [HZ.out, if_neg (by omega)]; simp
    go_wp2_with fail
    go_ret
    exact ⟨by rw [HZ1.out]; rfl, fun h => absurd (HZ1.out.symm.trans h) (by decide), F6.out.1, F6.out.2⟩
  cases q2
  rotate_left
  · go_upto_region 7 with fail
    rw [← HW6.out]
    clear HW6
    have HZ1 : Hid (z = 6) := by show _ = _; rw [HZ.out, if_neg (by omega)]; simp
    go_wp2_with fail
    go_ret
    exact ⟨by rw [HZ1.out]; rfl, fun h => absurd (HZ1.out.symm.trans h) (by decide), F6.out.1, F6.out.2⟩
  go_upto_region 9 with fail
  rw [← HW6.out]
  clear HW6
  clear x0 x1 x2 x3 x4 x5 x6 x7 x8 x9 x10 x11 x12 y0 y1 y2 y3 y4
  have x0 := C6.out.cell 0 rfl
  have x1 := C6.out.cell 1 rfl
  have x2 := C6.out.cell 2 rfl
  have x3 := C6.out.cell 3 rfl
  have x4 := C6.out.cell 4 rfl
  have x5 := C6.out.cell 5 rfl
  have x6 := C6.out.cell 6 rfl
  have x7 := C6.out.cell 7 rfl
  have x8 := C6.out.cell 8 rfl
  have x9 := C6.out.cell 9 rfl
  have x10 := C6.out.cell 10 rfl
  have x11 := C6.out.cell 11 rfl
  have x12 := C6.out.cell 12 rfl
  have y0 := K6.out.cell 0 rfl
  have y1 := K6.out.cell 1 rfl
  have y2 := K6.out.cell 2 rfl
  have y3 := K6.out.cell 3 rfl
  have y4 := K6.out.cell 4 rfl
  have HZ1 : Hid (z = if 4 < pn + 1 then 2 else 0) := by show _ = _; rw [HZ.out, if_neg (by omega)]; simp
  clear HZ
  go_cut [6] from 50 to 54 (fun s6 wx => s6 = .bool false ∧ Hid (wx.ownsMap Try.prog 90 (unitElem (H := Unit)) a (l.length + 1) (sameD (l ++ [c])) ∧ Below a W6 wx ∧ (∀ k, k < W6.heap.size → k ≠ a → wx.heap[k]? = W6.heap[k]?)))
  case first =>
    go_region_with (first
      | (go_at_call 59
         refine (identityOf_any c _).mono ?_
         rintro e w9 ⟨rfl, hb9⟩
         have hS9 : Below W6.heap.size W6 w9 := next (Below.refl _ W6).drew hb9
         obtain ⟨wm, hrun9, hown9, hgrow9⟩ := (map_kept HM6.out.same (hS9.block a HM6.out.same.lt)).update idLaw Try.underlying64 (by have := HN.out; unfold maxLen; omega) (kid_key c HC.out.1 HC.out.2.1 HC.out.2.2) (val := .agg #[]) (d := .agg []) (ps := []) unitElem_mk
         have hrun9' : (Instr.mapUpdate 64 (.map (some a)) (.agg #[.string (txt c.name), .string (txt c.domain), .string (txt c.path)]) (.agg #[])).run Try.prog w9 = .ok () wm := hrun9
         clear hrun9
         have HO9 : Hid (wm.ownsMap Try.prog 90 (unitElem (H := Unit)) a (l.length + 1) (sameD (l ++ [c]))) := by rw [sameD_snoc]; exact hown9
         have HB9 : Hid (Below a W6 wm) := (hS9.mono (Nat.le_of_lt (Nat.lt_trans HM6.out.same.lt (Nat.lt_succ_self _)) |> fun _ => Nat.le_of_lt HM6.out.same.lt)).trans (Below.of_grown9 hgrow9 (Nat.le_trans (Nat.le_of_lt HM6.out.same.lt) hS9.size))
         have HP9 : Hid (∀ k, k < W6.heap.size → k ≠ a → wm.heap[k]? = W6.heap[k]?) := fun k hk hne => (hgrow9.block k (Nat.lt_of_lt_of_le hk hS9.size) (fun e => hne (Option.some.inj e))).trans (hS9.block k hk)
         have e0 : w9.cell? ⟨w.heap.size, 2, none⟩ = some (.map (some a)) := (hS9.cell (p := ⟨w.heap.size, 2, none⟩) (cell_in y2)).trans y2
         clear hb9 hS9 hown9 hgrow9))
    all_goals (go_wp2_with fail; go_meet; exact ⟨rfl, HO9.out, HB9.out, HP9.out⟩)
  case rest =>
  obtain ⟨rfl, H9⟩ := hcut
  rename World => W9
  clear x0 x1 x2 x3 x4 x5 x6 x7 x8 x9 x10 x11 x12 y0 y1 y2 y3 y4
  have K9 : Hid (LRow W9 w.heap.size [jv, .int .i64 nx, .map (some a), .map (some b), .map (some m)]) := lrow_but K6.out H9.out.2.2 (by have := HLA.out; omega) (cell_in (K6.out.cell 1 rfl))
  have C9 : Hid (LRow W9 (w.heap.size + 1) (ckC c)) := lrow_but C6.out H9.out.2.2 (by have := HLA.out; omega) (cell_in (C6.out.cell 0 rfl))
  have HN9 : Hid (W9.ownsMap Try.prog 3 (unitElem (H := Unit)) b l.length (numD l)) := map_kept HM6.out.num (H9.out.2.2 b HM6.out.num.lt (by have := HLA.out; omega))
  obtain ⟨W10, L10, hown10, hgrow10⟩ := HN9.out.update intLaw Try.underlying65 (by have := HN.out; unfold maxLen; omega) (no_key c.no HNO.out) (val := .agg #[]) (d := .agg []) (ps := []) unitElem_mk
  have HG10 : Hid (W9.grownBy W10 (some b)) := hgrow10
  have HO10 : Hid (W10.ownsMap Try.prog 3 (unitElem (H := Unit)) b (l.length + 1) (numD (l ++ [c]))) := by rw [numD_snoc]; exact hown10
  have K10 : Hid (LRow W10 w.heap.size [jv, .int .i64 nx, .map (some a), .map (some b), .map (some m)]) := lrow_but K9.out (fun k hk hne => HG10.out.block k hk (fun e => hne (Option.some.inj e))) (by have := HLA.out; omega) (cell_in (K9.out.cell 1 rfl))
  have C10 : Hid (LRow W10 (w.heap.size + 1) (ckC c)) := lrow_but C9.out (fun k hk hne => HG10.out.block k hk (fun e => hne (Option.some.inj e))) (by have := HLA.out; omega) (cell_in (C9.out.cell 0 rfl))
  have HP10 : Hid (∃ D, W10.ownsMap Try.prog 9 (plainElem (H := Unit) Try.prog 3) m l.length D ∧ ∀ d : List UInt8, D.atKey (.string d) (.lit (.int .i64 0)) = .lit (.int .i64 (perD l d))) := by
    obtain ⟨D, h1, h2⟩ := HM6.out.per
    have e1 := H9.out.2.2 m h1.lt (by have := HLA.out; omega)
    have h3 := map_kept h1 e1
    exact ⟨D, map_kept h3 (HG10.out.block m h3.lt (fun e => by have := HLA.out; have := Option.some.inj e; omega)), h2⟩
  have L11 : (Instr.lookup 66 (.map (some m)) (.string (txt c.domain)) false).run Try.prog W10 = .ok (.int .i64 (pn : Int)) W10 := by
    obtain ⟨D, h1, h2⟩ := HP10.out
    obtain ⟨q, hr, hq, _⟩ := h1.lookup_int strLaw Try.underlying66 Try.underlying3 (by kernel_rfl) (str_key c.domain HC.out.2.1)
    rw [h2] at hq
    injection hq with hq
    injection hq with _ hq
    rw [HPN.out, hq]
    exact hr
  have HU11 : Hid (∃ W11, (Instr.mapUpdate 66 (.map (some m)) (.string (txt c.domain)) (.int .i64 ((pn : Int) + 1))).run Try.prog W10 = .ok () W11 ∧ (∃ D, W11.ownsMap Try.prog 9 (plainElem (H := Unit) Try.prog 3) m (l.length + 1) D ∧ ∀ d : List UInt8, D.atKey (.string d) (.lit (.int .i64 0)) = .lit (.int .i64 (perD (l ++ [c]) d))) ∧ W10.grownBy W11 (some m)) := by
    obtain ⟨D, h1, h2⟩ := HP10.out
    obtain ⟨W11, h3, h4, h5⟩ := h1.update strLaw Try.underlying66 (by have := HN.out; unfold maxLen; omega) (str_key c.domain HC.out.2.1) (val := .int .i64 ((pn : Int) + 1)) (d := .lit (.int .i64 ((pn : Int) + 1))) (ps := []) (plainElem_int Try.underlying3 (i64_wf (by omega)))
    refine ⟨W11, h3, ⟨_, h4, fun d => ?_⟩, h5⟩
    by_cases e : c.domain = d
    · subst e
      rw [atKey_put_same ((h1.tidy strLaw).isMap) (show WideAt.IsKeyLit (.string c.domain) from trivial), perD_snoc, if_pos rfl, HPN.out]
      rfl
    · rw [atKey_put_other (fun h => e (by injection h with h; exact h.symm)), h2, perD_snoc, if_neg e]
      rfl
  obtain ⟨W11, L11u, hper11, hgrow11⟩ := HU11.out
  have HG11 : Hid (W10.grownBy W11 (some m)) := hgrow11
  have HP11 : Hid _ := hper11
  have L12 : (Instr.lookup 66 (.map (some m)) (.string (txt c.domain)) false).run Try.prog W11 = .ok (.int .i64 ((pn : Int) + 1)) W11 := by
    obtain ⟨D, h1, h2⟩ := HP11.out
    obtain ⟨q, hr, hq, _⟩ := h1.lookup_int strLaw Try.underlying66 Try.underlying3 (by kernel_rfl) (str_key c.domain HC.out.2.1)
    rw [h2, perD_snoc, if_pos rfl, ← HPN.out] at hq
    injection hq with hq
    injection hq with _ hq
    rw [show ((pn : Int) + 1) = q by rw [← hq]; omega]
    exact hr
  have K11 : Hid (LRow W11 w.heap.size [jv, .int .i64 nx, .map (some a), .map (some b), .map (some m)]) := lrow_but K10.out (fun k hk hne => HG11.out.block k hk (fun e => hne (Option.some.inj e))) (by have := HLA.out; omega) (cell_in (K10.out.cell 1 rfl))
  have C11 : Hid (LRow W11 (w.heap.size + 1) (ckC c)) := lrow_but C10.out (fun k hk hne => HG11.out.block k hk (fun e => hne (Option.some.inj e))) (by have := HLA.out; omega) (cell_in (C10.out.cell 0 rfl))
  have FIN : Hid (MAt W11 a b m (l ++ [c]) ∧ Below a w W11 ∧ Past m w W11) := by
    have hL := HLA.out
    have g10 := HG10.out
    have g11 := HG11.out
    have e1 := H9.out.1.lt
    have e2 := HO10.out.lt
    have s10 := g10.size
    refine ⟨⟨?_, ?_, ?_⟩, ?_, ?_⟩
    · rw [List.length_append]
      exact map_kept (map_kept H9.out.1 (g10.block a e1 (fun e => by have := Option.some.inj e; omega))) (g11.block a (Nat.lt_of_lt_of_le e1 s10) (fun e => by have := Option.some.inj e; omega))
    · rw [List.length_append]
      exact map_kept HO10.out (g11.block b e2 (fun e => by have := Option.some.inj e; omega))
    · rw [List.length_append]
      exact HP11.out
    · have b6 := F6.out.1
      have b9 := b6.trans H9.out.2.1
      have hs9 : a ≤ W9.heap.size := Nat.le_of_lt e1
      exact (b9.trans (Below.of_grown9' g10 hs9 (by omega))).trans (Below.of_grown9' g11 (Nat.le_trans hs9 s10) (by omega))
    · intro k hk hs
      have p6 := F6.out.2 k hk hs
      have hs6 := F6.out.1.size
      have k9 := H9.out.2.2 k (by omega) (by omega)
      have z9 := H9.out.2.1.size
      have k10 := g10.block k (by omega) (fun e => by have := Option.some.inj e; omega)
      have k11 := g11.block k (by omega) (fun e => by have := Option.some.inj e; omega)
      rw [k11, k10, k9, p6]
  clear hown10 hgrow10 hper11 hgrow11 HU11
  have x0 := C9.out.cell 0 rfl
  have x1 := C9.out.cell 1 rfl
  have x2 := C9.out.cell 2 rfl
  have x3 := C9.out.cell 3 rfl
  have x4 := C9.out.cell 4 rfl
  have x5 := C9.out.cell 5 rfl
  have x6 := C9.out.cell 6 rfl
  have x7 := C9.out.cell 7 rfl
  have x8 := C9.out.cell 8 rfl
  have x9 := C9.out.cell 9 rfl
  have x10 := C9.out.cell 10 rfl
  have x11 := C9.out.cell 11 rfl
  have x12 := C9.out.cell 12 rfl
  have y0 := K9.out.cell 0 rfl
  have y1 := K9.out.cell 1 rfl
  have y2 := K9.out.cell 2 rfl
  have y3 := K9.out.cell 3 rfl
  have y4 := K9.out.cell 4 rfl
  go_upto_region 11 with fail
  clear x0 x1 x2 x3 x4 x5 x6 x7 x8 x9 x10 x11 x12 y0 y1 y2 y3 y4
  have x0 := C10.out.cell 0 rfl
  have x1 := C10.out.cell 1 rfl
  have x2 := C10.out.cell 2 rfl
  have x3 := C10.out.cell 3 rfl
  have x4 := C10.out.cell 4 rfl
  have x5 := C10.out.cell 5 rfl
  have x6 := C10.out.cell 6 rfl
  have x7 := C10.out.cell 7 rfl
  have x8 := C10.out.cell 8 rfl
  have x9 := C10.out.cell 9 rfl
  have x10 := C10.out.cell 10 rfl
  have x11 := C10.out.cell 11 rfl
  have x12 := C10.out.cell 12 rfl
  have y0 := K10.out.cell 0 rfl
  have y1 := K10.out.cell 1 rfl
  have y2 := K10.out.cell 2 rfl
  have y3 := K10.out.cell 3 rfl
  have y4 := K10.out.cell 4 rfl
  go_upto_region 12 with fail
  clear x0 x1 x2 x3 x4 x5 x6 x7 x8 x9 x10 x11 x12 y0 y1 y2 y3 y4
  have x0 := C11.out.cell 0 rfl
  have x1 := C11.out.cell 1 rfl
  have x2 := C11.out.cell 2 rfl
  have x3 := C11.out.cell 3 rfl
  have x4 := C11.out.cell 4 rfl
  have x5 := C11.out.cell 5 rfl
  have x6 := C11.out.cell 6 rfl
  have x7 := C11.out.cell 7 rfl
  have x8 := C11.out.cell 8 rfl
  have x9 := C11.out.cell 9 rfl
  have x10 := C11.out.cell 10 rfl
  have x11 := C11.out.cell 11 rfl
  have x12 := C11.out.cell 12 rfl
  have y0 := K11.out.cell 0 rfl
  have y1 := K11.out.cell 1 rfl
  have y2 := K11.out.cell 2 rfl
  have y3 := K11.out.cell 3 rfl
  have y4 := K11.out.cell 4 rfl
  by_cases h4 : 4 < pn + 1
  · have HZ2 : Hid (z = 2) := by show _ = _; rw [HZ1.out, if_pos h4]
    go_wp2_with fail
    go_ret
    exact ⟨by rw [HZ2.out]; rfl, fun h => absurd (HZ2.out.symm.trans h) (by decide), FIN.out.2.1, FIN.out.2.2⟩
  · have HZ2 : Hid (z = 0) := by show _ = _; rw [HZ1.out, if_neg h4]
    go_wp2_with fail
    go_ret
    exact ⟨by rw [HZ2.out]; rfl, fun h => FIN.out.1, FIN.out.2.1, FIN.out.2.2⟩
end Go.Proofs.Ytcfdajaideidkaa
namespace Go.Proofs.Ytcfdajaideidkaa
open Go.RowKit Go.Maps
set_option linter.all false
set_option maxRecDepth 100000
set_option maxRecDepth 100000

/-- a jar whose texts and numbers are those of the machine -/
structure JaOk (m : Nat) (j : Ja) : Prop where
  len : j.cks.length ≤ m
  cks : ∀ c ∈ j.cks, CkOk m c
  next : i64B j.next
theorem CkOk.key {m : Nat} {c : Ck} (h : CkOk m c) (hm : m ≤ maxLen) : KeyOk c := ⟨Nat.le_trans h.name hm, Nat.le_trans h.domain hm, Nat.le_trans h.path hm⟩
set_option maxHeartbeats 16000000 in
theorem jarCheck_any (j : Ja) (v : Value) (w : World) (hr : Rows w v ckC j.cks) (ho : JaOk 140737488351232 j) :
    Calls Try.prog 13 #[.agg #[v, .int .i64 j.next]] w fun e w' => e = .returned (.int .i64 (chJ j)) ∧ Below w.heap.size w w' := by
  obtain ⟨ad, cap, rfl⟩ := hr.shape
  obtain ⟨z, hz⟩ : ∃ z, z = chJ j := ⟨_, rfl⟩
  rw [← hz]
  have HZ : Hid _ := hz
  obtain ⟨nx, hnx⟩ : ∃ nx, nx = j.next := ⟨_, rfl⟩
  have HNX : Hid _ := hnx
  obtain ⟨l, hl⟩ : ∃ l, l = j.cks := ⟨_, rfl⟩
  have HL : Hid _ := hl
  have HO : Hid (∀ c ∈ l, CkOk 140737488351232 c) := by rw [hl]; exact ho.cks
  have hm : l.length ≤ 140737488351232 := by rw [hl]; exact ho.len
  have hi := ho.next
  rw [← hnx] at hi ⊢
  rw [← hl] at hr ⊢
  obtain ⟨n, hn⟩ : ∃ n, n = l.length := ⟨_, rfl⟩
  have HN : Hid _ := hn
  rw [← hn] at hm ⊢
  have HR : Hid (Rows w (.slice ad n cap) ckC l) := by rw [HN.out]; exact hr
  unfold i64B at hi
  have hmm := @run_makeMap Try.prog
  obtain ⟨W0, hW0⟩ : ∃ W0, W0 = w.alloc (.cells #[.slice ad n cap, .int .i64 nx] 24) := ⟨_, rfl⟩
  have HB0 : Hid (Below w.heap.size w W0) := by rw [hW0]; exact (Below.refl _ w).alloc (Nat.le_refl _) _
  have HLJ : Hid (LRow W0 w.heap.size [.slice ad n cap, .int .i64 nx]) := by
    rw [hW0]
    exact LRow.new w [.slice ad n cap, .int .i64 nx] 24
  have HLT : Hid (W0.heap.size = w.heap.size + 1) := by show _ = _; rw [hW0]; simp
  have HW0 : Hid _ := hW0
  clear hz hnx hl hn hr ho hW0
  by_cases h12 : 12 < n
  · have HZ2 : Hid (z = 2) := by show _ = _; rw [HZ.out]; unfold chJ; rw [if_pos (by rw [← HL.out, ← HN.out]; exact h12)]
    go_enter Try.func13, Try.ntmps13
    go_upto_region 1 with fail
    rw [← HW0.out]
    clear HW0
    have p0 := HLJ.out.cell 0 rfl
    go_wp2_with fail
    go_ret
    exact ⟨by rw [HZ2.out]; rfl, HB0.out⟩
  have HZ1 : Hid (z = if chKs nx [] l = 0 then (if nx < 0 ∨ 1099511627776 < nx then 3 else 0) else chKs nx [] l) := by show _ = _; rw [HZ.out]; unfold chJ; rw [if_neg (by rw [← HL.out, ← HN.out]; exact h12), ← HL.out, ← HNX.out]
  -- the maps and the checker
  obtain ⟨V, hV⟩ : ∃ V, V = ((W0.alloc (.map #[] 0)).alloc (.map #[] 0)).alloc (.map #[] 0) := ⟨_, rfl⟩
  obtain ⟨W1, hW1⟩ : ∃ W1, W1 = V.alloc (.cells #[.slice ad n cap, .int .i64 nx, .map (some (w.heap.size + 1)), .map (some (w.heap.size + 1 + 1)), .map (some (w.heap.size + 1 + 1 + 1))] 68) := ⟨_, rfl⟩
  have hVs : V.heap.size = w.heap.size + 4 := by rw [hV]; simp [HLT.out]
  have HBV : Hid (Below w.heap.size w V) := by
    have h0 := HB0.out
    have hs := HLT.out
    show Below _ _ _
    rw [hV]
    exact ((h0.alloc (by omega) _).alloc (by simp; omega) _).alloc (by simp; omega) _
  have HB1 : Hid (Below w.heap.size w W1) := by show Below _ _ _; rw [hW1]; exact HBV.out.alloc (by omega) _
  have HM1 : Hid (MAt W1 (w.heap.size + 1) (w.heap.size + 1 + 1) (w.heap.size + 1 + 1 + 1) []) := by
    have hs := HLT.out
    refine ⟨?_, ?_, DataW.map [], ?_, fun d => rfl⟩
    · rw [hW1, hV]
      have k := ((((World.ownsMap_made (H := Unit) W0 Try.prog 90 (unitElem (H := Unit))).alloc (.map #[] 0)).alloc (.map #[] 0)).alloc (.cells #[.slice ad n cap, .int .i64 nx, .map (some (w.heap.size + 1)), .map (some (w.heap.size + 1 + 1)), .map (some (w.heap.size + 1 + 1 + 1))] 68))
      rw [hs] at k; exact k
    · rw [hW1, hV]
      have k := (((World.ownsMap_made (H := Unit) (W0.alloc (.map #[] 0)) Try.prog 3 (unitElem (H := Unit))).alloc (.map #[] 0)).alloc (.cells #[.slice ad n cap, .int .i64 nx, .map (some (w.heap.size + 1)), .map (some (w.heap.size + 1 + 1)), .map (some (w.heap.size + 1 + 1 + 1))] 68))
      rw [show (W0.alloc (.map #[] 0)).heap.size = w.heap.size + 1 + 1 from by simp [hs]] at k; exact k
    · rw [hW1, hV]
      have k := ((World.ownsMap_made (H := Unit) ((W0.alloc (.map #[] 0)).alloc (.map #[] 0)) Try.prog 9 (plainElem (H := Unit) Try.prog 3)).alloc (.cells #[.slice ad n cap, .int .i64 nx, .map (some (w.heap.size + 1)), .map (some (w.heap.size + 1 + 1)), .map (some (w.heap.size + 1 + 1 + 1))] 68))
      rw [show ((W0.alloc (.map #[] 0)).alloc (.map #[] 0)).heap.size = w.heap.size + 1 + 1 + 1 from by simp [hs]] at k; exact k
  have HK1 : Hid (LRow W1 (w.heap.size + 1 + 1 + 1 + 1) [.slice ad n cap, .int .i64 nx, .map (some (w.heap.size + 1)), .map (some (w.heap.size + 1 + 1)), .map (some (w.heap.size + 1 + 1 + 1))]) := by
    have k := LRow.new V [.slice ad n cap, .int .i64 nx, .map (some (w.heap.size + 1)), .map (some (w.heap.size + 1 + 1)), .map (some (w.heap.size + 1 + 1 + 1))] 68
    rw [hVs] at k
    show LRow _ _ _
    rw [hW1]; exact k
  have HS1 : Hid (W1.heap.size = w.heap.size + 5) := by show _ = _; rw [hW1]; simp [hVs]
  have HV : Hid _ := hV
  have HW1 : Hid _ := hW1
  clear hV hW1 hVs
  go_enter Try.func13, Try.ntmps13
  go_upto_region 1 with fail
  rw [← HW0.out]
  clear HW0
  have p0 := HLJ.out.cell 0 rfl
  have p1 := HLJ.out.cell 1 rfl
  have hs0 := HLT.out
  go_upto_region 4 with fail
  rw [← HV.out, ← HW1.out]
  clear HV HW1 p0 p1
  have k0 := HK1.out.cell 0 rfl
  clear hs0
  go_wp2_with fail
  clear k0
  go_loopw [20] (fun i wr => ∃ k : Nat, k ≤ n ∧ i = .int .i64 k ∧ Hid (∀ (j : Nat) x, j < k → l[j]? = some x → chK nx (l.take j) x = 0) ∧ Hid (Below w.heap.size w wr) ∧ Hid (MAt wr (w.heap.size + 1) (w.heap.size + 1 + 1) (w.heap.size + 1 + 1 + 1) (l.take k)) ∧ Hid (LRow wr (w.heap.size + 1 + 1 + 1 + 1) [.slice ad n cap, .int .i64 nx, .map (some (w.heap.size + 1)), .map (some (w.heap.size + 1 + 1)), .map (some (w.heap.size + 1 + 1 + 1))])) (fun i _ => n - (intOf i).toNat)
  case atStart => exact ⟨0, Nat.zero_le _, rfl, fun _ _ h _ => absurd h (by omega), HB1.out, HM1.out, HK1.out⟩
  case round =>
    obtain ⟨k, hk, rfl, hall, hb, hM, hK⟩ := hrel
    by_cases hlt : k < n
    · obtain ⟨c, e1⟩ : ∃ r, l[k]? = some r := ⟨_, List.getElem?_eq_getElem (by rw [← HN.out]; exact hlt)⟩
      obtain ⟨bl, ol, rfl, hbl, hcell⟩ := Rows.at HR.out rfl 12 (fun _ => rfl) k c e1
      have cc : ∀ i u, (ckC c)[i]? = some u → wr.cell? ⟨bl, ol + k * 13 + i, none⟩ = some u := fun i u h => (hb.out.cell (p := ⟨bl, ol + k * 13 + i, none⟩) hbl).trans (hcell i u h)
      have c0 := cc 0 _ rfl
      have c1 := cc 1 _ rfl
      have c2 := cc 2 _ rfl
      have c3 := cc 3 _ rfl
      have c4 := cc 4 _ rfl
      have c5 := cc 5 _ rfl
      have c6 := cc 6 _ rfl
      have c7 := cc 7 _ rfl
      have c8 := cc 8 _ rfl
      have c9 := cc 9 _ rfl
      have c10 := cc 10 _ rfl
      have c11 := cc 11 _ rfl
      have c12 := cc 12 _ rfl
      rw [Nat.add_zero] at c0
      obtain ⟨y, hy⟩ : ∃ y, y = chK nx (l.take k) c := ⟨_, rfl⟩
      have HCO : Hid (CkOk 140737488351232 c) := HO.out c (List.mem_of_getElem? e1)
      obtain ⟨W2, hW2⟩ : ∃ W2, W2 = wr.alloc (.cells #[.string (txt c.name), .string (txt c.value), .string (txt c.domain), .string (txt c.path), .bool c.hostOnly, .bool c.secure, .bool c.httpOnly, .bool c.lasting, .int .i64 c.site, .int .i64 c.expiry, .int .i64 c.created, .int .i64 c.used, .int .i64 c.no] 34) := ⟨_, rfl⟩
      have HB2 : Hid (Below wr.heap.size wr W2) := by rw [hW2]; exact (Below.refl _ wr).alloc (Nat.le_refl _) _
      have HC2 : Hid (LRow W2 wr.heap.size (ckC c)) := by rw [hW2]; exact LRow.new wr (ckC c) 34
      have HK2 : Hid (LRow W2 (w.heap.size + 1 + 1 + 1 + 1) [.slice (some ⟨bl, ol, none⟩) n cap, .int .i64 nx, .map (some (w.heap.size + 1)), .map (some (w.heap.size + 1 + 1)), .map (some (w.heap.size + 1 + 1 + 1))]) := hK.out.below HB2.out (cell_in (hK.out.cell 1 rfl))
      have HT : Hid (l.take (k + 1) = l.take k ++ [c]) := by show _ = _; rw [List.take_succ, e1]; rfl
      have HS2 : Hid (w.heap.size ≤ wr.heap.size) := hb.out.size
      have KC : Hid (Calls Try.prog 36 #[.agg #[.slice (some ⟨bl, ol, none⟩) n cap, .int .i64 nx, .map (some (w.heap.size + 1)), .map (some (w.heap.size + 1 + 1)), .map (some (w.heap.size + 1 + 1 + 1))], .agg #[.string (txt c.name), .string (txt c.value), .string (txt c.domain), .string (txt c.path), .bool c.hostOnly, .bool c.secure, .bool c.httpOnly, .bool c.lasting, .int .i64 c.site, .int .i64 c.expiry, .int .i64 c.created, .int .i64 c.used, .int .i64 c.no]] W2 fun e w' => e = .returned (.int .i64 y) ∧ (y = 0 → MAt w' (w.heap.size + 1) (w.heap.size + 1 + 1) (w.heap.size + 1 + 1 + 1) (l.take (k + 1))) ∧ Below (w.heap.size + 1) W2 w' ∧ Past (w.heap.size + 1 + 1 + 1) W2 w') := by
        rw [hy, HT.out]
        exact jcheck_any nx (.slice (some ⟨bl, ol, none⟩) n cap) _ _ _ (l.take k) c W2 (hM.out.below HB2.out) (Nat.lt_succ_self _) (Nat.lt_succ_self _) (fun x hx => (HO.out x (List.mem_of_mem_take hx)).key (by decide)) (by rw [List.length_take]; omega) (HCO.out.key (by decide)) HCO.out.no
      have HY : Hid _ := hy
      have HE : Hid _ := e1
      have HW2 : Hid _ := hW2
      clear e1 hcell hbl cc hy hW2
      go_upto_region 7 with fail
      rw [← HW2.out]
      clear HW2 c0 c1 c2 c3 c4 c5 c6 c7 c8 c9 c10 c11 c12
      have x0 := HC2.out.cell 0 rfl
      have x1 := HC2.out.cell 1 rfl
      have x2 := HC2.out.cell 2 rfl
      have x3 := HC2.out.cell 3 rfl
      have x4 := HC2.out.cell 4 rfl
      have x5 := HC2.out.cell 5 rfl
      have x6 := HC2.out.cell 6 rfl
      have x7 := HC2.out.cell 7 rfl
      have x8 := HC2.out.cell 8 rfl
      have x9 := HC2.out.cell 9 rfl
      have x10 := HC2.out.cell 10 rfl
      have x11 := HC2.out.cell 11 rfl
      have x12 := HC2.out.cell 12 rfl
      have y0 := HK2.out.cell 0 rfl
      have y1 := HK2.out.cell 1 rfl
      have y2 := HK2.out.cell 2 rfl
      have y3 := HK2.out.cell 3 rfl
      have y4 := HK2.out.cell 4 rfl
      go_wp2_with fail
      refine KC.out.mono ?_
      rintro e w3 ⟨rfl, hm3, hb3, hp3⟩
      clear x0 x1 x2 x3 x4 x5 x6 x7 x8 x9 x10 x11 x12 y0 y1 y2 y3 y4
      have HB3 : Hid (Below w.heap.size w w3) := (hb.out.trans (HB2.out.mono HS2.out)).trans (hb3.mono (Nat.le_succ _))
      have HK3 : Hid (LRow w3 (w.heap.size + 1 + 1 + 1 + 1) [.slice (some ⟨bl, ol, none⟩) n cap, .int .i64 nx, .map (some (w.heap.size + 1)), .map (some (w.heap.size + 1 + 1)), .map (some (w.heap.size + 1 + 1 + 1))]) := HK2.out.past hp3 (Nat.lt_succ_self _)
      have HM3 : Hid (y = 0 → MAt w3 (w.heap.size + 1) (w.heap.size + 1 + 1) (w.heap.size + 1 + 1 + 1) (l.take (k + 1))) := hm3
      clear hm3 hb3 hp3 KC
      by_cases hy0 : y = 0
      · have q : (y != 0) = false := by rw [hy0]; rfl
        have HA : Hid (∀ (j : Nat) x, j < k + 1 → l[j]? = some x → chK nx (l.take j) x = 0) := fun j x hj hx => by
          by_cases e : j = k
          · subst e
            rw [HE.out] at hx
            injection hx with hx
            rw [← hx, ← HY.out]; exact hy0
          · exact hall.out j x (by omega) hx
        have HM4 : Hid (MAt w3 (w.heap.size + 1) (w.heap.size + 1 + 1) (w.heap.size + 1 + 1 + 1) (l.take (k + 1))) := HM3.out hy0
        clear hy0
        go_wp2_with fail
        go_roundw
        case rel => exact ⟨k + 1, by omega, by go_num, HA, HB3, HM4, HK3⟩
        case measure => simp [intOf]; omega
      · have q : (y != 0) = true := by rw [bne_iff_ne]; exact hy0
        have HZY : Hid (z = y) := by
          show _ = _
          have h := chKs_at nx l k c HE.out (fun j x hj hx => hall.out j x hj hx)
          rw [← HY.out, if_neg hy0] at h
          rw [HZ1.out, h, if_neg hy0]
        clear hy0
        go_wp2_with fail
        go_ret
        exact ⟨by rw [HZY.out]; rfl, HB3.out⟩
    · have HZ3 : Hid (z = if nx < 0 ∨ 1099511627776 < nx then 3 else 0) := by
        show _ = _
        rw [HZ1.out, if_pos (chKs_all nx l fun j x hx => hall.out j x (by have := (List.getElem?_eq_some_iff.1 hx).1; rw [← HN.out] at this; omega) hx)]
      have y0 := hK.out.cell 0 rfl
      have y1 := hK.out.cell 1 rfl
      have y2 := hK.out.cell 2 rfl
      have y3 := hK.out.cell 3 rfl
      have y4 := hK.out.cell 4 rfl
      clear hall hk hM hK
      by_cases g1 : 0 ≤ nx ∧ nx ≤ 1099511627776
      · have e1 : (decide (0 ≤ nx) && decide (nx ≤ 1099511627776)) = true := by simp; exact g1
        have HZ4 : Hid (z = 0) := by show _ = _; rw [HZ3.out, if_neg (by omega)]
        clear g1
        go_wp2_with fail
        refine (jwithin_any _ _ _ _).mono ?_
        rw [e1]
        rintro e w3 ⟨rfl, hw3⟩
        subst hw3
        go_wp2_with fail
        go_ret
        exact ⟨by rw [HZ4.out]; rfl, hb.out⟩
      · have e1 : (decide (0 ≤ nx) && decide (nx ≤ 1099511627776)) = false := by
          cases h : (decide (0 ≤ nx) && decide (nx ≤ 1099511627776))
          · rfl
          · simp at h; exact absurd h g1
        have HZ4 : Hid (z = 3) := by show _ = _; rw [HZ3.out, if_pos (by omega)]
        clear g1
        go_wp2_with fail
        refine (jwithin_any _ _ _ _).mono ?_
        rw [e1]
        rintro e w3 ⟨rfl, hw3⟩
        subst hw3
        go_wp2_with fail
        go_ret
        exact ⟨by rw [HZ4.out]; rfl, hb.out⟩
end Go.Proofs.Ytcfdajaideidkaa
namespace Go.Proofs.Ytcfdajaideidkaa
open Go.RowKit
set_option linter.all false
set_option maxRecDepth 100000
set_option maxRecDepth 100000

structure JB (W : World) (B : Nat) (j : Ja) (v : Value) : Prop where
  row : LRow W B (jaL j v)
  rows : Rows W v ckC j.cks
theorem JB.below {W W' : World} {B : Nat} {j : Ja} {v : Value} (h : JB W B j v) (hb : Below W.heap.size W W') : JB W' B j v := ⟨h.row.below hb (by have h1 := h.row.cell 1 rfl; exact cell_in h1), Rows.below h.rows hb (Nat.le_refl _)⟩
theorem JB.new (w : World) (j : Ja) (v : Value) (t : TypeId) (hr : Rows w v ckC j.cks) : JB (w.alloc (.cells (jaL j v).toArray t)) w.heap.size j v :=
  ⟨LRow.new w _ t, Rows.below hr ((Below.refl _ _).alloc (Nat.le_refl _) _) (Nat.le_refl _)⟩
/-- any cells in a block -/
structure QB (W : World) (B : Nat) (l : List Value) : Prop where
  row : LRow W B l
  lt : B < W.heap.size
theorem QB.below {W W' : World} {B : Nat} {l : List Value} (h : QB W B l) (hb : Below W.heap.size W W') : QB W' B l := ⟨h.row.below hb h.lt, Nat.lt_of_lt_of_le h.lt hb.size⟩
theorem QB.new (w : World) (l : List Value) (t : TypeId) : QB (w.alloc (.cells l.toArray t)) w.heap.size l := ⟨LRow.new w l t, by simp⟩
theorem cellL_new (W : World) (B : Nat) (l : List Value) (t : TypeId) (hB : B = W.heap.size) : ∀ j u, l[j]? = some u → (W.alloc (.cells l.toArray t)).cell? ((⟨B, 0, none⟩ : Addr).add j) = some u := by
  subst hB
  intro j u hj
  rw [add_none5, Nat.zero_add]
  exact (LRow.new W l t).cell j hj
theorem infoCk : ∃ i, Try.prog.info? 34 = some i ∧ i.zero = some (.agg #[.string ⟨#[]⟩, .string ⟨#[]⟩, .string ⟨#[]⟩, .string ⟨#[]⟩, .bool false, .bool false, .bool false, .bool false, .int .i64 0, .int .i64 0, .int .i64 0, .int .i64 0, .int .i64 0]) ∧ i.size = 13 ∧ i.bytes = 112 := by
  have h : (Try.prog.info? 34).map (fun i => (i.zero, i.size, i.bytes)) = some (some (.agg #[.string ⟨#[]⟩, .string ⟨#[]⟩, .string ⟨#[]⟩, .string ⟨#[]⟩, .bool false, .bool false, .bool false, .bool false, .int .i64 0, .int .i64 0, .int .i64 0, .int .i64 0, .int .i64 0]), 13, 112) := by kernel_rfl
  cases hx : Try.prog.info? 34 with
  | none => rw [hx] at h; cases h
  | some i =>
    rw [hx] at h
    injection h with h
    injection h with h1 h2
    injection h2 with h2 h3
    exact ⟨i, rfl, h1, h2, h3⟩
end Go.Proofs.Ytcfdajaideidkaa
