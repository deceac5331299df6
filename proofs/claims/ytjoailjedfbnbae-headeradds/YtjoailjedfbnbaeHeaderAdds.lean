/- HeaderAdds: for every text that is read and every attribute that may be written, a part more at the text's end is that attribute more at the end, and nothing else changes (or it is too much). No condition. -/
import Derived.Test.YtjoailjedfbnbaeHeaderH
import Derived.Test.YtjoailjedfbnbaeOpen
import Derived.Test.YtjoailjedfbnbaeOpenH
import Derived.Deep.RegionLaw
import Derived.Deep.AppendLies
namespace Go.Proofs.Ytjoailjedfbnbae.headerAdds
open Go.ChangeShapes Go.WideShapes Go.ChangeAt Go.RowKit
open Go.ChangeMaps (open_string shut_string)
set_option linter.all false

theorem run_append_none' {P : Program} {w : World} (base : Nat) (t ty e : TypeId) (i : TypeInfo) (size c : Nat) (ht : P.underlying t = some (.slice e)) (hi : P.info? e = some i)
    (v : Value) (n : Nat) (xs : List Value) (hown : w.ownsRow base e size v n xs) :
    (Builtin.append_ #[t, t] ty #[v, .slice none 0 c]).run P w = .ok v w := by
  rcases hown.2 with ⟨rfl, rfl⟩ | ⟨g, cap, cur, rfl, _, _, hnc, _⟩
  · simp [Builtin.append_, run_underlying ht, sizeOf, typeInfo, hi, Builtin.lenOf, Builtin.firstCells]
  · simp [Builtin.append_, run_underlying ht, sizeOf, typeInfo, hi, Builtin.lenOf, Builtin.firstCells, hnc, storeCells]
theorem step_append_reads {P : Program} {w : World} {ops : Array Oper} {o : Oper} {a : Act} {K : Act → World → Prop} {Q : Exit → Act → World → Prop} {E : Prop} (hgd : o.guard = none) (s x : Operand) (t : TypeId)
    (ho : o.op = .call { callee := .builtin .append, args := #[s, x], argTypes := #[t, t] })
    (base : Nat) (e : TypeId) (i : TypeInfo) (z : Value) (size bytes : Nat) (ht : P.underlying t = some (.slice e)) (hi : P.info? e = some i) (hz : i.zero = some z)
    (hsize : i.size = size) (hby : i.bytes = bytes) (hzs : z.cells.size = size) (hsz : 0 < size)
    (v : Value) (n : Nat) (xs : List Value) (hs : a.eval s = v) (hown : w.ownsRow base e size v n xs) (vx : Value) (hx : a.eval x = vx) (m : Nat) (news : List Value)
    (hrd : Reads w vx m news) (hl : news.length = m * size) (h1 : ∀ u ∈ news, u.oneCell' = true)
    (h63 : n + m ≤ maxLen) (hbytes : (n + m) * bytes ≤ 140737488355328) (hbase : base ≤ w.heap.size)
    (h : ∀ v' w', w'.ownsRow base e size v' (n + m) (xs ++ news) → w.grownBy w' v.ownBlock → K (a.put o.dst v') w') :
    if Region.wanted o (yielded ops a.tmps) = true then Oper.wp P o a w K Q else E := by
  have hw : Region.wanted o (yielded ops a.tmps) = true := by simp [Region.wanted, hgd]
  rw [if_pos hw]
  obtain ⟨ad, c, rfl, hr⟩ := hrd
  cases ad with
  | none =>
    have hnil : news = [] := by
      rcases hr with hr | ⟨b, off, e, _⟩
      · exact hr
      · cases e
    subst hnil
    have hm : m = 0 := by
      rcases Nat.eq_zero_or_pos m with h | h
      · exact h
      · have := Nat.mul_pos h hsz; simp at hl; omega
    subst hm
    have hrun := run_append_none' (P := P) (w := w) base t o.type e i size c ht hi v n xs hown
    unfold Oper.wp execOp
    simp only [ho, resolve, invoke, builtin, Sem.run_bind, Sem.run_pure, Result.andThen_ok, List.map_toArray, List.map_cons, List.map_nil, hs, hx, hrun]
    exact h v w (by simpa using hown) ⟨rfl, rfl, rfl, Nat.le_refl _, fun _ _ _ => rfl⟩
  | some ad =>
    refine wp_append_own w s x t ho base e i z size bytes ht hi hz hsize hby hzs hsz v n xs hs hown ad m c news hx hl ?_ h1 h63 hbytes hbase (fun v' w' h2 h3 _ => h v' w' h2 h3)
    intro j u hj
    rcases hr with hr | ⟨b, off, e, hr⟩
    · subst hr; cases hj
    · injection e with e
      subst e
      rw [add_none]
      exact hr j u hj
theorem reads_set {W : World} {v : Value} {n : Nat} {cs : List Value} {X k : Nat} {y old : Value} (h : Reads W v n cs) (ho : W.cell? ⟨X, k, none⟩ = some old) (hne : old ∉ cs) : Reads (W.setCell ⟨X, k, none⟩ y) v n cs := by
  obtain ⟨ad, cap, rfl, h⟩ := h
  refine ⟨ad, cap, rfl, ?_⟩
  rcases h with h | ⟨b, off, rfl, h⟩
  · exact .inl h
  · refine .inr ⟨b, off, rfl, fun j u hj => ?_⟩
    have hc := h j u hj
    rw [World.cell?_setCell_other _ _ _ _ (by
      intro e
      rw [← e, ho] at hc
      injection hc with hc
      exact hne (hc ▸ List.mem_of_getElem? hj))]
    exact hc
theorem slice_no (l : List Attr) (ad : Option Addr) (n c : Nat) : (Value.slice ad n c) ∉ l.flatMap attrF := by
  intro h
  obtain ⟨b, _, hu⟩ := List.mem_flatMap.1 h
  simp [attrF] at hu
theorem _root_.Go.Proofs.Ytjoailjedfbnbae.S3.set2' {W : World} {B : Nat} {a b c : Value} (h : S3 W B a b c) (z : Value) : S3 (W.setCell ⟨B, 2, none⟩ z) B a b z :=
  ⟨(World.cell?_setCell_other _ _ _ _ (by intro e; injection e with _ e; cases e)).trans h.c0, (World.cell?_setCell_other _ _ _ _ (by intro e; injection e with _ e; cases e)).trans h.c1, World.cell?_setCell_same _ _ _ h.c2,
    (World.frozen?_setCell _ _ _ _).trans h.f0, (World.frozen?_setCell _ _ _ _).trans h.f1, (World.frozen?_setCell _ _ _ _).trans h.f2⟩
theorem check_one (a : Attr) : checkL ([97], [], [a]) = if attrOk a then 0 else 1 := by
  unfold checkL rawOk
  simp only [List.all_cons, List.all_nil, Bool.and_true, List.length_cons, List.length_nil]
  rw [show headOk ([97], [], [a]) = true from rfl]
  cases attrOk a <;> rfl
theorem joined (s : ByteArray) (a : Attr) : (s ++ (⟨#[59]⟩ : ByteArray) ++ txt a.1 ++ (⟨#[61]⟩ : ByteArray) ++ txt a.2).data.toList = s.data.toList ++ 59 :: (a.1 ++ 61 :: a.2) := by
  have e : s = txt s.data.toList := rfl
  have e1 : (⟨#[59]⟩ : ByteArray) = txt [59] := rfl
  have e2 : (⟨#[61]⟩ : ByteArray) = txt [61] := rfl
  rw [e, e1, e2, txt_append, txt_append, txt_append, txt_append]
  simp [txt]
set_option maxRecDepth 100000 in
set_option maxHeartbeats 4000000 in
theorem walk (s : ByteArray) (a : Attr) (w : World) (hs0 : s.size ≤ 140737488351232) (ha : a.1.length ≤ 140737488351232 ∧ a.2.length ≤ 140737488351232) :
    Calls Try.prog 4 #[.string s, .agg #[.string (txt a.1), .string (txt a.2)]] w fun e w' => e = .returned (.bool true) ∧ Below w.heap.size w w' := by
  obtain ⟨an, av⟩ := a
  have hs1 : (txt an).size ≤ 140737488351232 := ha.1
  have hs2 : (txt av).size ≤ 140737488351232 := ha.2
  simp only
  have HS : Hid (s.size ≤ maxLen) := by show _ ≤ _; unfold maxLen; omega
  obtain ⟨q, hq⟩ : ∃ q, q = rdR s.data.toList := ⟨_, rfl⟩
  obtain ⟨z, hz⟩ : ∃ z, z = rdE s.data.toList := ⟨_, rfl⟩
  have HQ : Hid _ := hq
  have HZ : Hid _ := hz
  have KA : Hid (∀ a ∈ (([97], [], [(an, av)]) : Raw).2.2, a.1.length ≤ maxLen ∧ a.2.length ≤ maxLen) := fun a h => by
    simp at h; subst h
    have h1 : an.length ≤ 140737488351232 := hs1
    have h2 : av.length ≤ 140737488351232 := hs2
    unfold maxLen; simp only; omega
  have hb0 : Below w.heap.size w (w.alloc (.cells #[.string (txt an), .string (txt av)] 35)) := (Below.refl _ _).alloc (Nat.le_refl _) _
  have P0 : Hid (P2c (w.alloc (.cells #[.string (txt an), .string (txt av)] 35)) w.heap.size (.string (txt an)) (.string (txt av))) := P2c.new w _ _ _
  by_cases h0 : z = 0
  · have hE : rdE s.data.toList = 0 := by rw [← hz]; exact h0
    have HEE : Hid _ := hE
    have k3 : q.2.2.length ≤ 12 := by rw [hq]; exact (read_sizes hE).2.2.1
    have K3 : Hid (q.2.2.length ≤ maxLen) := by show _ ≤ _; unfold maxLen; omega
    obtain ⟨c, hc⟩ : ∃ c, c = checkL ([97], [], [(an, av)]) := ⟨_, rfl⟩
    have HC : Hid _ := hc
    clear hz hE
    subst h0
    go_enter Try.func4, Try.ntmps4
    go_wp2_with fail
    refine (hRead_any s _ HS.out).mono ?_
    rw [← HQ.out, ← HZ.out]
    rintro e w1 ⟨v1, rfl, r1, hb1⟩
    have R1 : Hid (Rows w1 v1 attrF q.2.2) := r1
    obtain ⟨ad1, cap1, rfl⟩ := r1.shape
    have hx1 : Below w1.heap.size w1 (w1.alloc (.cells #[.string (txt q.1), .string (txt q.2.1), .slice ad1 q.2.2.length cap1] 24)) := (Below.refl _ _).alloc (Nat.le_refl _) _
    have S1 : Hid (S3 (w1.alloc (.cells #[.string (txt q.1), .string (txt q.2.1), .slice ad1 q.2.2.length cap1] 24)) w1.heap.size (.string (txt q.1)) (.string (txt q.2.1)) (.slice ad1 q.2.2.length cap1)) := S3.new w1 _ _ _ _
    have P1 : Hid _ := (P0.out.below hb1 P0.out.lt).below hx1 (Nat.lt_of_lt_of_le P0.out.lt hb1.size)
    have HB1 : Hid (w.heap.size ≤ w1.heap.size) := Nat.le_trans hb0.size hb1.size
    clear r1 hq
    go_wp2_with fail
    refine (headerBegun_any _).mono ?_
    rintro e w2 ⟨rfl, hb2⟩
    have S2' : Hid _ := S1.out.below hb2 S1.out.lt
    have P2' : Hid _ := P1.out.below hb2 P1.out.lt
    have R2' : Hid (Rows w2 (.slice ad1 q.2.2.length cap1) attrF q.2.2) := Rows.below (Rows.below R1.out hx1 (Nat.le_refl _)) hb2 (Nat.le_refl _)
    have B2 : Hid (Below w.heap.size w w2) := next (next (next hb0 hb1) hx1) hb2
    clear S1 R1 P1 P0 hb0 hb1 hx1 hb2
    obtain ⟨c0, c1, f0, f1⟩ := P2'.out
    have hx2 : Below w2.heap.size w2 (w2.alloc (.cells #[.string (txt an), .string (txt av)] 35)) := (Below.refl _ _).alloc (Nat.le_refl _) _
    have RL : Hid (Rows (w2.alloc (.cells #[.string (txt an), .string (txt av)] 35)) (.slice (some ⟨w2.heap.size, 0, none⟩) 1 1) attrF [(an, av)]) := Rows.lit w2 [(an, av)] _ _ _ _ _ rfl rfl rfl
    go_wp2_with fail
    refine (hCheck_any _ ([97], [], [(an, av)]) _ RL.out (by show 1 ≤ maxLen; decide) (by show 1 ≤ maxLen; decide) (by show 0 ≤ maxLen; decide) KA.out).mono ?_
    rw [← HC.out]
    rintro e w3 ⟨rfl, hb3⟩
    have S3' : Hid _ := (S2'.out.below hx2 S2'.out.lt).below hb3 (Nat.lt_of_lt_of_le S2'.out.lt hx2.size)
    have P3' : Hid _ := (P2'.out.below hx2 P2'.out.lt).below hb3 (Nat.lt_of_lt_of_le P2'.out.lt hx2.size)
    have R3' : Hid (Rows w3 (.slice ad1 q.2.2.length cap1) attrF q.2.2) := Rows.below (Rows.below R2'.out hx2 (Nat.le_refl _)) hb3 (Nat.le_refl _)
    have B3 : Hid (Below w.heap.size w w3) := next (next B2.out hx2) hb3
    clear S2' P2' R2' B2 hx2 hb3 c0 c1 f0 f1 RL
    by_cases hc0 : c = 0
    · have HOK : Hid (attrOk (an, av) = true) := by
        have h := HC.out; rw [hc0, check_one] at h
        cases e : attrOk (an, av)
        · rw [e] at h; cases h
        · rfl
      have HAD : Hid _ := adds s.data.toList (an, av) HEE.out HOK.out
      obtain ⟨t, ht⟩ : ∃ t, t = s.data.toList ++ 59 :: (an ++ 61 :: av) := ⟨_, rfl⟩
      simp only at HAD
      rw [← ht, ← HQ.out] at HAD
      have HTT : Hid ((s ++ (⟨#[59]⟩ : ByteArray) ++ txt an ++ (⟨#[61]⟩ : ByteArray) ++ txt av) = txt t) := by
        show _ = _
        rw [ht, ← joined s (an, av)]; rfl
      have HTS : Hid ((txt t).size ≤ maxLen) := by
        show t.length ≤ maxLen
        rw [ht]
        have h1 : an.length ≤ 140737488351232 := hs1
        have h2 : av.length ≤ 140737488351232 := hs2
        have h3 : s.data.toList.length ≤ 140737488351232 := hs0
        simp only [List.length_append, List.length_cons]
        unfold maxLen; omega
      clear ht hc
      subst hc0
      obtain ⟨c0, c1, f0, f1⟩ := P3'.out
      go_wp2_with fail
      rw [HTT.out]
      refine (hRead_any _ _ HTS.out).mono ?_
      rw [txt_toList]
      rintro e w4 ⟨v4, rfl, r4, hb4⟩
      have R4 : Hid (Rows w4 v4 attrF (rdR t).2.2) := r4
      obtain ⟨ad4, cap4, rfl⟩ := r4.shape
      obtain ⟨u, hu⟩ : ∃ u, u = rdE t := ⟨_, rfl⟩
      have hx4 : Below w4.heap.size w4 (w4.alloc (.cells #[.string (txt (rdR t).1), .string (txt (rdR t).2.1), .slice ad4 (rdR t).2.2.length cap4] 24)) := (Below.refl _ _).alloc (Nat.le_refl _) _
      rw [← hu]
      rw [← hu] at HAD
      clear r4 c0 c1 f0 f1 hu
      rcases HAD.out.1 with rfl | rfl
      · have hRR := HAD.out.2 rfl
        rw [hRR] at R4 hx4 ⊢
        simp only at R4 hx4 ⊢
        obtain ⟨l4, hl4⟩ : ∃ l4, l4 = q.2.2 ++ [(an, av)] := ⟨_, rfl⟩
        rw [← hl4] at R4 hx4 ⊢
        have HL4 : Hid _ := hl4
        clear hRR hl4
        have HM5 : Hid ((q.2.2 ++ [(an, av)]).length ≤ maxLen) := by show _ ≤ _; rw [List.length_append]; unfold maxLen; simp; omega
        have HM4 : Hid (l4.length ≤ maxLen) := by rw [HL4.out]; exact HM5.out
        have R5 : Hid (Rows (w4.alloc (.cells #[.string (txt q.1), .string (txt q.2.1), .slice ad4 l4.length cap4] 24)) (.slice ad1 q.2.2.length cap1) attrF q.2.2) := Rows.below (Rows.below R3'.out hb4 (Nat.le_refl _)) hx4 (Nat.le_refl _)
        have T5 : Hid (Rows (w4.alloc (.cells #[.string (txt q.1), .string (txt q.2.1), .slice ad4 l4.length cap4] 24)) (.slice ad4 l4.length cap4) attrF l4) := Rows.below R4.out hx4 (Nat.le_refl _)
        have C5 : Hid (S3 (w4.alloc (.cells #[.string (txt q.1), .string (txt q.2.1), .slice ad4 l4.length cap4] 24)) w4.heap.size (.string (txt q.1)) (.string (txt q.2.1)) (.slice ad4 l4.length cap4)) := S3.new w4 _ _ _ _
        have X5 : Hid _ := (S3'.out.below hb4 S3'.out.lt).below hx4 (Nat.lt_of_lt_of_le S3'.out.lt hb4.size)
        have A5 : Hid _ := (P3'.out.below hb4 P3'.out.lt).below hx4 (Nat.lt_of_lt_of_le P3'.out.lt hb4.size)
        have B5 : Hid (Below w.heap.size w (w4.alloc (.cells #[.string (txt q.1), .string (txt q.2.1), .slice ad4 l4.length cap4] 24))) := next (next B3.out hb4) hx4
        obtain ⟨w5, hw5⟩ : ∃ w5, w5 = (w4.alloc (.cells #[.string (txt q.1), .string (txt q.2.1), .slice ad4 l4.length cap4] 24)) := ⟨_, rfl⟩
        obtain ⟨Y, hY⟩ : ∃ Y, Y = w4.heap.size := ⟨_, rfl⟩
        obtain ⟨X, hX⟩ : ∃ X, X = w1.heap.size := ⟨_, rfl⟩
        rw [← hw5] at R5 T5 C5 X5 A5 B5
        rw [← hY] at C5
        rw [← hX] at X5
        have HWX : Hid (w.heap.size ≤ X) := by show w.heap.size ≤ X; rw [hX]; exact HB1.out
        have HXY : Hid (X < Y) := by show X < Y; rw [hX, hY]; exact Nat.lt_of_lt_of_le S3'.out.lt hb4.size
        clear hx4 hb4 S3' P3' R3' B3 R4
        obtain ⟨i0, hi, hz0, hz1, hz2⟩ := info_parts info_attr
        go_wp2_with fail
        rw [← hw5, ← hY, ← hX]
        clear hw5 hY hX
        obtain ⟨c0, c1, c2, f0, f1, f2⟩ := X5.out
        obtain ⟨a0, a1, g0, g1⟩ := A5.out
        have hXl : X < w5.heap.size := cell_in c0
        have hAl : w.heap.size < w5.heap.size := cell_in a0
        have HLIT : Hid (∀ W : World, w5.heap.size ≤ W.heap.size → (W.alloc (.cells #[] 35)).ownsRow w5.heap.size 35 2 (.slice (some ⟨W.heap.size, 0, none⟩) 0 0) 0 []) := fun W h => World.ownsRow_lit W #[] 0 h (Nat.zero_le _) rfl
        have HRD1 : Hid (∀ o, Reads (w5.drew.alloc o) (.slice ad1 q.2.2.length cap1) q.2.2.length (q.2.2.flatMap attrF)) := fun o => Reads.below R5.out (((Below.refl w5.heap.size w5).drew).alloc (Nat.le_refl _) o) (Nat.le_refl _)
        have HRD2 : Hid (∀ o o', Reads ((w5.drew.alloc o).alloc o') (.slice ad1 q.2.2.length cap1) q.2.2.length (q.2.2.flatMap attrF)) := fun o o' => Reads.below R5.out ((((Below.refl w5.heap.size w5).drew).alloc (Nat.le_refl _) o).alloc (by simp) o') (Nat.le_refl _)
        have HLN : Hid ((q.2.2.flatMap attrF).length = q.2.2.length * 2) := flat_len attrF 2 attrF_len _
        have HON : Hid (∀ u ∈ q.2.2.flatMap attrF, u.oneCell' = true) := fun u hu => by
          obtain ⟨b, _, hu⟩ := List.mem_flatMap.1 hu
          simp [attrF] at hu
          rcases hu with rfl | rfl <;> rfl
        have M1 : Hid (0 + q.2.2.length ≤ maxLen) := by show _ ≤ _; unfold maxLen; omega
        have M2 : Hid ((0 + q.2.2.length) * 32 ≤ 140737488355328) := by show _ ≤ _; omega
        have LE1 : Hid (∀ o, w5.heap.size ≤ (w5.drew.alloc o).heap.size) := fun o => by show w5.heap.size ≤ (w5.drew.alloc o).heap.size; simp
        have LE2 : Hid (∀ o o', w5.heap.size ≤ ((w5.drew.alloc o).alloc o').heap.size) := fun o o' => by show w5.heap.size ≤ ((w5.drew.alloc o).alloc o').heap.size; simp; omega
        have HLIT2 : Hid (∀ o, ((w5.drew.alloc o).alloc (.cells #[] 35)).ownsRow w5.heap.size 35 2 (.slice (some ⟨w5.heap.size + 1, 0, none⟩) 0 0) 0 []) := fun o => by
          have h := World.ownsRow_lit (base := w5.heap.size) (size := 2) (e := 35) (w5.drew.alloc o) #[] 0 (LE1.out o) (Nat.zero_le _) rfl
          rw [show (w5.drew.alloc o).heap.size = w5.heap.size + 1 from by simp] at h
          exact h
        have KB : Hid (∀ W w6 : World, Below w5.heap.size w5 W → Below w5.heap.size W w6 → w6.cell? ⟨w.heap.size, 0, none⟩ = some (.string (txt an)) ∧ w6.cell? ⟨w.heap.size, 1, none⟩ = some (.string (txt av)) ∧ w6.cell? ⟨X, 2, none⟩ = some (.slice ad1 q.2.2.length cap1) ∧ w6.frozen? ⟨X, 2, none⟩ = false ∧ X < w6.heap.size ∧ w.heap.size < w6.heap.size ∧ Below w5.heap.size w5 w6) := fun W w6 h1 h2 => by
          have h := h1.trans h2
          exact ⟨(h.cell (p := ⟨w.heap.size, 0, none⟩) hAl).trans a0, (h.cell (p := ⟨w.heap.size, 1, none⟩) hAl).trans a1, (h.cell (p := ⟨X, 2, none⟩) hXl).trans c2, (h.frozen (p := ⟨X, 2, none⟩) hXl).trans f2, Nat.lt_of_lt_of_le hXl h.size, Nat.lt_of_lt_of_le hAl h.size, h⟩
        have BW1 : Hid (∀ o, Below w5.heap.size w5 (w5.drew.alloc o)) := fun o => ((Below.refl w5.heap.size w5).drew).alloc (Nat.le_refl _) o
        have BW2 : Hid (∀ o o', Below w5.heap.size w5 ((w5.drew.alloc o).alloc o')) := fun o o' => (((Below.refl w5.heap.size w5).drew).alloc (Nat.le_refl _) o).alloc (LE1.out o) o'
        have GR : Hid (∀ (W w6 : World) (v : Value) (n : Nat) (cs : List Value), W.ownsRow w5.heap.size 35 2 v n cs → w5.heap.size ≤ W.heap.size → W.grownBy w6 v.ownBlock → Below w5.heap.size W w6) := fun W w6 v n cs ho hle hg => (Below.refl _ W).grown hg hle (fun q e => (ho.lt q e).1)
        have NW : Hid (∀ W : World, Reads (W.alloc (.cells #[.string (txt an), .string (txt av)] 35)) (.slice (some ⟨W.heap.size, 0, none⟩) 1 1) 1 (attrF (an, av))) := fun W => Rows.lit (f := attrF) W [(an, av)] _ _ _ _ _ rfl rfl rfl
        have N1 : Hid ((attrF (an, av)).length = 1 * 2) := rfl
        have N2 : Hid (∀ u ∈ attrF (an, av), u.oneCell' = true) := fun u hu => by simp [attrF] at hu; rcases hu with rfl | rfl <;> rfl
        have N3 : Hid (q.2.2.length + 1 ≤ maxLen) := by show _ ≤ _; unfold maxLen; omega
        have N4 : Hid ((q.2.2.length + 1) * 32 ≤ 140737488355328) := by show _ ≤ _; omega
        have RB : Hid (∀ (w6 : World), ((w5.drew.alloc (.cells #[] 35)).alloc (.cells #[.string (txt an), .string (txt av)] 35)).grownBy w6 (some w5.heap.size) → Reads w6 (.slice (some ⟨w5.heap.size + 1, 0, none⟩) 1 1) 1 (attrF (an, av))) := fun w6 hg => by
          have e : (w5.drew.alloc (.cells #[] 35)).heap.size = w5.heap.size + 1 := by simp
          have h := NW.out (w5.drew.alloc (.cells #[] 35))
          rw [e] at h
          obtain ⟨ad, cp, hv, h⟩ := h
          rcases h with h | ⟨b, off, hb, h⟩
          · cases h
          · injection hv with e1 e2 e3
            subst e1
            injection hb with hb
            injection hb with hb1 hb2 hb3
            subst hb1 hb2
            refine ⟨_, _, rfl, .inr ⟨_, _, rfl, fun j u hj => ?_⟩⟩
            have hc := h j u hj
            rw [← hc]
            exact World.cell?_of_block (a := ⟨w5.heap.size + 1, 0 + j, none⟩) (hg.block (w5.heap.size + 1) (by simp) (by intro e; injection e with e; omega))
        have RC : Hid (∀ (w6 : World), ((w5.drew.alloc (.cells #[.string (txt an), .string (txt av)] 35)).alloc (.cells #[] 35)).grownBy w6 (some (w5.heap.size + 1)) → Reads w6 (.slice (some ⟨w5.heap.size, 0, none⟩) 1 1) 1 (attrF (an, av))) := fun w6 hg => by
          have h := Reads.below (NW.out w5.drew) ((Below.refl (w5.drew.alloc (.cells #[.string (txt an), .string (txt av)] 35)).heap.size (w5.drew.alloc (.cells #[.string (txt an), .string (txt av)] 35))).alloc (Nat.le_refl _) (.cells #[] 35)) (Nat.le_refl _)
          obtain ⟨ad, cp, hv, h⟩ := h
          rcases h with h | ⟨b, off, hb, h⟩
          · cases h
          · injection hv with e1 e2 e3
            subst e1
            injection hb with hb
            injection hb with hb1 hb2 hb3
            subst hb1 hb2
            refine ⟨_, _, rfl, .inr ⟨_, _, rfl, fun j u hj => ?_⟩⟩
            have hc := h j u hj
            rw [← hc]
            exact World.cell?_of_block (a := ⟨w5.heap.size, 0 + j, none⟩) (hg.block w5.heap.size (by simp; omega) (by intro e; injection e with e; omega))
        clear c0 c1 f0 f1 g0 g1
        go_region_law (first
          | (refine step_append_reads (by rfl) (.tmp 42) (.tmp 44) 22 (by rfl) w5.heap.size 35 i0 (.agg #[.string ⟨#[]⟩, .string ⟨#[]⟩]) 2 32 Try.underlying22 hi hz0 hz1 hz2 rfl (by decide) _ 0 [] (by rfl) (HLIT.out w5.drew (Nat.le_refl _)) _ (by rfl) _ _ (HRD1.out _) HLN.out HON.out M1.out M2.out (LE1.out _) ?_; intro v6 w6 hown6 hg6; rw [Nat.zero_add, List.nil_append] at hown6; obtain ⟨ad6, cap6, rfl⟩ := own_slice hown6; obtain ⟨b0, b1, b2, b3, b4, b5, hb6⟩ := KB.out _ w6 (BW1.out _) (GR.out _ w6 _ _ _ (HLIT.out w5.drew (Nat.le_refl _)) (LE1.out _) hg6); have hle6 := hb6.size)
          | (refine step_append_reads (by rfl) (.tmp 42) (.tmp 44) 22 (by rfl) w5.heap.size 35 i0 (.agg #[.string ⟨#[]⟩, .string ⟨#[]⟩]) 2 32 Try.underlying22 hi hz0 hz1 hz2 rfl (by decide) _ 0 [] (by rfl) ((HLIT.out w5.drew (Nat.le_refl _)).alloc (.cells #[.string (txt an), .string (txt av)] 35)) _ (by rfl) _ _ (HRD2.out _ _) HLN.out HON.out M1.out M2.out (LE2.out _ _) ?_; intro v6 w6 hown6 hg6; rw [Nat.zero_add, List.nil_append] at hown6; obtain ⟨ad6, cap6, rfl⟩ := own_slice hown6; obtain ⟨b0, b1, b2, b3, b4, b5, hb6⟩ := KB.out _ w6 (BW2.out _ _) (GR.out _ w6 _ _ _ ((HLIT.out w5.drew (Nat.le_refl _)).alloc (.cells #[.string (txt an), .string (txt av)] 35)) (LE2.out _ _) hg6); have hle6 := hb6.size; have hrd6 := RB.out w6 hg6)
          | (refine step_append_reads (by rfl) (.tmp 42) (.tmp 44) 22 (by rfl) w5.heap.size 35 i0 (.agg #[.string ⟨#[]⟩, .string ⟨#[]⟩]) 2 32 Try.underlying22 hi hz0 hz1 hz2 rfl (by decide) _ 0 [] (by rfl) (HLIT2.out _) _ (by rfl) _ _ (HRD2.out _ _) HLN.out HON.out M1.out M2.out (LE2.out _ _) ?_; intro v6 w6 hown6 hg6; rw [Nat.zero_add, List.nil_append] at hown6; obtain ⟨ad6, cap6, rfl⟩ := own_slice hown6; obtain ⟨b0, b1, b2, b3, b4, b5, hb6⟩ := KB.out _ w6 (BW2.out _ _) (GR.out _ w6 _ _ _ (HLIT2.out _) (LE2.out _ _) hg6); have hle6 := hb6.size; have hrd6 := RC.out w6 hg6)
          | (refine step_append_reads (by rfl) (.tmp 45) (.tmp 47) 22 (by rfl) w5.heap.size 35 i0 (.agg #[.string ⟨#[]⟩, .string ⟨#[]⟩]) 2 32 Try.underlying22 hi hz0 hz1 hz2 rfl (by decide) _ _ _ (by rfl) hown6 _ (by rfl) 1 (attrF (an, av)) hrd6 N1.out N2.out N3.out N4.out hle6 ?_; intro v7 w7 hown7 hg7; obtain ⟨ad7, cap7, rfl⟩ := own_slice hown7; obtain ⟨d0, d1, d2, d3, d4, d5, hb7⟩ := KB.out w6 w7 hb6 (GR.out w6 w7 _ _ _ hown6 hle6 hg7))
          | (refine step_append_reads (by rfl) (.tmp 45) (.tmp 47) 22 (by rfl) w5.heap.size 35 i0 (.agg #[.string ⟨#[]⟩, .string ⟨#[]⟩]) 2 32 Try.underlying22 hi hz0 hz1 hz2 rfl (by decide) _ _ _ (by rfl) (hown6.alloc (.cells #[.string (txt an), .string (txt av)] 35)) _ (by rfl) 1 (attrF (an, av)) (NW.out w6) N1.out N2.out N3.out N4.out (Nat.le_trans hle6 (by simp)) ?_; intro v7 w7 hown7 hg7; obtain ⟨ad7, cap7, rfl⟩ := own_slice hown7; obtain ⟨d0, d1, d2, d3, d4, d5, hb7⟩ := KB.out (w6.alloc (.cells #[.string (txt an), .string (txt av)] 35)) w7 (hb6.alloc hle6 _) (GR.out (w6.alloc (.cells #[.string (txt an), .string (txt av)] 35)) w7 _ _ _ (hown6.alloc _) (Nat.le_trans hle6 (by simp)) hg7))
          | fail)
        all_goals
          have X7 : Hid _ := (X5.out.below hb7 hXl).set2' (.slice ad7 (q.2.2.length + 1) cap7)
          have Y7 := C5.out.below hb7 C5.out.lt
          have hne : X ≠ Y := Nat.ne_of_lt HXY.out
          have y0 : (w7.setCell ⟨X, 2, none⟩ (.slice ad7 (q.2.2.length + 1) cap7)).cell? ⟨Y, 0, none⟩ = _ := (World.cell?_setCell_other _ _ _ _ (by intro e; injection e with e; exact hne e)).trans Y7.c0
          have y1 : (w7.setCell ⟨X, 2, none⟩ (.slice ad7 (q.2.2.length + 1) cap7)).cell? ⟨Y, 1, none⟩ = _ := (World.cell?_setCell_other _ _ _ _ (by intro e; injection e with e; exact hne e)).trans Y7.c1
          have y2 : (w7.setCell ⟨X, 2, none⟩ (.slice ad7 (q.2.2.length + 1) cap7)).cell? ⟨Y, 2, none⟩ = _ := (World.cell?_setCell_other _ _ _ _ (by intro e; injection e with e; exact hne e)).trans Y7.c2
          have T7 : Hid (Rows (w7.setCell ⟨X, 2, none⟩ (.slice ad7 (q.2.2.length + 1) cap7)) (.slice ad4 l4.length cap4) attrF l4) := reads_set (Rows.below T5.out hb7 (Nat.le_refl _)) d2 (slice_no _ _ _ _)
          have V7 : Hid (Rows (w7.setCell ⟨X, 2, none⟩ (.slice ad7 (q.2.2.length + 1) cap7)) (.slice ad7 (q.2.2.length + 1) cap7) attrF (q.2.2 ++ [(an, av)])) := by
            have h := Reads.of_own (own_setCell (k := 2) (x := .slice ad7 (q.2.2.length + 1) cap7) hown7 hXl)
            show Reads _ _ _ _
            rw [List.length_append, List.flatMap_append]
            simp only [List.nil_append, Nat.zero_add, List.length_cons, List.length_nil, List.flatMap_cons, List.flatMap_nil, List.append_nil] at h ⊢
            exact h
          have B7 : Hid (Below w.heap.size w (w7.setCell ⟨X, 2, none⟩ (.slice ad7 (q.2.2.length + 1) cap7))) := (B5.out.trans (hb7.mono (Nat.le_of_lt hAl))).setCell HWX.out _
          clear hown7 hg7 hb7 Y7
          obtain ⟨c0, c1, c2', f0, f1, f2'⟩ := X7.out
          go_wp2_with fail
          refine (sameRaw_any _ _ (q.1, q.2.1, l4) (q.1, q.2.1, q.2.2 ++ [(an, av)]) _ T7.out V7.out HM4.out HM5.out).mono ?_
          rw [decide_eq_true (by rw [HL4.out])]
          rintro e w8 ⟨rfl, hb8⟩
          go_wp2_with fail
          go_ret
          exact ⟨rfl, next B7.out hb8⟩
      · go_wp2_with fail
        go_ret
        exact ⟨rfl, next (next B3.out hb4) hx4⟩
    · have hcc : (c != 0) = true := by rw [bne_iff_ne]; exact hc0
      clear hc0 hc
      go_wp2_with fail
      go_ret
      exact ⟨rfl, B3.out⟩
  · have hzz : (z != 0) = true := by rw [bne_iff_ne]; exact h0
    clear hq hz h0
    go_enter Try.func4, Try.ntmps4
    go_wp2_with fail
    refine (hRead_any s _ HS.out).mono ?_
    rw [← HQ.out, ← HZ.out]
    rintro e w1 ⟨v1, rfl, r1, hb1⟩
    obtain ⟨ad1, cap1, rfl⟩ := r1.shape
    have hx1 : Below w1.heap.size w1 (w1.alloc (.cells #[.string (txt q.1), .string (txt q.2.1), .slice ad1 q.2.2.length cap1] 24)) := (Below.refl _ _).alloc (Nat.le_refl _) _
    clear r1
    go_wp2_with fail
    refine (headerBegun_any _).mono ?_
    rintro e w2 ⟨rfl, hb2⟩
    go_wp2_with fail
    go_ret
    exact ⟨rfl, next (next (next hb0 hb1) hx1) hb2⟩

set_option maxRecDepth 100000 in
theorem lifted (os : Os) (started : os.Started) (H : Type) (enc : TypeId × Value → H) :
    ReturnsInHanded {} Try.checked os 4 .any (Rows.headerAddsSpec.pre6 enc Try.prog Try.f4 Rows.headerAddsRow.domain false) (Rows.headerAddsSpec.post enc Try.prog Try.f4 false true false false) := by
  refine returnsInHanded_of_change_sized (C := Try.checked) own started (by kernel_rfl) Try.func4
    (ChangeSpec.witness6 (enc := enc) (C := Try.checked) false ⟨#[], #[.string ByteArray.empty, .agg #[.string ByteArray.empty, .string ByteArray.empty]], []⟩ 8 (by kernel_rfl) (by kernel_rfl) (by kernel_rfl) (by kernel_rfl)) ?_
  intro W base args ds gs before hval0 hW hcnd hsz0 _
  have hsz : (DataW.weightsEach Try.prog (Try.f4.params.toList ++ Rows.headerAddsSpec.plain.varTypes Try.prog) (ds ++ gs)).all (· ≤ reachBytes) = true := hsz0
  have hval : ∀ (j : Nat) t v, Try.f4.params[j]? = some t → args[j]? = some v → Value.okWide Try.prog W .any base t v := hval0
  have hW' := hW
  obtain ⟨p, q, hA0, hV, rfl, hfz, hnd⟩ := hW
  have hA : DataW.TrodAll enc Try.prog W 0 (fun _ => true) true Try.f4.params.toList args.toList ds p := hA0
  rw [Try.params4] at hA hval hsz
  obtain ⟨v0, vs0, d0, ds0, p0, q0, hargs, rfl, rfl, h0, r0⟩ := trodAll_cons hA
  obtain ⟨v1, vs1, d1, ds1, p1, q1, rfl, rfl, rfl, h1, r1⟩ := trodAll_cons r0
  obtain ⟨rfl, rfl, rfl⟩ := trodAll_nil r1
  obtain rfl : args = #[v0, v1] := by cases args; simp_all
  obtain ⟨rfl, rfl⟩ := trodVars_none hV
  have k0 := h0
  have lt0 : ∀ x ∈ p0, x.block < W.heap.size := by obtain ⟨m, hm⟩ := k0; exact DataW.trod_lt m _ _ _ hm
  have k1 := h1
  have lt1 : ∀ x ∈ p1, x.block < W.heap.size := by obtain ⟨m, hm⟩ := k1; exact DataW.trod_lt m _ _ _ hm
  obtain ⟨a0, rfl, rfl, hp0, w0⟩ := open_string Try.underlying9 (hval 0 9 v0 rfl rfl) h0
  have z0 : a0.size ≤ 140737488351232 := sized_string hsz (j := 0) (t := 9) rfl rfl
  obtain ⟨l1, rfl, ok1, bk1⟩ := open_attr (hval 1 35 v1 rfl rfl) k1 140737488351232 (fits_each hsz (j := 1) (t := 35) rfl rfl)
  clear hA0 hval0
  refine (walk a0 l1 W z0 ok1).mono fun e W' ⟨he, bel⟩ => ?_
  subst he
  exact ⟨_, rfl, _, _, _, [], _, [], hW', trodAll_mk1 (shut_bool Try.underlying4 _), (trodAll_cons_mk (Below.trod laidOut (by kernel_rfl) (of_decide_eq_true (by kernel_rfl)) k0 bel lt0) (trodAll_cons_mk (Below.trod laidOut (by kernel_rfl) (of_decide_eq_true (by kernel_rfl)) k1 bel lt1) trodAll_mk0)), rfl, bel.frame _, fun h => by cases h⟩

theorem proved : Rows.HeaderAddsSaid :=
  OpenClaim.holds_of_wide 4 Try.f4 rfl rfl rfl rfl rfl rfl rfl ⟨rfl, rfl, rfl, rfl, rfl⟩ rfl rfl rfl rfl rfl (by kernel_rfl) Try.func4 (by kernel_rfl)
    (of_decide_eq_true (by kernel_rfl)) (by unfold Func.isWrapper; first | (rw [if_pos (by decide +kernel)]; kernel_rfl) | (rw [if_neg (by decide +kernel)]; exact ⟨rfl, rfl⟩))
    (fun os started H enc _ => lifted os started H enc)
#print axioms proved
end Go.Proofs.Ytjoailjedfbnbae.headerAdds
