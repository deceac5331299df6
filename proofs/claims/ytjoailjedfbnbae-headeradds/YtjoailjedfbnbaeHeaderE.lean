/- Contracts: put, tell, Write. -/
import Derived.Test.YtjoailjedfbnbaeHeaderD
namespace Go.Proofs.Ytjoailjedfbnbae
open Go.RowKit
set_option linter.all false

/-- what lies in a block of another kind than bytes stays -/
def Kept (B : Nat) (w w' : World) : Prop := w.heap.size ≤ w'.heap.size ∧ ∀ X cs t, t ≠ 5 → X ≠ B → w.heap[X]? = some (.cells cs t (0, 0)) → w'.heap[X]? = some (.cells cs t (0, 0))
theorem Kept.trans {B : Nat} {w w1 w2 : World} (h : Kept B w w1) (k : Kept B w1 w2) : Kept B w w2 :=
  ⟨Nat.le_trans h.1 k.1, fun X cs t ht hX hx => k.2 X cs t ht hX (h.2 X cs t ht hX hx)⟩
theorem Kept.refl (B : Nat) (w : World) : Kept B w w := ⟨Nat.le_refl _, fun _ _ _ _ _ h => h⟩
theorem heap_alloc_old {w : World} {o : Obj} {X : Nat} {y : Obj} (h : w.heap[X]? = some y) : (w.alloc o).heap[X]? = some y := by
  have hlt := (Array.getElem?_eq_some_iff.1 h).1
  show (w.heap.push o)[X]? = _
  rw [Array.getElem?_push_lt hlt, ← h, Array.getElem?_eq_getElem hlt]
theorem Kept.alloc {B : Nat} {w w1 : World} (h : Kept B w w1) (o : Obj) : Kept B w (w1.alloc o) :=
  ⟨Nat.le_trans h.1 (by simp), fun X cs t ht hX hx => heap_alloc_old (h.2 X cs t ht hX hx)⟩
/-- block B holds a page on which T was written, as far as there was room -/
def Page (W : World) (base B : Nat) (T : List UInt8) : Prop :=
  ∃ v l full, W.heap[B]? = some (.cells #[v, .bool full] 46 (0, 0)) ∧ base ≤ B ∧ W.ownsRow base 5 1 v l.length (bcells l) ∧ l.length ≤ 400 ∧ full = decide (400 < T.length) ∧ (full = false → l = T)
theorem two_cells {W : World} {B : Nat} {a b : Value} {t : TypeId} (h : W.heap[B]? = some (.cells #[a, b] t (0, 0))) : P2c W B a b :=
  ⟨by simp [World.cell?, h], by simp [World.cell?, h], by simp [World.frozen?, h], by simp [World.frozen?, h]⟩
theorem three_cells {W : World} {B : Nat} {a b c : Value} {t : TypeId} (h : W.heap[B]? = some (.cells #[a, b, c] t (0, 0))) : S3 W B a b c :=
  ⟨by simp [World.cell?, h], by simp [World.cell?, h], by simp [World.cell?, h], by simp [World.frozen?, h], by simp [World.frozen?, h], by simp [World.frozen?, h]⟩
theorem set_two0 {W : World} {B : Nat} {a b : Value} {t : TypeId} (x : Value) (h : W.heap[B]? = some (.cells #[a, b] t (0, 0))) : (W.setCell ⟨B, 0, none⟩ x).heap[B]? = some (.cells #[x, b] t (0, 0)) := by
  show (W.heap.modify B _)[B]? = _
  rw [Array.getElem?_modify, if_pos rfl, h]
  rfl
theorem set_two1 {W : World} {B : Nat} {a b : Value} {t : TypeId} (x : Value) (h : W.heap[B]? = some (.cells #[a, b] t (0, 0))) : (W.setCell ⟨B, 1, none⟩ x).heap[B]? = some (.cells #[a, x] t (0, 0)) := by
  show (W.heap.modify B _)[B]? = _
  rw [Array.getElem?_modify, if_pos rfl, h]
  rfl
theorem own_ne {W : World} {base B n : Nat} {e t : TypeId} {size : Nat} {v : Value} {cs : List Value} {c : Array Value} {z : Nat × Nat} (h : W.ownsRow base e size v n cs) (hB : W.heap[B]? = some (.cells c t z)) (ht : t ≠ e) : v.ownBlock ≠ some B := by
  rcases h.2 with ⟨rfl, _⟩ | ⟨g, cap, cur, rfl, hg, hcur, _⟩
  · intro e; cases e
  · intro e
    have e' : g = B := by injection e
    subst e'
    rw [hcur] at hB
    injection hB with hB
    injection hB with _ hB
    exact ht hB.symm
theorem own_setB {W : World} {base B k : Nat} {e t : TypeId} {size : Nat} {v x : Value} {n : Nat} {cs : List Value} {c : Array Value} {z : Nat × Nat} (h : W.ownsRow base e size v n cs) (hB : W.heap[B]? = some (.cells c t z)) (ht : t ≠ e) : (W.setCell ⟨B, k, none⟩ x).ownsRow base e size v n cs := by
  have hne := own_ne h hB ht
  obtain ⟨hl, h⟩ := h
  refine ⟨hl, ?_⟩
  rcases h with h | ⟨g, cap, cur, rfl, hg, hcur, h⟩
  · exact .inl h
  · exact .inr ⟨g, cap, cur, rfl, hg, (heap_setCell_ne (fun e => hne (by rw [← e]; rfl))).trans hcur, h⟩
theorem own_slice {W : World} {base n : Nat} {e : TypeId} {size : Nat} {v : Value} {cs : List Value} (h : W.ownsRow base e size v n cs) : ∃ ad cap, v = .slice ad n cap := by
  rcases h.2 with ⟨rfl, rfl⟩ | ⟨g, cap, cur, rfl, _⟩
  · exact ⟨_, _, rfl⟩
  · exact ⟨_, _, rfl⟩
theorem kept_set {B k : Nat} {w : World} {x : Value} : Kept B w (w.setCell ⟨B, k, none⟩ x) :=
  ⟨by simp [World.setCell], fun X cs t _ hX hx => (heap_setCell_ne hX).trans hx⟩
theorem kept_grown {B base n : Nat} {w w' : World} {v : Value} {cs : List Value} (h : w.ownsRow base 5 1 v n cs) (hg : w.grownBy w' v.ownBlock) : Kept B w w' :=
  ⟨hg.size, fun X cs t ht _ hx => (hg.block X (Array.getElem?_eq_some_iff.1 hx).1 (Ne.symm (own_ne h hx ht))).trans hx⟩
set_option maxHeartbeats 1000000 in
theorem put_any (base B : Nat) (T : List UInt8) (s : ByteArray) (w : World) (hP : Page w base B T) (hs : s.size ≤ maxLen) :
    Calls Try.prog 16 #[.pointer (some ⟨B, 0, none⟩), .string s] w fun e w' => (∃ v, e = .returned v) ∧ Page w' base B (T ++ s.data.toList) ∧ Below base w w' ∧ Kept B w w' := by
  obtain ⟨i0, hi, hz0, hz1, hz2⟩ := info_parts info_u8
  obtain ⟨v, l, full, hB, hbB, hown, hl, hf, hlT⟩ := hP
  obtain ⟨ad, cap, rfl⟩ := own_slice hown
  obtain ⟨c0, c1, f0, f1⟩ := two_cells hB
  have HB : Hid _ := hB
  have HF : Hid _ := hf
  have HT : Hid _ := hlT
  have HO : Hid (World.ownsRow w base 5 1 (.slice ad l.length cap) l.length (bcells l)) := hown
  have hBl : B < w.heap.size := (Array.getElem?_eq_some_iff.1 hB).1
  clear hB hf hlT
  unfold maxLen at hs
  by_cases h : (s.size : Int) > 400 - (l.length : Int)
  · clear hown
    go_enter Try.func16, Try.ntmps16
    go_wp2_with fail
    refine bodyPost_ret_by (results_none Try.results16 _ _ _) rfl ?_
    refine ⟨⟨_, rfl⟩, ⟨_, l, true, set_two1 _ HB.out, hbB, own_setB HO.out HB.out (by decide), hl, ?_, fun h => by cases h⟩, (Below.refl base w).setCell hbB _, kept_set⟩
    rw [eq_comm, decide_eq_true_eq, List.length_append]
    show 400 < T.length + s.size
    cases hfu : full
    · have := HT.out hfu; subst this; omega
    · have := HF.out; rw [hfu, eq_comm, decide_eq_true_eq] at this; omega
  · go_enter Try.func16, Try.ntmps16
    go_wp2_with (at_builtin; refine Lib.wpList_append_own_string _ rfl (.tmp 20) (.tmp 21) 44 9 rfl base 5 i0 Try.underlying44 Try.underlying9 hi hz0 hz1 hz2 _ _ _ rfl hown s rfl ?c1 ?c2 ?c3 ?_)
    case c1 => unfold maxLen; omega
    case c2 => omega
    case c3 => omega
    intro v1 w1 hown1 hg1 _
    obtain ⟨ad1, cap1, rfl⟩ := own_slice hown1
    have hB1 : w1.heap[B]? = some (.cells #[.slice ad l.length cap, .bool full] 46 (0, 0)) := (hg1.block B hBl (Ne.symm (own_ne HO.out HB.out (by decide)))).trans HB.out
    have HB1 : Hid _ := hB1
    obtain ⟨d0, d1, e0, e1⟩ := two_cells hB1
    have hb1 : Below base w w1 := (Below.refl base w).grown hg1 (by omega) (fun q e => (HO.out.lt q e).1)
    have hk1 : Kept B w w1 := kept_grown HO.out hg1
    have HO1 : Hid (World.ownsRow w1 base 5 1 (.slice ad1 (l.length + s.size) cap1) (l ++ s.data.toList).length (bcells (l ++ s.data.toList))) := by rw [bcells_append, List.length_append]; exact hown1
    clear hown hown1 hg1 c0 c1 f0 f1 hB1
    go_wp2_with fail
    go_end0
    refine ⟨⟨_, rfl⟩, ⟨_, l ++ s.data.toList, full, set_two0 _ HB1.out, hbB, own_setB HO1.out HB1.out (by decide), ?_, ?_, fun h => by rw [HT.out h]⟩, hb1.setCell hbB _, hk1.trans kept_set⟩
    · rw [List.length_append]; show l.length + s.size ≤ 400; omega
    · have hsz : s.data.toList.length = s.size := rfl
      rw [List.length_append, hsz]
      cases hfu : full
      · have := HT.out hfu; subst this
        rw [eq_comm, decide_eq_false_iff_not]; omega
      · have := HF.out; rw [hfu, eq_comm, decide_eq_true_eq] at this
        rw [eq_comm, decide_eq_true_eq]; omega
theorem hdT_take (l : List Attr) (k : Nat) (a : Attr) (h : l[k]? = some a) : (l.take (k + 1)).flatMap attrT = (l.take k).flatMap attrT ++ attrT a := by
  obtain ⟨hk, rfl⟩ := List.getElem?_eq_some_iff.1 h
  rw [List.take_succ_eq_append_getElem hk, List.flatMap_append]; simp
theorem put_txt {T T' : List UInt8} {W : World} {base B : Nat} (h : Page W base B T) (e : T = T') : Page W base B T' := e ▸ h
theorem Page.alloc {W : World} {base B : Nat} {T : List UInt8} (h : Page W base B T) (o : Obj) (hb : base ≤ W.heap.size) : Page (W.alloc o) base B T := by
  obtain ⟨v, l, full, hB, hbB, hown, hl, hf, hlT⟩ := h
  exact ⟨v, l, full, heap_alloc_old hB, hbB, hown.alloc _, hl, hf, hlT⟩
theorem Page.lt {W : World} {base B : Nat} {T : List UInt8} (h : Page W base B T) : base ≤ B ∧ B < W.heap.size := by
  obtain ⟨v, l, full, hB, hbB, _⟩ := h
  exact ⟨hbB, (Array.getElem?_eq_some_iff.1 hB).1⟩
theorem heap_new (w : World) (cs : Array Value) (t : TypeId) : (w.alloc (.cells cs t)).heap[w.heap.size]? = some (.cells cs t (0, 0)) := heap_alloc_new w _
set_option maxHeartbeats 2000000 in
theorem tell_any (va : Value) (r : Raw) (base B : Nat) (w : World) (hr : Rows w va attrF r.2.2) (hmem : ∀ b off n cap, va = .slice (some ⟨b, off, none⟩) n cap → r.2.2 ≠ [] → b < base) (hm : r.2.2.length ≤ maxLen) (hn : r.1.length ≤ maxLen) (hv : r.2.1.length ≤ maxLen) (ha : ∀ a ∈ r.2.2, a.1.length ≤ maxLen ∧ a.2.length ≤ maxLen) (hP : Page w base B []) :
    Calls Try.prog 15 #[.agg #[.string (txt r.1), .string (txt r.2.1), va], .func (.func 16) #[.pointer (some ⟨B, 0, none⟩)] #[]] w fun e w' => (∃ v, e = .returned v) ∧ Page w' base B (hdT r) ∧ Below base w w' := by
  have HM : Hid _ := hm
  have HA : Hid _ := ha
  have HR : Hid _ := hr
  have HMem : Hid _ := hmem
  have HHm : Hid ((txt r.1).size ≤ maxLen) := hn
  have HHv : Hid ((txt r.2.1).size ≤ maxLen) := hv
  obtain ⟨ad, cap, rfl⟩ := hr.shape
  unfold maxLen at hm
  obtain ⟨hbB, hBl⟩ := hP.lt
  clear ha hr hn hv hmem
  obtain ⟨n, hnn⟩ : ∃ x, x = r.1 := ⟨_, rfl⟩
  obtain ⟨v, hvv⟩ : ∃ x, x = r.2.1 := ⟨_, rfl⟩
  obtain ⟨m, hmm⟩ : ∃ x, x = r.2.2.length := ⟨_, rfl⟩
  rw [← hnn, ← hvv, ← hmm]
  rw [← hnn] at HHm
  rw [← hvv] at HHv
  rw [← hmm] at hm
  have HTT : Hid (headT r = n ++ [61] ++ v) := by show _ = _; unfold headT; rw [← hnn, ← hvv]
  have HMM : Hid _ := hmm
  rw [← hmm] at HMem
  have HR : Hid (Rows w (.slice ad m cap) attrF r.2.2) := by rw [hmm]; exact HR.out
  clear hnn hvv hmm
  have P0 : Hid (Page (w.alloc (.cells #[.string (txt n), .string (txt v), .slice ad m cap] 24)) base B []) := hP.alloc _ (by omega)
  have X0 : Hid ((w.alloc (.cells #[.string (txt n), .string (txt v), .slice ad m cap] 24)).heap[w.heap.size]? = some (.cells #[.string (txt n), .string (txt v), .slice ad m cap] 24 (0, 0))) := heap_new _ _ _
  have hb0 : Below base w (w.alloc (.cells #[.string (txt n), .string (txt v), .slice ad m cap] 24)) := (Below.refl _ _).alloc (by omega) _
  have hXB : w.heap.size ≠ B := by omega
  clear hP
  go_enter Try.func15, Try.ntmps15
  go_wp2_with fail
  refine (put_any base B [] _ _ P0.out HHm.out).mono ?_
  rintro e w1 ⟨⟨_, rfl⟩, P1, hb1, hk1⟩
  have X1 : Hid _ := hk1.2 _ _ _ (by decide) hXB X0.out
  have P1 : Hid _ := P1
  obtain ⟨c0, c1, c2, f0, f1, f2⟩ := three_cells X1.out
  go_wp2_with fail
  refine (put_any base B _ _ _ P1.out (by decide)).mono ?_
  rintro e w2 ⟨⟨_, rfl⟩, P2, hb2, hk2⟩
  have X2 : Hid _ := hk2.2 _ _ _ (by decide) hXB X1.out
  have P2 : Hid _ := P2
  clear c0 c1 c2 f0 f1 f2
  obtain ⟨c0, c1, c2, f0, f1, f2⟩ := three_cells X2.out
  go_wp2_with fail
  refine (put_any base B _ _ _ P2.out HHv.out).mono ?_
  rintro e w3 ⟨⟨_, rfl⟩, P3, hb3, hk3⟩
  have X3 : Hid _ := hk3.2 _ _ _ (by decide) hXB X2.out
  have P3 : Hid (Page w3 base B (headT r)) := put_txt P3 (by rw [HTT.out]; rfl)
  have B3 : Hid (Below base w w3) := ((hb0.trans hb1).trans hb2).trans hb3
  clear c0 c1 c2 f0 f1 f2 hb0 hb1 hb2 hb3 hk1 hk2 hk3 P0 P1 P2 X0 X1 X2
  obtain ⟨c0, c1, c2, f0, f1, f2⟩ := three_cells X3.out
  go_wp2_with fail
  go_loopw [19] (fun i wr => ∃ k : Nat, k ≤ m ∧ i = .int .i64 k ∧ Below base w3 wr ∧ Kept B w3 wr ∧ Hid (Page wr base B (headT r ++ (r.2.2.take k).flatMap attrT))) (fun i _ => m - (intOf i).toNat)
  case atStart => exact ⟨0, Nat.zero_le _, rfl, Below.refl _ _, Kept.refl _ _, put_txt P3.out (by simp)⟩
  case round =>
    clear c0 c1 c2 f0 f1 f2
    obtain ⟨k, hk, rfl, hb, hke, P4⟩ := hrel
    have X4 : Hid _ := hke.2 _ _ _ (by decide) hXB X3.out
    obtain ⟨c0, c1, c2, f0, f1, f2⟩ := three_cells X4.out
    by_cases hlt : k < m
    · obtain ⟨⟨an, av⟩, hak⟩ : ∃ a, r.2.2[k]? = some a := ⟨_, List.getElem?_eq_getElem (by rw [← HMM.out]; exact hlt)⟩
      obtain ⟨b, off, rfl, hbl, hcl⟩ := Rows.at HR.out rfl 1 attrF_len k _ hak
      have hbb : b < base := HMem.out b off m cap rfl (fun e => by rw [e] at hak; cases hak)
      have d0 := ((B3.out.trans hb).cell (p := ⟨b, off + k * 2 + 0, none⟩) hbb).trans (hcl 0 _ rfl)
      have d1 := ((B3.out.trans hb).cell (p := ⟨b, off + k * 2 + 1, none⟩) hbb).trans (hcl 1 _ rfl)
      rw [Nat.add_zero] at d0
      have HAN : Hid ((txt an).size ≤ maxLen) := (HA.out _ (List.mem_of_getElem? hak)).1
      have HAV : Hid ((txt av).size ≤ maxLen) := (HA.out _ (List.mem_of_getElem? hak)).2
      have HTK : Hid _ := hdT_take _ _ _ hak
      have hBw : B < wr.heap.size := P4.out.lt.2
      have P5 : Hid (Page (wr.alloc (.cells #[.string (txt an), .string (txt av)] 35)) base B _) := Page.alloc P4.out _ (by omega)
      have Y5 : Hid ((wr.alloc (.cells #[.string (txt an), .string (txt av)] 35)).heap[wr.heap.size]? = some (.cells #[.string (txt an), .string (txt av)] 35 (0, 0))) := heap_new _ _ _
      have hb5 : Below base w3 (wr.alloc (.cells #[.string (txt an), .string (txt av)] 35)) := hb.alloc (by omega) _
      have hk5 : Kept B w3 (wr.alloc (.cells #[.string (txt an), .string (txt av)] 35)) := hke.alloc _
      have hYB : wr.heap.size ≠ B := by omega
      clear hak hcl
      go_wp2_with fail
      refine (put_any base B _ _ _ P5.out (by decide)).mono ?_
      rintro e w6 ⟨⟨_, rfl⟩, P6, hb6, hk6⟩
      have Y6 : Hid _ := hk6.2 _ _ _ (by decide) hYB Y5.out
      have P6 : Hid _ := P6
      obtain ⟨g0, g1, u0, u1⟩ := two_cells Y6.out
      go_wp2_with fail
      refine (put_any base B _ _ _ P6.out HAN.out).mono ?_
      rintro e w7 ⟨⟨_, rfl⟩, P7, hb7, hk7⟩
      have Y7 : Hid _ := hk7.2 _ _ _ (by decide) hYB Y6.out
      have P7 : Hid _ := P7
      clear g0 g1 u0 u1
      obtain ⟨g0, g1, u0, u1⟩ := two_cells Y7.out
      by_cases h0 : av = []
      · have z1 := nil_t av h0
        have z2 : ((txt av).toList != []) = false := by simp only [bne, z1]; rfl
        have HQ : Hid (attrT (an, av) = [59, 32] ++ an) := by show _ = _; unfold attrT; rw [if_pos h0]; simp
        clear h0
        go_wp2_with fail
        go_roundw
        case rel => exact ⟨k + 1, by omega, by go_num, (hb5.trans hb6).trans hb7, (hk5.trans hk6).trans hk7, put_txt P7.out (by rw [HTK.out, HQ.out]; simp only [List.append_assoc]; rfl)⟩
        case measure => simp [intOf]; omega
      · have z1 := nil_f av h0
        have z2 : ((txt av).toList != []) = true := by simp only [bne, z1]; rfl
        have HQ : Hid (attrT (an, av) = [59, 32] ++ an ++ ([61] ++ av)) := by show _ = _; unfold attrT; rw [if_neg h0]
        clear h0
        go_wp2_with fail
        refine (put_any base B _ _ _ P7.out (by decide)).mono ?_
        rintro e w8 ⟨⟨_, rfl⟩, P8, hb8, hk8⟩
        have Y8 : Hid _ := hk8.2 _ _ _ (by decide) hYB Y7.out
        have P8 : Hid _ := P8
        clear g0 g1 u0 u1
        obtain ⟨g0, g1, u0, u1⟩ := two_cells Y8.out
        go_wp2_with fail
        refine (put_any base B _ _ _ P8.out HAV.out).mono ?_
        rintro e w9 ⟨⟨_, rfl⟩, P9, hb9, hk9⟩
        go_wp2_with fail
        go_roundw
        case rel => exact ⟨k + 1, by omega, by go_num, (((hb5.trans hb6).trans hb7).trans hb8).trans hb9, (((hk5.trans hk6).trans hk7).trans hk8).trans hk9, put_txt P9 (by rw [HTK.out, HQ.out]; simp only [List.append_assoc]; rfl)⟩
        case measure => simp [intOf]; omega
    · have HT : Hid (r.2.2.take k = r.2.2) := List.take_of_length_le (by rw [← HMM.out]; omega)
      go_wp2_with fail
      go_end0
      exact ⟨⟨_, rfl⟩, put_txt P4.out (by rw [HT.out]; rfl), B3.out.trans hb⟩
end Go.Proofs.Ytjoailjedfbnbae
