/- Whether a cookie stands ahead of another one, as the reference says; ranks; cells of a list with one turned. -/
import Derived.Test.YtoppjfambomdmaaLineI
namespace Go.Proofs.Ytoppjfambomdmaa
open Go.RowKit
set_option linter.all false
set_option maxRecDepth 100000

theorem two_boxes (wr : World) (a b : List Value) (t : TypeId) : LRow ((wr.alloc (.cells a.toArray t)).alloc (.cells b.toArray t)) wr.heap.size a ∧ LRow ((wr.alloc (.cells a.toArray t)).alloc (.cells b.toArray t)) (wr.heap.size + 1) b := by
  refine ⟨(LRow.new wr a t).below ((Below.refl (wr.heap.size + 1) _).alloc (by simp) _) (by omega), ?_⟩
  have h := LRow.new (wr.alloc (.cells a.toArray t)) b t
  rw [show (wr.alloc (.cells a.toArray t)).heap.size = wr.heap.size + 1 from by simp] at h
  exact h
theorem ahead_len {a b : Ck} {i k : Nat} (h : a.path.length ≠ b.path.length) : tagL ltC (a, i) (b, k) = decide (b.path.length < a.path.length) := by
  rw [Bool.eq_iff_iff, tagL_iff, ltC_iff, decide_eq_true_eq]
  dsimp only
  constructor
  · rintro (h1 | ⟨h1, _⟩)
    · omega
    · have h2 : ¬ ltC b a = true := by rw [h1]; decide
      rw [ltC_iff] at h2; omega
  · intro h1; exact .inl (.inl h1)
theorem ahead_cr {a b : Ck} {i k : Nat} (h0 : a.path.length = b.path.length) (h : a.created ≠ b.created) : tagL ltC (a, i) (b, k) = decide (a.created < b.created) := by
  rw [Bool.eq_iff_iff, tagL_iff, ltC_iff, decide_eq_true_eq]
  dsimp only
  constructor
  · rintro (h1 | ⟨h1, _⟩)
    · omega
    · have h2 : ¬ ltC b a = true := by rw [h1]; decide
      rw [ltC_iff] at h2; omega
  · intro h1; exact .inl (.inr ⟨h0, .inl h1⟩)
theorem ahead_no {a b : Ck} {i k : Nat} (h0 : a.path.length = b.path.length) (h1 : a.created = b.created) (h : a.no ≠ b.no) : tagL ltC (a, i) (b, k) = decide (a.no < b.no) := by
  rw [Bool.eq_iff_iff, tagL_iff, ltC_iff, decide_eq_true_eq]
  dsimp only
  constructor
  · rintro (h2 | ⟨h2, _⟩)
    · omega
    · have h3 : ¬ ltC b a = true := by rw [h2]; decide
      rw [ltC_iff] at h3; omega
  · intro h2; exact .inl (.inr ⟨h0, .inr ⟨h1, h2⟩⟩)
theorem ahead_at {a b : Ck} {i k : Nat} (h0 : a.path.length = b.path.length) (h1 : a.created = b.created) (h : a.no = b.no) : tagL ltC (a, i) (b, k) = decide (i < k) := by
  rw [Bool.eq_iff_iff, tagL_iff, ltC_iff, decide_eq_true_eq]
  dsimp only
  constructor
  · rintro (h2 | ⟨h2, h3⟩)
    · omega
    · exact h3
  · intro h2
    refine .inr ⟨?_, h2⟩
    rw [← Bool.not_eq_true, ltC_iff]
    omega
set_option maxHeartbeats 4000000 in
theorem ahead_any (a b : Ck) (i k : Nat) (w : World) (hi : i ≤ 1048576) (hk : k ≤ 1048576) :
    Calls Try.prog 26 #[.agg (ckC a).toArray, .agg (ckC b).toArray, .int .i64 (i : Int), .int .i64 (k : Int)] w fun e w' => e = .returned (.bool (tagL ltC (a, i) (b, k))) ∧ Below w.heap.size w w' := by
  obtain ⟨LA, LB⟩ := two_boxes w (ckC a) (ckC b) 34
  have B0 : Hid (Below w.heap.size w ((w.alloc (.cells (ckC a).toArray 34)).alloc (.cells (ckC b).toArray 34))) := ((Below.refl _ w).alloc (Nat.le_refl _) _).alloc (by simp) _
  have a3 := LA.cell 3 rfl
  have a10 := LA.cell 10 rfl
  have a12 := LA.cell 12 rfl
  have b3 := LB.cell 3 rfl
  have b10 := LB.cell 10 rfl
  have b12 := LB.cell 12 rfl
  clear LA LB
  obtain ⟨q, hq⟩ : ∃ q, q = tagL ltC (a, i) (b, k) := ⟨_, rfl⟩
  rw [← hq]
  have HQ : Hid _ := hq
  obtain ⟨xp, hxp⟩ : ∃ p : Nat, p = a.path.length := ⟨_, rfl⟩
  obtain ⟨yp, hyp⟩ : ∃ p : Nat, p = b.path.length := ⟨_, rfl⟩
  have hlp : ((txt a.path).size : Int) = (xp : Int) := by rw [hxp]; rfl
  have hlq : ((txt b.path).size : Int) = (yp : Int) := by rw [hyp]; rfl
  obtain ⟨W, hW⟩ : ∃ W, W = ((w.alloc (.cells (ckC a).toArray 34)).alloc (.cells (ckC b).toArray 34)) := ⟨_, rfl⟩
  have HW : Hid _ := hW
  clear hq hW
  simp only [ckC] at a3 a10 a12 b3 b10 b12 ⊢
  by_cases h1 : xp = yp
  · have g1 : ((xp : Int) != (yp : Int)) = false := by rw [h1]; simp
    have g1' : ((xp : Int) == (yp : Int)) = true := by rw [h1]; simp
    by_cases h2 : a.created = b.created
    · have g2 : (a.created != b.created) = false := by rw [h2]; simp
      by_cases h3 : a.no = b.no
      · have g3 : (a.no != b.no) = false := by rw [h3]; simp
        have HT : Hid (q = decide (i < k)) := HQ.out.trans (ahead_at (by omega) h2 h3)
        have HD : Hid (decide ((i : Int) < (k : Int)) = decide (i < k)) := decide_eq_decide.2 (by omega)
        clear h1 h2 h3 hxp hyp
        go_enter Try.func26, Try.ntmps26
        go_wp2_with fail
        go_ret
        exact ⟨by rw [HT.out]; first | rfl | (rw [← HD.out]; rfl), B0.out⟩
      · have g3 : (a.no != b.no) = true := by rw [bne_iff_ne]; exact h3
        have HT : Hid (q = decide (a.no < b.no)) := HQ.out.trans (ahead_no (by omega) h2 h3)
        clear h1 h2 h3 hxp hyp
        go_enter Try.func26, Try.ntmps26
        go_wp2_with fail
        go_ret
        exact ⟨by rw [HT.out]; rfl, B0.out⟩
    · have g2 : (a.created != b.created) = true := by rw [bne_iff_ne]; exact h2
      have HT : Hid (q = decide (a.created < b.created)) := HQ.out.trans (ahead_cr (by omega) h2)
      clear h1 h2 hxp hyp
      go_enter Try.func26, Try.ntmps26
      go_wp2_with fail
      go_ret
      exact ⟨by rw [HT.out]; rfl, B0.out⟩
  · have g1 : ((xp : Int) != (yp : Int)) = true := by rw [bne_iff_ne]; omega
    have g1' : ((xp : Int) == (yp : Int)) = false := by rw [beq_eq_false_iff_ne]; omega
    have HT : Hid (q = decide (yp < xp)) := HQ.out.trans (by rw [hxp, hyp]; exact ahead_len (by omega))
    have HD : Hid (decide ((yp : Int) < (xp : Int)) = decide (yp < xp)) := decide_eq_decide.2 (by omega)
    clear h1 hxp hyp
    go_enter Try.func26, Try.ntmps26
    go_wp2_with fail
    go_ret
    exact ⟨by rw [HT.out]; first | rfl | (rw [← HD.out]; rfl), B0.out⟩
/-- how many of a list are ahead of one -/
def rk (l : List (Ck × Nat)) (y : Ck × Nat) : Nat := (l.filter (fun x => tagL ltC x y)).length
theorem rk_perm {l r : List (Ck × Nat)} (h : l.Perm r) (y : Ck × Nat) : rk l y = rk r y := (h.filter _).length_eq
theorem rk_at (t : List (Ck × Nat)) (ht : t.Pairwise (fun x y => tagL ltC x y = true)) (p : Nat) (y : Ck × Nat) (h : t[p]? = some y) : rk t y = p := by
  induction t generalizing p with
  | nil => cases h
  | cons x t ih =>
    rw [List.pairwise_cons] at ht
    cases p with
    | zero =>
      have e : x = y := by simpa using h
      subst e
      have hself : tagL ltC x x = false := by
        cases e : tagL ltC x x with
        | false => rfl
        | true => exact (tagL_asym x x e e).elim
      have hrest : t.filter (fun z => tagL ltC z x) = [] := by
        rw [List.filter_eq_nil_iff]
        intro z hz e
        exact tagL_asym x z (ht.1 z hz) e
      unfold rk
      rw [List.filter_cons, hself]
      simp [hrest]
    | succ p =>
      have h : t[p]? = some y := by simpa using h
      have := ih ht.2 p h
      unfold rk at this ⊢
      rw [List.filter_cons, ht.1 y (List.mem_of_getElem? h)]
      simp [this]
theorem rk_snoc (l : List (Ck × Nat)) (k : Nat) (x y : Ck × Nat) (h : l[k]? = some x) : rk (l.take (k + 1)) y = rk (l.take k) y + if tagL ltC x y then 1 else 0 := by
  unfold rk
  rw [List.take_succ, h]
  simp only [Option.toList_some, List.filter_append, List.length_append]
  congr 1
  cases e : tagL ltC x y <;> simp [e]
theorem rk_le (l : List (Ck × Nat)) (y : Ck × Nat) : rk l y ≤ l.length := List.length_filter_le _ _
theorem tag_self (x : Ck × Nat) : tagL ltC x x = false := by
  cases e : tagL ltC x x with
  | false => rfl
  | true => exact (tagL_asym x x e e).elim
theorem set_off (A Z : List Value) (n i : Nat) (v : Value) (h : A.length = n) : (A ++ Z).set (n + i) v = A ++ Z.set i v := by
  subst h
  rw [List.set_append_right _ _ (by omega), Nat.add_sub_cancel_left]
theorem set_off0 (A Z : List Value) (n : Nat) (v : Value) (h : A.length = n) : (A ++ Z).set n v = A ++ Z.set 0 v := by
  have := set_off A Z n 0 v h
  rwa [Nat.add_zero] at this
/-- one of the list turned, cell by cell -/
theorem flat_turn (o : List Ck) (p : Nat) (c : Ck) (hp : p < o.length) :
    ((((((((((((((o.flatMap ckC).set (p * 13) (.string (txt c.name))).set (p * 13 + 1) (.string (txt c.value))).set (p * 13 + 2) (.string (txt c.domain))).set (p * 13 + 3) (.string (txt c.path))).set (p * 13 + 4) (.bool c.hostOnly)).set (p * 13 + 5) (.bool c.secure)).set (p * 13 + 6) (.bool c.httpOnly)).set (p * 13 + 7) (.bool c.lasting)).set (p * 13 + 8) (.int .i64 c.site)).set (p * 13 + 9) (.int .i64 c.expiry)).set (p * 13 + 10) (.int .i64 c.created)).set (p * 13 + 11) (.int .i64 c.used)).set (p * 13 + 12) (.int .i64 c.no)) = (o.set p c).flatMap ckC := by
  obtain ⟨x, hx⟩ : ∃ x, x = o[p] := ⟨_, rfl⟩
  have e : o = o.take p ++ x :: o.drop (p + 1) := by rw [hx, ← List.drop_eq_getElem_cons hp, List.take_append_drop]
  have hA : ((o.take p).flatMap ckC).length = p * 13 := by rw [flat_len ckC 13 (fun _ => rfl), List.length_take, Nat.min_eq_left (by omega)]
  have e1 : o.flatMap ckC = (o.take p).flatMap ckC ++ (ckC x ++ (o.drop (p + 1)).flatMap ckC) := by
    conv => lhs; rw [e]
    rw [List.flatMap_append, List.flatMap_cons]
  have e2 : (o.set p c).flatMap ckC = (o.take p).flatMap ckC ++ (ckC c ++ (o.drop (p + 1)).flatMap ckC) := by
    rw [List.set_eq_take_append_cons_drop, if_pos hp, List.flatMap_append, List.flatMap_cons]
  rw [e1, e2, set_off0 _ _ _ _ hA]
  simp only [set_off _ _ _ _ _ hA]
  rfl
end Go.Proofs.Ytoppjfambomdmaa
