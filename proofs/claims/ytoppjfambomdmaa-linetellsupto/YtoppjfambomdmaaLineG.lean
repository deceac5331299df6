/- What the statements on lines ask first, walked. -/
import Derived.Test.YtoppjfambomdmaaLineF
namespace Go.Proofs.Ytoppjfambomdmaa
open Go.RowKit
set_option linter.all false
set_option maxRecDepth 100000

theorem take_rows {α : Type} {f : α → List Value} {W : World} {X : Nat} {n cap : Nat} {l : List α} (h : Rows W (.slice (some ⟨X, 0, none⟩) n cap) f l) (k : Nat) (hk : k ≤ l.length) (c2 : Nat) : Rows W (.slice (some ⟨X, 0, none⟩) k c2) f (l.take k) := by
  obtain ⟨ad, cp, e, h⟩ := h
  injection e with e1 e2 e3
  subst e1
  refine ⟨_, c2, by rw [List.length_take, Nat.min_eq_left hk], ?_⟩
  rcases h with h | ⟨b, off, hb, h⟩
  · left
    have : ∀ x ∈ l, f x = [] := fun x hx => List.flatMap_eq_nil_iff.1 h x hx
    exact List.flatMap_eq_nil_iff.2 fun x hx => this x (List.mem_of_mem_take hx)
  · right
    refine ⟨b, off, hb, fun j u hj => h j u ?_⟩
    have e : l.flatMap f = (l.take k).flatMap f ++ (l.drop k).flatMap f := by rw [← List.flatMap_append, List.take_append_drop]
    rw [e, List.getElem?_append_left (List.getElem?_eq_some_iff.1 hj).1]
    exact hj
theorem keep_alloc {w w' : World} (h : Below w.heap.size w w') (o : Obj) : Below w.heap.size w (w'.alloc o) := h.alloc h.size o
set_option maxHeartbeats 8000000 in
theorem lineBegun_any (w : World) : Calls Try.prog 9 #[] w fun e w' => e = .returned (.bool true) ∧ Below w.heap.size w w' := by
  go_enter Try.func9, Try.ntmps9
  go_wp2_with fail
  refine (crumb_a _).mono ?_
  rintro e w1 ⟨rfl, hb1⟩
  go_wp2_with fail
  refine (crumb_b _).mono ?_
  rintro e w2 ⟨rfl, hb2⟩
  have HB2 : Hid _ := next hb1 hb2
  clear hb1 hb2
  go_wp2_with fail
  refine (crumb_c _).mono ?_
  rintro e w3 ⟨rfl, hb3⟩
  have HB3 : Hid _ := next HB2.out hb3
  clear hb3
  go_wp2_with fail
  refine (crumb_d _).mono ?_
  rintro e w4 ⟨rfl, hb4⟩
  have HB4 : Hid _ := next HB3.out hb4
  clear hb4
  go_wp2_with fail
  obtain ⟨X, hX⟩ : ∃ X, X = w4.heap.size := ⟨_, rfl⟩
  obtain ⟨W1, hW1⟩ : ∃ W, W = w4.alloc (.cells #[.string ⟨#[97]⟩, .string ⟨#[118]⟩, .string ⟨#[]⟩, .string ⟨#[47]⟩, .bool false, .bool false, .bool false, .bool false, .int .i64 0, .int .i64 0, .int .i64 5, .int .i64 0, .int .i64 1, .string ⟨#[98]⟩, .string ⟨#[118]⟩, .string ⟨#[]⟩, .string ⟨#[47, 120]⟩, .bool false, .bool false, .bool false, .bool false, .int .i64 0, .int .i64 0, .int .i64 9, .int .i64 0, .int .i64 2, .string ⟨#[99]⟩, .string ⟨#[118]⟩, .string ⟨#[]⟩, .string ⟨#[47]⟩, .bool false, .bool false, .bool false, .bool false, .int .i64 0, .int .i64 0, .int .i64 4, .int .i64 0, .int .i64 3, .string ⟨#[100]⟩, .string ⟨#[118]⟩, .string ⟨#[]⟩, .string ⟨#[47]⟩, .bool false, .bool false, .bool false, .bool false, .int .i64 0, .int .i64 0, .int .i64 5, .int .i64 0, .int .i64 0] 34) := ⟨_, rfl⟩
  rw [← hW1, ← hX]
  have RL : Hid (Rows W1 (.slice (some ⟨X, 0, none⟩) 4 4) ckC gL) := by rw [hW1]; exact Rows.lit w4 gL _ X 4 4 _ hX rfl rfl
  have B1 : Hid (Below w.heap.size w W1) := by rw [hW1]; exact HB4.out.alloc HB4.out.size _
  clear hW1 hX
  refine (lb_sort _ _ RL.out).mono ?_
  rintro e w5 ⟨v5, rfl, r5, hb5⟩
  have RS5 : Hid _ := r5
  have RL5 : Hid _ := Rows.below RL.out hb5 (Nat.le_refl _)
  have B5 : Hid _ := next B1.out hb5
  clear r5 hb5 RL
  go_wp2_with fail
  refine (lb_read1 _).mono ?_
  rintro e w6 ⟨v6, rfl, r6, hb6⟩
  have RS6 : Hid _ := Rows.below RS5.out hb6 (Nat.le_refl _)
  have RL6 : Hid _ := Rows.below RL5.out hb6 (Nat.le_refl _)
  have RP6 : Hid _ := r6
  have B6 : Hid _ := next B5.out hb6
  clear r6 hb6 RS5 RL5
  go_wp2_with fail
  refine (lb_read2 _).mono ?_
  rintro e w7 ⟨v7, rfl, hb7⟩
  have RS7 : Hid _ := Rows.below RS6.out hb7 (Nat.le_refl _)
  have RL7 : Hid _ := Rows.below RL6.out hb7 (Nat.le_refl _)
  have RP7 : Hid _ := Rows.below RP6.out hb7 (Nat.le_refl _)
  have B7 : Hid _ := next B6.out hb7
  clear hb7 RS6 RL6 RP6
  have hc0 : ∀ (k i : Nat) c u, gL[k]? = some c → (ckC c)[i]? = some u → ∀ w', Below w7.heap.size w7 w' → w'.cell? ⟨X, k * 13 + i, none⟩ = some u := fun k i c u hk hi w' hw' => by
    obtain ⟨b, o, e, hb, h⟩ := Rows.at RL7.out rfl 12 (fun _ => rfl) k c hk
    injection e with e
    injection e with e1 e2
    subst e1 e2
    have h2 := h i u hi
    rw [Nat.zero_add] at h2
    exact (hw'.cell (p := ⟨X, k * (12 + 1) + i, none⟩) hb).trans h2
  have c0_0 := hc0 0 0 _ _ rfl rfl
  have c0_1 := hc0 0 1 _ _ rfl rfl
  have c0_2 := hc0 0 2 _ _ rfl rfl
  have c0_3 := hc0 0 3 _ _ rfl rfl
  have c0_4 := hc0 0 4 _ _ rfl rfl
  have c0_5 := hc0 0 5 _ _ rfl rfl
  have c0_6 := hc0 0 6 _ _ rfl rfl
  have c0_7 := hc0 0 7 _ _ rfl rfl
  have c0_8 := hc0 0 8 _ _ rfl rfl
  have c0_9 := hc0 0 9 _ _ rfl rfl
  have c0_10 := hc0 0 10 _ _ rfl rfl
  have c0_11 := hc0 0 11 _ _ rfl rfl
  have c0_12 := hc0 0 12 _ _ rfl rfl
  have c1_0 := hc0 1 0 _ _ rfl rfl
  have c1_1 := hc0 1 1 _ _ rfl rfl
  have c1_2 := hc0 1 2 _ _ rfl rfl
  have c1_3 := hc0 1 3 _ _ rfl rfl
  have c1_4 := hc0 1 4 _ _ rfl rfl
  have c1_5 := hc0 1 5 _ _ rfl rfl
  have c1_6 := hc0 1 6 _ _ rfl rfl
  have c1_7 := hc0 1 7 _ _ rfl rfl
  have c1_8 := hc0 1 8 _ _ rfl rfl
  have c1_9 := hc0 1 9 _ _ rfl rfl
  have c1_10 := hc0 1 10 _ _ rfl rfl
  have c1_11 := hc0 1 11 _ _ rfl rfl
  have c1_12 := hc0 1 12 _ _ rfl rfl
  have c2_0 := hc0 2 0 _ _ rfl rfl
  have c2_1 := hc0 2 1 _ _ rfl rfl
  have c2_2 := hc0 2 2 _ _ rfl rfl
  have c2_3 := hc0 2 3 _ _ rfl rfl
  have c2_4 := hc0 2 4 _ _ rfl rfl
  have c2_5 := hc0 2 5 _ _ rfl rfl
  have c2_6 := hc0 2 6 _ _ rfl rfl
  have c2_7 := hc0 2 7 _ _ rfl rfl
  have c2_8 := hc0 2 8 _ _ rfl rfl
  have c2_9 := hc0 2 9 _ _ rfl rfl
  have c2_10 := hc0 2 10 _ _ rfl rfl
  have c2_11 := hc0 2 11 _ _ rfl rfl
  have c2_12 := hc0 2 12 _ _ rfl rfl
  have c3_0 := hc0 3 0 _ _ rfl rfl
  have c3_1 := hc0 3 1 _ _ rfl rfl
  have c3_2 := hc0 3 2 _ _ rfl rfl
  have c3_3 := hc0 3 3 _ _ rfl rfl
  have c3_4 := hc0 3 4 _ _ rfl rfl
  have c3_5 := hc0 3 5 _ _ rfl rfl
  have c3_6 := hc0 3 6 _ _ rfl rfl
  have c3_7 := hc0 3 7 _ _ rfl rfl
  have c3_8 := hc0 3 8 _ _ rfl rfl
  have c3_9 := hc0 3 9 _ _ rfl rfl
  have c3_10 := hc0 3 10 _ _ rfl rfl
  have c3_11 := hc0 3 11 _ _ rfl rfl
  have c3_12 := hc0 3 12 _ _ rfl rfl
  simp only [Nat.zero_mul, Nat.one_mul, Nat.reduceMul, Nat.reduceAdd, Nat.zero_add, Nat.add_zero] at c0_0 c0_1 c0_2 c0_3 c0_4 c0_5 c0_6 c0_7 c0_8 c0_9 c0_10 c0_11 c0_12 c1_0 c1_1 c1_2 c1_3 c1_4 c1_5 c1_6 c1_7 c1_8 c1_9 c1_10 c1_11 c1_12 c2_0 c2_1 c2_2 c2_3 c2_4 c2_5 c2_6 c2_7 c2_8 c2_9 c2_10 c2_11 c2_12 c3_0 c3_1 c3_2 c3_3 c3_4 c3_5 c3_6 c3_7 c3_8 c3_9 c3_10 c3_11 c3_12
  clear hc0
  have HS1 : Hid (∀ o, Rows (w7.drew.alloc o) v5 ckC gS) := fun o => Rows.below RS7.out ((Below.refl _ w7).drew.alloc (by simp) o) (Nat.le_refl _)
  have HS2 : Hid (Rows (w7.drew.alloc (.cells #[.string ⟨#[98]⟩, .string ⟨#[118]⟩, .string ⟨#[]⟩, .string ⟨#[47, 120]⟩, .bool false, .bool false, .bool false, .bool false, .int .i64 0, .int .i64 0, .int .i64 9, .int .i64 0, .int .i64 2, .string ⟨#[99]⟩, .string ⟨#[118]⟩, .string ⟨#[]⟩, .string ⟨#[47]⟩, .bool false, .bool false, .bool false, .bool false, .int .i64 0, .int .i64 0, .int .i64 4, .int .i64 0, .int .i64 3, .string ⟨#[100]⟩, .string ⟨#[118]⟩, .string ⟨#[]⟩, .string ⟨#[47]⟩, .bool false, .bool false, .bool false, .bool false, .int .i64 0, .int .i64 0, .int .i64 5, .int .i64 0, .int .i64 0, .string ⟨#[97]⟩, .string ⟨#[118]⟩, .string ⟨#[]⟩, .string ⟨#[47]⟩, .bool false, .bool false, .bool false, .bool false, .int .i64 0, .int .i64 0, .int .i64 5, .int .i64 0, .int .i64 1] 34)) (.slice (some ⟨w7.heap.size, 0, none⟩) 4 4) ckC gS) := Rows.lit w7.drew gS _ _ 4 4 _ rfl rfl rfl
  have HL1 : Hid (∀ w', Below w7.heap.size w7 w' → Rows w' (.slice (some ⟨X, 0, none⟩) 2 4) ckC [ca, cb]) := fun w' hw' => take_rows (Rows.below RL7.out hw' (Nat.le_refl _)) 2 (by decide) 4
  have HP1 : Hid (∀ w' o, Below w7.heap.size w7 w' → Rows (w'.alloc o) v6 prF gP) := fun w' o hw' => Rows.below RP7.out (hw'.alloc hw'.size o) (Nat.le_refl _)
  go_wp2_with fail
  go_region_held3 (fun w' => Below w7.heap.size w7 w') (first | assumption | exact (Below.refl _ _).drew | exact keep_alloc (by assumption) _ | fail)
    (first
    | (go_at_call 10; refine (lb_same _ _ _ (HS1.out _) HS2.out).mono ?_; rintro e w8 ⟨rfl, hb8⟩; have hB8 : Below w7.heap.size w7 w8 := ((Below.refl _ w7).drew.alloc (by simp) _).trans (hb8.mono (by simp)))
    | (go_at_call 13; refine (lb_write _ _ (HL1.out _ (by assumption))).mono ?_; rintro e w9 ⟨rfl, hb9⟩; have hB9 : Below w7.heap.size w7 w9 := hB8.trans (hb9.mono hB8.size))
    | (go_at_call 15; refine (lb_attrs _ _ _ (HP1.out _ _ (by assumption)) (Rows.lit _ gP _ _ _ _ _ rfl rfl rfl)).mono ?_; rintro e w10 ⟨rfl, hb10⟩; have hB10 : Below w7.heap.size w7 w10 := (hB9.alloc hB9.size _).trans (hb10.mono (Nat.le_trans hB9.size (by simp))))
    | fail)
  all_goals
    go_wp2_with fail
    go_ret
    exact ⟨rfl, next B7.out hB10⟩
end Go.Proofs.Ytoppjfambomdmaa
