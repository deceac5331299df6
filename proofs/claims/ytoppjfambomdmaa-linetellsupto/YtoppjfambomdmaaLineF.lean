/- What the statements on lines ask first: some calls at known cookies. -/
import Derived.Test.YtoppjfambomdmaaLineD
import Derived.Deep.RegionHeld3
namespace Go.Proofs.Ytoppjfambomdmaa
open Go.RowKit
set_option linter.all false
set_option maxRecDepth 100000

def crumbL (n p : List UInt8) (cr no : Int) : Ck := ⟨n, [118], [], p, false, false, false, false, 0, 0, cr, 0, no⟩
theorem crumb_any (n p : ByteArray) (cr no : Int) (w : World) : Calls Try.prog 20 #[.string n, .string p, .int .i64 cr, .int .i64 no] w fun e w' => e = .returned (.agg (ckC (crumbL n.data.toList p.data.toList cr no)).toArray) ∧ Below w.heap.size w w' := by
  go_enter Try.func20, Try.ntmps20
  go_wp2_with fail
  exact bodyPost_ret (v := .agg (ckC (crumbL n.data.toList p.data.toList cr no)).toArray) (by simp [results, Try.results20, go_sem]; rfl) rfl ⟨rfl, (Below.refl _ _).alloc (Nat.le_refl _) _⟩
def ca : Ck := crumbL [97] [47] 5 1
theorem crumb_a (w : World) : Calls Try.prog 20 #[.string ⟨#[97]⟩, .string ⟨#[47]⟩, .int .i64 5, .int .i64 1] w fun e w' => e = .returned (.agg #[.string ⟨#[97]⟩, .string ⟨#[118]⟩, .string ⟨#[]⟩, .string ⟨#[47]⟩, .bool false, .bool false, .bool false, .bool false, .int .i64 0, .int .i64 0, .int .i64 5, .int .i64 0, .int .i64 1]) ∧ Below w.heap.size w w' := crumb_any ⟨#[97]⟩ ⟨#[47]⟩ 5 1 w
def cb : Ck := crumbL [98] [47, 120] 9 2
theorem crumb_b (w : World) : Calls Try.prog 20 #[.string ⟨#[98]⟩, .string ⟨#[47, 120]⟩, .int .i64 9, .int .i64 2] w fun e w' => e = .returned (.agg #[.string ⟨#[98]⟩, .string ⟨#[118]⟩, .string ⟨#[]⟩, .string ⟨#[47, 120]⟩, .bool false, .bool false, .bool false, .bool false, .int .i64 0, .int .i64 0, .int .i64 9, .int .i64 0, .int .i64 2]) ∧ Below w.heap.size w w' := crumb_any ⟨#[98]⟩ ⟨#[47, 120]⟩ 9 2 w
def cc : Ck := crumbL [99] [47] 4 3
theorem crumb_c (w : World) : Calls Try.prog 20 #[.string ⟨#[99]⟩, .string ⟨#[47]⟩, .int .i64 4, .int .i64 3] w fun e w' => e = .returned (.agg #[.string ⟨#[99]⟩, .string ⟨#[118]⟩, .string ⟨#[]⟩, .string ⟨#[47]⟩, .bool false, .bool false, .bool false, .bool false, .int .i64 0, .int .i64 0, .int .i64 4, .int .i64 0, .int .i64 3]) ∧ Below w.heap.size w w' := crumb_any ⟨#[99]⟩ ⟨#[47]⟩ 4 3 w
def cd : Ck := crumbL [100] [47] 5 0
theorem crumb_d (w : World) : Calls Try.prog 20 #[.string ⟨#[100]⟩, .string ⟨#[47]⟩, .int .i64 5, .int .i64 0] w fun e w' => e = .returned (.agg #[.string ⟨#[100]⟩, .string ⟨#[118]⟩, .string ⟨#[]⟩, .string ⟨#[47]⟩, .bool false, .bool false, .bool false, .bool false, .int .i64 0, .int .i64 0, .int .i64 5, .int .i64 0, .int .i64 0]) ∧ Below w.heap.size w w' := crumb_any ⟨#[100]⟩ ⟨#[47]⟩ 5 0 w
def gL : List Ck := [ca, cb, cc, cd]
def gS : List Ck := [cb, cc, cd, ca]
theorem gS_sort : IsSort gL gS := by
  refine ⟨[(cb, 1), (cc, 2), (cd, 3), (ca, 0)], rfl, List.perm_append_comm (l₁ := [(cb, 1), (cc, 2), (cd, 3)]) (l₂ := [(ca, 0)]), ?_⟩
  intro i j x y hij hx hy
  have hj : j < 4 := (List.getElem?_eq_some_iff.1 hy).1
  rcases (by omega : (i = 0 ∧ j = 1) ∨ (i = 0 ∧ j = 2) ∨ (i = 0 ∧ j = 3) ∨ (i = 1 ∧ j = 2) ∨ (i = 1 ∧ j = 3) ∨ (i = 2 ∧ j = 3)) with ⟨rfl, rfl⟩ | ⟨rfl, rfl⟩ | ⟨rfl, rfl⟩ | ⟨rfl, rfl⟩ | ⟨rfl, rfl⟩ | ⟨rfl, rfl⟩ <;> (injection hx with hx; injection hy with hy; subst hx hy; decide +kernel)
def gP : List Pr := [([97], [49]), ([98], [120, 61, 121])]
theorem gr1 : readsE [97, 61, 49, 59, 32, 98, 61, 120, 61, 121] = 0 ∧ readsL [97, 61, 49, 59, 32, 98, 61, 120, 61, 121] = gP := by decide +kernel
theorem gr2 : readsE [97, 61, 49, 59, 98, 61, 50] = 1 := by decide +kernel
theorem gw : wrL [ca, cb] = [97, 61, 118, 59, 32, 98, 61, 118] := by decide +kernel
theorem lb_read1 (w : World) : Calls Try.prog 7 #[.string ⟨#[97, 61, 49, 59, 32, 98, 61, 120, 61, 121]⟩] w fun e w' => ∃ v, e = .returned (.tuple #[v, .int .i64 0]) ∧ Rows w' v prF gP ∧ Below w.heap.size w w' :=
  (lread_any ⟨#[97, 61, 49, 59, 32, 98, 61, 120, 61, 121]⟩ w (by decide)).mono fun e w' ⟨v, h1, h2, h3⟩ => ⟨v, by rw [show (⟨#[97, 61, 49, 59, 32, 98, 61, 120, 61, 121]⟩ : ByteArray).data.toList = [97, 61, 49, 59, 32, 98, 61, 120, 61, 121] from rfl, gr1.1] at h1; exact h1, by rw [show (⟨#[97, 61, 49, 59, 32, 98, 61, 120, 61, 121]⟩ : ByteArray).data.toList = [97, 61, 49, 59, 32, 98, 61, 120, 61, 121] from rfl, gr1.2] at h2; exact h2, h3⟩
theorem lb_read2 (w : World) : Calls Try.prog 7 #[.string ⟨#[97, 61, 49, 59, 98, 61, 50]⟩] w fun e w' => ∃ v, e = .returned (.tuple #[v, .int .i64 1]) ∧ Below w.heap.size w w' :=
  (lread_any ⟨#[97, 61, 49, 59, 98, 61, 50]⟩ w (by decide)).mono fun e w' ⟨v, h1, h2, h3⟩ => ⟨v, by rw [show (⟨#[97, 61, 49, 59, 98, 61, 50]⟩ : ByteArray).data.toList = [97, 61, 49, 59, 98, 61, 50] from rfl, gr2] at h1; exact h1, h3⟩
theorem lb_sort (v : Value) (w : World) (hr : Rows w v ckC gL) : Calls Try.prog 11 #[v] w fun e w' => ∃ v', e = .returned v' ∧ Rows w' v' ckC gS ∧ Below w.heap.size w w' :=
  (sort_any v gL w hr (by decide)).mono fun e w' ⟨v', s, h1, h2, h3, h4⟩ => ⟨v', h1, by rw [h2.one gS_sort] at h3; exact h3, h4⟩
theorem lb_write (v : Value) (w : World) (hr : Rows w v ckC [ca, cb]) : Calls Try.prog 13 #[v] w fun e w' => e = .returned (.string ⟨#[97, 61, 118, 59, 32, 98, 61, 118]⟩) ∧ Below w.heap.size w w' :=
  (write_any v [ca, cb] w hr (by decide) (by decide +kernel)).mono fun e w' ⟨h1, h2⟩ => ⟨by rw [gw] at h1; exact h1, h2⟩
theorem lb_same (va vb : Value) (w : World) (ha : Rows w va ckC gS) (hb : Rows w vb ckC gS) : Calls Try.prog 10 #[va, vb] w fun e w' => e = .returned (.bool true) ∧ Below w.heap.size w w' :=
  (sameCk_any va vb gS gS w ha hb (by decide) (by decide)).mono fun e w' ⟨h1, n, h2⟩ => ⟨by rw [(eqL_iff _ _).2 rfl] at h1; exact h1, by rw [h2]; exact below_drewN' _ _ _⟩
theorem lb_attrs (va vb : Value) (w : World) (ha : Rows w va prF gP) (hb : Rows w vb prF gP) : Calls Try.prog 15 #[va, vb] w fun e w' => e = .returned (.bool true) ∧ Below w.heap.size w w' :=
  (sameAt_any va vb gP gP w ha hb (by decide) (by decide)).mono fun e w' ⟨h1, n, h2⟩ => ⟨by rw [(eqP_iff _ _).2 rfl] at h1; exact h1, by rw [h2]; exact below_drewN' _ _ _⟩
end Go.Proofs.Ytoppjfambomdmaa
