/- What must be in any case about what goes along. -/
import Derived.Test.YtgjjkieljdamfafGoesB
import Derived.Test.YtgjjkieljdamfafKit3
namespace Go.Proofs.Ytgjjkieljdamfaf
open Go.RowKit
set_option linter.all false
set_option maxRecDepth 100000

def cId : Ck := ⟨[105, 100], [55], [115, 104, 111, 112, 46, 99, 111, 109], [47, 99, 97, 114, 116], false, true, false, true, 0, 1060, 1000, 1000, 0⟩
def gShop : Fr := ⟨[119, 119, 119, 46, 115, 104, 111, 112, 46, 99, 111, 109], [47, 99, 97, 114, 116, 47, 97, 100, 100], true, false, false⟩
def gSlow : Fr := { gShop with secure := false }
def gFar : Fr := { gShop with abroad := true }
theorem ident_any (w : World) : Calls Try.prog 24 #[] w fun e w' => e = .returned (.agg (ckC cId).toArray) ∧ Below w.heap.size w w' := by
  go_enter Try.func24, Try.ntmps24
  go_wp2_with fail
  exact bodyPost_ret (v := .agg (ckC cId).toArray) (by simp [results, Try.results24, go_sem]; rfl) rfl ⟨rfl, (Below.refl _ _).alloc (Nat.le_refl _) _⟩
theorem gshop_any (w : World) : Calls Try.prog 23 #[] w fun e w' => e = .returned (.agg (frL gShop).toArray) ∧ Below w.heap.size w w' := by
  go_enter Try.func23, Try.ntmps23
  go_wp2_with fail
  exact bodyPost_ret (v := .agg (frL gShop).toArray) (by simp [results, Try.results23, go_sem]; rfl) rfl ⟨rfl, (Below.refl _ _).alloc (Nat.le_refl _) _⟩
theorem gb1 : goesL cId gShop 1059 = true := by decide +kernel
theorem gb2 : goesL cId gShop 1060 = false := by decide +kernel
theorem gb3 : goesL cId gSlow 1000 = false := by decide +kernel
theorem gb4 : goesL cId gFar 1000 = false := by decide +kernel
theorem goesB_any (f : Fr) (t : Int) (b : Bool) (W : World) (h : goesL cId f t = b) (hh : f.host.length ≤ maxLen) (hp : f.path.length ≤ maxLen) :
    Calls Try.prog 10 #[.agg (ckC cId).toArray, .agg (frL f).toArray, .int .i64 t] W fun e w' => e = .returned (.bool b) ∧ Below W.heap.size W w' := by
  subst h
  exact goes_any cId f t W hh hp (by decide +kernel) (by decide +kernel)
theorem liveB_any (W : World) : Calls Try.prog 8 #[.agg (ckC cId).toArray, .int .i64 0] W fun e w' => e = .returned (.bool true) ∧ Below W.heap.size W w' := live_any cId 0 W
set_option maxHeartbeats 2000000 in
theorem goesBegun_any (w : World) : Calls Try.prog 7 #[] w fun e w' => e = .returned (.bool true) ∧ Below w.heap.size w w' := by
  go_enter Try.func7, Try.ntmps7
  go_wp2_with fail
  refine (gshop_any _).mono ?_
  rw [show (frL gShop).toArray = #[.string ⟨#[119, 119, 119, 46, 115, 104, 111, 112, 46, 99, 111, 109]⟩, .string ⟨#[47, 99, 97, 114, 116, 47, 97, 100, 100]⟩, .bool true, .bool false, .bool false] from rfl]
  rintro e w1 ⟨rfl, hb1⟩
  obtain ⟨W1, hW1⟩ : ∃ W1, W1 = (((w1.alloc (.cells #[.string ⟨#[119, 119, 119, 46, 115, 104, 111, 112, 46, 99, 111, 109]⟩, .string ⟨#[47, 99, 97, 114, 116, 47, 97, 100, 100]⟩, .bool true, .bool false, .bool false] 25)).alloc (.cells #[.string ⟨#[119, 119, 119, 46, 115, 104, 111, 112, 46, 99, 111, 109]⟩, .string ⟨#[47, 99, 97, 114, 116, 47, 97, 100, 100]⟩, .bool false, .bool false, .bool false] 25)).alloc (.cells #[.string ⟨#[119, 119, 119, 46, 115, 104, 111, 112, 46, 99, 111, 109]⟩, .string ⟨#[47, 99, 97, 114, 116, 47, 97, 100, 100]⟩, .bool true, .bool false, .bool true] 25)) := ⟨_, rfl⟩
  have B1 : Hid (Below w.heap.size w W1) := by
    rw [hW1]
    exact next hb1 ((((Below.refl _ _).alloc (Nat.le_refl _) _).alloc (by simp) _).alloc (by simp; omega) _)
  have C0 : LRow W1 w1.heap.size (frL gShop) := by
    rw [hW1]
    exact ((LRow.new w1 (frL gShop) _).below ((Below.refl _ _).alloc (Nat.le_refl _) _) (by simp)).below ((Below.refl _ _).alloc (Nat.le_refl _) _) (by simp; omega)
  have C1 : LRow W1 (w1.heap.size + 1) (frL gSlow) := by
    rw [hW1]
    have h := LRow.new (w1.alloc (.cells (frL gShop).toArray 25)) (frL gSlow) 25
    rw [show (w1.alloc (.cells (frL gShop).toArray 25)).heap.size = w1.heap.size + 1 from by simp] at h
    exact h.below ((Below.refl _ _).alloc (Nat.le_refl _) _) (by simp)
  have C2 : LRow W1 (w1.heap.size + 1 + 1) (frL gFar) := by
    rw [hW1]
    have h := LRow.new ((w1.alloc (.cells (frL gShop).toArray 25)).alloc (.cells (frL gSlow).toArray 25)) (frL gFar) 25
    rw [show ((w1.alloc (.cells (frL gShop).toArray 25)).alloc (.cells (frL gSlow).toArray 25)).heap.size = w1.heap.size + 1 + 1 from by simp] at h
    exact h
  have y00 : ∀ x : Ext W1, x.1.cell? ⟨w1.heap.size, 0, none⟩ = some (.string ⟨#[119, 119, 119, 46, 115, 104, 111, 112, 46, 99, 111, 109]⟩) := Ext.cell (C0.cell 0 rfl)
  have y01 : ∀ x : Ext W1, x.1.cell? ⟨w1.heap.size, 1, none⟩ = some (.string ⟨#[47, 99, 97, 114, 116, 47, 97, 100, 100]⟩) := Ext.cell (C0.cell 1 rfl)
  have y02 : ∀ x : Ext W1, x.1.cell? ⟨w1.heap.size, 2, none⟩ = some (.bool true) := Ext.cell (C0.cell 2 rfl)
  have y03 : ∀ x : Ext W1, x.1.cell? ⟨w1.heap.size, 3, none⟩ = some (.bool false) := Ext.cell (C0.cell 3 rfl)
  have y04 : ∀ x : Ext W1, x.1.cell? ⟨w1.heap.size, 4, none⟩ = some (.bool false) := Ext.cell (C0.cell 4 rfl)
  have y10 : ∀ x : Ext W1, x.1.cell? ⟨w1.heap.size + 1, 0, none⟩ = some (.string ⟨#[119, 119, 119, 46, 115, 104, 111, 112, 46, 99, 111, 109]⟩) := Ext.cell (C1.cell 0 rfl)
  have y11 : ∀ x : Ext W1, x.1.cell? ⟨w1.heap.size + 1, 1, none⟩ = some (.string ⟨#[47, 99, 97, 114, 116, 47, 97, 100, 100]⟩) := Ext.cell (C1.cell 1 rfl)
  have y12 : ∀ x : Ext W1, x.1.cell? ⟨w1.heap.size + 1, 2, none⟩ = some (.bool false) := Ext.cell (C1.cell 2 rfl)
  have y13 : ∀ x : Ext W1, x.1.cell? ⟨w1.heap.size + 1, 3, none⟩ = some (.bool false) := Ext.cell (C1.cell 3 rfl)
  have y14 : ∀ x : Ext W1, x.1.cell? ⟨w1.heap.size + 1, 4, none⟩ = some (.bool false) := Ext.cell (C1.cell 4 rfl)
  have y20 : ∀ x : Ext W1, x.1.cell? ⟨w1.heap.size + 1 + 1, 0, none⟩ = some (.string ⟨#[119, 119, 119, 46, 115, 104, 111, 112, 46, 99, 111, 109]⟩) := Ext.cell (C2.cell 0 rfl)
  have y21 : ∀ x : Ext W1, x.1.cell? ⟨w1.heap.size + 1 + 1, 1, none⟩ = some (.string ⟨#[47, 99, 97, 114, 116, 47, 97, 100, 100]⟩) := Ext.cell (C2.cell 1 rfl)
  have y22 : ∀ x : Ext W1, x.1.cell? ⟨w1.heap.size + 1 + 1, 2, none⟩ = some (.bool true) := Ext.cell (C2.cell 2 rfl)
  have y23 : ∀ x : Ext W1, x.1.cell? ⟨w1.heap.size + 1 + 1, 3, none⟩ = some (.bool false) := Ext.cell (C2.cell 3 rfl)
  have y24 : ∀ x : Ext W1, x.1.cell? ⟨w1.heap.size + 1 + 1, 4, none⟩ = some (.bool true) := Ext.cell (C2.cell 4 rfl)
  go_wp2_with fail
  rw [← hW1]
  clear hW1 hb1 C0 C1 C2
  refine wp_region_ext (by kernel_rfl) (by kernel_rfl) ?_
  repeat (go_big_quiet_step (first | rfl | (go_at_call 24; exact ext_call (ident_any _))))
  go_big_quiet_step (first | (go_at_call 10; exact ext_call (goesB_any gShop 1059 true _ gb1 (by decide +kernel) (by decide +kernel))))
  repeat (go_big_quiet_step (first | rfl | (go_at_call 24; exact ext_call (ident_any _))))
  go_big_quiet_step (first | (go_at_call 10; exact ext_call (goesB_any gShop 1060 false _ gb2 (by decide +kernel) (by decide +kernel))))
  repeat (go_big_quiet_step (first | rfl | (go_at_call 24; exact ext_call (ident_any _))))
  go_big_quiet_step (first | (go_at_call 10; exact ext_call (goesB_any gSlow 1000 false _ gb3 (by decide +kernel) (by decide +kernel))))
  repeat (go_big_quiet_step (first | rfl | (go_at_call 24; exact ext_call (ident_any _))))
  go_big_quiet_step (first | (go_at_call 10; exact ext_call (goesB_any gFar 1000 false _ gb4 (by decide +kernel) (by decide +kernel))))
  repeat (go_big_quiet_step (first | rfl | (go_at_call 24; exact ext_call (ident_any _))))
  go_big_quiet_step (first | (go_at_call 8; exact ext_call (liveB_any _)))
  repeat (go_big_quiet_step (first | rfl | (go_at_call 24; exact ext_call (ident_any _))))
  refine wpQuiet_nil ?_
  intro wx hwx
  obtain ⟨x, rfl⟩ := hwx
  go_wp2_with fail
  go_ret
  exact ⟨rfl, next B1.out x.2⟩
end Go.Proofs.Ytgjjkieljdamfaf
