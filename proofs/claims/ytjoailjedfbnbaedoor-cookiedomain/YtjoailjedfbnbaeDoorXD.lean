/- What the statements on public suffixes ask first: some calls at known rules and hosts. What the statements on cookies ask first: some calls at known cookies. The contract of what the statements on cookies ask first. For whom a cookie is that was made, and what its name promised. No walk. -/
import Derived.Test.YtjoailjedfbnbaeDoorSuffixE
import Derived.Test.YtjoailjedfbnbaeDoorXC
import Derived.Test.YtjoailjedfbnbaeDoorXB
namespace Go.Proofs.YtjoailjedfbnbaeDoor
open Go.RowKit Go.Maps
set_option linter.all false
set_option maxRecDepth 100000

def sufL0 : Rules := [(1, [99, 111, 109]), (1, [99, 111, 46, 117, 107]), (2, [99, 107]), (3, [119, 119, 119, 46, 99, 107])]
theorem sufL0_ok : ∀ r ∈ sufL0, okR r := by
  intro r hr
  simp only [sufL0, List.mem_cons, List.not_mem_nil, or_false] at hr
  rcases hr with rfl | rfl | rfl | rfl <;> exact ⟨⟨by decide, by decide⟩, by decide⟩
set_option maxHeartbeats 1000000 in
theorem suffixes_any (w : World) : Calls Tryd.prog 21 #[] w fun e w' => ∃ v, e = .returned v ∧ Rows w' v sufF sufL0 ∧ Below w.heap.size w w' := by
  go_enter Tryd.func21, Tryd.ntmps21
  go_wp2_with fail
  go_ret
  exact ⟨_, rfl, Rows.lit w sufL0 _ _ _ _ _ rfl rfl rfl, (Below.refl _ _).alloc (Nat.le_refl _) _⟩
end Go.Proofs.YtjoailjedfbnbaeDoor
namespace Go.Proofs.YtjoailjedfbnbaeDoor
open Go.RowKit
set_option linter.all false
set_option maxRecDepth 100000

def fShop : Fr := ⟨[119, 119, 119, 46, 115, 104, 111, 112, 46, 99, 111, 109], [47, 99, 97, 114, 116, 47, 97, 100, 100], true, false, false⟩
set_option maxHeartbeats 400000 in
theorem attrs_any (v : Value) (w : World) (h : ∃ ad n c, v = .slice ad n c) : Calls Tryd.prog 11 #[v] w fun e w' => e = .returned v ∧ w' = w := by
  obtain ⟨ad, n, c, rfl⟩ := h
  go_enter Tryd.func11, Tryd.ntmps11
  go_wp2_with fail
  go_ret
  exact ⟨rfl, rfl⟩
set_option maxHeartbeats 400000 in
theorem shop_any (w : World) : Calls Tryd.prog 22 #[] w fun e w' => e = .returned (.agg (frL fShop).toArray) ∧ Below w.heap.size w w' := by
  go_enter Tryd.func22, Tryd.ntmps22
  go_wp2_with fail
  exact bodyPost_ret (v := .agg (frL fShop).toArray) (by simp [results, Tryd.results22, go_sem]; rfl) rfl ⟨rfl, (Below.refl _ _).alloc (Nat.le_refl _) _⟩
def rB1 : Raw := ([105, 100], [55], [([100, 111, 109, 97, 105, 110], [46, 83, 104, 111, 112, 46, 99, 111, 109]), ([109, 97, 120, 45, 97, 103, 101], [54, 48]), ([115, 101, 99, 117, 114, 101], [])])
def rB2 : Raw := ([105, 100], [], [([100, 111, 109, 97, 105, 110], [99, 111, 109])])
def rB3 : Raw := ([95, 95, 72, 111, 115, 116, 45, 105, 100], [], [([115, 101, 99, 117, 114, 101], [])])
theorem vB1 : makeE sufL0 rB1 fShop 1000 = 0 := by decide +kernel
theorem vB2 : makeE sufL0 rB2 fShop 1000 = 8 := by decide +kernel
theorem vB3 : makeE sufL0 rB3 fShop 1000 = 8 := by decide +kernel
def kB1 : List Value := [.string ⟨#[105, 100]⟩, .string ⟨#[55]⟩, .string ⟨#[115, 104, 111, 112, 46, 99, 111, 109]⟩, .string ⟨#[47, 99, 97, 114, 116]⟩, .bool false, .bool true, .bool false, .bool true, .int .i64 0, .int .i64 1060, .int .i64 1000, .int .i64 1000, .int .i64 0]
theorem oB1 : outL sufL0 rB1 fShop 1000 = kB1 := by
  unfold outL
  rw [vB1, if_pos rfl]
  have h0 : (madeM sufL0 rB1 fShop 1000).name = [105, 100] := by decide +kernel
  have h1 : (madeM sufL0 rB1 fShop 1000).value = [55] := by decide +kernel
  have h2 : (madeM sufL0 rB1 fShop 1000).domain = [115, 104, 111, 112, 46, 99, 111, 109] := by decide +kernel
  have h3 : (madeM sufL0 rB1 fShop 1000).path = [47, 99, 97, 114, 116] := by decide +kernel
  have h4 : (madeM sufL0 rB1 fShop 1000).hostOnly = false := by decide +kernel
  have h5 : (madeM sufL0 rB1 fShop 1000).secure = true := by decide +kernel
  have h6 : (madeM sufL0 rB1 fShop 1000).httpOnly = false := by decide +kernel
  have h7 : (madeM sufL0 rB1 fShop 1000).lasting = true := by decide +kernel
  have h8 : (madeM sufL0 rB1 fShop 1000).site = 0 := by decide +kernel
  have h9 : (madeM sufL0 rB1 fShop 1000).expiry = 1060 := by decide +kernel
  have h10 : (madeM sufL0 rB1 fShop 1000).created = 1000 := by decide +kernel
  have h11 : (madeM sufL0 rB1 fShop 1000).used = 1000 := by decide +kernel
  unfold ckL
  rw [h0, h1, h2, h3, h4, h5, h6, h7, h8, h9, h10, h11]
  rfl
theorem oB2 : outL sufL0 rB2 fShop 1000 = ck0 := by unfold outL; rw [vB2, if_neg (by decide)]
theorem oB3 : outL sufL0 rB3 fShop 1000 = ck0 := by unfold outL; rw [vB3, if_neg (by decide)]
theorem aB1 : ageV [45, 57, 57, 57, 57, 57, 57, 57, 57, 57, 57, 57, 57, 57, 57] = -1000000000000 ∧ ageB [45, 57, 57, 57, 57, 57, 57, 57, 57, 57, 57, 57, 57, 57, 57] = true := by decide +kernel
theorem aB2 : ageV [49, 120] = 0 ∧ ageB [49, 120] = false := by decide +kernel
def fX : Fr := ⟨[97], [120], false, false, false⟩
theorem rB : readyE fX 0 = 1 := by decide +kernel
end Go.Proofs.YtjoailjedfbnbaeDoor
namespace Go.Proofs.YtjoailjedfbnbaeDoor
open Go.RowKit
set_option linter.all false
set_option maxRecDepth 100000

theorem okS0 : ∀ r ∈ sufL0, okR r := by
  intro r hr
  simp only [sufL0, List.mem_cons, List.not_mem_nil, or_false] at hr
  rcases hr with rfl | rfl | rfl | rfl <;> exact ⟨by decide, by decide⟩
theorem cb_make1 (v va : Value) (w : World) (T : CTabs w) (hl : Rows w v sufF sufL0) (hr : Rows w va attrF rB1.2.2) :
    Calls Tryd.prog 6 #[v, .agg #[.string (txt rB1.1), .string (txt rB1.2.1), va], .agg (frL fShop).toArray, .int .i64 1000] w fun e w' => e = .returned (.tuple #[.agg #[.string ⟨#[105, 100]⟩, .string ⟨#[55]⟩, .string ⟨#[115, 104, 111, 112, 46, 99, 111, 109]⟩, .string ⟨#[47, 99, 97, 114, 116]⟩, .bool false, .bool true, .bool false, .bool true, .int .i64 0, .int .i64 1060, .int .i64 1000, .int .i64 1000, .int .i64 0], .int .i64 0]) ∧ Below w.heap.size w w' :=
  (make_any v sufL0 va rB1 fShop 1000 w T hl (by decide) okS0 hr (by decide) (by decide) (by decide) (by decide) (by decide) (by decide) (by decide)).mono fun e w' ⟨h1, h2⟩ => ⟨by rw [oB1, vB1] at h1; exact h1, h2⟩
theorem cb_make2 (v va : Value) (w : World) (T : CTabs w) (hl : Rows w v sufF sufL0) (hr : Rows w va attrF rB2.2.2) :
    Calls Tryd.prog 6 #[v, .agg #[.string (txt rB2.1), .string (txt rB2.2.1), va], .agg (frL fShop).toArray, .int .i64 1000] w fun e w' => e = .returned (.tuple #[.agg #[.string ⟨#[]⟩, .string ⟨#[]⟩, .string ⟨#[]⟩, .string ⟨#[]⟩, .bool false, .bool false, .bool false, .bool false, .int .i64 0, .int .i64 0, .int .i64 0, .int .i64 0, .int .i64 0], .int .i64 8]) ∧ Below w.heap.size w w' :=
  (make_any v sufL0 va rB2 fShop 1000 w T hl (by decide) okS0 hr (by decide) (by decide) (by decide) (by decide) (by decide) (by decide) (by decide)).mono fun e w' ⟨h1, h2⟩ => ⟨by rw [oB2, vB2] at h1; exact h1, h2⟩
theorem cb_make3 (v va : Value) (w : World) (T : CTabs w) (hl : Rows w v sufF sufL0) (hr : Rows w va attrF rB3.2.2) :
    Calls Tryd.prog 6 #[v, .agg #[.string (txt rB3.1), .string (txt rB3.2.1), va], .agg (frL fShop).toArray, .int .i64 1000] w fun e w' => e = .returned (.tuple #[.agg #[.string ⟨#[]⟩, .string ⟨#[]⟩, .string ⟨#[]⟩, .string ⟨#[]⟩, .bool false, .bool false, .bool false, .bool false, .int .i64 0, .int .i64 0, .int .i64 0, .int .i64 0, .int .i64 0], .int .i64 8]) ∧ Below w.heap.size w w' :=
  (make_any v sufL0 va rB3 fShop 1000 w T hl (by decide) okS0 hr (by decide) (by decide) (by decide) (by decide) (by decide) (by decide) (by decide)).mono fun e w' ⟨h1, h2⟩ => ⟨by rw [oB3, vB3] at h1; exact h1, h2⟩
theorem cb_age1 (w : World) : Calls Tryd.prog 12 #[.string ⟨#[45, 57, 57, 57, 57, 57, 57, 57, 57, 57, 57, 57, 57, 57, 57]⟩] w fun e w' => e = .returned (.tuple #[.int .i64 (-1000000000000), .bool true]) ∧ w' = w :=
  (age_any (txt [45, 57, 57, 57, 57, 57, 57, 57, 57, 57, 57, 57, 57, 57, 57]) w (by decide)).mono fun e w' ⟨h1, h2⟩ => ⟨by rw [txt_toList, aB1.1, aB1.2] at h1; exact h1, h2⟩
theorem cb_age2 (w : World) : Calls Tryd.prog 12 #[.string ⟨#[49, 120]⟩] w fun e w' => e = .returned (.tuple #[.int .i64 0, .bool false]) ∧ w' = w :=
  (age_any (txt [49, 120]) w (by decide)).mono fun e w' ⟨h1, h2⟩ => ⟨by rw [txt_toList, aB2.1, aB2.2] at h1; exact h1, h2⟩
theorem cb_ready (w : World) : Calls Tryd.prog 15 #[.agg (frL fX).toArray, .int .i64 0] w fun e w' => e = .returned (.int .i64 1) ∧ Below w.heap.size w w' :=
  (ready_any fX 0 w (by decide) (by decide) (by decide)).mono fun e w' ⟨h1, h2⟩ => ⟨by rw [rB] at h1; exact h1, h2⟩
set_option maxHeartbeats 4000000 in
theorem cookieBegun_any (w : World) (T : CTabs w) : Calls Tryd.prog 7 #[] w fun e w' => e = .returned (.bool true) ∧ Below w.heap.size w w' := by
  have HT : Hid _ := T
  have B0 : Hid (Below w.heap.size w w) := Below.refl _ _
  clear T
  go_enter Tryd.func7, Tryd.ntmps7
  go_wp2_with fail
  refine (suffixes_any _).mono ?_
  rintro e a1 ⟨v1, rfl, r1, ha1⟩
  have R1 : Hid (Rows a1 v1 sufF sufL0) := r1
  obtain ⟨ad1, cp1, rfl⟩ := r1.shape
  clear r1
  have BA1 : Hid (Below w.heap.size w a1) := next B0.out ha1
  have hx1 : Below a1.heap.size a1 (a1.alloc (.cells #[.string ⟨#[100, 111, 109, 97, 105, 110]⟩, .string ⟨#[46, 83, 104, 111, 112, 46, 99, 111, 109]⟩, .string ⟨#[109, 97, 120, 45, 97, 103, 101]⟩, .string ⟨#[54, 48]⟩, .string ⟨#[115, 101, 99, 117, 114, 101]⟩, .string ⟨#[]⟩] 41)) := (Below.refl _ _).alloc (Nat.le_refl _) _
  have L1 : Hid (Rows (a1.alloc (.cells #[.string ⟨#[100, 111, 109, 97, 105, 110]⟩, .string ⟨#[46, 83, 104, 111, 112, 46, 99, 111, 109]⟩, .string ⟨#[109, 97, 120, 45, 97, 103, 101]⟩, .string ⟨#[54, 48]⟩, .string ⟨#[115, 101, 99, 117, 114, 101]⟩, .string ⟨#[]⟩] 41)) (.slice (some ⟨a1.heap.size, 0, none⟩) 3 3) attrF rB1.2.2) := Rows.lit a1 rB1.2.2 _ _ _ _ _ rfl rfl rfl
  go_wp2_with fail
  refine (attrs_any _ _ ⟨_, _, _, rfl⟩).mono ?_
  rintro e b1 ⟨rfl, rfl⟩
  go_wp2_with fail
  refine (shop_any _).mono ?_
  rintro e b1 ⟨rfl, hb1⟩
  have BB1 : Hid (Below w.heap.size w b1) := next (next BA1.out hx1) hb1
  go_wp2_with fail
  refine (cb_make1 _ _ _ (HT.out.below BB1.out (Nat.le_refl _)) (Rows.below (Rows.below R1.out hx1 (Nat.le_refl _)) hb1 (Nat.le_refl _)) (Rows.below L1.out hb1 (Nat.le_refl _))).mono ?_
  rintro e d1 ⟨rfl, hd1⟩
  have hy1 : Below d1.heap.size d1 (d1.alloc (.cells #[.string ⟨#[105, 100]⟩, .string ⟨#[55]⟩, .string ⟨#[115, 104, 111, 112, 46, 99, 111, 109]⟩, .string ⟨#[47, 99, 97, 114, 116]⟩, .bool false, .bool true, .bool false, .bool true, .int .i64 0, .int .i64 1060, .int .i64 1000, .int .i64 1000, .int .i64 0] 29)) := (Below.refl _ _).alloc (Nat.le_refl _) _
  have B1 : Hid (Below w.heap.size w (d1.alloc (.cells #[.string ⟨#[105, 100]⟩, .string ⟨#[55]⟩, .string ⟨#[115, 104, 111, 112, 46, 99, 111, 109]⟩, .string ⟨#[47, 99, 97, 114, 116]⟩, .bool false, .bool true, .bool false, .bool true, .int .i64 0, .int .i64 1060, .int .i64 1000, .int .i64 1000, .int .i64 0] 29))) := next (next BB1.out hd1) hy1
  have C1 : Hid (LRow (d1.alloc (.cells #[.string ⟨#[105, 100]⟩, .string ⟨#[55]⟩, .string ⟨#[115, 104, 111, 112, 46, 99, 111, 109]⟩, .string ⟨#[47, 99, 97, 114, 116]⟩, .bool false, .bool true, .bool false, .bool true, .int .i64 0, .int .i64 1060, .int .i64 1000, .int .i64 1000, .int .i64 0] 29)) d1.heap.size kB1) := LRow.new d1 kB1 _
  clear hx1 hb1 hd1 hy1 ha1 R1 L1 BA1 BB1
  go_wp2_with fail
  refine (suffixes_any _).mono ?_
  rintro e a2 ⟨v2, rfl, r2, ha2⟩
  have R2 : Hid (Rows a2 v2 sufF sufL0) := r2
  obtain ⟨ad2, cp2, rfl⟩ := r2.shape
  clear r2
  have BA2 : Hid (Below w.heap.size w a2) := next B1.out ha2
  have hx2 : Below a2.heap.size a2 (a2.alloc (.cells #[.string ⟨#[100, 111, 109, 97, 105, 110]⟩, .string ⟨#[99, 111, 109]⟩] 41)) := (Below.refl _ _).alloc (Nat.le_refl _) _
  have L2 : Hid (Rows (a2.alloc (.cells #[.string ⟨#[100, 111, 109, 97, 105, 110]⟩, .string ⟨#[99, 111, 109]⟩] 41)) (.slice (some ⟨a2.heap.size, 0, none⟩) 1 1) attrF rB2.2.2) := Rows.lit a2 rB2.2.2 _ _ _ _ _ rfl rfl rfl
  go_wp2_with fail
  refine (attrs_any _ _ ⟨_, _, _, rfl⟩).mono ?_
  rintro e b2 ⟨rfl, rfl⟩
  go_wp2_with fail
  refine (shop_any _).mono ?_
  rintro e b2 ⟨rfl, hb2⟩
  have BB2 : Hid (Below w.heap.size w b2) := next (next BA2.out hx2) hb2
  go_wp2_with fail
  refine (cb_make2 _ _ _ (HT.out.below BB2.out (Nat.le_refl _)) (Rows.below (Rows.below R2.out hx2 (Nat.le_refl _)) hb2 (Nat.le_refl _)) (Rows.below L2.out hb2 (Nat.le_refl _))).mono ?_
  rintro e d2 ⟨rfl, hd2⟩
  have hy2 : Below d2.heap.size d2 (d2.alloc (.cells #[.string ⟨#[]⟩, .string ⟨#[]⟩, .string ⟨#[]⟩, .string ⟨#[]⟩, .bool false, .bool false, .bool false, .bool false, .int .i64 0, .int .i64 0, .int .i64 0, .int .i64 0, .int .i64 0] 29)) := (Below.refl _ _).alloc (Nat.le_refl _) _
  have B2 : Hid (Below w.heap.size w (d2.alloc (.cells #[.string ⟨#[]⟩, .string ⟨#[]⟩, .string ⟨#[]⟩, .string ⟨#[]⟩, .bool false, .bool false, .bool false, .bool false, .int .i64 0, .int .i64 0, .int .i64 0, .int .i64 0, .int .i64 0] 29))) := next (next BB2.out hd2) hy2
  have C2 : Hid _ := ((((C1.out.below ha2 (LRow.lt5 C1.out)).below hx2 (Nat.lt_of_lt_of_le (LRow.lt5 C1.out) ha2.size)).below hb2 (Nat.lt_of_lt_of_le (Nat.lt_of_lt_of_le (LRow.lt5 C1.out) ha2.size) hx2.size)).below hd2 (Nat.lt_of_lt_of_le (Nat.lt_of_lt_of_le (Nat.lt_of_lt_of_le (LRow.lt5 C1.out) ha2.size) hx2.size) hb2.size)).below hy2 (Nat.lt_of_lt_of_le (Nat.lt_of_lt_of_le (Nat.lt_of_lt_of_le (Nat.lt_of_lt_of_le (LRow.lt5 C1.out) ha2.size) hx2.size) hb2.size) hd2.size)
  clear hx2 hb2 hd2 hy2 ha2 R2 L2 BA2 BB2
  go_wp2_with fail
  refine (suffixes_any _).mono ?_
  rintro e a3 ⟨v3, rfl, r3, ha3⟩
  have R3 : Hid (Rows a3 v3 sufF sufL0) := r3
  obtain ⟨ad3, cp3, rfl⟩ := r3.shape
  clear r3
  have BA3 : Hid (Below w.heap.size w a3) := next B2.out ha3
  have hx3 : Below a3.heap.size a3 (a3.alloc (.cells #[.string ⟨#[115, 101, 99, 117, 114, 101]⟩, .string ⟨#[]⟩] 41)) := (Below.refl _ _).alloc (Nat.le_refl _) _
  have L3 : Hid (Rows (a3.alloc (.cells #[.string ⟨#[115, 101, 99, 117, 114, 101]⟩, .string ⟨#[]⟩] 41)) (.slice (some ⟨a3.heap.size, 0, none⟩) 1 1) attrF rB3.2.2) := Rows.lit a3 rB3.2.2 _ _ _ _ _ rfl rfl rfl
  go_wp2_with fail
  refine (attrs_any _ _ ⟨_, _, _, rfl⟩).mono ?_
  rintro e b3 ⟨rfl, rfl⟩
  go_wp2_with fail
  refine (shop_any _).mono ?_
  rintro e b3 ⟨rfl, hb3⟩
  have BB3 : Hid (Below w.heap.size w b3) := next (next BA3.out hx3) hb3
  go_wp2_with fail
  refine (cb_make3 _ _ _ (HT.out.below BB3.out (Nat.le_refl _)) (Rows.below (Rows.below R3.out hx3 (Nat.le_refl _)) hb3 (Nat.le_refl _)) (Rows.below L3.out hb3 (Nat.le_refl _))).mono ?_
  rintro e d3 ⟨rfl, hd3⟩
  have hy3 : Below d3.heap.size d3 (d3.alloc (.cells #[.string ⟨#[]⟩, .string ⟨#[]⟩, .string ⟨#[]⟩, .string ⟨#[]⟩, .bool false, .bool false, .bool false, .bool false, .int .i64 0, .int .i64 0, .int .i64 0, .int .i64 0, .int .i64 0] 29)) := (Below.refl _ _).alloc (Nat.le_refl _) _
  have B3 : Hid (Below w.heap.size w (d3.alloc (.cells #[.string ⟨#[]⟩, .string ⟨#[]⟩, .string ⟨#[]⟩, .string ⟨#[]⟩, .bool false, .bool false, .bool false, .bool false, .int .i64 0, .int .i64 0, .int .i64 0, .int .i64 0, .int .i64 0] 29))) := next (next BB3.out hd3) hy3
  have C3 : Hid _ := ((((C2.out.below ha3 (LRow.lt5 C2.out)).below hx3 (Nat.lt_of_lt_of_le (LRow.lt5 C2.out) ha3.size)).below hb3 (Nat.lt_of_lt_of_le (Nat.lt_of_lt_of_le (LRow.lt5 C2.out) ha3.size) hx3.size)).below hd3 (Nat.lt_of_lt_of_le (Nat.lt_of_lt_of_le (Nat.lt_of_lt_of_le (LRow.lt5 C2.out) ha3.size) hx3.size) hb3.size)).below hy3 (Nat.lt_of_lt_of_le (Nat.lt_of_lt_of_le (Nat.lt_of_lt_of_le (Nat.lt_of_lt_of_le (LRow.lt5 C2.out) ha3.size) hx3.size) hb3.size) hd3.size)
  clear hx3 hb3 hd3 hy3 ha3 R3 L3 BA3 BB3
  go_wp2_with fail
  refine (cb_age1 _).mono ?_
  rintro e u1 ⟨rfl, rfl⟩
  go_wp2_with fail
  refine (cb_age2 _).mono ?_
  rintro e u2 ⟨rfl, rfl⟩
  have c0 := C3.out.cell 0 rfl
  have c1 := C3.out.cell 1 rfl
  have c2 := C3.out.cell 2 rfl
  have c3 := C3.out.cell 3 rfl
  have c4 := C3.out.cell 4 rfl
  have c5 := C3.out.cell 5 rfl
  have c6 := C3.out.cell 6 rfl
  have c7 := C3.out.cell 7 rfl
  have c8 := C3.out.cell 8 rfl
  have c9 := C3.out.cell 9 rfl
  have c10 := C3.out.cell 10 rfl
  have c11 := C3.out.cell 11 rfl
  have c12 := C3.out.cell 12 rfl
  go_wp2_with fail
  refine (cb_ready _).mono ?_
  rintro e u3 ⟨rfl, hb⟩
  go_wp2_with fail
  go_ret
  exact ⟨rfl, next B3.out hb⟩
end Go.Proofs.YtjoailjedfbnbaeDoor
namespace Go.Proofs.YtjoailjedfbnbaeDoor.cj
open Go.RowKit
set_option linter.all false
set_option maxRecDepth 100000

theorem canonE_fold (l : List UInt8) : canonE (foldL l) = canonE l := by
  unfold canonE; rw [foldL_length, hostL_twice]
theorem canonL_fold (l : List UInt8) : canonL (foldL l) = canonL l := by
  unfold canonL; rw [foldL_length, hostL_twice, foldL_twice']
theorem canon_ok (l : List UInt8) (h : canonE l = 0) : canonL l = foldL l := by
  unfold canonE at h
  unfold canonL
  by_cases h1 : l.length ≤ 253
  · rw [if_pos h1] at h ⊢
    cases h2 : hostL l
    · rw [h2] at h; simp at h
    · rfl
  · rw [if_neg h1] at h; cases h
end Go.Proofs.YtjoailjedfbnbaeDoor.cj
namespace Go.Proofs.YtjoailjedfbnbaeDoor
open Go.RowKit cj
set_option linter.all false
theorem make_zero {l : Rules} {r : Raw} {f : Fr} {now : Int} (h : makeE l r f now = 0) : sufE l = 0 ∧ checkL r = 0 ∧ readyE f now = 0 ∧ domE l (expiryM (r.2.2.foldl takeM (beginM r f now))) = 0 ∧ barM (madeM l r f now) = false := by
  unfold makeE at h
  by_cases h0 : sufE l = 0
  · rw [if_pos h0] at h
    by_cases h1 : checkL r = 0
    · rw [if_pos h1] at h
      by_cases h2 : readyE f now = 0
      · rw [if_pos h2] at h
        by_cases h3 : domE l (expiryM (r.2.2.foldl takeM (beginM r f now))) = 0
        · rw [if_pos h3] at h
          cases h4 : barM (madeM l r f now)
          · exact ⟨h0, h1, h2, h3, rfl⟩
          · rw [h4] at h; cases h
        · rw [if_neg h3] at h; exact absurd h h3
      · rw [if_neg h2] at h; exact absurd h h2
    · rw [if_neg h1] at h; exact absurd h h1
  · rw [if_neg h0] at h; exact absurd h h0
theorem ready_zero {f : Fr} {now : Int} (h : readyE f now = 0) : canB f.host = true ∧ f.host.length ≤ 253 := by
  unfold readyE at h
  by_cases h1 : canB f.host = true
  · refine ⟨h1, ?_⟩
    have := ((canB_i _).1 h1).2
    rw [← this]; exact canon_len _
  · rw [if_neg h1] at h; cases h
theorem made_keeps (l : Rules) (r : Raw) (f : Fr) (now : Int) (ha : ∀ a ∈ r.2.2, a.2.length ≤ maxLen) : Keeps (beginM r f now) (r.2.2.foldl takeM (beginM r f now)) := Keeps.all _ _ (Keeps.begin r f now) ha
theorem made_dom {l : Rules} {r : Raw} {f : Fr} {now : Int} (ha : ∀ a ∈ r.2.2, a.2.length ≤ maxLen) (h : makeE l r f now = 0) :
    ((madeM l r f now).hostOnly = true ∧ (madeM l r f now).domain = f.host) ∨
    ((madeM l r f now).hostOnly = false ∧ matchL f.host (madeM l r f now).domain = true ∧ pubE l (madeM l r f now).domain = 0 ∧ pubA l (madeM l r f now).domain ≠ (madeM l r f now).domain ∧ (madeM l r f now).domain.length ≤ 253) := by
  obtain ⟨h0, h1, h2, h3, h4⟩ := make_zero h
  have hk := made_keeps l r f now ha
  obtain ⟨m, hm⟩ : ∃ m, m = r.2.2.foldl takeM (beginM r f now) := ⟨_, rfl⟩
  rw [← hm] at h3 hk
  have hmd : madeM l r f now = domM l (expiryM m) := by unfold madeM; rw [hm]
  have hfr : (expiryM m).fr = f := hk.fr
  have hd : (expiryM m).dom = m.dom := rfl
  rw [hmd]
  unfold domM
  rw [if_pos h3]
  cases ho : domOwn l (expiryM m)
  · right
    rw [if_neg (by decide)]
    unfold domOwn at ho
    rw [Bool.or_eq_false_iff, decide_eq_false_iff_not, decide_eq_false_iff_not] at ho
    unfold domE at h3
    rw [if_neg ho.1] at h3
    by_cases hc : canonE (expiryM m).dom = 0
    · rw [if_pos hc, if_neg ho.2, hfr] at h3
      have hcan := canon_ok _ hc
      refine ⟨rfl, ?_, ?_, fun e => ho.2 e.symm, canon_len _⟩
      · cases hmt : matchL f.host (canonL (expiryM m).dom)
        · rw [hmt] at h3; cases h3
        · rfl
      · unfold pubE
        rw [if_pos h0]
        have : canB (canonL (expiryM m).dom) = true := by
          rw [canB_i, hcan]
          exact ⟨by rw [canonE_fold]; exact hc, by rw [canonL_fold]; exact hcan⟩
        rw [if_pos this]
    · rw [if_neg hc] at h3; cases h3
  · left
    rw [if_pos rfl]
    exact ⟨rfl, by show (expiryM m).fr.host = f.host; rw [hfr]⟩
end Go.Proofs.YtjoailjedfbnbaeDoor
