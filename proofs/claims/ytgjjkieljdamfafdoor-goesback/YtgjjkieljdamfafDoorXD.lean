/- What the statements on public suffixes ask first: some calls at known rules and hosts. What the statements on cookies ask first: some calls at known cookies. The contract of what the statements on cookies ask first. For whom a cookie is that was made, and what its name promised. No walk. What the statements on bars, on how long a cookie lasts and on the last attribute ask of the plain functions. No walk. -/
import Derived.Test.YtgjjkieljdamfafDoorSuffixE
import Derived.Test.YtgjjkieljdamfafDoorXC
import Derived.Test.YtgjjkieljdamfafDoorXB
namespace Go.Proofs.YtgjjkieljdamfafDoor
open Go.RowKit Go.Maps
set_option linter.all false
set_option maxRecDepth 100000

def sufL0 : Rules := [(1, [99, 111, 109]), (1, [99, 111, 46, 117, 107]), (2, [99, 107]), (3, [119, 119, 119, 46, 99, 107])]
theorem sufL0_ok : ∀ r ∈ sufL0, okR r := by
  intro r hr
  simp only [sufL0, List.mem_cons, List.not_mem_nil, or_false] at hr
  rcases hr with rfl | rfl | rfl | rfl <;> exact ⟨⟨by decide, by decide⟩, by decide⟩
set_option maxHeartbeats 1000000 in
theorem suffixes_any (w : World) : Calls Tryd.prog 11 #[] w fun e w' => ∃ v, e = .returned v ∧ Rows w' v sufF sufL0 ∧ Below w.heap.size w w' := by
  go_enter Tryd.func11, Tryd.ntmps11
  go_wp2_with fail
  go_ret
  exact ⟨_, rfl, Rows.lit w sufL0 _ _ _ _ _ rfl rfl rfl, (Below.refl _ _).alloc (Nat.le_refl _) _⟩
end Go.Proofs.YtgjjkieljdamfafDoor
namespace Go.Proofs.YtgjjkieljdamfafDoor
open Go.RowKit
set_option linter.all false
set_option maxRecDepth 100000

def fShop : Fr := ⟨[119, 119, 119, 46, 115, 104, 111, 112, 46, 99, 111, 109], [47, 99, 97, 114, 116, 47, 97, 100, 100], true, false, false⟩
set_option maxHeartbeats 400000 in
theorem attrs_any (v : Value) (w : World) (h : ∃ ad n c, v = .slice ad n c) : Calls Tryd.prog 12 #[v] w fun e w' => e = .returned v ∧ w' = w := by
  obtain ⟨ad, n, c, rfl⟩ := h
  go_enter Tryd.func12, Tryd.ntmps12
  go_wp2_with fail
  go_ret
  exact ⟨rfl, rfl⟩
set_option maxHeartbeats 400000 in
theorem shop_any (w : World) : Calls Tryd.prog 13 #[] w fun e w' => e = .returned (.agg (frL fShop).toArray) ∧ Below w.heap.size w w' := by
  go_enter Tryd.func13, Tryd.ntmps13
  go_wp2_with fail
  exact bodyPost_ret (v := .agg (frL fShop).toArray) (by simp [results, Tryd.results13, go_sem]; rfl) rfl ⟨rfl, (Below.refl _ _).alloc (Nat.le_refl _) _⟩
def rB1 : Raw := ([105, 100], [55], [([100, 111, 109, 97, 105, 110], [46, 83, 104, 111, 112, 46, 99, 111, 109]), ([109, 97, 120, 45, 97, 103, 101], [54, 48]), ([115, 101, 99, 117, 114, 101], [])])
def rB2 : Raw := ([105, 100], [], [([100, 111, 109, 97, 105, 110], [99, 111, 109])])
def rB3 : Raw := ([95, 95, 72, 111, 115, 116, 45, 105, 100], [], [([115, 101, 99, 117, 114, 101], [])])
theorem vB1 : makeE sufL0 rB1 fShop 1000 = 0 := by decide +kernel
theorem vB2 : makeE sufL0 rB2 fShop 1000 = 8 := by decide +kernel
theorem vB3 : makeE sufL0 rB3 fShop 1000 = 8 := by decide +kernel
def kB1 : List Value := [.string ⟨#[105, 100]⟩, .string ⟨#[55]⟩, .string ⟨#[115, 104, 111, 112, 46, 99, 111, 109]⟩, .string ⟨#[47, 99, 97, 114, 116]⟩, .bool false, .bool true, .bool false, .bool true, .int .i64 0, .int .i64 1060, .int .i64 1000, .int .i64 1000, .int .i64 0]
theorem oB1 : outL sufL0 rB1 fShop 1000 = kB1 := by
  unfold outL
  rw [vB1, if_pos rfl]
  have h0 : (madeM sufL0 rB1 fShop 1000).name = [105, 100] := by decide +kernel
  have h1 : (madeM sufL0 rB1 fShop 1000).value = [55] := by decide +kernel
  have h2 : (madeM sufL0 rB1 fShop 1000).domain = [115, 104, 111, 112, 46, 99, 111, 109] := by decide +kernel
  have h3 : (madeM sufL0 rB1 fShop 1000).path = [47, 99, 97, 114, 116] := by decide +kernel
  have h4 : (madeM sufL0 rB1 fShop 1000).hostOnly = false := by decide +kernel
  have h5 : (madeM sufL0 rB1 fShop 1000).secure = true := by decide +kernel
  have h6 : (madeM sufL0 rB1 fShop 1000).httpOnly = false := by decide +kernel
  have h7 : (madeM sufL0 rB1 fShop 1000).lasting = true := by decide +kernel
  have h8 : (madeM sufL0 rB1 fShop 1000).site = 0 := by decide +kernel
  have h9 : (madeM sufL0 rB1 fShop 1000).expiry = 1060 := by decide +kernel
  have h10 : (madeM sufL0 rB1 fShop 1000).created = 1000 := by decide +kernel
  have h11 : (madeM sufL0 rB1 fShop 1000).used = 1000 := by decide +kernel
  unfold ckL
  rw [h0, h1, h2, h3, h4, h5, h6, h7, h8, h9, h10, h11]
  rfl
theorem oB2 : outL sufL0 rB2 fShop 1000 = ck0 := by unfold outL; rw [vB2, if_neg (by decide)]
theorem oB3 : outL sufL0 rB3 fShop 1000 = ck0 := by unfold outL; rw [vB3, if_neg (by decide)]
theorem aB1 : ageV [45, 57, 57, 57, 57, 57, 57, 57, 57, 57, 57, 57, 57, 57, 57] = -1000000000000 ∧ ageB [45, 57, 57, 57, 57, 57, 57, 57, 57, 57, 57, 57, 57, 57, 57] = true := by decide +kernel
theorem aB2 : ageV [49, 120] = 0 ∧ ageB [49, 120] = false := by decide +kernel
def fX : Fr := ⟨[97], [120], false, false, false⟩
theorem rB : readyE fX 0 = 1 := by decide +kernel
end Go.Proofs.YtgjjkieljdamfafDoor
namespace Go.Proofs.YtgjjkieljdamfafDoor
open Go.RowKit
set_option linter.all false
set_option maxRecDepth 100000

theorem okS0 : ∀ r ∈ sufL0, okR r := by
  intro r hr
  simp only [sufL0, List.mem_cons, List.not_mem_nil, or_false] at hr
  rcases hr with rfl | rfl | rfl | rfl <;> exact ⟨by decide, by decide⟩
theorem cb_make1 (v va : Value) (w : World) (T : CTabs w) (hl : Rows w v sufF sufL0) (hr : Rows w va attrF rB1.2.2) :
    Calls Tryd.prog 6 #[v, .agg #[.string (txt rB1.1), .string (txt rB1.2.1), va], .agg (frL fShop).toArray, .int .i64 1000] w fun e w' => e = .returned (.tuple #[.agg #[.string ⟨#[105, 100]⟩, .string ⟨#[55]⟩, .string ⟨#[115, 104, 111, 112, 46, 99, 111, 109]⟩, .string ⟨#[47, 99, 97, 114, 116]⟩, .bool false, .bool true, .bool false, .bool true, .int .i64 0, .int .i64 1060, .int .i64 1000, .int .i64 1000, .int .i64 0], .int .i64 0]) ∧ Below w.heap.size w w' :=
  (make_any v sufL0 va rB1 fShop 1000 w T hl (by decide) okS0 hr (by decide) (by decide) (by decide) (by decide) (by decide) (by decide) (by decide)).mono fun e w' ⟨h1, h2⟩ => ⟨by rw [oB1, vB1] at h1; exact h1, h2⟩
theorem cb_make2 (v va : Value) (w : World) (T : CTabs w) (hl : Rows w v sufF sufL0) (hr : Rows w va attrF rB2.2.2) :
    Calls Tryd.prog 6 #[v, .agg #[.string (txt rB2.1), .string (txt rB2.2.1), va], .agg (frL fShop).toArray, .int .i64 1000] w fun e w' => e = .returned (.tuple #[.agg #[.string ⟨#[]⟩, .string ⟨#[]⟩, .string ⟨#[]⟩, .string ⟨#[]⟩, .bool false, .bool false, .bool false, .bool false, .int .i64 0, .int .i64 0, .int .i64 0, .int .i64 0, .int .i64 0], .int .i64 8]) ∧ Below w.heap.size w w' :=
  (make_any v sufL0 va rB2 fShop 1000 w T hl (by decide) okS0 hr (by decide) (by decide) (by decide) (by decide) (by decide) (by decide) (by decide)).mono fun e w' ⟨h1, h2⟩ => ⟨by rw [oB2, vB2] at h1; exact h1, h2⟩
theorem cb_make3 (v va : Value) (w : World) (T : CTabs w) (hl : Rows w v sufF sufL0) (hr : Rows w va attrF rB3.2.2) :
    Calls Tryd.prog 6 #[v, .agg #[.string (txt rB3.1), .string (txt rB3.2.1), va], .agg (frL fShop).toArray, .int .i64 1000] w fun e w' => e = .returned (.tuple #[.agg #[.string ⟨#[]⟩, .string ⟨#[]⟩, .string ⟨#[]⟩, .string ⟨#[]⟩, .bool false, .bool false, .bool false, .bool false, .int .i64 0, .int .i64 0, .int .i64 0, .int .i64 0, .int .i64 0], .int .i64 8]) ∧ Below w.heap.size w w' :=
  (make_any v sufL0 va rB3 fShop 1000 w T hl (by decide) okS0 hr (by decide) (by decide) (by decide) (by decide) (by decide) (by decide) (by decide)).mono fun e w' ⟨h1, h2⟩ => ⟨by rw [oB3, vB3] at h1; exact h1, h2⟩
theorem cb_age1 (w : World) : Calls Tryd.prog 14 #[.string ⟨#[45, 57, 57, 57, 57, 57, 57, 57, 57, 57, 57, 57, 57, 57, 57]⟩] w fun e w' => e = .returned (.tuple #[.int .i64 (-1000000000000), .bool true]) ∧ w' = w :=
  (age_any (txt [45, 57, 57, 57, 57, 57, 57, 57, 57, 57, 57, 57, 57, 57, 57]) w (by decide)).mono fun e w' ⟨h1, h2⟩ => ⟨by rw [txt_toList, aB1.1, aB1.2] at h1; exact h1, h2⟩
theorem cb_age2 (w : World) : Calls Tryd.prog 14 #[.string ⟨#[49, 120]⟩] w fun e w' => e = .returned (.tuple #[.int .i64 0, .bool false]) ∧ w' = w :=
  (age_any (txt [49, 120]) w (by decide)).mono fun e w' ⟨h1, h2⟩ => ⟨by rw [txt_toList, aB2.1, aB2.2] at h1; exact h1, h2⟩
theorem cb_ready (w : World) : Calls Tryd.prog 15 #[.agg (frL fX).toArray, .int .i64 0] w fun e w' => e = .returned (.int .i64 1) ∧ Below w.heap.size w w' :=
  (ready_any fX 0 w (by decide) (by decide) (by decide)).mono fun e w' ⟨h1, h2⟩ => ⟨by rw [rB] at h1; exact h1, h2⟩
set_option maxHeartbeats 4000000 in
theorem cookieBegun_any (w : World) (T : CTabs w) : Calls Tryd.prog 5 #[] w fun e w' => e = .returned (.bool true) ∧ Below w.heap.size w w' := by
  have HT : Hid _ := T
  have B0 : Hid (Below w.heap.size w w) := Below.refl _ _
  clear T
  go_enter Tryd.func5, Tryd.ntmps5
  go_wp2_with fail
  refine (suffixes_any _).mono ?_
  rintro e a1 ⟨v1, rfl, r1, ha1⟩
  have R1 : Hid (Rows a1 v1 sufF sufL0) := r1
  obtain ⟨ad1, cp1, rfl⟩ := r1.shape
  clear r1
  have BA1 : Hid (Below w.heap.size w a1) := next B0.out ha1
  have hx1 : Below a1.heap.size a1 (a1.alloc (.cells #[.string ⟨#[100, 111, 109, 97, 105, 110]⟩, .string ⟨#[46, 83, 104, 111, 112, 46, 99, 111, 109]⟩, .string ⟨#[109, 97, 120, 45, 97, 103, 101]⟩, .string ⟨#[54, 48]⟩, .string ⟨#[115, 101, 99, 117, 114, 101]⟩, .string ⟨#[]⟩] 29)) := (Below.refl _ _).alloc (Nat.le_refl _) _
  have L1 : Hid (Rows (a1.alloc (.cells #[.string ⟨#[100, 111, 109, 97, 105, 110]⟩, .string ⟨#[46, 83, 104, 111, 112, 46, 99, 111, 109]⟩, .string ⟨#[109, 97, 120, 45, 97, 103, 101]⟩, .string ⟨#[54, 48]⟩, .string ⟨#[115, 101, 99, 117, 114, 101]⟩, .string ⟨#[]⟩] 29)) (.slice (some ⟨a1.heap.size, 0, none⟩) 3 3) attrF rB1.2.2) := Rows.lit a1 rB1.2.2 _ _ _ _ _ rfl rfl rfl
  go_wp2_with fail
  refine (attrs_any _ _ ⟨_, _, _, rfl⟩).mono ?_
  rintro e b1 ⟨rfl, rfl⟩
  go_wp2_with fail
  refine (shop_any _).mono ?_
  rintro e b1 ⟨rfl, hb1⟩
  have BB1 : Hid (Below w.heap.size w b1) := next (next BA1.out hx1) hb1
  go_wp2_with fail
  refine (cb_make1 _ _ _ (HT.out.below BB1.out (Nat.le_refl _)) (Rows.below (Rows.below R1.out hx1 (Nat.le_refl _)) hb1 (Nat.le_refl _)) (Rows.below L1.out hb1 (Nat.le_refl _))).mono ?_
  rintro e d1 ⟨rfl, hd1⟩
  have hy1 : Below d1.heap.size d1 (d1.alloc (.cells #[.string ⟨#[105, 100]⟩, .string ⟨#[55]⟩, .string ⟨#[115, 104, 111, 112, 46, 99, 111, 109]⟩, .string ⟨#[47, 99, 97, 114, 116]⟩, .bool false, .bool true, .bool false, .bool true, .int .i64 0, .int .i64 1060, .int .i64 1000, .int .i64 1000, .int .i64 0] 32)) := (Below.refl _ _).alloc (Nat.le_refl _) _
  have B1 : Hid (Below w.heap.size w (d1.alloc (.cells #[.string ⟨#[105, 100]⟩, .string ⟨#[55]⟩, .string ⟨#[115, 104, 111, 112, 46, 99, 111, 109]⟩, .string ⟨#[47, 99, 97, 114, 116]⟩, .bool false, .bool true, .bool false, .bool true, .int .i64 0, .int .i64 1060, .int .i64 1000, .int .i64 1000, .int .i64 0] 32))) := next (next BB1.out hd1) hy1
  have C1 : Hid (LRow (d1.alloc (.cells #[.string ⟨#[105, 100]⟩, .string ⟨#[55]⟩, .string ⟨#[115, 104, 111, 112, 46, 99, 111, 109]⟩, .string ⟨#[47, 99, 97, 114, 116]⟩, .bool false, .bool true, .bool false, .bool true, .int .i64 0, .int .i64 1060, .int .i64 1000, .int .i64 1000, .int .i64 0] 32)) d1.heap.size kB1) := LRow.new d1 kB1 _
  clear hx1 hb1 hd1 hy1 ha1 R1 L1 BA1 BB1
  go_wp2_with fail
  refine (suffixes_any _).mono ?_
  rintro e a2 ⟨v2, rfl, r2, ha2⟩
  have R2 : Hid (Rows a2 v2 sufF sufL0) := r2
  obtain ⟨ad2, cp2, rfl⟩ := r2.shape
  clear r2
  have BA2 : Hid (Below w.heap.size w a2) := next B1.out ha2
  have hx2 : Below a2.heap.size a2 (a2.alloc (.cells #[.string ⟨#[100, 111, 109, 97, 105, 110]⟩, .string ⟨#[99, 111, 109]⟩] 29)) := (Below.refl _ _).alloc (Nat.le_refl _) _
  have L2 : Hid (Rows (a2.alloc (.cells #[.string ⟨#[100, 111, 109, 97, 105, 110]⟩, .string ⟨#[99, 111, 109]⟩] 29)) (.slice (some ⟨a2.heap.size, 0, none⟩) 1 1) attrF rB2.2.2) := Rows.lit a2 rB2.2.2 _ _ _ _ _ rfl rfl rfl
  go_wp2_with fail
  refine (attrs_any _ _ ⟨_, _, _, rfl⟩).mono ?_
  rintro e b2 ⟨rfl, rfl⟩
  go_wp2_with fail
  refine (shop_any _).mono ?_
  rintro e b2 ⟨rfl, hb2⟩
  have BB2 : Hid (Below w.heap.size w b2) := next (next BA2.out hx2) hb2
  go_wp2_with fail
  refine (cb_make2 _ _ _ (HT.out.below BB2.out (Nat.le_refl _)) (Rows.below (Rows.below R2.out hx2 (Nat.le_refl _)) hb2 (Nat.le_refl _)) (Rows.below L2.out hb2 (Nat.le_refl _))).mono ?_
  rintro e d2 ⟨rfl, hd2⟩
  have hy2 : Below d2.heap.size d2 (d2.alloc (.cells #[.string ⟨#[]⟩, .string ⟨#[]⟩, .string ⟨#[]⟩, .string ⟨#[]⟩, .bool false, .bool false, .bool false, .bool false, .int .i64 0, .int .i64 0, .int .i64 0, .int .i64 0, .int .i64 0] 32)) := (Below.refl _ _).alloc (Nat.le_refl _) _
  have B2 : Hid (Below w.heap.size w (d2.alloc (.cells #[.string ⟨#[]⟩, .string ⟨#[]⟩, .string ⟨#[]⟩, .string ⟨#[]⟩, .bool false, .bool false, .bool false, .bool false, .int .i64 0, .int .i64 0, .int .i64 0, .int .i64 0, .int .i64 0] 32))) := next (next BB2.out hd2) hy2
  have C2 : Hid _ := ((((C1.out.below ha2 (LRow.lt5 C1.out)).below hx2 (Nat.lt_of_lt_of_le (LRow.lt5 C1.out) ha2.size)).below hb2 (Nat.lt_of_lt_of_le (Nat.lt_of_lt_of_le (LRow.lt5 C1.out) ha2.size) hx2.size)).below hd2 (Nat.lt_of_lt_of_le (Nat.lt_of_lt_of_le (Nat.lt_of_lt_of_le (LRow.lt5 C1.out) ha2.size) hx2.size) hb2.size)).below hy2 (Nat.lt_of_lt_of_le (Nat.lt_of_lt_of_le (Nat.lt_of_lt_of_le (Nat.lt_of_lt_of_le (LRow.lt5 C1.out) ha2.size) hx2.size) hb2.size) hd2.size)
  clear hx2 hb2 hd2 hy2 ha2 R2 L2 BA2 BB2
  go_wp2_with fail
  refine (suffixes_any _).mono ?_
  rintro e a3 ⟨v3, rfl, r3, ha3⟩
  have R3 : Hid (Rows a3 v3 sufF sufL0) := r3
  obtain ⟨ad3, cp3, rfl⟩ := r3.shape
  clear r3
  have BA3 : Hid (Below w.heap.size w a3) := next B2.out ha3
  have hx3 : Below a3.heap.size a3 (a3.alloc (.cells #[.string ⟨#[115, 101, 99, 117, 114, 101]⟩, .string ⟨#[]⟩] 29)) := (Below.refl _ _).alloc (Nat.le_refl _) _
  have L3 : Hid (Rows (a3.alloc (.cells #[.string ⟨#[115, 101, 99, 117, 114, 101]⟩, .string ⟨#[]⟩] 29)) (.slice (some ⟨a3.heap.size, 0, none⟩) 1 1) attrF rB3.2.2) := Rows.lit a3 rB3.2.2 _ _ _ _ _ rfl rfl rfl
  go_wp2_with fail
  refine (attrs_any _ _ ⟨_, _, _, rfl⟩).mono ?_
  rintro e b3 ⟨rfl, rfl⟩
  go_wp2_with fail
  refine (shop_any _).mono ?_
  rintro e b3 ⟨rfl, hb3⟩
  have BB3 : Hid (Below w.heap.size w b3) := next (next BA3.out hx3) hb3
  go_wp2_with fail
  refine (cb_make3 _ _ _ (HT.out.below BB3.out (Nat.le_refl _)) (Rows.below (Rows.below R3.out hx3 (Nat.le_refl _)) hb3 (Nat.le_refl _)) (Rows.below L3.out hb3 (Nat.le_refl _))).mono ?_
  rintro e d3 ⟨rfl, hd3⟩
  have hy3 : Below d3.heap.size d3 (d3.alloc (.cells #[.string ⟨#[]⟩, .string ⟨#[]⟩, .string ⟨#[]⟩, .string ⟨#[]⟩, .bool false, .bool false, .bool false, .bool false, .int .i64 0, .int .i64 0, .int .i64 0, .int .i64 0, .int .i64 0] 32)) := (Below.refl _ _).alloc (Nat.le_refl _) _
  have B3 : Hid (Below w.heap.size w (d3.alloc (.cells #[.string ⟨#[]⟩, .string ⟨#[]⟩, .string ⟨#[]⟩, .string ⟨#[]⟩, .bool false, .bool false, .bool false, .bool false, .int .i64 0, .int .i64 0, .int .i64 0, .int .i64 0, .int .i64 0] 32))) := next (next BB3.out hd3) hy3
  have C3 : Hid _ := ((((C2.out.below ha3 (LRow.lt5 C2.out)).below hx3 (Nat.lt_of_lt_of_le (LRow.lt5 C2.out) ha3.size)).below hb3 (Nat.lt_of_lt_of_le (Nat.lt_of_lt_of_le (LRow.lt5 C2.out) ha3.size) hx3.size)).below hd3 (Nat.lt_of_lt_of_le (Nat.lt_of_lt_of_le (Nat.lt_of_lt_of_le (LRow.lt5 C2.out) ha3.size) hx3.size) hb3.size)).below hy3 (Nat.lt_of_lt_of_le (Nat.lt_of_lt_of_le (Nat.lt_of_lt_of_le (Nat.lt_of_lt_of_le (LRow.lt5 C2.out) ha3.size) hx3.size) hb3.size) hd3.size)
  clear hx3 hb3 hd3 hy3 ha3 R3 L3 BA3 BB3
  go_wp2_with fail
  refine (cb_age1 _).mono ?_
  rintro e u1 ⟨rfl, rfl⟩
  go_wp2_with fail
  refine (cb_age2 _).mono ?_
  rintro e u2 ⟨rfl, rfl⟩
  have c0 := C3.out.cell 0 rfl
  have c1 := C3.out.cell 1 rfl
  have c2 := C3.out.cell 2 rfl
  have c3 := C3.out.cell 3 rfl
  have c4 := C3.out.cell 4 rfl
  have c5 := C3.out.cell 5 rfl
  have c6 := C3.out.cell 6 rfl
  have c7 := C3.out.cell 7 rfl
  have c8 := C3.out.cell 8 rfl
  have c9 := C3.out.cell 9 rfl
  have c10 := C3.out.cell 10 rfl
  have c11 := C3.out.cell 11 rfl
  have c12 := C3.out.cell 12 rfl
  go_wp2_with fail
  refine (cb_ready _).mono ?_
  rintro e u3 ⟨rfl, hb⟩
  go_wp2_with fail
  go_ret
  exact ⟨rfl, next B3.out hb⟩
end Go.Proofs.YtgjjkieljdamfafDoor
namespace Go.Proofs.YtgjjkieljdamfafDoor.cj
open Go.RowKit
set_option linter.all false
set_option maxRecDepth 100000

theorem canonE_fold (l : List UInt8) : canonE (foldL l) = canonE l := by
  unfold canonE; rw [foldL_length, hostL_twice]
theorem canonL_fold (l : List UInt8) : canonL (foldL l) = canonL l := by
  unfold canonL; rw [foldL_length, hostL_twice, foldL_twice']
theorem canon_ok (l : List UInt8) (h : canonE l = 0) : canonL l = foldL l := by
  unfold canonE at h
  unfold canonL
  by_cases h1 : l.length ≤ 253
  · rw [if_pos h1] at h ⊢
    cases h2 : hostL l
    · rw [h2] at h; simp at h
    · rfl
  · rw [if_neg h1] at h; cases h
end Go.Proofs.YtgjjkieljdamfafDoor.cj
namespace Go.Proofs.YtgjjkieljdamfafDoor
open Go.RowKit cj
set_option linter.all false
theorem make_zero {l : Rules} {r : Raw} {f : Fr} {now : Int} (h : makeE l r f now = 0) : sufE l = 0 ∧ checkL r = 0 ∧ readyE f now = 0 ∧ domE l (expiryM (r.2.2.foldl takeM (beginM r f now))) = 0 ∧ barM (madeM l r f now) = false := by
  unfold makeE at h
  by_cases h0 : sufE l = 0
  · rw [if_pos h0] at h
    by_cases h1 : checkL r = 0
    · rw [if_pos h1] at h
      by_cases h2 : readyE f now = 0
      · rw [if_pos h2] at h
        by_cases h3 : domE l (expiryM (r.2.2.foldl takeM (beginM r f now))) = 0
        · rw [if_pos h3] at h
          cases h4 : barM (madeM l r f now)
          · exact ⟨h0, h1, h2, h3, rfl⟩
          · rw [h4] at h; cases h
        · rw [if_neg h3] at h; exact absurd h h3
      · rw [if_neg h2] at h; exact absurd h h2
    · rw [if_neg h1] at h; exact absurd h h1
  · rw [if_neg h0] at h; exact absurd h h0
theorem ready_zero {f : Fr} {now : Int} (h : readyE f now = 0) : canB f.host = true ∧ f.host.length ≤ 253 := by
  unfold readyE at h
  by_cases h1 : canB f.host = true
  · refine ⟨h1, ?_⟩
    have := ((canB_i _).1 h1).2
    rw [← this]; exact canon_len _
  · rw [if_neg h1] at h; cases h
theorem made_keeps (l : Rules) (r : Raw) (f : Fr) (now : Int) (ha : ∀ a ∈ r.2.2, a.2.length ≤ maxLen) : Keeps (beginM r f now) (r.2.2.foldl takeM (beginM r f now)) := Keeps.all _ _ (Keeps.begin r f now) ha
theorem made_dom {l : Rules} {r : Raw} {f : Fr} {now : Int} (ha : ∀ a ∈ r.2.2, a.2.length ≤ maxLen) (h : makeE l r f now = 0) :
    ((madeM l r f now).hostOnly = true ∧ (madeM l r f now).domain = f.host) ∨
    ((madeM l r f now).hostOnly = false ∧ matchL f.host (madeM l r f now).domain = true ∧ pubE l (madeM l r f now).domain = 0 ∧ pubA l (madeM l r f now).domain ≠ (madeM l r f now).domain ∧ (madeM l r f now).domain.length ≤ 253) := by
  obtain ⟨h0, h1, h2, h3, h4⟩ := make_zero h
  have hk := made_keeps l r f now ha
  obtain ⟨m, hm⟩ : ∃ m, m = r.2.2.foldl takeM (beginM r f now) := ⟨_, rfl⟩
  rw [← hm] at h3 hk
  have hmd : madeM l r f now = domM l (expiryM m) := by unfold madeM; rw [hm]
  have hfr : (expiryM m).fr = f := hk.fr
  have hd : (expiryM m).dom = m.dom := rfl
  rw [hmd]
  unfold domM
  rw [if_pos h3]
  cases ho : domOwn l (expiryM m)
  · right
    rw [if_neg (by decide)]
    unfold domOwn at ho
    rw [Bool.or_eq_false_iff, decide_eq_false_iff_not, decide_eq_false_iff_not] at ho
    unfold domE at h3
    rw [if_neg ho.1] at h3
    by_cases hc : canonE (expiryM m).dom = 0
    · rw [if_pos hc, if_neg ho.2, hfr] at h3
      have hcan := canon_ok _ hc
      refine ⟨rfl, ?_, ?_, fun e => ho.2 e.symm, canon_len _⟩
      · cases hmt : matchL f.host (canonL (expiryM m).dom)
        · rw [hmt] at h3; cases h3
        · rfl
      · unfold pubE
        rw [if_pos h0]
        have : canB (canonL (expiryM m).dom) = true := by
          rw [canB_i, hcan]
          exact ⟨by rw [canonE_fold]; exact hc, by rw [canonL_fold]; exact hcan⟩
        rw [if_pos this]
    · rw [if_neg hc] at h3; cases h3
  · left
    rw [if_pos rfl]
    exact ⟨rfl, by show (expiryM m).fr.host = f.host; rw [hfr]⟩
end Go.Proofs.YtgjjkieljdamfafDoor
namespace Go.Proofs.YtgjjkieljdamfafDoor
open Go.RowKit
set_option linter.all false
set_option maxRecDepth 100000

def secP : List UInt8 := [95, 95, 115, 101, 99, 117, 114, 101, 45]
def hosP : List UInt8 := [95, 95, 104, 111, 115, 116, 45]
theorem pre_take (n p : List UInt8) : Lib.hasPrefix n p = true ↔ p.length ≤ n.length ∧ n.take p.length = p := by
  unfold Lib.hasPrefix
  rw [List.isPrefixOf_iff_prefix, List.prefix_iff_eq_take]
  constructor
  · intro h
    have := congrArg List.length h
    rw [List.length_take] at this
    exact ⟨by omega, h.symm⟩
  · rintro ⟨_, h⟩; exact h.symm
theorem pre_not (n : List UInt8) (h : Lib.hasPrefix n secP = true) : Lib.hasPrefix n hosP = false := by
  unfold Lib.hasPrefix at h ⊢
  rw [List.isPrefixOf_iff_prefix] at h
  obtain ⟨t, rfl⟩ := h
  rfl
theorem dom_fr (l : Rules) (m : Mk) : (domM l m).fr = m.fr ∧ (domM l m).dom = m.dom ∧ (domM l m).secure = m.secure ∧ (domM l m).httpOnly = m.httpOnly := by
  unfold domM
  by_cases h : domE l m = 0
  · rw [if_pos h]
    cases domOwn l m <;> exact ⟨rfl, rfl, rfl, rfl⟩
  · rw [if_neg h]; exact ⟨rfl, rfl, rfl, rfl⟩
theorem dom_none (l : Rules) (m : Mk) (h : m.dom = []) : domE l m = 0 ∧ domM l m = { m with domain := m.fr.host, hostOnly := true } := by
  have e : domE l m = 0 := by unfold domE; rw [if_pos h]
  have o : domOwn l m = true := by unfold domOwn; rw [decide_eq_true h]; rfl
  exact ⟨e, by unfold domM; rw [if_pos e, o, if_pos rfl]⟩
theorem made_bars {l : Rules} {r : Raw} {f : Fr} {now : Int} (ha : ∀ a ∈ r.2.2, a.2.length ≤ maxLen) (h : makeE l r f now = 0) :
    ((madeM l r f now).httpOnly = true → f.script = false) ∧ ((madeM l r f now).secure = true → f.secure = true) ∧
    (Lib.hasPrefix (foldL (madeM l r f now).name) secP = true → (madeM l r f now).secure = true) ∧
    (Lib.hasPrefix (foldL (madeM l r f now).name) hosP = true → (madeM l r f now).secure = true ∧ (madeM l r f now).hostOnly = true ∧ (madeM l r f now).domain = f.host ∧ (madeM l r f now).path = [47]) := by
  obtain ⟨h0, h1, h2, h3, h4⟩ := make_zero h
  have hk := made_keeps l r f now ha
  obtain ⟨m, hm⟩ : ∃ m, m = r.2.2.foldl takeM (beginM r f now) := ⟨_, rfl⟩
  rw [← hm] at h3 hk
  have hmd : madeM l r f now = domM l (expiryM m) := by unfold madeM; rw [hm]
  have hfr : (expiryM m).fr = f := hk.fr
  rw [hmd] at h4 ⊢
  obtain ⟨d1, d2, d3, d4⟩ := dom_fr l (expiryM m)
  have hdn := dom_none l (expiryM m)
  obtain ⟨x, hx⟩ : ∃ x, x = domM l (expiryM m) := ⟨_, rfl⟩
  rw [← hx] at h4 d1 d2 d3 d4 hdn ⊢
  unfold barM at h4
  rw [Bool.or_eq_false_iff, Bool.or_eq_false_iff, d1, hfr] at h4
  obtain ⟨⟨b1, b2⟩, b3⟩ := h4
  refine ⟨fun e => by rw [e] at b1; simpa using b1, fun e => by rw [e] at b2; simpa using b2, fun e => ?_, fun e => ?_⟩
  · have e' : Lib.hasPrefix (foldL x.name) [95, 95, 115, 101, 99, 117, 114, 101, 45] = true := e
    rw [if_pos e'] at b3
    simpa using b3
  · have e1 : Lib.hasPrefix (foldL x.name) [95, 95, 115, 101, 99, 117, 114, 101, 45] = false := by
      cases e2 : Lib.hasPrefix (foldL x.name) [95, 95, 115, 101, 99, 117, 114, 101, 45]
      · rfl
      · have := pre_not _ e2
        rw [e] at this; cases this
    have e' : Lib.hasPrefix (foldL x.name) [95, 95, 104, 111, 115, 116, 45] = true := e
    rw [e1, e', if_neg (by decide), Bool.true_and, Bool.or_eq_false_iff, Bool.or_eq_false_iff, Bool.or_eq_false_iff] at b3
    obtain ⟨⟨⟨c1, c2⟩, c3⟩, c4⟩ := b3
    have c2' : x.dom = [] := by simpa using c2
    have hq := (hdn (by rw [← d2]; exact c2')).2
    refine ⟨by simpa using c1, by rw [hq], by rw [hq]; show (expiryM m).fr.host = _; rw [hfr], by simpa using c3⟩

def maxA : List UInt8 := [109, 97, 120, 45, 97, 103, 101]
def expA : List UInt8 := [101, 120, 112, 105, 114, 101, 115]
def rOne (r : Raw) (a b : List UInt8) : Raw := (r.1, r.2.1, [(maxA, a), (expA, b)])
def rTwo (r : Raw) (a b : List UInt8) : Raw := (r.1, r.2.1, [(expA, b), (maxA, a)])
def rThr (r : Raw) (a : List UInt8) : Raw := (r.1, r.2.1, [(maxA, a)])
theorem take_age (m : Mk) (a : List UInt8) : takeM m (maxA, a) = if ageB a then { m with ageN := ageV a, ageS := true } else m := by
  unfold takeM
  rw [if_neg (show ¬ maxA = _ by decide), if_pos (show maxA = [109, 97, 120, 45, 97, 103, 101] from rfl)]
theorem take_exp (m : Mk) (b : List UInt8) : takeM m (expA, b) = if readE b = 0 then { m with expN := readV b, expS := true } else m := by
  unfold takeM
  rw [if_pos (show expA = [101, 120, 112, 105, 114, 101, 115] from rfl)]
theorem take_two (m : Mk) (a b : List UInt8) : takeM (takeM m (maxA, a)) (expA, b) = takeM (takeM m (expA, b)) (maxA, a) := by
  rw [take_age, take_exp, take_exp, take_age]
  by_cases h1 : ageB a = true <;> by_cases h2 : readE b = 0 <;> simp [h1, h2]
theorem check_two (r : Raw) (a b : List UInt8) : checkL (rOne r a b) = checkL (rTwo r a b) := by
  have e : rawOk (rOne r a b) = rawOk (rTwo r a b) := by
    unfold rawOk
    show (headOk r && ([(maxA, a), (expA, b)] : List Attr).all attrOk) = (headOk r && ([(expA, b), (maxA, a)] : List Attr).all attrOk)
    simp only [List.all_cons, List.all_nil, Bool.and_true]
    rw [Bool.and_comm (attrOk (maxA, a))]
  unfold checkL
  rw [e]; rfl
theorem make_two (l : Rules) (r : Raw) (f : Fr) (now : Int) (a b : List UInt8) : makeE l (rTwo r a b) f now = makeE l (rOne r a b) f now ∧ outL l (rTwo r a b) f now = outL l (rOne r a b) f now := by
  have e : (rTwo r a b).2.2.foldl takeM (beginM (rTwo r a b) f now) = (rOne r a b).2.2.foldl takeM (beginM (rOne r a b) f now) := (take_two (beginM r f now) a b).symm
  have e2 : madeM l (rTwo r a b) f now = madeM l (rOne r a b) f now := by unfold madeM; rw [e]
  have e1 : makeE l (rTwo r a b) f now = makeE l (rOne r a b) f now := by unfold makeE; rw [e, e2, check_two]
  exact ⟨e1, by unfold outL; rw [e1, e2]⟩
def tOne (r : Raw) (f : Fr) (now : Int) (a b : List UInt8) : Mk := takeM (takeM (beginM r f now) (maxA, a)) (expA, b)
def tThr (r : Raw) (f : Fr) (now : Int) (a : List UInt8) : Mk := takeM (beginM r f now) (maxA, a)
theorem tThr_begin (r : Raw) (f : Fr) (now : Int) (a : List UInt8) : ∃ n s, tThr r f now a = { beginM r f now with ageN := n, ageS := s } ∧ (ageB a = true → s = true) := by
  unfold tThr
  rw [take_age]
  by_cases h : ageB a = true
  · rw [if_pos h]; exact ⟨_, _, rfl, fun _ => rfl⟩
  · rw [if_neg h]; exact ⟨0, false, rfl, fun e => absurd e h⟩
theorem tOne_of (r : Raw) (f : Fr) (now : Int) (a b : List UInt8) : ∃ n s, tOne r f now a b = { tThr r f now a with expN := n, expS := s } := by
  show ∃ n s, takeM (tThr r f now a) (expA, b) = _
  rw [take_exp]
  by_cases h : readE b = 0
  · rw [if_pos h]; exact ⟨_, _, rfl⟩
  · rw [if_neg h]; exact ⟨_, _, rfl⟩
theorem make_thr {l : Rules} {r : Raw} {f : Fr} {now : Int} {a b : List UInt8} (h : makeE l (rOne r a b) f now = 0) :
    makeE l (rThr r a) f now = 0 ∧ (ageB a = true → ckL (madeM l (rThr r a) f now) = ckL (madeM l (rOne r a b) f now)) ∧
    ((madeM l (rOne r a b) f now).lasting = false → (madeM l (rOne r a b) f now).expiry = 253402300799) ∧ (ageB a = true → (madeM l (rOne r a b) f now).lasting = true) := by
  obtain ⟨h0, h1, h2, h3, h4⟩ := make_zero h
  obtain ⟨n1, s1, e1, a1⟩ := tThr_begin r f now a
  obtain ⟨n2, s2, e2⟩ := tOne_of r f now a b
  have m1 : madeM l (rThr r a) f now = domM l (expiryM (tThr r f now a)) := rfl
  have m2 : madeM l (rOne r a b) f now = domM l (expiryM (tOne r f now a b)) := rfl
  have d1 := dom_none l (expiryM (tThr r f now a)) (by rw [e1]; rfl)
  have d2 := dom_none l (expiryM (tOne r f now a b)) (by rw [e2, e1]; rfl)
  rw [m2] at h4
  rw [m1, m2]
  rw [d2.2] at h4 ⊢
  rw [d1.2]
  refine ⟨?_, fun ha => ?_, fun hl => ?_, fun ha => ?_⟩
  · unfold makeE
    have hc : checkL (rThr r a) = 0 := by
      have hk : rawOk (rOne r a b) = true := by
        unfold checkL at h1
        cases hk : rawOk (rOne r a b)
        · rw [hk, if_neg (by decide)] at h1; cases h1
        · rfl
      have hk2 : rawOk (rThr r a) = true := by
        have hk' : (headOk r && ([(maxA, a), (expA, b)] : List Attr).all attrOk) = true := hk
        show (headOk r && ([(maxA, a)] : List Attr).all attrOk) = true
        simp only [List.all_cons, List.all_nil, Bool.and_true, Bool.and_eq_true] at hk' ⊢
        exact ⟨hk'.1, hk'.2.1⟩
      unfold checkL
      rw [hk2, if_pos rfl, if_neg (by show ¬ 12 < 1; omega)]
    rw [if_pos h0, if_pos hc, if_pos h2]
    have e3 : domE l (expiryM ((rThr r a).2.2.foldl takeM (beginM (rThr r a) f now))) = 0 := d1.1
    rw [if_pos e3, m1, d1.2]
    have hb : barM { expiryM (tThr r f now a) with domain := (expiryM (tThr r f now a)).fr.host, hostOnly := true } = false := by
      rw [e2] at h4
      exact h4
    rw [hb]; rfl
  · have hs := a1 ha
    rw [e2, e1, hs]
    rfl
  · rw [e2, e1] at hl ⊢
    have hl' : (s1 || s2) = false := hl
    rw [Bool.or_eq_false_iff] at hl'
    rw [hl'.1, hl'.2]
    rfl
  · have hs := a1 ha
    rw [e2, e1, hs]
    rfl
/-- attributes of another name -/
def lessA (n : List UInt8) (xs : List Attr) : List Attr := xs.filter (fun x => !(x.1 == n))
def pathN : List UInt8 := [112, 97, 116, 104]
def siteN : List UInt8 := [115, 97, 109, 101, 115, 105, 116, 101]
def wipeP (m : Mk) : Mk := { m with path := [], told := false }
def wipeS (m : Mk) : Mk := { m with site := 0 }
theorem wipeP_take (m : Mk) (x : Attr) : wipeP (takeM m x) = wipeP (takeM (wipeP m) x) := by
  unfold takeM
  by_cases k0 : x.1 = [101, 120, 112, 105, 114, 101, 115]
  · rw [if_pos k0, if_pos k0]
    by_cases e : readE x.2 = 0
    · rw [if_pos e, if_pos e]; rfl
    · rw [if_neg e, if_neg e]; rfl
  rw [if_neg k0, if_neg k0]
  by_cases k1 : x.1 = [109, 97, 120, 45, 97, 103, 101]
  · rw [if_pos k1, if_pos k1]
    by_cases e : ageB x.2 = true
    · rw [if_pos e, if_pos e]; rfl
    · rw [if_neg e, if_neg e]; rfl
  rw [if_neg k1, if_neg k1]
  by_cases k2 : x.1 = [100, 111, 109, 97, 105, 110]
  · rw [if_pos k2, if_pos k2]
    by_cases e : cutP x.2 [46] = []
    · rw [if_pos e, if_pos e]; rfl
    · rw [if_neg e, if_neg e]; rfl
  rw [if_neg k2, if_neg k2]
  by_cases k3 : x.1 = [112, 97, 116, 104]
  · rw [if_pos k3, if_pos k3]; rfl
  rw [if_neg k3, if_neg k3]
  by_cases k4 : x.1 = [115, 101, 99, 117, 114, 101]
  · rw [if_pos k4, if_pos k4]; rfl
  rw [if_neg k4, if_neg k4]
  by_cases k5 : x.1 = [104, 116, 116, 112, 111, 110, 108, 121]
  · rw [if_pos k5, if_pos k5]; rfl
  rw [if_neg k5, if_neg k5]
  by_cases k6 : x.1 = [115, 97, 109, 101, 115, 105, 116, 101]
  · rw [if_pos k6, if_pos k6]; rfl
  rw [if_neg k6, if_neg k6]; rfl
theorem wipeS_take (m : Mk) (x : Attr) : wipeS (takeM m x) = wipeS (takeM (wipeS m) x) := by
  unfold takeM
  by_cases k0 : x.1 = [101, 120, 112, 105, 114, 101, 115]
  · rw [if_pos k0, if_pos k0]
    by_cases e : readE x.2 = 0
    · rw [if_pos e, if_pos e]; rfl
    · rw [if_neg e, if_neg e]; rfl
  rw [if_neg k0, if_neg k0]
  by_cases k1 : x.1 = [109, 97, 120, 45, 97, 103, 101]
  · rw [if_pos k1, if_pos k1]
    by_cases e : ageB x.2 = true
    · rw [if_pos e, if_pos e]; rfl
    · rw [if_neg e, if_neg e]; rfl
  rw [if_neg k1, if_neg k1]
  by_cases k2 : x.1 = [100, 111, 109, 97, 105, 110]
  · rw [if_pos k2, if_pos k2]
    by_cases e : cutP x.2 [46] = []
    · rw [if_pos e, if_pos e]; rfl
    · rw [if_neg e, if_neg e]; rfl
  rw [if_neg k2, if_neg k2]
  by_cases k3 : x.1 = [112, 97, 116, 104]
  · rw [if_pos k3, if_pos k3]; rfl
  rw [if_neg k3, if_neg k3]
  by_cases k4 : x.1 = [115, 101, 99, 117, 114, 101]
  · rw [if_pos k4, if_pos k4]; rfl
  rw [if_neg k4, if_neg k4]
  by_cases k5 : x.1 = [104, 116, 116, 112, 111, 110, 108, 121]
  · rw [if_pos k5, if_pos k5]; rfl
  rw [if_neg k5, if_neg k5]
  by_cases k6 : x.1 = [115, 97, 109, 101, 115, 105, 116, 101]
  · rw [if_pos k6, if_pos k6]; rfl
  rw [if_neg k6, if_neg k6]; rfl
theorem take_path (m : Mk) (v : List UInt8) : takeM m (pathN, v) = { m with path := if Lib.hasPrefix v [47] then v else defaultL m.fr.path, told := true } := by
  unfold takeM
  rw [if_neg (show ¬ pathN = _ by decide), if_neg (show ¬ pathN = _ by decide), if_neg (show ¬ pathN = _ by decide), if_pos (show pathN = [112, 97, 116, 104] from rfl)]
theorem take_site (m : Mk) (v : List UInt8) : takeM m (siteN, v) = { m with site := siteL v } := by
  unfold takeM
  rw [if_neg (show ¬ siteN = _ by decide), if_neg (show ¬ siteN = _ by decide), if_neg (show ¬ siteN = _ by decide), if_neg (show ¬ siteN = _ by decide), if_neg (show ¬ siteN = _ by decide), if_neg (show ¬ siteN = _ by decide), if_pos (show siteN = [115, 97, 109, 101, 115, 105, 116, 101] from rfl)]
theorem less_path : ∀ (xs : List Attr) (m1 m2 : Mk), wipeP m1 = wipeP m2 → wipeP (xs.foldl takeM m1) = wipeP ((lessA pathN xs).foldl takeM m2)
  | [], _, _, h => h
  | x :: xs, m1, m2, h => by
    by_cases e : x.1 = pathN
    · have e1 : lessA pathN (x :: xs) = lessA pathN xs := by unfold lessA; rw [List.filter_cons_of_neg (by simp [e])]
      rw [e1]
      refine less_path xs (takeM m1 x) m2 ?_
      rw [show x = (pathN, x.2) from by rw [← e], take_path]
      exact h
    · have e1 : lessA pathN (x :: xs) = x :: lessA pathN xs := by unfold lessA; rw [List.filter_cons_of_pos (by simp [e])]
      rw [e1]
      refine less_path xs (takeM m1 x) (takeM m2 x) ?_
      rw [wipeP_take m1, wipeP_take m2, h]
theorem less_site : ∀ (xs : List Attr) (m1 m2 : Mk), wipeS m1 = wipeS m2 → wipeS (xs.foldl takeM m1) = wipeS ((lessA siteN xs).foldl takeM m2)
  | [], _, _, h => h
  | x :: xs, m1, m2, h => by
    by_cases e : x.1 = siteN
    · have e1 : lessA siteN (x :: xs) = lessA siteN xs := by unfold lessA; rw [List.filter_cons_of_neg (by simp [e])]
      rw [e1]
      refine less_site xs (takeM m1 x) m2 ?_
      rw [show x = (siteN, x.2) from by rw [← e], take_site]
      exact h
    · have e1 : lessA siteN (x :: xs) = x :: lessA siteN xs := by unfold lessA; rw [List.filter_cons_of_pos (by simp [e])]
      rw [e1]
      refine less_site xs (takeM m1 x) (takeM m2 x) ?_
      rw [wipeS_take m1, wipeS_take m2, h]
theorem wipeP_last (m1 m2 : Mk) (v : List UInt8) (h : wipeP m1 = wipeP m2) : takeM m1 (pathN, v) = takeM m2 (pathN, v) := by
  have e : ∀ m, takeM m (pathN, v) = takeM (wipeP m) (pathN, v) := fun m => by rw [take_path, take_path]; rfl
  rw [e m1, e m2, h]
theorem wipeS_last (m1 m2 : Mk) (v : List UInt8) (h : wipeS m1 = wipeS m2) : takeM m1 (siteN, v) = takeM m2 (siteN, v) := by
  have e : ∀ m, takeM m (siteN, v) = takeM (wipeS m) (siteN, v) := fun m => by rw [take_site, take_site]; rfl
  rw [e m1, e m2, h]
def rAll (r : Raw) (a : Attr) : Raw := (r.1, r.2.1, r.2.2 ++ [a])
def rLess (r : Raw) (a : Attr) : Raw := (r.1, r.2.1, lessA a.1 r.2.2 ++ [a])
theorem fold_last (r : Raw) (f : Fr) (now : Int) (a : Attr) (hn : a.1 = pathN ∨ a.1 = siteN) : (rLess r a).2.2.foldl takeM (beginM (rLess r a) f now) = (rAll r a).2.2.foldl takeM (beginM (rAll r a) f now) := by
  show (lessA a.1 r.2.2 ++ [a]).foldl takeM (beginM r f now) = (r.2.2 ++ [a]).foldl takeM (beginM r f now)
  rw [List.foldl_append, List.foldl_append]
  show takeM _ a = takeM _ a
  obtain ⟨n, v⟩ := a
  rcases hn with rfl | rfl
  · exact (wipeP_last _ _ v (less_path r.2.2 _ _ rfl)).symm
  · exact (wipeS_last _ _ v (less_site r.2.2 _ _ rfl)).symm
theorem check_last (r : Raw) (a : Attr) (hl : r.2.2.length < 12) (h : checkL (rAll r a) ≠ 1) : checkL (rAll r a) = 0 ∧ checkL (rLess r a) = 0 := by
  have hk : rawOk (rAll r a) = true := by
    unfold checkL at h
    cases hk : rawOk (rAll r a)
    · rw [hk] at h; exact absurd rfl h
    · rfl
  have hk2 : rawOk (rLess r a) = true := by
    have hk' : (headOk r && (r.2.2 ++ [a]).all attrOk) = true := hk
    show (headOk r && (lessA a.1 r.2.2 ++ [a]).all attrOk) = true
    rw [Bool.and_eq_true, List.all_append, Bool.and_eq_true] at hk' ⊢
    refine ⟨hk'.1, ?_, hk'.2.2⟩
    rw [List.all_eq_true] at hk' ⊢
    exact fun x hx => hk'.2.1 x (List.mem_filter.1 hx).1
  have l1 : ¬ 12 < (rAll r a).2.2.length := by show ¬ 12 < (r.2.2 ++ [a]).length; rw [List.length_append]; simp; omega
  have l2 : ¬ 12 < (rLess r a).2.2.length := by
    show ¬ 12 < (lessA a.1 r.2.2 ++ [a]).length
    have : (lessA a.1 r.2.2).length ≤ r.2.2.length := List.length_filter_le _ _
    rw [List.length_append]; simp; omega
  unfold checkL
  rw [hk, hk2, if_pos rfl, if_pos rfl, if_neg l1, if_neg l2]
  exact ⟨rfl, rfl⟩
theorem make_last (l : Rules) (r : Raw) (f : Fr) (now : Int) (a : Attr) (hn : a.1 = pathN ∨ a.1 = siteN) (hl : r.2.2.length < 12) (h : makeE l (rAll r a) f now ≠ 1) :
    makeE l (rLess r a) f now = makeE l (rAll r a) f now ∧ outL l (rLess r a) f now = outL l (rAll r a) f now := by
  have e := fold_last r f now a hn
  have e2 : madeM l (rLess r a) f now = madeM l (rAll r a) f now := by unfold madeM; rw [e]
  have e1 : makeE l (rLess r a) f now = makeE l (rAll r a) f now := by
    by_cases h0 : sufE l = 0
    · have hc : checkL (rAll r a) ≠ 1 := fun hc => h (by unfold makeE; rw [if_pos h0, hc, if_neg (by decide)])
      obtain ⟨c1, c2⟩ := check_last r a hl hc
      unfold makeE
      rw [if_pos h0, if_pos h0, if_pos c1, if_pos c2, e, e2]
    · unfold makeE; rw [if_neg h0, if_neg h0]
  exact ⟨e1, by unfold outL; rw [e1, e2]⟩
end Go.Proofs.YtgjjkieljdamfafDoor
