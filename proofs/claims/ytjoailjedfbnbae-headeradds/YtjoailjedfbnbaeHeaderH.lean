/- What the statements on headers ask first: some calls at known texts. -/
import Derived.Test.YtjoailjedfbnbaeHeaderG
import Derived.Test.YtjoailjedfbnbaeHeaderN
namespace Go.Proofs.Ytjoailjedfbnbae
open Go.RowKit
set_option linter.all false

def hT1 : List UInt8 := [32, 105, 100, 32, 61, 32, 97, 61, 98, 32, 59, 59, 32, 80, 97, 116, 104, 61, 47, 120, 59, 32, 83, 69, 67, 85, 82, 69, 59, 61, 122]
def hW1 : Raw := ([105, 100], [97, 61, 98], [([112, 97, 116, 104], [47, 120]), ([115, 101, 99, 117, 114, 101], [])])
def hS1 : List UInt8 := [105, 100, 61, 97, 61, 98, 59, 32, 112, 97, 116, 104, 61, 47, 120, 59, 32, 115, 101, 99, 117, 114, 101]
def hT2 : List UInt8 := [110, 111, 32, 112, 97, 105, 114, 59, 32, 112, 97, 116, 104, 61, 47]
def hW2 : Raw := ([97, 61, 98], [], [])
theorem hv1 : rdE hT1 = 0 ∧ rdR hT1 = hW1 := by decide +kernel
theorem hv2 : wrE hW1 = 0 ∧ wrT hW1 = hS1 := by decide +kernel
theorem hv3 : rdE hT2 = 1 ∧ rdR hT2 = ([], [], []) := by decide +kernel
theorem hv4 : checkL hW2 = 1 := by decide +kernel
theorem hb_read1 (w : World) : Calls Try.prog 5 #[.string (txt hT1)] w fun e w' => ∃ v, e = .returned (.tuple #[.agg #[.string (txt hW1.1), .string (txt hW1.2.1), v], .int .i64 0]) ∧ Rows w' v attrF hW1.2.2 ∧ Below w.heap.size w w' :=
  (hRead_any (txt hT1) w (by decide)).mono fun e w' ⟨v, h1, h2, h3⟩ => ⟨v, by rw [txt_toList, hv1.1, hv1.2] at h1; exact h1, by rw [txt_toList, hv1.2] at h2; exact h2, h3⟩
theorem hb_read2 (w : World) : Calls Try.prog 5 #[.string (txt hT2)] w fun e w' => ∃ v, e = .returned (.tuple #[.agg #[.string (txt []), .string (txt []), v], .int .i64 1]) ∧ Rows w' v attrF ([] : List Attr) ∧ Below w.heap.size w w' :=
  (hRead_any (txt hT2) w (by decide)).mono fun e w' ⟨v, h1, h2, h3⟩ => ⟨v, by rw [txt_toList, hv3.1, hv3.2] at h1; exact h1, by rw [txt_toList, hv3.2] at h2; exact h2, h3⟩
theorem hb_write (va : Value) (w : World) (hr : Rows w va attrF hW1.2.2) : Calls Try.prog 8 #[.agg #[.string (txt hW1.1), .string (txt hW1.2.1), va]] w fun e w' => e = .returned (.tuple #[.string ⟨#[105, 100, 61, 97, 61, 98, 59, 32, 112, 97, 116, 104, 61, 47, 120, 59, 32, 115, 101, 99, 117, 114, 101]⟩, .int .i64 0]) ∧ Below w.heap.size w w' :=
  (hWrite_any va hW1 w hr (by decide) (by decide) (by decide) (by decide)).mono fun e w' ⟨h1, h2⟩ => ⟨by rw [hv2.1, hv2.2] at h1; exact h1, h2⟩
theorem hb_check (w : World) : Calls Try.prog 9 #[.agg #[.string (txt hW2.1), .string (txt hW2.2.1), .slice none 0 0]] w fun e w' => e = .returned (.int .i64 1) ∧ Below w.heap.size w w' :=
  (hCheck_any _ hW2 w (rows_nil _ _) (by decide) (by decide) (by decide) (by decide)).mono fun e w' ⟨h1, h2⟩ => ⟨by rw [hv4] at h1; exact h1, h2⟩
theorem hb_same (va vb : Value) (w : World) (ha : Rows w va attrF hW1.2.2) (hb : Rows w vb attrF hW1.2.2) : Calls Try.prog 7 #[.agg #[.string (txt hW1.1), .string (txt hW1.2.1), va], .agg #[.string (txt hW1.1), .string (txt hW1.2.1), vb]] w fun e w' => e = .returned (.bool true) ∧ Below w.heap.size w w' :=
  (sameRaw_any va vb hW1 hW1 w ha hb (by decide) (by decide)).mono fun e w' ⟨h1, h2⟩ => ⟨by rw [decide_eq_true rfl] at h1; exact h1, h2⟩
set_option maxHeartbeats 1000000 in
theorem headerBegun_any (w : World) : Calls Try.prog 6 #[] w fun e w' => e = .returned (.bool true) ∧ Below w.heap.size w w' := by
  go_enter Try.func6, Try.ntmps6
  go_wp2_with fail
  refine (hb_read1 _).mono ?_
  rintro e w1 ⟨v1, rfl, r1, hb1⟩
  have HR1 : Hid (Rows w1 v1 attrF hW1.2.2) := r1
  obtain ⟨ad1, cap1, rfl⟩ := r1.shape
  clear r1
  have hx1 : Below w1.heap.size w1 (w1.alloc (.cells #[.string (txt hW1.1), .string (txt hW1.2.1), .slice ad1 hW1.2.2.length cap1] 24)) := (Below.refl _ _).alloc (Nat.le_refl _) _
  have hx2 : Below (w1.heap.size + 1) (w1.alloc (.cells #[.string (txt hW1.1), .string (txt hW1.2.1), .slice ad1 hW1.2.2.length cap1] 24)) ((w1.alloc (.cells #[.string (txt hW1.1), .string (txt hW1.2.1), .slice ad1 hW1.2.2.length cap1] 24)).alloc (.cells #[.string ⟨#[112, 97, 116, 104]⟩, .string ⟨#[47, 120]⟩, .string ⟨#[115, 101, 99, 117, 114, 101]⟩, .string ⟨#[]⟩] 35)) := (Below.refl _ _).alloc (by simp) _
  have hx3 : Below (w1.heap.size + 1 + 1) ((w1.alloc (.cells #[.string (txt hW1.1), .string (txt hW1.2.1), .slice ad1 hW1.2.2.length cap1] 24)).alloc (.cells #[.string ⟨#[112, 97, 116, 104]⟩, .string ⟨#[47, 120]⟩, .string ⟨#[115, 101, 99, 117, 114, 101]⟩, .string ⟨#[]⟩] 35)) (((w1.alloc (.cells #[.string (txt hW1.1), .string (txt hW1.2.1), .slice ad1 hW1.2.2.length cap1] 24)).alloc (.cells #[.string ⟨#[112, 97, 116, 104]⟩, .string ⟨#[47, 120]⟩, .string ⟨#[115, 101, 99, 117, 114, 101]⟩, .string ⟨#[]⟩] 35)).alloc (.cells #[.string ⟨#[105, 100]⟩, .string ⟨#[97, 61, 98]⟩, .slice (some ⟨w1.heap.size + 1, 0, none⟩) 2 2] 24)) := (Below.refl _ _).alloc (by simp) _
  have T1 : S3 (w1.alloc (.cells #[.string (txt hW1.1), .string (txt hW1.2.1), .slice ad1 hW1.2.2.length cap1] 24)) w1.heap.size _ _ _ := S3.new w1 _ _ _ _
  have S1 : Hid (S3 (((w1.alloc (.cells #[.string (txt hW1.1), .string (txt hW1.2.1), .slice ad1 hW1.2.2.length cap1] 24)).alloc (.cells #[.string ⟨#[112, 97, 116, 104]⟩, .string ⟨#[47, 120]⟩, .string ⟨#[115, 101, 99, 117, 114, 101]⟩, .string ⟨#[]⟩] 35)).alloc (.cells #[.string ⟨#[105, 100]⟩, .string ⟨#[97, 61, 98]⟩, .slice (some ⟨w1.heap.size + 1, 0, none⟩) 2 2] 24)) w1.heap.size _ _ _) := (T1.below hx2 (by omega)).below hx3 (by omega)
  have S2' : Hid (S3 (((w1.alloc (.cells #[.string (txt hW1.1), .string (txt hW1.2.1), .slice ad1 hW1.2.2.length cap1] 24)).alloc (.cells #[.string ⟨#[112, 97, 116, 104]⟩, .string ⟨#[47, 120]⟩, .string ⟨#[115, 101, 99, 117, 114, 101]⟩, .string ⟨#[]⟩] 35)).alloc (.cells #[.string ⟨#[105, 100]⟩, .string ⟨#[97, 61, 98]⟩, .slice (some ⟨w1.heap.size + 1, 0, none⟩) 2 2] 24)) (w1.heap.size + 1 + 1) (.string ⟨#[105, 100]⟩) (.string ⟨#[97, 61, 98]⟩) (.slice (some ⟨w1.heap.size + 1, 0, none⟩) 2 2)) := by
    have := S3.new ((w1.alloc (.cells #[.string (txt hW1.1), .string (txt hW1.2.1), .slice ad1 hW1.2.2.length cap1] 24)).alloc (.cells #[.string ⟨#[112, 97, 116, 104]⟩, .string ⟨#[47, 120]⟩, .string ⟨#[115, 101, 99, 117, 114, 101]⟩, .string ⟨#[]⟩] 35)) (.string ⟨#[105, 100]⟩) (.string ⟨#[97, 61, 98]⟩) (.slice (some ⟨w1.heap.size + 1, 0, none⟩) 2 2) 24
    rw [show ((w1.alloc (.cells #[.string (txt hW1.1), .string (txt hW1.2.1), .slice ad1 hW1.2.2.length cap1] 24)).alloc (.cells #[.string ⟨#[112, 97, 116, 104]⟩, .string ⟨#[47, 120]⟩, .string ⟨#[115, 101, 99, 117, 114, 101]⟩, .string ⟨#[]⟩] 35)).heap.size = w1.heap.size + 1 + 1 from by simp] at this
    exact this
  have R1' : Hid (Rows (((w1.alloc (.cells #[.string (txt hW1.1), .string (txt hW1.2.1), .slice ad1 hW1.2.2.length cap1] 24)).alloc (.cells #[.string ⟨#[112, 97, 116, 104]⟩, .string ⟨#[47, 120]⟩, .string ⟨#[115, 101, 99, 117, 114, 101]⟩, .string ⟨#[]⟩] 35)).alloc (.cells #[.string ⟨#[105, 100]⟩, .string ⟨#[97, 61, 98]⟩, .slice (some ⟨w1.heap.size + 1, 0, none⟩) 2 2] 24)) (.slice ad1 hW1.2.2.length cap1) attrF hW1.2.2) := Rows.below (Rows.below (Rows.below HR1.out hx1 (Nat.le_refl _)) hx2 (by simp)) hx3 (by simp)
  have R2' : Hid (Rows (((w1.alloc (.cells #[.string (txt hW1.1), .string (txt hW1.2.1), .slice ad1 hW1.2.2.length cap1] 24)).alloc (.cells #[.string ⟨#[112, 97, 116, 104]⟩, .string ⟨#[47, 120]⟩, .string ⟨#[115, 101, 99, 117, 114, 101]⟩, .string ⟨#[]⟩] 35)).alloc (.cells #[.string ⟨#[105, 100]⟩, .string ⟨#[97, 61, 98]⟩, .slice (some ⟨w1.heap.size + 1, 0, none⟩) 2 2] 24)) (.slice (some ⟨w1.heap.size + 1, 0, none⟩) 2 2) attrF hW1.2.2) := Rows.below (Rows.lit _ hW1.2.2 _ _ _ _ _ (by simp) rfl rfl) hx3 (by simp)
  have hb2 : Below w.heap.size w (((w1.alloc (.cells #[.string (txt hW1.1), .string (txt hW1.2.1), .slice ad1 hW1.2.2.length cap1] 24)).alloc (.cells #[.string ⟨#[112, 97, 116, 104]⟩, .string ⟨#[47, 120]⟩, .string ⟨#[115, 101, 99, 117, 114, 101]⟩, .string ⟨#[]⟩] 35)).alloc (.cells #[.string ⟨#[105, 100]⟩, .string ⟨#[97, 61, 98]⟩, .slice (some ⟨w1.heap.size + 1, 0, none⟩) 2 2] 24)) := ((hb1.trans (hx1.mono hb1.size)).trans (hx2.mono (Nat.le_succ_of_le hb1.size))).trans (hx3.mono (Nat.le_succ_of_le (Nat.le_succ_of_le hb1.size)))
  clear T1 hx1 hx2 hx3 hb1
  go_wp2_with fail
  refine (hb_write _ _ R2'.out).mono ?_
  rintro e w2 ⟨rfl, hb3⟩
  have S3' : Hid _ := S1.out.below hb3 S1.out.lt
  have S4' : Hid _ := S2'.out.below hb3 S2'.out.lt
  have R3' : Hid (Rows w2 (.slice ad1 hW1.2.2.length cap1) attrF hW1.2.2) := Rows.below R1'.out hb3 (Nat.le_refl _)
  have R4' : Hid (Rows w2 (.slice (some ⟨w1.heap.size + 1, 0, none⟩) 2 2) attrF hW1.2.2) := Rows.below R2'.out hb3 (Nat.le_refl _)
  have hb4 : Below w.heap.size w w2 := next hb2 hb3
  clear S1 S2' R1' R2' hb2 hb3
  go_wp2_with fail
  refine (hb_read2 _).mono ?_
  rintro e w3 ⟨v3, rfl, r3, hb5⟩
  obtain ⟨ad3, cap3, rfl⟩ := r3.shape
  have hx4 : Below w3.heap.size w3 (w3.alloc (.cells #[.string (txt []), .string (txt []), .slice ad3 0 cap3] 24)) := (Below.refl _ _).alloc (Nat.le_refl _) _
  have S5 : Hid _ := (S3'.out.below hb5 S3'.out.lt).below hx4 (Nat.lt_of_lt_of_le S3'.out.lt hb5.size)
  have S6 : Hid _ := (S4'.out.below hb5 S4'.out.lt).below hx4 (Nat.lt_of_lt_of_le S4'.out.lt hb5.size)
  have R5 : Hid (Rows (w3.alloc (.cells #[.string (txt []), .string (txt []), .slice ad3 0 cap3] 24)) (.slice ad1 hW1.2.2.length cap1) attrF hW1.2.2) := Rows.below (Rows.below R3'.out hb5 (Nat.le_refl _)) hx4 (Nat.le_refl _)
  have R6 : Hid (Rows (w3.alloc (.cells #[.string (txt []), .string (txt []), .slice ad3 0 cap3] 24)) (.slice (some ⟨w1.heap.size + 1, 0, none⟩) 2 2) attrF hW1.2.2) := Rows.below (Rows.below R4'.out hb5 (Nat.le_refl _)) hx4 (Nat.le_refl _)
  have hb6 : Below w.heap.size w (w3.alloc (.cells #[.string (txt []), .string (txt []), .slice ad3 0 cap3] 24)) := next (next hb4 hb5) hx4
  clear S3' S4' R3' R4' hb4 hb5 hx4 r3
  obtain ⟨c0, c1, c2, f0, f1, f2⟩ := S5.out
  obtain ⟨d0, d1, d2, g0, g1, g2⟩ := S6.out
  go_wp2_with fail
  refine (hb_same _ _ _ R5.out R6.out).mono ?_
  rintro e w4 ⟨rfl, hb7⟩
  clear c0 c1 c2 f0 f1 f2 d0 d1 d2 g0 g1 g2
  go_wp2_with fail
  refine (hb_check _).mono ?_
  rintro e w5 ⟨rfl, hb8⟩
  go_wp2_with fail
  go_ret
  exact ⟨rfl, next (next hb6 hb7) hb8⟩
end Go.Proofs.Ytjoailjedfbnbae
