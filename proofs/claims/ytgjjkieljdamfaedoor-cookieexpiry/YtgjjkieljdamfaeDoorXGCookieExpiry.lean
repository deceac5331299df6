/- CookieExpiry: for all rules of public suffixes, all cookies as headers tell them, all who ask, all moments and all texts: max-age goes ahead of expires, in whichever order they stand, and who has neither has no end of its own. No condition. -/
import Derived.Test.YtgjjkieljdamfaeDoorXD
import Derived.Test.YtgjjkieljdamfaeDoorXE
import Derived.Test.YtgjjkieljdamfaeDoorOpen
import Derived.Test.YtgjjkieljdamfaeDoorCards
import Derived.Test.YtgjjkieljdamfaeDoorTie
import Derived.Deep.Cut
namespace Go.Proofs.YtgjjkieljdamfaeDoor.cookieExpiry
open Go.ChangeShapes Go.WideShapes Go.ChangeAt Go.RowKit
open Go.ChangeMaps (open_string shut_string)
set_option linter.all false
set_option maxRecDepth 100000

theorem row_other {W : World} {B X k : Nat} {l : List Value} {x : Value} (h : LRow W B l) (hne : B ≠ X) : LRow (W.setCell ⟨X, k, none⟩ x) B l :=
  ⟨fun j v hj => ⟨by rw [World.cell?_setCell_other _ _ _ _ (by intro e; injection e with e1 _; exact hne e1.symm)]; exact (h.all j v hj).1, by rw [World.frozen?_setCell]; exact (h.all j v hj).2⟩⟩
theorem rows_other {W : World} {b n cap X k : Nat} {α : Type} {f : α → List Value} {l : List α} {x : Value} (h : Rows W (.slice (some ⟨b, 0, none⟩) n cap) f l) (hne : b ≠ X) : Rows (W.setCell ⟨X, k, none⟩ x) (.slice (some ⟨b, 0, none⟩) n cap) f l := by
  obtain ⟨ad, cp, e, h⟩ := h
  refine ⟨ad, cp, e, ?_⟩
  rcases h with h | ⟨b', off, had, h⟩
  · exact .inl h
  · refine .inr ⟨b', off, had, fun j u hj => ?_⟩
    rw [World.cell?_setCell_other _ _ _ _ (by
      intro e'
      injection e' with e1 _
      injection e with e2 _
      rw [had] at e2
      injection e2 with e2
      injection e2 with e3 _
      exact hne (by omega))]
    exact h j u hj
set_option maxHeartbeats 4000000 in
theorem walk (v : Value) (l : Rules) (va : Value) (r : Raw) (f : Fr) (now : Int) (a b : ByteArray) (w : World) (hl : Rows w v ruleF l) (hlm : l.length ≤ 140737488351232) (hok : ∀ r ∈ l, (-9223372036854775808 ≤ r.1 ∧ r.1 ≤ 9223372036854775807) ∧ r.2.length ≤ 140737488351232)
    (hr : Rows w va attrF r.2.2) (hro : r.2.2.length ≤ 140737488351232 ∧ r.1.length ≤ 140737488351232 ∧ r.2.1.length ≤ 140737488351232 ∧ ∀ a ∈ r.2.2, a.1.length ≤ 140737488351232 ∧ a.2.length ≤ 140737488351232)
    (hfo : f.host.length ≤ 140737488351232 ∧ f.path.length ≤ 140737488351232) (hnow : -9223372036854775808 ≤ now ∧ now ≤ 9223372036854775807) (ha : a.size ≤ 140737488351232) (hb : b.size ≤ 140737488351232) (T : CTabs w) :
    Calls Tryd.prog 5 #[v, .agg #[.string (txt r.1), .string (txt r.2.1), va], .agg (frL f).toArray, .int .i64 now, .string a, .string b] w fun e w' => e = .returned (.bool true) ∧ Below w.heap.size w w' := by
  obtain ⟨a, rfl⟩ : ∃ l, a = txt l := ⟨a.data.toList, rfl⟩
  obtain ⟨b, rfl⟩ : ∃ l, b = txt l := ⟨b.data.toList, rfl⟩
  obtain ⟨q1, q2, q3, q4⟩ := hro
  have ha' : a.length ≤ 140737488351232 := ha
  have hb' : b.length ≤ 140737488351232 := hb
  have HT : Hid _ := T
  have HL : Hid (Rows w v sufF l) := hl
  have HLM : Hid (l.length ≤ maxLen) := by show _ ≤ _; unfold maxLen; omega
  have HOK : Hid (∀ r ∈ l, okR r) := fun r hr => ⟨(hok r hr).1, by have := (hok r hr).2; unfold maxLen; omega⟩
  have HN : Hid (r.1.length ≤ maxLen) := by show _ ≤ _; unfold maxLen; omega
  have HV : Hid (r.2.1.length ≤ maxLen) := by show _ ≤ _; unfold maxLen; omega
  have HH : Hid (f.host.length ≤ maxLen) := by show _ ≤ _; unfold maxLen; omega
  have HP : Hid (f.path.length ≤ maxLen) := by show _ ≤ _; unfold maxLen; omega
  have HNOW : Hid _ := hnow
  have HA : Hid (a.length ≤ maxLen) := by show _ ≤ _; unfold maxLen; omega
  have HB : Hid (b.length ≤ maxLen) := by show _ ≤ _; unfold maxLen; omega
  have HA1 : Hid (∀ x ∈ (rOne r a b).2.2, x.1.length ≤ maxLen ∧ x.2.length ≤ maxLen) := fun x hx => by
    have hx' : x = (maxA, a) ∨ x = (expA, b) := by simpa [rOne] using hx
    rcases hx' with rfl | rfl
    · exact ⟨by show maxA.length ≤ _; decide, HA.out⟩
    · exact ⟨by show expA.length ≤ _; decide, HB.out⟩
  have HA2 : Hid (∀ x ∈ (rTwo r a b).2.2, x.1.length ≤ maxLen ∧ x.2.length ≤ maxLen) := fun x hx => by
    have hx' : x = (expA, b) ∨ x = (maxA, a) := by simpa [rTwo] using hx
    rcases hx' with rfl | rfl
    · exact ⟨by show expA.length ≤ _; decide, HB.out⟩
    · exact ⟨by show maxA.length ≤ _; decide, HA.out⟩
  have HA3 : Hid (∀ x ∈ (rThr r a).2.2, x.1.length ≤ maxLen ∧ x.2.length ≤ maxLen) := fun x hx => by
    have hx' : x = (maxA, a) := by simpa [rThr] using hx
    subst hx'
    exact ⟨by show maxA.length ≤ _; decide, HA.out⟩
  obtain ⟨ad, cap, rfl⟩ := hr.shape
  obtain ⟨adl, capl, rfl⟩ := Rows.shape HL.out
  generalize r.2.2.length = nr at *
  clear T hl hlm hok hr q1 q2 q3 q4 hfo hnow ha hb ha' hb'
  simp only [frL]
  obtain ⟨W0, hW0⟩ : ∃ W0, W0 = ((w.alloc (.cells #[.string (txt r.1), .string (txt r.2.1), .slice ad nr cap] 25)).alloc (.cells #[.string (txt f.host), .string (txt f.path), .bool f.secure, .bool f.script, .bool f.abroad] 27)) := ⟨_, rfl⟩
  have F0 : Hid (LRow W0 (w.heap.size + 1) (frL f)) := by
    rw [hW0]
    have h := LRow.new (w.alloc (.cells #[.string (txt r.1), .string (txt r.2.1), .slice ad nr cap] 25)) (frL f) 27
    rw [show (w.alloc (.cells #[.string (txt r.1), .string (txt r.2.1), .slice ad nr cap] 25)).heap.size = w.heap.size + 1 from by simp] at h
    exact h
  have R0 : Hid (LRow W0 w.heap.size [.string (txt r.1), .string (txt r.2.1), .slice ad nr cap]) := by
    rw [hW0]
    exact (LRow.new w [.string (txt r.1), .string (txt r.2.1), .slice ad nr cap] _).below ((Below.refl _ _).alloc (Nat.le_refl _) _) (by simp)
  have B0 : Hid (Below w.heap.size w W0) := by
    rw [hW0]
    exact ((Below.refl _ _).alloc (Nat.le_refl _) _).alloc (by simp) _
  go_enter Tryd.func5, Tryd.ntmps5
  go_wp2_with fail
  rw [← hW0]
  clear hW0
  refine (cookieBegun_any _ (HT.out.below B0.out (Nat.le_refl _))).mono ?_
  rintro e w1 ⟨rfl, hb1⟩
  have F1 : Hid _ := F0.out.below hb1 (LRow.lt5 F0.out)
  have R1 : Hid _ := R0.out.below hb1 (LRow.lt5 R0.out)
  have B1 : Hid _ := next B0.out hb1
  clear hb1 F0 R0 B0
  have r0 := R1.out.cell 0 rfl
  have r1 := R1.out.cell 1 rfl
  have r2 := R1.out.cell 2 rfl
  go_wp2_with fail
  refine (attrs_any _ _ ⟨_, _, _, rfl⟩).mono ?_
  rintro e w2 ⟨rfl, rfl⟩
  obtain ⟨W2, hW2⟩ : ∃ W, (w1.alloc (.cells #[.string (txt r.1), .string (txt r.2.1), .slice (some ⟨w1.heap.size + 1, 0, none⟩) 2 2] 25)).alloc (.cells #[.string ⟨#[109, 97, 120, 45, 97, 103, 101]⟩, .string (txt a), .string ⟨#[101, 120, 112, 105, 114, 101, 115]⟩, .string (txt b)] 41) = W := ⟨_, rfl⟩
  have nW2 : Below w1.heap.size w1 W2 := by rw [← hW2]; exact ((Below.refl _ _).alloc (Nat.le_refl _) _).alloc (by simp) _
  have OW2 : Hid (LRow W2 w1.heap.size [.string (txt r.1), .string (txt r.2.1), .slice (some ⟨w1.heap.size + 1, 0, none⟩) 2 2]) := by
    rw [← hW2]
    exact (LRow.new w1 [.string (txt r.1), .string (txt r.2.1), .slice (some ⟨w1.heap.size + 1, 0, none⟩) 2 2] _).below ((Below.refl _ _).alloc (Nat.le_refl _) _) (by simp)
  have LW2 : Hid (Rows W2 (.slice (some ⟨w1.heap.size + 1, 0, none⟩) 2 2) attrF (rOne r a b).2.2) := by
    rw [← hW2]
    exact Rows.lit (w1.alloc (.cells #[.string (txt r.1), .string (txt r.2.1), .slice (some ⟨w1.heap.size + 1, 0, none⟩) 2 2] 25)) (rOne r a b).2.2 _ (w1.heap.size + 1) _ _ _ (by simp) rfl rfl
  have R2 : Hid _ := R1.out.below nW2 (LRow.lt5 R1.out)
  have F2 : Hid _ := F1.out.below nW2 (LRow.lt5 F1.out)
  have B2 : Hid _ := next B1.out nW2
  have HFX : Hid (w.heap.size + 1 < W2.heap.size) := LRow.lt5 F2.out
  clear nW2 r0 r1 r2 R1 F1 B1
  have r0 := R2.out.cell 0 rfl
  have r1 := R2.out.cell 1 rfl
  have r2 := R2.out.cell 2 rfl
  go_wp2_with fail
  clear hW2
  refine (attrs_any _ _ ⟨_, _, _, rfl⟩).mono ?_
  rintro e w2 ⟨rfl, rfl⟩
  obtain ⟨W3, hW3⟩ : ∃ W, (W2.alloc (.cells #[.string (txt r.1), .string (txt r.2.1), .slice (some ⟨W2.heap.size + 1, 0, none⟩) 2 2] 25)).alloc (.cells #[.string ⟨#[101, 120, 112, 105, 114, 101, 115]⟩, .string (txt b), .string ⟨#[109, 97, 120, 45, 97, 103, 101]⟩, .string (txt a)] 41) = W := ⟨_, rfl⟩
  have nW3 : Below W2.heap.size W2 W3 := by rw [← hW3]; exact ((Below.refl _ _).alloc (Nat.le_refl _) _).alloc (by simp) _
  have OW3 : Hid (LRow W3 W2.heap.size [.string (txt r.1), .string (txt r.2.1), .slice (some ⟨W2.heap.size + 1, 0, none⟩) 2 2]) := by
    rw [← hW3]
    exact (LRow.new W2 [.string (txt r.1), .string (txt r.2.1), .slice (some ⟨W2.heap.size + 1, 0, none⟩) 2 2] _).below ((Below.refl _ _).alloc (Nat.le_refl _) _) (by simp)
  have LW3 : Hid (Rows W3 (.slice (some ⟨W2.heap.size + 1, 0, none⟩) 2 2) attrF (rTwo r a b).2.2) := by
    rw [← hW3]
    exact Rows.lit (W2.alloc (.cells #[.string (txt r.1), .string (txt r.2.1), .slice (some ⟨W2.heap.size + 1, 0, none⟩) 2 2] 25)) (rTwo r a b).2.2 _ (W2.heap.size + 1) _ _ _ (by simp) rfl rfl
  have F3 : Hid _ := F2.out.below nW3 (LRow.lt5 F2.out)
  have P3 : Hid _ := OW2.out.below nW3 (LRow.lt5 OW2.out)
  have M3 : Hid _ := Rows.below LW2.out nW3 (Nat.le_refl _)
  have B3 : Hid _ := next B2.out nW3
  clear nW3 r0 r1 r2 R2 F2 B2 OW2 LW2
  have o0 := P3.out.cell 0 rfl
  have o1 := P3.out.cell 1 rfl
  have o2 := P3.out.cell 2 rfl
  have f0 := F3.out.cell 0 rfl
  have f1 := F3.out.cell 1 rfl
  have f2 := F3.out.cell 2 rfl
  have f3 := F3.out.cell 3 rfl
  have f4 := F3.out.cell 4 rfl
  go_wp2_with fail
  clear hW3
  refine (make_any _ l _ (rOne r a b) f now _ (HT.out.below B3.out (Nat.le_refl _)) (Rows.below HL.out B3.out (Nat.le_refl _)) HLM.out HOK.out M3.out (by show _ ≤ maxLen; exact (by decide : 2 ≤ maxLen)) HN.out HV.out HA1.out HH.out HP.out HNOW.out).mono ?_
  obtain ⟨ee, hee⟩ : ∃ x, makeE l (rOne r a b) f now = x := ⟨_, rfl⟩
  have HE1 : Hid _ := hee
  have HE2 : Hid (makeE l (rTwo r a b) f now = ee) := by show _ = _; rw [(make_two l r f now a b).1]; exact hee
  have HO2 : Hid _ := (make_two l r f now a b).2
  clear o0 o1 o2 f0 f1 f2 f3 f4 P3 M3
  by_cases k0 : ee = 0
  · obtain ⟨mk, hmk⟩ : ∃ x, madeM l (rOne r a b) f now = x := ⟨_, rfl⟩
    have hz : makeE l (rOne r a b) f now = 0 := by rw [hee]; exact k0
    have HO1 : Hid (outL l (rOne r a b) f now = ckL mk) := by show _ = _; unfold outL; rw [hz, if_pos rfl, hmk]
    have HM3 : Hid _ := make_thr hz
    rw [hmk] at HM3
    clear hee hz hmk
    subst k0
    rw [HO1.out, show (ckL mk).toArray = #[.string (txt mk.name), .string (txt mk.value), .string (txt mk.domain), .string (txt mk.path), .bool mk.hostOnly, .bool mk.secure, .bool mk.httpOnly, .bool mk.lasting, .int .i64 mk.site, .int .i64 mk.expiry, .int .i64 mk.created, .int .i64 mk.used, .int .i64 0] from rfl, HE1.out]
    rintro e w4 ⟨rfl, hb4⟩
    obtain ⟨W4, hW4⟩ : ∃ W, w4.alloc (.cells #[.string (txt mk.name), .string (txt mk.value), .string (txt mk.domain), .string (txt mk.path), .bool mk.hostOnly, .bool mk.secure, .bool mk.httpOnly, .bool mk.lasting, .int .i64 mk.site, .int .i64 mk.expiry, .int .i64 mk.created, .int .i64 mk.used, .int .i64 0] 29) = W := ⟨_, rfl⟩
    have HW4 : Hid _ := hW4
    clear hW4
    have n4 : Below W3.heap.size W3 W4 := by rw [← HW4.out]; exact hb4.alloc hb4.size _
    have X4 : Hid (LRow W4 w4.heap.size (ckL mk)) := by rw [← HW4.out]; exact LRow.new w4 (ckL mk) _
    have F4 : Hid _ := F3.out.below n4 (LRow.lt5 F3.out)
    have P4 : Hid _ := OW3.out.below n4 (LRow.lt5 OW3.out)
    have M4 : Hid _ := Rows.below LW3.out n4 (Nat.le_refl _)
    have B4 : Hid _ := next B3.out n4
    have HXX0 : Hid (W2.heap.size < w4.heap.size) := Nat.lt_of_lt_of_le (LRow.lt5 OW3.out) hb4.size
    clear hb4 n4 F3 OW3 LW3 B3
    go_upto_region 8 with fail
    rw [HW4.out]
    clear HW4
    have o0 := P4.out.cell 0 rfl
    have o1 := P4.out.cell 1 rfl
    have o2 := P4.out.cell 2 rfl
    have f0 := F4.out.cell 0 rfl
    have f1 := F4.out.cell 1 rfl
    have f2 := F4.out.cell 2 rfl
    have f3 := F4.out.cell 3 rfl
    have f4 := F4.out.cell 4 rfl
    go_wp2_with fail
    refine (make_any _ l _ (rTwo r a b) f now _ (HT.out.below B4.out (Nat.le_refl _)) (Rows.below HL.out B4.out (Nat.le_refl _)) HLM.out HOK.out M4.out (by show _ ≤ maxLen; exact (by decide : 2 ≤ maxLen)) HN.out HV.out HA2.out HH.out HP.out HNOW.out).mono ?_
    rw [HO2.out, HO1.out, show (ckL mk).toArray = #[.string (txt mk.name), .string (txt mk.value), .string (txt mk.domain), .string (txt mk.path), .bool mk.hostOnly, .bool mk.secure, .bool mk.httpOnly, .bool mk.lasting, .int .i64 mk.site, .int .i64 mk.expiry, .int .i64 mk.created, .int .i64 mk.used, .int .i64 0] from rfl, HE2.out]
    rintro e w5 ⟨rfl, hb5⟩
    obtain ⟨W5, hW5⟩ : ∃ W, w5.alloc (.cells #[.string (txt mk.name), .string (txt mk.value), .string (txt mk.domain), .string (txt mk.path), .bool mk.hostOnly, .bool mk.secure, .bool mk.httpOnly, .bool mk.lasting, .int .i64 mk.site, .int .i64 mk.expiry, .int .i64 mk.created, .int .i64 mk.used, .int .i64 0] 29) = W := ⟨_, rfl⟩
    have HW5 : Hid _ := hW5
    clear hW5
    have n5 : Below W4.heap.size W4 W5 := by rw [← HW5.out]; exact hb5.alloc hb5.size _
    have Y5 : Hid (LRow W5 w5.heap.size (ckL mk)) := by rw [← HW5.out]; exact LRow.new w5 (ckL mk) _
    have X5 : Hid _ := X4.out.below n5 (LRow.lt5 X4.out)
    have F5 : Hid _ := F4.out.below n5 (LRow.lt5 F4.out)
    have P5 : Hid _ := P4.out.below n5 (LRow.lt5 P4.out)
    have B5 : Hid _ := next B4.out n5
    have HXX : Hid (W2.heap.size < w4.heap.size) := HXX0
    have HWW : Hid (w4.heap.size < W5.heap.size) := LRow.lt5 X5.out
    clear hb5 n5 F4 P4 M4 B4 X4 o0 o1 o2 f0 f1 f2 f3 f4 HXX0
    go_upto_region 9 with fail
    rw [HW5.out]
    clear HW5
    have x0 := X5.out.cell 0 rfl
    have y0 := Y5.out.cell 0 rfl
    have x1 := X5.out.cell 1 rfl
    have y1 := Y5.out.cell 1 rfl
    have x2 := X5.out.cell 2 rfl
    have y2 := Y5.out.cell 2 rfl
    have x3 := X5.out.cell 3 rfl
    have y3 := Y5.out.cell 3 rfl
    have x4 := X5.out.cell 4 rfl
    have y4 := Y5.out.cell 4 rfl
    have x5 := X5.out.cell 5 rfl
    have y5 := Y5.out.cell 5 rfl
    have x6 := X5.out.cell 6 rfl
    have y6 := Y5.out.cell 6 rfl
    have x7 := X5.out.cell 7 rfl
    have y7 := Y5.out.cell 7 rfl
    have x8 := X5.out.cell 8 rfl
    have y8 := Y5.out.cell 8 rfl
    have x9 := X5.out.cell 9 rfl
    have y9 := Y5.out.cell 9 rfl
    have x10 := X5.out.cell 10 rfl
    have y10 := Y5.out.cell 10 rfl
    have x11 := X5.out.cell 11 rfl
    have y11 := Y5.out.cell 11 rfl
    have x12 := X5.out.cell 12 rfl
    have y12 := Y5.out.cell 12 rfl
    go_wp2_with fail
    clear x0 y0 x1 y1 x2 y2 x3 y3 x4 y4 x5 y5 x6 y6 x7 y7 x8 y8 x9 y9 x10 y10 x11 y11 x12 y12 Y5
    refine (attrs_any _ _ ⟨_, _, _, rfl⟩).mono ?_
    rintro e w6 ⟨rfl, hw6⟩
    obtain ⟨W6, hW6⟩ : ∃ W, W5.alloc (.cells #[.string ⟨#[109, 97, 120, 45, 97, 103, 101]⟩, .string (txt a)] 41) = W := ⟨_, rfl⟩
    rw [hw6, hW6]
    clear hw6 w6
    have n6 : Below W5.heap.size W5 W6 := by rw [← hW6]; exact (Below.refl _ _).alloc (Nat.le_refl _) _
    have M6 : Hid (Rows W6 (.slice (some ⟨W5.heap.size, 0, none⟩) 1 1) attrF (rThr r a).2.2) := by rw [← hW6]; exact Rows.lit W5 (rThr r a).2.2 _ W5.heap.size _ _ _ rfl rfl rfl
    have X6 : Hid _ := X5.out.below n6 (LRow.lt5 X5.out)
    have F6 : Hid _ := F5.out.below n6 (LRow.lt5 F5.out)
    have P6 : Hid _ := P5.out.below n6 (LRow.lt5 P5.out)
    have B6 : Hid _ := next B5.out n6
    clear hW6 n6 X5 F5 P5 B5
    have z2 := P6.out.cell 2 rfl
    have z3 := P6.out.frozen 2 rfl
    go_upto_region 14 with fail
    clear z2 z3
    obtain ⟨W7, hW7⟩ : ∃ W, W6.setCell ⟨W2.heap.size, 2, none⟩ (.slice (some ⟨W5.heap.size, 0, none⟩) 1 1) = W := ⟨_, rfl⟩
    rw [hW7]
    have P7 : Hid (LRow W7 W2.heap.size [.string (txt r.1), .string (txt r.2.1), .slice (some ⟨W5.heap.size, 0, none⟩) 1 1]) := by rw [← hW7]; exact P6.out.set 2 _
    have F7 : Hid (LRow W7 (w.heap.size + 1) (frL f)) := by rw [← hW7]; exact row_other F6.out (Nat.ne_of_lt HFX.out)
    have X7 : Hid (LRow W7 w4.heap.size (ckL mk)) := by rw [← hW7]; exact row_other X6.out (Nat.ne_of_gt HXX.out)
    have M7 : Hid (Rows W7 (.slice (some ⟨W5.heap.size, 0, none⟩) 1 1) attrF (rThr r a).2.2) := by rw [← hW7]; exact rows_other M6.out (Nat.ne_of_gt (Nat.lt_trans HXX.out HWW.out))
    have B7 : Hid (Below w.heap.size w W7) := by rw [← hW7]; exact B6.out.setCell (Nat.le_of_lt (Nat.lt_of_succ_lt HFX.out)) _
    clear hW7 P6 F6 X6 M6 B6
    have o0 := P7.out.cell 0 rfl
    have o1 := P7.out.cell 1 rfl
    have o2 := P7.out.cell 2 rfl
    have f0 := F7.out.cell 0 rfl
    have f1 := F7.out.cell 1 rfl
    have f2 := F7.out.cell 2 rfl
    have f3 := F7.out.cell 3 rfl
    have f4 := F7.out.cell 4 rfl
    go_wp2_with fail
    refine (make_any _ l _ (rThr r a) f now _ (HT.out.below B7.out (Nat.le_refl _)) (Rows.below HL.out B7.out (Nat.le_refl _)) HLM.out HOK.out M7.out (by show _ ≤ maxLen; exact (by decide : 1 ≤ maxLen)) HN.out HV.out HA3.out HH.out HP.out HNOW.out).mono ?_
    obtain ⟨e3, h3, h4, h5⟩ := HM3.out
    obtain ⟨m3, hm3⟩ : ∃ x, madeM l (rThr r a) f now = x := ⟨_, rfl⟩
    rw [hm3] at h3
    have HO3 : Hid (outL l (rThr r a) f now = ckL m3) := by show _ = _; unfold outL; rw [e3, if_pos rfl, hm3]
    have H3 : Hid _ := h3
    have H4 : Hid _ := h4
    have H5 : Hid _ := h5
    rw [HO3.out, show (ckL m3).toArray = #[.string (txt m3.name), .string (txt m3.value), .string (txt m3.domain), .string (txt m3.path), .bool m3.hostOnly, .bool m3.secure, .bool m3.httpOnly, .bool m3.lasting, .int .i64 m3.site, .int .i64 m3.expiry, .int .i64 m3.created, .int .i64 m3.used, .int .i64 0] from rfl, e3]
    clear e3 h3 h4 h5 hm3 HM3
    rintro e w8 ⟨rfl, hb8⟩
    obtain ⟨W8, hW8⟩ : ∃ W, w8.alloc (.cells #[.string (txt m3.name), .string (txt m3.value), .string (txt m3.domain), .string (txt m3.path), .bool m3.hostOnly, .bool m3.secure, .bool m3.httpOnly, .bool m3.lasting, .int .i64 m3.site, .int .i64 m3.expiry, .int .i64 m3.created, .int .i64 m3.used, .int .i64 0] 29) = W := ⟨_, rfl⟩
    have HW8 : Hid _ := hW8
    clear hW8
    have n8 : Below W7.heap.size W7 W8 := by rw [← HW8.out]; exact hb8.alloc hb8.size _
    have Z8 : Hid (LRow W8 w8.heap.size (ckL m3)) := by rw [← HW8.out]; exact LRow.new w8 (ckL m3) _
    have X8 : Hid _ := X7.out.below n8 (LRow.lt5 X7.out)
    have B8 : Hid _ := next B7.out n8
    clear hb8 n8 F7 P7 M7 B7 X7 o0 o1 o2 f0 f1 f2 f3 f4
    go_upto_region 15 with fail
    rw [HW8.out]
    clear HW8
    obtain ⟨ag, hag⟩ : ∃ x, ageB a = x := ⟨_, rfl⟩
    have HAG : Hid _ := hag
    clear hag
    go_wp2_with fail
    refine (age_any (txt a) _ HA.out).mono ?_
    rw [txt_toList, HAG.out]
    rintro e w9 ⟨rfl, hw9⟩
    rw [hw9]
    clear hw9 w9
    cases ag
    · have x7 := X8.out.cell 7 rfl
      have x9 := X8.out.cell 9 rfl
      obtain ⟨la, hla⟩ : ∃ x, mk.lasting = x := ⟨_, rfl⟩
      rw [hla] at x7
      cases la
      · have hx : (mk.expiry == 253402300799) = true := by rw [beq_iff_eq]; exact H4.out hla
        clear hla
        go_wp2_with fail
        go_ret
        exact ⟨rfl, B8.out⟩
      · clear hla
        go_wp2_with fail
        go_ret
        exact ⟨rfl, B8.out⟩
    · have hc := H3.out HAG.out
      have x7 : W8.cell? ⟨w4.heap.size, 7, none⟩ = some (.bool true) := by rw [← H5.out HAG.out]; exact X8.out.cell 7 rfl
      rw [hc] at Z8
      clear hc
      have x0 := X8.out.cell 0 rfl
      have x1 := X8.out.cell 1 rfl
      have x2 := X8.out.cell 2 rfl
      have x3 := X8.out.cell 3 rfl
      have x4 := X8.out.cell 4 rfl
      have x5 := X8.out.cell 5 rfl
      have x6 := X8.out.cell 6 rfl
      have x8 := X8.out.cell 8 rfl
      have x9 := X8.out.cell 9 rfl
      have x10 := X8.out.cell 10 rfl
      have x11 := X8.out.cell 11 rfl
      have x12 := X8.out.cell 12 rfl
      have z0 := Z8.out.cell 0 rfl
      have z1 := Z8.out.cell 1 rfl
      have z2 := Z8.out.cell 2 rfl
      have z3 := Z8.out.cell 3 rfl
      have z4 := Z8.out.cell 4 rfl
      have z5 := Z8.out.cell 5 rfl
      have z6 := Z8.out.cell 6 rfl
      have z8 := Z8.out.cell 8 rfl
      have z9 := Z8.out.cell 9 rfl
      have z10 := Z8.out.cell 10 rfl
      have z11 := Z8.out.cell 11 rfl
      have z12 := Z8.out.cell 12 rfl
      have z7 : W8.cell? ⟨w8.heap.size, 7, none⟩ = some (.bool true) := by rw [← H5.out HAG.out]; exact Z8.out.cell 7 rfl
      go_wp2_with fail
      go_ret
      exact ⟨rfl, B8.out⟩
  · have HO1 : Hid (outL l (rOne r a b) f now = ck0) := by show _ = _; unfold outL; rw [hee, if_neg k0]
    have hne : (ee != 0) = true := by rw [bne_iff_ne]; exact k0
    clear hee k0
    rw [HO1.out, show (ck0).toArray = #[.string ⟨#[]⟩, .string ⟨#[]⟩, .string ⟨#[]⟩, .string ⟨#[]⟩, .bool false, .bool false, .bool false, .bool false, .int .i64 0, .int .i64 0, .int .i64 0, .int .i64 0, .int .i64 0] from rfl, HE1.out]
    rintro e w4 ⟨rfl, hb4⟩
    obtain ⟨W4, hW4⟩ : ∃ W, w4.alloc (.cells #[.string ⟨#[]⟩, .string ⟨#[]⟩, .string ⟨#[]⟩, .string ⟨#[]⟩, .bool false, .bool false, .bool false, .bool false, .int .i64 0, .int .i64 0, .int .i64 0, .int .i64 0, .int .i64 0] 29) = W := ⟨_, rfl⟩
    have HW4 : Hid _ := hW4
    clear hW4
    have n4 : Below W3.heap.size W3 W4 := by rw [← HW4.out]; exact hb4.alloc hb4.size _
    have X4 : Hid (LRow W4 w4.heap.size (ck0)) := by rw [← HW4.out]; exact LRow.new w4 (ck0) _
    have F4 : Hid _ := F3.out.below n4 (LRow.lt5 F3.out)
    have P4 : Hid _ := OW3.out.below n4 (LRow.lt5 OW3.out)
    have M4 : Hid _ := Rows.below LW3.out n4 (Nat.le_refl _)
    have B4 : Hid _ := next B3.out n4
    have HXX0 : Hid (W2.heap.size < w4.heap.size) := Nat.lt_of_lt_of_le (LRow.lt5 OW3.out) hb4.size
    clear hb4 n4 F3 OW3 LW3 B3
    go_upto_region 8 with fail
    rw [HW4.out]
    clear HW4
    have o0 := P4.out.cell 0 rfl
    have o1 := P4.out.cell 1 rfl
    have o2 := P4.out.cell 2 rfl
    have f0 := F4.out.cell 0 rfl
    have f1 := F4.out.cell 1 rfl
    have f2 := F4.out.cell 2 rfl
    have f3 := F4.out.cell 3 rfl
    have f4 := F4.out.cell 4 rfl
    go_wp2_with fail
    refine (make_any _ l _ (rTwo r a b) f now _ (HT.out.below B4.out (Nat.le_refl _)) (Rows.below HL.out B4.out (Nat.le_refl _)) HLM.out HOK.out M4.out (by show _ ≤ maxLen; exact (by decide : 2 ≤ maxLen)) HN.out HV.out HA2.out HH.out HP.out HNOW.out).mono ?_
    rw [HO2.out, HO1.out, show (ck0).toArray = #[.string ⟨#[]⟩, .string ⟨#[]⟩, .string ⟨#[]⟩, .string ⟨#[]⟩, .bool false, .bool false, .bool false, .bool false, .int .i64 0, .int .i64 0, .int .i64 0, .int .i64 0, .int .i64 0] from rfl, HE2.out]
    rintro e w5 ⟨rfl, hb5⟩
    obtain ⟨W5, hW5⟩ : ∃ W, w5.alloc (.cells #[.string ⟨#[]⟩, .string ⟨#[]⟩, .string ⟨#[]⟩, .string ⟨#[]⟩, .bool false, .bool false, .bool false, .bool false, .int .i64 0, .int .i64 0, .int .i64 0, .int .i64 0, .int .i64 0] 29) = W := ⟨_, rfl⟩
    have HW5 : Hid _ := hW5
    clear hW5
    have n5 : Below W4.heap.size W4 W5 := by rw [← HW5.out]; exact hb5.alloc hb5.size _
    have Y5 : Hid (LRow W5 w5.heap.size (ck0)) := by rw [← HW5.out]; exact LRow.new w5 (ck0) _
    have X5 : Hid _ := X4.out.below n5 (LRow.lt5 X4.out)
    have F5 : Hid _ := F4.out.below n5 (LRow.lt5 F4.out)
    have P5 : Hid _ := P4.out.below n5 (LRow.lt5 P4.out)
    have B5 : Hid _ := next B4.out n5
    have HXX : Hid (W2.heap.size < w4.heap.size) := HXX0
    have HWW : Hid (w4.heap.size < W5.heap.size) := LRow.lt5 X5.out
    clear hb5 n5 F4 P4 M4 B4 X4 o0 o1 o2 f0 f1 f2 f3 f4 HXX0
    go_upto_region 9 with fail
    rw [HW5.out]
    clear HW5
    have x0 := X5.out.cell 0 rfl
    have y0 := Y5.out.cell 0 rfl
    have x1 := X5.out.cell 1 rfl
    have y1 := Y5.out.cell 1 rfl
    have x2 := X5.out.cell 2 rfl
    have y2 := Y5.out.cell 2 rfl
    have x3 := X5.out.cell 3 rfl
    have y3 := Y5.out.cell 3 rfl
    have x4 := X5.out.cell 4 rfl
    have y4 := Y5.out.cell 4 rfl
    have x5 := X5.out.cell 5 rfl
    have y5 := Y5.out.cell 5 rfl
    have x6 := X5.out.cell 6 rfl
    have y6 := Y5.out.cell 6 rfl
    have x7 := X5.out.cell 7 rfl
    have y7 := Y5.out.cell 7 rfl
    have x8 := X5.out.cell 8 rfl
    have y8 := Y5.out.cell 8 rfl
    have x9 := X5.out.cell 9 rfl
    have y9 := Y5.out.cell 9 rfl
    have x10 := X5.out.cell 10 rfl
    have y10 := Y5.out.cell 10 rfl
    have x11 := X5.out.cell 11 rfl
    have y11 := Y5.out.cell 11 rfl
    have x12 := X5.out.cell 12 rfl
    have y12 := Y5.out.cell 12 rfl
    go_wp2_with fail
    go_ret
    exact ⟨rfl, B5.out⟩

theorem laid_met (os : Os) : laidMet Tryd.prog Rows.cookieExpiryRow.laid (({ World.holding Tryd.prog os ⟨#[], #[], []⟩ with heap := ((((((World.holding Tryd.prog os ⟨#[], #[], []⟩).heap.modify 2 fun | .cells _ t frozen => .cells #[.int .i64 1601, .int .i64 9999, .int .i64 1, .int .i64 12, .int .i64 1, .int .i64 31, .int .i64 0, .int .i64 23, .int .i64 0, .int .i64 59, .int .i64 0, .int .i64 59] t frozen | o => o).modify 4 fun | .cells _ t frozen => .cells #[.int .i64 31, .int .i64 28, .int .i64 31, .int .i64 30, .int .i64 31, .int .i64 30, .int .i64 31, .int .i64 31, .int .i64 30, .int .i64 31, .int .i64 30, .int .i64 31] t frozen | o => o).modify 1 fun | .cells _ t frozen => .cells #[.int .i32 9, .int .i32 9, .int .i32 32, .int .i32 47, .int .i32 59, .int .i32 64, .int .i32 91, .int .i32 96, .int .i32 123, .int .i32 126] t frozen | o => o).modify 5 fun | .cells _ t frozen => .cells #[.string ⟨#[74, 97, 110]⟩, .string ⟨#[70, 101, 98]⟩, .string ⟨#[77, 97, 114]⟩, .string ⟨#[65, 112, 114]⟩, .string ⟨#[77, 97, 121]⟩, .string ⟨#[74, 117, 110]⟩, .string ⟨#[74, 117, 108]⟩, .string ⟨#[65, 117, 103]⟩, .string ⟨#[83, 101, 112]⟩, .string ⟨#[79, 99, 116]⟩, .string ⟨#[78, 111, 118]⟩, .string ⟨#[68, 101, 99]⟩] t frozen | o => o).modify 0 fun | .cells _ t frozen => .cells #[.string ⟨#[]⟩, .string ⟨#[110, 111, 110, 101]⟩, .string ⟨#[108, 97, 120]⟩, .string ⟨#[115, 116, 114, 105, 99, 116]⟩] t frozen | o => o) } : World).forCall (fun _ _ => 0) ⟨#[], #[.slice none 0 0, .agg #[.string ByteArray.empty, .string ByteArray.empty, .slice none 0 0], .agg #[.string ByteArray.empty, .string ByteArray.empty, .bool false, .bool false, .bool false], .int .i64 0, .string ByteArray.empty, .string ByteArray.empty], []⟩).memory :=
  laidMet_of_run' 8 (by kernel_rfl) (by kernel_rfl)
theorem reads (os : Os) {H : Type} (enc : TypeId × Value → H) : ∃ places, DataW.whole enc Tryd.prog (({ World.holding Tryd.prog os ⟨#[], #[], []⟩ with heap := ((((((World.holding Tryd.prog os ⟨#[], #[], []⟩).heap.modify 2 fun | .cells _ t frozen => .cells #[.int .i64 1601, .int .i64 9999, .int .i64 1, .int .i64 12, .int .i64 1, .int .i64 31, .int .i64 0, .int .i64 23, .int .i64 0, .int .i64 59, .int .i64 0, .int .i64 59] t frozen | o => o).modify 4 fun | .cells _ t frozen => .cells #[.int .i64 31, .int .i64 28, .int .i64 31, .int .i64 30, .int .i64 31, .int .i64 30, .int .i64 31, .int .i64 31, .int .i64 30, .int .i64 31, .int .i64 30, .int .i64 31] t frozen | o => o).modify 1 fun | .cells _ t frozen => .cells #[.int .i32 9, .int .i32 9, .int .i32 32, .int .i32 47, .int .i32 59, .int .i32 64, .int .i32 91, .int .i32 96, .int .i32 123, .int .i32 126] t frozen | o => o).modify 5 fun | .cells _ t frozen => .cells #[.string ⟨#[74, 97, 110]⟩, .string ⟨#[70, 101, 98]⟩, .string ⟨#[77, 97, 114]⟩, .string ⟨#[65, 112, 114]⟩, .string ⟨#[77, 97, 121]⟩, .string ⟨#[74, 117, 110]⟩, .string ⟨#[74, 117, 108]⟩, .string ⟨#[65, 117, 103]⟩, .string ⟨#[83, 101, 112]⟩, .string ⟨#[79, 99, 116]⟩, .string ⟨#[78, 111, 118]⟩, .string ⟨#[68, 101, 99]⟩] t frozen | o => o).modify 0 fun | .cells _ t frozen => .cells #[.string ⟨#[]⟩, .string ⟨#[110, 111, 110, 101]⟩, .string ⟨#[108, 97, 120]⟩, .string ⟨#[115, 116, 114, 105, 99, 116]⟩] t frozen | o => o) } : World).forCall (fun _ _ => 0) ⟨#[], #[.slice none 0 0, .agg #[.string ByteArray.empty, .string ByteArray.empty, .slice none 0 0], .agg #[.string ByteArray.empty, .string ByteArray.empty, .bool false, .bool false, .bool false], .int .i64 0, .string ByteArray.empty, .string ByteArray.empty], []⟩).memory Tryd.f5.params.toList Rows.cookieExpirySpec.vars false (#[.slice none 0 0, .agg #[.string ByteArray.empty, .string ByteArray.empty, .slice none 0 0], .agg #[.string ByteArray.empty, .string ByteArray.empty, .bool false, .bool false, .bool false], .int .i64 0, .string ByteArray.empty, .string ByteArray.empty] : Array Value).toList 8 = some ([.nil, .agg [.lit (.string []), .lit (.string []), .nil], .agg [.lit (.string []), .lit (.string []), .lit (.bool false), .lit (.bool false), .lit (.bool false)], .lit (.int .i64 0), .lit (.string []), .lit (.string [])], [], places) :=
  ⟨[], by kernel_rfl⟩
set_option maxRecDepth 100000 in
theorem contract (H : Type) (enc : TypeId × Value → H) (W : World) (base : Nat) (args : Array Value) (ds gs : List (DataW H)) (before : List MemPlace)
    (hval0 : ∀ (j : Nat) t v, Tryd.f5.params[j]? = some t → args[j]? = some v → Value.okWide Tryd.prog W .any base t v)
    (hW : DataW.Whole enc Tryd.prog Tryd.f5.params.toList Rows.cookieExpirySpec.vars false W args.toList ds gs before) (hL : laidMetH Tryd.prog Rows.cookieExpiryRow.laid W) (hsz : (DataW.weightsEach Tryd.prog (Tryd.f5.params.toList ++ Rows.cookieExpirySpec.plain.varTypes Tryd.prog) (ds ++ gs)).all (· ≤ reachBytes) = true) :
    Calls Tryd.prog 5 args W fun e W' => ∃ v, e = .returned v ∧ Rows.cookieExpirySpec.post enc Tryd.prog Tryd.f5 false true false false W args v W' := by
  have hval : ∀ (j : Nat) t v, Tryd.f5.params[j]? = some t → args[j]? = some v → Value.okWide Tryd.prog W .any base t v := hval0
  have hW' := hW
  obtain ⟨p, q, hA0, hV, rfl, hfz, hnd⟩ := hW
  have hA : DataW.TrodAll enc Tryd.prog W 0 (fun _ => true) true Tryd.f5.params.toList args.toList ds p := hA0
  rw [Tryd.params5] at hA hval hsz
  obtain ⟨v0, vs0, d0, ds0, p0, q0, hargs, rfl, rfl, h0, r0⟩ := trodAll_cons hA
  obtain ⟨v1, vs1, d1, ds1, p1, q1, rfl, rfl, rfl, h1, r1⟩ := trodAll_cons r0
  obtain ⟨v2, vs2, d2, ds2, p2, q2, rfl, rfl, rfl, h2, r2⟩ := trodAll_cons r1
  obtain ⟨v3, vs3, d3, ds3, p3, q3, rfl, rfl, rfl, h3, r3⟩ := trodAll_cons r2
  obtain ⟨v4, vs4, d4, ds4, p4, q4, rfl, rfl, rfl, h4, r4⟩ := trodAll_cons r3
  obtain ⟨v5, vs5, d5, ds5, p5, q5, rfl, rfl, rfl, h5, r5⟩ := trodAll_cons r4
  obtain ⟨rfl, rfl, rfl⟩ := trodAll_nil r5
  obtain rfl : args = #[v0, v1, v2, v3, v4, v5] := by cases args; simp_all
  obtain ⟨rfl, rfl⟩ := trodVars_none hV
  have k0 := h0
  have lt0 : ∀ x ∈ p0, x.block < W.heap.size := by obtain ⟨m, hm⟩ := k0; exact DataW.trod_lt m _ _ _ hm
  have k1 := h1
  have lt1 : ∀ x ∈ p1, x.block < W.heap.size := by obtain ⟨m, hm⟩ := k1; exact DataW.trod_lt m _ _ _ hm
  have k2 := h2
  have lt2 : ∀ x ∈ p2, x.block < W.heap.size := by obtain ⟨m, hm⟩ := k2; exact DataW.trod_lt m _ _ _ hm
  have k3 := h3
  have lt3 : ∀ x ∈ p3, x.block < W.heap.size := by obtain ⟨m, hm⟩ := k3; exact DataW.trod_lt m _ _ _ hm
  have k4 := h4
  have lt4 : ∀ x ∈ p4, x.block < W.heap.size := by obtain ⟨m, hm⟩ := k4; exact DataW.trod_lt m _ _ _ hm
  have k5 := h5
  have lt5 : ∀ x ∈ p5, x.block < W.heap.size := by obtain ⟨m, hm⟩ := k5; exact DataW.trod_lt m _ _ _ hm
  obtain ⟨l0, rd0, m0, ok0, bk0⟩ := open_rules (hval 0 22 v0 rfl rfl) k0 140737488351232 (fits_each hsz (j := 0) (t := 22) rfl rfl)
  obtain ⟨va1, l1, rfl, rd1, ok1, bk1⟩ := open_raw (hval 1 25 v1 rfl rfl) k1 140737488351232 (fits_each hsz (j := 1) (t := 25) rfl rfl)
  obtain ⟨l2, rfl, ok2, bk2⟩ := open_from (hval 2 27 v2 rfl rfl) k2 140737488351232 (fits_each hsz (j := 2) (t := 27) rfl rfl)
  obtain ⟨x3, rfl, rfl, hp3, w3⟩ := open_int Tryd.underlying3 (hval 3 3 v3 rfl rfl) h3
  have b3 := i64_of w3
  obtain ⟨a4, rfl, rfl, hp4, w4⟩ := open_string Tryd.underlying9 (hval 4 9 v4 rfl rfl) h4
  have z4 : a4.size ≤ 140737488351232 := sized_string hsz (j := 4) (t := 9) rfl rfl
  obtain ⟨a5, rfl, rfl, hp5, w5⟩ := open_string Tryd.underlying9 (hval 5 9 v5 rfl rfl) h5
  have z5 : a5.size ≤ 140737488351232 := sized_string hsz (j := 5) (t := 9) rfl rfl
  clear hA0 hval0
  refine (walk v0 l0 va1 l1 l2 x3 a4 a5 W rd0 m0 ok0 rd1 ok1 ok2 b3 z4 z5 (ctabs_of hL)).mono fun e W' ⟨he, bel⟩ => ?_
  subst he
  exact ⟨_, rfl, _, _, _, [], _, [], hW', trodAll_mk1 (shut_bool Tryd.underlying4 _), (trodAll_cons_mk (Below.trod laidOut (by kernel_rfl) (of_decide_eq_true (by kernel_rfl)) k0 bel lt0) (trodAll_cons_mk (Below.trod laidOut (by kernel_rfl) (of_decide_eq_true (by kernel_rfl)) k1 bel lt1) (trodAll_cons_mk (Below.trod laidOut (by kernel_rfl) (of_decide_eq_true (by kernel_rfl)) k2 bel lt2) (trodAll_cons_mk (Below.trod laidOut (by kernel_rfl) (of_decide_eq_true (by kernel_rfl)) k3 bel lt3) (trodAll_cons_mk (Below.trod laidOut (by kernel_rfl) (of_decide_eq_true (by kernel_rfl)) k4 bel lt4) (trodAll_cons_mk (Below.trod laidOut (by kernel_rfl) (of_decide_eq_true (by kernel_rfl)) k5 bel lt5) trodAll_mk0)))))), rfl, bel.frame _, fun h => by cases h⟩
set_option maxRecDepth 100000 in
theorem lifted (os : Os) (started : os.Started) (H : Type) (enc : TypeId × Value → H) (F : Stop.Interp) :
    ReturnsInHanded {} Tryd.checked os 5 .any ((OpenSpec.ofChange Rows.cookieExpirySpec).preRow enc Tryd.prog Tryd.f5 Rows.cookieExpiryRow.domain false Rows.cookieExpiryRow.laid) (((OpenSpec.ofChange Rows.cookieExpirySpec).at F).post enc Tryd.prog Tryd.f5 false true false false) := by
  obtain ⟨places, hx⟩ := reads os enc
  refine returnsInHanded_of_row (C := Tryd.checked) (s := (OpenSpec.ofChange Rows.cookieExpirySpec)) own started (by kernel_rfl) Tryd.func5
    (witness_row_at (enc := enc) (C := Tryd.checked) false ({ World.holding Tryd.prog os ⟨#[], #[], []⟩ with heap := ((((((World.holding Tryd.prog os ⟨#[], #[], []⟩).heap.modify 2 fun | .cells _ t frozen => .cells #[.int .i64 1601, .int .i64 9999, .int .i64 1, .int .i64 12, .int .i64 1, .int .i64 31, .int .i64 0, .int .i64 23, .int .i64 0, .int .i64 59, .int .i64 0, .int .i64 59] t frozen | o => o).modify 4 fun | .cells _ t frozen => .cells #[.int .i64 31, .int .i64 28, .int .i64 31, .int .i64 30, .int .i64 31, .int .i64 30, .int .i64 31, .int .i64 31, .int .i64 30, .int .i64 31, .int .i64 30, .int .i64 31] t frozen | o => o).modify 1 fun | .cells _ t frozen => .cells #[.int .i32 9, .int .i32 9, .int .i32 32, .int .i32 47, .int .i32 59, .int .i32 64, .int .i32 91, .int .i32 96, .int .i32 123, .int .i32 126] t frozen | o => o).modify 5 fun | .cells _ t frozen => .cells #[.string ⟨#[74, 97, 110]⟩, .string ⟨#[70, 101, 98]⟩, .string ⟨#[77, 97, 114]⟩, .string ⟨#[65, 112, 114]⟩, .string ⟨#[77, 97, 121]⟩, .string ⟨#[74, 117, 110]⟩, .string ⟨#[74, 117, 108]⟩, .string ⟨#[65, 117, 103]⟩, .string ⟨#[83, 101, 112]⟩, .string ⟨#[79, 99, 116]⟩, .string ⟨#[78, 111, 118]⟩, .string ⟨#[68, 101, 99]⟩] t frozen | o => o).modify 0 fun | .cells _ t frozen => .cells #[.string ⟨#[]⟩, .string ⟨#[110, 111, 110, 101]⟩, .string ⟨#[108, 97, 120]⟩, .string ⟨#[115, 116, 114, 105, 99, 116]⟩] t frozen | o => o) } : World) #[.slice none 0 0, .agg #[.string ByteArray.empty, .string ByteArray.empty, .slice none 0 0], .agg #[.string ByteArray.empty, .string ByteArray.empty, .bool false, .bool false, .bool false], .int .i64 0, .string ByteArray.empty, .string ByteArray.empty] rfl (by kernel_rfl) (by kernel_rfl) (by kernel_rfl)
      (OpenSpec.preRow_of_cond 8 hx (by kernel_rfl) (fun k hk => by cases hk) (by kernel_rfl) (laid_met os))) ?_
  intro W base args ds gs before hval hW _ _ hsz hL _ _
  exact contract H enc W base args ds gs before hval hW hL hsz
theorem said : Rows.CookieExpirySaid :=
  OpenClaim.holds_of_cond 5 Tryd.f5 rfl rfl rfl rfl rfl rfl rfl ⟨rfl, rfl, rfl, rfl, rfl⟩ rfl rfl rfl rfl rfl (by kernel_rfl) Tryd.func5 (by kernel_rfl)
    (of_decide_eq_true (by kernel_rfl)) (by unfold Func.isWrapper; first | (rw [if_pos (by decide +kernel)]; kernel_rfl) | (rw [if_neg (by decide +kernel)]; exact ⟨rfl, rfl⟩))
    (fun os started H enc _ F => by rw [OpenClaim.pre_eq_preRow]; exact lifted os started H enc F)
theorem plain (f : FuncId) (fn : Func) (hf : Tryd.pinned.checked.prog.funcNamed "gingersnap/gingersnaplaw.CookieExpiry" = some f) (hfn : Tryd.pinned.checked.prog.funcs[f]? = some fn) :
    false = Tryd.pinned.checked.prog.looks [] ∧ ∀ (j : Nat) t, fn.params[j]? = some t → Tryd.pinned.checked.prog.wantsStandIn t = false := by
  obtain rfl : f = 5 := Option.some.inj ((show Tryd.prog.funcNamed "gingersnap/gingersnaplaw.CookieExpiry" = some 5 by kernel_rfl).symm.trans hf) |>.symm
  obtain rfl : fn = Tryd.f5 := (Option.some.inj (Tryd.func5.symm.trans hfn)).symm
  refine ⟨by kernel_rfl, fun j t ht => ?_⟩
  rw [Tryd.params5] at ht
  have ht2 := Array.mem_of_getElem? ht
  have ht3 : t = 3 ∨ t = 9 ∨ t = 22 ∨ t = 25 ∨ t = 27 := by simp at ht2; first | exact ht2 | exact ht2.symm | (rcases ht2 with h | h <;> simp [h]) | (rcases ht2 with h | h | h <;> simp [h]) | (rcases ht2 with h | h | h | h <;> simp [h]) | (rcases ht2 with h | h | h | h | h <;> simp [h])
  rcases ht3 with rfl | rfl | rfl | rfl | rfl
  · exact (show Tryd.prog.wantsStandIn 3 = false by kernel_rfl)
  · exact (show Tryd.prog.wantsStandIn 9 = false by kernel_rfl)
  · exact (show Tryd.prog.wantsStandIn 22 = false by kernel_rfl)
  · exact (show Tryd.prog.wantsStandIn 25 = false by kernel_rfl)
  · exact (show Tryd.prog.wantsStandIn 27 = false by kernel_rfl)
theorem card : Rows.CookieExpiryCardSaid :=
  Claim7.holds_tied_plain_at .later [] _ _ _ _ said (fun _ h => by cases h) (by kernel_rfl) (fun _ h => by cases h) cookieExpiry_row_tie rfl ⟨rfl, rfl⟩ (by kernel_rfl) rfl plain (by kernel_rfl)
#print axioms card
end Go.Proofs.YtgjjkieljdamfaeDoor.cookieExpiry
