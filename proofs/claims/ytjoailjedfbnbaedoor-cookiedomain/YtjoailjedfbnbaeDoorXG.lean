/- CookieDomain: for all rules of public suffixes, all cookies as headers tell them, all who ask and all moments: nobody sets a cookie for a host that is not above it, nor for a public suffix that is not itself. No condition. -/
import Derived.Test.YtjoailjedfbnbaeDoorXD
import Derived.Test.YtjoailjedfbnbaeDoorXE
import Derived.Test.YtjoailjedfbnbaeDoorXF
import Derived.Test.YtjoailjedfbnbaeDoorOpen
import Derived.Test.YtjoailjedfbnbaeDoorCards
import Derived.Test.YtjoailjedfbnbaeDoorTie
namespace Go.Proofs.YtjoailjedfbnbaeDoor.cookieDomain
open Go.ChangeShapes Go.WideShapes Go.ChangeAt Go.RowKit
open Go.ChangeMaps (open_string shut_string)
set_option linter.all false
set_option maxRecDepth 100000

set_option maxHeartbeats 4000000 in
theorem walk (v : Value) (l : Rules) (va : Value) (r : Raw) (f : Fr) (now : Int) (w : World) (hl : Rows w v ruleF l) (hlm : l.length ≤ 140737488351232) (hok : ∀ r ∈ l, (-9223372036854775808 ≤ r.1 ∧ r.1 ≤ 9223372036854775807) ∧ r.2.length ≤ 140737488351232)
    (hr : Rows w va attrF r.2.2) (hro : r.2.2.length ≤ 140737488351232 ∧ r.1.length ≤ 140737488351232 ∧ r.2.1.length ≤ 140737488351232 ∧ ∀ a ∈ r.2.2, a.1.length ≤ 140737488351232 ∧ a.2.length ≤ 140737488351232)
    (hfo : f.host.length ≤ 140737488351232 ∧ f.path.length ≤ 140737488351232) (hnow : -9223372036854775808 ≤ now ∧ now ≤ 9223372036854775807) (T : CTabs w) :
    Calls Tryd.prog 3 #[v, .agg #[.string (txt r.1), .string (txt r.2.1), va], .agg (frL f).toArray, .int .i64 now] w fun e w' => e = .returned (.bool true) ∧ Below w.heap.size w w' := by
  obtain ⟨q1, q2, q3, q4⟩ := hro
  have HT : Hid _ := T
  have HL : Hid (Rows w v sufF l) := hl
  have HLM : Hid (l.length ≤ maxLen) := by show _ ≤ _; unfold maxLen; omega
  have HOK : Hid (∀ r ∈ l, okR r) := fun r hr => ⟨(hok r hr).1, by have := (hok r hr).2; unfold maxLen; omega⟩
  have HR : Hid (Rows w va attrF r.2.2) := hr
  have HM : Hid (r.2.2.length ≤ maxLen) := by show _ ≤ _; unfold maxLen; omega
  have HN : Hid (r.1.length ≤ maxLen) := by show _ ≤ _; unfold maxLen; omega
  have HV : Hid (r.2.1.length ≤ maxLen) := by show _ ≤ _; unfold maxLen; omega
  have HA : Hid (∀ a ∈ r.2.2, a.1.length ≤ maxLen ∧ a.2.length ≤ maxLen) := fun a ha => by have := q4 a ha; unfold maxLen; omega
  have HH : Hid (f.host.length ≤ maxLen) := by show _ ≤ _; unfold maxLen; omega
  have HP : Hid (f.path.length ≤ maxLen) := by show _ ≤ _; unfold maxLen; omega
  have HNOW : Hid _ := hnow
  have HAA : Hid (∀ a ∈ r.2.2, a.2.length ≤ maxLen) := fun a ha => (HA.out a ha).2
  obtain ⟨ad, cap, rfl⟩ := hr.shape
  obtain ⟨adl, capl, rfl⟩ := Rows.shape HL.out
  clear T hl hlm hok hr q1 q2 q3 q4 hfo hnow
  simp only [frL]
  obtain ⟨W0, hW0⟩ : ∃ W0, W0 = ((w.alloc (.cells #[.string (txt r.1), .string (txt r.2.1), .slice ad r.2.2.length cap] 25)).alloc (.cells #[.string (txt f.host), .string (txt f.path), .bool f.secure, .bool f.script, .bool f.abroad] 27)) := ⟨_, rfl⟩
  have F0 : Hid (LRow W0 (w.heap.size + 1) (frL f)) := by
    rw [hW0]
    have h := LRow.new (w.alloc (.cells #[.string (txt r.1), .string (txt r.2.1), .slice ad r.2.2.length cap] 25)) (frL f) 27
    rw [show (w.alloc (.cells #[.string (txt r.1), .string (txt r.2.1), .slice ad r.2.2.length cap] 25)).heap.size = w.heap.size + 1 from by simp] at h
    exact h
  have B0 : Hid (Below w.heap.size w W0) := by
    rw [hW0]
    exact ((Below.refl _ _).alloc (Nat.le_refl _) _).alloc (by simp) _
  obtain ⟨ee, hee⟩ : ∃ x, x = makeE l r f now := ⟨_, rfl⟩
  obtain ⟨mk, hmk⟩ : ∃ x, x = madeM l r f now := ⟨_, rfl⟩
  have HEE : Hid _ := hee
  have HMK : Hid _ := hmk
  by_cases k0 : ee = 0
  · have hz : makeE l r f now = 0 := by rw [← hee]; exact k0
    have HOO : Hid (outL l r f now = ckL mk) := by show _ = _; unfold outL; rw [hz, if_pos rfl, ← hmk]
    have HMD : Hid _ := made_dom HAA.out hz
    rw [← hmk] at HMD
    have HFH : Hid (((txt f.host).size + 1) * 16 ≤ 140737488355328) := by
      have := (ready_zero (make_zero hz).2.2.1).2
      show (f.host.length + 1) * 16 ≤ _; omega
    clear hz hee hmk
    subst k0
    rcases HMD.out with ⟨m1, m2⟩ | ⟨m1, m2, m3, m4, m5⟩
    · have H1 : Hid _ := m1
      have y1 : ((txt mk.domain).toList == (txt f.host).toList) = true := same_t _ _ m2
      clear m1 m2
      go_enter Tryd.func3, Tryd.ntmps3
      go_wp2_with fail
      rw [← hW0]
      clear hW0
      refine (make_any _ l _ r f now _ (HT.out.below B0.out (Nat.le_refl _)) (Rows.below HL.out B0.out (Nat.le_refl _)) HLM.out HOK.out (Rows.below HR.out B0.out (Nat.le_refl _)) HM.out HN.out HV.out HA.out HH.out HP.out HNOW.out).mono ?_
      rw [HOO.out, show (ckL mk).toArray = #[.string (txt mk.name), .string (txt mk.value), .string (txt mk.domain), .string (txt mk.path), .bool mk.hostOnly, .bool mk.secure, .bool mk.httpOnly, .bool mk.lasting, .int .i64 mk.site, .int .i64 mk.expiry, .int .i64 mk.created, .int .i64 mk.used, .int .i64 0] from rfl, ← HEE.out]
      rintro e w1 ⟨rfl, hb1⟩
      have F1 : Hid _ := F0.out.below hb1 (LRow.lt5 F0.out)
      have hx1 : Below w1.heap.size w1 (w1.alloc (.cells #[.string (txt mk.name), .string (txt mk.value), .string (txt mk.domain), .string (txt mk.path), .bool mk.hostOnly, .bool mk.secure, .bool mk.httpOnly, .bool mk.lasting, .int .i64 mk.site, .int .i64 mk.expiry, .int .i64 mk.created, .int .i64 mk.used, .int .i64 0] 29)) := (Below.refl _ _).alloc (Nat.le_refl _) _
      have C1 : Hid (LRow (w1.alloc (.cells #[.string (txt mk.name), .string (txt mk.value), .string (txt mk.domain), .string (txt mk.path), .bool mk.hostOnly, .bool mk.secure, .bool mk.httpOnly, .bool mk.lasting, .int .i64 mk.site, .int .i64 mk.expiry, .int .i64 mk.created, .int .i64 mk.used, .int .i64 0] 29)) w1.heap.size (ckL mk)) := LRow.new w1 (ckL mk) _
      have F2 : Hid _ := F1.out.below hx1 (LRow.lt5 F1.out)
      have B2 : Hid _ := next (next B0.out hb1) hx1
      clear hb1 hx1 F0 F1 B0
      go_wp2_with fail
      refine (cookieBegun_any _ (HT.out.below B2.out (Nat.le_refl _))).mono ?_
      rintro e w2 ⟨rfl, hb2⟩
      have C3 : Hid _ := C1.out.below hb2 (LRow.lt5 C1.out)
      have F3 : Hid _ := F2.out.below hb2 (LRow.lt5 F2.out)
      have B3 : Hid _ := next B2.out hb2
      clear hb2 C1 F2 B2
      have c4 : w2.cell? ⟨w1.heap.size, 4, none⟩ = some (.bool true) := by rw [← H1.out]; exact C3.out.cell 4 rfl
      have c2 := C3.out.cell 2 rfl
      have f0 := F3.out.cell 0 rfl
      go_wp2_with fail
      go_ret
      exact ⟨rfl, B3.out⟩
    · have H1 : Hid _ := m1
      have H2 : Hid _ := m2
      have H3 : Hid _ := m3
      obtain ⟨pb, hpb⟩ : ∃ x, x = pubA l mk.domain := ⟨_, rfl⟩
      have HPB : Hid _ := hpb
      have y1 : ((txt pb).toList == (txt mk.domain).toList) = false := same_f _ _ (by rw [hpb]; exact m4)
      have y2 : ((txt pb).toList != (txt mk.domain).toList) = true := by simp only [bne, y1]; rfl
      have H5 : Hid ((txt mk.domain).size ≤ maxLen) := by show mk.domain.length ≤ maxLen; unfold maxLen; omega
      clear m1 m2 m3 m4 m5 hpb
      go_enter Tryd.func3, Tryd.ntmps3
      go_wp2_with fail
      rw [← hW0]
      clear hW0
      refine (make_any _ l _ r f now _ (HT.out.below B0.out (Nat.le_refl _)) (Rows.below HL.out B0.out (Nat.le_refl _)) HLM.out HOK.out (Rows.below HR.out B0.out (Nat.le_refl _)) HM.out HN.out HV.out HA.out HH.out HP.out HNOW.out).mono ?_
      rw [HOO.out, show (ckL mk).toArray = #[.string (txt mk.name), .string (txt mk.value), .string (txt mk.domain), .string (txt mk.path), .bool mk.hostOnly, .bool mk.secure, .bool mk.httpOnly, .bool mk.lasting, .int .i64 mk.site, .int .i64 mk.expiry, .int .i64 mk.created, .int .i64 mk.used, .int .i64 0] from rfl, ← HEE.out]
      rintro e w1 ⟨rfl, hb1⟩
      have F1 : Hid _ := F0.out.below hb1 (LRow.lt5 F0.out)
      have hx1 : Below w1.heap.size w1 (w1.alloc (.cells #[.string (txt mk.name), .string (txt mk.value), .string (txt mk.domain), .string (txt mk.path), .bool mk.hostOnly, .bool mk.secure, .bool mk.httpOnly, .bool mk.lasting, .int .i64 mk.site, .int .i64 mk.expiry, .int .i64 mk.created, .int .i64 mk.used, .int .i64 0] 29)) := (Below.refl _ _).alloc (Nat.le_refl _) _
      have C1 : Hid (LRow (w1.alloc (.cells #[.string (txt mk.name), .string (txt mk.value), .string (txt mk.domain), .string (txt mk.path), .bool mk.hostOnly, .bool mk.secure, .bool mk.httpOnly, .bool mk.lasting, .int .i64 mk.site, .int .i64 mk.expiry, .int .i64 mk.created, .int .i64 mk.used, .int .i64 0] 29)) w1.heap.size (ckL mk)) := LRow.new w1 (ckL mk) _
      have F2 : Hid _ := F1.out.below hx1 (LRow.lt5 F1.out)
      have B2 : Hid _ := next (next B0.out hb1) hx1
      clear hb1 hx1 F0 F1 B0
      go_wp2_with fail
      refine (cookieBegun_any _ (HT.out.below B2.out (Nat.le_refl _))).mono ?_
      rintro e w2 ⟨rfl, hb2⟩
      have C3 : Hid _ := C1.out.below hb2 (LRow.lt5 C1.out)
      have F3 : Hid _ := F2.out.below hb2 (LRow.lt5 F2.out)
      have B3 : Hid _ := next B2.out hb2
      clear hb2 C1 F2 B2
      have c4 : w2.cell? ⟨w1.heap.size, 4, none⟩ = some (.bool false) := by rw [← H1.out]; exact C3.out.cell 4 rfl
      have c2 := C3.out.cell 2 rfl
      have f0 := F3.out.cell 0 rfl
      go_wp2_with fail
      refine (publicNo_any _ l _ _ (Rows.below HL.out B3.out (Nat.le_refl _)) HLM.out HOK.out H5.out).mono ?_
      rw [txt_toList, H3.out, ← HPB.out]
      rintro e w3 ⟨rfl, hb3⟩
      have C4 : Hid _ := C3.out.below hb3 (LRow.lt5 C3.out)
      have F4 : Hid _ := F3.out.below hb3 (LRow.lt5 F3.out)
      have B4 : Hid _ := next B3.out hb3
      clear c2 c4 f0 hb3
      have c2 := C4.out.cell 2 rfl
      have f0 := F4.out.cell 0 rfl
      go_wp2_with fail
      refine (isMatch_any _ _ _ HFH.out H5.out).mono ?_
      rw [txt_toList, txt_toList, H2.out]
      rintro e w4 ⟨rfl, hb4⟩
      have C5 := C4.out.below hb4 (LRow.lt5 C4.out)
      have d2 := C5.cell 2 rfl
      clear c2 f0 C5
      go_wp2_with fail
      go_ret
      exact ⟨rfl, next B4.out hb4⟩
  · have HOO : Hid (outL l r f now = ck0) := by show _ = _; unfold outL; rw [← hee, if_neg k0]
    have hne : (ee != 0) = true := by rw [bne_iff_ne]; exact k0
    clear hee hmk k0
    go_enter Tryd.func3, Tryd.ntmps3
    go_wp2_with fail
    rw [← hW0]
    clear hW0
    refine (make_any _ l _ r f now _ (HT.out.below B0.out (Nat.le_refl _)) (Rows.below HL.out B0.out (Nat.le_refl _)) HLM.out HOK.out (Rows.below HR.out B0.out (Nat.le_refl _)) HM.out HN.out HV.out HA.out HH.out HP.out HNOW.out).mono ?_
    rw [HOO.out, show ck0.toArray = #[.string ⟨#[]⟩, .string ⟨#[]⟩, .string ⟨#[]⟩, .string ⟨#[]⟩, .bool false, .bool false, .bool false, .bool false, .int .i64 0, .int .i64 0, .int .i64 0, .int .i64 0, .int .i64 0] from rfl, ← HEE.out]
    rintro e w1 ⟨rfl, hb1⟩
    have F1 : Hid _ := F0.out.below hb1 (LRow.lt5 F0.out)
    have hx1 : Below w1.heap.size w1 (w1.alloc (.cells #[.string ⟨#[]⟩, .string ⟨#[]⟩, .string ⟨#[]⟩, .string ⟨#[]⟩, .bool false, .bool false, .bool false, .bool false, .int .i64 0, .int .i64 0, .int .i64 0, .int .i64 0, .int .i64 0] 29)) := (Below.refl _ _).alloc (Nat.le_refl _) _
    have C1 : Hid (LRow (w1.alloc (.cells #[.string ⟨#[]⟩, .string ⟨#[]⟩, .string ⟨#[]⟩, .string ⟨#[]⟩, .bool false, .bool false, .bool false, .bool false, .int .i64 0, .int .i64 0, .int .i64 0, .int .i64 0, .int .i64 0] 29)) w1.heap.size ck0) := LRow.new w1 ck0 _
    have F2 : Hid _ := F1.out.below hx1 (LRow.lt5 F1.out)
    have B2 : Hid _ := next (next B0.out hb1) hx1
    clear hb1 hx1 F0 F1 B0
    go_wp2_with fail
    refine (cookieBegun_any _ (HT.out.below B2.out (Nat.le_refl _))).mono ?_
    rintro e w2 ⟨rfl, hb2⟩
    have C3 : Hid _ := C1.out.below hb2 (LRow.lt5 C1.out)
    have F3 : Hid _ := F2.out.below hb2 (LRow.lt5 F2.out)
    have B3 : Hid _ := next B2.out hb2
    clear hb2 C1 F2 B2
    have c0 := C3.out.cell 0 rfl
    have c1 := C3.out.cell 1 rfl
    have c2 := C3.out.cell 2 rfl
    have c3 := C3.out.cell 3 rfl
    have c4 := C3.out.cell 4 rfl
    have c5 := C3.out.cell 5 rfl
    have c6 := C3.out.cell 6 rfl
    have c7 := C3.out.cell 7 rfl
    have c8 := C3.out.cell 8 rfl
    have c9 := C3.out.cell 9 rfl
    have c10 := C3.out.cell 10 rfl
    have c11 := C3.out.cell 11 rfl
    have c12 := C3.out.cell 12 rfl
    go_wp2_with fail
    go_ret
    exact ⟨rfl, B3.out⟩

theorem laid_met (os : Os) : laidMet Tryd.prog Rows.cookieDomainRow.laid (({ World.holding Tryd.prog os ⟨#[], #[], []⟩ with heap := ((((((World.holding Tryd.prog os ⟨#[], #[], []⟩).heap.modify 2 fun | .cells _ t frozen => .cells #[.int .i64 1601, .int .i64 9999, .int .i64 1, .int .i64 12, .int .i64 1, .int .i64 31, .int .i64 0, .int .i64 23, .int .i64 0, .int .i64 59, .int .i64 0, .int .i64 59] t frozen | o => o).modify 4 fun | .cells _ t frozen => .cells #[.int .i64 31, .int .i64 28, .int .i64 31, .int .i64 30, .int .i64 31, .int .i64 30, .int .i64 31, .int .i64 31, .int .i64 30, .int .i64 31, .int .i64 30, .int .i64 31] t frozen | o => o).modify 1 fun | .cells _ t frozen => .cells #[.int .i32 9, .int .i32 9, .int .i32 32, .int .i32 47, .int .i32 59, .int .i32 64, .int .i32 91, .int .i32 96, .int .i32 123, .int .i32 126] t frozen | o => o).modify 5 fun | .cells _ t frozen => .cells #[.string ⟨#[74, 97, 110]⟩, .string ⟨#[70, 101, 98]⟩, .string ⟨#[77, 97, 114]⟩, .string ⟨#[65, 112, 114]⟩, .string ⟨#[77, 97, 121]⟩, .string ⟨#[74, 117, 110]⟩, .string ⟨#[74, 117, 108]⟩, .string ⟨#[65, 117, 103]⟩, .string ⟨#[83, 101, 112]⟩, .string ⟨#[79, 99, 116]⟩, .string ⟨#[78, 111, 118]⟩, .string ⟨#[68, 101, 99]⟩] t frozen | o => o).modify 0 fun | .cells _ t frozen => .cells #[.string ⟨#[]⟩, .string ⟨#[110, 111, 110, 101]⟩, .string ⟨#[108, 97, 120]⟩, .string ⟨#[115, 116, 114, 105, 99, 116]⟩] t frozen | o => o) } : World).forCall (fun _ _ => 0) ⟨#[], #[.slice none 0 0, .agg #[.string ByteArray.empty, .string ByteArray.empty, .slice none 0 0], .agg #[.string ByteArray.empty, .string ByteArray.empty, .bool false, .bool false, .bool false], .int .i64 0], []⟩).memory :=
  laidMet_of_run' 8 (by kernel_rfl) (by kernel_rfl)
theorem reads (os : Os) {H : Type} (enc : TypeId × Value → H) : ∃ places, DataW.whole enc Tryd.prog (({ World.holding Tryd.prog os ⟨#[], #[], []⟩ with heap := ((((((World.holding Tryd.prog os ⟨#[], #[], []⟩).heap.modify 2 fun | .cells _ t frozen => .cells #[.int .i64 1601, .int .i64 9999, .int .i64 1, .int .i64 12, .int .i64 1, .int .i64 31, .int .i64 0, .int .i64 23, .int .i64 0, .int .i64 59, .int .i64 0, .int .i64 59] t frozen | o => o).modify 4 fun | .cells _ t frozen => .cells #[.int .i64 31, .int .i64 28, .int .i64 31, .int .i64 30, .int .i64 31, .int .i64 30, .int .i64 31, .int .i64 31, .int .i64 30, .int .i64 31, .int .i64 30, .int .i64 31] t frozen | o => o).modify 1 fun | .cells _ t frozen => .cells #[.int .i32 9, .int .i32 9, .int .i32 32, .int .i32 47, .int .i32 59, .int .i32 64, .int .i32 91, .int .i32 96, .int .i32 123, .int .i32 126] t frozen | o => o).modify 5 fun | .cells _ t frozen => .cells #[.string ⟨#[74, 97, 110]⟩, .string ⟨#[70, 101, 98]⟩, .string ⟨#[77, 97, 114]⟩, .string ⟨#[65, 112, 114]⟩, .string ⟨#[77, 97, 121]⟩, .string ⟨#[74, 117, 110]⟩, .string ⟨#[74, 117, 108]⟩, .string ⟨#[65, 117, 103]⟩, .string ⟨#[83, 101, 112]⟩, .string ⟨#[79, 99, 116]⟩, .string ⟨#[78, 111, 118]⟩, .string ⟨#[68, 101, 99]⟩] t frozen | o => o).modify 0 fun | .cells _ t frozen => .cells #[.string ⟨#[]⟩, .string ⟨#[110, 111, 110, 101]⟩, .string ⟨#[108, 97, 120]⟩, .string ⟨#[115, 116, 114, 105, 99, 116]⟩] t frozen | o => o) } : World).forCall (fun _ _ => 0) ⟨#[], #[.slice none 0 0, .agg #[.string ByteArray.empty, .string ByteArray.empty, .slice none 0 0], .agg #[.string ByteArray.empty, .string ByteArray.empty, .bool false, .bool false, .bool false], .int .i64 0], []⟩).memory Tryd.f3.params.toList Rows.cookieDomainSpec.vars false (#[.slice none 0 0, .agg #[.string ByteArray.empty, .string ByteArray.empty, .slice none 0 0], .agg #[.string ByteArray.empty, .string ByteArray.empty, .bool false, .bool false, .bool false], .int .i64 0] : Array Value).toList 8 = some ([.nil, .agg [.lit (.string []), .lit (.string []), .nil], .agg [.lit (.string []), .lit (.string []), .lit (.bool false), .lit (.bool false), .lit (.bool false)], .lit (.int .i64 0)], [], places) :=
  ⟨[], by kernel_rfl⟩
set_option maxRecDepth 100000 in
theorem contract (H : Type) (enc : TypeId × Value → H) (W : World) (base : Nat) (args : Array Value) (ds gs : List (DataW H)) (before : List MemPlace)
    (hval0 : ∀ (j : Nat) t v, Tryd.f3.params[j]? = some t → args[j]? = some v → Value.okWide Tryd.prog W .any base t v)
    (hW : DataW.Whole enc Tryd.prog Tryd.f3.params.toList Rows.cookieDomainSpec.vars false W args.toList ds gs before) (hL : laidMetH Tryd.prog Rows.cookieDomainRow.laid W) (hsz : (DataW.weightsEach Tryd.prog (Tryd.f3.params.toList ++ Rows.cookieDomainSpec.plain.varTypes Tryd.prog) (ds ++ gs)).all (· ≤ reachBytes) = true) :
    Calls Tryd.prog 3 args W fun e W' => ∃ v, e = .returned v ∧ Rows.cookieDomainSpec.post enc Tryd.prog Tryd.f3 false true false false W args v W' := by
  have hval : ∀ (j : Nat) t v, Tryd.f3.params[j]? = some t → args[j]? = some v → Value.okWide Tryd.prog W .any base t v := hval0
  have hW' := hW
  obtain ⟨p, q, hA0, hV, rfl, hfz, hnd⟩ := hW
  have hA : DataW.TrodAll enc Tryd.prog W 0 (fun _ => true) true Tryd.f3.params.toList args.toList ds p := hA0
  rw [Tryd.params3] at hA hval hsz
  obtain ⟨v0, vs0, d0, ds0, p0, q0, hargs, rfl, rfl, h0, r0⟩ := trodAll_cons hA
  obtain ⟨v1, vs1, d1, ds1, p1, q1, rfl, rfl, rfl, h1, r1⟩ := trodAll_cons r0
  obtain ⟨v2, vs2, d2, ds2, p2, q2, rfl, rfl, rfl, h2, r2⟩ := trodAll_cons r1
  obtain ⟨v3, vs3, d3, ds3, p3, q3, rfl, rfl, rfl, h3, r3⟩ := trodAll_cons r2
  obtain ⟨rfl, rfl, rfl⟩ := trodAll_nil r3
  obtain rfl : args = #[v0, v1, v2, v3] := by cases args; simp_all
  obtain ⟨rfl, rfl⟩ := trodVars_none hV
  have k0 := h0
  have lt0 : ∀ x ∈ p0, x.block < W.heap.size := by obtain ⟨m, hm⟩ := k0; exact DataW.trod_lt m _ _ _ hm
  have k1 := h1
  have lt1 : ∀ x ∈ p1, x.block < W.heap.size := by obtain ⟨m, hm⟩ := k1; exact DataW.trod_lt m _ _ _ hm
  have k2 := h2
  have lt2 : ∀ x ∈ p2, x.block < W.heap.size := by obtain ⟨m, hm⟩ := k2; exact DataW.trod_lt m _ _ _ hm
  have k3 := h3
  have lt3 : ∀ x ∈ p3, x.block < W.heap.size := by obtain ⟨m, hm⟩ := k3; exact DataW.trod_lt m _ _ _ hm
  obtain ⟨l0, rd0, m0, ok0, bk0⟩ := open_rules (hval 0 22 v0 rfl rfl) k0 140737488351232 (fits_each hsz (j := 0) (t := 22) rfl rfl)
  obtain ⟨va1, l1, rfl, rd1, ok1, bk1⟩ := open_raw (hval 1 25 v1 rfl rfl) k1 140737488351232 (fits_each hsz (j := 1) (t := 25) rfl rfl)
  obtain ⟨l2, rfl, ok2, bk2⟩ := open_from (hval 2 27 v2 rfl rfl) k2 140737488351232 (fits_each hsz (j := 2) (t := 27) rfl rfl)
  obtain ⟨x3, rfl, rfl, hp3, w3⟩ := open_int Tryd.underlying3 (hval 3 3 v3 rfl rfl) h3
  have b3 := i64_of w3
  clear hA0 hval0
  refine (walk v0 l0 va1 l1 l2 x3 W rd0 m0 ok0 rd1 ok1 ok2 b3 (ctabs_of hL)).mono fun e W' ⟨he, bel⟩ => ?_
  subst he
  exact ⟨_, rfl, _, _, _, [], _, [], hW', trodAll_mk1 (shut_bool Tryd.underlying4 _), (trodAll_cons_mk (Below.trod laidOut (by kernel_rfl) (of_decide_eq_true (by kernel_rfl)) k0 bel lt0) (trodAll_cons_mk (Below.trod laidOut (by kernel_rfl) (of_decide_eq_true (by kernel_rfl)) k1 bel lt1) (trodAll_cons_mk (Below.trod laidOut (by kernel_rfl) (of_decide_eq_true (by kernel_rfl)) k2 bel lt2) (trodAll_cons_mk (Below.trod laidOut (by kernel_rfl) (of_decide_eq_true (by kernel_rfl)) k3 bel lt3) trodAll_mk0)))), rfl, bel.frame _, fun h => by cases h⟩
set_option maxRecDepth 100000 in
theorem lifted (os : Os) (started : os.Started) (H : Type) (enc : TypeId × Value → H) (F : Stop.Interp) :
    ReturnsInHanded {} Tryd.checked os 3 .any ((OpenSpec.ofChange Rows.cookieDomainSpec).preRow enc Tryd.prog Tryd.f3 Rows.cookieDomainRow.domain false Rows.cookieDomainRow.laid) (((OpenSpec.ofChange Rows.cookieDomainSpec).at F).post enc Tryd.prog Tryd.f3 false true false false) := by
  obtain ⟨places, hx⟩ := reads os enc
  refine returnsInHanded_of_row (C := Tryd.checked) (s := (OpenSpec.ofChange Rows.cookieDomainSpec)) own started (by kernel_rfl) Tryd.func3
    (witness_row_at (enc := enc) (C := Tryd.checked) false ({ World.holding Tryd.prog os ⟨#[], #[], []⟩ with heap := ((((((World.holding Tryd.prog os ⟨#[], #[], []⟩).heap.modify 2 fun | .cells _ t frozen => .cells #[.int .i64 1601, .int .i64 9999, .int .i64 1, .int .i64 12, .int .i64 1, .int .i64 31, .int .i64 0, .int .i64 23, .int .i64 0, .int .i64 59, .int .i64 0, .int .i64 59] t frozen | o => o).modify 4 fun | .cells _ t frozen => .cells #[.int .i64 31, .int .i64 28, .int .i64 31, .int .i64 30, .int .i64 31, .int .i64 30, .int .i64 31, .int .i64 31, .int .i64 30, .int .i64 31, .int .i64 30, .int .i64 31] t frozen | o => o).modify 1 fun | .cells _ t frozen => .cells #[.int .i32 9, .int .i32 9, .int .i32 32, .int .i32 47, .int .i32 59, .int .i32 64, .int .i32 91, .int .i32 96, .int .i32 123, .int .i32 126] t frozen | o => o).modify 5 fun | .cells _ t frozen => .cells #[.string ⟨#[74, 97, 110]⟩, .string ⟨#[70, 101, 98]⟩, .string ⟨#[77, 97, 114]⟩, .string ⟨#[65, 112, 114]⟩, .string ⟨#[77, 97, 121]⟩, .string ⟨#[74, 117, 110]⟩, .string ⟨#[74, 117, 108]⟩, .string ⟨#[65, 117, 103]⟩, .string ⟨#[83, 101, 112]⟩, .string ⟨#[79, 99, 116]⟩, .string ⟨#[78, 111, 118]⟩, .string ⟨#[68, 101, 99]⟩] t frozen | o => o).modify 0 fun | .cells _ t frozen => .cells #[.string ⟨#[]⟩, .string ⟨#[110, 111, 110, 101]⟩, .string ⟨#[108, 97, 120]⟩, .string ⟨#[115, 116, 114, 105, 99, 116]⟩] t frozen | o => o) } : World) #[.slice none 0 0, .agg #[.string ByteArray.empty, .string ByteArray.empty, .slice none 0 0], .agg #[.string ByteArray.empty, .string ByteArray.empty, .bool false, .bool false, .bool false], .int .i64 0] rfl (by kernel_rfl) (by kernel_rfl) (by kernel_rfl)
      (OpenSpec.preRow_of_cond 8 hx (by kernel_rfl) (fun k hk => by cases hk) (by kernel_rfl) (laid_met os))) ?_
  intro W base args ds gs before hval hW _ _ hsz hL _ _
  exact contract H enc W base args ds gs before hval hW hL hsz
theorem said : Rows.CookieDomainSaid :=
  OpenClaim.holds_of_cond 3 Tryd.f3 rfl rfl rfl rfl rfl rfl rfl ⟨rfl, rfl, rfl, rfl, rfl⟩ rfl rfl rfl rfl rfl (by kernel_rfl) Tryd.func3 (by kernel_rfl)
    (of_decide_eq_true (by kernel_rfl)) (by unfold Func.isWrapper; first | (rw [if_pos (by decide +kernel)]; kernel_rfl) | (rw [if_neg (by decide +kernel)]; exact ⟨rfl, rfl⟩))
    (fun os started H enc _ F => by rw [OpenClaim.pre_eq_preRow]; exact lifted os started H enc F)
theorem plain (f : FuncId) (fn : Func) (hf : Tryd.pinned.checked.prog.funcNamed "gingersnap/gingersnaplaw.CookieDomain" = some f) (hfn : Tryd.pinned.checked.prog.funcs[f]? = some fn) :
    false = Tryd.pinned.checked.prog.looks [] ∧ ∀ (j : Nat) t, fn.params[j]? = some t → Tryd.pinned.checked.prog.wantsStandIn t = false := by
  obtain rfl : f = 3 := Option.some.inj ((show Tryd.prog.funcNamed "gingersnap/gingersnaplaw.CookieDomain" = some 3 by kernel_rfl).symm.trans hf) |>.symm
  obtain rfl : fn = Tryd.f3 := (Option.some.inj (Tryd.func3.symm.trans hfn)).symm
  refine ⟨by kernel_rfl, fun j t ht => ?_⟩
  rw [Tryd.params3] at ht
  have ht2 := Array.mem_of_getElem? ht
  have ht3 : t = 3 ∨ t = 22 ∨ t = 25 ∨ t = 27 := by simp at ht2; first | exact ht2 | exact ht2.symm | (rcases ht2 with h | h <;> simp [h]) | (rcases ht2 with h | h | h <;> simp [h]) | (rcases ht2 with h | h | h | h <;> simp [h]) | (rcases ht2 with h | h | h | h | h <;> simp [h])
  rcases ht3 with rfl | rfl | rfl | rfl
  · exact (show Tryd.prog.wantsStandIn 3 = false by kernel_rfl)
  · exact (show Tryd.prog.wantsStandIn 22 = false by kernel_rfl)
  · exact (show Tryd.prog.wantsStandIn 25 = false by kernel_rfl)
  · exact (show Tryd.prog.wantsStandIn 27 = false by kernel_rfl)
theorem card : Rows.CookieDomainCardSaid :=
  Claim7.holds_tied_plain_at .later [] _ _ _ _ said (fun _ h => by cases h) (by kernel_rfl) (fun _ h => by cases h) cookieDomain_row_tie rfl ⟨rfl, rfl⟩ (by kernel_rfl) rfl plain (by kernel_rfl)
#print axioms card
end Go.Proofs.YtjoailjedfbnbaeDoor.cookieDomain
