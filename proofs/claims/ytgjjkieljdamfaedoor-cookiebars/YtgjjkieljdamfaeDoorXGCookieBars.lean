/- CookieBars: for all rules of public suffixes, all cookies as headers tell them, all who ask and all moments: what is secure was set by a secure way, what scripts may not see by none, and names that promise it keep it. No condition. -/
import Derived.Test.YtgjjkieljdamfaeDoorXD
import Derived.Test.YtgjjkieljdamfaeDoorXE
import Derived.Test.YtgjjkieljdamfaeDoorOpen
import Derived.Test.YtgjjkieljdamfaeDoorCards
import Derived.Test.YtgjjkieljdamfaeDoorTie
namespace Go.Proofs.YtgjjkieljdamfaeDoor.cookieBars
open Go.ChangeShapes Go.WideShapes Go.ChangeAt Go.RowKit
open Go.ChangeMaps (open_string shut_string)
set_option linter.all false
set_option maxRecDepth 100000

theorem pre_t (n p : List UInt8) (k : Nat) (hk : p.length = k) (h : Lib.hasPrefix n p = true) : (((txt n).extract 0 k).toList == p) = true := by
  obtain ⟨h1, h2⟩ := (pre_take n p).1 h
  rw [beq_iff_eq, Lib.toList_data]
  subst hk
  have e : ((txt n).extract 0 p.length).data.toList = n.take p.length := by simp [txt]
  rw [e, h2]
theorem pre_f (n p : List UInt8) (k : Nat) (hk : p.length = k) (hn : k ≤ n.length) (h : Lib.hasPrefix n p = false) : (((txt n).extract 0 k).toList == p) = false := by
  rw [beq_eq_false_iff_ne, Lib.toList_data]
  subst hk
  have e : ((txt n).extract 0 p.length).data.toList = n.take p.length := by simp [txt]
  rw [e]
  intro h2
  have := (pre_take n p).2 ⟨hn, h2⟩
  rw [h] at this; cases this
theorem pre_len (n p : List UInt8) (k : Nat) (hk : p.length = k) (hn : n.length < k) : Lib.hasPrefix n p = false := by
  cases h : Lib.hasPrefix n p
  · rfl
  · have := ((pre_take n p).1 h).1
    omega

theorem made_name (l : Rules) (r : Raw) (f : Fr) (now : Int) (ha : ∀ a ∈ r.2.2, a.2.length ≤ maxLen) : (madeM l r f now).name = r.1 := by
  have hk := (made_keeps l r f now ha).name
  have e : (expiryM (r.2.2.foldl takeM (beginM r f now))).name = r.1 := hk
  unfold madeM domM
  by_cases h : domE l (expiryM (r.2.2.foldl takeM (beginM r f now))) = 0
  · rw [if_pos h]
    cases domOwn l (expiryM (r.2.2.foldl takeM (beginM r f now))) <;> exact e
  · rw [if_neg h]; exact e
set_option maxHeartbeats 4000000 in
theorem walk (v : Value) (l : Rules) (va : Value) (r : Raw) (f : Fr) (now : Int) (w : World) (hl : Rows w v ruleF l) (hlm : l.length ≤ 140737488351232) (hok : ∀ r ∈ l, (-9223372036854775808 ≤ r.1 ∧ r.1 ≤ 9223372036854775807) ∧ r.2.length ≤ 140737488351232)
    (hr : Rows w va attrF r.2.2) (hro : r.2.2.length ≤ 140737488351232 ∧ r.1.length ≤ 140737488351232 ∧ r.2.1.length ≤ 140737488351232 ∧ ∀ a ∈ r.2.2, a.1.length ≤ 140737488351232 ∧ a.2.length ≤ 140737488351232)
    (hfo : f.host.length ≤ 140737488351232 ∧ f.path.length ≤ 140737488351232) (hnow : -9223372036854775808 ≤ now ∧ now ≤ 9223372036854775807) (T : CTabs w) :
    Calls Tryd.prog 4 #[v, .agg #[.string (txt r.1), .string (txt r.2.1), va], .agg (frL f).toArray, .int .i64 now] w fun e w' => e = .returned (.bool true) ∧ Below w.heap.size w w' := by
  obtain ⟨q1, q2, q3, q4⟩ := hro
  have HT : Hid _ := T
  have HL : Hid (Rows w v sufF l) := hl
  have HLM : Hid (l.length ≤ maxLen) := by show _ ≤ _; unfold maxLen; omega
  have HOK : Hid (∀ r ∈ l, okR r) := fun r hr => ⟨(hok r hr).1, by have := (hok r hr).2; unfold maxLen; omega⟩
  have HR : Hid (Rows w va attrF r.2.2) := hr
  have HM : Hid (r.2.2.length ≤ maxLen) := by show _ ≤ _; unfold maxLen; omega
  have HN : Hid (r.1.length ≤ maxLen) := by show _ ≤ _; unfold maxLen; omega
  have HV : Hid (r.2.1.length ≤ maxLen) := by show _ ≤ _; unfold maxLen; omega
  have HA : Hid (∀ a ∈ r.2.2, a.1.length ≤ maxLen ∧ a.2.length ≤ maxLen) := fun a ha => by have := q4 a ha; unfold maxLen; omega
  have HH : Hid (f.host.length ≤ maxLen) := by show _ ≤ _; unfold maxLen; omega
  have HP : Hid (f.path.length ≤ maxLen) := by show _ ≤ _; unfold maxLen; omega
  have HNOW : Hid _ := hnow
  have HAA : Hid (∀ a ∈ r.2.2, a.2.length ≤ maxLen) := fun a ha => (HA.out a ha).2
  obtain ⟨ad, cap, rfl⟩ := hr.shape
  obtain ⟨adl, capl, rfl⟩ := Rows.shape HL.out
  clear T hl hlm hok hr q1 q2 q3 q4 hfo hnow
  simp only [frL]
  obtain ⟨W0, hW0⟩ : ∃ W0, W0 = ((w.alloc (.cells #[.string (txt r.1), .string (txt r.2.1), .slice ad r.2.2.length cap] 25)).alloc (.cells #[.string (txt f.host), .string (txt f.path), .bool f.secure, .bool f.script, .bool f.abroad] 27)) := ⟨_, rfl⟩
  have F0 : Hid (LRow W0 (w.heap.size + 1) (frL f)) := by
    rw [hW0]
    have h := LRow.new (w.alloc (.cells #[.string (txt r.1), .string (txt r.2.1), .slice ad r.2.2.length cap] 25)) (frL f) 27
    rw [show (w.alloc (.cells #[.string (txt r.1), .string (txt r.2.1), .slice ad r.2.2.length cap] 25)).heap.size = w.heap.size + 1 from by simp] at h
    exact h
  have B0 : Hid (Below w.heap.size w W0) := by
    rw [hW0]
    exact ((Below.refl _ _).alloc (Nat.le_refl _) _).alloc (by simp) _
  obtain ⟨ee, hee⟩ : ∃ x, x = makeE l r f now := ⟨_, rfl⟩
  obtain ⟨mk, hmk⟩ : ∃ x, x = madeM l r f now := ⟨_, rfl⟩
  have HEE : Hid _ := hee
  have HMK : Hid _ := hmk
  by_cases k0 : ee = 0
  · have hz : makeE l r f now = 0 := by rw [← hee]; exact k0
    have HOO : Hid (outL l r f now = ckL mk) := by show _ = _; unfold outL; rw [hz, if_pos rfl, ← hmk]
    have HMD : Hid _ := made_bars HAA.out hz
    rw [← hmk] at HMD
    have HNM : Hid ((txt mk.name).size ≤ maxLen) := by
      have := made_name l r f now HAA.out
      rw [← hmk] at this
      show mk.name.length ≤ maxLen
      rw [this]; exact HN.out
    clear hz hee hmk
    subst k0
    go_enter Tryd.func4, Tryd.ntmps4
    go_wp2_with fail
    rw [← hW0]
    clear hW0
    refine (make_any _ l _ r f now _ (HT.out.below B0.out (Nat.le_refl _)) (Rows.below HL.out B0.out (Nat.le_refl _)) HLM.out HOK.out (Rows.below HR.out B0.out (Nat.le_refl _)) HM.out HN.out HV.out HA.out HH.out HP.out HNOW.out).mono ?_
    rw [HOO.out, show (ckL mk).toArray = #[.string (txt mk.name), .string (txt mk.value), .string (txt mk.domain), .string (txt mk.path), .bool mk.hostOnly, .bool mk.secure, .bool mk.httpOnly, .bool mk.lasting, .int .i64 mk.site, .int .i64 mk.expiry, .int .i64 mk.created, .int .i64 mk.used, .int .i64 0] from rfl, ← HEE.out]
    rintro e w1 ⟨rfl, hb1⟩
    have F1 : Hid _ := F0.out.below hb1 (LRow.lt5 F0.out)
    have hx1 : Below w1.heap.size w1 (w1.alloc (.cells #[.string (txt mk.name), .string (txt mk.value), .string (txt mk.domain), .string (txt mk.path), .bool mk.hostOnly, .bool mk.secure, .bool mk.httpOnly, .bool mk.lasting, .int .i64 mk.site, .int .i64 mk.expiry, .int .i64 mk.created, .int .i64 mk.used, .int .i64 0] 29)) := (Below.refl _ _).alloc (Nat.le_refl _) _
    have C1 : Hid (LRow (w1.alloc (.cells #[.string (txt mk.name), .string (txt mk.value), .string (txt mk.domain), .string (txt mk.path), .bool mk.hostOnly, .bool mk.secure, .bool mk.httpOnly, .bool mk.lasting, .int .i64 mk.site, .int .i64 mk.expiry, .int .i64 mk.created, .int .i64 mk.used, .int .i64 0] 29)) w1.heap.size (ckL mk)) := LRow.new w1 (ckL mk) _
    have F2 : Hid _ := F1.out.below hx1 (LRow.lt5 F1.out)
    have B2 : Hid _ := next (next B0.out hb1) hx1
    clear hb1 hx1 F0 F1 B0
    go_wp2_with fail
    refine (cookieBegun_any _ (HT.out.below B2.out (Nat.le_refl _))).mono ?_
    rintro e w2 ⟨rfl, hb2⟩
    have C3 : Hid _ := C1.out.below hb2 (LRow.lt5 C1.out)
    have F3 : Hid _ := F2.out.below hb2 (LRow.lt5 F2.out)
    have B3 : Hid _ := next B2.out hb2
    clear hb2 C1 F2 B2
    have c0 := C3.out.cell 0 rfl
    go_wp2_with fail
    refine (foldOf_any _ _ HNM.out).mono ?_
    rw [txt_toList]
    obtain ⟨nm, hnm⟩ : ∃ x, x = foldL mk.name := ⟨_, rfl⟩
    rw [← hnm] at HMD ⊢
    clear hnm
    rintro e w3 ⟨rfl, hb3⟩
    have C4 : Hid _ := C3.out.below hb3 (LRow.lt5 C3.out)
    have F4 : Hid _ := F3.out.below hb3 (LRow.lt5 F3.out)
    have B4 : Hid _ := next B3.out hb3
    clear hb3 C3 F3 B3 c0
    obtain ⟨p1, p2, p3, p4⟩ := HMD.out
    clear HMD
    by_cases g7 : ((txt nm).size : Int) < 7
    · have g9 : ((txt nm).size : Int) < 9 := by omega
      cases e5 : mk.secure
      · have c5 : w3.cell? ⟨w1.heap.size, 5, none⟩ = some (.bool false) := by rw [← e5]; exact C4.out.cell 5 rfl
        clear e5
        cases e6 : mk.httpOnly
        · have c6 : w3.cell? ⟨w1.heap.size, 6, none⟩ = some (.bool false) := by rw [← e6]; exact C4.out.cell 6 rfl
          clear e6 p1 p2 p3 p4
          go_wp2_with fail
          go_ret
          exact ⟨rfl, B4.out⟩
        · have c6 : w3.cell? ⟨w1.heap.size, 6, none⟩ = some (.bool true) := by rw [← e6]; exact C4.out.cell 6 rfl
          have f3 : w3.cell? ⟨w.heap.size + 1, 3, none⟩ = some (.bool false) := by rw [← p1 e6]; exact F4.out.cell 3 rfl
          clear e6 p1 p2 p3 p4
          go_wp2_with fail
          go_ret
          exact ⟨rfl, B4.out⟩
      · skip
        have c5 : w3.cell? ⟨w1.heap.size, 5, none⟩ = some (.bool true) := by rw [← e5]; exact C4.out.cell 5 rfl
        have f2 : w3.cell? ⟨w.heap.size + 1, 2, none⟩ = some (.bool true) := by rw [← p2 e5]; exact F4.out.cell 2 rfl
        clear e5
        cases e6 : mk.httpOnly
        · have c6 : w3.cell? ⟨w1.heap.size, 6, none⟩ = some (.bool false) := by rw [← e6]; exact C4.out.cell 6 rfl
          clear e6 p1 p2 p3 p4
          go_wp2_with fail
          go_ret
          exact ⟨rfl, B4.out⟩
        · have c6 : w3.cell? ⟨w1.heap.size, 6, none⟩ = some (.bool true) := by rw [← e6]; exact C4.out.cell 6 rfl
          have f3 : w3.cell? ⟨w.heap.size + 1, 3, none⟩ = some (.bool false) := by rw [← p1 e6]; exact F4.out.cell 3 rfl
          clear e6 p1 p2 p3 p4
          go_wp2_with fail
          go_ret
          exact ⟨rfl, B4.out⟩
    · by_cases g9 : ((txt nm).size : Int) < 9
      · skip
        cases eh : Lib.hasPrefix nm hosP
        · have y7 : (((txt nm).extract 0 7).toList == [95, 95, 104, 111, 115, 116, 45]) = false := pre_f nm hosP 7 rfl (by have : (txt nm).size = nm.length := rfl; omega) eh
          clear eh
          cases e5 : mk.secure
          · have c5 : w3.cell? ⟨w1.heap.size, 5, none⟩ = some (.bool false) := by rw [← e5]; exact C4.out.cell 5 rfl
            clear e5
            cases e6 : mk.httpOnly
            · have c6 : w3.cell? ⟨w1.heap.size, 6, none⟩ = some (.bool false) := by rw [← e6]; exact C4.out.cell 6 rfl
              clear e6 p1 p2 p3 p4
              go_wp2_with fail
              go_ret
              exact ⟨rfl, B4.out⟩
            · have c6 : w3.cell? ⟨w1.heap.size, 6, none⟩ = some (.bool true) := by rw [← e6]; exact C4.out.cell 6 rfl
              have f3 : w3.cell? ⟨w.heap.size + 1, 3, none⟩ = some (.bool false) := by rw [← p1 e6]; exact F4.out.cell 3 rfl
              clear e6 p1 p2 p3 p4
              go_wp2_with fail
              go_ret
              exact ⟨rfl, B4.out⟩
          · skip
            have c5 : w3.cell? ⟨w1.heap.size, 5, none⟩ = some (.bool true) := by rw [← e5]; exact C4.out.cell 5 rfl
            have f2 : w3.cell? ⟨w.heap.size + 1, 2, none⟩ = some (.bool true) := by rw [← p2 e5]; exact F4.out.cell 2 rfl
            clear e5
            cases e6 : mk.httpOnly
            · have c6 : w3.cell? ⟨w1.heap.size, 6, none⟩ = some (.bool false) := by rw [← e6]; exact C4.out.cell 6 rfl
              clear e6 p1 p2 p3 p4
              go_wp2_with fail
              go_ret
              exact ⟨rfl, B4.out⟩
            · have c6 : w3.cell? ⟨w1.heap.size, 6, none⟩ = some (.bool true) := by rw [← e6]; exact C4.out.cell 6 rfl
              have f3 : w3.cell? ⟨w.heap.size + 1, 3, none⟩ = some (.bool false) := by rw [← p1 e6]; exact F4.out.cell 3 rfl
              clear e6 p1 p2 p3 p4
              go_wp2_with fail
              go_ret
              exact ⟨rfl, B4.out⟩
        · have y7 : (((txt nm).extract 0 7).toList == [95, 95, 104, 111, 115, 116, 45]) = true := pre_t nm hosP 7 rfl eh
          obtain ⟨e5, z2, z3, z4⟩ := p4 eh
          clear eh
          have c5 : w3.cell? ⟨w1.heap.size, 5, none⟩ = some (.bool true) := by rw [← e5]; exact C4.out.cell 5 rfl
          have f2 : w3.cell? ⟨w.heap.size + 1, 2, none⟩ = some (.bool true) := by rw [← p2 e5]; exact F4.out.cell 2 rfl
          have c4 : w3.cell? ⟨w1.heap.size, 4, none⟩ = some (.bool true) := by rw [← z2]; exact C4.out.cell 4 rfl
          have c2 := C4.out.cell 2 rfl
          have c3 := C4.out.cell 3 rfl
          have f0 := F4.out.cell 0 rfl
          have y3 : ((txt mk.domain).toList == (txt f.host).toList) = true := same_t _ _ z3
          have y4 : ((txt mk.path).toList == [47]) = true := by rw [beq_iff_eq, Lib.toList_data, z4]; rfl
          clear z2 z3 z4
          clear e5
          cases e6 : mk.httpOnly
          · have c6 : w3.cell? ⟨w1.heap.size, 6, none⟩ = some (.bool false) := by rw [← e6]; exact C4.out.cell 6 rfl
            clear e6 p1 p2 p3 p4
            go_wp2_with fail
            go_ret
            exact ⟨rfl, B4.out⟩
          · have c6 : w3.cell? ⟨w1.heap.size, 6, none⟩ = some (.bool true) := by rw [← e6]; exact C4.out.cell 6 rfl
            have f3 : w3.cell? ⟨w.heap.size + 1, 3, none⟩ = some (.bool false) := by rw [← p1 e6]; exact F4.out.cell 3 rfl
            clear e6 p1 p2 p3 p4
            go_wp2_with fail
            go_ret
            exact ⟨rfl, B4.out⟩
      · cases es : Lib.hasPrefix nm secP
        · have y9 : (((txt nm).extract 0 9).toList == [95, 95, 115, 101, 99, 117, 114, 101, 45]) = false := pre_f nm secP 9 rfl (by have : (txt nm).size = nm.length := rfl; omega) es
          clear es
          cases eh : Lib.hasPrefix nm hosP
          · have y7 : (((txt nm).extract 0 7).toList == [95, 95, 104, 111, 115, 116, 45]) = false := pre_f nm hosP 7 rfl (by have : (txt nm).size = nm.length := rfl; omega) eh
            clear eh
            cases e5 : mk.secure
            · have c5 : w3.cell? ⟨w1.heap.size, 5, none⟩ = some (.bool false) := by rw [← e5]; exact C4.out.cell 5 rfl
              clear e5
              cases e6 : mk.httpOnly
              · have c6 : w3.cell? ⟨w1.heap.size, 6, none⟩ = some (.bool false) := by rw [← e6]; exact C4.out.cell 6 rfl
                clear e6 p1 p2 p3 p4
                go_wp2_with fail
                go_ret
                exact ⟨rfl, B4.out⟩
              · have c6 : w3.cell? ⟨w1.heap.size, 6, none⟩ = some (.bool true) := by rw [← e6]; exact C4.out.cell 6 rfl
                have f3 : w3.cell? ⟨w.heap.size + 1, 3, none⟩ = some (.bool false) := by rw [← p1 e6]; exact F4.out.cell 3 rfl
                clear e6 p1 p2 p3 p4
                go_wp2_with fail
                go_ret
                exact ⟨rfl, B4.out⟩
            · skip
              have c5 : w3.cell? ⟨w1.heap.size, 5, none⟩ = some (.bool true) := by rw [← e5]; exact C4.out.cell 5 rfl
              have f2 : w3.cell? ⟨w.heap.size + 1, 2, none⟩ = some (.bool true) := by rw [← p2 e5]; exact F4.out.cell 2 rfl
              clear e5
              cases e6 : mk.httpOnly
              · have c6 : w3.cell? ⟨w1.heap.size, 6, none⟩ = some (.bool false) := by rw [← e6]; exact C4.out.cell 6 rfl
                clear e6 p1 p2 p3 p4
                go_wp2_with fail
                go_ret
                exact ⟨rfl, B4.out⟩
              · have c6 : w3.cell? ⟨w1.heap.size, 6, none⟩ = some (.bool true) := by rw [← e6]; exact C4.out.cell 6 rfl
                have f3 : w3.cell? ⟨w.heap.size + 1, 3, none⟩ = some (.bool false) := by rw [← p1 e6]; exact F4.out.cell 3 rfl
                clear e6 p1 p2 p3 p4
                go_wp2_with fail
                go_ret
                exact ⟨rfl, B4.out⟩
          · have y7 : (((txt nm).extract 0 7).toList == [95, 95, 104, 111, 115, 116, 45]) = true := pre_t nm hosP 7 rfl eh
            obtain ⟨e5, z2, z3, z4⟩ := p4 eh
            clear eh
            have c5 : w3.cell? ⟨w1.heap.size, 5, none⟩ = some (.bool true) := by rw [← e5]; exact C4.out.cell 5 rfl
            have f2 : w3.cell? ⟨w.heap.size + 1, 2, none⟩ = some (.bool true) := by rw [← p2 e5]; exact F4.out.cell 2 rfl
            have c4 : w3.cell? ⟨w1.heap.size, 4, none⟩ = some (.bool true) := by rw [← z2]; exact C4.out.cell 4 rfl
            have c2 := C4.out.cell 2 rfl
            have c3 := C4.out.cell 3 rfl
            have f0 := F4.out.cell 0 rfl
            have y3 : ((txt mk.domain).toList == (txt f.host).toList) = true := same_t _ _ z3
            have y4 : ((txt mk.path).toList == [47]) = true := by rw [beq_iff_eq, Lib.toList_data, z4]; rfl
            clear z2 z3 z4
            clear e5
            cases e6 : mk.httpOnly
            · have c6 : w3.cell? ⟨w1.heap.size, 6, none⟩ = some (.bool false) := by rw [← e6]; exact C4.out.cell 6 rfl
              clear e6 p1 p2 p3 p4
              go_wp2_with fail
              go_ret
              exact ⟨rfl, B4.out⟩
            · have c6 : w3.cell? ⟨w1.heap.size, 6, none⟩ = some (.bool true) := by rw [← e6]; exact C4.out.cell 6 rfl
              have f3 : w3.cell? ⟨w.heap.size + 1, 3, none⟩ = some (.bool false) := by rw [← p1 e6]; exact F4.out.cell 3 rfl
              clear e6 p1 p2 p3 p4
              go_wp2_with fail
              go_ret
              exact ⟨rfl, B4.out⟩
        · have y9 : (((txt nm).extract 0 9).toList == [95, 95, 115, 101, 99, 117, 114, 101, 45]) = true := pre_t nm secP 9 rfl es
          have e5 := p3 es
          clear es
          cases eh : Lib.hasPrefix nm hosP
          · have y7 : (((txt nm).extract 0 7).toList == [95, 95, 104, 111, 115, 116, 45]) = false := pre_f nm hosP 7 rfl (by have : (txt nm).size = nm.length := rfl; omega) eh
            clear eh
            have c5 : w3.cell? ⟨w1.heap.size, 5, none⟩ = some (.bool true) := by rw [← e5]; exact C4.out.cell 5 rfl
            have f2 : w3.cell? ⟨w.heap.size + 1, 2, none⟩ = some (.bool true) := by rw [← p2 e5]; exact F4.out.cell 2 rfl
            clear e5
            cases e6 : mk.httpOnly
            · have c6 : w3.cell? ⟨w1.heap.size, 6, none⟩ = some (.bool false) := by rw [← e6]; exact C4.out.cell 6 rfl
              clear e6 p1 p2 p3 p4
              go_wp2_with fail
              go_ret
              exact ⟨rfl, B4.out⟩
            · have c6 : w3.cell? ⟨w1.heap.size, 6, none⟩ = some (.bool true) := by rw [← e6]; exact C4.out.cell 6 rfl
              have f3 : w3.cell? ⟨w.heap.size + 1, 3, none⟩ = some (.bool false) := by rw [← p1 e6]; exact F4.out.cell 3 rfl
              clear e6 p1 p2 p3 p4
              go_wp2_with fail
              go_ret
              exact ⟨rfl, B4.out⟩
          · have y7 : (((txt nm).extract 0 7).toList == [95, 95, 104, 111, 115, 116, 45]) = true := pre_t nm hosP 7 rfl eh
            obtain ⟨_, z2, z3, z4⟩ := p4 eh
            clear eh
            have c5 : w3.cell? ⟨w1.heap.size, 5, none⟩ = some (.bool true) := by rw [← e5]; exact C4.out.cell 5 rfl
            have f2 : w3.cell? ⟨w.heap.size + 1, 2, none⟩ = some (.bool true) := by rw [← p2 e5]; exact F4.out.cell 2 rfl
            have c4 : w3.cell? ⟨w1.heap.size, 4, none⟩ = some (.bool true) := by rw [← z2]; exact C4.out.cell 4 rfl
            have c2 := C4.out.cell 2 rfl
            have c3 := C4.out.cell 3 rfl
            have f0 := F4.out.cell 0 rfl
            have y3 : ((txt mk.domain).toList == (txt f.host).toList) = true := same_t _ _ z3
            have y4 : ((txt mk.path).toList == [47]) = true := by rw [beq_iff_eq, Lib.toList_data, z4]; rfl
            clear z2 z3 z4
            clear e5
            cases e6 : mk.httpOnly
            · have c6 : w3.cell? ⟨w1.heap.size, 6, none⟩ = some (.bool false) := by rw [← e6]; exact C4.out.cell 6 rfl
              clear e6 p1 p2 p3 p4
              go_wp2_with fail
              go_ret
              exact ⟨rfl, B4.out⟩
            · have c6 : w3.cell? ⟨w1.heap.size, 6, none⟩ = some (.bool true) := by rw [← e6]; exact C4.out.cell 6 rfl
              have f3 : w3.cell? ⟨w.heap.size + 1, 3, none⟩ = some (.bool false) := by rw [← p1 e6]; exact F4.out.cell 3 rfl
              clear e6 p1 p2 p3 p4
              go_wp2_with fail
              go_ret
              exact ⟨rfl, B4.out⟩
  · have HOO : Hid (outL l r f now = ck0) := by show _ = _; unfold outL; rw [← hee, if_neg k0]
    have hne : (ee != 0) = true := by rw [bne_iff_ne]; exact k0
    clear hee hmk k0
    go_enter Tryd.func4, Tryd.ntmps4
    go_wp2_with fail
    rw [← hW0]
    clear hW0
    refine (make_any _ l _ r f now _ (HT.out.below B0.out (Nat.le_refl _)) (Rows.below HL.out B0.out (Nat.le_refl _)) HLM.out HOK.out (Rows.below HR.out B0.out (Nat.le_refl _)) HM.out HN.out HV.out HA.out HH.out HP.out HNOW.out).mono ?_
    rw [HOO.out, show ck0.toArray = #[.string ⟨#[]⟩, .string ⟨#[]⟩, .string ⟨#[]⟩, .string ⟨#[]⟩, .bool false, .bool false, .bool false, .bool false, .int .i64 0, .int .i64 0, .int .i64 0, .int .i64 0, .int .i64 0] from rfl, ← HEE.out]
    rintro e w1 ⟨rfl, hb1⟩
    have hx1 : Below w1.heap.size w1 (w1.alloc (.cells #[.string ⟨#[]⟩, .string ⟨#[]⟩, .string ⟨#[]⟩, .string ⟨#[]⟩, .bool false, .bool false, .bool false, .bool false, .int .i64 0, .int .i64 0, .int .i64 0, .int .i64 0, .int .i64 0] 29)) := (Below.refl _ _).alloc (Nat.le_refl _) _
    have B2 : Hid _ := next (next B0.out hb1) hx1
    clear hb1 hx1 B0
    go_wp2_with fail
    refine (cookieBegun_any _ (HT.out.below B2.out (Nat.le_refl _))).mono ?_
    rintro e w2 ⟨rfl, hb2⟩
    have B3 : Hid _ := next B2.out hb2
    clear hb2 B2
    go_wp2_with fail
    go_ret
    exact ⟨rfl, B3.out⟩

theorem laid_met (os : Os) : laidMet Tryd.prog Rows.cookieBarsRow.laid (({ World.holding Tryd.prog os ⟨#[], #[], []⟩ with heap := ((((((World.holding Tryd.prog os ⟨#[], #[], []⟩).heap.modify 2 fun | .cells _ t frozen => .cells #[.int .i64 1601, .int .i64 9999, .int .i64 1, .int .i64 12, .int .i64 1, .int .i64 31, .int .i64 0, .int .i64 23, .int .i64 0, .int .i64 59, .int .i64 0, .int .i64 59] t frozen | o => o).modify 4 fun | .cells _ t frozen => .cells #[.int .i64 31, .int .i64 28, .int .i64 31, .int .i64 30, .int .i64 31, .int .i64 30, .int .i64 31, .int .i64 31, .int .i64 30, .int .i64 31, .int .i64 30, .int .i64 31] t frozen | o => o).modify 1 fun | .cells _ t frozen => .cells #[.int .i32 9, .int .i32 9, .int .i32 32, .int .i32 47, .int .i32 59, .int .i32 64, .int .i32 91, .int .i32 96, .int .i32 123, .int .i32 126] t frozen | o => o).modify 5 fun | .cells _ t frozen => .cells #[.string ⟨#[74, 97, 110]⟩, .string ⟨#[70, 101, 98]⟩, .string ⟨#[77, 97, 114]⟩, .string ⟨#[65, 112, 114]⟩, .string ⟨#[77, 97, 121]⟩, .string ⟨#[74, 117, 110]⟩, .string ⟨#[74, 117, 108]⟩, .string ⟨#[65, 117, 103]⟩, .string ⟨#[83, 101, 112]⟩, .string ⟨#[79, 99, 116]⟩, .string ⟨#[78, 111, 118]⟩, .string ⟨#[68, 101, 99]⟩] t frozen | o => o).modify 0 fun | .cells _ t frozen => .cells #[.string ⟨#[]⟩, .string ⟨#[110, 111, 110, 101]⟩, .string ⟨#[108, 97, 120]⟩, .string ⟨#[115, 116, 114, 105, 99, 116]⟩] t frozen | o => o) } : World).forCall (fun _ _ => 0) ⟨#[], #[.slice none 0 0, .agg #[.string ByteArray.empty, .string ByteArray.empty, .slice none 0 0], .agg #[.string ByteArray.empty, .string ByteArray.empty, .bool false, .bool false, .bool false], .int .i64 0], []⟩).memory :=
  laidMet_of_run' 8 (by kernel_rfl) (by kernel_rfl)
theorem reads (os : Os) {H : Type} (enc : TypeId × Value → H) : ∃ places, DataW.whole enc Tryd.prog (({ World.holding Tryd.prog os ⟨#[], #[], []⟩ with heap := ((((((World.holding Tryd.prog os ⟨#[], #[], []⟩).heap.modify 2 fun | .cells _ t frozen => .cells #[.int .i64 1601, .int .i64 9999, .int .i64 1, .int .i64 12, .int .i64 1, .int .i64 31, .int .i64 0, .int .i64 23, .int .i64 0, .int .i64 59, .int .i64 0, .int .i64 59] t frozen | o => o).modify 4 fun | .cells _ t frozen => .cells #[.int .i64 31, .int .i64 28, .int .i64 31, .int .i64 30, .int .i64 31, .int .i64 30, .int .i64 31, .int .i64 31, .int .i64 30, .int .i64 31, .int .i64 30, .int .i64 31] t frozen | o => o).modify 1 fun | .cells _ t frozen => .cells #[.int .i32 9, .int .i32 9, .int .i32 32, .int .i32 47, .int .i32 59, .int .i32 64, .int .i32 91, .int .i32 96, .int .i32 123, .int .i32 126] t frozen | o => o).modify 5 fun | .cells _ t frozen => .cells #[.string ⟨#[74, 97, 110]⟩, .string ⟨#[70, 101, 98]⟩, .string ⟨#[77, 97, 114]⟩, .string ⟨#[65, 112, 114]⟩, .string ⟨#[77, 97, 121]⟩, .string ⟨#[74, 117, 110]⟩, .string ⟨#[74, 117, 108]⟩, .string ⟨#[65, 117, 103]⟩, .string ⟨#[83, 101, 112]⟩, .string ⟨#[79, 99, 116]⟩, .string ⟨#[78, 111, 118]⟩, .string ⟨#[68, 101, 99]⟩] t frozen | o => o).modify 0 fun | .cells _ t frozen => .cells #[.string ⟨#[]⟩, .string ⟨#[110, 111, 110, 101]⟩, .string ⟨#[108, 97, 120]⟩, .string ⟨#[115, 116, 114, 105, 99, 116]⟩] t frozen | o => o) } : World).forCall (fun _ _ => 0) ⟨#[], #[.slice none 0 0, .agg #[.string ByteArray.empty, .string ByteArray.empty, .slice none 0 0], .agg #[.string ByteArray.empty, .string ByteArray.empty, .bool false, .bool false, .bool false], .int .i64 0], []⟩).memory Tryd.f4.params.toList Rows.cookieBarsSpec.vars false (#[.slice none 0 0, .agg #[.string ByteArray.empty, .string ByteArray.empty, .slice none 0 0], .agg #[.string ByteArray.empty, .string ByteArray.empty, .bool false, .bool false, .bool false], .int .i64 0] : Array Value).toList 8 = some ([.nil, .agg [.lit (.string []), .lit (.string []), .nil], .agg [.lit (.string []), .lit (.string []), .lit (.bool false), .lit (.bool false), .lit (.bool false)], .lit (.int .i64 0)], [], places) :=
  ⟨[], by kernel_rfl⟩
set_option maxRecDepth 100000 in
theorem contract (H : Type) (enc : TypeId × Value → H) (W : World) (base : Nat) (args : Array Value) (ds gs : List (DataW H)) (before : List MemPlace)
    (hval0 : ∀ (j : Nat) t v, Tryd.f4.params[j]? = some t → args[j]? = some v → Value.okWide Tryd.prog W .any base t v)
    (hW : DataW.Whole enc Tryd.prog Tryd.f4.params.toList Rows.cookieBarsSpec.vars false W args.toList ds gs before) (hL : laidMetH Tryd.prog Rows.cookieBarsRow.laid W) (hsz : (DataW.weightsEach Tryd.prog (Tryd.f4.params.toList ++ Rows.cookieBarsSpec.plain.varTypes Tryd.prog) (ds ++ gs)).all (· ≤ reachBytes) = true) :
    Calls Tryd.prog 4 args W fun e W' => ∃ v, e = .returned v ∧ Rows.cookieBarsSpec.post enc Tryd.prog Tryd.f4 false true false false W args v W' := by
  have hval : ∀ (j : Nat) t v, Tryd.f4.params[j]? = some t → args[j]? = some v → Value.okWide Tryd.prog W .any base t v := hval0
  have hW' := hW
  obtain ⟨p, q, hA0, hV, rfl, hfz, hnd⟩ := hW
  have hA : DataW.TrodAll enc Tryd.prog W 0 (fun _ => true) true Tryd.f4.params.toList args.toList ds p := hA0
  rw [Tryd.params4] at hA hval hsz
  obtain ⟨v0, vs0, d0, ds0, p0, q0, hargs, rfl, rfl, h0, r0⟩ := trodAll_cons hA
  obtain ⟨v1, vs1, d1, ds1, p1, q1, rfl, rfl, rfl, h1, r1⟩ := trodAll_cons r0
  obtain ⟨v2, vs2, d2, ds2, p2, q2, rfl, rfl, rfl, h2, r2⟩ := trodAll_cons r1
  obtain ⟨v3, vs3, d3, ds3, p3, q3, rfl, rfl, rfl, h3, r3⟩ := trodAll_cons r2
  obtain ⟨rfl, rfl, rfl⟩ := trodAll_nil r3
  obtain rfl : args = #[v0, v1, v2, v3] := by cases args; simp_all
  obtain ⟨rfl, rfl⟩ := trodVars_none hV
  have k0 := h0
  have lt0 : ∀ x ∈ p0, x.block < W.heap.size := by obtain ⟨m, hm⟩ := k0; exact DataW.trod_lt m _ _ _ hm
  have k1 := h1
  have lt1 : ∀ x ∈ p1, x.block < W.heap.size := by obtain ⟨m, hm⟩ := k1; exact DataW.trod_lt m _ _ _ hm
  have k2 := h2
  have lt2 : ∀ x ∈ p2, x.block < W.heap.size := by obtain ⟨m, hm⟩ := k2; exact DataW.trod_lt m _ _ _ hm
  have k3 := h3
  have lt3 : ∀ x ∈ p3, x.block < W.heap.size := by obtain ⟨m, hm⟩ := k3; exact DataW.trod_lt m _ _ _ hm
  obtain ⟨l0, rd0, m0, ok0, bk0⟩ := open_rules (hval 0 22 v0 rfl rfl) k0 140737488351232 (fits_each hsz (j := 0) (t := 22) rfl rfl)
  obtain ⟨va1, l1, rfl, rd1, ok1, bk1⟩ := open_raw (hval 1 25 v1 rfl rfl) k1 140737488351232 (fits_each hsz (j := 1) (t := 25) rfl rfl)
  obtain ⟨l2, rfl, ok2, bk2⟩ := open_from (hval 2 27 v2 rfl rfl) k2 140737488351232 (fits_each hsz (j := 2) (t := 27) rfl rfl)
  obtain ⟨x3, rfl, rfl, hp3, w3⟩ := open_int Tryd.underlying3 (hval 3 3 v3 rfl rfl) h3
  have b3 := i64_of w3
  clear hA0 hval0
  refine (walk v0 l0 va1 l1 l2 x3 W rd0 m0 ok0 rd1 ok1 ok2 b3 (ctabs_of hL)).mono fun e W' ⟨he, bel⟩ => ?_
  subst he
  exact ⟨_, rfl, _, _, _, [], _, [], hW', trodAll_mk1 (shut_bool Tryd.underlying4 _), (trodAll_cons_mk (Below.trod laidOut (by kernel_rfl) (of_decide_eq_true (by kernel_rfl)) k0 bel lt0) (trodAll_cons_mk (Below.trod laidOut (by kernel_rfl) (of_decide_eq_true (by kernel_rfl)) k1 bel lt1) (trodAll_cons_mk (Below.trod laidOut (by kernel_rfl) (of_decide_eq_true (by kernel_rfl)) k2 bel lt2) (trodAll_cons_mk (Below.trod laidOut (by kernel_rfl) (of_decide_eq_true (by kernel_rfl)) k3 bel lt3) trodAll_mk0)))), rfl, bel.frame _, fun h => by cases h⟩
set_option maxRecDepth 100000 in
theorem lifted (os : Os) (started : os.Started) (H : Type) (enc : TypeId × Value → H) (F : Stop.Interp) :
    ReturnsInHanded {} Tryd.checked os 4 .any ((OpenSpec.ofChange Rows.cookieBarsSpec).preRow enc Tryd.prog Tryd.f4 Rows.cookieBarsRow.domain false Rows.cookieBarsRow.laid) (((OpenSpec.ofChange Rows.cookieBarsSpec).at F).post enc Tryd.prog Tryd.f4 false true false false) := by
  obtain ⟨places, hx⟩ := reads os enc
  refine returnsInHanded_of_row (C := Tryd.checked) (s := (OpenSpec.ofChange Rows.cookieBarsSpec)) own started (by kernel_rfl) Tryd.func4
    (witness_row_at (enc := enc) (C := Tryd.checked) false ({ World.holding Tryd.prog os ⟨#[], #[], []⟩ with heap := ((((((World.holding Tryd.prog os ⟨#[], #[], []⟩).heap.modify 2 fun | .cells _ t frozen => .cells #[.int .i64 1601, .int .i64 9999, .int .i64 1, .int .i64 12, .int .i64 1, .int .i64 31, .int .i64 0, .int .i64 23, .int .i64 0, .int .i64 59, .int .i64 0, .int .i64 59] t frozen | o => o).modify 4 fun | .cells _ t frozen => .cells #[.int .i64 31, .int .i64 28, .int .i64 31, .int .i64 30, .int .i64 31, .int .i64 30, .int .i64 31, .int .i64 31, .int .i64 30, .int .i64 31, .int .i64 30, .int .i64 31] t frozen | o => o).modify 1 fun | .cells _ t frozen => .cells #[.int .i32 9, .int .i32 9, .int .i32 32, .int .i32 47, .int .i32 59, .int .i32 64, .int .i32 91, .int .i32 96, .int .i32 123, .int .i32 126] t frozen | o => o).modify 5 fun | .cells _ t frozen => .cells #[.string ⟨#[74, 97, 110]⟩, .string ⟨#[70, 101, 98]⟩, .string ⟨#[77, 97, 114]⟩, .string ⟨#[65, 112, 114]⟩, .string ⟨#[77, 97, 121]⟩, .string ⟨#[74, 117, 110]⟩, .string ⟨#[74, 117, 108]⟩, .string ⟨#[65, 117, 103]⟩, .string ⟨#[83, 101, 112]⟩, .string ⟨#[79, 99, 116]⟩, .string ⟨#[78, 111, 118]⟩, .string ⟨#[68, 101, 99]⟩] t frozen | o => o).modify 0 fun | .cells _ t frozen => .cells #[.string ⟨#[]⟩, .string ⟨#[110, 111, 110, 101]⟩, .string ⟨#[108, 97, 120]⟩, .string ⟨#[115, 116, 114, 105, 99, 116]⟩] t frozen | o => o) } : World) #[.slice none 0 0, .agg #[.string ByteArray.empty, .string ByteArray.empty, .slice none 0 0], .agg #[.string ByteArray.empty, .string ByteArray.empty, .bool false, .bool false, .bool false], .int .i64 0] rfl (by kernel_rfl) (by kernel_rfl) (by kernel_rfl)
      (OpenSpec.preRow_of_cond 8 hx (by kernel_rfl) (fun k hk => by cases hk) (by kernel_rfl) (laid_met os))) ?_
  intro W base args ds gs before hval hW _ _ hsz hL _ _
  exact contract H enc W base args ds gs before hval hW hL hsz
theorem said : Rows.CookieBarsSaid :=
  OpenClaim.holds_of_cond 4 Tryd.f4 rfl rfl rfl rfl rfl rfl rfl ⟨rfl, rfl, rfl, rfl, rfl⟩ rfl rfl rfl rfl rfl (by kernel_rfl) Tryd.func4 (by kernel_rfl)
    (of_decide_eq_true (by kernel_rfl)) (by unfold Func.isWrapper; first | (rw [if_pos (by decide +kernel)]; kernel_rfl) | (rw [if_neg (by decide +kernel)]; exact ⟨rfl, rfl⟩))
    (fun os started H enc _ F => by rw [OpenClaim.pre_eq_preRow]; exact lifted os started H enc F)
theorem plain (f : FuncId) (fn : Func) (hf : Tryd.pinned.checked.prog.funcNamed "gingersnap/gingersnaplaw.CookieBars" = some f) (hfn : Tryd.pinned.checked.prog.funcs[f]? = some fn) :
    false = Tryd.pinned.checked.prog.looks [] ∧ ∀ (j : Nat) t, fn.params[j]? = some t → Tryd.pinned.checked.prog.wantsStandIn t = false := by
  obtain rfl : f = 4 := Option.some.inj ((show Tryd.prog.funcNamed "gingersnap/gingersnaplaw.CookieBars" = some 4 by kernel_rfl).symm.trans hf) |>.symm
  obtain rfl : fn = Tryd.f4 := (Option.some.inj (Tryd.func4.symm.trans hfn)).symm
  refine ⟨by kernel_rfl, fun j t ht => ?_⟩
  rw [Tryd.params4] at ht
  have ht2 := Array.mem_of_getElem? ht
  have ht3 : t = 3 ∨ t = 22 ∨ t = 25 ∨ t = 27 := by simp at ht2; first | exact ht2 | exact ht2.symm | (rcases ht2 with h | h <;> simp [h]) | (rcases ht2 with h | h | h <;> simp [h]) | (rcases ht2 with h | h | h | h <;> simp [h]) | (rcases ht2 with h | h | h | h | h <;> simp [h])
  rcases ht3 with rfl | rfl | rfl | rfl
  · exact (show Tryd.prog.wantsStandIn 3 = false by kernel_rfl)
  · exact (show Tryd.prog.wantsStandIn 22 = false by kernel_rfl)
  · exact (show Tryd.prog.wantsStandIn 25 = false by kernel_rfl)
  · exact (show Tryd.prog.wantsStandIn 27 = false by kernel_rfl)
theorem card : Rows.CookieBarsCardSaid :=
  Claim7.holds_tied_plain_at .later [] _ _ _ _ said (fun _ h => by cases h) (by kernel_rfl) (fun _ h => by cases h) cookieBars_row_tie rfl ⟨rfl, rfl⟩ (by kernel_rfl) rfl plain (by kernel_rfl)
#print axioms card
end Go.Proofs.YtgjjkieljdamfaeDoor.cookieBars
