/- GoesBack: for all rules of public suffixes, all cookies as headers tell them, all who set them and all moments: what was set goes back to where it came from, at the same moment, if it is live, for its own site, and has that path. No condition. -/
import Derived.Test.YtgjjkieljdamfafDoorXD
import Derived.Test.YtgjjkieljdamfafDoorXE
import Derived.Test.YtgjjkieljdamfafDoorXF
import Derived.Test.YtgjjkieljdamfafDoorOpen
import Derived.Test.YtgjjkieljdamfafDoorCards
import Derived.Test.YtgjjkieljdamfafDoorTie
namespace Go.Proofs.YtgjjkieljdamfafDoor.goesBack
open Go.ChangeShapes Go.WideShapes Go.ChangeAt Go.RowKit
open Go.ChangeMaps (open_string shut_string)
set_option linter.all false
set_option maxRecDepth 100000
set_option maxRecDepth 100000

def ckOf (m : Mk) : Ck := ⟨m.name, m.value, m.domain, m.path, m.hostOnly, m.secure, m.httpOnly, m.lasting, m.site, m.expiry, m.created, m.used, 0⟩
theorem goes_back {l : Rules} {r : Raw} {f : Fr} {now : Int} (ha : ∀ a ∈ r.2.2, a.2.length ≤ maxLen) (h : makeE l r f now = 0) (hab : f.abroad = false) :
    goesL (ckOf (madeM l r f now)) f now = (liveB (ckOf (madeM l r f now)) now && pmatchL f.path (madeM l r f now).path) := by
  have hd := made_dom ha h
  obtain ⟨b1, b2, _, _⟩ := made_bars ha h
  generalize madeM l r f now = m at *
  have e1 : hostB (ckOf m) f = true := by
    unfold hostB
    rcases hd with ⟨h1, h2⟩ | ⟨h1, h2, _⟩
    · rw [show (ckOf m).hostOnly = true from h1, if_pos rfl, show (ckOf m).domain = f.host from h2]; simp
    · rw [show (ckOf m).hostOnly = false from h1, if_neg (by decide)]; exact h2
  have e2 : wayB (ckOf m) f = true := by
    unfold wayB
    show (f.secure || !m.secure) = true
    cases e : m.secure
    · simp
    · rw [b2 e]; rfl
  have e3 : handB (ckOf m) f = true := by
    unfold handB
    show (!f.script || !m.httpOnly) = true
    cases e : m.httpOnly
    · simp
    · rw [b1 e]; rfl
  have e4 : siteB (ckOf m) f = true := by unfold siteB; rw [hab]; rfl
  unfold goesL
  rw [e1, e2, e3, e4]
  unfold pathB
  simp [ckOf]
theorem default_len (p : List UInt8) : (defaultL p).length ≤ p.length + 1 := by
  unfold defaultL
  by_cases h : deepB p = true
  · rw [if_pos h]
    unfold aheadL
    rw [List.length_reverse, List.length_drop]
    have := (List.dropWhile_suffix (l := p.reverse) (fun c => c != 47)).length_le
    rw [List.length_reverse] at this
    omega
  · rw [if_neg h]; simp
theorem take_plen (K : Nat) (m : Mk) (a : Attr) (f : Fr) (hf : m.fr = f) (hp : m.path.length ≤ K) (hd : (defaultL f.path).length ≤ K) (ha : a.2.length ≤ K) : (takeM m a).path.length ≤ K ∧ (takeM m a).fr = f := by
  unfold takeM
  by_cases k0 : a.1 = [101, 120, 112, 105, 114, 101, 115]
  · rw [if_pos k0]
    by_cases e : readE a.2 = 0
    · rw [if_pos e]; exact ⟨hp, hf⟩
    · rw [if_neg e]; exact ⟨hp, hf⟩
  rw [if_neg k0]
  by_cases k1 : a.1 = [109, 97, 120, 45, 97, 103, 101]
  · rw [if_pos k1]
    by_cases e : ageB a.2 = true
    · rw [if_pos e]; exact ⟨hp, hf⟩
    · rw [if_neg e]; exact ⟨hp, hf⟩
  rw [if_neg k1]
  by_cases k2 : a.1 = [100, 111, 109, 97, 105, 110]
  · rw [if_pos k2]
    by_cases e : cutP a.2 [46] = []
    · rw [if_pos e]; exact ⟨hp, hf⟩
    · rw [if_neg e]; exact ⟨hp, hf⟩
  rw [if_neg k2]
  by_cases k3 : a.1 = [112, 97, 116, 104]
  · rw [if_pos k3]
    refine ⟨?_, hf⟩
    show (if Lib.hasPrefix a.2 [47] then a.2 else defaultL m.fr.path).length ≤ K
    by_cases e : Lib.hasPrefix a.2 [47] = true
    · rw [if_pos e]; exact ha
    · rw [if_neg e, hf]; exact hd
  rw [if_neg k3]
  by_cases k4 : a.1 = [115, 101, 99, 117, 114, 101]
  · rw [if_pos k4]; exact ⟨hp, hf⟩
  rw [if_neg k4]
  by_cases k5 : a.1 = [104, 116, 116, 112, 111, 110, 108, 121]
  · rw [if_pos k5]; exact ⟨hp, hf⟩
  rw [if_neg k5]
  by_cases k6 : a.1 = [115, 97, 109, 101, 115, 105, 116, 101]
  · rw [if_pos k6]; exact ⟨hp, hf⟩
  rw [if_neg k6]
  exact ⟨hp, hf⟩
theorem takes_plen (K : Nat) (f : Fr) (hd : (defaultL f.path).length ≤ K) : ∀ (l : List Attr) (m : Mk), m.fr = f → m.path.length ≤ K → (∀ a ∈ l, a.2.length ≤ K) → (l.foldl takeM m).path.length ≤ K
  | [], _, _, h, _ => h
  | a :: l, m, hf, h, hl => by
    have h1 := take_plen K m a f hf h hd (hl a (by simp))
    exact takes_plen K f hd l _ h1.2 h1.1 (fun b hb => hl b (by simp [hb]))
theorem made_plen (K : Nat) (l : Rules) (r : Raw) (f : Fr) (now : Int) (hd : f.path.length + 1 ≤ K) (ha : ∀ a ∈ r.2.2, a.2.length ≤ K) : (madeM l r f now).path.length ≤ K := by
  have h := takes_plen K f (Nat.le_trans (default_len _) hd) r.2.2 (beginM r f now) rfl (Nat.le_trans (default_len _) hd) ha
  unfold madeM domM
  by_cases e : domE l (expiryM (r.2.2.foldl takeM (beginM r f now))) = 0
  · rw [if_pos e]
    cases domOwn l (expiryM (r.2.2.foldl takeM (beginM r f now))) <;> exact h
  · rw [if_neg e]; exact h
theorem live_b (c : Ck) (t : Int) (b : Bool) (W : World) (h : liveB c t = b) : Calls Tryd.prog 9 #[.agg (ckC c).toArray, .int .i64 t] W fun e w' => e = .returned (.bool b) ∧ Below W.heap.size W w' := by subst h; exact live_any c t W
theorem goes_b (c : Ck) (f : Fr) (t : Int) (b : Bool) (W : World) (h : goesL c f t = b) (hh : f.host.length ≤ maxLen) (hp : f.path.length ≤ maxLen) (hd : c.domain.length < maxLen) (hc : c.path.length ≤ maxLen) :
    Calls Tryd.prog 8 #[.agg (ckC c).toArray, .agg (frL f).toArray, .int .i64 t] W fun e w' => e = .returned (.bool b) ∧ Below W.heap.size W w' := by subst h; exact goes_any c f t W hh hp hd hc
theorem path_b (p o : List UInt8) (b : Bool) (W : World) (h : pmatchL p o = b) (hp : (txt p).size ≤ maxLen) (ho : (txt o).size ≤ maxLen) :
    Calls Tryd.prog 10 #[.string (txt p), .string (txt o)] W fun e w' => e = .returned (.bool b) ∧ w' = W := by subst h; exact pathMatch_any (txt p) (txt o) W hp ho
set_option maxHeartbeats 8000000 in
theorem walk (v : Value) (l : Rules) (va : Value) (r : Raw) (f : Fr) (now : Int) (w : World) (hl : Rows w v ruleF l) (hlm : l.length ≤ 140737488351232) (hok : ∀ r ∈ l, (-9223372036854775808 ≤ r.1 ∧ r.1 ≤ 9223372036854775807) ∧ r.2.length ≤ 140737488351232)
    (hr : Rows w va attrF r.2.2) (hro : r.2.2.length ≤ 140737488351232 ∧ r.1.length ≤ 140737488351232 ∧ r.2.1.length ≤ 140737488351232 ∧ ∀ a ∈ r.2.2, a.1.length ≤ 140737488351232 ∧ a.2.length ≤ 140737488351232)
    (hfo : f.host.length ≤ 140737488351232 ∧ f.path.length ≤ 140737488351232) (hnow : -9223372036854775808 ≤ now ∧ now ≤ 9223372036854775807) (T : CTabs w) :
    Calls Tryd.prog 4 #[v, .agg #[.string (txt r.1), .string (txt r.2.1), va], .agg (frL f).toArray, .int .i64 now] w fun e w' => e = .returned (.bool true) ∧ Below w.heap.size w w' := by
  have HPL : Hid (f.path.length + 1 ≤ maxLen) := by show _ ≤ _; unfold maxLen; omega
  have HHL : Hid (f.host.length < maxLen) := by show _ < _; unfold maxLen; omega
  obtain ⟨q1, q2, q3, q4⟩ := hro
  have HT : Hid _ := T
  have HL : Hid (Rows w v sufF l) := hl
  have HLM : Hid (l.length ≤ maxLen) := by show _ ≤ _; unfold maxLen; omega
  have HOK : Hid (∀ r ∈ l, okR r) := fun r hr => ⟨(hok r hr).1, by have := (hok r hr).2; unfold maxLen; omega⟩
  have HR : Hid (Rows w va attrF r.2.2) := hr
  have HM : Hid (r.2.2.length ≤ maxLen) := by show _ ≤ _; unfold maxLen; omega
  have HN : Hid (r.1.length ≤ maxLen) := by show _ ≤ _; unfold maxLen; omega
  have HV : Hid (r.2.1.length ≤ maxLen) := by show _ ≤ _; unfold maxLen; omega
  have HA : Hid (∀ a ∈ r.2.2, a.1.length ≤ maxLen ∧ a.2.length ≤ maxLen) := fun a ha => by have := q4 a ha; unfold maxLen; omega
  have HH : Hid (f.host.length ≤ maxLen) := by show _ ≤ _; unfold maxLen; omega
  have HP : Hid (f.path.length ≤ maxLen) := by show _ ≤ _; unfold maxLen; omega
  have HNOW : Hid _ := hnow
  have HAA : Hid (∀ a ∈ r.2.2, a.2.length ≤ maxLen) := fun a ha => (HA.out a ha).2
  obtain ⟨ad, cap, rfl⟩ := hr.shape
  obtain ⟨adl, capl, rfl⟩ := Rows.shape HL.out
  clear T hl hlm hok hr q1 q2 q3 q4 hfo hnow
  simp only [frL]
  obtain ⟨W0, hW0⟩ : ∃ W0, W0 = ((w.alloc (.cells #[.string (txt r.1), .string (txt r.2.1), .slice ad r.2.2.length cap] 25)).alloc (.cells #[.string (txt f.host), .string (txt f.path), .bool f.secure, .bool f.script, .bool f.abroad] 27)) := ⟨_, rfl⟩
  have F0 : Hid (LRow W0 (w.heap.size + 1) (frL f)) := by
    rw [hW0]
    have h := LRow.new (w.alloc (.cells #[.string (txt r.1), .string (txt r.2.1), .slice ad r.2.2.length cap] 25)) (frL f) 27
    rw [show (w.alloc (.cells #[.string (txt r.1), .string (txt r.2.1), .slice ad r.2.2.length cap] 25)).heap.size = w.heap.size + 1 from by simp] at h
    exact h
  have B0 : Hid (Below w.heap.size w W0) := by
    rw [hW0]
    exact ((Below.refl _ _).alloc (Nat.le_refl _) _).alloc (by simp) _
  obtain ⟨ee, hee⟩ : ∃ x, x = makeE l r f now := ⟨_, rfl⟩
  obtain ⟨mk, hmk⟩ : ∃ x, x = madeM l r f now := ⟨_, rfl⟩
  have HEE : Hid _ := hee
  by_cases k0 : ee = 0
  · have hz : makeE l r f now = 0 := by rw [← hee]; exact k0
    have HOO : Hid (outL l r f now = ckL mk) := by show _ = _; unfold outL; rw [hz, if_pos rfl, ← hmk]
    have HGB : Hid (f.abroad = false → goesL (ckOf mk) f now = (liveB (ckOf mk) now && pmatchL f.path mk.path)) := by rw [hmk]; exact fun e => goes_back HAA.out hz e
    have HLP : Hid (mk.path.length ≤ maxLen) := by rw [hmk]; exact made_plen _ l r f now HPL.out HAA.out
    have HLD : Hid (mk.domain.length < maxLen) := by
      rw [hmk]
      rcases made_dom HAA.out hz with ⟨_, h2⟩ | ⟨_, _, _, _, h2⟩
      · rw [h2]; exact HHL.out
      · show _ < _; unfold maxLen; omega
    clear hz hee hmk
    subst k0
    go_enter Tryd.func4, Tryd.ntmps4
    go_wp2_with fail
    rw [← hW0]
    clear hW0
    refine (make_any _ l _ r f now _ (HT.out.below B0.out (Nat.le_refl _)) (Rows.below HL.out B0.out (Nat.le_refl _)) HLM.out HOK.out (Rows.below HR.out B0.out (Nat.le_refl _)) HM.out HN.out HV.out HA.out HH.out HP.out HNOW.out).mono ?_
    rw [HOO.out, show (ckL mk).toArray = #[.string (txt mk.name), .string (txt mk.value), .string (txt mk.domain), .string (txt mk.path), .bool mk.hostOnly, .bool mk.secure, .bool mk.httpOnly, .bool mk.lasting, .int .i64 mk.site, .int .i64 mk.expiry, .int .i64 mk.created, .int .i64 mk.used, .int .i64 0] from rfl, ← HEE.out]
    rintro e w1 ⟨rfl, hb1⟩
    have F1 : Hid _ := F0.out.below hb1 (LRow.lt5 F0.out)
    have hx1 : Below w1.heap.size w1 (w1.alloc (.cells #[.string (txt mk.name), .string (txt mk.value), .string (txt mk.domain), .string (txt mk.path), .bool mk.hostOnly, .bool mk.secure, .bool mk.httpOnly, .bool mk.lasting, .int .i64 mk.site, .int .i64 mk.expiry, .int .i64 mk.created, .int .i64 mk.used, .int .i64 0] 32)) := (Below.refl _ _).alloc (Nat.le_refl _) _
    have C1 : Hid (LRow (w1.alloc (.cells #[.string (txt mk.name), .string (txt mk.value), .string (txt mk.domain), .string (txt mk.path), .bool mk.hostOnly, .bool mk.secure, .bool mk.httpOnly, .bool mk.lasting, .int .i64 mk.site, .int .i64 mk.expiry, .int .i64 mk.created, .int .i64 mk.used, .int .i64 0] 32)) w1.heap.size (ckL mk)) := LRow.new w1 (ckL mk) _
    have F2 : Hid _ := F1.out.below hx1 (LRow.lt5 F1.out)
    have B2 : Hid _ := next (next B0.out hb1) hx1
    clear hb1 hx1 F0 F1 B0
    go_wp2_with fail
    refine (goesBegun_any _).mono ?_
    rintro e w2 ⟨rfl, hb2⟩
    have C3 : Hid _ := C1.out.below hb2 (LRow.lt5 C1.out)
    have F3 : Hid _ := F2.out.below hb2 (LRow.lt5 F2.out)
    have B3 : Hid _ := next B2.out hb2
    clear hb2 C1 F2 B2
    go_wp2_with fail
    refine (cookieBegun_any _ (HT.out.below B3.out (Nat.le_refl _))).mono ?_
    rintro e w3 ⟨rfl, hb3⟩
    have C4 : Hid (LRow w3 w1.heap.size (ckL mk)) := C3.out.below hb3 (LRow.lt5 C3.out)
    have F4 : Hid (LRow w3 (w.heap.size + 1) (frL f)) := F3.out.below hb3 (LRow.lt5 F3.out)
    have B4 : Hid _ := next B3.out hb3
    clear hb3 C3 F3 B3
    cases hab : f.abroad
    · have f4 : w3.cell? ⟨w.heap.size + 1, 4, none⟩ = some (.bool false) := by rw [← hab]; exact F4.out.cell 4 rfl
      have hg := HGB.out hab
      obtain ⟨b2, h2⟩ : ∃ b, liveB (ckOf mk) now = b := ⟨_, rfl⟩
      obtain ⟨b3, h3⟩ : ∃ b, pmatchL f.path mk.path = b := ⟨_, rfl⟩
      rw [h2, h3] at hg
      have H1 : Hid _ := hg
      have H2 : Hid _ := h2
      have H3 : Hid _ := h3
      have HAB : Hid _ := hab
      clear hg h2 h3 hab
      have y0 : ∀ x : Ext w3, x.1.cell? ⟨w1.heap.size, 0, none⟩ = some (.string (txt mk.name)) := Ext.cell (C4.out.cell 0 rfl)
      have y1 : ∀ x : Ext w3, x.1.cell? ⟨w1.heap.size, 1, none⟩ = some (.string (txt mk.value)) := Ext.cell (C4.out.cell 1 rfl)
      have y2 : ∀ x : Ext w3, x.1.cell? ⟨w1.heap.size, 2, none⟩ = some (.string (txt mk.domain)) := Ext.cell (C4.out.cell 2 rfl)
      have y3 : ∀ x : Ext w3, x.1.cell? ⟨w1.heap.size, 3, none⟩ = some (.string (txt mk.path)) := Ext.cell (C4.out.cell 3 rfl)
      have y4 : ∀ x : Ext w3, x.1.cell? ⟨w1.heap.size, 4, none⟩ = some (.bool mk.hostOnly) := Ext.cell (C4.out.cell 4 rfl)
      have y5 : ∀ x : Ext w3, x.1.cell? ⟨w1.heap.size, 5, none⟩ = some (.bool mk.secure) := Ext.cell (C4.out.cell 5 rfl)
      have y6 : ∀ x : Ext w3, x.1.cell? ⟨w1.heap.size, 6, none⟩ = some (.bool mk.httpOnly) := Ext.cell (C4.out.cell 6 rfl)
      have y7 : ∀ x : Ext w3, x.1.cell? ⟨w1.heap.size, 7, none⟩ = some (.bool mk.lasting) := Ext.cell (C4.out.cell 7 rfl)
      have y8 : ∀ x : Ext w3, x.1.cell? ⟨w1.heap.size, 8, none⟩ = some (.int .i64 mk.site) := Ext.cell (C4.out.cell 8 rfl)
      have y9 : ∀ x : Ext w3, x.1.cell? ⟨w1.heap.size, 9, none⟩ = some (.int .i64 mk.expiry) := Ext.cell (C4.out.cell 9 rfl)
      have y10 : ∀ x : Ext w3, x.1.cell? ⟨w1.heap.size, 10, none⟩ = some (.int .i64 mk.created) := Ext.cell (C4.out.cell 10 rfl)
      have y11 : ∀ x : Ext w3, x.1.cell? ⟨w1.heap.size, 11, none⟩ = some (.int .i64 mk.used) := Ext.cell (C4.out.cell 11 rfl)
      have y12 : ∀ x : Ext w3, x.1.cell? ⟨w1.heap.size, 12, none⟩ = some (.int .i64 0) := Ext.cell (C4.out.cell 12 rfl)
      have z0 : ∀ x : Ext w3, x.1.cell? ⟨w.heap.size + 1, 0, none⟩ = some (.string (txt f.host)) := Ext.cell (F4.out.cell 0 rfl)
      have z1 : ∀ x : Ext w3, x.1.cell? ⟨w.heap.size + 1, 1, none⟩ = some (.string (txt f.path)) := Ext.cell (F4.out.cell 1 rfl)
      have z2 : ∀ x : Ext w3, x.1.cell? ⟨w.heap.size + 1, 2, none⟩ = some (.bool f.secure) := Ext.cell (F4.out.cell 2 rfl)
      have z3 : ∀ x : Ext w3, x.1.cell? ⟨w.heap.size + 1, 3, none⟩ = some (.bool f.script) := Ext.cell (F4.out.cell 3 rfl)
      have z4 : ∀ x : Ext w3, x.1.cell? ⟨w.heap.size + 1, 4, none⟩ = some (.bool f.abroad) := Ext.cell (F4.out.cell 4 rfl)
      cases b2 <;> cases b3
      all_goals
        go_wp2_with fail
        refine wp_region_ext (by kernel_rfl) (by kernel_rfl) ?_
        repeat (go_big_quiet_step (first | rfl))
        go_big_quiet_step (first | (go_at_call 8; exact ext_call (goes_b (ckOf mk) f now _ _ H1.out HH.out HP.out HLD.out HLP.out)))
        repeat (go_big_quiet_step (first | rfl))
        go_big_quiet_step (first | (go_at_call 9; exact ext_call (live_b (ckOf mk) now _ _ H2.out)))
        repeat (go_big_quiet_step (first | rfl))
        try go_big_quiet_step (first | (go_at_call 10; exact ext_same (path_b f.path mk.path _ _ H3.out HP.out HLP.out)))
        repeat (go_big_quiet_step (first | rfl))
        refine wpQuiet_nil ?_
        intro wx hwx
        obtain ⟨x, rfl⟩ := hwx
        go_wp2_with fail
        go_ret
        exact ⟨rfl, next B4.out x.2⟩
    · have f4 : w3.cell? ⟨w.heap.size + 1, 4, none⟩ = some (.bool true) := by rw [← hab]; exact F4.out.cell 4 rfl
      clear hab
      go_wp2_with fail
      go_ret
      exact ⟨rfl, B4.out⟩
  · have HOO : Hid (outL l r f now = ck0) := by show _ = _; unfold outL; rw [← hee, if_neg k0]
    have hne : (ee != 0) = true := by rw [bne_iff_ne]; exact k0
    clear hee hmk k0
    go_enter Tryd.func4, Tryd.ntmps4
    go_wp2_with fail
    rw [← hW0]
    clear hW0
    refine (make_any _ l _ r f now _ (HT.out.below B0.out (Nat.le_refl _)) (Rows.below HL.out B0.out (Nat.le_refl _)) HLM.out HOK.out (Rows.below HR.out B0.out (Nat.le_refl _)) HM.out HN.out HV.out HA.out HH.out HP.out HNOW.out).mono ?_
    rw [HOO.out, show ck0.toArray = #[.string ⟨#[]⟩, .string ⟨#[]⟩, .string ⟨#[]⟩, .string ⟨#[]⟩, .bool false, .bool false, .bool false, .bool false, .int .i64 0, .int .i64 0, .int .i64 0, .int .i64 0, .int .i64 0] from rfl, ← HEE.out]
    rintro e w1 ⟨rfl, hb1⟩
    have hx1 : Below w1.heap.size w1 (w1.alloc (.cells #[.string ⟨#[]⟩, .string ⟨#[]⟩, .string ⟨#[]⟩, .string ⟨#[]⟩, .bool false, .bool false, .bool false, .bool false, .int .i64 0, .int .i64 0, .int .i64 0, .int .i64 0, .int .i64 0] 32)) := (Below.refl _ _).alloc (Nat.le_refl _) _
    have B2 : Hid _ := next (next B0.out hb1) hx1
    clear hb1 hx1 B0
    go_wp2_with fail
    refine (goesBegun_any _).mono ?_
    rintro e w2 ⟨rfl, hb2⟩
    have B3 : Hid _ := next B2.out hb2
    clear hb2 B2
    go_wp2_with fail
    refine (cookieBegun_any _ (HT.out.below B3.out (Nat.le_refl _))).mono ?_
    rintro e w3 ⟨rfl, hb3⟩
    have B4 : Hid _ := next B3.out hb3
    clear hb3 B3
    go_wp2_with fail
    go_ret
    exact ⟨rfl, B4.out⟩

theorem laid_met (os : Os) : laidMet Tryd.prog Rows.goesBackRow.laid (({ World.holding Tryd.prog os ⟨#[], #[], []⟩ with heap := ((((((World.holding Tryd.prog os ⟨#[], #[], []⟩).heap.modify 2 fun | .cells _ t frozen => .cells #[.int .i64 1601, .int .i64 9999, .int .i64 1, .int .i64 12, .int .i64 1, .int .i64 31, .int .i64 0, .int .i64 23, .int .i64 0, .int .i64 59, .int .i64 0, .int .i64 59] t frozen | o => o).modify 4 fun | .cells _ t frozen => .cells #[.int .i64 31, .int .i64 28, .int .i64 31, .int .i64 30, .int .i64 31, .int .i64 30, .int .i64 31, .int .i64 31, .int .i64 30, .int .i64 31, .int .i64 30, .int .i64 31] t frozen | o => o).modify 1 fun | .cells _ t frozen => .cells #[.int .i32 9, .int .i32 9, .int .i32 32, .int .i32 47, .int .i32 59, .int .i32 64, .int .i32 91, .int .i32 96, .int .i32 123, .int .i32 126] t frozen | o => o).modify 5 fun | .cells _ t frozen => .cells #[.string ⟨#[74, 97, 110]⟩, .string ⟨#[70, 101, 98]⟩, .string ⟨#[77, 97, 114]⟩, .string ⟨#[65, 112, 114]⟩, .string ⟨#[77, 97, 121]⟩, .string ⟨#[74, 117, 110]⟩, .string ⟨#[74, 117, 108]⟩, .string ⟨#[65, 117, 103]⟩, .string ⟨#[83, 101, 112]⟩, .string ⟨#[79, 99, 116]⟩, .string ⟨#[78, 111, 118]⟩, .string ⟨#[68, 101, 99]⟩] t frozen | o => o).modify 0 fun | .cells _ t frozen => .cells #[.string ⟨#[]⟩, .string ⟨#[110, 111, 110, 101]⟩, .string ⟨#[108, 97, 120]⟩, .string ⟨#[115, 116, 114, 105, 99, 116]⟩] t frozen | o => o) } : World).forCall (fun _ _ => 0) ⟨#[], #[.slice none 0 0, .agg #[.string ByteArray.empty, .string ByteArray.empty, .slice none 0 0], .agg #[.string ByteArray.empty, .string ByteArray.empty, .bool false, .bool false, .bool false], .int .i64 0], []⟩).memory :=
  laidMet_of_run' 8 (by kernel_rfl) (by kernel_rfl)
theorem reads (os : Os) {H : Type} (enc : TypeId × Value → H) : ∃ places, DataW.whole enc Tryd.prog (({ World.holding Tryd.prog os ⟨#[], #[], []⟩ with heap := ((((((World.holding Tryd.prog os ⟨#[], #[], []⟩).heap.modify 2 fun | .cells _ t frozen => .cells #[.int .i64 1601, .int .i64 9999, .int .i64 1, .int .i64 12, .int .i64 1, .int .i64 31, .int .i64 0, .int .i64 23, .int .i64 0, .int .i64 59, .int .i64 0, .int .i64 59] t frozen | o => o).modify 4 fun | .cells _ t frozen => .cells #[.int .i64 31, .int .i64 28, .int .i64 31, .int .i64 30, .int .i64 31, .int .i64 30, .int .i64 31, .int .i64 31, .int .i64 30, .int .i64 31, .int .i64 30, .int .i64 31] t frozen | o => o).modify 1 fun | .cells _ t frozen => .cells #[.int .i32 9, .int .i32 9, .int .i32 32, .int .i32 47, .int .i32 59, .int .i32 64, .int .i32 91, .int .i32 96, .int .i32 123, .int .i32 126] t frozen | o => o).modify 5 fun | .cells _ t frozen => .cells #[.string ⟨#[74, 97, 110]⟩, .string ⟨#[70, 101, 98]⟩, .string ⟨#[77, 97, 114]⟩, .string ⟨#[65, 112, 114]⟩, .string ⟨#[77, 97, 121]⟩, .string ⟨#[74, 117, 110]⟩, .string ⟨#[74, 117, 108]⟩, .string ⟨#[65, 117, 103]⟩, .string ⟨#[83, 101, 112]⟩, .string ⟨#[79, 99, 116]⟩, .string ⟨#[78, 111, 118]⟩, .string ⟨#[68, 101, 99]⟩] t frozen | o => o).modify 0 fun | .cells _ t frozen => .cells #[.string ⟨#[]⟩, .string ⟨#[110, 111, 110, 101]⟩, .string ⟨#[108, 97, 120]⟩, .string ⟨#[115, 116, 114, 105, 99, 116]⟩] t frozen | o => o) } : World).forCall (fun _ _ => 0) ⟨#[], #[.slice none 0 0, .agg #[.string ByteArray.empty, .string ByteArray.empty, .slice none 0 0], .agg #[.string ByteArray.empty, .string ByteArray.empty, .bool false, .bool false, .bool false], .int .i64 0], []⟩).memory Tryd.f4.params.toList Rows.goesBackSpec.vars false (#[.slice none 0 0, .agg #[.string ByteArray.empty, .string ByteArray.empty, .slice none 0 0], .agg #[.string ByteArray.empty, .string ByteArray.empty, .bool false, .bool false, .bool false], .int .i64 0] : Array Value).toList 8 = some ([.nil, .agg [.lit (.string []), .lit (.string []), .nil], .agg [.lit (.string []), .lit (.string []), .lit (.bool false), .lit (.bool false), .lit (.bool false)], .lit (.int .i64 0)], [], places) :=
  ⟨[], by kernel_rfl⟩
set_option maxRecDepth 100000 in
theorem contract (H : Type) (enc : TypeId × Value → H) (W : World) (base : Nat) (args : Array Value) (ds gs : List (DataW H)) (before : List MemPlace)
    (hval0 : ∀ (j : Nat) t v, Tryd.f4.params[j]? = some t → args[j]? = some v → Value.okWide Tryd.prog W .any base t v)
    (hW : DataW.Whole enc Tryd.prog Tryd.f4.params.toList Rows.goesBackSpec.vars false W args.toList ds gs before) (hL : laidMetH Tryd.prog Rows.goesBackRow.laid W) (hsz : (DataW.weightsEach Tryd.prog (Tryd.f4.params.toList ++ Rows.goesBackSpec.plain.varTypes Tryd.prog) (ds ++ gs)).all (· ≤ reachBytes) = true) :
    Calls Tryd.prog 4 args W fun e W' => ∃ v, e = .returned v ∧ Rows.goesBackSpec.post enc Tryd.prog Tryd.f4 false true false false W args v W' := by
  have hval : ∀ (j : Nat) t v, Tryd.f4.params[j]? = some t → args[j]? = some v → Value.okWide Tryd.prog W .any base t v := hval0
  have hW' := hW
  obtain ⟨p, q, hA0, hV, rfl, hfz, hnd⟩ := hW
  have hA : DataW.TrodAll enc Tryd.prog W 0 (fun _ => true) true Tryd.f4.params.toList args.toList ds p := hA0
  rw [Tryd.params4] at hA hval hsz
  obtain ⟨v0, vs0, d0, ds0, p0, q0, hargs, rfl, rfl, h0, r0⟩ := trodAll_cons hA
  obtain ⟨v1, vs1, d1, ds1, p1, q1, rfl, rfl, rfl, h1, r1⟩ := trodAll_cons r0
  obtain ⟨v2, vs2, d2, ds2, p2, q2, rfl, rfl, rfl, h2, r2⟩ := trodAll_cons r1
  obtain ⟨v3, vs3, d3, ds3, p3, q3, rfl, rfl, rfl, h3, r3⟩ := trodAll_cons r2
  obtain ⟨rfl, rfl, rfl⟩ := trodAll_nil r3
  obtain rfl : args = #[v0, v1, v2, v3] := by cases args; simp_all
  obtain ⟨rfl, rfl⟩ := trodVars_none hV
  have k0 := h0
  have lt0 : ∀ x ∈ p0, x.block < W.heap.size := by obtain ⟨m, hm⟩ := k0; exact DataW.trod_lt m _ _ _ hm
  have k1 := h1
  have lt1 : ∀ x ∈ p1, x.block < W.heap.size := by obtain ⟨m, hm⟩ := k1; exact DataW.trod_lt m _ _ _ hm
  have k2 := h2
  have lt2 : ∀ x ∈ p2, x.block < W.heap.size := by obtain ⟨m, hm⟩ := k2; exact DataW.trod_lt m _ _ _ hm
  have k3 := h3
  have lt3 : ∀ x ∈ p3, x.block < W.heap.size := by obtain ⟨m, hm⟩ := k3; exact DataW.trod_lt m _ _ _ hm
  obtain ⟨l0, rd0, m0, ok0, bk0⟩ := open_rules (hval 0 22 v0 rfl rfl) k0 140737488351232 (fits_each hsz (j := 0) (t := 22) rfl rfl)
  obtain ⟨va1, l1, rfl, rd1, ok1, bk1⟩ := open_raw (hval 1 25 v1 rfl rfl) k1 140737488351232 (fits_each hsz (j := 1) (t := 25) rfl rfl)
  obtain ⟨l2, rfl, ok2, bk2⟩ := open_from (hval 2 27 v2 rfl rfl) k2 140737488351232 (fits_each hsz (j := 2) (t := 27) rfl rfl)
  obtain ⟨x3, rfl, rfl, hp3, w3⟩ := open_int Tryd.underlying3 (hval 3 3 v3 rfl rfl) h3
  have b3 := i64_of w3
  clear hA0 hval0
  refine (walk v0 l0 va1 l1 l2 x3 W rd0 m0 ok0 rd1 ok1 ok2 b3 (ctabs_of hL)).mono fun e W' ⟨he, bel⟩ => ?_
  subst he
  exact ⟨_, rfl, _, _, _, [], _, [], hW', trodAll_mk1 (shut_bool Tryd.underlying4 _), (trodAll_cons_mk (Below.trod laidOut (by kernel_rfl) (of_decide_eq_true (by kernel_rfl)) k0 bel lt0) (trodAll_cons_mk (Below.trod laidOut (by kernel_rfl) (of_decide_eq_true (by kernel_rfl)) k1 bel lt1) (trodAll_cons_mk (Below.trod laidOut (by kernel_rfl) (of_decide_eq_true (by kernel_rfl)) k2 bel lt2) (trodAll_cons_mk (Below.trod laidOut (by kernel_rfl) (of_decide_eq_true (by kernel_rfl)) k3 bel lt3) trodAll_mk0)))), rfl, bel.frame _, fun h => by cases h⟩
set_option maxRecDepth 100000 in
theorem lifted (os : Os) (started : os.Started) (H : Type) (enc : TypeId × Value → H) (F : Stop.Interp) :
    ReturnsInHanded {} Tryd.checked os 4 .any ((OpenSpec.ofChange Rows.goesBackSpec).preRow enc Tryd.prog Tryd.f4 Rows.goesBackRow.domain false Rows.goesBackRow.laid) (((OpenSpec.ofChange Rows.goesBackSpec).at F).post enc Tryd.prog Tryd.f4 false true false false) := by
  obtain ⟨places, hx⟩ := reads os enc
  refine returnsInHanded_of_row (C := Tryd.checked) (s := (OpenSpec.ofChange Rows.goesBackSpec)) own started (by kernel_rfl) Tryd.func4
    (witness_row_at (enc := enc) (C := Tryd.checked) false ({ World.holding Tryd.prog os ⟨#[], #[], []⟩ with heap := ((((((World.holding Tryd.prog os ⟨#[], #[], []⟩).heap.modify 2 fun | .cells _ t frozen => .cells #[.int .i64 1601, .int .i64 9999, .int .i64 1, .int .i64 12, .int .i64 1, .int .i64 31, .int .i64 0, .int .i64 23, .int .i64 0, .int .i64 59, .int .i64 0, .int .i64 59] t frozen | o => o).modify 4 fun | .cells _ t frozen => .cells #[.int .i64 31, .int .i64 28, .int .i64 31, .int .i64 30, .int .i64 31, .int .i64 30, .int .i64 31, .int .i64 31, .int .i64 30, .int .i64 31, .int .i64 30, .int .i64 31] t frozen | o => o).modify 1 fun | .cells _ t frozen => .cells #[.int .i32 9, .int .i32 9, .int .i32 32, .int .i32 47, .int .i32 59, .int .i32 64, .int .i32 91, .int .i32 96, .int .i32 123, .int .i32 126] t frozen | o => o).modify 5 fun | .cells _ t frozen => .cells #[.string ⟨#[74, 97, 110]⟩, .string ⟨#[70, 101, 98]⟩, .string ⟨#[77, 97, 114]⟩, .string ⟨#[65, 112, 114]⟩, .string ⟨#[77, 97, 121]⟩, .string ⟨#[74, 117, 110]⟩, .string ⟨#[74, 117, 108]⟩, .string ⟨#[65, 117, 103]⟩, .string ⟨#[83, 101, 112]⟩, .string ⟨#[79, 99, 116]⟩, .string ⟨#[78, 111, 118]⟩, .string ⟨#[68, 101, 99]⟩] t frozen | o => o).modify 0 fun | .cells _ t frozen => .cells #[.string ⟨#[]⟩, .string ⟨#[110, 111, 110, 101]⟩, .string ⟨#[108, 97, 120]⟩, .string ⟨#[115, 116, 114, 105, 99, 116]⟩] t frozen | o => o) } : World) #[.slice none 0 0, .agg #[.string ByteArray.empty, .string ByteArray.empty, .slice none 0 0], .agg #[.string ByteArray.empty, .string ByteArray.empty, .bool false, .bool false, .bool false], .int .i64 0] rfl (by kernel_rfl) (by kernel_rfl) (by kernel_rfl)
      (OpenSpec.preRow_of_cond 8 hx (by kernel_rfl) (fun k hk => by cases hk) (by kernel_rfl) (laid_met os))) ?_
  intro W base args ds gs before hval hW _ _ hsz hL _ _
  exact contract H enc W base args ds gs before hval hW hL hsz
theorem said : Rows.GoesBackSaid :=
  OpenClaim.holds_of_cond 4 Tryd.f4 rfl rfl rfl rfl rfl rfl rfl ⟨rfl, rfl, rfl, rfl, rfl⟩ rfl rfl rfl rfl rfl (by kernel_rfl) Tryd.func4 (by kernel_rfl)
    (of_decide_eq_true (by kernel_rfl)) (by unfold Func.isWrapper; first | (rw [if_pos (by decide +kernel)]; kernel_rfl) | (rw [if_neg (by decide +kernel)]; exact ⟨rfl, rfl⟩))
    (fun os started H enc _ F => by rw [OpenClaim.pre_eq_preRow]; exact lifted os started H enc F)
theorem plain (f : FuncId) (fn : Func) (hf : Tryd.pinned.checked.prog.funcNamed "gingersnap/gingersnaplaw.GoesBack" = some f) (hfn : Tryd.pinned.checked.prog.funcs[f]? = some fn) :
    false = Tryd.pinned.checked.prog.looks [] ∧ ∀ (j : Nat) t, fn.params[j]? = some t → Tryd.pinned.checked.prog.wantsStandIn t = false := by
  obtain rfl : f = 4 := Option.some.inj ((show Tryd.prog.funcNamed "gingersnap/gingersnaplaw.GoesBack" = some 4 by kernel_rfl).symm.trans hf) |>.symm
  obtain rfl : fn = Tryd.f4 := (Option.some.inj (Tryd.func4.symm.trans hfn)).symm
  refine ⟨by kernel_rfl, fun j t ht => ?_⟩
  rw [Tryd.params4] at ht
  have ht2 := Array.mem_of_getElem? ht
  have ht3 : t = 3 ∨ t = 22 ∨ t = 25 ∨ t = 27 := by simp at ht2; first | exact ht2 | exact ht2.symm | (rcases ht2 with h | h <;> simp [h]) | (rcases ht2 with h | h | h <;> simp [h]) | (rcases ht2 with h | h | h | h <;> simp [h]) | (rcases ht2 with h | h | h | h | h <;> simp [h])
  rcases ht3 with rfl | rfl | rfl | rfl
  · exact (show Tryd.prog.wantsStandIn 3 = false by kernel_rfl)
  · exact (show Tryd.prog.wantsStandIn 22 = false by kernel_rfl)
  · exact (show Tryd.prog.wantsStandIn 25 = false by kernel_rfl)
  · exact (show Tryd.prog.wantsStandIn 27 = false by kernel_rfl)
theorem card : Rows.GoesBackCardSaid :=
  Claim7.holds_tied_plain_at .later [] _ _ _ _ said (fun _ h => by cases h) (by kernel_rfl) (fun _ h => by cases h) goesBack_row_tie rfl ⟨rfl, rfl⟩ (by kernel_rfl) rfl plain (by kernel_rfl)
#print axioms card
end Go.Proofs.YtgjjkieljdamfafDoor.goesBack
