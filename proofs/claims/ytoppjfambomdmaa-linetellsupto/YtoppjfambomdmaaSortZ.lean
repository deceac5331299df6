/- The library's merge of two sorted stretches: whatever they are. -/
import Derived.Test.YtoppjfambomdmaaSortY
namespace Go.Proofs.Ytoppjfambomdmaa
open Go.Shelf Go.RowKit Go.Lib Go.Sort
set_option linter.all false
set_option maxRecDepth 1000000
variable {P : Program} {k : Nat} {α : Type} [Inhabited α]
set_option maxHeartbeats 16000000 in
theorem sym_many (Z : SP P k) {L : α → α → Bool} (hL : SWO L) (enc : α → List Value) (cf : α → α → Int) (g : Nat) (cb : Array Value) (blk off cap a m b : Nat) (d0 d : Array α) (w0 w : World)
    (eg : ∀ args w, (callFunc g args).run P w = .ok (.enter g args) w) (hcmp : CmpLays P g cb enc k cf blk off d0.size w0)
    (R : RowK enc k w0 blk off d0) (hs : d0.size = d.size) (S : SWK enc k w0 blk off d w) (ham : a < m) (hmb : m < b) (hb : b ≤ d.size) (hsz : d.size < 4611686018427387904)
    (hs1 : SortedIn L a m d) (hs2 : SortedIn L m b d) (hc : Cross L (ltOf cf) a m b d) (hm : m ≠ a + 1) (hn : b ≠ m + 1) (hIH : ∀ (a' m' b' : Nat) (d' : Array α) (w' : World), b' - a' < b - a → d0.size = d'.size → SWK enc k w0 blk off d' w' → a' < m' → m' < b' → b' ≤ d'.size → SortedIn L a' m' d' → SortedIn L m' b' d' → Cross L (ltOf cf) a' m' b' d' → Calls P 36 #[.slice (some ⟨blk, off, none⟩) d'.size cap, .int .i64 a', .int .i64 m', .int .i64 b', .func (.func g) #[] cb] w' fun e w'' => e = .returned (.tuple #[]) ∧ ∃ d'', PermIn a' b' d' d'' ∧ SortedIn L a' b' d'' ∧ SWK enc k w0 blk off d'' w'') :
    Calls P 36 #[.slice (some ⟨blk, off, none⟩) d.size cap, .int .i64 a, .int .i64 m, .int .i64 b, .func (.func g) #[] cb] w fun e w' =>
      e = .returned (.tuple #[]) ∧ ∃ d', PermIn a b d d' ∧ SortedIn L a b d' ∧ SWK enc k w0 blk off d' w' := by
  have mixed := Z.mixed; have t0 := Z.t0; have a0 := Z.a0; have z0 := Z.z0; have v0 := Z.v0; have t3 := Z.t3; have a3 := Z.a3; have z3 := Z.z3; have v3 := Z.v3; have t4 := Z.t4; have a4 := Z.a4; have z4 := Z.z4; have v4 := Z.v4; have tU := Z.tU; have aU := Z.aU; have zU := Z.zU; have tS := Z.tS; have aS := Z.aS; have zS := Z.zS; have aF := Z.aF; have zF := Z.zF; have aE := Z.aE; have zE := Z.zE
  have FG := Z.fSym
  have eRo := Z.eRot
  have eSy := Z.eSym
  have HC : Aside _ := hcmp
  have HIH : Aside _ := hIH
  have S0 : Aside (SWK enc k w0 blk off d w) := S
  have hnz1 : ((m : Int) - (a : Int) == 1) = false := by rw [beq_eq_false_iff_ne]; omega
  have hnz2 : ((b : Int) - (m : Int) == 1) = false := by rw [beq_eq_false_iff_ne]; omega
  have HS1 : Aside _ := hs1
  have HS2 : Aside _ := hs2
  have HX : Aside _ := hc
  obtain ⟨mid, hmid⟩ : ∃ x, x = (a + b) / 2 := ⟨_, rfl⟩
  have emid : ((a : Int) + (b : Int)) / 2 = (mid : Int) := by omega
  have md1 : 2 * mid ≤ a + b := by omega
  have md2 : a + b ≤ 2 * mid + 1 := by omega
  obtain ⟨nn, hnn⟩ : ∃ x, x = mid + m := ⟨_, rfl⟩
  have en : (mid : Int) + (m : Int) = (nn : Int) := by omega
  have nn1 : nn ≤ mid + m := by omega
  have nn2 : mid + m ≤ nn := by omega
  obtain ⟨p, hp⟩ : ∃ x, x = nn - 1 := ⟨_, rfl⟩
  have ep : (nn : Int) - 1 = (p : Int) := by omega
  have p1 : p + 1 ≤ nn := by omega
  have p2 : nn ≤ p + 1 := by omega
  have lm : a + 2 ≤ m := by omega
  have lb : m + 2 ≤ b := by omega
  clear S hcmp hm hn hs1 hs2 hc hIH hmid hnn hp
  by_cases hcase : mid < m
  · have hcz : (mid : Int) < (m : Int) := by omega
    obtain ⟨st0, hst⟩ : ∃ x, x = nn - b := ⟨_, rfl⟩
    have est : (nn : Int) - (b : Int) = (st0 : Int) := by omega
    have st1 : st0 + b ≤ nn := by omega
    have st2 : nn ≤ st0 + b := by omega
    clear hst
    go_enter FG, Try.ntmps36
    go_wp2
    go_loopg [20, 21] (mid - st0) (fun kx s20 s21 wr => ∃ (s r : Nat), s20 = .int .i64 s ∧ s21 = .int .i64 r ∧ st0 ≤ s ∧ s ≤ r ∧ r ≤ mid ∧ r - s ≤ kx ∧ Aside (SWK enc k w0 blk off d wr) ∧ Hid ((s = st0 ∨ L d[p - (s - 1)]! d[s - 1]! = false) ∧ (r = mid ∨ L d[p - r]! d[r]! = true)))
    case atStart => exact ⟨st0, mid, rfl, rfl, Nat.le_refl _, by omega, Nat.le_refl _, Nat.le_refl _, S0, ⟨.inl rfl, .inl rfl⟩⟩
    case round =>
      clear S0
      obtain ⟨s, r, rfl, rfl, hst0, hsr, hr0, hkx, S1, HE⟩ := hrel
      by_cases hlt : s < r
      · have hltz : (s : Int) < (r : Int) := by omega
        obtain ⟨c, hh⟩ : ∃ x, x = (s + r) / 2 := ⟨_, rfl⟩
        have eh : ((s : Int) + (r : Int)) / 2 = (c : Int) := by omega
        have h1 : s ≤ c := by omega
        have h2 : c < r := by omega
        obtain ⟨q, hq⟩ : ∃ x, x = p - c := ⟨_, rfl⟩
        have eaq : ((p : Int) - (c : Int)).toNat = q := by omega
        have paq : (0 : Int) ≤ (p : Int) - (c : Int) := by omega
        have hcp : (c : Int) ≤ (p : Int) := by omega
        have hcn : c ≤ p := by omega
        have baq : (p : Int) - (c : Int) < (d.size : Int) := by omega
        have raq : IntKind.i64.wrap ((p : Int) - (c : Int)) = (p : Int) - (c : Int) := by rw [IntKind.wrap_i64]; omega
        have HQ : Hid _ := hq
        have hz1 : (q : Int) < (d.size : Int) := by omega
        have hz2 : (c : Int) < (d.size : Int) := by omega
        have q1 : m ≤ q := by omega
        have q2 : q < b := by omega
        have c1 : a ≤ c := by omega
        have c2 : c < m := by omega
        clear hh hq
        obtain ⟨xx, hxx⟩ : ∃ x, x = d[q]! := ⟨_, rfl⟩
        obtain ⟨yy, hyy⟩ : ∃ x, x = d[c]! := ⟨_, rfl⟩
        have lx := S1.out.ld R (by omega) P (q) (by omega)
        have ly := S1.out.ld R (by omega) P (c) (by omega)
        rw [← hxx] at lx
        rw [← hyy] at ly
        have hcc := S1.out.cmp HC.out (by omega) xx yy
        have HXX : Hid _ := hxx
        have HYY : Hid _ := hyy
        clear hxx hyy
        by_cases hlv : cf xx yy < 0
        · have hd : decide (cf xx yy < 0) = true := decide_eq_true hlv
          go_wp2_with fail
          go_quiet_grown (first | (go_at_fn g; refine Calls.grown_of (hcc _ _)))
          have S3 : Aside (SWK enc k w0 blk off d (grow (wr.drewN nq) osq)) := S1.out.grown nq osq
          clear lx ly hcc S1
          generalize grow (wr.drewN nq) osq = w2 at S3 ⊢
          clear nq osq
          have HV : Hid (L d[p - c]! d[c]! = true) := by show _ = _; rw [← HQ.out, ← HX.out c q c1 c2 q1 q2, ← HXX.out, ← HYY.out]; exact decide_eq_true hlv
          go_wp2_with fail
          go_roundg (c - s)
          case measure => omega
          case rel => exact ⟨s, c, rfl, rfl, hst0, by omega, by omega, Nat.le_refl _, S3, ⟨HE.out.1, .inr HV.out⟩⟩
        · have hd : decide (cf xx yy < 0) = false := decide_eq_false hlv
          go_wp2_with fail
          go_quiet_grown (first | (go_at_fn g; refine Calls.grown_of (hcc _ _)))
          have S3 : Aside (SWK enc k w0 blk off d (grow (wr.drewN nq) osq)) := S1.out.grown nq osq
          clear lx ly hcc S1
          generalize grow (wr.drewN nq) osq = w2 at S3 ⊢
          clear nq osq
          have HV : Hid (L d[p - c]! d[c]! = false) := by show _ = _; rw [← HQ.out, ← HX.out c q c1 c2 q1 q2, ← HXX.out, ← HYY.out]; exact decide_eq_false (by omega)
          go_wp2_with fail
          go_roundg (r - (c + 1))
          case measure => omega
          case rel => exact ⟨c + 1, r, by go_num, rfl, by omega, by omega, hr0, Nat.le_refl _, S3, ⟨.inr (by rw [Nat.add_sub_cancel]; exact HV.out), HE.out.2⟩⟩
      · have hltz : ¬ (s : Int) < (r : Int) := by omega
        obtain ⟨e, he⟩ : ∃ x, x = nn - s := ⟨_, rfl⟩
        have ee : (nn : Int) - (s : Int) = (e : Int) := by omega
        have e1 : e + s ≤ nn := by omega
        have e2 : nn ≤ e + s := by omega
        have has0 : a ≤ s := by omega
        have sm : s ≤ m := by omega
        have me : m ≤ e := by omega
        have eb : e ≤ b := by omega
        have hq0 : mid ≤ s + (e - m) := by omega
        have hq1 : s + (e - m) ≤ mid := by omega
        have HXE : Hid (s = a ∨ e = b ∨ L d[e]! d[s - 1]! = false) := by
          rcases HE.out.1 with h | h
          · exact .inr (.inl (by omega))
          · by_cases hs0 : s = a
            · exact .inl hs0
            · exact .inr (.inr (by rw [show p - (s - 1) = e by omega] at h; exact h))
        have HYE : Hid (s = m ∨ e = m ∨ L d[e - 1]! d[s]! = true) := by
          have er : r = s := by omega
          have h0 := HE.out.2
          rw [er] at h0
          rcases h0 with h | h
          · exact .inr (.inl (by omega))
          · exact .inr (.inr (by rw [show p - s = e - 1 by omega] at h; exact h))
        clear HE he
        by_cases cr : s < mid
        · have hS : (s : Int) < (m : Int) := by omega
          have hE : (m : Int) < (e : Int) := by omega
          have h : Aside _ := rotate_any Z enc g cb blk off cap s m e d0 d w0 wr R hs S1.out (by omega) (by omega) (by omega) hsz
          clear S1
          go_wp2_with fail
          refine Calls.mono h.out ?_
          rintro e9 w1 ⟨rfl, d1, hr1, hp1, S2⟩
          have hd1 : d1.size = d.size := hp1.1
          have HP1 : Hid (PermIn a b d d1) := permIn_mono _ _ s e a b (by omega) (by omega) (by omega) hp1
          have S2' : Aside (SWK enc k w0 blk off d1 w1) := S2
          have PT : Aside (Parted L (ltOf cf) a s mid e b d1) := merge_part hL (hr1) has0 sm me eb (by omega) HS1.out HS2.out HX.out HXE.out HYE.out
          clear h hr1 hp1 S2 HXE HYE
          by_cases c2 : a < s
          · have h2a : (a : Int) < (s : Int) := by omega
            have h2b : (s : Int) < (mid : Int) := by omega
            have h : Aside _ := HIH.out a s mid d1 w1 (by omega) (by omega) S2'.out (by omega) (by omega) (by omega) PT.out.s1 PT.out.s2 PT.out.c1
            rw [hd1] at h
            clear S2'
            go_wp2_with fail
            refine Calls.mono h.out ?_
            rintro e9 w2 ⟨rfl, d2, hpd2, hsd2, Sd2⟩
            clear h
            have hd2 : d2.size = d.size := by rw [hpd2.1]; exact hd1
            have HP2 : Hid (PermIn a b d d2) := permIn_trans _ _ _ _ _ HP1.out (permIn_mono _ _ a mid a b (by omega) (by omega) (by omega) hpd2)
            have Q2 : Aside (SortedIn L a mid d2 ∧ SortedIn L mid e d2 ∧ SortedIn L e b d2 ∧ Cross L (ltOf cf) mid e b d2 ∧ ∀ x y, a ≤ x → x < mid → mid ≤ y → y < b → L d2[y]! d2[x]! = false) := PT.out.left (by omega) (by omega) (by omega) (by omega) (by omega) hpd2 hsd2
            have S6 : Aside (SWK enc k w0 blk off d2 w2) := Sd2
            clear hpd2 hsd2 Sd2 PT
            have h3a : (mid : Int) < (e : Int) := by omega
            by_cases c3 : e < b
            · have h3b : (e : Int) < (b : Int) := by omega
              have h : Aside _ := HIH.out mid e b d2 w2 (by omega) (by omega) S6.out (by omega) (by omega) (by omega) Q2.out.2.1 Q2.out.2.2.1 Q2.out.2.2.2.1
              rw [hd2] at h
              clear S6
              go_wp2_with fail
              refine Calls.mono h.out ?_
              rintro e9 w3 ⟨rfl, d3, hpd3, hsd3, Sd3⟩
              clear h
              have HP3 : Hid (PermIn a b d d3) := permIn_trans _ _ _ _ _ HP2.out (permIn_mono _ _ mid b a b (by omega) (by omega) (by omega) hpd3)
              have HF : Hid (SortedIn L a b d3) := parted_right hL (q := mid) (e := e) (by omega) (by omega) (by omega) Q2.out.1 Q2.out.2.2.2.2 hpd3 hsd3
              have S7 : Aside (SWK enc k w0 blk off d3 w3) := Sd3
              clear hpd3 hsd3 Sd3 Q2
              go_wp2
              go_end0
              exact ⟨rfl, d3, HP3.out, HF.out, S7.out⟩
            · have h3b : ¬ (e : Int) < (b : Int) := by omega
              have HF : Hid (SortedIn L a b d2) := parted_right hL (q := mid) (e := e) (by omega) (by omega) (by omega) Q2.out.1 Q2.out.2.2.2.2 (permIn_refl d2 mid b) (by have h := Q2.out.2.1; rw [show e = b by omega] at h; exact h)
              clear Q2
              go_wp2
              go_end0
              exact ⟨rfl, d2, HP2.out, HF.out, S6.out⟩
          · have h2a : ¬ (a : Int) < (s : Int) := by omega
            have Q2 : Aside (SortedIn L a mid d1 ∧ SortedIn L mid e d1 ∧ SortedIn L e b d1 ∧ Cross L (ltOf cf) mid e b d1 ∧ ∀ x y, a ≤ x → x < mid → mid ≤ y → y < b → L d1[y]! d1[x]! = false) := PT.out.left (by omega) (by omega) (by omega) (by omega) (by omega) (permIn_refl d1 a mid) (by have h := PT.out.s2; rw [show s = a by omega] at h; exact h)
            clear PT
            have h3a : (mid : Int) < (e : Int) := by omega
            by_cases c3 : e < b
            · have h3b : (e : Int) < (b : Int) := by omega
              have h : Aside _ := HIH.out mid e b d1 w1 (by omega) (by omega) S2'.out (by omega) (by omega) (by omega) Q2.out.2.1 Q2.out.2.2.1 Q2.out.2.2.2.1
              rw [hd1] at h
              clear S2'
              go_wp2_with fail
              refine Calls.mono h.out ?_
              rintro e9 w3 ⟨rfl, d3, hpd3, hsd3, Sd3⟩
              clear h
              have HP3 : Hid (PermIn a b d d3) := permIn_trans _ _ _ _ _ HP1.out (permIn_mono _ _ mid b a b (by omega) (by omega) (by omega) hpd3)
              have HF : Hid (SortedIn L a b d3) := parted_right hL (q := mid) (e := e) (by omega) (by omega) (by omega) Q2.out.1 Q2.out.2.2.2.2 hpd3 hsd3
              have S7 : Aside (SWK enc k w0 blk off d3 w3) := Sd3
              clear hpd3 hsd3 Sd3 Q2
              go_wp2
              go_end0
              exact ⟨rfl, d3, HP3.out, HF.out, S7.out⟩
            · have h3b : ¬ (e : Int) < (b : Int) := by omega
              have HF : Hid (SortedIn L a b d1) := parted_right hL (q := mid) (e := e) (by omega) (by omega) (by omega) Q2.out.1 Q2.out.2.2.2.2 (permIn_refl d1 mid b) (by have h := Q2.out.2.1; rw [show e = b by omega] at h; exact h)
              clear Q2
              go_wp2
              go_end0
              exact ⟨rfl, d1, HP1.out, HF.out, S2'.out⟩
        · have hS : (s : Int) < (m : Int) := by omega
          have hE : ¬ (m : Int) < (e : Int) := by omega
          have HP1 : Hid (PermIn a b d d) := permIn_refl d a b
          have hd1 : d.size = d.size := rfl
          have PT : Aside (Parted L (ltOf cf) a s mid e b d) := merge_part hL (by rw [show e = m by omega]; exact Rot.none1 s m (by omega) d) has0 sm me eb (by omega) HS1.out HS2.out HX.out HXE.out HYE.out
          clear HXE HYE
          have h2a : (a : Int) < (s : Int) := by omega
          have h2b : ¬ (s : Int) < (mid : Int) := by omega
          have Q2 : Aside (SortedIn L a mid d ∧ SortedIn L mid e d ∧ SortedIn L e b d ∧ Cross L (ltOf cf) mid e b d ∧ ∀ x y, a ≤ x → x < mid → mid ≤ y → y < b → L d[y]! d[x]! = false) := PT.out.left (by omega) (by omega) (by omega) (by omega) (by omega) (permIn_refl d a mid) (by have h := PT.out.s1; rw [show s = mid by omega] at h; exact h)
          clear PT
          have h3a : (mid : Int) < (e : Int) := by omega
          by_cases c3 : e < b
          · have h3b : (e : Int) < (b : Int) := by omega
            have h : Aside _ := HIH.out mid e b d wr (by omega) (by omega) S1.out (by omega) (by omega) (by omega) Q2.out.2.1 Q2.out.2.2.1 Q2.out.2.2.2.1
            clear S1
            go_wp2_with fail
            refine Calls.mono h.out ?_
            rintro e9 w3 ⟨rfl, d3, hpd3, hsd3, Sd3⟩
            clear h
            have HP3 : Hid (PermIn a b d d3) := permIn_trans _ _ _ _ _ HP1.out (permIn_mono _ _ mid b a b (by omega) (by omega) (by omega) hpd3)
            have HF : Hid (SortedIn L a b d3) := parted_right hL (q := mid) (e := e) (by omega) (by omega) (by omega) Q2.out.1 Q2.out.2.2.2.2 hpd3 hsd3
            have S7 : Aside (SWK enc k w0 blk off d3 w3) := Sd3
            clear hpd3 hsd3 Sd3 Q2
            go_wp2
            go_end0
            exact ⟨rfl, d3, HP3.out, HF.out, S7.out⟩
          · have h3b : ¬ (e : Int) < (b : Int) := by omega
            have HF : Hid (SortedIn L a b d) := parted_right hL (q := mid) (e := e) (by omega) (by omega) (by omega) Q2.out.1 Q2.out.2.2.2.2 (permIn_refl d mid b) (by have h := Q2.out.2.1; rw [show e = b by omega] at h; exact h)
            clear Q2
            go_wp2
            go_end0
            exact ⟨rfl, d, HP1.out, HF.out, S1.out⟩
  · have hcz : ¬ (mid : Int) < (m : Int) := by omega
    go_enter FG, Try.ntmps36
    go_wp2
    go_loopg [20, 21] (m - a) (fun kx s20 s21 wr => ∃ (s r : Nat), s20 = .int .i64 s ∧ s21 = .int .i64 r ∧ a ≤ s ∧ s ≤ r ∧ r ≤ m ∧ r - s ≤ kx ∧ Aside (SWK enc k w0 blk off d wr) ∧ Hid ((s = a ∨ L d[p - (s - 1)]! d[s - 1]! = false) ∧ (r = m ∨ L d[p - r]! d[r]! = true)))
    case atStart => exact ⟨a, m, rfl, rfl, Nat.le_refl _, by omega, Nat.le_refl _, Nat.le_refl _, S0, ⟨.inl rfl, .inl rfl⟩⟩
    case round =>
      clear S0
      obtain ⟨s, r, rfl, rfl, hst0, hsr, hr0, hkx, S1, HE⟩ := hrel
      by_cases hlt : s < r
      · have hltz : (s : Int) < (r : Int) := by omega
        obtain ⟨c, hh⟩ : ∃ x, x = (s + r) / 2 := ⟨_, rfl⟩
        have eh : ((s : Int) + (r : Int)) / 2 = (c : Int) := by omega
        have h1 : s ≤ c := by omega
        have h2 : c < r := by omega
        obtain ⟨q, hq⟩ : ∃ x, x = p - c := ⟨_, rfl⟩
        have eaq : ((p : Int) - (c : Int)).toNat = q := by omega
        have paq : (0 : Int) ≤ (p : Int) - (c : Int) := by omega
        have hcp : (c : Int) ≤ (p : Int) := by omega
        have hcn : c ≤ p := by omega
        have baq : (p : Int) - (c : Int) < (d.size : Int) := by omega
        have raq : IntKind.i64.wrap ((p : Int) - (c : Int)) = (p : Int) - (c : Int) := by rw [IntKind.wrap_i64]; omega
        have HQ : Hid _ := hq
        have hz1 : (q : Int) < (d.size : Int) := by omega
        have hz2 : (c : Int) < (d.size : Int) := by omega
        have q1 : m ≤ q := by omega
        have q2 : q < b := by omega
        have c1 : a ≤ c := by omega
        have c2 : c < m := by omega
        clear hh hq
        obtain ⟨xx, hxx⟩ : ∃ x, x = d[q]! := ⟨_, rfl⟩
        obtain ⟨yy, hyy⟩ : ∃ x, x = d[c]! := ⟨_, rfl⟩
        have lx := S1.out.ld R (by omega) P (q) (by omega)
        have ly := S1.out.ld R (by omega) P (c) (by omega)
        rw [← hxx] at lx
        rw [← hyy] at ly
        have hcc := S1.out.cmp HC.out (by omega) xx yy
        have HXX : Hid _ := hxx
        have HYY : Hid _ := hyy
        clear hxx hyy
        by_cases hlv : cf xx yy < 0
        · have hd : decide (cf xx yy < 0) = true := decide_eq_true hlv
          go_wp2_with fail
          go_quiet_grown (first | (go_at_fn g; refine Calls.grown_of (hcc _ _)))
          have S3 : Aside (SWK enc k w0 blk off d (grow (wr.drewN nq) osq)) := S1.out.grown nq osq
          clear lx ly hcc S1
          generalize grow (wr.drewN nq) osq = w2 at S3 ⊢
          clear nq osq
          have HV : Hid (L d[p - c]! d[c]! = true) := by show _ = _; rw [← HQ.out, ← HX.out c q c1 c2 q1 q2, ← HXX.out, ← HYY.out]; exact decide_eq_true hlv
          go_wp2_with fail
          go_roundg (c - s)
          case measure => omega
          case rel => exact ⟨s, c, rfl, rfl, hst0, by omega, by omega, Nat.le_refl _, S3, ⟨HE.out.1, .inr HV.out⟩⟩
        · have hd : decide (cf xx yy < 0) = false := decide_eq_false hlv
          go_wp2_with fail
          go_quiet_grown (first | (go_at_fn g; refine Calls.grown_of (hcc _ _)))
          have S3 : Aside (SWK enc k w0 blk off d (grow (wr.drewN nq) osq)) := S1.out.grown nq osq
          clear lx ly hcc S1
          generalize grow (wr.drewN nq) osq = w2 at S3 ⊢
          clear nq osq
          have HV : Hid (L d[p - c]! d[c]! = false) := by show _ = _; rw [← HQ.out, ← HX.out c q c1 c2 q1 q2, ← HXX.out, ← HYY.out]; exact decide_eq_false (by omega)
          go_wp2_with fail
          go_roundg (r - (c + 1))
          case measure => omega
          case rel => exact ⟨c + 1, r, by go_num, rfl, by omega, by omega, hr0, Nat.le_refl _, S3, ⟨.inr (by rw [Nat.add_sub_cancel]; exact HV.out), HE.out.2⟩⟩
      · have hltz : ¬ (s : Int) < (r : Int) := by omega
        obtain ⟨e, he⟩ : ∃ x, x = nn - s := ⟨_, rfl⟩
        have ee : (nn : Int) - (s : Int) = (e : Int) := by omega
        have e1 : e + s ≤ nn := by omega
        have e2 : nn ≤ e + s := by omega
        have has0 : a ≤ s := by omega
        have sm : s ≤ m := by omega
        have me : m ≤ e := by omega
        have eb : e ≤ b := by omega
        have hq0 : mid ≤ s + (e - m) := by omega
        have hq1 : s + (e - m) ≤ mid := by omega
        have HXE : Hid (s = a ∨ e = b ∨ L d[e]! d[s - 1]! = false) := by
          rcases HE.out.1 with h | h
          · exact .inl h
          · by_cases hs0 : s = a
            · exact .inl hs0
            · exact .inr (.inr (by rw [show p - (s - 1) = e by omega] at h; exact h))
        have HYE : Hid (s = m ∨ e = m ∨ L d[e - 1]! d[s]! = true) := by
          have er : r = s := by omega
          have h0 := HE.out.2
          rw [er] at h0
          rcases h0 with h | h
          · exact .inl h
          · exact .inr (.inr (by rw [show p - s = e - 1 by omega] at h; exact h))
        clear HE he
        by_cases cr : s < m
        · have hS : (s : Int) < (m : Int) := by omega
          have hE : (m : Int) < (e : Int) := by omega
          have h : Aside _ := rotate_any Z enc g cb blk off cap s m e d0 d w0 wr R hs S1.out (by omega) (by omega) (by omega) hsz
          clear S1
          go_wp2_with fail
          refine Calls.mono h.out ?_
          rintro e9 w1 ⟨rfl, d1, hr1, hp1, S2⟩
          have hd1 : d1.size = d.size := hp1.1
          have HP1 : Hid (PermIn a b d d1) := permIn_mono _ _ s e a b (by omega) (by omega) (by omega) hp1
          have S2' : Aside (SWK enc k w0 blk off d1 w1) := S2
          have PT : Aside (Parted L (ltOf cf) a s mid e b d1) := merge_part hL (hr1) has0 sm me eb (by omega) HS1.out HS2.out HX.out HXE.out HYE.out
          clear h hr1 hp1 S2 HXE HYE
          by_cases c2 : a < s
          · have h2a : (a : Int) < (s : Int) := by omega
            have h2b : (s : Int) < (mid : Int) := by omega
            have h : Aside _ := HIH.out a s mid d1 w1 (by omega) (by omega) S2'.out (by omega) (by omega) (by omega) PT.out.s1 PT.out.s2 PT.out.c1
            rw [hd1] at h
            clear S2'
            go_wp2_with fail
            refine Calls.mono h.out ?_
            rintro e9 w2 ⟨rfl, d2, hpd2, hsd2, Sd2⟩
            clear h
            have hd2 : d2.size = d.size := by rw [hpd2.1]; exact hd1
            have HP2 : Hid (PermIn a b d d2) := permIn_trans _ _ _ _ _ HP1.out (permIn_mono _ _ a mid a b (by omega) (by omega) (by omega) hpd2)
            have Q2 : Aside (SortedIn L a mid d2 ∧ SortedIn L mid e d2 ∧ SortedIn L e b d2 ∧ Cross L (ltOf cf) mid e b d2 ∧ ∀ x y, a ≤ x → x < mid → mid ≤ y → y < b → L d2[y]! d2[x]! = false) := PT.out.left (by omega) (by omega) (by omega) (by omega) (by omega) hpd2 hsd2
            have S6 : Aside (SWK enc k w0 blk off d2 w2) := Sd2
            clear hpd2 hsd2 Sd2 PT
            have h3a : (mid : Int) < (e : Int) := by omega
            by_cases c3 : e < b
            · have h3b : (e : Int) < (b : Int) := by omega
              have h : Aside _ := HIH.out mid e b d2 w2 (by omega) (by omega) S6.out (by omega) (by omega) (by omega) Q2.out.2.1 Q2.out.2.2.1 Q2.out.2.2.2.1
              rw [hd2] at h
              clear S6
              go_wp2_with fail
              refine Calls.mono h.out ?_
              rintro e9 w3 ⟨rfl, d3, hpd3, hsd3, Sd3⟩
              clear h
              have HP3 : Hid (PermIn a b d d3) := permIn_trans _ _ _ _ _ HP2.out (permIn_mono _ _ mid b a b (by omega) (by omega) (by omega) hpd3)
              have HF : Hid (SortedIn L a b d3) := parted_right hL (q := mid) (e := e) (by omega) (by omega) (by omega) Q2.out.1 Q2.out.2.2.2.2 hpd3 hsd3
              have S7 : Aside (SWK enc k w0 blk off d3 w3) := Sd3
              clear hpd3 hsd3 Sd3 Q2
              go_wp2
              go_end0
              exact ⟨rfl, d3, HP3.out, HF.out, S7.out⟩
            · have h3b : ¬ (e : Int) < (b : Int) := by omega
              have HF : Hid (SortedIn L a b d2) := parted_right hL (q := mid) (e := e) (by omega) (by omega) (by omega) Q2.out.1 Q2.out.2.2.2.2 (permIn_refl d2 mid b) (by have h := Q2.out.2.1; rw [show e = b by omega] at h; exact h)
              clear Q2
              go_wp2
              go_end0
              exact ⟨rfl, d2, HP2.out, HF.out, S6.out⟩
          · have h2a : ¬ (a : Int) < (s : Int) := by omega
            have Q2 : Aside (SortedIn L a mid d1 ∧ SortedIn L mid e d1 ∧ SortedIn L e b d1 ∧ Cross L (ltOf cf) mid e b d1 ∧ ∀ x y, a ≤ x → x < mid → mid ≤ y → y < b → L d1[y]! d1[x]! = false) := PT.out.left (by omega) (by omega) (by omega) (by omega) (by omega) (permIn_refl d1 a mid) (by have h := PT.out.s2; rw [show s = a by omega] at h; exact h)
            clear PT
            have h3a : (mid : Int) < (e : Int) := by omega
            by_cases c3 : e < b
            · have h3b : (e : Int) < (b : Int) := by omega
              have h : Aside _ := HIH.out mid e b d1 w1 (by omega) (by omega) S2'.out (by omega) (by omega) (by omega) Q2.out.2.1 Q2.out.2.2.1 Q2.out.2.2.2.1
              rw [hd1] at h
              clear S2'
              go_wp2_with fail
              refine Calls.mono h.out ?_
              rintro e9 w3 ⟨rfl, d3, hpd3, hsd3, Sd3⟩
              clear h
              have HP3 : Hid (PermIn a b d d3) := permIn_trans _ _ _ _ _ HP1.out (permIn_mono _ _ mid b a b (by omega) (by omega) (by omega) hpd3)
              have HF : Hid (SortedIn L a b d3) := parted_right hL (q := mid) (e := e) (by omega) (by omega) (by omega) Q2.out.1 Q2.out.2.2.2.2 hpd3 hsd3
              have S7 : Aside (SWK enc k w0 blk off d3 w3) := Sd3
              clear hpd3 hsd3 Sd3 Q2
              go_wp2
              go_end0
              exact ⟨rfl, d3, HP3.out, HF.out, S7.out⟩
            · have h3b : ¬ (e : Int) < (b : Int) := by omega
              have HF : Hid (SortedIn L a b d1) := parted_right hL (q := mid) (e := e) (by omega) (by omega) (by omega) Q2.out.1 Q2.out.2.2.2.2 (permIn_refl d1 mid b) (by have h := Q2.out.2.1; rw [show e = b by omega] at h; exact h)
              clear Q2
              go_wp2
              go_end0
              exact ⟨rfl, d1, HP1.out, HF.out, S2'.out⟩
        · have hS : ¬ (s : Int) < (m : Int) := by omega
          have HP1 : Hid (PermIn a b d d) := permIn_refl d a b
          have hd1 : d.size = d.size := rfl
          have PT : Aside (Parted L (ltOf cf) a s mid e b d) := merge_part hL (by rw [show s = m by omega]; exact Rot.none2 m e d) has0 sm me eb (by omega) HS1.out HS2.out HX.out HXE.out HYE.out
          clear HXE HYE
          have h2a : (a : Int) < (s : Int) := by omega
          by_cases c2 : s < mid
          · have h2b : (s : Int) < (mid : Int) := by omega
            have h : Aside _ := HIH.out a s mid d wr (by omega) (by omega) S1.out (by omega) (by omega) (by omega) PT.out.s1 PT.out.s2 PT.out.c1
            clear S1
            go_wp2_with fail
            refine Calls.mono h.out ?_
            rintro e9 w2 ⟨rfl, d2, hpd2, hsd2, Sd2⟩
            clear h
            have hd2 : d2.size = d.size := by rw [hpd2.1]
            have HP2 : Hid (PermIn a b d d2) := permIn_trans _ _ _ _ _ HP1.out (permIn_mono _ _ a mid a b (by omega) (by omega) (by omega) hpd2)
            have Q2 : Aside (SortedIn L a mid d2 ∧ SortedIn L mid e d2 ∧ SortedIn L e b d2 ∧ Cross L (ltOf cf) mid e b d2 ∧ ∀ x y, a ≤ x → x < mid → mid ≤ y → y < b → L d2[y]! d2[x]! = false) := PT.out.left (by omega) (by omega) (by omega) (by omega) (by omega) hpd2 hsd2
            have S6 : Aside (SWK enc k w0 blk off d2 w2) := Sd2
            clear hpd2 hsd2 Sd2 PT
            have h3a : ¬ (mid : Int) < (e : Int) := by omega
            have HF : Hid (SortedIn L a b d2) := parted_right hL (q := mid) (e := e) (by omega) (by omega) (by omega) Q2.out.1 Q2.out.2.2.2.2 (permIn_refl d2 mid b) (by have h := Q2.out.2.2.1; rw [show e = mid by omega] at h; exact h)
            clear Q2
            go_wp2
            go_end0
            exact ⟨rfl, d2, HP2.out, HF.out, S6.out⟩
          · have h2b : ¬ (s : Int) < (mid : Int) := by omega
            have Q2 : Aside (SortedIn L a mid d ∧ SortedIn L mid e d ∧ SortedIn L e b d ∧ Cross L (ltOf cf) mid e b d ∧ ∀ x y, a ≤ x → x < mid → mid ≤ y → y < b → L d[y]! d[x]! = false) := PT.out.left (by omega) (by omega) (by omega) (by omega) (by omega) (permIn_refl d a mid) (by have h := PT.out.s1; rw [show s = mid by omega] at h; exact h)
            clear PT
            have h3a : ¬ (mid : Int) < (e : Int) := by omega
            have HF : Hid (SortedIn L a b d) := parted_right hL (q := mid) (e := e) (by omega) (by omega) (by omega) Q2.out.1 Q2.out.2.2.2.2 (permIn_refl d mid b) (by have h := Q2.out.2.2.1; rw [show e = mid by omega] at h; exact h)
            clear Q2
            go_wp2
            go_end0
            exact ⟨rfl, d, HP1.out, HF.out, S1.out⟩
theorem sym_all (Z : SP P k) {L : α → α → Bool} (hL : SWO L) (enc : α → List Value) (cf : α → α → Int) (g : Nat) (cb : Array Value) (blk off cap : Nat) (d0 : Array α) (w0 : World)
    (eg : ∀ args w, (callFunc g args).run P w = .ok (.enter g args) w) (hcmp : CmpLays P g cb enc k cf blk off d0.size w0) (R : RowK enc k w0 blk off d0) (hsz : d0.size < 4611686018427387904) :
    ∀ (N a m b : Nat) (d : Array α) (w : World), b - a ≤ N → d0.size = d.size → SWK enc k w0 blk off d w → a < m → m < b → b ≤ d.size → SortedIn L a m d → SortedIn L m b d → Cross L (ltOf cf) a m b d →
    Calls P 36 #[.slice (some ⟨blk, off, none⟩) d.size cap, .int .i64 a, .int .i64 m, .int .i64 b, .func (.func g) #[] cb] w fun e w' =>
      e = .returned (.tuple #[]) ∧ ∃ d', PermIn a b d d' ∧ SortedIn L a b d' ∧ SWK enc k w0 blk off d' w'
  | 0, a, m, b, d, w, hN, _, _, h1, h2, _, _, _, _ => absurd hN (by omega)
  | N + 1, a, m, b, d, w, hN, hs, S, h1, h2, hb, s1, s2, hc => by
    by_cases hm : m = a + 1
    · exact sym_one Z hL enc cf g cb blk off cap a m b d0 d w0 w eg hcmp R hs S h1 h2 hb (by omega) s1 s2 hc hm
    · by_cases hn : b = m + 1
      · exact sym_last Z hL enc cf g cb blk off cap a m b d0 d w0 w eg hcmp R hs S h1 h2 hb (by omega) s1 s2 hc hn hm
      · exact sym_many Z hL enc cf g cb blk off cap a m b d0 d w0 w eg hcmp R hs S h1 h2 hb (by omega) s1 s2 hc hm hn (fun a' m' b' d' w' hlt hs' S' k1 k2 kb t1 t2 tc => sym_all Z hL enc cf g cb blk off cap d0 w0 eg hcmp R hsz N a' m' b' d' w' (by omega) hs' S' k1 k2 kb t1 t2 tc)
end Go.Proofs.Ytoppjfambomdmaa
