/- The library's merge of two sorted stretches: where one of them is one element alone. -/
import Derived.Test.YtoppjfambomdmaaSortX
import Derived.Test.YtoppjfambomdmaaSortI
namespace Go.Proofs.Ytoppjfambomdmaa
open Go.Shelf Go.RowKit Go.Lib Go.Sort
set_option linter.all false
set_option maxRecDepth 1000000
variable {P : Program} {k : Nat} {α : Type} [Inhabited α]
set_option maxHeartbeats 8000000 in
theorem sym_one (Z : SP P k) {L : α → α → Bool} (hL : SWO L) (enc : α → List Value) (cf : α → α → Int) (g : Nat) (cb : Array Value) (blk off cap a m b : Nat) (d0 d : Array α) (w0 w : World)
    (eg : ∀ args w, (callFunc g args).run P w = .ok (.enter g args) w) (hcmp : CmpLays P g cb enc k cf blk off d0.size w0)
    (R : RowK enc k w0 blk off d0) (hs : d0.size = d.size) (S : SWK enc k w0 blk off d w) (ham : a < m) (hmb : m < b) (hb : b ≤ d.size) (hsz : d.size < 4611686018427387904)
    (hs1 : SortedIn L a m d) (hs2 : SortedIn L m b d) (hc : Cross L (ltOf cf) a m b d) (hm : m = a + 1):
    Calls P 36 #[.slice (some ⟨blk, off, none⟩) d.size cap, .int .i64 a, .int .i64 m, .int .i64 b, .func (.func g) #[] cb] w fun e w' =>
      e = .returned (.tuple #[]) ∧ ∃ d', PermIn a b d d' ∧ SortedIn L a b d' ∧ SWK enc k w0 blk off d' w' := by
  have mixed := Z.mixed; have t0 := Z.t0; have a0 := Z.a0; have z0 := Z.z0; have v0 := Z.v0; have t3 := Z.t3; have a3 := Z.a3; have z3 := Z.z3; have v3 := Z.v3; have t4 := Z.t4; have a4 := Z.a4; have z4 := Z.z4; have v4 := Z.v4; have tU := Z.tU; have aU := Z.aU; have zU := Z.zU; have tS := Z.tS; have aS := Z.aS; have zS := Z.zS; have aF := Z.aF; have zF := Z.zF; have aE := Z.aE; have zE := Z.zE
  have FG := Z.fSym
  have HC : Aside _ := hcmp
  have S0 : Aside (SWK enc k w0 blk off d w) := S
  have HM : Hid _ := hm
  have hmz : (m : Int) - (a : Int) = 1 := by omega
  have ma1 : m ≤ a + 1 := by omega
  have ma2 : a + 1 ≤ m := by omega
  have HS2 : Aside _ := hs2
  have HX : Aside _ := hc
  clear S hcmp hm hs1 hs2 hc
  go_enter FG, Try.ntmps36
  go_wp2
  go_loopg [10, 11] (b - m) (fun kx s10 s11 wr => ∃ (i j : Nat), s10 = .int .i64 i ∧ s11 = .int .i64 j ∧ m ≤ i ∧ i ≤ j ∧ j ≤ b ∧ j - i ≤ kx ∧ Aside (SWK enc k w0 blk off d wr) ∧ Hid ((i = m ∨ L d[i - 1]! d[a]! = true) ∧ (j = b ∨ L d[j]! d[a]! = false)))
  case atStart => exact ⟨m, b, rfl, rfl, Nat.le_refl _, by omega, Nat.le_refl _, Nat.le_refl _, S0, ⟨.inl rfl, .inl rfl⟩⟩
  case round =>
    clear S0
    obtain ⟨i, j, rfl, rfl, hmi, hij, hjb, hkx, S1, HE⟩ := hrel
    by_cases hlt : i < j
    · have hltz : (i : Int) < (j : Int) := by omega
      obtain ⟨h, hh⟩ : ∃ x, x = (i + j) / 2 := ⟨_, rfl⟩
      have eh : ((i : Int) + (j : Int)) / 2 = (h : Int) := by omega
      have h1 : i ≤ h := by omega
      have h2 : h < j := by omega
      have hz1 : (h : Int) < (d.size : Int) := by omega
      have hz2 : (a : Int) < (d.size : Int) := by omega
      clear hh
      obtain ⟨xx, hxx⟩ : ∃ x, x = d[h]! := ⟨_, rfl⟩
      obtain ⟨yy, hyy⟩ : ∃ x, x = d[a]! := ⟨_, rfl⟩
      have lx := S1.out.ld R (by omega) P (h) (by omega)
      have ly := S1.out.ld R (by omega) P (a) (by omega)
      rw [← hxx] at lx
      rw [← hyy] at ly
      have hcc := S1.out.cmp HC.out (by omega) xx yy
      have HXX : Hid _ := hxx
      have HYY : Hid _ := hyy
      clear hxx hyy
      by_cases hlv : cf xx yy < 0
      · have hd : decide (cf xx yy < 0) = true := decide_eq_true hlv
        go_wp2_with fail
        go_quiet_grown (first | (go_at_fn g; refine Calls.grown_of (hcc _ _)))
        have S3 : Aside (SWK enc k w0 blk off d (grow (wr.drewN nq) osq)) := S1.out.grown nq osq
        clear lx ly hcc S1
        generalize grow (wr.drewN nq) osq = w2 at S3 ⊢
        clear nq osq
        have HV : Hid (L d[h]! d[a]! = true) := by show _ = _; rw [← HX.out a h (Nat.le_refl _) ham (by omega) (by omega), ← HXX.out, ← HYY.out]; exact decide_eq_true hlv
        go_wp2_with fail
        go_roundg (j - (h + 1))
        case measure => omega
        case rel => exact ⟨h + 1, j, by go_num, rfl, by omega, by omega, hjb, Nat.le_refl _, S3, ⟨.inr (by rw [Nat.add_sub_cancel]; exact HV.out), HE.out.2⟩⟩
      · have hd : decide (cf xx yy < 0) = false := decide_eq_false hlv
        go_wp2_with fail
        go_quiet_grown (first | (go_at_fn g; refine Calls.grown_of (hcc _ _)))
        have S3 : Aside (SWK enc k w0 blk off d (grow (wr.drewN nq) osq)) := S1.out.grown nq osq
        clear lx ly hcc S1
        generalize grow (wr.drewN nq) osq = w2 at S3 ⊢
        clear nq osq
        have HV : Hid (L d[h]! d[a]! = false) := by show _ = _; rw [← HX.out a h (Nat.le_refl _) ham (by omega) (by omega), ← HXX.out, ← HYY.out]; exact decide_eq_false (by omega)
        go_wp2_with fail
        go_roundg (h - i)
        case measure => omega
        case rel => exact ⟨i, h, rfl, rfl, hmi, by omega, by omega, Nat.le_refl _, S3, ⟨HE.out.1, .inr HV.out⟩⟩
    · have hltz : ¬ (i : Int) < (j : Int) := by omega
      have HE2 : Hid ((i = m ∨ L d[i - 1]! d[a]! = true) ∧ (i = b ∨ L d[i]! d[a]! = false)) := by
        have e : j = i := by omega
        have h := HE.out
        rw [e] at h
        exact h
      clear HE
      go_wp2
      go_loopg [13] (b - a) (fun kx s13 wr => ∃ (q : Nat) (dk : Array α), s13 = .int .i64 q ∧ a ≤ q ∧ q < i ∧ i - q ≤ kx ∧ dk.size = d.size ∧ Aside (SWK enc k w0 blk off dk wr) ∧ Hid (Rot a (a + 1) (q + 1) d dk ∧ PermIn a b d dk))
      case atStart => exact ⟨a, d, rfl, Nat.le_refl _, by omega, by omega, rfl, S1, ⟨Rot.none1 a (a + 1) (by omega) d, permIn_refl d a b⟩⟩
      case round =>
        clear S1
        obtain ⟨q, dk, rfl, haq, hqi, hkx, hds, S2, HR⟩ := hrel
        by_cases hq : q + 1 < i
        · have hqz : (q : Int) < (i : Int) - 1 := by omega
          have hz1 : (q : Int) < (d.size : Int) := by omega
          have hz2 : (q : Int) + 1 < (d.size : Int) := by omega
          have e0 : ((q : Int) + 1).toNat = q + 1 := by omega
          have p0 : (0 : Int) ≤ (q : Int) + 1 := by omega
          go_wp2_with fail
          have S4 : Aside (SWK enc k w0 blk off (swp dk (q) (q + 1)) ((wr.drew.setCells blk (off + (q) * k) (enc dk[q + 1]!)).setCells blk (off + (q + 1) * k) (enc dk[q]!))) := S2.out.swapped R (q) (q + 1) (by omega) (by omega)
          have l1 := S2.out.ld1 R (by omega) P (q) (by omega)
          have l2 := S2.out.ld1 R (by omega) P (q + 1) (by omega)
          have s1 := S2.out.st1 R (by omega) P (q) (by omega) dk[q + 1]!
          have s2 := S2.out.st2 R (by omega) P (q) (q + 1) (by omega) (by omega) dk[q + 1]! dk[q]!
          have n1 : (enc dk[q]!).length = k := R.hk _
          have n2 : (enc dk[q + 1]!).length = k := R.hk _
          generalize enc dk[q]! = cI at S4 l1 s2 n1
          generalize enc dk[q + 1]! = cJ at S4 l2 s1 s2 n2
          clear S2
          go_wp2_with fail
          go_big_region_o
          clear l1 l2 s1 s2
          generalize (wr.drew.setCells blk (off + (q) * k) cJ).setCells blk (off + (q + 1) * k) cI = w3 at S4 ⊢
          go_wp2
          go_roundg (i - (q + 1))
          case measure => omega
          case rel => exact ⟨q + 1, swp dk q (q + 1), by go_num, by omega, by omega, Nat.le_refl _, by rw [size_swp]; exact hds, S4, ⟨HR.out.1.up haq (by omega), permIn_trans _ _ _ _ _ HR.out.2 (swp_permIn dk a b q (q + 1) (by omega) (by omega) (by omega) (by omega) (by omega))⟩⟩
        · have hqz : ¬ (q : Int) < (i : Int) - 1 := by omega
          go_wp2
          (try simp only [Exit.inBlock, Exit.then])
          refine bodyPost_ret (results_none rfl _ _ _) rfl ?_
          refine ⟨rfl, dk, HR.out.2, ?_, S2.out⟩
          have e : q + 1 = i := by omega
          have hr := HR.out.1
          rw [e] at hr
          have h2 := HS2.out
          have h3 := HE2.out
          rw [HM.out] at h2 h3
          exact merge_one hL hr (by omega) (by omega) h2 h3.1 h3.2
set_option maxHeartbeats 8000000 in
theorem sym_last (Z : SP P k) {L : α → α → Bool} (hL : SWO L) (enc : α → List Value) (cf : α → α → Int) (g : Nat) (cb : Array Value) (blk off cap a m b : Nat) (d0 d : Array α) (w0 w : World)
    (eg : ∀ args w, (callFunc g args).run P w = .ok (.enter g args) w) (hcmp : CmpLays P g cb enc k cf blk off d0.size w0)
    (R : RowK enc k w0 blk off d0) (hs : d0.size = d.size) (S : SWK enc k w0 blk off d w) (ham : a < m) (hmb : m < b) (hb : b ≤ d.size) (hsz : d.size < 4611686018427387904)
    (hs1 : SortedIn L a m d) (hs2 : SortedIn L m b d) (hc : Cross L (ltOf cf) a m b d) (hm : b = m + 1) (hn : m ≠ a + 1):
    Calls P 36 #[.slice (some ⟨blk, off, none⟩) d.size cap, .int .i64 a, .int .i64 m, .int .i64 b, .func (.func g) #[] cb] w fun e w' =>
      e = .returned (.tuple #[]) ∧ ∃ d', PermIn a b d d' ∧ SortedIn L a b d' ∧ SWK enc k w0 blk off d' w' := by
  have mixed := Z.mixed; have t0 := Z.t0; have a0 := Z.a0; have z0 := Z.z0; have v0 := Z.v0; have t3 := Z.t3; have a3 := Z.a3; have z3 := Z.z3; have v3 := Z.v3; have t4 := Z.t4; have a4 := Z.a4; have z4 := Z.z4; have v4 := Z.v4; have tU := Z.tU; have aU := Z.aU; have zU := Z.zU; have tS := Z.tS; have aS := Z.aS; have zS := Z.zS; have aF := Z.aF; have zF := Z.zF; have aE := Z.aE; have zE := Z.zE
  have FG := Z.fSym
  have HC : Aside _ := hcmp
  have S0 : Aside (SWK enc k w0 blk off d w) := S
  have HM : Hid _ := hm
  have hmz : (b : Int) - (m : Int) = 1 := by omega
  have hnz : ((m : Int) - (a : Int) == 1) = false := by rw [beq_eq_false_iff_ne]; omega
  have ma1 : b ≤ m + 1 := by omega
  have ma2 : m + 1 ≤ b := by omega
  have HS1 : Aside _ := hs1
  have HX : Aside _ := hc
  clear S hcmp hm hn hs1 hs2 hc
  go_enter FG, Try.ntmps36
  go_wp2
  go_loopg [14, 15] (m - a) (fun kx s14 s15 wr => ∃ (i j : Nat), s14 = .int .i64 i ∧ s15 = .int .i64 j ∧ a ≤ i ∧ i ≤ j ∧ j ≤ m ∧ j - i ≤ kx ∧ Aside (SWK enc k w0 blk off d wr) ∧ Hid ((i = a ∨ L d[m]! d[i - 1]! = false) ∧ (j = m ∨ L d[m]! d[j]! = true)))
  case atStart => exact ⟨a, m, rfl, rfl, Nat.le_refl _, by omega, Nat.le_refl _, Nat.le_refl _, S0, ⟨.inl rfl, .inl rfl⟩⟩
  case round =>
    clear S0
    obtain ⟨i, j, rfl, rfl, hmi, hij, hjb, hkx, S1, HE⟩ := hrel
    by_cases hlt : i < j
    · have hltz : (i : Int) < (j : Int) := by omega
      obtain ⟨h, hh⟩ : ∃ x, x = (i + j) / 2 := ⟨_, rfl⟩
      have eh : ((i : Int) + (j : Int)) / 2 = (h : Int) := by omega
      have h1 : i ≤ h := by omega
      have h2 : h < j := by omega
      have hz1 : (h : Int) < (d.size : Int) := by omega
      have hz2 : (m : Int) < (d.size : Int) := by omega
      clear hh
      obtain ⟨xx, hxx⟩ : ∃ x, x = d[m]! := ⟨_, rfl⟩
      obtain ⟨yy, hyy⟩ : ∃ x, x = d[h]! := ⟨_, rfl⟩
      have lx := S1.out.ld R (by omega) P (m) (by omega)
      have ly := S1.out.ld R (by omega) P (h) (by omega)
      rw [← hxx] at lx
      rw [← hyy] at ly
      have hcc := S1.out.cmp HC.out (by omega) xx yy
      have HXX : Hid _ := hxx
      have HYY : Hid _ := hyy
      clear hxx hyy
      by_cases hlv : cf xx yy < 0
      · have hd : decide (cf xx yy < 0) = true := decide_eq_true hlv
        go_wp2_with fail
        go_quiet_grown (first | (go_at_fn g; refine Calls.grown_of (hcc _ _)))
        have S3 : Aside (SWK enc k w0 blk off d (grow (wr.drewN nq) osq)) := S1.out.grown nq osq
        clear lx ly hcc S1
        generalize grow (wr.drewN nq) osq = w2 at S3 ⊢
        clear nq osq
        have HV : Hid (L d[m]! d[h]! = true) := by show _ = _; rw [← HX.out h m (by omega) (by omega) (Nat.le_refl _) (by omega), ← HXX.out, ← HYY.out]; exact decide_eq_true hlv
        go_wp2_with fail
        go_roundg (h - i)
        case measure => omega
        case rel => exact ⟨i, h, rfl, rfl, hmi, by omega, by omega, Nat.le_refl _, S3, ⟨HE.out.1, .inr HV.out⟩⟩
      · have hd : decide (cf xx yy < 0) = false := decide_eq_false hlv
        go_wp2_with fail
        go_quiet_grown (first | (go_at_fn g; refine Calls.grown_of (hcc _ _)))
        have S3 : Aside (SWK enc k w0 blk off d (grow (wr.drewN nq) osq)) := S1.out.grown nq osq
        clear lx ly hcc S1
        generalize grow (wr.drewN nq) osq = w2 at S3 ⊢
        clear nq osq
        have HV : Hid (L d[m]! d[h]! = false) := by show _ = _; rw [← HX.out h m (by omega) (by omega) (Nat.le_refl _) (by omega), ← HXX.out, ← HYY.out]; exact decide_eq_false (by omega)
        go_wp2_with fail
        go_roundg (j - (h + 1))
        case measure => omega
        case rel => exact ⟨h + 1, j, by go_num, rfl, by omega, by omega, hjb, Nat.le_refl _, S3, ⟨.inr (by rw [Nat.add_sub_cancel]; exact HV.out), HE.out.2⟩⟩
    · have hltz : ¬ (i : Int) < (j : Int) := by omega
      have HE2 : Hid ((i = a ∨ L d[m]! d[i - 1]! = false) ∧ (i = m ∨ L d[m]! d[i]! = true)) := by
        have e : j = i := by omega
        have h := HE.out
        rw [e] at h
        exact h
      clear HE
      go_wp2
      go_loopg [17] (b - a) (fun kx s17 wr => ∃ (q : Nat) (dk : Array α), s17 = .int .i64 q ∧ i ≤ q ∧ q ≤ m ∧ q - i ≤ kx ∧ dk.size = d.size ∧ Aside (SWK enc k w0 blk off dk wr) ∧ Hid (Rot q m (m + 1) d dk ∧ PermIn a b d dk))
      case atStart => exact ⟨m, d, rfl, by omega, Nat.le_refl _, by omega, rfl, S1, ⟨Rot.none2 m (m + 1) d, permIn_refl d a b⟩⟩
      case round =>
        clear S1
        obtain ⟨q, dk, rfl, haq, hqi, hkx, hds, S2, HR⟩ := hrel
        by_cases hq : i < q
        · obtain ⟨p, rfl⟩ : ∃ p, q = p + 1 := ⟨q - 1, by omega⟩
          have hqz : (i : Int) < (p : Int) + 1 := by omega
          have hz1 : (p : Int) < (d.size : Int) := by omega
          have hz2 : (p : Int) + 1 < (d.size : Int) := by omega
          have e0 : ((p : Int) + 1).toNat = p + 1 := by omega
          have p0 : (0 : Int) ≤ (p : Int) + 1 := by omega
          have hwp : IntKind.i64.wrap (p : Int) = (p : Int) := by rw [IntKind.wrap_i64]; omega
          go_wp2_with fail
          have S4 : Aside (SWK enc k w0 blk off (swp dk (p + 1) (p)) ((wr.drew.setCells blk (off + (p + 1) * k) (enc dk[p]!)).setCells blk (off + (p) * k) (enc dk[p + 1]!))) := S2.out.swapped R (p + 1) (p) (by omega) (by omega)
          have l1 := S2.out.ld1 R (by omega) P (p + 1) (by omega)
          have l2 := S2.out.ld1 R (by omega) P (p) (by omega)
          have s1 := S2.out.st1 R (by omega) P (p + 1) (by omega) dk[p]!
          have s2 := S2.out.st2 R (by omega) P (p + 1) (p) (by omega) (by omega) dk[p]! dk[p + 1]!
          have n1 : (enc dk[p + 1]!).length = k := R.hk _
          have n2 : (enc dk[p]!).length = k := R.hk _
          generalize enc dk[p + 1]! = cI at S4 l1 s2 n1
          generalize enc dk[p]! = cJ at S4 l2 s1 s2 n2
          clear S2
          go_wp2_with fail
          go_big_region_o
          clear l1 l2 s1 s2
          generalize (wr.drew.setCells blk (off + (p + 1) * k) cJ).setCells blk (off + (p) * k) cI = w3 at S4 ⊢
          go_wp2
          go_roundg (p - i)
          case measure => omega
          case rel => exact ⟨p, swp dk (p + 1) p, by first | rfl | go_num | (congr 1; omega), by omega, by omega, Nat.le_refl _, by rw [size_swp]; exact hds, S4, ⟨HR.out.1.down (by omega) (by omega), permIn_trans _ _ _ _ _ HR.out.2 (swp_permIn dk a b (p + 1) p (by omega) (by omega) (by omega) (by omega) (by omega))⟩⟩
        · have hqz : ¬ (i : Int) < (q : Int) := by omega
          go_wp2
          (try simp only [Exit.inBlock, Exit.then])
          refine bodyPost_ret (results_none rfl _ _ _) rfl ?_
          refine ⟨rfl, dk, HR.out.2, ?_, S2.out⟩
          have e : q = i := by omega
          have hr := HR.out.1
          rw [e] at hr
          rw [HM.out]
          exact merge_last hL hr (by omega) (by omega) HS1.out HE2.out.1 HE2.out.2
end Go.Proofs.Ytoppjfambomdmaa
