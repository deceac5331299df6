/- The library's rotation of two stretches. -/
import Derived.Test.YtoppjfambomdmaaSortW
namespace Go.Proofs.Ytoppjfambomdmaa
open Go.Shelf Go.RowKit Go.Lib Go.Sort
set_option linter.all false
set_option maxRecDepth 100000
variable {P : Program} {k : Nat} {α : Type} [Inhabited α]
set_option maxHeartbeats 4000000 in
theorem rotate_any (Z : SP P k) (enc : α → List Value) (g : Nat) (cb : Array Value) (blk off cap a m b : Nat) (d0 d : Array α) (w0 w : World)
    (R : RowK enc k w0 blk off d0) (hs : d0.size = d.size) (S : SWK enc k w0 blk off d w) (ham : a < m) (hmb : m < b) (hb : b ≤ d.size) (hsz : d.size < 4611686018427387904) :
    Calls P 39 #[.slice (some ⟨blk, off, none⟩) d.size cap, .int .i64 a, .int .i64 m, .int .i64 b, .func (.func g) #[] cb] w fun e w' =>
      e = .returned (.tuple #[]) ∧ ∃ d', Rot a m b d d' ∧ PermIn a b d d' ∧ SWK enc k w0 blk off d' w' := by
  have mixed := Z.mixed; have t0 := Z.t0; have a0 := Z.a0; have z0 := Z.z0; have v0 := Z.v0; have t3 := Z.t3; have a3 := Z.a3; have z3 := Z.z3; have v3 := Z.v3; have t4 := Z.t4; have a4 := Z.a4; have z4 := Z.z4; have v4 := Z.v4; have tS := Z.tS; have aS := Z.aS; have zS := Z.zS; have aF := Z.aF; have zF := Z.zF; have aE := Z.aE; have zE := Z.zE
  have eSw := Z.eSwap
  have FG := Z.fRot
  have S0 : Aside (SWK enc k w0 blk off d w) := S
  clear S
  have i0 : (m : Int) - (a : Int) = ((m - a : Nat) : Int) := by omega
  have j0 : (b : Int) - (m : Int) = ((b - m : Nat) : Int) := by omega
  obtain ⟨ia, hia⟩ : ∃ x, x = m - a := ⟨_, rfl⟩
  obtain ⟨jb, hjb⟩ : ∃ x, x = b - m := ⟨_, rfl⟩
  rw [← hia] at i0
  rw [← hjb] at j0
  have ia1 : a + ia ≤ m := by omega
  have ia2 : m ≤ a + ia := by omega
  have jb1 : m + jb ≤ b := by omega
  have jb2 : b ≤ m + jb := by omega
  clear hia hjb
  go_enter FG, Try.ntmps39
  go_wp2
  go_loopg [10, 11] (ia + jb) (fun kx s10 s11 wr => ∃ (i j : Nat) (dk : Array α), s10 = .int .i64 i ∧ s11 = .int .i64 j ∧ 0 < i ∧ 0 < j ∧ a + i ≤ m ∧ m + j ≤ b ∧ i + j ≤ kx ∧ dk.size = d.size ∧ Aside (SWK enc k w0 blk off dk wr) ∧ Hid ((∀ F, Rot (m - i) m (m + j) dk F → Rot a m b d F) ∧ PermIn a b d dk))
  case atStart => exact ⟨ia, jb, d, rfl, rfl, by omega, by omega, by omega, by omega, Nat.le_refl _, rfl, S0, ⟨fun F h => by rw [show m - ia = a by omega, show m + jb = b by omega] at h; exact h, permIn_refl d a b⟩⟩
  case round =>
    clear S0 i0 j0
    obtain ⟨i, j, dk, rfl, rfl, hi, hj, hai, hjb', hkx, hds, S1, HE⟩ := hrel
    obtain ⟨p, hp⟩ : ∃ x, x = m - i := ⟨_, rfl⟩
    have ep : (m : Int) - (i : Int) = (p : Int) := by omega
    have HP : Hid _ := hp
    have pb : p < m := by omega
    by_cases hij : i = j
    · have hz : ((i : Int) != (j : Int)) = false := by subst hij; simp
      have h : Aside _ := swapRange_any Z enc g cb blk off cap p m i d0 dk w0 wr R (by omega) S1.out (by omega) (by omega) (by omega)
      rw [hds] at h
      have HIJ : Hid _ := hij
      clear hij S1 hp
      go_wp2_with fail
      refine Calls.mono h.out ?_
      rintro e w' ⟨rfl, d1, h1, h2, S2⟩
      have HR : Hid (Rot a m b d d1) := by
        have h1' := h1
        rw [HP.out] at h1'
        exact HE.out.1 d1 (by rw [← HIJ.out]; exact Rot.last (by omega) h1')
      have HPm : Hid (PermIn a b d d1) := permIn_trans _ _ _ _ _ HE.out.2 (permIn_mono _ _ p (m + i) a b (by have := HP.out; omega) (by have := HIJ.out; omega) (by omega) h2)
      clear h h1 h2
      go_wp2_with fail
      go_end0
      exact ⟨rfl, d1, HR.out, HPm.out, S2⟩
    · have hz : ((i : Int) != (j : Int)) = true := by rw [bne_iff_ne]; omega
      have HIJ : Hid _ := hij
      clear hij
      by_cases hgt : j < i
      · have hgz : (j : Int) < (i : Int) := by omega
        have h : Aside _ := swapRange_any Z enc g cb blk off cap p m j d0 dk w0 wr R (by omega) S1.out (by omega) (by omega) (by omega)
        rw [hds] at h
        have ei : (i : Int) - (j : Int) = ((i - j : Nat) : Int) := by omega
        clear S1 hp
        go_wp2_with fail
        refine Calls.mono h.out ?_
        rintro e w' ⟨rfl, d1, h1, h2, S2⟩
        have H1 : Hid _ := h1
        have H2 : Hid _ := h2
        have S2' : Aside _ := S2
        clear h h1 h2 S2
        go_wp2_with fail
        go_roundg (i - j + j)
        case measure => omega
        case rel => exact ⟨i - j, j, d1, rfl, rfl, by omega, by omega, by omega, by omega, Nat.le_refl _, by rw [H2.out.1]; exact hds, S2', ⟨fun F hF => HE.out.1 F (Rot.more1 (by omega) hgt (by have := H1.out; rw [HP.out] at this; exact this) hF), permIn_trans _ _ _ _ _ HE.out.2 (permIn_mono _ _ p (m + j) a b (by have := HP.out; omega) (by omega) (by omega) H2.out)⟩⟩
      · have hgz : ¬ (j : Int) < (i : Int) := by omega
        have hlt : i < j := Nat.lt_of_le_of_ne (by omega) HIJ.out
        obtain ⟨q, hq⟩ : ∃ x, x = m + j - i := ⟨_, rfl⟩
        have eq : (m : Int) + (j : Int) - (i : Int) = (q : Int) := by omega
        have HQ : Hid _ := hq
        have qb : q ≤ m + j := by omega
        have h : Aside _ := swapRange_any Z enc g cb blk off cap p q i d0 dk w0 wr R (by omega) S1.out (by omega) (by omega) (by omega)
        rw [hds] at h
        have ei : (j : Int) - (i : Int) = ((j - i : Nat) : Int) := by omega
        clear S1 hp hq
        go_wp2_with fail
        refine Calls.mono h.out ?_
        rintro e w' ⟨rfl, d1, h1, h2, S2⟩
        have H1 : Hid _ := h1
        have H2 : Hid _ := h2
        have S2' : Aside _ := S2
        clear h h1 h2 S2
        go_wp2_with fail
        go_roundg (i + (j - i))
        case measure => omega
        case rel => exact ⟨i, j - i, d1, rfl, rfl, by omega, by omega, by omega, by omega, Nat.le_refl _, by rw [H2.out.1]; exact hds, S2', ⟨fun F hF => HE.out.1 F (Rot.more2 (by omega) hlt (by have := H1.out; rw [HP.out, HQ.out] at this; exact this) hF), permIn_trans _ _ _ _ _ HE.out.2 (permIn_mono _ _ p (q + i) a b (by have := HP.out; omega) (by have := HQ.out; omega) (by omega) H2.out)⟩⟩
end Go.Proofs.Ytoppjfambomdmaa
