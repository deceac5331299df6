/- The document's own answer to a text that is written as letters. -/
import Derived.Test.YtgdcifllbfdbhaaSixtyR
namespace Go.Proofs.Ytgdcifllbfdbhaa
open Go.RowKit
set_option linter.all false
set_option maxRecDepth 100000

theorem txt_cat2 (a b : List UInt8) : txt a ++ txt b = txt (a ++ b) := ByteArray.mk_append_mk a b
set_option maxHeartbeats 4000000 in
theorem sixtyOf_any (x : List UInt8) (w : World) (hx : x.length ≤ maxLen) :
    Calls Try.prog 12 #[.string (txt x)] w fun e w' => e = .returned (.tuple #[.string (txt (wT x)), .int .i64 (wE x)]) ∧ Below w.heap.size w w' := by
  unfold maxLen at hx
  obtain ⟨T, hT⟩ : ∃ T, T = txt x := ⟨_, rfl⟩
  obtain ⟨n, hn⟩ : ∃ n, n = x.length := ⟨_, rfl⟩
  have hsz : T.size = n := by rw [hT, hn]; rfl
  have HX : Hid _ := hT
  have HN : Hid _ := hn
  rw [← hT]
  by_cases h4 : 400 < n
  · have HT : Hid (wT x = []) := by show _ = _; unfold wT; rw [if_pos (by omega)]
    have HE : Hid (wE x = 2) := by show _ = _; unfold wE; rw [if_pos (by omega)]
    have h4' : (400 : Int) < (n : Int) := by omega
    clear hT hn h4
    go_enter Try.func12, Try.ntmps12
    go_wp2_with fail
    exact bodyPost_ret (v := .tuple #[.string ⟨#[]⟩, .int .i64 2]) (by simp [results, Try.results12, go_sem]) rfl ⟨by rw [HT.out, HE.out]; rfl, Below.refl _ _⟩
  · have HT : Hid (wT x = wL x) := by show _ = _; unfold wT; rw [if_neg (by omega)]
    have HE : Hid (wE x = 0) := by show _ = _; unfold wE; rw [if_neg (by omega)]
    have h4' : (n : Int) ≤ 400 := by omega
    have hn4 : n ≤ 400 := by omega
    clear hT hn h4
    go_enter Try.func12, Try.ntmps12
    go_wp2_with fail
    go_loopw [4, 5, 6, 7, 8] (fun s i _ _ _ wr => ∃ k : Nat, 3 * k ≤ n + 2 ∧ i = .int .i64 ((3 * k : Nat) : Int) ∧ s = .string (txt (wL (x.take (3 * k)))) ∧ Hid (Below w.heap.size w wr)) (fun _ i _ _ _ _ => n + 3 - (intOf i).toNat)
    case atStart => exact ⟨0, Nat.zero_le _, rfl, by rw [Nat.mul_zero, List.take_zero]; rfl, Below.refl _ _⟩
    case round =>
      obtain ⟨k, hk, rfl, rfl, hbw⟩ := hrel
      obtain ⟨a, ha⟩ : ∃ a, a = 3 * k := ⟨_, rfl⟩
      rw [← ha]
      by_cases hlt : a < n
      · obtain ⟨g, hg⟩ : ∃ g, g = (x.drop a).take 3 := ⟨_, rfl⟩
        obtain ⟨gl, hgl⟩ : ∃ gl, gl = g.length := ⟨_, rfl⟩
        have hgl2 : gl = min 3 (n - a) := by rw [hgl, hg, List.length_take, List.length_drop, ← HN.out]
        have hgl1 : 1 ≤ gl := by omega
        have hgl3 : gl ≤ 3 := by omega
        have HGET : Hid (∀ q, q < 3 → g[q]? = x[a + q]?) := fun q hq => by rw [hg, List.getElem?_take, if_pos hq, List.getElem?_drop]
        have HTK : Hid (wL (x.take (3 * (k + 1))) = wL (x.take a) ++ wL g) := by
          show _ = _
          rw [← wL_append _ _ (by rw [List.length_take, ← HN.out]; omega), hg, Nat.mul_succ, List.take_add, ← ha]
        have HGL : Hid _ := hgl
        obtain ⟨S, hS⟩ : ∃ S, S = txt (wL (x.take a)) := ⟨_, rfl⟩
        have HSL : Hid (S.size ≤ 535) := by show _ ≤ _; rw [hS, txt_size, wL_length, List.length_take, ← HN.out]; unfold wM; omega
        have HS : Hid _ := hS
        rw [← hS]
        obtain ⟨wo, hwo⟩ : ∃ W : World, W = wr := ⟨_, rfl⟩
        rw [← hwo] at hbw ⊢
        have HA : Hid _ := ha
        have hgle : ∀ q : Nat, a + q < n → q < 3 → q < gl := fun q h1 h2 => by omega
        have hglt : ∀ q : Nat, ¬ a + q < n → q < 3 → gl ≤ q := fun q h1 h2 => by omega
        have HGE : Hid _ := hgle
        have HGT : Hid _ := hglt
        have HAN : Hid (a < n ∧ 3 * k ≤ n + 2) := ⟨hlt, hk⟩
        have ha4 : a ≤ 400 := by omega
        clear hS hg hgl hgl2 hwo ha hgle hglt hk
        go_wp2_with fail
        go_loop [6, 7, 8] (fun nn mm j => ∃ q : Nat, q ≤ 3 ∧ j = .int .i64 q ∧ nn = .int .i64 (nb g q : Int) ∧ mm = .int .i64 ((min q gl : Nat) : Int)) (fun _ _ j => 3 - (intOf j).toNat)
        case atStart => exact ⟨0, by decide, rfl, rfl, by rw [Nat.zero_min]; rfl⟩
        case round =>
          obtain ⟨q, hq, rfl, rfl, rfl⟩ := hrel
          obtain ⟨N, hN⟩ : ∃ N, N = nb g q := ⟨_, rfl⟩
          obtain ⟨M, hM⟩ : ∃ M, M = min q gl := ⟨_, rfl⟩
          have HNS : Hid (nb g (q + 1) = N * 256 + (g[q]?.getD 0).toNat) := by show _ = _; rw [hN]; exact nb_succ g q
          have hNl : N < 16777216 := by
            have h1 := nb_lt g q
            have h2 : (256:Nat) ^ q ≤ 256 ^ 3 := Nat.pow_le_pow_right (by decide) hq
            rw [hN]; omega
          have hMl : M ≤ 3 := by omega
          have HN2 : Hid _ := hN
          have HM2 : Hid _ := hM
          rw [← hN, ← hM]
          clear hN hM
          by_cases hq3 : q < 3
          · have i6 : IntKind.i64.wrap ((N : Int) * 256) = (N : Int) * 256 := IntWalk.i64_in _ (by omega)
            have i5 : IntKind.i64.wrap ((a : Int) + (q : Int)) = (a : Int) + (q : Int) := IntWalk.i64_in _ (by omega)
            by_cases hin : a + q < n
            · have hlt2 : a + q < T.size := by omega
              obtain ⟨c, hce⟩ : ∃ c, x[a + q]? = some c := ⟨_, List.getElem?_eq_getElem (by rw [← HN.out]; exact hin)⟩
              have hc' : T[a + q] = c := by
                have h1 := get_of T (a + q) hlt2
                have h2 : T.data.toList = x := by rw [HX.out]; rfl
                rw [h2, hce] at h1
                injection h1 with h1
                exact h1.symm
              have HS2 : Hid (nb g (q + 1) = N * 256 + c.toNat) := by show _ = _; rw [HNS.out, HGET.out q hq3, hce]; rfl
              have hcl := u8_lt c
              have HM3 : Hid (min (q + 1) gl = M + 1) := by
                show _ = _
                have := HGE.out q hin hq3
                rw [HM2.out]; omega
              have i2 : (a : Int) + (q : Int) < (n : Int) := by omega
              have i3 : (0 : Int) ≤ (a : Int) + (q : Int) := by omega
              have i4 : ((a : Int) + (q : Int)).toNat = a + q := by omega
              have i7 : IntKind.i64.wrap ((N : Int) * 256 + (c.toNat : Int)) = (N : Int) * 256 + (c.toNat : Int) := IntWalk.i64_in _ (by omega)
              have i8 : IntKind.i64.wrap (c.toNat : Int) = (c.toNat : Int) := IntWalk.i64_in _ (by omega)
              have HVAL : Hid ((N : Int) * 256 + (c.toNat : Int) = ((N * 256 + c.toNat : Nat) : Int)) := by show _ = _; omega
              clear hce
              go_wp2_with fail
              go_round
              case rel => exact ⟨q + 1, by omega, by go_num, by rw [HS2.out, ← HVAL.out], by rw [HM3.out]; push_cast; rfl⟩
              case measure => simp [intOf]; omega
            · have HS2 : Hid (nb g (q + 1) = N * 256) := by
                show _ = _
                rw [HNS.out, HGET.out q hq3, List.getElem?_eq_none (by rw [← HN.out]; omega)]; rfl
              have HM3 : Hid (min (q + 1) gl = M) := by
                show _ = _
                have := HGT.out q hin hq3
                rw [HM2.out]; omega
              have i2 : ¬ (a : Int) + (q : Int) < (n : Int) := by omega
              have HVAL : Hid ((N : Int) * 256 = ((N * 256 : Nat) : Int)) := by show _ = _; omega
              clear hin
              go_wp2_with fail
              go_round
              case rel => exact ⟨q + 1, by omega, by go_num, by rw [HS2.out, ← HVAL.out], by rw [HM3.out]⟩
              case measure => simp [intOf]; omega
          · have hq3' : q = 3 := by omega
            subst hq3'
            have hMg : M = gl := by rw [HM2.out]; omega
            obtain ⟨p0, hp0⟩ : ∃ p, p = N / 262144 := ⟨_, rfl⟩
            obtain ⟨r1, hr1⟩ : ∃ p, p = N / 4096 := ⟨_, rfl⟩
            obtain ⟨p1, hp1⟩ : ∃ p, p = r1 % 64 := ⟨_, rfl⟩
            obtain ⟨r2, hr2⟩ : ∃ p, p = N / 64 := ⟨_, rfl⟩
            obtain ⟨p2, hp2⟩ : ∃ p, p = r2 % 64 := ⟨_, rfl⟩
            obtain ⟨p3, hp3⟩ : ∃ p, p = N % 64 := ⟨_, rfl⟩
            have d0 : (N : Int).tdiv 262144 = (p0 : Int) := by rw [Int.tdiv_eq_ediv_of_nonneg (by omega)]; omega
            have d0' : (N : Int) / 262144 = (p0 : Int) := by omega
            have d1 : (N : Int).tdiv 4096 = (r1 : Int) := by rw [Int.tdiv_eq_ediv_of_nonneg (by omega)]; omega
            have d1' : (N : Int) / 4096 = (r1 : Int) := by omega
            have d2 : (r1 : Int).tmod 64 = (p1 : Int) := by rw [Int.tmod_eq_emod_of_nonneg (by omega)]; omega
            have d2' : (r1 : Int) % 64 = (p1 : Int) := by omega
            have d3 : (N : Int).tdiv 64 = (r2 : Int) := by rw [Int.tdiv_eq_ediv_of_nonneg (by omega)]; omega
            have d3' : (N : Int) / 64 = (r2 : Int) := by omega
            have d4 : (r2 : Int).tmod 64 = (p2 : Int) := by rw [Int.tmod_eq_emod_of_nonneg (by omega)]; omega
            have d4' : (r2 : Int) % 64 = (p2 : Int) := by omega
            have d5 : (N : Int).tmod 64 = (p3 : Int) := by rw [Int.tmod_eq_emod_of_nonneg (by omega)]; omega
            have d5' : (N : Int) % 64 = (p3 : Int) := by omega
            have l0 : p0 < 64 := by omega
            have l1 : p1 < 64 := by omega
            have l2 : p2 < 64 := by omega
            have l3 : p3 < 64 := by omega
            have HWG : Hid (wL g = [ltr p0, ltr p1, ltr p2, ltr p3].take (gl + 1)) := by
              show _ = _
              rw [wL_nb g (by rw [← HGL.out]; exact hgl1) (by rw [← HGL.out]; exact hgl3), ← HN2.out, ← HGL.out, hp0, hp1, hr1, hp2, hr2, hp3]
            obtain ⟨L0, hL0⟩ : ∃ L, L = txt [ltr p0] := ⟨_, rfl⟩
            obtain ⟨L1, hL1⟩ : ∃ L, L = txt [ltr p1] := ⟨_, rfl⟩
            obtain ⟨L2, hL2⟩ : ∃ L, L = txt [ltr p2] := ⟨_, rfl⟩
            obtain ⟨L3, hL3⟩ : ∃ L, L = txt [ltr p3] := ⟨_, rfl⟩
            obtain ⟨L01, hL01⟩ : ∃ L, L0 ++ L1 = L := ⟨_, rfl⟩
            obtain ⟨L02, hL02⟩ : ∃ L, L01 ++ L2 = L := ⟨_, rfl⟩
            obtain ⟨L03, hL03⟩ : ∃ L, L02 ++ L3 = L := ⟨_, rfl⟩
            have t01 : L01 = txt [ltr p0, ltr p1] := by rw [← hL01, hL0, hL1, txt_cat2]; rfl
            have t02 : L02 = txt [ltr p0, ltr p1, ltr p2] := by rw [← hL02, t01, hL2, txt_cat2]; rfl
            have t03 : L03 = txt [ltr p0, ltr p1, ltr p2, ltr p3] := by rw [← hL03, t02, hL3, txt_cat2]; rfl
            have z0 : L0.size = 1 := by rw [hL0]; rfl
            have z1 : L1.size = 1 := by rw [hL1]; rfl
            have z2 : L2.size = 1 := by rw [hL2]; rfl
            have z3 : L3.size = 1 := by rw [hL3]; rfl
            have z01 : L01.size = 2 := by rw [t01]; rfl
            have z02 : L02.size = 3 := by rw [t02]; rfl
            have z03 : L03.size = 4 := by rw [t03]; rfl
            have k0 : Hid (∀ w', Calls Try.prog 28 #[.int .i64 (p0 : Int)] w' fun e w'' => e = .returned (.string L0) ∧ Below w'.heap.size w' w'') := fun w' => by rw [hL0]; exact letter_any p0 w' l0
            have k1 : Hid (∀ w', Calls Try.prog 28 #[.int .i64 (p1 : Int)] w' fun e w'' => e = .returned (.string L1) ∧ Below w'.heap.size w' w'') := fun w' => by rw [hL1]; exact letter_any p1 w' l1
            have k2 : Hid (∀ w', Calls Try.prog 28 #[.int .i64 (p2 : Int)] w' fun e w'' => e = .returned (.string L2) ∧ Below w'.heap.size w' w'') := fun w' => by rw [hL2]; exact letter_any p2 w' l2
            have k3 : Hid (∀ w', Calls Try.prog 28 #[.int .i64 (p3 : Int)] w' fun e w'' => e = .returned (.string L3) ∧ Below w'.heap.size w' w'') := fun w' => by rw [hL3]; exact letter_any p3 w' l3
            have hM1 : IntKind.i64.wrap ((gl : Int) + 1) = (gl : Int) + 1 := IntWalk.i64_in _ (by omega)
            have hM2 : (gl : Int) + 1 ≤ 4 := by omega
            have hM3 : (0 : Int) ≤ (gl : Int) + 1 := by omega
            have hM4 : ((gl : Int) + 1).toNat = gl + 1 := by omega
            obtain ⟨G, hG⟩ : ∃ G, L03.extract 0 (gl + 1) = G := ⟨_, rfl⟩
            have tG : G = txt (wL g) := by rw [← hG, t03, ext_to, HWG.out]; rfl
            have zG : G.size ≤ 4 := by rw [tG, txt_size, wL_length, ← HGL.out]; unfold wM; omega
            obtain ⟨SG, hSG⟩ : ∃ SG, S ++ G = SG := ⟨_, rfl⟩
            have HSG : Hid (SG = txt (wL (x.take (3 * (k + 1))))) := by show _ = _; rw [← hSG, HS.out, tG, txt_cat2, HTK.out]
            have zS := HSL.out
            have zSG : S.size + G.size ≤ 9223372036854775807 := by omega
            have zSG2 : ¬ 9223372036854775807 < S.size + G.size := by omega
            have i8 : IntKind.i64.wrap ((a : Int) + 3) = (a : Int) + 3 := IntWalk.i64_in _ (by omega)
            have HA2 : Hid ((a : Int) + 3 = ((3 * (k + 1) : Nat) : Int)) := by show _ = _; have := HA.out; omega
            have HK1 : Hid (3 * (k + 1) ≤ n + 2) := by show _ ≤ _; have := HAN.out; have := HA.out; omega
            rw [hMg]
            clear hp0 hr1 hp1 hr2 hp2 hp3 l0 l1 l2 l3 hL0 hL1 hL2 hL3 t01 t02 t03 tG hMg
            go_wp2_with fail
            refine (k0.out _).mono ?_
            rintro e w1 ⟨rfl, hb1⟩
            have B1 : Hid (Below w.heap.size w w1) := next hbw.out hb1
            clear hb1
            go_wp2_with fail
            refine (k1.out _).mono ?_
            rintro e w2 ⟨rfl, hb2⟩
            have B2 : Hid (Below w.heap.size w w2) := next B1.out hb2
            clear hb2
            go_wp2_with fail
            refine (k2.out _).mono ?_
            rintro e w3 ⟨rfl, hb3⟩
            have B3 : Hid (Below w.heap.size w w3) := next B2.out hb3
            clear hb3
            go_wp2_with fail
            refine (k3.out _).mono ?_
            rintro e w4 ⟨rfl, hb4⟩
            have B4 : Hid (Below w.heap.size w w4) := next B3.out hb4
            clear hb4
            go_wp2_with fail
            go_roundw
            case rel => exact ⟨k + 1, HK1.out, by rw [HA2.out], by rw [HSG.out], B4⟩
            case measure => have := HAN.out; simp [intOf]; omega
      · have HT2 : Hid (x.take (3 * k) = x) := List.take_of_length_le (by rw [← HN.out]; omega)
        rw [ha, HT2.out, ← ha]
        have hlt' : ¬ (a : Int) < (n : Int) := by omega
        clear ha hk hlt
        go_wp2_with fail
        exact bodyPost_ret (v := .tuple #[.string (txt (wL x)), .int .i64 0]) (by simp [results, Try.results12, go_sem]) rfl ⟨by rw [HT.out, HE.out], hbw.out⟩
end Go.Proofs.Ytgdcifllbfdbhaa
