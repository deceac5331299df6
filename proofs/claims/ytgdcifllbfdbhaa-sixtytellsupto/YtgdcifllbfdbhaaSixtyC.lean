/- The contracts of lettersAlone and groupOf of package sixty. -/
import Derived.Test.YtgdcifllbfdbhaaSixtyB
import Derived.Test.YtgdcifllbfdbhaaBitsC
import Derived.BigQuiet
namespace Go.Proofs.Ytgdcifllbfdbhaa
open Go.RowKit Go.Lib
set_option linter.all false
set_option maxRecDepth 100000

/-- a letter's place in the row of all -/
def idxA (c : UInt8) : Int := if lnum c < 64 then (lnum c : Int) else -1
theorem idx_abc (c : UInt8) : Lib.indexByte abcB.data.toList c = idxA c := by
  have : ∀ c : UInt8, Lib.indexByte abcB.data.toList c = idxA c := u8_all _ (by decide +kernel)
  exact this c
theorem alone_no (x : List UInt8) (k : Nat) (c : UInt8) (h : x[k]? = some c) (hc : ¬ lnum c < 64) : alone x = false := by
  unfold alone
  rw [List.all_eq_false]
  exact ⟨c, List.mem_of_getElem? h, by simp; omega⟩
theorem alone_all (x : List UInt8) (h : ∀ (j : Nat) c, x[j]? = some c → lnum c < 64) : alone x = true := by
  unfold alone
  rw [List.all_eq_true]
  intro c hc
  obtain ⟨k, hk⟩ := List.getElem?_of_mem hc
  exact decide_eq_true (h k c hk)
set_option maxHeartbeats 1000000 in
theorem alone_any (s : ByteArray) (w : World) (hs : s.size ≤ maxLen) :
    Calls Try.prog 24 #[.string s] w fun e w' => e = .returned (.bool (alone s.data.toList)) ∧ w' = w := by
  unfold maxLen at hs
  go_enter Try.func24, Try.ntmps24
  go_wp2
  go_loop [6] (fun i => ∃ k : Nat, k ≤ s.size ∧ i = .int .i64 k ∧ Hid (∀ j c, s.data.toList[j]? = some c → j < k → lnum c < 64)) (fun i => s.size - (intOf i).toNat)
  case atStart => exact ⟨0, Nat.zero_le _, rfl, fun _ _ _ h => absurd h (by omega)⟩
  case round =>
    obtain ⟨k, hk, rfl, hb⟩ := hrel
    by_cases hlt : k < s.size
    · have HG : Hid (s.data.toList[k]? = some s[k]) := get_of s k hlt
      obtain ⟨z, hz⟩ : ∃ z, z = idxA s[k] := ⟨_, rfl⟩
      have KI : Hid (∀ w', Calls Try.prog 46 #[.string abcB, .int .u8 (s[k].toNat : Int)] w' fun e w'' => e = .returned (.int .i64 z) ∧ w'' = w') := fun w' => by
        have := idx_any abcB s[k] w'
        rw [idx_abc, ← hz] at this; exact this
      by_cases hl : lnum s[k] < 64
      · have hz0 : ¬ z < 0 := by rw [hz]; unfold idxA; rw [if_pos hl]; omega
        have HL : Hid _ := hl
        clear hz hl
        go_wp2_with fail
        refine (KI.out _).mono ?_
        rintro e w' ⟨rfl, rfl⟩
        go_wp2_with fail
        go_round
        case rel =>
          refine ⟨k + 1, by omega, by go_num, fun j c hj hlt2 => ?_⟩
          by_cases e : j = k
          · subst e
            rw [HG.out] at hj
            injection hj with hj
            rw [← hj]; exact HL.out
          · exact hb.out j c hj (by omega)
        case measure => simp [intOf]; omega
      · have hz0 : z < 0 := by rw [hz]; unfold idxA; rw [if_neg hl]; omega
        have HT : Hid (alone s.data.toList = false) := alone_no _ k _ HG.out hl
        clear hz hl
        go_wp2_with fail
        refine (KI.out _).mono ?_
        rintro e w' ⟨rfl, rfl⟩
        go_wp2_with fail
        go_ret
        exact ⟨by rw [HT.out]; rfl, rfl⟩
    · have HT : Hid (alone s.data.toList = true) := alone_all _ (fun j c hj => hb.out j c hj (by have := (List.getElem?_eq_some_iff.1 hj).1; simp at this; omega))
      go_wp2_with fail
      go_ret
      exact ⟨by rw [HT.out]; rfl, rfl⟩
def fdS (c : UInt8) : Fd := ⟨UInt64.ofNat (lnum c), 6⟩
theorem fdS_n (c : UInt8) : (fdS c).n.toNat = lnum c := by
  show (UInt64.ofNat (lnum c)).toNat = lnum c
  rw [UInt64.toNat_ofNat']
  exact Nat.mod_eq_of_lt (by have := lnum_le c; omega)
theorem allF_six (g : List UInt8) : allF (g.map fdS) = uB g := by
  unfold allF uB
  rw [List.flatMap_map]
  congr 1
  funext c
  rw [fdS_n]; rfl
theorem wb_six (g : List UInt8) (h4 : g.length ≤ 4) (hg : ∀ c ∈ g, lnum c < 64) : wbE (g.map fdS) = 0 ∧ wbT (g.map fdS) = packB (uB g) := by
  have h0 : wbE (g.map fdS) = 0 := by
    unfold wbE
    rw [List.length_map, if_neg (by omega), ckE_ok]
    intro f hf
    obtain ⟨c, hc, rfl⟩ := List.mem_map.1 hf
    refine ⟨rfl, ?_⟩
    unfold fdN
    rw [fdS_n]
    exact decide_eq_true (hg c hc)
  refine ⟨h0, ?_⟩
  unfold wbT
  rw [if_pos h0, allF_six]
theorem infoFd6 : ∃ i, Try.prog.info? 78 = some i ∧ i.zero = some (.agg #[.int .u64 0, .int .i64 0]) ∧ i.size = 2 ∧ i.bytes = 16 := by
  have h : (Try.prog.info? 78).map (fun i => (i.zero, i.size, i.bytes)) = some (some (.agg #[.int .u64 0, .int .i64 0]), 2, 16) := by kernel_rfl
  cases hx : Try.prog.info? 78 with
  | none => rw [hx] at h; cases h
  | some i =>
    rw [hx] at h
    injection h with h
    injection h with h1 h2
    injection h2 with h2 h3
    exact ⟨i, rfl, h1, h2, h3⟩
theorem cell2_new (W : World) (B : Nat) (x y : Value) (t : TypeId) (hB : B = W.heap.size) : ∀ j u, [x, y][j]? = some u → (W.alloc (.cells #[x, y] t)).cell? ((⟨B, 0, none⟩ : Addr).add j) = some u := by
  subst hB
  intro j u hj
  have hlt := (List.getElem?_eq_some_iff.1 hj).1
  have : j = 0 ∨ j = 1 := by simp at hlt; omega
  rcases this with rfl | rfl <;> (simp at hj; subst hj; simp [Addr.add])
set_option maxHeartbeats 4000000 in
theorem groupOf_any (g : List UInt8) (w : World) (h2 : 2 ≤ g.length) (h4 : g.length ≤ 4) (hg : ∀ c ∈ g, lnum c < 64) :
    Calls Try.prog 25 #[.string (txt g)] w fun e w' => e = .returned (.tuple #[.string (txt (uL g)), .bool (uOk g)]) ∧ Below w.heap.size w w' := by
  obtain ⟨i0, hi, hz0, hz1, hz2⟩ := infoFd6
  obtain ⟨T, hT⟩ : ∃ T, T = txt g := ⟨_, rfl⟩
  obtain ⟨n, hn⟩ : ∃ n, n = g.length := ⟨_, rfl⟩
  have hsz : T.size = n := by rw [hT, hn]; rfl
  have HT : Hid _ := hT
  have HN : Hid _ := hn
  have HG : Hid _ := hg
  have hn2 : 2 ≤ n := by omega
  have hn4 : n ≤ 4 := by omega
  obtain ⟨p, hp⟩ : ∃ p, p = packB (uB g) := ⟨_, rfl⟩
  have KW : Hid (∀ w' v, Rows w' v fdC (g.map fdS) → Calls Try.prog 47 #[v] w' fun e w'' => e = .returned (.tuple #[.string (txt p), .int .i64 0]) ∧ Below w'.heap.size w' w'') := fun w' v h => by
    obtain ⟨k1, k2⟩ := wb_six g h4 hg
    have := bwrite_any v (g.map fdS) w' h (by rw [List.length_map]; unfold maxLen; omega)
    rw [k1, k2, ← hp] at this; exact this
  obtain ⟨ps, hps⟩ : ∃ ps, (txt p).size = ps := ⟨_, rfl⟩
  have hps1 : n - 1 ≤ ps := by
    rw [← hps, txt_size, hp, packB_length, uB_length, ← hn]; omega
  have GT : Hid ((txt p).extract 0 (n - 1) = txt (uL g)) := by show _ = _; rw [ext_to, txt_toList, hp, ← group_text g (by omega) h4, hn]
  have GB : Hid ((txt p).extract (n - 1) ps = txt (p.drop (n - 1))) := by show _ = _; rw [← hps, ext_from, txt_toList]
  have GO : Hid ((p.drop (n - 1) = [] ∨ p.drop (n - 1) = [0]) ↔ uOk g = true) := by
    have := group_ok g (by omega) h4
    rw [← hp, ← hn] at this; exact this
  rw [← hT]
  clear hT hn h2 h4 hg hp
  go_enter Try.func25, Try.ntmps25
  go_wp2_with fail
  go_loopw [4, 12] (fun o i wr => ∃ k : Nat, k ≤ n ∧ i = .int .i64 k ∧ wr.ownsRow w.heap.size 78 2 o k (((g.map fdS).take k).flatMap fdC) ∧ Hid (Below w.heap.size w wr)) (fun _ i _ => n - (intOf i).toNat)
  case atStart => exact ⟨0, Nat.zero_le _, rfl, by rw [List.take_zero]; exact World.ownsRow_nil _ _ _ _, Below.refl _ _⟩
  case round =>
    obtain ⟨k, hk, rfl, hown, hb⟩ := hrel
    obtain ⟨oad, ocap, rfl⟩ := slice_own hown
    by_cases hlt : k < n
    · have hlt2 : k < T.size := by omega
      obtain ⟨c, hce⟩ : ∃ c, g[k]? = some c := ⟨_, List.getElem?_eq_getElem (by rw [← HN.out]; exact hlt)⟩
      have HE : Hid _ := hce
      have hc' : T[k] = c := by
        have h1 := get_of T k hlt2
        have h2 : T.data.toList = g := by rw [HT.out]; rfl
        rw [h2, hce] at h1
        injection h1 with h1
        exact h1.symm
      clear hce
      obtain ⟨N, hN⟩ : ∃ N, N = lnum c := ⟨_, rfl⟩
      have hN64 : N < 64 := by rw [hN]; exact HG.out c (List.mem_of_getElem? HE.out)
      have KI : Hid (∀ w', Calls Try.prog 46 #[.string abcB, .int .u8 (c.toNat : Int)] w' fun e w'' => e = .returned (.int .i64 (N : Int)) ∧ w'' = w') := fun w' => by
        have := idx_any abcB c w'
        rw [idx_abc, show idxA c = (N : Int) by unfold idxA; rw [← hN, if_pos hN64]] at this; exact this
      have HTK : Hid (((g.map fdS).take (k + 1)).flatMap fdC = ((g.map fdS).take k).flatMap fdC ++ [.int .u64 (N : Int), .int .i64 6]) := by
        show _ = _
        rw [List.take_succ, List.getElem?_map, HE.out]
        simp [fdC, fdS_n, ← hN]
        rfl
      have d5 : IntKind.u64.wrap (N : Int) = (N : Int) := by rw [IntKind.wrap_u64]; omega
      have hle := hb.out.size
      clear hN
      go_wp2_with fail
      refine (KI.out _).mono ?_
      rintro e w1 ⟨rfl, hw1⟩
      rw [hw1]
      clear hw1 w1
      go_wp2_with (at_builtin; refine wpList_append_own _ rfl _ _ 61 rfl w.heap.size 78 i0 (.agg #[.int .u64 0, .int .i64 0]) 2 16 Try.underlying61 hi hz0 hz1 hz2 rfl (by decide) _ _ _ rfl (hown.alloc _) ⟨wr.heap.size, 0, none⟩ 1 1 [.int .u64 (N : Int), .int .i64 6] rfl rfl (cell2_new _ _ _ _ _ rfl) (by simp [Value.oneCell']) ?c1 ?c2 ?c3 ?_)
      case c1 => unfold maxLen; omega
      case c2 => omega
      case c3 => simp; omega
      intro v3 w3 hown3 hg3 _
      have own4 : w3.ownsRow w.heap.size 78 2 v3 (k + 1) (((g.map fdS).take (k + 1)).flatMap fdC) := by
        rw [HTK.out]; exact hown3
      have HB3 : Hid (Below w.heap.size w w3) := by
        have h1 : Below w.heap.size w (wr.alloc (.cells #[.int .u64 (N : Int), .int .i64 6] 78)) := hb.out.alloc hle _
        exact h1.grown hg3 h1.size (fun q e => (hown.lt q e).1)
      obtain ⟨ad3, cap3, rfl⟩ := slice_own own4
      clear hown hown3 hg3
      go_wp2_with fail
      go_roundw
      case rel => exact ⟨k + 1, by omega, by go_num, own4, HB3⟩
      case measure => simp [intOf]; omega
    · have hkn : k = n := by omega
      have RW : Hid (Rows wr (.slice oad k ocap) fdC (g.map fdS)) := by
        show Reads _ _ _ _
        have h := Reads.of_own hown
        rw [List.take_of_length_le (by rw [List.length_map, ← HN.out]; omega)] at h
        rw [List.length_map, ← HN.out, ← hkn]
        exact h
      clear hown hkn
      have n1 : IntKind.i64.wrap ((n : Int) - 1) = (n : Int) - 1 := IntWalk.i64_in _ (by omega)
      have n2 : ((n : Int) - 1).toNat = n - 1 := by omega
      have n3 : (0 : Int) ≤ (n : Int) - 1 := by omega
      have n4 : (1 : Int) ≤ (n : Int) := by omega
      obtain ⟨Z, hZ⟩ : ∃ Z, Z = txt p := ⟨_, rfl⟩
      obtain ⟨Y, hY⟩ : ∃ Y, Y = txt (p.drop (n - 1)) := ⟨_, rfl⟩
      have hps' : Z.size = ps := by rw [hZ]; exact hps
      have hps2 : (n : Int) - 1 ≤ (ps : Int) := by omega
      have g1 : Z.extract 0 (n - 1) = txt (uL g) := by rw [hZ]; exact GT.out
      have g2 : Z.extract (n - 1) ps = Y := by rw [hZ, hY]; exact GB.out
      have HY : Hid _ := hY
      have KW2 : Hid (∀ w' v, Rows w' v fdC (g.map fdS) → Calls Try.prog 47 #[v] w' fun e w'' => e = .returned (.tuple #[.string Z, .int .i64 0]) ∧ Below w'.heap.size w' w'') := by rw [hZ]; exact KW.out
      clear hZ hY hps
      cases ho : uOk g
      · have y1 : (Y.toList == []) = false := by
          rw [HY.out, Lib.toList_data, beq_eq_false_iff_ne, txt_toList]
          intro h
          have := GO.out.1 (.inl h)
          rw [ho] at this; cases this
        have y2 : (Y.toList == [0]) = false := by
          rw [HY.out, Lib.toList_data, beq_eq_false_iff_ne, txt_toList]
          intro h
          have := GO.out.1 (.inr h)
          rw [ho] at this; cases this
        have HO : Hid _ := ho
        clear ho
        go_wp2_with fail
        refine (KW2.out _ _ RW.out).mono ?_
        rintro e w1 ⟨rfl, hb1⟩
        have HB1 : Hid (Below w.heap.size w w1) := next hb.out hb1
        clear hb1
        go_wp2_with fail
        go_quiet (fail)
        go_wp2_with fail
        exact bodyPost_ret (v := .tuple #[.string (txt (uL g)), .bool false]) (by simp [results, Try.results25, go_sem]) rfl ⟨by rw [HO.out], HB1.out.trans (below_drewN' _ _ _)⟩
      · have HO : Hid _ := ho
        have hor : Y = txt [] ∨ Y = txt [0] := by
          rw [HY.out]
          rcases GO.out.2 ho with h | h
          · left; rw [h]
          · right; rw [h]
        clear ho
        rcases hor with hy | hy
        · have y1 : (Y.toList == []) = true := by rw [hy, Lib.toList_data]; rfl
          clear hy
          go_wp2_with fail
          refine (KW2.out _ _ RW.out).mono ?_
          rintro e w1 ⟨rfl, hb1⟩
          have HB1 : Hid (Below w.heap.size w w1) := next hb.out hb1
          clear hb1
          go_wp2_with fail
          go_quiet (fail)
          go_wp2_with fail
          exact bodyPost_ret (v := .tuple #[.string (txt (uL g)), .bool true]) (by simp [results, Try.results25, go_sem]) rfl ⟨by rw [HO.out], HB1.out.trans (below_drewN' _ _ _)⟩
        · have y1 : (Y.toList == []) = false := by rw [hy, Lib.toList_data]; rfl
          have y2 : (Y.toList == [0]) = true := by rw [hy, Lib.toList_data]; rfl
          clear hy
          go_wp2_with fail
          refine (KW2.out _ _ RW.out).mono ?_
          rintro e w1 ⟨rfl, hb1⟩
          have HB1 : Hid (Below w.heap.size w w1) := next hb.out hb1
          clear hb1
          go_wp2_with fail
          go_quiet (fail)
          go_wp2_with fail
          exact bodyPost_ret (v := .tuple #[.string (txt (uL g)), .bool true]) (by simp [results, Try.results25, go_sem]) rfl ⟨by rw [HO.out], HB1.out.trans (below_drewN' _ _ _)⟩
end Go.Proofs.Ytgdcifllbfdbhaa
