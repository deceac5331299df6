/- SortAny: in whatever order cookies stand, they are sent in one, if no two have the same No; and no cookie goes, nor comes; what came in reads as it did. No condition. -/
import Derived.Test.YtoppjfambomdmaaLineG
import Derived.Test.YtoppjfambomdmaaOpenK
import Derived.Test.YtoppjfambomdmaaKit5
namespace Go.Proofs.Ytoppjfambomdmaa.sortAny
open Go.ChangeShapes Go.WideShapes Go.ChangeAt Go.RowKit
open Go.ChangeMaps (open_string shut_string)
set_option linter.all false
set_option maxRecDepth 100000

theorem isSort_self {l s : List Ck} (h : IsSort l s) : IsSort s s := by
  refine ⟨s.zipIdx, by rw [List.zipIdx_map_fst], List.Perm.refl _, fun i j x y hij hx hy => ?_⟩
  rw [List.getElem?_zipIdx] at hx hy
  cases ex : s[i]? with
  | none => rw [ex] at hx; cases hx
  | some a =>
    cases ey : s[j]? with
    | none => rw [ey] at hy; cases hy
    | some b =>
      rw [ex] at hx
      rw [ey] at hy
      have hx' : (a, 0 + i) = x := Option.some.inj hx
      have hy' : (b, 0 + j) = y := Option.some.inj hy
      rw [tagL_no, ← hx', ← hy']
      refine ⟨h.le i j a b hij ex ey, ?_⟩
      right
      show 0 + i ≤ 0 + j
      omega
/-- how many of a list are that one -/
def cnt (l : List Ck) (x : Ck) : Nat := (l.filter (fun a => eqC a x)).length
theorem cnt_snoc (l : List Ck) (k : Nat) (a x : Ck) (h : l[k]? = some a) : cnt (l.take (k + 1)) x = cnt (l.take k) x + if eqC a x then 1 else 0 := by
  unfold cnt
  rw [List.take_succ, h]
  simp only [Option.toList_some, List.filter_append, List.length_append]
  congr 1
  cases e : eqC a x <;> simp [e]
theorem cnt_le (l : List Ck) (x : Ck) : cnt l x ≤ l.length := List.length_filter_le _ _
theorem cnt_perm {l s : List Ck} (h : s.Perm l) (x : Ck) : cnt s x = cnt l x := (h.filter _).length_eq
def Nos (l : List Ck) : Prop := ∀ (i j : Nat) x y, l[i]? = some x → l[j]? = some y → i ≠ j → x.no ≠ y.no
theorem nos_nodup {l : List Ck} (h : Nos l) : (l.map Ck.no).Nodup := by
  rw [List.nodup_iff_pairwise_ne, List.pairwise_iff_getElem]
  intro i j hi hj hij
  rw [List.getElem_map, List.getElem_map]
  exact h i j _ _ (List.getElem?_eq_getElem (by simpa using hi)) (List.getElem?_eq_getElem (by simpa using hj)) (by omega)
theorem sorted_strict {l s : List Ck} (h : IsSort l s) (hn : (l.map Ck.no).Nodup) : s.Pairwise (fun x y => ltC x y = true) := by
  have hs : (s.map Ck.no).Nodup := (h.perm.map Ck.no).nodup_iff.2 hn
  rw [List.pairwise_iff_getElem]
  intro i j hi hj hij
  have h1 := h.le i j _ _ hij (List.getElem?_eq_getElem hi) (List.getElem?_eq_getElem hj)
  have h2 : s[i].no ≠ s[j].no := by
    rw [List.nodup_iff_pairwise_ne, List.pairwise_iff_getElem] at hs
    have := hs i j (by simpa using hi) (by simpa using hj) hij
    rwa [List.getElem_map, List.getElem_map] at this
  have h3 : ¬ ltC s[j] s[i] = true := by rw [h1]; decide
  rw [ltC_iff] at h3 ⊢
  omega
theorem ltC_asym (x y : Ck) (h1 : ltC x y = true) (h2 : ltC y x = true) : False := by
  rw [ltC_iff] at h1 h2
  omega
/-- turned round, and sorted: the same -/
theorem turned {l s s2 : List Ck} (k : Nat) (h : IsSort l s) (h2 : IsSort (l.drop k ++ l.take k) s2) (hn : Nos l) : s2 = s := by
  have hp : (l.drop k ++ l.take k).Perm l := by
    have := List.perm_append_comm (l₁ := l.drop k) (l₂ := l.take k)
    rwa [List.take_append_drop] at this
  have hn1 := nos_nodup hn
  have hn2 : ((l.drop k ++ l.take k).map Ck.no).Nodup := (hp.map Ck.no).nodup_iff.2 hn1
  exact sorted_one ltC_asym s2 s ((h2.perm.trans hp).trans h.perm.symm) (sorted_strict h2 hn2) (sorted_strict h hn1)
theorem ck_of {l : List Ck} {k : Nat} (h : k < l.length) : ∃ c, l[k]? = some c := ⟨_, List.getElem?_eq_getElem h⟩
set_option maxHeartbeats 8000000 in
theorem walk (v0 : Value) (l : List Ck) (x1 : Int) (w : World) (hr : Rows w v0 ckC l) (hmm : (maxLen ≤ 140737488351232 ∨ l.length * 112 ≤ 140737488351232) ∧ SlOk v0) (hok : ∀ c ∈ l, CkOk 140737488351232 c) (hx1 : -9223372036854775808 ≤ x1 ∧ x1 ≤ 9223372036854775807) :
    Calls Try.prog 4 #[v0, .int .i64 x1] w fun e w' => e = .returned (.bool true) ∧ Below w.heap.size w w' := by
  have hm : l.length * 112 ≤ 140737488351232 := by
    rcases hmm.1 with h | h
    · unfold maxLen at h; omega
    · exact h
  clear hok
  obtain ⟨ad, cap, hv0⟩ := hr.shape
  subst hv0
  have HCAP : Hid (l.length ≤ cap ∧ cap ≤ maxLen ∧ (ad = none → cap = 0)) := by
    obtain ⟨a', n', c', e, h1, h2, h3⟩ := hmm.2
    injection e with e1 e2 e3
    subst e1 e2 e3
    exact ⟨h1, h2, h3⟩
  have HR : Hid _ := hr
  have HM : Hid _ := hm
  have hlb : l.length ≤ 1256584717421 := by omega
  clear hr hm hmm
  go_enter Try.func4, Try.ntmps4
  go_wp2_with fail
  refine (lineBegun_any _).mono ?_
  rintro e w1 ⟨rfl, hb1⟩
  have R1 : Hid _ := Rows.below HR.out hb1 (Nat.le_refl _)
  have HB1 : Hid _ := hb1
  clear hb1
  go_wp2_with fail
  refine (sort_any _ l _ R1.out (by have := HM.out; omega)).mono ?_
  rintro e w2 ⟨v2, s, rfl, hs, r2, hb2⟩
  have HSL : Hid _ := hs.length
  have hsb : s.length ≤ 1256584717421 := by rw [HSL.out]; omega
  obtain ⟨ad2, cap2, rfl⟩ := r2.shape
  have HS : Hid (IsSort l s) := hs
  have L2 : Hid (Rows w2 (.slice ad l.length cap) ckC l) := Rows.below R1.out hb2 (Nat.le_refl _)
  have S2 : Hid (Rows w2 (.slice ad2 s.length cap2) ckC s) := r2
  have HB2 : Hid _ := next HB1.out hb2
  clear hs r2 hb2 R1
  go_wp2_with fail
  refine (sort_any _ s _ S2.out (by omega)).mono ?_
  rintro e w3 ⟨v3, s3, rfl, hs3, r3, hb3⟩
  have e3 : s3 = s := hs3.one (isSort_self HS.out)
  rw [e3] at r3
  have L3 : Hid (Rows w3 (.slice ad l.length cap) ckC l) := Rows.below L2.out hb3 (Nat.le_refl _)
  have S3 : Hid (Rows w3 (.slice ad2 s.length cap2) ckC s) := Rows.below S2.out hb3 (Nat.le_refl _)
  have T3 : Hid (Rows w3 v3 ckC s) := r3
  have HB3 : Hid _ := next HB2.out hb3
  clear hs3 e3 r3 hb3 L2 S2
  go_wp2_with fail
  refine (sameCk_any _ _ s s _ T3.out S3.out (by unfold maxLen; omega) (by unfold maxLen; omega)).mono ?_
  rw [(eqL_iff _ _).2 rfl]
  rintro e w4 ⟨rfl, n4, hw4⟩
  have L4 : Rows w4 (.slice ad l.length cap) ckC l := by rw [hw4]; exact L3.out.drewN n4
  have S4 : Rows w4 (.slice ad2 s.length cap2) ckC s := by rw [hw4]; exact S3.out.drewN n4
  have HB4 : Hid (Below w.heap.size w w4) := by rw [hw4]; exact HB3.out.trans (below_drewN' _ _ _)
  have z0 : ((s.length : Int) != (l.length : Int)) = false := by rw [HSL.out]; simp
  have HL4 : Hid _ := L4
  have HS4 : Hid _ := S4
  clear hw4 L3 S3 T3 L4 S4
  go_wp2_with fail
  go_loopw [6, 7, 8, 9] (fun i _ _ _ wr => ∃ k n : Nat, k ≤ l.length ∧ i = .int .i64 k ∧ wr = w4.drewN n ∧ Hid (∀ (i j : Nat) x y, i < k → l[i]? = some x → l[j]? = some y → i ≠ j → x.no ≠ y.no)) (fun i _ _ _ _ => l.length - (intOf i).toNat)
  case atStart => exact ⟨0, 0, Nat.zero_le _, rfl, rfl, fun i j x y h => absurd h (by omega)⟩
  case round =>
    obtain ⟨k, n, hk, rfl, rfl, hno⟩ := hrel
    by_cases hlt : k < l.length
    · obtain ⟨x, hx⟩ := ck_of hlt
      go_wp2_with fail
      go_loopw [7, 8, 9] (fun a b j wr => ∃ q N : Nat, q ≤ l.length ∧ j = .int .i64 q ∧ a = .int .i64 (cnt (l.take q) x : Int) ∧ b = .int .i64 (cnt (s.take q) x : Int) ∧ wr = w4.drewN N ∧ Hid (∀ (j : Nat) y, j < q → l[j]? = some y → k ≠ j → x.no ≠ y.no)) (fun _ _ j _ => l.length - (intOf j).toNat)
      case atStart => exact ⟨0, n, Nat.zero_le _, rfl, rfl, rfl, rfl, fun j y h => absurd h (by omega)⟩
      case round =>
        obtain ⟨q, N, hq, rfl, rfl, rfl, rfl, hin⟩ := hrel
        obtain ⟨cn, hcn⟩ : ∃ c, c = cnt (l.take q) x := ⟨_, rfl⟩
        obtain ⟨cm, hcm⟩ : ∃ c, c = cnt (s.take q) x := ⟨_, rfl⟩
        rw [← hcn, ← hcm]
        have hcnb : cn ≤ 1256584717421 := by rw [hcn]; have := cnt_le (l.take q) x; rw [List.length_take] at this; omega
        have hcmb : cm ≤ 1256584717421 := by rw [hcm]; have := cnt_le (s.take q) x; rw [List.length_take] at this; omega
        by_cases hlq : q < l.length
        · obtain ⟨y, hy⟩ := ck_of hlq
          have hqs : q < s.length := by rw [HSL.out]; exact hlq
          obtain ⟨z, hz⟩ := ck_of hqs
          obtain ⟨bl, ol, rfl, _, hcx⟩ := Rows.at HL4.out rfl 12 (fun _ => rfl) k x hx
          obtain ⟨bl', ol', hbe, _, hcy⟩ := Rows.at HL4.out rfl 12 (fun _ => rfl) q y hy
          injection hbe with hbe
          injection hbe with e3 e4
          subst e3 e4
          obtain ⟨bs, os, rfl, _, hcz⟩ := Rows.at HS4.out rfl 12 (fun _ => rfl) q z hz
          have p0 := hcx 0 _ rfl
          have p1 := hcx 1 _ rfl
          have p2 := hcx 2 _ rfl
          have p3 := hcx 3 _ rfl
          have p4 := hcx 4 _ rfl
          have p5 := hcx 5 _ rfl
          have p6 := hcx 6 _ rfl
          have p7 := hcx 7 _ rfl
          have p8 := hcx 8 _ rfl
          have p9 := hcx 9 _ rfl
          have p10 := hcx 10 _ rfl
          have p11 := hcx 11 _ rfl
          have p12 := hcx 12 _ rfl
          rw [Nat.add_zero] at p0
          have y0 := hcy 0 _ rfl
          have y1 := hcy 1 _ rfl
          have y2 := hcy 2 _ rfl
          have y3 := hcy 3 _ rfl
          have y4 := hcy 4 _ rfl
          have y5 := hcy 5 _ rfl
          have y6 := hcy 6 _ rfl
          have y7 := hcy 7 _ rfl
          have y8 := hcy 8 _ rfl
          have y9 := hcy 9 _ rfl
          have y10 := hcy 10 _ rfl
          have y11 := hcy 11 _ rfl
          have y12 := hcy 12 _ rfl
          rw [Nat.add_zero] at y0
          have z0 := hcz 0 _ rfl
          have z1 := hcz 1 _ rfl
          have z2 := hcz 2 _ rfl
          have z3 := hcz 3 _ rfl
          have z4 := hcz 4 _ rfl
          have z5 := hcz 5 _ rfl
          have z6 := hcz 6 _ rfl
          have z7 := hcz 7 _ rfl
          have z8 := hcz 8 _ rfl
          have z9 := hcz 9 _ rfl
          have z10 := hcz 10 _ rfl
          have z11 := hcz 11 _ rfl
          have z12 := hcz 12 _ rfl
          rw [Nat.add_zero] at z0
          have hE1 := ck_eqIn y x
          have hE2 := ck_eqIn z x
          simp only [ckC] at hE1 hE2
          obtain ⟨e1, he1⟩ : ∃ e, e = eqC y x := ⟨_, rfl⟩
          obtain ⟨e2, he2⟩ : ∃ e, e = eqC z x := ⟨_, rfl⟩
          rw [← he1] at hE1
          rw [← he2] at hE2
          have HCN : Hid (cnt (l.take (q + 1)) x = cn + if e1 then 1 else 0) := by show _ = _; rw [cnt_snoc l q y x hy, ← hcn, ← he1]
          have HCM : Hid (cnt (s.take (q + 1)) x = cm + if e2 then 1 else 0) := by show _ = _; rw [cnt_snoc s q z x hz, ← hcm, ← he2]
          have hqs' : (q : Int) < (s.length : Int) := by omega
          have HX : Hid _ := hx
          have HY : Hid _ := hy
          clear hcx hcy hcz he1 he2 hcn hcm hx hy hz hqs
          by_cases hqk : q = k
          · have g1 : ((q : Int) != (k : Int)) = false := by rw [hqk]; simp
            have g1' : ((q : Int) == (k : Int)) = true := by rw [hqk]; simp
            have HQK : Hid _ := hqk
            have hin2 : Hid (∀ (j : Nat) y, j < q + 1 → l[j]? = some y → k ≠ j → x.no ≠ y.no) := fun j y hj hy hne => hin.out j y (by have := HQK.out; omega) hy hne
            clear hqk
            cases e1 <;> cases e2
            all_goals as_aux_lemma =>
              go_wp2_with fail
              go_quiet (fail)
              go_wp2_with fail
              go_quiet (fail)
              go_wp2_with fail
              go_quiet (fail)
              go_wp2_with fail
              go_roundw
              case rel => exact ⟨q + 1, _, by omega, by go_num, by rw [HCN.out]; simp, by rw [HCM.out]; simp, by first | rfl | exact (World.drewN_drewN _ _ _) | (simp only [World.drewN_drewN]), hin2⟩
              case measure => simp [intOf]; omega
          · have g1 : ((q : Int) != (k : Int)) = true := by rw [bne_iff_ne]; omega
            have g1' : ((q : Int) == (k : Int)) = false := by rw [beq_eq_false_iff_ne]; omega
            have g2 : ¬ (q : Int) = (k : Int) := by omega
            have HQK : Hid _ := hqk
            by_cases hno2 : y.no = x.no
            · have g3 : (y.no == x.no) = true := by rw [hno2]; simp
              clear hqk hno2
              cases e1 <;> cases e2
              all_goals as_aux_lemma =>
                go_wp2_with fail
                go_quiet (fail)
                go_wp2_with fail
                go_quiet (fail)
                go_wp2_with fail
                go_quiet (fail)
                go_wp2_with fail
                go_ret
                exact ⟨rfl, HB4.out.trans (by first | exact below_drewN' _ _ _ | (simp only [World.drewN_drewN]; exact below_drewN' _ _ _))⟩
            · have g3 : (y.no == x.no) = false := by rw [beq_eq_false_iff_ne]; exact hno2
              have HN2 : Hid _ := hno2
              have hin2 : Hid (∀ (j : Nat) y, j < q + 1 → l[j]? = some y → k ≠ j → x.no ≠ y.no) := fun j y' hj hy' hne => by
                by_cases e : j = q
                · subst e
                  rw [HY.out] at hy'
                  injection hy' with hy'
                  rw [← hy']
                  exact fun e => HN2.out e.symm
                · exact hin.out j y' (by omega) hy' hne
              clear hqk hno2
              cases e1 <;> cases e2
              all_goals as_aux_lemma =>
                go_wp2_with fail
                go_quiet (fail)
                go_wp2_with fail
                go_quiet (fail)
                go_wp2_with fail
                go_quiet (fail)
                go_wp2_with fail
                go_roundw
                case rel => exact ⟨q + 1, _, by omega, by go_num, by rw [HCN.out]; simp, by rw [HCM.out]; simp, by first | rfl | exact (World.drewN_drewN _ _ _) | (simp only [World.drewN_drewN]), hin2⟩
                case measure => simp [intOf]; omega
        · have hql : q = l.length := by omega
          have hcc : cn = cm := by
            rw [hcn, hcm, List.take_of_length_le (by omega), List.take_of_length_le (by rw [HSL.out]; omega), cnt_perm HS.out.perm]
          have g1 : ((cn : Int) != (cm : Int)) = false := by rw [hcc]; simp
          have hno3 : Hid (∀ (i j : Nat) x y, i < k + 1 → l[i]? = some x → l[j]? = some y → i ≠ j → x.no ≠ y.no) := fun i j x' y' hi hx' hy' hne => by
            by_cases e : i = k
            · subst e
              rw [hx] at hx'
              injection hx' with hx'
              rw [← hx']
              exact hin.out j y' (by have := (List.getElem?_eq_some_iff.1 hy').1; omega) hy' hne
            · exact hno.out i j x' y' (by omega) hx' hy' hne
          clear hcc hcn hcm hql hx
          go_wp2_with fail
          go_roundw
          case rel => exact ⟨k + 1, _, by omega, by go_num, rfl, hno3⟩
          case measure => simp [intOf]; omega
    · have HN : Hid (Nos l) := fun i j x y hx hy hne => hno.out i j x y (by have := (List.getElem?_eq_some_iff.1 hx).1; omega) hx hy hne
      clear hno
      by_cases h0 : x1 < 0
      · go_wp2_with fail
        go_ret
        exact ⟨rfl, HB4.out.trans (below_drewN' _ _ _)⟩
      · by_cases h1 : (l.length : Int) < x1
        · go_wp2_with fail
          go_ret
          exact ⟨rfl, HB4.out.trans (below_drewN' _ _ _)⟩
        · have HX0 : Hid (¬ x1 < 0) := h0
          have HX1 : Hid (¬ (l.length : Int) < x1) := h1
          obtain ⟨m, hmx⟩ : ∃ m : Nat, x1 = (m : Int) := ⟨x1.toNat, by omega⟩
          subst hmx
          have hml : m ≤ l.length := by omega
          have hml' : (m : Int) ≤ (l.length : Int) := by omega
          obtain ⟨W, hW⟩ : ∃ W, W = w4.drewN n := ⟨_, rfl⟩
          have LW : Hid (Rows W (.slice ad l.length cap) ckC l) := by rw [hW]; exact HL4.out.drewN n
          have SW : Hid (Rows W (.slice ad2 s.length cap2) ckC s) := by rw [hW]; exact HS4.out.drewN n
          have HBW : Hid (Below w.heap.size w W) := by rw [hW]; exact HB4.out.trans (below_drewN' _ _ _)
          obtain ⟨i0, hi, hz0, hz1, hz2⟩ := info_parts' info_ck
          rw [← hW]
          clear hW h0 h1
          have hmc : (m : Int) ≤ (cap : Int) := by have := HCAP.out.1; omega
          have hmc' : m ≤ cap := by omega
          have HNS : Hid _ := HN.out
          have HLIT : Hid ((W.drew.alloc (.cells #[] 34)).ownsRow W.heap.size 34 13 (.slice (some ⟨W.heap.size, 0, none⟩) 0 0) 0 []) := World.ownsRow_lit W.drew #[] 0 (Nat.le_refl _) (Nat.zero_le _) rfl
          have HBA : Hid (Below W.heap.size W (W.drew.alloc (.cells #[] 34))) := (Below.refl _ W).drew.alloc (Nat.le_refl _) _
          have hld : ((l.drop m).flatMap ckC).length = (l.length - m) * 13 := by rw [flat_len ckC 13 (fun _ => rfl), List.length_drop]
          have hlt2 : ((l.take m).flatMap ckC).length = m * 13 := by rw [flat_len ckC 13 (fun _ => rfl), List.length_take, Nat.min_eq_left hml]
          have hone : ∀ r : List Ck, ∀ u ∈ r.flatMap ckC, u.oneCell' = true := fun r u hu => by
            obtain ⟨c, _, h⟩ := List.mem_flatMap.1 hu
            simp only [ckC, List.mem_cons, List.not_mem_nil, or_false] at h
            rcases h with rfl | rfl | rfl | rfl | rfl | rfl | rfl | rfl | rfl | rfl | rfl | rfl | rfl <;> rfl
          have HLD : Hid _ := hld
          have HLT2 : Hid _ := hlt2
          have HONE : Hid _ := hone
          have M1 : Hid (0 + (l.length - m) ≤ maxLen) := by show _ ≤ _; unfold maxLen; omega
          have M2 : Hid ((0 + (l.length - m)) * 112 ≤ 140737488355328) := by show _ ≤ _; have := HM.out; omega
          have M3 : Hid (0 + (l.length - m) + m ≤ maxLen) := by show _ ≤ _; unfold maxLen; omega
          have M4 : Hid ((0 + (l.length - m) + m) * 112 ≤ 140737488355328) := by show _ ≤ _; have := HM.out; omega
          have HROT : Hid ((l.drop m ++ l.take m).length = 0 + (l.length - m) + m) := by show _ = _; rw [List.length_append, List.length_drop, List.length_take]; omega
          have HFL : Hid (([] : List Value) ++ (l.drop m).flatMap ckC ++ (l.take m).flatMap ckC = (l.drop m ++ l.take m).flatMap ckC) := by show _ = _; rw [List.flatMap_append]; rfl
          have M5 : Hid ((l.drop m ++ l.take m).length * 112 ≤ 140737488355328) := by show _ ≤ _; rw [HROT.out]; exact M4.out
          have HTURN : Hid (∀ s2, IsSort (l.drop m ++ l.take m) s2 → s2 = s) := fun s2 h => turned m HS.out h HNS.out
          have M6 : Hid (s.length ≤ maxLen) := by show _ ≤ _; unfold maxLen; omega
          have HRW : Hid (∀ w' v, w'.ownsRow W.heap.size 34 13 v (0 + (l.length - m) + m) ([] ++ (l.drop m).flatMap ckC ++ (l.take m).flatMap ckC) → Rows w' v ckC (l.drop m ++ l.take m)) := fun w' v h => by
            show Reads _ _ _ _
            rw [HROT.out, ← HFL.out]; exact Reads.of_own h
          clear hld hlt2 hone
          by_cases hme : m = l.length
          · subst hme
            have HTA : Hid (l.take l.length = l) := List.take_of_length_le (Nat.le_refl _)
            have P1 : Hid (0 + 0 ≤ maxLen) := by show _ ≤ _; unfold maxLen; omega
            have P2 : Hid ((0 + 0) * 112 ≤ 140737488355328) := by show _ ≤ _; omega
            have P3 : Hid (0 + 0 + l.length ≤ maxLen) := by show _ ≤ _; unfold maxLen; omega
            have P4 : Hid ((0 + 0 + l.length) * 112 ≤ 140737488355328) := by show _ ≤ _; have := HM.out; omega
            have P5 : Hid (l.length * 112 ≤ 140737488355328) := by show _ ≤ _; have := HM.out; omega
            have HRW1 : Hid (∀ w' v, w'.ownsRow W.heap.size 34 13 v (0 + 0 + l.length) ([] ++ [] ++ (l.take l.length).flatMap ckC) → Rows w' v ckC l) := fun w' v h => by
              rw [HTA.out] at h
              show Reads _ _ _ _
              have h2 := Reads.of_own h
              rw [show 0 + 0 + l.length = l.length by omega] at h2
              exact h2
            have HONE1 : Hid (∀ s2, IsSort l s2 → s2 = s) := fun s2 h => h.one HS.out
            by_cases hl0 : l = []
            · subst hl0
              have HADC : Hid _ := HCAP.out.2.2
              cases ad with
              | none =>
                have hc0 : cap = 0 := HADC.out rfl
                subst hc0
                go_wp2_with fail
                go_region_held3 (fun w' => Below W.heap.size W w') (first | assumption | exact HBA.out | exact (Below.refl _ W).drew | fail)
                  (first
                  | (refine step_append_reads (by rfl) (.tmp 87) (.tmp 90) 22 (by rfl) W.heap.size 34 i0 (.agg #[.string ⟨#[]⟩, .string ⟨#[]⟩, .string ⟨#[]⟩, .string ⟨#[]⟩, .bool false, .bool false, .bool false, .bool false, .int .i64 0, .int .i64 0, .int .i64 0, .int .i64 0, .int .i64 0]) 13 112 Try.underlying22 hi hz0 hz1 hz2 rfl (by decide) _ _ _ (by rfl) HLIT.out _ (by rfl) 0 _ ⟨_, _, rfl, .inl rfl⟩ rfl (fun _ h => by cases h) P1.out P2.out HBA.out.size ?_; intro v6 w6 hown6 hg6; have HB6 : Below W.heap.size W w6 := HBA.out.grown hg6 HBA.out.size (fun q e => (HLIT.out.lt q e).1))
                  | (refine step_append_reads (by rfl) (.tmp 91) (.tmp 94) 22 (by rfl) W.heap.size 34 i0 (.agg #[.string ⟨#[]⟩, .string ⟨#[]⟩, .string ⟨#[]⟩, .string ⟨#[]⟩, .bool false, .bool false, .bool false, .bool false, .int .i64 0, .int .i64 0, .int .i64 0, .int .i64 0, .int .i64 0]) 13 112 Try.underlying22 hi hz0 hz1 hz2 rfl (by decide) _ _ _ (by rfl) hown6 _ (by rfl) 0 _ ⟨_, _, rfl, .inl rfl⟩ rfl (fun _ h => by cases h) P3.out P4.out HB6.size ?_; intro v7 w7 hown7 hg7; have HB7 : Below W.heap.size W w7 := HB6.grown hg7 HB6.size (fun q e => (hown6.lt q e).1))
                  | (go_at_call 11; refine (sort_any _ [] _ (HRW1.out _ _ hown7) P5.out).mono ?_; rintro e w8 ⟨v8, s8, rfl, hs8, r8, hb8⟩; have HS8 : Hid _ := hs8; have R8 : Hid _ := r8; have HB8 : Below W.heap.size W w8 := HB7.trans (hb8.mono HB7.size); clear hs8 r8 hb8)
                  | (go_at_call 10; refine (sameCk_any _ _ s s _ (by rw [← HONE1.out _ HS8.out]; exact R8.out) (Rows.below SW.out HB8 (Nat.le_refl _)) M6.out M6.out).mono ?_; rw [(eqL_iff s s).2 rfl]; rintro e w9 ⟨rfl, n9, hw9⟩; have HB9 : Below W.heap.size W w9 := (by rw [hw9]; exact HB8.trans (below_drewN' _ _ _)); clear hw9)
                  | fail)
                go_wp2_with fail
                go_ret
                exact ⟨rfl, HBW.out.trans (HB9.mono HBW.out.size)⟩
              | some a =>
                by_cases hc0 : cap = 0
                · subst hc0
                  go_wp2_with fail
                  go_region_held3 (fun w' => Below W.heap.size W w') (first | assumption | exact HBA.out | exact (Below.refl _ W).drew | fail)
                    (first
                    | (refine step_append_reads (by rfl) (.tmp 87) (.tmp 90) 22 (by rfl) W.heap.size 34 i0 (.agg #[.string ⟨#[]⟩, .string ⟨#[]⟩, .string ⟨#[]⟩, .string ⟨#[]⟩, .bool false, .bool false, .bool false, .bool false, .int .i64 0, .int .i64 0, .int .i64 0, .int .i64 0, .int .i64 0]) 13 112 Try.underlying22 hi hz0 hz1 hz2 rfl (by decide) _ _ _ (by rfl) HLIT.out _ (by rfl) 0 _ ⟨_, _, rfl, .inl rfl⟩ rfl (fun _ h => by cases h) P1.out P2.out HBA.out.size ?_; intro v6 w6 hown6 hg6; have HB6 : Below W.heap.size W w6 := HBA.out.grown hg6 HBA.out.size (fun q e => (HLIT.out.lt q e).1))
                    | (refine step_append_reads (by rfl) (.tmp 91) (.tmp 94) 22 (by rfl) W.heap.size 34 i0 (.agg #[.string ⟨#[]⟩, .string ⟨#[]⟩, .string ⟨#[]⟩, .string ⟨#[]⟩, .bool false, .bool false, .bool false, .bool false, .int .i64 0, .int .i64 0, .int .i64 0, .int .i64 0, .int .i64 0]) 13 112 Try.underlying22 hi hz0 hz1 hz2 rfl (by decide) _ _ _ (by rfl) hown6 _ (by rfl) 0 _ ⟨_, _, rfl, .inl rfl⟩ rfl (fun _ h => by cases h) P3.out P4.out HB6.size ?_; intro v7 w7 hown7 hg7; have HB7 : Below W.heap.size W w7 := HB6.grown hg7 HB6.size (fun q e => (hown6.lt q e).1))
                    | (go_at_call 11; refine (sort_any _ [] _ (HRW1.out _ _ hown7) P5.out).mono ?_; rintro e w8 ⟨v8, s8, rfl, hs8, r8, hb8⟩; have HS8 : Hid _ := hs8; have R8 : Hid _ := r8; have HB8 : Below W.heap.size W w8 := HB7.trans (hb8.mono HB7.size); clear hs8 r8 hb8)
                    | (go_at_call 10; refine (sameCk_any _ _ s s _ (by rw [← HONE1.out _ HS8.out]; exact R8.out) (Rows.below SW.out HB8 (Nat.le_refl _)) M6.out M6.out).mono ?_; rw [(eqL_iff s s).2 rfl]; rintro e w9 ⟨rfl, n9, hw9⟩; have HB9 : Below W.heap.size W w9 := (by rw [hw9]; exact HB8.trans (below_drewN' _ _ _)); clear hw9)
                    | fail)
                  go_wp2_with fail
                  go_ret
                  exact ⟨rfl, HBW.out.trans (HB9.mono HBW.out.size)⟩
                · have hc0' : ¬ 0 = cap := fun e => hc0 e.symm
                  go_wp2_with fail
                  go_region_held3 (fun w' => Below W.heap.size W w') (first | assumption | exact HBA.out | exact (Below.refl _ W).drew | fail)
                    (first
                    | (refine step_append_reads (by rfl) (.tmp 87) (.tmp 90) 22 (by rfl) W.heap.size 34 i0 (.agg #[.string ⟨#[]⟩, .string ⟨#[]⟩, .string ⟨#[]⟩, .string ⟨#[]⟩, .bool false, .bool false, .bool false, .bool false, .int .i64 0, .int .i64 0, .int .i64 0, .int .i64 0, .int .i64 0]) 13 112 Try.underlying22 hi hz0 hz1 hz2 rfl (by decide) _ _ _ (by rfl) HLIT.out _ (by rfl) 0 _ ⟨_, _, rfl, .inl rfl⟩ rfl (fun _ h => by cases h) P1.out P2.out HBA.out.size ?_; intro v6 w6 hown6 hg6; have HB6 : Below W.heap.size W w6 := HBA.out.grown hg6 HBA.out.size (fun q e => (HLIT.out.lt q e).1))
                    | (refine step_append_reads (by rfl) (.tmp 91) (.tmp 94) 22 (by rfl) W.heap.size 34 i0 (.agg #[.string ⟨#[]⟩, .string ⟨#[]⟩, .string ⟨#[]⟩, .string ⟨#[]⟩, .bool false, .bool false, .bool false, .bool false, .int .i64 0, .int .i64 0, .int .i64 0, .int .i64 0, .int .i64 0]) 13 112 Try.underlying22 hi hz0 hz1 hz2 rfl (by decide) _ _ _ (by rfl) hown6 _ (by rfl) 0 _ ⟨_, _, rfl, .inl rfl⟩ rfl (fun _ h => by cases h) P3.out P4.out HB6.size ?_; intro v7 w7 hown7 hg7; have HB7 : Below W.heap.size W w7 := HB6.grown hg7 HB6.size (fun q e => (hown6.lt q e).1))
                    | (go_at_call 11; refine (sort_any _ [] _ (HRW1.out _ _ hown7) P5.out).mono ?_; rintro e w8 ⟨v8, s8, rfl, hs8, r8, hb8⟩; have HS8 : Hid _ := hs8; have R8 : Hid _ := r8; have HB8 : Below W.heap.size W w8 := HB7.trans (hb8.mono HB7.size); clear hs8 r8 hb8)
                    | (go_at_call 10; refine (sameCk_any _ _ s s _ (by rw [← HONE1.out _ HS8.out]; exact R8.out) (Rows.below SW.out HB8 (Nat.le_refl _)) M6.out M6.out).mono ?_; rw [(eqL_iff s s).2 rfl]; rintro e w9 ⟨rfl, n9, hw9⟩; have HB9 : Below W.heap.size W w9 := (by rw [hw9]; exact HB8.trans (below_drewN' _ _ _)); clear hw9)
                    | fail)
                  go_wp2_with fail
                  go_ret
                  exact ⟨rfl, HBW.out.trans (HB9.mono HBW.out.size)⟩
            · have hlpos : 0 < l.length := List.length_pos_iff.2 hl0
              obtain ⟨c0, hc0⟩ := ck_of hlpos
              obtain ⟨b, o, rfl, hbb, _⟩ := Rows.at LW.out rfl 12 (fun _ => rfl) 0 c0 hc0
              have HRD2 : Hid (∀ w', Below W.heap.size W w' → Reads w' (.slice (some ⟨b, o, none⟩) l.length cap) l.length ((l.take l.length).flatMap ckC)) := fun w' hw' => by
                have h := rows_to (Rows.below LW.out hw' (Nat.le_refl _)) l.length l.length cap (by rw [List.length_take]; omega)
                have h : Reads _ _ (l.take l.length).length _ := h
                rw [List.length_take, Nat.min_self] at h
                exact h
              clear hc0 hbb hlpos hl0
              by_cases hcl : cap = l.length
              · have HCL : Hid _ := hcl
                have hif : (cap = l.length) = True := by rw [hcl]; exact eq_self _
                clear hcl
                go_wp2_with fail
                go_region_held3 (fun w' => Below W.heap.size W w') (first | assumption | exact HBA.out | exact (Below.refl _ W).drew | fail)
                  (first
                  | (refine step_append_reads (by rfl) (.tmp 87) (.tmp 90) 22 (by rfl) W.heap.size 34 i0 (.agg #[.string ⟨#[]⟩, .string ⟨#[]⟩, .string ⟨#[]⟩, .string ⟨#[]⟩, .bool false, .bool false, .bool false, .bool false, .int .i64 0, .int .i64 0, .int .i64 0, .int .i64 0, .int .i64 0]) 13 112 Try.underlying22 hi hz0 hz1 hz2 rfl (by decide) _ _ _ (by rfl) HLIT.out _ (by rfl) 0 _ ⟨_, _, rfl, .inl rfl⟩ rfl (fun _ h => by cases h) P1.out P2.out HBA.out.size ?_; intro v6 w6 hown6 hg6; have HB6 : Below W.heap.size W w6 := HBA.out.grown hg6 HBA.out.size (fun q e => (HLIT.out.lt q e).1))
                  | (refine step_append_reads (by rfl) (.tmp 91) (.tmp 94) 22 (by rfl) W.heap.size 34 i0 (.agg #[.string ⟨#[]⟩, .string ⟨#[]⟩, .string ⟨#[]⟩, .string ⟨#[]⟩, .bool false, .bool false, .bool false, .bool false, .int .i64 0, .int .i64 0, .int .i64 0, .int .i64 0, .int .i64 0]) 13 112 Try.underlying22 hi hz0 hz1 hz2 rfl (by decide) _ _ _ (by rfl) hown6 _ (by rfl) l.length _ (HRD2.out _ HB6) HLT2.out (HONE.out _) P3.out P4.out HB6.size ?_; intro v7 w7 hown7 hg7; have HB7 : Below W.heap.size W w7 := HB6.grown hg7 HB6.size (fun q e => (hown6.lt q e).1))
                  | (go_at_call 11; refine (sort_any _ l _ (HRW1.out _ _ hown7) P5.out).mono ?_; rintro e w8 ⟨v8, s8, rfl, hs8, r8, hb8⟩; have HS8 : Hid _ := hs8; have R8 : Hid _ := r8; have HB8 : Below W.heap.size W w8 := HB7.trans (hb8.mono HB7.size); clear hs8 r8 hb8)
                  | (go_at_call 10; refine (sameCk_any _ _ s s _ (by rw [← HONE1.out _ HS8.out]; exact R8.out) (Rows.below SW.out HB8 (Nat.le_refl _)) M6.out M6.out).mono ?_; rw [(eqL_iff s s).2 rfl]; rintro e w9 ⟨rfl, n9, hw9⟩; have HB9 : Below W.heap.size W w9 := (by rw [hw9]; exact HB8.trans (below_drewN' _ _ _)); clear hw9)
                  | fail)
                go_wp2_with fail
                go_ret
                exact ⟨rfl, HBW.out.trans (HB9.mono HBW.out.size)⟩
              · skip
                go_wp2_with fail
                go_region_held3 (fun w' => Below W.heap.size W w') (first | assumption | exact HBA.out | exact (Below.refl _ W).drew | fail)
                  (first
                  | (refine step_append_reads (by rfl) (.tmp 87) (.tmp 90) 22 (by rfl) W.heap.size 34 i0 (.agg #[.string ⟨#[]⟩, .string ⟨#[]⟩, .string ⟨#[]⟩, .string ⟨#[]⟩, .bool false, .bool false, .bool false, .bool false, .int .i64 0, .int .i64 0, .int .i64 0, .int .i64 0, .int .i64 0]) 13 112 Try.underlying22 hi hz0 hz1 hz2 rfl (by decide) _ _ _ (by rfl) HLIT.out _ (by rfl) 0 _ ⟨_, _, rfl, .inl rfl⟩ rfl (fun _ h => by cases h) P1.out P2.out HBA.out.size ?_; intro v6 w6 hown6 hg6; have HB6 : Below W.heap.size W w6 := HBA.out.grown hg6 HBA.out.size (fun q e => (HLIT.out.lt q e).1))
                  | (refine step_append_reads (by rfl) (.tmp 91) (.tmp 94) 22 (by rfl) W.heap.size 34 i0 (.agg #[.string ⟨#[]⟩, .string ⟨#[]⟩, .string ⟨#[]⟩, .string ⟨#[]⟩, .bool false, .bool false, .bool false, .bool false, .int .i64 0, .int .i64 0, .int .i64 0, .int .i64 0, .int .i64 0]) 13 112 Try.underlying22 hi hz0 hz1 hz2 rfl (by decide) _ _ _ (by rfl) hown6 _ (by rfl) l.length _ (HRD2.out _ HB6) HLT2.out (HONE.out _) P3.out P4.out HB6.size ?_; intro v7 w7 hown7 hg7; have HB7 : Below W.heap.size W w7 := HB6.grown hg7 HB6.size (fun q e => (hown6.lt q e).1))
                  | (go_at_call 11; refine (sort_any _ l _ (HRW1.out _ _ hown7) P5.out).mono ?_; rintro e w8 ⟨v8, s8, rfl, hs8, r8, hb8⟩; have HS8 : Hid _ := hs8; have R8 : Hid _ := r8; have HB8 : Below W.heap.size W w8 := HB7.trans (hb8.mono HB7.size); clear hs8 r8 hb8)
                  | (go_at_call 10; refine (sameCk_any _ _ s s _ (by rw [← HONE1.out _ HS8.out]; exact R8.out) (Rows.below SW.out HB8 (Nat.le_refl _)) M6.out M6.out).mono ?_; rw [(eqL_iff s s).2 rfl]; rintro e w9 ⟨rfl, n9, hw9⟩; have HB9 : Below W.heap.size W w9 := (by rw [hw9]; exact HB8.trans (below_drewN' _ _ _)); clear hw9)
                  | fail)
                go_wp2_with fail
                go_ret
                exact ⟨rfl, HBW.out.trans (HB9.mono HBW.out.size)⟩
          · have hml2 : m < l.length := by omega
            have hcm : ¬ cap = m := by have := HCAP.out.1; omega
            have hlpos : 0 < l.length := by omega
            obtain ⟨c0, hc0⟩ := ck_of hlpos
            obtain ⟨b, o, rfl, hbb, _⟩ := Rows.at LW.out rfl 12 (fun _ => rfl) 0 c0 hc0
            have HRD1 : Hid (Reads (W.drew.alloc (.cells #[] 34)) (.slice (some ⟨b, o + m * 13, none⟩) (l.length - m) (cap - m)) (l.length - m) ((l.drop m).flatMap ckC)) := by
              show Reads _ _ _ _
              have hR := Rows.below LW.out HBA.out (Nat.le_refl _)
              have h := rows_from 13 (fun _ => rfl) hR m (l.length - m) (cap - m) (by rw [List.length_drop])
              have h : Reads _ _ (l.drop m).length _ := h
              rw [List.length_drop] at h
              exact h
            have HRD2 : Hid (∀ w', Below W.heap.size W w' → Reads w' (.slice (some ⟨b, o, none⟩) m cap) m ((l.take m).flatMap ckC)) := fun w' hw' => by
              have h := rows_to (Rows.below LW.out hw' (Nat.le_refl _)) m m cap (by rw [List.length_take]; omega)
              have h : Reads _ _ (l.take m).length _ := h
              rw [List.length_take, Nat.min_eq_left hml] at h
              exact h
            clear hc0 hbb hlpos hme
            go_wp2_with fail
            go_region_held3 (fun w' => Below W.heap.size W w') (first | assumption | exact HBA.out | exact (Below.refl _ W).drew | fail)
              (first
              | (refine step_append_reads (by rfl) (.tmp 87) (.tmp 90) 22 (by rfl) W.heap.size 34 i0 (.agg #[.string ⟨#[]⟩, .string ⟨#[]⟩, .string ⟨#[]⟩, .string ⟨#[]⟩, .bool false, .bool false, .bool false, .bool false, .int .i64 0, .int .i64 0, .int .i64 0, .int .i64 0, .int .i64 0]) 13 112 Try.underlying22 hi hz0 hz1 hz2 rfl (by decide) _ _ _ (by rfl) HLIT.out _ (by rfl) (l.length - m) _ HRD1.out HLD.out (HONE.out _) M1.out M2.out HBA.out.size ?_; intro v6 w6 hown6 hg6; have HB6 : Below W.heap.size W w6 := HBA.out.grown hg6 HBA.out.size (fun q e => (HLIT.out.lt q e).1))
              | (refine step_append_reads (by rfl) (.tmp 91) (.tmp 94) 22 (by rfl) W.heap.size 34 i0 (.agg #[.string ⟨#[]⟩, .string ⟨#[]⟩, .string ⟨#[]⟩, .string ⟨#[]⟩, .bool false, .bool false, .bool false, .bool false, .int .i64 0, .int .i64 0, .int .i64 0, .int .i64 0, .int .i64 0]) 13 112 Try.underlying22 hi hz0 hz1 hz2 rfl (by decide) _ _ _ (by rfl) hown6 _ (by rfl) m _ (HRD2.out _ HB6) HLT2.out (HONE.out _) M3.out M4.out HB6.size ?_; intro v7 w7 hown7 hg7; have HB7 : Below W.heap.size W w7 := HB6.grown hg7 HB6.size (fun q e => (hown6.lt q e).1))
              | (go_at_call 11; refine (sort_any _ (l.drop m ++ l.take m) _ (HRW.out _ _ hown7) M5.out).mono ?_; rintro e w8 ⟨v8, s8, rfl, hs8, r8, hb8⟩; have HS8 : Hid _ := hs8; have R8 : Hid _ := r8; have HB8 : Below W.heap.size W w8 := HB7.trans (hb8.mono HB7.size); clear hs8 r8 hb8)
              | (go_at_call 10; refine (sameCk_any _ _ s s _ (by rw [← HTURN.out _ HS8.out]; exact R8.out) (Rows.below SW.out HB8 (Nat.le_refl _)) M6.out M6.out).mono ?_; rw [(eqL_iff s s).2 rfl]; rintro e w9 ⟨rfl, n9, hw9⟩; have HB9 : Below W.heap.size W w9 := (by rw [hw9]; exact HB8.trans (below_drewN' _ _ _)); clear hw9)
              | fail)
            go_wp2_with fail
            go_ret
            exact ⟨rfl, HBW.out.trans (HB9.mono HBW.out.size)⟩
set_option maxRecDepth 100000 in
theorem lifted (os : Os) (started : os.Started) (H : Type) (enc : TypeId × Value → H) :
    ReturnsInHanded {} Try.checked os 4 .any (Rows.sortAnySpec.pre6 enc Try.prog Try.f4 Rows.sortAnyRow.domain false) (Rows.sortAnySpec.post enc Try.prog Try.f4 false true false false) := by
  refine returnsInHanded_of_change_sized (C := Try.checked) own started (by kernel_rfl) Try.func4
    (ChangeSpec.witness6 (enc := enc) (C := Try.checked) false ⟨#[], #[.slice none 0 0, .int .i64 0], []⟩ 8 (by kernel_rfl) (by kernel_rfl) (by kernel_rfl) (by kernel_rfl)) ?_
  intro W base args ds gs before hval0 hW hcnd hsz0 _
  have hsz : (DataW.weightsEach Try.prog (Try.f4.params.toList ++ Rows.sortAnySpec.plain.varTypes Try.prog) (ds ++ gs)).all (· ≤ reachBytes) = true := hsz0
  have hval : ∀ (j : Nat) t v, Try.f4.params[j]? = some t → args[j]? = some v → Value.okWide Try.prog W .any base t v := hval0
  have hW' := hW
  obtain ⟨p, q, hA0, hV, rfl, hfz, hnd⟩ := hW
  have hA : DataW.TrodAll enc Try.prog W 0 (fun _ => true) true Try.f4.params.toList args.toList ds p := hA0
  rw [Try.params4] at hA hval hsz
  obtain ⟨v0, vs0, d0, ds0, p0, q0, hargs, rfl, rfl, h0, r0⟩ := trodAll_cons hA
  obtain ⟨v1, vs1, d1, ds1, p1, q1, rfl, rfl, rfl, h1, r1⟩ := trodAll_cons r0
  obtain ⟨rfl, rfl, rfl⟩ := trodAll_nil r1
  obtain rfl : args = #[v0, v1] := by cases args; simp_all
  obtain ⟨rfl, rfl⟩ := trodVars_none hV
  have k0 := h0
  have lt0 : ∀ x ∈ p0, x.block < W.heap.size := by obtain ⟨m, hm⟩ := k0; exact DataW.trod_lt m _ _ _ hm
  have k1 := h1
  have lt1 : ∀ x ∈ p1, x.block < W.heap.size := by obtain ⟨m, hm⟩ := k1; exact DataW.trod_lt m _ _ _ hm
  obtain ⟨l0, rd0, m0, ok0, bk0⟩ := open_cookies2 (hval 0 22 v0 rfl rfl) k0 140737488351232 (fits_each hsz (j := 0) (t := 22) rfl rfl)
  obtain ⟨x1, rfl, rfl, hp1, w1⟩ := open_int Try.underlying3 (hval 1 3 v1 rfl rfl) h1
  have b1 := i64_of w1
  clear hA0 hval0
  refine (walk v0 l0 x1 W rd0 m0 ok0 b1).mono fun e W' ⟨he, bel⟩ => ?_
  subst he
  exact ⟨_, rfl, _, _, _, [], _, [], hW', trodAll_mk1 (shut_bool Try.underlying4 _), (trodAll_cons_mk (Below.trod laidOut (by kernel_rfl) (of_decide_eq_true (by kernel_rfl)) k0 bel lt0) (trodAll_cons_mk (Below.trod laidOut (by kernel_rfl) (of_decide_eq_true (by kernel_rfl)) k1 bel lt1) trodAll_mk0)), rfl, bel.frame _, fun h => by cases h⟩

theorem proved : Rows.SortAnySaid :=
  OpenClaim.holds_of_wide 4 Try.f4 rfl rfl rfl rfl rfl rfl rfl ⟨rfl, rfl, rfl, rfl, rfl⟩ rfl rfl rfl rfl rfl (by kernel_rfl) Try.func4 (by kernel_rfl)
    (of_decide_eq_true (by kernel_rfl)) (by unfold Func.isWrapper; first | (rw [if_pos (by decide +kernel)]; kernel_rfl) | (rw [if_neg (by decide +kernel)]; exact ⟨rfl, rfl⟩))
    (fun os started H enc _ => lifted os started H enc)
#print axioms proved
end Go.Proofs.Ytoppjfambomdmaa.sortAny
