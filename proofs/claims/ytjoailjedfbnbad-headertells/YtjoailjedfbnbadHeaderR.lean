/- Contracts of the reference: letOf, pairOf, plainText, RawCheck. -/
import Derived.Test.YtjoailjedfbnbadHeaderG
import Derived.Test.YtjoailjedfbnbadHeaderN
namespace Go.Proofs.Ytjoailjedfbnbad
open Go.RowKit
set_option linter.all false

set_option maxHeartbeats 1000000 in
theorem letOf_any (s : ByteArray) (w : World) (hs : s.size ≤ maxLen) :
    Calls Try.prog 44 #[.string s] w fun e w' => e = .returned (.bool (!hasP barU s.data.toList)) ∧ w' = w := by
  unfold maxLen at hs
  go_enter Try.func44, Try.ntmps44
  go_wp2
  go_loop [3] (fun i => ∃ k : Nat, k ≤ s.size ∧ i = .int .i64 k ∧ Hid (∀ (j : Nat) c, s.data.toList[j]? = some c → j < k → barU c = false)) (fun i => s.size - (intOf i).toNat)
  case atStart => exact ⟨0, Nat.zero_le _, rfl, fun _ _ _ h => absurd h (by omega)⟩
  case round =>
    obtain ⟨k, hk, rfl, hb⟩ := hrel
    by_cases hlt : k < s.size
    · have HG : Hid (s.data.toList[k]? = some s[k]) := get_of s k hlt
      have HI : Hid _ := barU_i s[k]
      have hl := u8_lt s[k]
      by_cases c1 : (s[k].toNat : Int) ≤ 8
      · have HT : Hid (hasP barU s.data.toList = true) := hasP_yes barU _ k _ HG.out (HI.out.2 (by omega))
        go_wp2_with fail
        go_ret
        refine ⟨?_, rfl⟩
        rw [HT.out]; rfl
      · by_cases c2 : (10 : Int) ≤ (s[k].toNat : Int)
        · by_cases c3 : (s[k].toNat : Int) ≤ 31
          · have HT : Hid (hasP barU s.data.toList = true) := hasP_yes barU _ k _ HG.out (HI.out.2 (by omega))
            go_wp2_with fail
            go_ret
            refine ⟨?_, rfl⟩
            rw [HT.out]; rfl
          · by_cases c4 : (s[k].toNat : Int) = 127
            · have HT : Hid (hasP barU s.data.toList = true) := hasP_yes barU _ k _ HG.out (HI.out.2 (by omega))
              have e4 : ((s[k].toNat : Int) == 127) = true := by rw [c4]; rfl
              clear c4
              go_wp2_with fail
              go_ret
              refine ⟨?_, rfl⟩
              rw [HT.out]; rfl
            · have HT : Hid (barU s[k] = false) := barU_no _ (by omega)
              have e4 : ((s[k].toNat : Int) == 127) = false := by rw [beq_eq_false_iff_ne]; exact c4
              clear c4
              go_wp2_with fail
              go_round
              case rel =>
                refine ⟨k + 1, by omega, by go_num, fun j c hj hlt2 => ?_⟩
                by_cases e : j = k
                · subst e
                  rw [HG.out] at hj
                  injection hj with hj
                  rw [← hj]; exact HT.out
                · exact hb.out j c hj (by omega)
              case measure => simp [intOf]; omega
        · have HT : Hid (barU s[k] = false) := barU_no _ (by omega)
          have e4 : ((s[k].toNat : Int) == 127) = false := by rw [beq_eq_false_iff_ne]; omega
          go_wp2_with fail
          go_round
          case rel =>
            refine ⟨k + 1, by omega, by go_num, fun j c hj hlt2 => ?_⟩
            by_cases e : j = k
            · subst e
              rw [HG.out] at hj
              injection hj with hj
              rw [← hj]; exact HT.out
            · exact hb.out j c hj (by omega)
          case measure => simp [intOf]; omega
    · have HT : Hid (hasP barU s.data.toList = false) := hasP_no barU _ (fun j c hj => hb.out j c hj (by have := (List.getElem?_eq_some_iff.1 hj).1; simp at this; omega))
      go_wp2_with fail
      go_ret
      refine ⟨?_, rfl⟩
      rw [HT.out]; rfl
theorem trim_as {s : ByteArray} {t : List UInt8} {w : World} (h : t = trimL s.data.toList) (hs : s.size ≤ maxLen) :
    Calls Try.prog 65 #[.string s] w fun e w' => e = .returned (.string (txt t)) ∧ w' = w := by
  subst h; exact trimOf_any s w hs
set_option maxHeartbeats 1000000 in
theorem pairOf_any (s : ByteArray) (w : World) (hs : s.size ≤ maxLen) :
    Calls Try.prog 45 #[.string s] w fun e w' => e = .returned (.tuple #[.string (txt (nameL s.data.toList)), .string (txt (valueL s.data.toList)), .bool (hasB s.data.toList 61)]) ∧ Below w.heap.size w w' := by
  have HS : Hid _ := hs
  have hge := Lib.indexByte_ge s.data.toList 61
  unfold maxLen at hs
  by_cases hn : Lib.indexByte s.data.toList 61 = -1
  · obtain ⟨e1, e2, e3⟩ := cut_none _ _ hn
    have HN : Hid _ := hn
    have HA : Hid (nameL s.data.toList = trimL s.data.toList) := by show _ = _; unfold nameL; rw [e1]
    have HB : Hid (valueL s.data.toList = []) := by show _ = _; unfold valueL; rw [e2]; rfl
    rw [HA.out, HB.out, e3]
    clear hn e1 e2 e3 hge
    go_enter Try.func45, Try.ntmps45
    go_wp2_with fail
    refine (placeOf_any s 61 _ HS.out).mono ?_
    rw [HN.out]
    rintro e w1 ⟨rfl, rfl⟩
    go_wp2_with fail
    refine (trimOf_any s _ HS.out).mono ?_
    rintro e w2 ⟨rfl, rfl⟩
    go_wp2_with fail
    go_ret3
    exact ⟨rfl, Below.refl _ _⟩
  · obtain ⟨o, ho⟩ : ∃ o : Nat, Lib.indexByte s.data.toList 61 = o := ⟨(Lib.indexByte s.data.toList 61).toNat, by omega⟩
    obtain ⟨e1, e2, e3, e4⟩ := cut_some _ _ _ ho
    have e4' : o < s.size := e4
    have HN : Hid _ := ho
    obtain ⟨a, ha⟩ : ∃ a, a = nameL s.data.toList := ⟨_, rfl⟩
    obtain ⟨b, hb⟩ : ∃ b, b = valueL s.data.toList := ⟨_, rfl⟩
    have HA : Hid (a = trimL (s.extract 0 o).data.toList) := by show _ = _; rw [ha]; unfold nameL; rw [e1, ext_to]; rfl
    have HB : Hid (b = trimL (s.extract (o + 1) s.size).data.toList) := by show _ = _; rw [hb]; unfold valueL; rw [e2, ext_from]; rfl
    rw [← ha, ← hb, e3]
    have b1 : (0 : Int) ≤ (o : Int) := by omega
    have b2 : (o : Int) ≤ (s.size : Int) := by omega
    have b3 : (o : Int) + 1 ≤ (s.size : Int) := by omega
    have b4 : (0 : Int) ≤ (o : Int) + 1 := by omega
    have hwr : IntKind.i64.wrap ((o : Int) + 1) = (o : Int) + 1 := IntWalk.i64_in _ (by omega)
    have hsl : ∀ u : World, (Instr.slice 9 (.string s) (some (.int .i64 ((o : Int) + 1))) none none).run Try.prog u = .ok (.string (s.extract (o + 1) s.size)) u := fun u => by
      have h := run_slice_string_l (P := Try.prog) u 9 s Try.underlying9 .i64 ((o : Int) + 1) b4 b3
      have e : ((o : Int) + 1).toNat = o + 1 := by omega
      rw [e] at h; exact h
    have Z1 : Hid ((s.extract 0 o).size ≤ maxLen) := by show (s.extract 0 o).size ≤ maxLen; rw [ByteArray.size_extract]; unfold maxLen; omega
    have Z2 : Hid ((s.extract (o + 1) s.size).size ≤ maxLen) := by show (s.extract (o + 1) s.size).size ≤ maxLen; rw [ByteArray.size_extract]; unfold maxLen; omega
    clear hn ho e1 e2 e3 e4 hge ha hb
    go_enter Try.func45, Try.ntmps45
    go_wp2_with fail
    refine (placeOf_any s 61 _ HS.out).mono ?_
    rw [HN.out]
    rintro e w1 ⟨rfl, rfl⟩
    go_wp2_with fail
    refine wp_region_ext (by kernel_rfl) (by kernel_rfl) ?_
    repeat (go_big_quiet_step (first | rfl | (go_at_call 65; exact ext_same (trim_as (by assumption) (by assumption)))))
    refine wpQuiet_nil ?_
    intro wx hwx
    obtain ⟨x, rfl⟩ := hwx
    go_wp2_with fail
    go_ret3
    exact ⟨rfl, x.2⟩
def plainB (s : List UInt8) : Bool := wholeL [59] s
theorem plain_eq (s : List UInt8) : plainB s = ((trimL s == s) && !hasP barU s && decide (Lib.indexByte s 59 < 0)) := by
  have h59 : decide (Lib.indexByte s 59 < 0) = !s.contains 59 := by
    rw [Lib.contains_iff_indexByte]
    have := Lib.indexByte_ge s 59
    by_cases h : Lib.indexByte s 59 < 0
    · rw [decide_eq_true h, decide_eq_false (by omega)]; rfl
    · rw [decide_eq_false h, decide_eq_true (by omega)]; rfl
  rw [h59, Bool.eq_iff_iff]
  unfold plainB
  rw [whole_iff]
  simp only [Bool.and_eq_true, beq_iff_eq, Bool.not_eq_true', hasP_iff, List.contains_eq_mem, decide_eq_false_iff_not]
  constructor
  · rintro ⟨h1, h2⟩
    exact ⟨⟨h1, fun c hc => (h2 c hc).1⟩, fun h => (h2 59 h).2 (by simp)⟩
  · rintro ⟨⟨h1, h2⟩, h3⟩
    exact ⟨h1, fun c hc => ⟨h2 c hc, by simp; intro e; subst e; exact h3 hc⟩⟩
theorem whole_61 (s : List UInt8) : wholeL [61, 59] s = (plainB s && decide (Lib.indexByte s 61 < 0)) := by
  have h61 : decide (Lib.indexByte s 61 < 0) = !s.contains 61 := by
    rw [Lib.contains_iff_indexByte]
    have := Lib.indexByte_ge s 61
    by_cases h : Lib.indexByte s 61 < 0
    · rw [decide_eq_true h, decide_eq_false (by omega)]; rfl
    · rw [decide_eq_false h, decide_eq_true (by omega)]; rfl
  rw [h61, Bool.eq_iff_iff]
  unfold plainB
  rw [Bool.and_eq_true, whole_iff, whole_iff]
  simp only [Bool.not_eq_true', List.contains_eq_mem, decide_eq_false_iff_not]
  constructor
  · rintro ⟨h1, h2⟩
    exact ⟨⟨h1, fun c hc => ⟨(h2 c hc).1, fun h => (h2 c hc).2 (by simp at h; simp [h])⟩⟩, fun h => (h2 61 h).2 (by simp)⟩
  · rintro ⟨⟨h1, h2⟩, h3⟩
    exact ⟨h1, fun c hc => ⟨(h2 c hc).1, fun h => by
      simp at h
      rcases h with rfl | rfl
      · exact h3 hc
      · exact (h2 _ hc).2 (by simp)⟩⟩
set_option maxHeartbeats 1000000 in
theorem plainText_any (s : ByteArray) (w : World) (hs : s.size ≤ maxLen) :
    Calls Try.prog 49 #[.string s] w fun e w' => e = .returned (.bool (plainB s.data.toList)) ∧ w' = w := by
  have HS : Hid _ := hs
  obtain ⟨t, ht⟩ : ∃ t, t = trimL s.data.toList := ⟨_, rfl⟩
  obtain ⟨z, hz⟩ : ∃ z, z = hasP barU s.data.toList := ⟨_, rfl⟩
  obtain ⟨n, hn⟩ : ∃ n, n = Lib.indexByte s.data.toList 59 := ⟨_, rfl⟩
  have HP : Hid (plainB s.data.toList = ((t == s.data.toList) && !z && decide (n < 0))) := by show _ = _; rw [plain_eq, ← ht, ← hz, ← hn]
  have HT : Hid _ := ht
  have HZ : Hid _ := hz
  have HN : Hid _ := hn
  by_cases h : t = s.data.toList
  · have e1 : ((txt t).toList == s.toList) = true := same_t _ _ h
    cases z
    · have HW : Hid (plainB s.data.toList = decide (n < 0)) := by show _ = _; rw [HP.out, h]; simp
      clear ht hz hn h
      go_enter Try.func49, Try.ntmps49
      go_wp2_with (first | (go_at_call 65; refine (trimOf_any _ _ HS.out).mono ?_; rw [← HT.out]; rintro e w' ⟨rfl, rfl⟩) | (go_at_call 44; refine (letOf_any _ _ HS.out).mono ?_; rw [← HZ.out]; rintro e w' ⟨rfl, rfl⟩) | (go_at_call 50; refine (placeOf_any s 59 _ HS.out).mono ?_; rw [← HN.out]; rintro e w' ⟨rfl, rfl⟩))
      go_ret
      refine ⟨?_, rfl⟩
      rw [HW.out]; rfl
    · have HW : Hid (plainB s.data.toList = false) := by show _ = _; rw [HP.out]; simp
      clear ht hz hn h
      go_enter Try.func49, Try.ntmps49
      go_wp2_with (first | (go_at_call 65; refine (trimOf_any _ _ HS.out).mono ?_; rw [← HT.out]; rintro e w' ⟨rfl, rfl⟩) | (go_at_call 44; refine (letOf_any _ _ HS.out).mono ?_; rw [← HZ.out]; rintro e w' ⟨rfl, rfl⟩))
      go_ret
      refine ⟨?_, rfl⟩
      rw [HW.out]; rfl
  · have e1 : ((txt t).toList == s.toList) = false := same_f _ _ h
    have HW : Hid (plainB s.data.toList = false) := by show _ = _; rw [HP.out, beq_eq_false_iff_ne.2 h]; rfl
    clear ht hz hn h
    go_enter Try.func49, Try.ntmps49
    go_wp2_with (go_at_call 65; refine (trimOf_any _ _ HS.out).mono ?_; rw [← HT.out]; rintro e w' ⟨rfl, rfl⟩)
    go_ret
    refine ⟨?_, rfl⟩
    rw [HW.out]; rfl
end Go.Proofs.Ytjoailjedfbnbad
