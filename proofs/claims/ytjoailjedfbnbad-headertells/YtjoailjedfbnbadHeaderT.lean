/- The contract of the reference's RawText. -/
import Derived.Test.YtjoailjedfbnbadHeaderS
namespace Go.Proofs.Ytjoailjedfbnbad
open Go.RowKit
set_option linter.all false

theorem attrT_len (a : Attr) : (attrT a).length ≤ a.1.length + a.2.length + 3 := by
  unfold attrT
  by_cases h : a.2 = []
  · rw [if_pos h]; simp; omega
  · rw [if_neg h]; simp; omega
set_option maxHeartbeats 4000000 in
theorem RawText_any (va : Value) (r : Raw) (w : World) (hr : Rows w va attrF r.2.2) (hok : r.2.2.length ≤ 140737488351232 ∧ r.1.length ≤ 140737488351232 ∧ r.2.1.length ≤ 140737488351232 ∧ ∀ a ∈ r.2.2, a.1.length ≤ 140737488351232 ∧ a.2.length ≤ 140737488351232) :
    Calls Try.prog 22 #[.agg #[.string (txt r.1), .string (txt r.2.1), va]] w fun e w' => e = .returned (.tuple #[.string (txt (wrT r)), .int .i64 (wrE r)]) ∧ Below w.heap.size w w' := by
  obtain ⟨k3, k1, k2, k4⟩ := hok
  have K1 : Hid (r.1.length ≤ maxLen) := by show _ ≤ _; unfold maxLen; omega
  have K2 : Hid (r.2.1.length ≤ maxLen) := by show _ ≤ _; unfold maxLen; omega
  have K3 : Hid (r.2.2.length ≤ maxLen) := by show _ ≤ _; unfold maxLen; omega
  have K4 : Hid (∀ a ∈ r.2.2, a.1.length ≤ maxLen ∧ a.2.length ≤ maxLen) := fun a ha => by have := k4 a ha; unfold maxLen; omega
  have K5 : Hid _ := k4
  have HR : Hid (Rows w va attrF r.2.2) := hr
  obtain ⟨ad, cap, rfl⟩ := hr.shape
  obtain ⟨y, hy⟩ : ∃ y, y = checkL r := ⟨_, rfl⟩
  have HY : Hid _ := hy
  have hb0 : Below w.heap.size w (w.alloc (.cells #[.string (txt r.1), .string (txt r.2.1), .slice ad r.2.2.length cap] 34)) := (Below.refl _ _).alloc (Nat.le_refl _) _
  have S0 : Hid (S3 (w.alloc (.cells #[.string (txt r.1), .string (txt r.2.1), .slice ad r.2.2.length cap] 34)) w.heap.size (.string (txt r.1)) (.string (txt r.2.1)) (.slice ad r.2.2.length cap)) := S3.new w _ _ _ _
  have R0 : Hid (Rows (w.alloc (.cells #[.string (txt r.1), .string (txt r.2.1), .slice ad r.2.2.length cap] 34)) (.slice ad r.2.2.length cap) attrF r.2.2) := Rows.below HR.out hb0 (Nat.le_refl _)
  clear hr k4
  by_cases h0 : y = 0
  · have h12 : r.2.2.length ≤ 12 := (check_zero (by rw [← hy]; exact h0)).2.2
    have HW : Hid (wrE r = if 400 < (hdT r).length then 2 else 0) := by show _ = _; unfold wrE; rw [← hy, if_pos h0]
    clear hy
    subst h0
    go_enter Try.func22, Try.ntmps22
    go_wp2_with fail
    refine (RawCheck_any _ r _ R0.out K3.out K1.out K2.out K4.out).mono ?_
    rw [← HY.out]
    rintro e w1 ⟨rfl, hb1⟩
    have S1 : Hid _ := S0.out.below hb1 S0.out.lt
    have R1 : Hid (Rows w1 (.slice ad r.2.2.length cap) attrF r.2.2) := Rows.below R0.out hb1 (Nat.le_refl _)
    have B1 : Hid (Below w.heap.size w w1) := next hb0 hb1
    clear S0 R0 hb0 hb1
    obtain ⟨n, hnn⟩ : ∃ x, x = r.1 := ⟨_, rfl⟩
    obtain ⟨v, hvv⟩ : ∃ x, x = r.2.1 := ⟨_, rfl⟩
    obtain ⟨m, hmm⟩ : ∃ x, x = r.2.2.length := ⟨_, rfl⟩
    have HMM : Hid _ := hmm
    have HHT : Hid (headT r = n ++ [61] ++ v) := by show _ = _; unfold headT; rw [← hnn, ← hvv]
    have R1 : Hid (Rows w1 (.slice ad m cap) attrF r.2.2) := by rw [hmm]; exact R1.out
    have hsn : (txt n).size ≤ 140737488351232 := by show n.length ≤ _; rw [hnn]; exact k1
    have hsv : (txt v).size ≤ 140737488351232 := by show v.length ≤ _; rw [hvv]; exact k2
    have hz1 : (txt [61]).size = 1 := rfl
    rw [← hmm] at h12
    have S1 : Hid (S3 w1 w.heap.size (.string (txt n)) (.string (txt v)) (.slice ad m cap)) := by rw [hnn, hvv, hmm]; exact S1.out
    rw [← hnn, ← hvv, ← hmm]
    clear hnn hvv hmm k1 k2 k3
    obtain ⟨c0, c1, c2, f0, f1, f2⟩ := S1.out
    go_wp2_with fail
    go_loopw [5, 6] (fun o i wr => ∃ (k : Nat) (acc : List UInt8), k ≤ m ∧ i = .int .i64 k ∧ o = .string (txt acc) ∧ (txt acc).size ≤ 281474976702465 + k * 281474976702467 ∧ wr = w1 ∧ Hid (acc = headT r ++ (r.2.2.take k).flatMap attrT)) (fun _ i _ => m - (intOf i).toNat)
    case atStart =>
      refine ⟨0, headT r, Nat.zero_le _, rfl, ?_, ?_, rfl, ?_⟩
      · rw [HHT.out, ← txt_append, ← txt_append]; rfl
      · have e : headT r = n ++ [61] ++ v := HHT.out
        show (headT r).length ≤ _
        rw [e, List.length_append, List.length_append]
        have h1 : n.length ≤ 140737488351232 := hsn
        have h2 : v.length ≤ 140737488351232 := hsv
        simp; omega
      · show _ = _; simp
    case round =>
      obtain ⟨k, acc, hk, rfl, rfl, hsa, rfl, hacc⟩ := hrel
      by_cases hlt : k < m
      · obtain ⟨⟨an, av⟩, hak⟩ : ∃ a, r.2.2[k]? = some a := ⟨_, List.getElem?_eq_getElem (by rw [← HMM.out]; exact hlt)⟩
        obtain ⟨b, off, rfl, hbl, hcl⟩ := Rows.at R1.out rfl 1 attrF_len k _ hak
        have d0 := hcl 0 _ rfl
        have d1 := hcl 1 _ rfl
        rw [Nat.add_zero] at d0
        have hsan : (txt an).size ≤ 140737488351232 := (K5.out _ (List.mem_of_getElem? hak)).1
        have hsav : (txt av).size ≤ 140737488351232 := (K5.out _ (List.mem_of_getElem? hak)).2
        have HTK : Hid _ := hdT_take _ _ _ hak
        clear hak hcl
        by_cases hz : av = []
        · have z1 := nil_t av hz
          have z2 : ((txt av).toList != []) = false := by simp only [bne, z1]; rfl
          have HQ : Hid (attrT (an, av) = [59, 32] ++ an) := by show _ = _; unfold attrT; rw [if_pos hz]; simp
          clear hz
          go_wp2_with fail
          go_roundw
          case rel =>
            refine ⟨k + 1, acc ++ ([59, 32] ++ an), by omega, by go_num, ?_, ?_, trivial, ?_⟩
            · rw [← txt_append, ← txt_append]; rfl
            · show (acc ++ ([59, 32] ++ an)).length ≤ _
              have h1 : acc.length ≤ 281474976702465 + k * 281474976702467 := hsa
              have h2 : an.length ≤ 140737488351232 := hsan
              simp; omega
            · show _ = _; rw [HTK.out, HQ.out, hacc.out]; simp
          case measure => simp [intOf]; omega
        · have z1 := nil_f av hz
          have z2 : ((txt av).toList != []) = true := by simp only [bne, z1]; rfl
          have HQ : Hid (attrT (an, av) = [59, 32] ++ an ++ ([61] ++ av)) := by show _ = _; unfold attrT; rw [if_neg hz]
          clear hz
          go_wp2_with fail
          go_roundw
          case rel =>
            refine ⟨k + 1, acc ++ ([59, 32] ++ an) ++ ([61] ++ av), by omega, by go_num, ?_, ?_, trivial, ?_⟩
            · rw [← txt_append, ← txt_append, ← txt_append, ← txt_append]; rfl
            · show (acc ++ ([59, 32] ++ an) ++ ([61] ++ av)).length ≤ _
              have h1 : acc.length ≤ 281474976702465 + k * 281474976702467 := hsa
              have h2 : an.length ≤ 140737488351232 := hsan
              have h3 : av.length ≤ 140737488351232 := hsav
              simp; omega
            · show _ = _; rw [HTK.out, HQ.out, hacc.out]; simp
          case measure => simp [intOf]; omega
      · have HT : Hid (acc = hdT r) := by
          show _ = _
          rw [hacc.out, show r.2.2.take k = r.2.2 from List.take_of_length_le (by rw [← HMM.out]; omega)]; rfl
        by_cases h4 : 400 < acc.length
        · have HE : Hid (wrE r = 2) := by show _ = _; rw [HW.out, ← HT.out, if_pos h4]
          have HT2 : Hid (wrT r = []) := by show _ = _; unfold wrT; rw [HE.out, if_neg (by decide)]
          have h4' : 400 < (txt acc).size := h4
          go_wp2_with fail
          go_ret2
          refine ⟨?_, B1.out⟩
          rw [HE.out, HT2.out]; rfl
        · have HE : Hid (wrE r = 0) := by show _ = _; rw [HW.out, ← HT.out, if_neg h4]
          have HT2 : Hid (wrT r = acc) := by show _ = _; unfold wrT; rw [HE.out, if_pos rfl, HT.out]
          have h4' : ¬ 400 < (txt acc).size := h4
          go_wp2_with fail
          go_ret2
          refine ⟨?_, B1.out⟩
          rw [HE.out, HT2.out]; rfl
  · have HW : Hid (wrE r = y) := by show _ = _; unfold wrE; rw [← hy, if_neg h0]
    have HT : Hid (wrT r = []) := by show _ = _; unfold wrT; rw [HW.out, if_neg h0]
    have hzz : (y != 0) = true := by rw [bne_iff_ne]; exact h0
    clear hy h0
    go_enter Try.func22, Try.ntmps22
    go_wp2_with fail
    refine (RawCheck_any _ r _ R0.out K3.out K1.out K2.out K4.out).mono ?_
    rw [← HY.out]
    rintro e w1 ⟨rfl, hb1⟩
    go_wp2_with fail
    go_ret2
    refine ⟨?_, next hb0 hb1⟩
    rw [HW.out, HT.out]; rfl
end Go.Proofs.Ytjoailjedfbnbad
