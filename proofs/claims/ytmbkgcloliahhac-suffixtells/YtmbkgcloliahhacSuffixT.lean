/- Contracts of the reference: a host's public suffix and its owner, errors too. -/
import Derived.Test.YtmbkgcloliahhacSuffixS
import Derived.Test.YtmbkgcloliahhacSuffixE
namespace Go.Proofs.Ytmbkgcloliahhac
open Go.RowKit Go.Maps
set_option linter.all false

theorem suf_kinds (l : Rules) (h : sufE l = 0) (hok : ∀ r ∈ l, okR r) : ∀ r ∈ l, okR r ∧ kindB r.1 = true := fun r hr => ⟨hok r hr, (rule_form r ((suf_all l h).2 r hr)).1⟩
theorem pubA_ok (l : Rules) (h : List UInt8) (h0 : sufE l = 0) (hc : canB h = true) : (if addrL h then [] else pubL l h) = pubA l h := by
  unfold pubA; rw [if_pos h0, hc, if_pos rfl]
set_option maxHeartbeats 2000000 in
theorem publicNo_any (v : Value) (l : Rules) (h : ByteArray) (w : World) (hr : Rows w v sufF l) (hm : l.length ≤ maxLen) (hok : ∀ r ∈ l, okR r) (hh : h.size ≤ maxLen) :
    Calls Try.prog 22 #[v, .string h] w fun e w' => e = .returned (.tuple #[.string (txt (pubA l h.data.toList)), .int .i64 (pubE l h.data.toList)]) ∧ Below w.heap.size w w' := by
  have HR : Hid (Rows w v sufF l) := hr
  have HM : Hid _ := hm
  have HK : Hid _ := hok
  have HH : Hid _ := hh
  clear hr hm hok hh
  obtain ⟨A, hA⟩ : ∃ A, pubA l h.data.toList = A := ⟨_, rfl⟩
  obtain ⟨E, hE⟩ : ∃ E, pubE l h.data.toList = E := ⟨_, rfl⟩
  obtain ⟨S, hS⟩ : ∃ S, sufE l = S := ⟨_, rfl⟩
  rw [hA, hE]
  have HA : Hid _ := hA
  have HE : Hid _ := hE
  have HS : Hid _ := hS
  by_cases h0 : S = 0
  · have H0 : Hid (sufE l = 0) := by show _ = _; rw [hS]; exact h0
    cases hc : canB h.data.toList
    · have hE1 : E = 1 := by rw [← hE]; unfold pubE; rw [if_pos H0.out, hc]; rfl
      have hA1 : A = [] := by rw [← hA]; exact pubA_bad _ _ (by rw [hE, hE1]; decide)
      have HC : Hid _ := hc
      subst h0
      clear hc hA hE hS
      go_enter Try.func22, Try.ntmps22
      go_wp2_with fail
      refine (suffixCheck_any v l _ HR.out HM.out HK.out).mono ?_
      rw [HS.out]
      rintro e w1 ⟨rfl, hb1⟩
      go_wp2_with fail
      refine (isHost_any _ _ HH.out).mono ?_
      rw [HC.out]
      rintro e w2 ⟨rfl, hb2⟩
      go_wp2_with fail
      go_ret2
      refine ⟨?_, next hb1 hb2⟩
      rw [hA1, hE1]; rfl
    · have hE1 : E = 0 := by rw [← hE]; exact (pubE_ok _ _).2 ⟨H0.out, hc⟩
      have HC : Hid _ := hc
      have HA2 : Hid ((if addrL h.data.toList then [] else pubL l h.data.toList) = A) := by show _ = _; rw [← hA]; exact pubA_ok l _ H0.out hc
      subst h0
      clear hc hA hE hS
      go_enter Try.func22, Try.ntmps22
      go_wp2_with fail
      refine (suffixCheck_any v l _ HR.out HM.out HK.out).mono ?_
      rw [HS.out]
      rintro e w1 ⟨rfl, hb1⟩
      have R1 : Hid (Rows w1 v sufF l) := Rows.below HR.out hb1 (Nat.le_refl _)
      go_wp2_with fail
      refine (isHost_any _ _ HH.out).mono ?_
      rw [HC.out]
      rintro e w2 ⟨rfl, hb2⟩
      have R2 : Hid (Rows w2 v sufF l) := Rows.below R1.out hb2 (Nat.le_refl _)
      go_wp2_with fail
      refine (publicOf_any v l h _ R2.out (suf_all l H0.out).1 (suf_kinds l H0.out HK.out) HC.out).mono ?_
      rw [HA2.out]
      rintro e w3 ⟨rfl, hb3⟩
      go_wp2_with fail
      go_ret2
      refine ⟨?_, next (next hb1 hb2) hb3⟩
      rw [hE1]; rfl
  · have hE1 : E = S := by rw [← hE]; unfold pubE; rw [if_neg (by rw [hS]; exact h0), hS]
    have hA1 : A = [] := by rw [← hA]; exact pubA_bad _ _ (by rw [hE, hE1]; exact h0)
    have h0b : (S == 0) = false := by rw [beq_eq_false_iff_ne]; exact h0
    have h0c : (S != 0) = true := by rw [bne_iff_ne]; exact h0
    clear h0 hA hE hS
    go_enter Try.func22, Try.ntmps22
    go_wp2_with fail
    refine (suffixCheck_any v l _ HR.out HM.out HK.out).mono ?_
    rw [HS.out]
    rintro e w1 ⟨rfl, hb1⟩
    go_wp2_with fail
    go_ret2
    refine ⟨?_, hb1⟩
    rw [hA1, hE1]; rfl
theorem own_find (l : Rules) (h : List UInt8) (hne : pubL l h ≠ h) : ownL l h = (upsN h).find? (fun u => behindL u == pubL l h) := if_neg hne
set_option maxHeartbeats 4000000 in
theorem ownerOf_any (v : Value) (l : Rules) (h : ByteArray) (w : World) (hr : Rows w v sufF l) (hm : l.length ≤ maxLen) (hok : ∀ r ∈ l, okR r) (hh : h.size ≤ maxLen) :
    Calls Try.prog 23 #[v, .string h] w fun e w' => e = .returned (.tuple #[.string (txt (ownA l h.data.toList)), .int .i64 (ownE l h.data.toList)]) ∧ Below w.heap.size w w' := by
  have HR : Hid (Rows w v sufF l) := hr
  have HM : Hid _ := hm
  have HK : Hid _ := hok
  have HH : Hid _ := hh
  clear hr hm hok hh
  obtain ⟨A, hA⟩ : ∃ A, ownA l h.data.toList = A := ⟨_, rfl⟩
  obtain ⟨E, hE⟩ : ∃ E, ownE l h.data.toList = E := ⟨_, rfl⟩
  obtain ⟨S, hS⟩ : ∃ S, pubE l h.data.toList = S := ⟨_, rfl⟩
  obtain ⟨P, hP⟩ : ∃ P, pubA l h.data.toList = P := ⟨_, rfl⟩
  rw [hA, hE]
  have HS : Hid _ := hS
  have HP : Hid _ := hP
  by_cases h0 : S = 0
  · obtain ⟨s0, hc⟩ := (pubE_ok _ _).1 (hS.trans h0)
    have hl253 : h.size ≤ 253 := can_len _ hc
    have HW : Hid ((h.size + 1) * 16 ≤ 140737488355328) := by show _ ≤ _; omega
    cases ha : addrL h.data.toList
    · obtain ⟨o1, o2⟩ := own_host l _ s0 hc ha
      rw [hA] at o1
      rw [hE] at o2
      have hPL : pubL l h.data.toList = P := by rw [← hP, pubA_host l _ s0 hc ha]
      have HAD : Hid _ := ha
      by_cases hph : P = h.data.toList
      · have hn := own_self l _ (hPL.trans hph)
        have hA1 : A = [] := by rw [o1, hn]; rfl
        have hE1 : E = 5 := by rw [o2, hn]; rfl
        have hq : ((txt P).toList == h.toList) = true := by rw [hph, txt_of]; simp
        subst h0
        clear hph hPL o1 o2 ha hA hE hS hP hn
        go_enter Try.func23, Try.ntmps23
        go_wp2_with fail
        refine (publicNo_any v l h _ HR.out HM.out HK.out HH.out).mono ?_
        rw [HS.out, HP.out]
        rintro e w1 ⟨rfl, hb1⟩
        go_wp2_with fail
        refine (isAddress_any _ _ HW.out).mono ?_
        rw [HAD.out]
        rintro e w2 ⟨rfl, hb2⟩
        go_wp2_with fail
        go_ret2
        refine ⟨?_, next hb1 hb2⟩
        rw [hA1, hE1]; rfl
      · have hq : ((txt P).toList == h.toList) = false := by rw [Lib.toList_data, Lib.toList_data, txt_toList, beq_eq_false_iff_ne]; exact hph
        have hfind := own_find l h.data.toList (by rw [hPL]; exact hph)
        rw [hfind, hPL] at o1 o2
        obtain ⟨F1, F2, F3⟩ := upsL_facts _ hc
        rw [ups_host _ hc ha] at F1 F2 F3
        have HU : Hid _ := ups_host _ hc ha
        obtain ⟨ups, hups⟩ : ∃ ups, ups = upsN h.data.toList := ⟨_, rfl⟩
        rw [← hups] at F1 F2 F3 HU o1 o2
        have HF3 : Hid _ := F3
        have O1 : Hid _ := o1
        have O2 : Hid _ := o2
        subst h0
        clear hph hPL o1 o2 ha hA hE hS hP hfind F3 hups
        go_enter Try.func23, Try.ntmps23
        go_wp2_with fail
        refine (publicNo_any v l h _ HR.out HM.out HK.out HH.out).mono ?_
        rw [HS.out, HP.out]
        rintro e w1 ⟨rfl, hb1⟩
        go_wp2_with fail
        refine (isAddress_any _ _ HW.out).mono ?_
        rw [HAD.out]
        rintro e w2 ⟨rfl, hb2⟩
        go_wp2_with fail
        refine (upsOf_any h _ HW.out).mono ?_
        rintro e w3 ⟨u, rfl, hown, hb3⟩
        have hrd := Reads.of_own hown
        rw [HU.out] at hrd
        have hb0 := next (next hb1 hb2) hb3
        clear hown hb1 hb2 hb3 HU
        obtain ⟨ad2, cap2, rfl, hrd⟩ := hrd
        have hrd2 : ∃ b2 off2, ad2 = some ⟨b2, off2, none⟩ ∧ ∀ (j : Nat) y, ups[j]? = some y → w3.cell? ⟨b2, off2 + j, none⟩ = some (.string (txt y)) := by
          rcases hrd with hrd | ⟨b, off, rfl, hrd⟩
          · have : (strs ups).length = ups.length := strs_length ups
            rw [hrd] at this; simp at this; omega
          · exact ⟨b, off, rfl, fun j y hy => hrd j _ (strs_get hy)⟩
        clear hrd
        obtain ⟨b2, off2, rfl, hup⟩ := hrd2
        have HUC : Hid _ := hup
        clear hup
        go_wp2_with fail
        go_loopw [9] (fun iv wr => ∃ i : Nat, i ≤ ups.length ∧ iv = .int .i64 i ∧ Hid (∀ (j : Nat) y, ups[j]? = some y → j < i → (behindL y == P) = false) ∧ wr = w3) (fun iv _ => ups.length - (intOf iv).toNat)
        case atStart => exact ⟨0, Nat.zero_le _, rfl, fun _ _ _ h => absurd h (by omega), rfl⟩
        case round =>
          obtain ⟨i, hi, rfl, hn, rfl⟩ := hrel
          by_cases hlt : i < ups.length
          · obtain ⟨d, hd⟩ : ∃ d, ups[i]? = some d := ⟨_, List.getElem?_eq_getElem hlt⟩
            have HDL : Hid (d.length ≤ maxLen) := Nat.le_trans (HF3.out d (List.mem_of_getElem? hd)) (by decide)
            have cu := HUC.out i d hd
            have HD : Hid _ := hd
            clear hd
            by_cases hb : behindL d = P
            · have hq2 := teq _ _ hb
              have hfi : ups.find? (fun u => behindL u == P) = some d := first_find ⟨⟨d, HD.out, by show (behindL d == P) = true; rw [hb]; simp⟩, hn.out⟩ HD.out
              have hA1 : A = d := by rw [O1.out, hfi]; rfl
              have hE1 : E = 0 := by rw [O2.out, hfi]; rfl
              clear hfi hb
              go_wp2_with fail
              refine (behindT_any d HDL.out _).mono ?_
              rintro e w4 ⟨rfl, rfl⟩
              go_wp2_with fail
              go_ret2
              refine ⟨?_, hb0⟩
              rw [hA1, hE1]; rfl
            · have hq2 := tne _ _ hb
              have HN : Hid ((behindL d == P) = false) := by show _ = _; rw [beq_eq_false_iff_ne]; exact hb
              clear hb
              go_wp2_with fail
              refine (behindT_any d HDL.out _).mono ?_
              rintro e w4 ⟨rfl, rfl⟩
              go_wp2_with fail
              go_roundw
              case rel =>
                refine ⟨i + 1, by omega, by go_num, fun j y hj hl => ?_, by first | rfl | trivial⟩
                by_cases e : j = i
                · subst e
                  rw [HD.out] at hj
                  injection hj with hj
                  rw [← hj]; exact HN.out
                · exact hn.out j y hj (by omega)
              case measure => simp [intOf]; omega
          · have hfi : ups.find? (fun u => behindL u == P) = none := no_find (fun j y hj => hn.out j y hj (by have := (List.getElem?_eq_some_iff.1 hj).1; omega))
            have hA1 : A = [] := by rw [O1.out, hfi]; rfl
            have hE1 : E = 5 := by rw [O2.out, hfi]; rfl
            clear hfi hn
            go_wp2_with fail
            go_ret2
            refine ⟨?_, hb0⟩
            rw [hA1, hE1]; rfl
    · obtain ⟨o1, o2⟩ := own_addr l _ s0 hc ha
      have hA1 : txt A = h := by rw [← hA, o1]; exact txt_of h
      have hE1 : E = 0 := by rw [← hE]; exact o2
      have HAD : Hid _ := ha
      subst h0
      clear o1 o2 ha hA hE hS hP
      go_enter Try.func23, Try.ntmps23
      go_wp2_with fail
      refine (publicNo_any v l h _ HR.out HM.out HK.out HH.out).mono ?_
      rw [HS.out, HP.out]
      rintro e w1 ⟨rfl, hb1⟩
      go_wp2_with fail
      refine (isAddress_any _ _ HW.out).mono ?_
      rw [HAD.out]
      rintro e w2 ⟨rfl, hb2⟩
      go_wp2_with fail
      go_ret2
      refine ⟨?_, next hb1 hb2⟩
      rw [hA1, hE1]; rfl
  · obtain ⟨o1, o2⟩ := ownA_bad l h.data.toList (by rw [hS]; exact h0)
    have hA1 : A = [] := by rw [← hA]; exact o1
    have hE1 : E = S := by rw [← hE, o2, hS]
    have h0c : (S != 0) = true := by rw [bne_iff_ne]; exact h0
    clear o1 o2 h0 hA hE hS hP
    go_enter Try.func23, Try.ntmps23
    go_wp2_with fail
    refine (publicNo_any v l h _ HR.out HM.out HK.out HH.out).mono ?_
    rw [HS.out, HP.out]
    rintro e w1 ⟨rfl, hb1⟩
    go_wp2_with fail
    go_ret2
    refine ⟨?_, hb1⟩
    rw [hA1, hE1]; rfl
end Go.Proofs.Ytmbkgcloliahhac
