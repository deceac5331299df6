/- Contracts: the program's Public and Owner. -/
import Derived.Test.YtgjjkieljdamfafDoorSuffixD
namespace Go.Proofs.YtgjjkieljdamfafDoor
open Go.RowKit Go.Maps
set_option linter.all false
set_option maxRecDepth 100000

theorem pubE_ok (l : Rules) (h : List UInt8) : pubE l h = 0 ↔ sufE l = 0 ∧ canB h = true := by
  unfold pubE
  by_cases h0 : sufE l = 0
  · rw [if_pos h0]
    cases canB h <;> simp [h0]
  · rw [if_neg h0]
    simp [h0]
theorem pubA_bad (l : Rules) (h : List UInt8) (he : pubE l h ≠ 0) : pubA l h = [] := by
  unfold pubA
  by_cases h0 : sufE l = 0
  · rw [if_pos h0]
    cases hc : canB h
    · rfl
    · exact absurd ((pubE_ok l h).2 ⟨h0, hc⟩) he
  · rw [if_neg h0]
theorem ownA_bad (l : Rules) (h : List UInt8) (he : pubE l h ≠ 0) : ownA l h = [] ∧ ownE l h = pubE l h := by
  unfold ownA ownE pubE
  by_cases h0 : sufE l = 0
  · rw [if_pos h0, if_pos h0, if_pos h0]
    cases hc : canB h
    · exact ⟨rfl, rfl⟩
    · exact absurd ((pubE_ok l h).2 ⟨h0, hc⟩) he
  · rw [if_neg h0, if_neg h0, if_neg h0]; exact ⟨rfl, rfl⟩
theorem pubA_addr (l : Rules) (h : List UInt8) (h0 : sufE l = 0) (hc : canB h = true) (ha : addrL h = true) : pubA l h = [] := by
  unfold pubA; rw [if_pos h0, hc, ha]; rfl
theorem pubA_host (l : Rules) (h : List UInt8) (h0 : sufE l = 0) (hc : canB h = true) (ha : addrL h = false) : pubA l h = pubL l h := by
  unfold pubA; rw [if_pos h0, hc, ha]; rfl
theorem own_addr (l : Rules) (h : List UInt8) (h0 : sufE l = 0) (hc : canB h = true) (ha : addrL h = true) : ownA l h = h ∧ ownE l h = 0 := by
  unfold ownA ownE; rw [if_pos h0, if_pos h0, hc, ha]; exact ⟨rfl, rfl⟩
theorem own_host (l : Rules) (h : List UInt8) (h0 : sufE l = 0) (hc : canB h = true) (ha : addrL h = false) : ownA l h = (ownL l h).getD [] ∧ ownE l h = (if (ownL l h).isSome then 0 else 5) := by
  unfold ownA ownE; rw [if_pos h0, if_pos h0, hc, ha]; exact ⟨rfl, rfl⟩
theorem own_self (l : Rules) (h : List UInt8) (e : pubL l h = h) : ownL l h = none := if_pos e
set_option maxHeartbeats 2000000 in
theorem Public_any (v : Value) (l : Rules) (h : ByteArray) (w : World) (hr : Rows w v sufF l) (hm : l.length ≤ maxLen) (hok : ∀ r ∈ l, okR r) (hh : h.size ≤ maxLen) :
    Calls Tryd.prog 37 #[v, .string h] w fun e w' => e = .returned (.tuple #[.string (txt (pubA l h.data.toList)), .int .i64 (pubE l h.data.toList)]) ∧ Below w.heap.size w w' := by
  have HR : Hid _ := hr
  have HM : Hid _ := hm
  have HK : Hid _ := hok
  have HH : Hid _ := hh
  clear hr hm hok hh
  by_cases he : pubE l h.data.toList = 0
  · obtain ⟨h0, hc⟩ := (pubE_ok _ _).1 he
    obtain ⟨a, hA⟩ := pubAt_ex l (upsL h.data.toList)
    obtain ⟨f1, f2, _⟩ := upsL_facts _ hc
    have HE : Hid _ := he
    have H0 : Hid _ := h0
    have HC : Hid _ := hc
    have HA : Hid _ := hA
    cases ha : addrL h.data.toList
    · have HD : Hid _ := ha
      have HP : Hid _ := pubA_host l _ h0 hc ha
      have hg : (upsL h.data.toList)[a]? = some (pubL l h.data.toList) := by
        have e := ups_host _ hc ha
        rw [e] at hA ⊢
        exact pub_get l _ a h0 hA
      have hal : a < (upsL h.data.toList).length := (List.getElem?_eq_some_iff.1 hg).1
      obtain ⟨us, hus⟩ : ∃ us, us = upsL h.data.toList := ⟨_, rfl⟩
      rw [← hus] at hg hal f1
      have HG : Hid _ := hg
      have HUS : Hid _ := hus
      clear hus hg ha hA hc h0 he f2
      go_enter Tryd.func37, Tryd.ntmps37
      go_wp2_with fail
      refine (find_ok _ l h a _ HR.out HM.out HK.out HH.out H0.out HC.out HA.out).mono ?_
      rw [← HUS.out]
      rintro e w1 ⟨u, rfl, hrd, hb1⟩
      obtain ⟨ad, cap, rfl, hrd⟩ := hrd
      rcases hrd with hrd | ⟨b, off, rfl, hrd⟩
      · have : (strs us).length = us.length := strs_length us
        rw [hrd] at this; simp at this; omega
      have c1 := hrd a _ (strs_get HG.out)
      clear hrd
      go_wp2_with fail
      refine (address_any _ _ HH.out).mono ?_
      rw [HD.out]
      rintro e w2 ⟨rfl, hb2⟩
      have c2 := (hb2.cell (p := ⟨b, off + a, none⟩) (cell_in c1)).trans c1
      go_wp2_with fail
      go_ret2
      refine ⟨?_, next hb1 hb2⟩
      rw [HP.out, HE.out]; rfl
    · have HD : Hid _ := ha
      have HP : Hid _ := pubA_addr l _ h0 hc ha
      clear ha hA hc h0 he
      go_enter Tryd.func37, Tryd.ntmps37
      go_wp2_with fail
      refine (find_ok _ l h a _ HR.out HM.out HK.out HH.out H0.out HC.out HA.out).mono ?_
      rintro e w1 ⟨u, rfl, hrd, hb1⟩
      go_wp2_with fail
      refine (address_any _ _ HH.out).mono ?_
      rw [HD.out]
      rintro e w2 ⟨rfl, hb2⟩
      go_wp2_with fail
      go_ret2
      refine ⟨?_, next hb1 hb2⟩
      rw [HP.out, HE.out]; rfl
  · have HP : Hid _ := pubA_bad _ _ he
    have HN : Hid _ := he
    obtain ⟨E, hE⟩ : ∃ E, E = pubE l h.data.toList := ⟨_, rfl⟩
    rw [← hE] at he
    have heb : (E == 0) = false := by rw [beq_eq_false_iff_ne]; exact he
    have heb2 : (E != 0) = true := by rw [bne_iff_ne]; exact he
    have HX : Hid _ := hE
    clear he hE
    go_enter Tryd.func37, Tryd.ntmps37
    go_wp2_with fail
    refine (find_bad _ l _ _ HR.out HM.out HK.out HH.out HN.out).mono ?_
    rw [← HX.out]
    rintro e w1 ⟨rfl, hb1⟩
    go_wp2_with fail
    go_ret2
    refine ⟨?_, hb1⟩
    rw [HP.out, ← HX.out]; rfl
end Go.Proofs.YtgjjkieljdamfafDoor
