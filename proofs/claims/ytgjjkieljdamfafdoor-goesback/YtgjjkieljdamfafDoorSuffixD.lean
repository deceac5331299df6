/- Contracts: where a host's public suffix stands among its ups; a host's ups and that place; the program's Check, Public and Owner. -/
import Derived.Test.YtgjjkieljdamfafDoorSuffixC
namespace Go.Proofs.YtgjjkieljdamfafDoor
open Go.RowKit Go.Maps
set_option linter.all false
set_option maxRecDepth 100000

theorem isEx_has (l : Rules) (d : List UInt8) : isEx l d = l.contains (3, d) := by
  unfold isEx
  rw [Bool.eq_iff_iff, List.any_eq_true, List.contains_iff_mem]
  constructor
  · rintro ⟨⟨z, s⟩, hr, hq⟩
    rw [Bool.and_eq_true, beq_iff_eq, beq_iff_eq] at hq
    obtain ⟨h1, h2⟩ := hq
    simp only at h1 h2
    rw [← h1, ← h2]; exact hr
  · intro h
    exact ⟨_, h, by simp⟩
theorem isBest_has (l : Rules) (d : List UInt8) : isBest l d = (l.contains (1, d) || l.contains (2, behindL d)) := by
  unfold isBest
  rw [Bool.eq_iff_iff, List.any_eq_true, Bool.or_eq_true, List.contains_iff_mem, List.contains_iff_mem]
  constructor
  · rintro ⟨⟨z, s⟩, hr, hq⟩
    simp only [Bool.or_eq_true, Bool.and_eq_true, beq_iff_eq] at hq
    rcases hq with ⟨h1, h2⟩ | ⟨h1, h2⟩
    · left; rw [← h1, ← h2]; exact hr
    · right; rw [← h1, ← h2]; exact hr
  · rintro (h | h)
    · exact ⟨_, h, by simp⟩
    · exact ⟨_, h, by simp⟩
/-- a place, as it is told: the first by one, else the first by another, else the last -/
theorem pubAt_one {l : Rules} {ups : List (List UInt8)} {a a' : Nat} (h : PubAt l ups a) (h' : PubAt l ups a') : a = a' := by
  have first_one : ∀ {q : List UInt8 → Bool} {i j : Nat}, FirstAt q ups i → FirstAt q ups j → i = j := by
    intro q i j hi hj
    obtain ⟨⟨x, hx, hqx⟩, hnx⟩ := hi
    obtain ⟨⟨y, hy, hqy⟩, hny⟩ := hj
    rcases Nat.lt_trichotomy i j with hl | hl | hl
    · have := hny i x hx hl; rw [hqx] at this; cases this
    · exact hl
    · have := hnx j y hy hl; rw [hqy] at this; cases this
  have first_no : ∀ {q : List UInt8 → Bool} {i : Nat}, FirstAt q ups i → NoAt q ups → False := by
    intro q i hi hn
    obtain ⟨⟨x, hx, hqx⟩, _⟩ := hi
    have := hn i x hx; rw [hqx] at this; cases this
  rcases h with ⟨i, hi, rfl⟩ | ⟨hn, h⟩ <;> rcases h' with ⟨j, hj, rfl⟩ | ⟨hn', h'⟩
  · rw [first_one hi hj]
  · exact (first_no hi hn').elim
  · exact (first_no hj hn).elim
  · rcases h with ⟨i, hi, rfl⟩ | ⟨hm, rfl⟩ <;> rcases h' with ⟨j, hj, rfl⟩ | ⟨hm', rfl⟩
    · exact first_one hi hj
    · exact (first_no hi hm').elim
    · exact (first_no hj hm).elim
    · rfl
theorem okR_of (z : Int) (s : List UInt8) (hz : 1 ≤ z ∧ z ≤ 3) (hs : s.length ≤ maxLen) : okR (z, s) := ⟨⟨by simp only; omega, by simp only; omega⟩, hs⟩
set_option maxHeartbeats 4000000 in
theorem public_any (B : Nat) (l : Rules) (v : Value) (ups : List (List UInt8)) (a : Nat) (w : World) (hh : Holds w B l) (hr : Reads w v ups.length (strs ups)) (hm : ups.length ≤ 1000) (h1 : 1 ≤ ups.length) (hu : ∀ u ∈ ups, u.length ≤ 253) (ha : PubAt l ups a) :
    Calls Tryd.prog 83 #[.map (some B), v] w fun e w' => e = .returned (.int .i64 (a : Int)) ∧ Below w.heap.size w w' := by
  obtain ⟨ad, cap, rfl, hr⟩ := hr
  have HA : Hid _ := ha
  have HU : Hid _ := hu
  have HR : Hid (strs ups = [] ∨ ∃ b off, ad = some ⟨b, off, none⟩ ∧ ∀ (j : Nat) u, (strs ups)[j]? = some u → w.cell? ⟨b, off + j, none⟩ = some u) := hr
  clear ha hu hr
  go_enter Tryd.func83, Tryd.ntmps83
  go_wp2_with fail
  go_loopw [14] (fun i wr => ∃ k : Nat, k ≤ ups.length ∧ i = .int .i64 k ∧ Hid (∀ (j : Nat) y, ups[j]? = some y → j < k → isEx l y = false) ∧ Below w.heap.size w wr) (fun i _ => ups.length - (intOf i).toNat)
  case atStart => exact ⟨0, Nat.zero_le _, rfl, fun _ _ _ h => absurd h (by omega), Below.refl _ _⟩
  case round =>
    obtain ⟨k, hk, rfl, hn, hb⟩ := hrel
    have hh1 := hh.below hb (Nat.le_refl _)
    by_cases hlt : k < ups.length
    · obtain ⟨x, hx⟩ : ∃ x, ups[k]? = some x := ⟨_, List.getElem?_eq_getElem hlt⟩
      rcases HR.out with hr | ⟨b, off, rfl, hr⟩
      · have : (strs ups).length = ups.length := strs_length ups
        rw [hr] at this; simp at this; omega
      have c1 := (hb.cell (p := ⟨b, off + k, none⟩) (cell_in (hr k _ (strs_get hx)))).trans (hr k _ (strs_get hx))
      have HX : Hid _ := hx
      have HL : Hid (okR (3, x)) := okR_of 3 x (by omega) (Nat.le_trans (HU.out x (List.mem_of_getElem? hx)) (by decide))
      clear hx hr
      cases hq : isEx l x
      · have HQ : Hid (l.contains (3, x) = false) := by show _ = _; rw [← isEx_has]; exact hq
        have HN : Hid _ := hq
        clear hq
        go_wp2_with fail
        refine (has_any _ _ 3 (txt x) _ hh1 HL.out).mono ?_
        rw [txt_toList, HQ.out]
        rintro e w1 ⟨rfl, hb1⟩
        go_wp2_with fail
        go_roundw
        case rel =>
          refine ⟨k + 1, by omega, by go_num, fun j y hj hl => ?_, next hb hb1⟩
          by_cases e : j = k
          · subst e
            rw [HX.out] at hj
            injection hj with hj
            rw [← hj]; exact HN.out
          · exact hn.out j y hj (by omega)
        case measure => simp [intOf]; omega
      · have HQ : Hid (l.contains (3, x) = true) := by show _ = _; rw [← isEx_has]; exact hq
        have HE : Hid (a = k + 1) := pubAt_one HA.out (.inl ⟨k, ⟨⟨x, HX.out, hq⟩, hn.out⟩, rfl⟩)
        clear hq
        go_wp2_with fail
        refine (has_any _ _ 3 (txt x) _ hh1 HL.out).mono ?_
        rw [txt_toList, HQ.out]
        rintro e w1 ⟨rfl, hb1⟩
        go_wp2_with fail
        go_ret
        refine ⟨?_, next hb hb1⟩
        rw [HE.out]; rfl
    · have HNo : Hid (NoAt (isEx l) ups) := fun j y hj => hn.out j y hj (by have := (List.getElem?_eq_some_iff.1 hj).1; omega)
      clear hn
      go_wp2_with fail
      obtain ⟨wo, hwo⟩ : ∃ wo : World, wo = wr := ⟨_, rfl⟩
      rw [← hwo] at hb hh1 ⊢
      clear hwo
      go_loopw [27] (fun i wr => ∃ k : Nat, k ≤ ups.length ∧ i = .int .i64 k ∧ Hid (∀ (j : Nat) y, ups[j]? = some y → j < k → isBest l y = false) ∧ Below w.heap.size w wr) (fun i _ => ups.length - (intOf i).toNat)
      case atStart => exact ⟨0, Nat.zero_le _, rfl, fun _ _ _ h => absurd h (by omega), hb⟩
      case round =>
        clear hk hlt hb hh1
        obtain ⟨k, hk, rfl, hn, hb⟩ := hrel
        have hh1 := hh.below hb (Nat.le_refl _)
        by_cases hlt : k < ups.length
        · obtain ⟨x, hx⟩ : ∃ x, ups[k]? = some x := ⟨_, List.getElem?_eq_getElem hlt⟩
          rcases HR.out with hr | ⟨b, off, rfl, hr⟩
          · have : (strs ups).length = ups.length := strs_length ups
            rw [hr] at this; simp at this; omega
          have c1 := (hb.cell (p := ⟨b, off + k, none⟩) (cell_in (hr k _ (strs_get hx)))).trans (hr k _ (strs_get hx))
          have hxl : x.length ≤ 253 := HU.out x (List.mem_of_getElem? hx)
          have HX : Hid _ := hx
          have HZ : Hid ((txt x).size ≤ maxLen) := Nat.le_trans hxl (by decide)
          have HL : Hid (okR (1, x)) := okR_of 1 x (by omega) (Nat.le_trans hxl (by decide))
          have HL2 : Hid (okR (2, cutB x 46)) := okR_of 2 _ (by omega) (Nat.le_trans (cutB_len x 46).1 (Nat.le_trans hxl (by decide)))
          have HQ : Hid (isBest l x = (l.contains (1, x) || l.contains (2, cutB x 46))) := isBest_has l x
          clear hx hr hxl
          go_wp2_with fail
          refine (cut_any (txt x) 46 _ HZ.out).mono ?_
          rw [txt_toList]
          rintro e w1 ⟨rfl, n1, rfl⟩
          have hb1 : Below w.heap.size w (wr.drewN n1) := next hb (below_drewN' _ _ _)
          have hh2 : Holds (wr.drewN n1) B l := hh1.below (below_drewN' _ _ _) (Nat.le_refl _)
          cases h1 : l.contains (1, x)
          · have H1 : Hid _ := h1
            rw [h1] at HQ
            clear h1
            go_wp2_with fail
            refine (has_any _ _ 1 (txt x) _ hh2 HL.out).mono ?_
            rw [txt_toList, H1.out]
            rintro e w2 ⟨rfl, hb2⟩
            have hh3 := hh2.below hb2 (Nat.le_refl _)
            cases h2 : l.contains (2, cutB x 46)
            · have H2 : Hid _ := h2
              have HN : Hid (isBest l x = false) := by show _ = _; rw [HQ.out, h2]; rfl
              clear h2
              go_wp2_with fail
              refine (has_any _ _ 2 (txt (cutB x 46)) _ hh3 HL2.out).mono ?_
              rw [txt_toList, H2.out]
              rintro e w3 ⟨rfl, hb3⟩
              go_wp2_with fail
              go_roundw
              case rel =>
                refine ⟨k + 1, by omega, by go_num, fun j y hj hl => ?_, next (next hb1 hb2) hb3⟩
                by_cases e : j = k
                · subst e
                  rw [HX.out] at hj
                  injection hj with hj
                  rw [← hj]; exact HN.out
                · exact hn.out j y hj (by omega)
              case measure => simp [intOf]; omega
            · have H2 : Hid _ := h2
              have HE : Hid (a = k) := pubAt_one HA.out (.inr ⟨HNo.out, .inl ⟨k, ⟨⟨x, HX.out, by rw [HQ.out, h2]; rfl⟩, hn.out⟩, rfl⟩⟩)
              clear h2
              go_wp2_with fail
              refine (has_any _ _ 2 (txt (cutB x 46)) _ hh3 HL2.out).mono ?_
              rw [txt_toList, H2.out]
              rintro e w3 ⟨rfl, hb3⟩
              go_wp2_with fail
              go_ret
              refine ⟨?_, next (next hb1 hb2) hb3⟩
              rw [HE.out]; rfl
          · have H1 : Hid _ := h1
            have HE : Hid (a = k) := pubAt_one HA.out (.inr ⟨HNo.out, .inl ⟨k, ⟨⟨x, HX.out, by rw [HQ.out, h1]; rfl⟩, hn.out⟩, rfl⟩⟩)
            clear h1
            go_wp2_with fail
            refine (has_any _ _ 1 (txt x) _ hh2 HL.out).mono ?_
            rw [txt_toList, H1.out]
            rintro e w2 ⟨rfl, hb2⟩
            go_wp2_with fail
            go_ret
            refine ⟨?_, next hb1 hb2⟩
            rw [HE.out]; rfl
        · have HE : Hid (a = ups.length - 1) := pubAt_one HA.out (.inr ⟨HNo.out, .inr ⟨fun j y hj => hn.out j y hj (by have := (List.getElem?_eq_some_iff.1 hj).1; omega), rfl⟩⟩)
          clear hn
          have hcast : ((ups.length : Int) - 1) = ((ups.length - 1 : Nat) : Int) := by omega
          go_wp2_with fail
          go_ret
          refine ⟨?_, hb⟩
          rw [HE.out, ← hcast]; rfl
theorem ups_host (h : List UInt8) (hc : canB h = true) (ha : addrL h = false) : upsL h = upsN h := by
  unfold upsL upsN
  rw [if_neg (can_ne h hc), ha]; rfl
theorem ups_addr (h : List UInt8) (hc : canB h = true) (ha : addrL h = true) : upsL h = [h] := by
  unfold upsL
  rw [if_neg (can_ne h hc), ha]; rfl
theorem upsL_facts (h : List UInt8) (hc : canB h = true) : (upsL h).length ≤ 254 ∧ 1 ≤ (upsL h).length ∧ ∀ u ∈ upsL h, u.length ≤ 253 := by
  have hl := can_len h hc
  cases ha : addrL h
  · rw [ups_host h hc ha]
    refine ⟨?_, ?_, fun u hu => Nat.le_trans (ups_le h u hu) hl⟩
    · have := tails_len h
      show (h :: tailsL h).length ≤ 254
      rw [List.length_cons]; omega
    · show 1 ≤ (h :: tailsL h).length
      rw [List.length_cons]; omega
  · rw [ups_addr h hc ha]
    refine ⟨by simp, by simp, fun u hu => ?_⟩
    rw [List.mem_singleton] at hu
    rw [hu]; exact hl
set_option maxHeartbeats 1000000 in
theorem check_any (v : Value) (l : Rules) (w : World) (hr : Rows w v sufF l) (hm : l.length ≤ maxLen) (hok : ∀ r ∈ l, okR r) :
    Calls Tryd.prog 16 #[v] w fun e w' => e = .returned (.int .i64 (sufE l)) ∧ Below w.heap.size w w' := by
  have HR : Hid _ := hr
  have HM : Hid _ := hm
  have HK : Hid _ := hok
  clear hr hm hok
  go_enter Tryd.func16, Tryd.ntmps16
  go_wp2_with fail
  refine (lay_any _ l _ HR.out HM.out HK.out).mono ?_
  rintro e w1 ⟨rfl, _, hb1⟩
  go_wp2_with fail
  go_ret
  exact ⟨rfl, hb1⟩
set_option maxHeartbeats 2000000 in
theorem find_bad (v : Value) (l : Rules) (h : ByteArray) (w : World) (hr : Rows w v sufF l) (hm : l.length ≤ maxLen) (hok : ∀ r ∈ l, okR r) (hh : h.size ≤ maxLen) (he : pubE l h.data.toList ≠ 0) :
    Calls Tryd.prog 64 #[v, .string h] w fun e w' => e = .returned (.tuple #[.slice none 0 0, .int .i64 0, .int .i64 (pubE l h.data.toList)]) ∧ Below w.heap.size w w' := by
  have HR : Hid _ := hr
  have HM : Hid _ := hm
  have HK : Hid _ := hok
  have HH : Hid _ := hh
  clear hr hm hok hh
  by_cases h0 : sufE l = 0
  · have hc : canB h.data.toList = false := by
      cases hc : canB h.data.toList
      · rfl
      · exact absurd (by unfold pubE; rw [if_pos h0, hc]; rfl) he
    have HE : Hid (pubE l h.data.toList = 1) := by unfold pubE; rw [if_pos h0, hc]; exact rfl
    have H0 : Hid _ := h0
    have HC : Hid _ := hc
    have HLM : Hid _ := layM_ok h0 w.heap.size
    clear h0 hc he
    go_enter Tryd.func64, Tryd.ntmps64
    go_wp2_with fail
    refine (lay_any _ l _ HR.out HM.out HK.out).mono ?_
    rw [H0.out, HLM.out]
    rintro e w1 ⟨rfl, _, hb1⟩
    go_wp2_with fail
    refine (canonical_any _ _ HH.out).mono ?_
    rw [HC.out]
    rintro e w2 ⟨rfl, hb2⟩
    go_wp2_with fail
    go_ret3
    refine ⟨?_, next hb1 hb2⟩
    rw [HE.out]; rfl
  · have HE : Hid (pubE l h.data.toList = sufE l) := if_neg h0
    obtain ⟨E, hE⟩ : ∃ E, E = sufE l := ⟨_, rfl⟩
    have HLM : Hid _ := layM_bad h0 w.heap.size
    rw [← hE] at h0 HE
    have h0b : (E != 0) = true := by rw [bne_iff_ne]; exact h0
    have HX : Hid _ := hE
    clear h0 hE he
    go_enter Tryd.func64, Tryd.ntmps64
    go_wp2_with fail
    refine (lay_any _ l _ HR.out HM.out HK.out).mono ?_
    rw [← HX.out, HLM.out]
    rintro e w1 ⟨rfl, _, hb1⟩
    go_wp2_with fail
    go_ret3
    refine ⟨?_, hb1⟩
    rw [HE.out]; rfl
set_option maxHeartbeats 2000000 in
theorem find_ok (v : Value) (l : Rules) (h : ByteArray) (a : Nat) (w : World) (hr : Rows w v sufF l) (hm : l.length ≤ maxLen) (hok : ∀ r ∈ l, okR r) (hh : h.size ≤ maxLen) (h0 : sufE l = 0) (hc : canB h.data.toList = true) (ha : PubAt l (upsL h.data.toList) a) :
    Calls Tryd.prog 64 #[v, .string h] w fun e w' => ∃ u, e = .returned (.tuple #[u, .int .i64 (a : Int), .int .i64 0]) ∧ Reads w' u (upsL h.data.toList).length (strs (upsL h.data.toList)) ∧ Below w.heap.size w w' := by
  obtain ⟨f1, f2, f3⟩ := upsL_facts _ hc
  have hl : h.size ≤ 253 := can_len _ hc
  have HR : Hid _ := hr
  have HM : Hid _ := hm
  have HK : Hid _ := hok
  have HH : Hid _ := hh
  have H0 : Hid _ := h0
  have HC : Hid _ := hc
  have HA : Hid _ := ha
  have F1 : Hid ((upsL h.data.toList).length ≤ 1000) := Nat.le_trans f1 (by decide)
  have F2 : Hid _ := f2
  have F3 : Hid _ := f3
  have HW : Hid ((h.size + 1) * 16 ≤ 140737488355328) := by show _ ≤ _; omega
  have HLM : Hid _ := layM_ok h0 w.heap.size
  clear hr hm hok hh h0 hc ha f1 f2 f3 hl
  go_enter Tryd.func64, Tryd.ntmps64
  go_wp2_with fail
  refine (lay_any _ l _ HR.out HM.out HK.out).mono ?_
  rw [H0.out, HLM.out]
  rintro e w1 ⟨rfl, hok1, hb1⟩
  have hh1 := hok1 H0.out
  clear hok1
  go_wp2_with fail
  refine (canonical_any _ _ HH.out).mono ?_
  rw [HC.out]
  rintro e w2 ⟨rfl, hb2⟩
  have hh2 := hh1.below hb2 (Nat.le_refl _)
  go_wp2_with fail
  refine (ups_any _ _ HW.out).mono ?_
  rintro e w3 ⟨u, rfl, hown, hb3⟩
  have hh3 := hh2.below hb3 (Nat.le_refl _)
  have hrd := Reads.of_own hown
  clear hown
  go_wp2_with fail
  refine (public_any _ l u _ a _ hh3 hrd F1.out F2.out F3.out HA.out).mono ?_
  rintro e w4 ⟨rfl, hb4⟩
  go_wp2_with fail
  go_ret3
  exact ⟨u, rfl, hrd.below hb4 (Nat.le_refl _), next (next (next hb1 hb2) hb3) hb4⟩
end Go.Proofs.YtgjjkieljdamfafDoor
