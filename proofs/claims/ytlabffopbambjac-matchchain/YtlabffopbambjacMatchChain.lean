/- MatchChain: for every three texts, of two domains that a host matches one matches the other if neither is an address, and a host's ups are just what it matches among hosts; the texts read as they did. No condition. -/
import Derived.Test.YtlabffopbambjacHostE
import Derived.Test.YtlabffopbambjacKit3
import Derived.Test.YtlabffopbambjacOpen
namespace Go.Proofs.Ytlabffopbambjac.matchChain
open Go.ChangeShapes Go.WideShapes Go.ChangeAt Go.RowKit
open Go.ChangeMaps (open_string shut_string)
set_option linter.all false

theorem match_iff (a b : List UInt8) : matchL a b = true ↔ a = b ∨ ((∃ x, a = x ++ 46 :: b) ∧ addrL a = false) := by
  unfold matchL
  simp only [Bool.or_eq_true, beq_iff_eq, Bool.and_eq_true, Bool.not_eq_true']
  have e : Lib.hasSuffix a (46 :: b) = true ↔ ∃ x, a = x ++ 46 :: b := by
    unfold Lib.hasSuffix
    rw [List.isSuffixOf_iff_suffix]
    exact ⟨fun ⟨x, hx⟩ => ⟨x, hx.symm⟩, fun ⟨x, hx⟩ => ⟨x, hx.symm⟩⟩
  rw [e]
/-- of two ends the longer one has the shorter one -/
theorem end_two (a b x y : List UInt8) (h : x ++ 46 :: a = y ++ 46 :: b) (hl : a.length ≤ b.length) : a = b ∨ ∃ z, b = z ++ 46 :: a := by
  induction y generalizing x with
  | nil =>
    cases x with
    | nil =>
      simp only [List.nil_append, List.cons.injEq, true_and] at h
      exact .inl h
    | cons c x =>
      simp only [List.cons_append, List.nil_append, List.cons.injEq] at h
      exact .inr ⟨x, h.2.symm⟩
  | cons d y ih =>
    cases x with
    | nil =>
      have := congrArg List.length h
      simp only [List.nil_append, List.length_cons, List.length_append, List.cons_append] at this
      omega
    | cons c x =>
      simp only [List.cons_append, List.cons.injEq] at h
      exact ih x h.2
theorem chain_two (h a b : List UInt8) (h1 : matchL h a = true) (h2 : matchL h b = true) (ha : addrL a = false) (hb : addrL b = false) (h3 : matchL a b = false) (h4 : matchL b a = false) : False := by
  rcases (match_iff h a).1 h1 with rfl | ⟨⟨x, hx⟩, _⟩
  · rw [h2] at h3; cases h3
  · rcases (match_iff h b).1 h2 with rfl | ⟨⟨y, hy⟩, _⟩
    · rw [h1] at h4; cases h4
    · rcases Nat.le_total a.length b.length with hl | hl
      · have : matchL b a = true := (match_iff b a).2 (by
          rcases end_two a b x y (by rw [← hx, ← hy]) hl with rfl | hz
          · exact .inl rfl
          · exact .inr ⟨hz, hb⟩)
        rw [this] at h4; cases h4
      · have : matchL a b = true := (match_iff a b).2 (by
          rcases end_two b a y x (by rw [← hx, ← hy]) hl with rfl | hz
          · exact .inl rfl
          · exact .inr ⟨hz, ha⟩)
        rw [this] at h3; cases h3
theorem tails_mem (h a : List UInt8) : a ∈ tailsL h ↔ ∃ x, h = x ++ 46 :: a := by
  induction h with
  | nil =>
    constructor
    · intro h; cases h
    · rintro ⟨x, hx⟩
      have := congrArg List.length hx
      simp at this
  | cons c h ih =>
    show a ∈ (if c = 46 then _ else _) ↔ _
    by_cases hc : c = 46
    · subst hc
      rw [if_pos rfl, List.mem_cons, ih]
      constructor
      · rintro (rfl | ⟨x, rfl⟩)
        · exact ⟨[], rfl⟩
        · exact ⟨46 :: x, rfl⟩
      · rintro ⟨x, hx⟩
        cases x with
        | nil =>
          simp only [List.nil_append, List.cons.injEq, true_and] at hx
          exact .inl hx.symm
        | cons d x =>
          simp only [List.cons_append, List.cons.injEq] at hx
          exact .inr ⟨x, hx.2⟩
    · rw [if_neg hc, ih]
      constructor
      · rintro ⟨x, rfl⟩
        exact ⟨c :: x, rfl⟩
      · rintro ⟨x, hx⟩
        cases x with
        | nil =>
          simp only [List.nil_append, List.cons.injEq] at hx
          exact absurd hx.1 hc
        | cons d x =>
          simp only [List.cons_append, List.cons.injEq] at hx
          exact ⟨x, hx.2⟩
def isIn (l : List (List UInt8)) (a : List UInt8) : Bool := l.contains a
theorem ups_in (h a : List UInt8) (hn : h ≠ []) : isIn (upsL h) a = matchL h a := by
  unfold isIn
  rw [Bool.eq_iff_iff, List.contains_iff_mem, match_iff]
  unfold upsL
  rw [if_neg hn]
  cases ha : addrL h
  · simp only [Bool.false_eq_true, if_false, List.mem_cons, tails_mem, and_true]
    exact ⟨fun hh => hh.elim (fun e => .inl e.symm) .inr, fun hh => hh.elim (fun e => .inl e.symm) .inr⟩
  · simp only [if_true, List.mem_singleton, Bool.true_eq_false, and_false, or_false]
    exact eq_comm
theorem isIn_take (l : List (List UInt8)) (a x : List UInt8) (k : Nat) (hk : l[k]? = some x) : isIn (l.take (k + 1)) a = (isIn (l.take k) a || (x == a)) := by
  unfold isIn
  obtain ⟨hl, hx⟩ := List.getElem?_eq_some_iff.1 hk
  rw [List.take_succ_eq_append_getElem hl, hx, List.contains_append]
  congr 1
  rw [Bool.eq_iff_iff, List.contains_iff_mem, beq_iff_eq, List.mem_singleton]
  exact eq_comm
theorem canon_ok (l : List UInt8) (h : canonE l = 0) : l.length ≤ 253 ∧ foldL l ≠ [] := by
  unfold canonE at h
  by_cases h1 : l.length ≤ 253
  · refine ⟨h1, fun e => ?_⟩
    rw [if_pos h1] at h
    have : l = [] := by
      have := congrArg List.length e
      simp [foldL] at this
      exact this
    subst this
    revert h
    decide +kernel
  · rw [if_neg h1] at h; cases h
theorem ups_len (l : List UInt8) : (upsL l).length ≤ l.length + 1 := by
  have h := tails_len l
  unfold upsL
  split
  · simp
  · split
    · simp
    · simp only [List.length_cons]; omega
set_option maxHeartbeats 4000000 in
theorem walk (h a b : ByteArray) (w : World) (hh : h.size ≤ 140737488351232) (ha : a.size ≤ 140737488351232) (hb : b.size ≤ 140737488351232) :
    Calls Try.prog 6 #[.string h, .string a, .string b] w fun e w' => e = .returned (.bool true) ∧ Below w.heap.size w w' := by
  have HH : Hid (h.size ≤ maxLen) := by unfold maxLen; show _ ≤ _; omega
  have HA : Hid (a.size ≤ maxLen) := by unfold maxLen; show _ ≤ _; omega
  have HB : Hid (b.size ≤ maxLen) := by unfold maxLen; show _ ≤ _; omega
  have HA1 : Hid (a.size < maxLen) := by unfold maxLen; show _ < _; omega
  have HB1 : Hid (b.size < maxLen) := by unfold maxLen; show _ < _; omega
  have FACT : Hid _ := chain_two h.data.toList a.data.toList b.data.toList
  have hlh : h.data.toList.length = h.size := rfl
  have hla : a.data.toList.length = a.size := rfl
  have OKH : Hid _ := canon_ok h.data.toList
  have OKA : Hid _ := canon_ok a.data.toList
  obtain ⟨m1, e1⟩ : ∃ x, matchL h.data.toList a.data.toList = x := ⟨_, rfl⟩
  obtain ⟨m2, e2⟩ : ∃ x, matchL h.data.toList b.data.toList = x := ⟨_, rfl⟩
  obtain ⟨d1, e3⟩ : ∃ x, addrL a.data.toList = x := ⟨_, rfl⟩
  obtain ⟨d2, e4⟩ : ∃ x, addrL b.data.toList = x := ⟨_, rfl⟩
  obtain ⟨m3, e5⟩ : ∃ x, matchL a.data.toList b.data.toList = x := ⟨_, rfl⟩
  obtain ⟨m4, e6⟩ : ∃ x, matchL b.data.toList a.data.toList = x := ⟨_, rfl⟩
  have M1 : Hid _ := e1
  have M2 : Hid _ := e2
  have D1 : Hid _ := e3
  have D2 : Hid _ := e4
  have M3 : Hid _ := e5
  have M4 : Hid _ := e6
  clear e1 e2 e3 e4 e5 e6
  obtain ⟨Eh, hEh⟩ : ∃ E, canonE h.data.toList = E := ⟨_, rfl⟩
  obtain ⟨Ea, hEa⟩ : ∃ E, canonE a.data.toList = E := ⟨_, rfl⟩
  rw [hEh] at OKH
  rw [hEa] at OKA
  have EH : Hid _ := hEh
  have EA : Hid _ := hEa
  have LH : Hid _ := hlh
  have LA : Hid _ := hla
  clear hEh hEa hlh hla
  cases m1
  · skip
    go_enter Try.func6, Try.ntmps6
    go_wp2_with fail
    refine (hostBegun_any _).mono ?_
    rintro e w0 ⟨rfl, g0⟩
    go_wp2_with fail
    refine (match_any _ _ _ HH.out HA1.out).mono ?_
    rw [M1.out]
    rintro e w1 ⟨rfl, hb1⟩
    have g1 := next g0 hb1
    have gp : Below w.heap.size w w1 := g1
    clear g0 g1 hb1
    by_cases c1 : Eh = 0
    · subst c1
      obtain ⟨z1, z2⟩ := OKH.out rfl
      have z1' : h.size ≤ 253 := z1
      have NE : Hid _ := z2
      clear z1 z2
      by_cases c2 : Ea = 0
      · subst c2
        have z3' : a.size ≤ 253 := (OKA.out rfl).1
        have hfs : (txt (foldL h.data.toList)).size = h.size := by rw [txt_size]; simp [foldL]
        have hfa : (txt (foldL a.data.toList)).size = a.size := by rw [txt_size]; simp [foldL]
        have HM : Hid (((txt (foldL h.data.toList)).size + 1) * 16 ≤ 140737488355328) := by show _ ≤ _; omega
        have HF : Hid ((txt (foldL h.data.toList)).size ≤ maxLen) := by show _ ≤ _; rw [hfs]; exact HH.out
        have HG : Hid ((txt (foldL a.data.toList)).size < maxLen) := by show _ < _; rw [hfa]; exact HA1.out
        have hul : (upsL (foldL h.data.toList)).length ≤ 254 := by
          have h1 := ups_len (foldL h.data.toList)
          have h2 : (foldL h.data.toList).length = h.size := hfs
          omega
        have UI : Hid (isIn (upsL (foldL h.data.toList)) (foldL a.data.toList) = matchL (foldL h.data.toList) (foldL a.data.toList)) := ups_in _ _ NE.out
        clear hfs hfa
        obtain ⟨fa, hfa⟩ : ∃ x, foldL a.data.toList = x := ⟨_, rfl⟩
        obtain ⟨fh, hfh⟩ : ∃ x, foldL h.data.toList = x := ⟨_, rfl⟩
        rw [hfa] at UI HG
        rw [hfh] at UI HM HF hul
        have FA : Hid _ := hfa
        have FH : Hid _ := hfh
        clear hfa hfh
        go_wp2_with fail
        refine (canon_any _ _ HH.out).mono ?_
        rw [EH.out]
        rintro e w7 ⟨rfl, hb7⟩
        go_wp2_with fail
        refine (canon_any _ _ HA.out).mono ?_
        rw [EA.out]
        rintro e w8 ⟨rfl, hb8⟩
        go_wp2_with fail
        refine (foldOf_any _ _ HH.out).mono ?_
        rw [FH.out]
        rintro e w9 ⟨rfl, hb9⟩
        go_wp2_with fail
        refine (ups_any _ _ HM.out).mono ?_
        rw [txt_toList]
        rintro e w10 ⟨v10, rfl, hown, hb10⟩
        have g10 := next (next (next (next gp hb7) hb8) hb9) hb10
        have rd := Reads.of_own hown
        clear gp hb7 hb8 hb9 hb10 hown
        obtain ⟨us, hus⟩ : ∃ us, us = upsL fh := ⟨_, rfl⟩
        rw [← hus] at UI hul rd
        clear hus
        obtain ⟨ad, cap, rfl, hr⟩ := rd
        go_wp2_with fail
        go_loopw [11, 13] (fun fv iv wr => ∃ k : Nat, k ≤ us.length ∧ iv = .int .i64 k ∧ fv = .bool (isIn (us.take k) fa) ∧ Below w10.heap.size w10 wr) (fun _ iv _ => us.length - (intOf iv).toNat)
        case atStart => exact ⟨0, Nat.zero_le _, rfl, rfl, Below.refl _ _⟩
        case round =>
          obtain ⟨k, hk, rfl, rfl, hbl⟩ := hrel
          by_cases hlt : k < us.length
          · have e1 := List.getElem?_eq_getElem hlt
            obtain ⟨x, hx⟩ : ∃ x, x = us[k] := ⟨_, rfl⟩
            rw [← hx] at e1
            rcases hr with hr | ⟨bl, ol, rfl, hr⟩
            · have : (strs us).length = us.length := strs_length us
              rw [hr] at this; simp at this; omega
            have hc0 := hr k _ (strs_get e1)
            have IT : Hid _ := isIn_take us fa x k e1
            have hc1 : wr.cell? ⟨bl, ol + k, none⟩ = some (.string (txt x)) := (hbl.cell (p := ⟨bl, ol + k, none⟩) (cell_in hc0)).trans hc0
            have ne : Nonempty (Ext wr) := ⟨Ext.of wr (Below.refl _ _)⟩
            have xc := Ext.cell hc1
            have FO : Hid (∀ W : World, Calls Try.prog 17 #[.string a] W fun e w' => e = .returned (.string (txt fa)) ∧ Below W.heap.size W w') := fun W => by
              have h := foldOf_any a W HA.out
              rw [FA.out] at h; exact h
            clear hr hx e1 hc0
            obtain ⟨fo, hfo⟩ : ∃ x, isIn (us.take k) fa = x := ⟨_, rfl⟩
            rw [hfo] at IT ⊢
            clear hfo
            cases fo
            · by_cases hq : x = fa
              · have hqe : ((txt x).toList == (txt fa).toList) = true := by rw [hq]; simp
                have IT2 : Hid (isIn (us.take (k + 1)) fa = true) := by show _ = _; rw [IT.out, hq]; simp
                clear hq IT
                go_wp2_with fail
                refine wp_region_ext (by kernel_rfl) (by kernel_rfl) ?_
                repeat (go_big_quiet_step ((go_at_call 17; exact ext_call (FO.out _))))
                refine wpQuiet_nil ?_
                intro w11 hw11
                obtain ⟨x, rfl⟩ := hw11
                go_wp2_with fail
                go_roundw
                case rel => exact ⟨k + 1, by omega, by go_num, by rw [IT2.out], next hbl x.2⟩
                case measure => simp [intOf]; omega
              · have hqe : ((txt x).toList == (txt fa).toList) = false := by
                  rw [beq_eq_false_iff_ne, Lib.toList_data, Lib.toList_data]; exact hq
                have IT2 : Hid (isIn (us.take (k + 1)) fa = false) := by show _ = _; rw [IT.out, beq_eq_false_iff_ne.2 hq]; rfl
                clear hq IT
                go_wp2_with fail
                refine wp_region_ext (by kernel_rfl) (by kernel_rfl) ?_
                repeat (go_big_quiet_step ((go_at_call 17; exact ext_call (FO.out _))))
                refine wpQuiet_nil ?_
                intro w11 hw11
                obtain ⟨x, rfl⟩ := hw11
                go_wp2_with fail
                go_roundw
                case rel => exact ⟨k + 1, by omega, by go_num, by rw [IT2.out], next hbl x.2⟩
                case measure => simp [intOf]; omega
            · have IT2 : Hid (isIn (us.take (k + 1)) fa = true) := by show _ = _; rw [IT.out]; rfl
              clear IT
              go_wp2_with fail
              refine wp_region_ext (by kernel_rfl) (by kernel_rfl) ?_
              repeat (go_big_quiet_step ((go_at_call 17; exact ext_call (FO.out _))))
              refine wpQuiet_nil ?_
              intro w11 hw11
              obtain ⟨x, rfl⟩ := hw11
              go_wp2_with fail
              go_roundw
              case rel => exact ⟨k + 1, by omega, by go_num, by rw [IT2.out], next hbl x.2⟩
              case measure => simp [intOf]; omega
          · have HT : Hid (us.take k = us) := List.take_of_length_le (by omega)
            rw [HT.out, UI.out]
            clear hr
            go_wp2_with fail
            refine (foldOf_any _ _ HH.out).mono ?_
            rw [FH.out]
            rintro e w12 ⟨rfl, hb12⟩
            go_wp2_with fail
            refine (foldOf_any _ _ HA.out).mono ?_
            rw [FA.out]
            rintro e w13 ⟨rfl, hb13⟩
            go_wp2_with fail
            refine (match_any _ _ _ HF.out HG.out).mono ?_
            rw [txt_toList, txt_toList]
            rintro e w14 ⟨rfl, hb14⟩
            go_wp2_with fail
            go_ret
            refine ⟨?_, next (next (next (next g10 hbl) hb12) hb13) hb14⟩
            rfl
      · have c2b : (Ea == 0) = false := by rw [beq_eq_false_iff_ne]; exact c2
        clear c2
        go_wp2_with fail
        refine (canon_any _ _ HH.out).mono ?_
        rw [EH.out]
        rintro e w7 ⟨rfl, hb7⟩
        go_wp2_with fail
        refine (canon_any _ _ HA.out).mono ?_
        rw [EA.out]
        rintro e w8 ⟨rfl, hb8⟩
        go_wp2_with fail
        go_ret
        exact ⟨rfl, next (next gp hb7) hb8⟩
    · have c1b : (Eh == 0) = false := by rw [beq_eq_false_iff_ne]; exact c1
      clear c1
      go_wp2_with fail
      refine (canon_any _ _ HH.out).mono ?_
      rw [EH.out]
      rintro e w7 ⟨rfl, hb7⟩
      go_wp2_with fail
      refine (canon_any _ _ HA.out).mono ?_
      rw [EA.out]
      rintro e w8 ⟨rfl, hb8⟩
      go_wp2_with fail
      go_ret
      exact ⟨rfl, next (next gp hb7) hb8⟩
  · skip
    cases m2
    · skip
      go_enter Try.func6, Try.ntmps6
      go_wp2_with fail
      refine (hostBegun_any _).mono ?_
      rintro e w0 ⟨rfl, g0⟩
      go_wp2_with fail
      refine (match_any _ _ _ HH.out HA1.out).mono ?_
      rw [M1.out]
      rintro e w1 ⟨rfl, hb1⟩
      have g1 := next g0 hb1
      go_wp2_with fail
      refine (match_any _ _ _ HH.out HB1.out).mono ?_
      rw [M2.out]
      rintro e w2 ⟨rfl, hb2⟩
      have g2 := next g1 hb2
      have gp : Below w.heap.size w w2 := g2
      clear g0 g1 hb1 g2 hb2
      by_cases c1 : Eh = 0
      · subst c1
        obtain ⟨z1, z2⟩ := OKH.out rfl
        have z1' : h.size ≤ 253 := z1
        have NE : Hid _ := z2
        clear z1 z2
        by_cases c2 : Ea = 0
        · subst c2
          have z3' : a.size ≤ 253 := (OKA.out rfl).1
          have hfs : (txt (foldL h.data.toList)).size = h.size := by rw [txt_size]; simp [foldL]
          have hfa : (txt (foldL a.data.toList)).size = a.size := by rw [txt_size]; simp [foldL]
          have HM : Hid (((txt (foldL h.data.toList)).size + 1) * 16 ≤ 140737488355328) := by show _ ≤ _; omega
          have HF : Hid ((txt (foldL h.data.toList)).size ≤ maxLen) := by show _ ≤ _; rw [hfs]; exact HH.out
          have HG : Hid ((txt (foldL a.data.toList)).size < maxLen) := by show _ < _; rw [hfa]; exact HA1.out
          have hul : (upsL (foldL h.data.toList)).length ≤ 254 := by
            have h1 := ups_len (foldL h.data.toList)
            have h2 : (foldL h.data.toList).length = h.size := hfs
            omega
          have UI : Hid (isIn (upsL (foldL h.data.toList)) (foldL a.data.toList) = matchL (foldL h.data.toList) (foldL a.data.toList)) := ups_in _ _ NE.out
          clear hfs hfa
          obtain ⟨fa, hfa⟩ : ∃ x, foldL a.data.toList = x := ⟨_, rfl⟩
          obtain ⟨fh, hfh⟩ : ∃ x, foldL h.data.toList = x := ⟨_, rfl⟩
          rw [hfa] at UI HG
          rw [hfh] at UI HM HF hul
          have FA : Hid _ := hfa
          have FH : Hid _ := hfh
          clear hfa hfh
          go_wp2_with fail
          refine (canon_any _ _ HH.out).mono ?_
          rw [EH.out]
          rintro e w7 ⟨rfl, hb7⟩
          go_wp2_with fail
          refine (canon_any _ _ HA.out).mono ?_
          rw [EA.out]
          rintro e w8 ⟨rfl, hb8⟩
          go_wp2_with fail
          refine (foldOf_any _ _ HH.out).mono ?_
          rw [FH.out]
          rintro e w9 ⟨rfl, hb9⟩
          go_wp2_with fail
          refine (ups_any _ _ HM.out).mono ?_
          rw [txt_toList]
          rintro e w10 ⟨v10, rfl, hown, hb10⟩
          have g10 := next (next (next (next gp hb7) hb8) hb9) hb10
          have rd := Reads.of_own hown
          clear gp hb7 hb8 hb9 hb10 hown
          obtain ⟨us, hus⟩ : ∃ us, us = upsL fh := ⟨_, rfl⟩
          rw [← hus] at UI hul rd
          clear hus
          obtain ⟨ad, cap, rfl, hr⟩ := rd
          go_wp2_with fail
          go_loopw [11, 13] (fun fv iv wr => ∃ k : Nat, k ≤ us.length ∧ iv = .int .i64 k ∧ fv = .bool (isIn (us.take k) fa) ∧ Below w10.heap.size w10 wr) (fun _ iv _ => us.length - (intOf iv).toNat)
          case atStart => exact ⟨0, Nat.zero_le _, rfl, rfl, Below.refl _ _⟩
          case round =>
            obtain ⟨k, hk, rfl, rfl, hbl⟩ := hrel
            by_cases hlt : k < us.length
            · have e1 := List.getElem?_eq_getElem hlt
              obtain ⟨x, hx⟩ : ∃ x, x = us[k] := ⟨_, rfl⟩
              rw [← hx] at e1
              rcases hr with hr | ⟨bl, ol, rfl, hr⟩
              · have : (strs us).length = us.length := strs_length us
                rw [hr] at this; simp at this; omega
              have hc0 := hr k _ (strs_get e1)
              have IT : Hid _ := isIn_take us fa x k e1
              have hc1 : wr.cell? ⟨bl, ol + k, none⟩ = some (.string (txt x)) := (hbl.cell (p := ⟨bl, ol + k, none⟩) (cell_in hc0)).trans hc0
              have ne : Nonempty (Ext wr) := ⟨Ext.of wr (Below.refl _ _)⟩
              have xc := Ext.cell hc1
              have FO : Hid (∀ W : World, Calls Try.prog 17 #[.string a] W fun e w' => e = .returned (.string (txt fa)) ∧ Below W.heap.size W w') := fun W => by
                have h := foldOf_any a W HA.out
                rw [FA.out] at h; exact h
              clear hr hx e1 hc0
              obtain ⟨fo, hfo⟩ : ∃ x, isIn (us.take k) fa = x := ⟨_, rfl⟩
              rw [hfo] at IT ⊢
              clear hfo
              cases fo
              · by_cases hq : x = fa
                · have hqe : ((txt x).toList == (txt fa).toList) = true := by rw [hq]; simp
                  have IT2 : Hid (isIn (us.take (k + 1)) fa = true) := by show _ = _; rw [IT.out, hq]; simp
                  clear hq IT
                  go_wp2_with fail
                  refine wp_region_ext (by kernel_rfl) (by kernel_rfl) ?_
                  repeat (go_big_quiet_step ((go_at_call 17; exact ext_call (FO.out _))))
                  refine wpQuiet_nil ?_
                  intro w11 hw11
                  obtain ⟨x, rfl⟩ := hw11
                  go_wp2_with fail
                  go_roundw
                  case rel => exact ⟨k + 1, by omega, by go_num, by rw [IT2.out], next hbl x.2⟩
                  case measure => simp [intOf]; omega
                · have hqe : ((txt x).toList == (txt fa).toList) = false := by
                    rw [beq_eq_false_iff_ne, Lib.toList_data, Lib.toList_data]; exact hq
                  have IT2 : Hid (isIn (us.take (k + 1)) fa = false) := by show _ = _; rw [IT.out, beq_eq_false_iff_ne.2 hq]; rfl
                  clear hq IT
                  go_wp2_with fail
                  refine wp_region_ext (by kernel_rfl) (by kernel_rfl) ?_
                  repeat (go_big_quiet_step ((go_at_call 17; exact ext_call (FO.out _))))
                  refine wpQuiet_nil ?_
                  intro w11 hw11
                  obtain ⟨x, rfl⟩ := hw11
                  go_wp2_with fail
                  go_roundw
                  case rel => exact ⟨k + 1, by omega, by go_num, by rw [IT2.out], next hbl x.2⟩
                  case measure => simp [intOf]; omega
              · have IT2 : Hid (isIn (us.take (k + 1)) fa = true) := by show _ = _; rw [IT.out]; rfl
                clear IT
                go_wp2_with fail
                refine wp_region_ext (by kernel_rfl) (by kernel_rfl) ?_
                repeat (go_big_quiet_step ((go_at_call 17; exact ext_call (FO.out _))))
                refine wpQuiet_nil ?_
                intro w11 hw11
                obtain ⟨x, rfl⟩ := hw11
                go_wp2_with fail
                go_roundw
                case rel => exact ⟨k + 1, by omega, by go_num, by rw [IT2.out], next hbl x.2⟩
                case measure => simp [intOf]; omega
            · have HT : Hid (us.take k = us) := List.take_of_length_le (by omega)
              rw [HT.out, UI.out]
              clear hr
              go_wp2_with fail
              refine (foldOf_any _ _ HH.out).mono ?_
              rw [FH.out]
              rintro e w12 ⟨rfl, hb12⟩
              go_wp2_with fail
              refine (foldOf_any _ _ HA.out).mono ?_
              rw [FA.out]
              rintro e w13 ⟨rfl, hb13⟩
              go_wp2_with fail
              refine (match_any _ _ _ HF.out HG.out).mono ?_
              rw [txt_toList, txt_toList]
              rintro e w14 ⟨rfl, hb14⟩
              go_wp2_with fail
              go_ret
              refine ⟨?_, next (next (next (next g10 hbl) hb12) hb13) hb14⟩
              rfl
        · have c2b : (Ea == 0) = false := by rw [beq_eq_false_iff_ne]; exact c2
          clear c2
          go_wp2_with fail
          refine (canon_any _ _ HH.out).mono ?_
          rw [EH.out]
          rintro e w7 ⟨rfl, hb7⟩
          go_wp2_with fail
          refine (canon_any _ _ HA.out).mono ?_
          rw [EA.out]
          rintro e w8 ⟨rfl, hb8⟩
          go_wp2_with fail
          go_ret
          exact ⟨rfl, next (next gp hb7) hb8⟩
      · have c1b : (Eh == 0) = false := by rw [beq_eq_false_iff_ne]; exact c1
        clear c1
        go_wp2_with fail
        refine (canon_any _ _ HH.out).mono ?_
        rw [EH.out]
        rintro e w7 ⟨rfl, hb7⟩
        go_wp2_with fail
        refine (canon_any _ _ HA.out).mono ?_
        rw [EA.out]
        rintro e w8 ⟨rfl, hb8⟩
        go_wp2_with fail
        go_ret
        exact ⟨rfl, next (next gp hb7) hb8⟩
    · skip
      cases d1
      · skip
        cases d2
        · skip
          cases m3
          · skip
            cases m4
            · skip
              exact absurd (FACT.out M1.out M2.out D1.out D2.out M3.out M4.out) id
            · skip
              go_enter Try.func6, Try.ntmps6
              go_wp2_with fail
              refine (hostBegun_any _).mono ?_
              rintro e w0 ⟨rfl, g0⟩
              go_wp2_with fail
              refine (match_any _ _ _ HH.out HA1.out).mono ?_
              rw [M1.out]
              rintro e w1 ⟨rfl, hb1⟩
              have g1 := next g0 hb1
              go_wp2_with fail
              refine (match_any _ _ _ HH.out HB1.out).mono ?_
              rw [M2.out]
              rintro e w2 ⟨rfl, hb2⟩
              have g2 := next g1 hb2
              go_wp2_with fail
              refine (address_any _ _ HA.out).mono ?_
              rw [D1.out]
              rintro e w3 ⟨rfl, hb3⟩
              have g3 := next g2 hb3
              go_wp2_with fail
              refine (address_any _ _ HB.out).mono ?_
              rw [D2.out]
              rintro e w4 ⟨rfl, hb4⟩
              have g4 := next g3 hb4
              go_wp2_with fail
              refine (match_any _ _ _ HA.out HB1.out).mono ?_
              rw [M3.out]
              rintro e w5 ⟨rfl, hb5⟩
              have g5 := next g4 hb5
              go_wp2_with fail
              refine (match_any _ _ _ HB.out HA1.out).mono ?_
              rw [M4.out]
              rintro e w6 ⟨rfl, hb6⟩
              have g6 := next g5 hb6
              have gp : Below w.heap.size w w6 := g6
              clear g0 g1 hb1 g2 hb2 g3 hb3 g4 hb4 g5 hb5 g6 hb6
              by_cases c1 : Eh = 0
              · subst c1
                obtain ⟨z1, z2⟩ := OKH.out rfl
                have z1' : h.size ≤ 253 := z1
                have NE : Hid _ := z2
                clear z1 z2
                by_cases c2 : Ea = 0
                · subst c2
                  have z3' : a.size ≤ 253 := (OKA.out rfl).1
                  have hfs : (txt (foldL h.data.toList)).size = h.size := by rw [txt_size]; simp [foldL]
                  have hfa : (txt (foldL a.data.toList)).size = a.size := by rw [txt_size]; simp [foldL]
                  have HM : Hid (((txt (foldL h.data.toList)).size + 1) * 16 ≤ 140737488355328) := by show _ ≤ _; omega
                  have HF : Hid ((txt (foldL h.data.toList)).size ≤ maxLen) := by show _ ≤ _; rw [hfs]; exact HH.out
                  have HG : Hid ((txt (foldL a.data.toList)).size < maxLen) := by show _ < _; rw [hfa]; exact HA1.out
                  have hul : (upsL (foldL h.data.toList)).length ≤ 254 := by
                    have h1 := ups_len (foldL h.data.toList)
                    have h2 : (foldL h.data.toList).length = h.size := hfs
                    omega
                  have UI : Hid (isIn (upsL (foldL h.data.toList)) (foldL a.data.toList) = matchL (foldL h.data.toList) (foldL a.data.toList)) := ups_in _ _ NE.out
                  clear hfs hfa
                  obtain ⟨fa, hfa⟩ : ∃ x, foldL a.data.toList = x := ⟨_, rfl⟩
                  obtain ⟨fh, hfh⟩ : ∃ x, foldL h.data.toList = x := ⟨_, rfl⟩
                  rw [hfa] at UI HG
                  rw [hfh] at UI HM HF hul
                  have FA : Hid _ := hfa
                  have FH : Hid _ := hfh
                  clear hfa hfh
                  go_wp2_with fail
                  refine (canon_any _ _ HH.out).mono ?_
                  rw [EH.out]
                  rintro e w7 ⟨rfl, hb7⟩
                  go_wp2_with fail
                  refine (canon_any _ _ HA.out).mono ?_
                  rw [EA.out]
                  rintro e w8 ⟨rfl, hb8⟩
                  go_wp2_with fail
                  refine (foldOf_any _ _ HH.out).mono ?_
                  rw [FH.out]
                  rintro e w9 ⟨rfl, hb9⟩
                  go_wp2_with fail
                  refine (ups_any _ _ HM.out).mono ?_
                  rw [txt_toList]
                  rintro e w10 ⟨v10, rfl, hown, hb10⟩
                  have g10 := next (next (next (next gp hb7) hb8) hb9) hb10
                  have rd := Reads.of_own hown
                  clear gp hb7 hb8 hb9 hb10 hown
                  obtain ⟨us, hus⟩ : ∃ us, us = upsL fh := ⟨_, rfl⟩
                  rw [← hus] at UI hul rd
                  clear hus
                  obtain ⟨ad, cap, rfl, hr⟩ := rd
                  go_wp2_with fail
                  go_loopw [11, 13] (fun fv iv wr => ∃ k : Nat, k ≤ us.length ∧ iv = .int .i64 k ∧ fv = .bool (isIn (us.take k) fa) ∧ Below w10.heap.size w10 wr) (fun _ iv _ => us.length - (intOf iv).toNat)
                  case atStart => exact ⟨0, Nat.zero_le _, rfl, rfl, Below.refl _ _⟩
                  case round =>
                    obtain ⟨k, hk, rfl, rfl, hbl⟩ := hrel
                    by_cases hlt : k < us.length
                    · have e1 := List.getElem?_eq_getElem hlt
                      obtain ⟨x, hx⟩ : ∃ x, x = us[k] := ⟨_, rfl⟩
                      rw [← hx] at e1
                      rcases hr with hr | ⟨bl, ol, rfl, hr⟩
                      · have : (strs us).length = us.length := strs_length us
                        rw [hr] at this; simp at this; omega
                      have hc0 := hr k _ (strs_get e1)
                      have IT : Hid _ := isIn_take us fa x k e1
                      have hc1 : wr.cell? ⟨bl, ol + k, none⟩ = some (.string (txt x)) := (hbl.cell (p := ⟨bl, ol + k, none⟩) (cell_in hc0)).trans hc0
                      have ne : Nonempty (Ext wr) := ⟨Ext.of wr (Below.refl _ _)⟩
                      have xc := Ext.cell hc1
                      have FO : Hid (∀ W : World, Calls Try.prog 17 #[.string a] W fun e w' => e = .returned (.string (txt fa)) ∧ Below W.heap.size W w') := fun W => by
                        have h := foldOf_any a W HA.out
                        rw [FA.out] at h; exact h
                      clear hr hx e1 hc0
                      obtain ⟨fo, hfo⟩ : ∃ x, isIn (us.take k) fa = x := ⟨_, rfl⟩
                      rw [hfo] at IT ⊢
                      clear hfo
                      cases fo
                      · by_cases hq : x = fa
                        · have hqe : ((txt x).toList == (txt fa).toList) = true := by rw [hq]; simp
                          have IT2 : Hid (isIn (us.take (k + 1)) fa = true) := by show _ = _; rw [IT.out, hq]; simp
                          clear hq IT
                          go_wp2_with fail
                          refine wp_region_ext (by kernel_rfl) (by kernel_rfl) ?_
                          repeat (go_big_quiet_step ((go_at_call 17; exact ext_call (FO.out _))))
                          refine wpQuiet_nil ?_
                          intro w11 hw11
                          obtain ⟨x, rfl⟩ := hw11
                          go_wp2_with fail
                          go_roundw
                          case rel => exact ⟨k + 1, by omega, by go_num, by rw [IT2.out], next hbl x.2⟩
                          case measure => simp [intOf]; omega
                        · have hqe : ((txt x).toList == (txt fa).toList) = false := by
                            rw [beq_eq_false_iff_ne, Lib.toList_data, Lib.toList_data]; exact hq
                          have IT2 : Hid (isIn (us.take (k + 1)) fa = false) := by show _ = _; rw [IT.out, beq_eq_false_iff_ne.2 hq]; rfl
                          clear hq IT
                          go_wp2_with fail
                          refine wp_region_ext (by kernel_rfl) (by kernel_rfl) ?_
                          repeat (go_big_quiet_step ((go_at_call 17; exact ext_call (FO.out _))))
                          refine wpQuiet_nil ?_
                          intro w11 hw11
                          obtain ⟨x, rfl⟩ := hw11
                          go_wp2_with fail
                          go_roundw
                          case rel => exact ⟨k + 1, by omega, by go_num, by rw [IT2.out], next hbl x.2⟩
                          case measure => simp [intOf]; omega
                      · have IT2 : Hid (isIn (us.take (k + 1)) fa = true) := by show _ = _; rw [IT.out]; rfl
                        clear IT
                        go_wp2_with fail
                        refine wp_region_ext (by kernel_rfl) (by kernel_rfl) ?_
                        repeat (go_big_quiet_step ((go_at_call 17; exact ext_call (FO.out _))))
                        refine wpQuiet_nil ?_
                        intro w11 hw11
                        obtain ⟨x, rfl⟩ := hw11
                        go_wp2_with fail
                        go_roundw
                        case rel => exact ⟨k + 1, by omega, by go_num, by rw [IT2.out], next hbl x.2⟩
                        case measure => simp [intOf]; omega
                    · have HT : Hid (us.take k = us) := List.take_of_length_le (by omega)
                      rw [HT.out, UI.out]
                      clear hr
                      go_wp2_with fail
                      refine (foldOf_any _ _ HH.out).mono ?_
                      rw [FH.out]
                      rintro e w12 ⟨rfl, hb12⟩
                      go_wp2_with fail
                      refine (foldOf_any _ _ HA.out).mono ?_
                      rw [FA.out]
                      rintro e w13 ⟨rfl, hb13⟩
                      go_wp2_with fail
                      refine (match_any _ _ _ HF.out HG.out).mono ?_
                      rw [txt_toList, txt_toList]
                      rintro e w14 ⟨rfl, hb14⟩
                      go_wp2_with fail
                      go_ret
                      refine ⟨?_, next (next (next (next g10 hbl) hb12) hb13) hb14⟩
                      rfl
                · have c2b : (Ea == 0) = false := by rw [beq_eq_false_iff_ne]; exact c2
                  clear c2
                  go_wp2_with fail
                  refine (canon_any _ _ HH.out).mono ?_
                  rw [EH.out]
                  rintro e w7 ⟨rfl, hb7⟩
                  go_wp2_with fail
                  refine (canon_any _ _ HA.out).mono ?_
                  rw [EA.out]
                  rintro e w8 ⟨rfl, hb8⟩
                  go_wp2_with fail
                  go_ret
                  exact ⟨rfl, next (next gp hb7) hb8⟩
              · have c1b : (Eh == 0) = false := by rw [beq_eq_false_iff_ne]; exact c1
                clear c1
                go_wp2_with fail
                refine (canon_any _ _ HH.out).mono ?_
                rw [EH.out]
                rintro e w7 ⟨rfl, hb7⟩
                go_wp2_with fail
                refine (canon_any _ _ HA.out).mono ?_
                rw [EA.out]
                rintro e w8 ⟨rfl, hb8⟩
                go_wp2_with fail
                go_ret
                exact ⟨rfl, next (next gp hb7) hb8⟩
          · skip
            go_enter Try.func6, Try.ntmps6
            go_wp2_with fail
            refine (hostBegun_any _).mono ?_
            rintro e w0 ⟨rfl, g0⟩
            go_wp2_with fail
            refine (match_any _ _ _ HH.out HA1.out).mono ?_
            rw [M1.out]
            rintro e w1 ⟨rfl, hb1⟩
            have g1 := next g0 hb1
            go_wp2_with fail
            refine (match_any _ _ _ HH.out HB1.out).mono ?_
            rw [M2.out]
            rintro e w2 ⟨rfl, hb2⟩
            have g2 := next g1 hb2
            go_wp2_with fail
            refine (address_any _ _ HA.out).mono ?_
            rw [D1.out]
            rintro e w3 ⟨rfl, hb3⟩
            have g3 := next g2 hb3
            go_wp2_with fail
            refine (address_any _ _ HB.out).mono ?_
            rw [D2.out]
            rintro e w4 ⟨rfl, hb4⟩
            have g4 := next g3 hb4
            go_wp2_with fail
            refine (match_any _ _ _ HA.out HB1.out).mono ?_
            rw [M3.out]
            rintro e w5 ⟨rfl, hb5⟩
            have g5 := next g4 hb5
            have gp : Below w.heap.size w w5 := g5
            clear g0 g1 hb1 g2 hb2 g3 hb3 g4 hb4 g5 hb5
            by_cases c1 : Eh = 0
            · subst c1
              obtain ⟨z1, z2⟩ := OKH.out rfl
              have z1' : h.size ≤ 253 := z1
              have NE : Hid _ := z2
              clear z1 z2
              by_cases c2 : Ea = 0
              · subst c2
                have z3' : a.size ≤ 253 := (OKA.out rfl).1
                have hfs : (txt (foldL h.data.toList)).size = h.size := by rw [txt_size]; simp [foldL]
                have hfa : (txt (foldL a.data.toList)).size = a.size := by rw [txt_size]; simp [foldL]
                have HM : Hid (((txt (foldL h.data.toList)).size + 1) * 16 ≤ 140737488355328) := by show _ ≤ _; omega
                have HF : Hid ((txt (foldL h.data.toList)).size ≤ maxLen) := by show _ ≤ _; rw [hfs]; exact HH.out
                have HG : Hid ((txt (foldL a.data.toList)).size < maxLen) := by show _ < _; rw [hfa]; exact HA1.out
                have hul : (upsL (foldL h.data.toList)).length ≤ 254 := by
                  have h1 := ups_len (foldL h.data.toList)
                  have h2 : (foldL h.data.toList).length = h.size := hfs
                  omega
                have UI : Hid (isIn (upsL (foldL h.data.toList)) (foldL a.data.toList) = matchL (foldL h.data.toList) (foldL a.data.toList)) := ups_in _ _ NE.out
                clear hfs hfa
                obtain ⟨fa, hfa⟩ : ∃ x, foldL a.data.toList = x := ⟨_, rfl⟩
                obtain ⟨fh, hfh⟩ : ∃ x, foldL h.data.toList = x := ⟨_, rfl⟩
                rw [hfa] at UI HG
                rw [hfh] at UI HM HF hul
                have FA : Hid _ := hfa
                have FH : Hid _ := hfh
                clear hfa hfh
                go_wp2_with fail
                refine (canon_any _ _ HH.out).mono ?_
                rw [EH.out]
                rintro e w7 ⟨rfl, hb7⟩
                go_wp2_with fail
                refine (canon_any _ _ HA.out).mono ?_
                rw [EA.out]
                rintro e w8 ⟨rfl, hb8⟩
                go_wp2_with fail
                refine (foldOf_any _ _ HH.out).mono ?_
                rw [FH.out]
                rintro e w9 ⟨rfl, hb9⟩
                go_wp2_with fail
                refine (ups_any _ _ HM.out).mono ?_
                rw [txt_toList]
                rintro e w10 ⟨v10, rfl, hown, hb10⟩
                have g10 := next (next (next (next gp hb7) hb8) hb9) hb10
                have rd := Reads.of_own hown
                clear gp hb7 hb8 hb9 hb10 hown
                obtain ⟨us, hus⟩ : ∃ us, us = upsL fh := ⟨_, rfl⟩
                rw [← hus] at UI hul rd
                clear hus
                obtain ⟨ad, cap, rfl, hr⟩ := rd
                go_wp2_with fail
                go_loopw [11, 13] (fun fv iv wr => ∃ k : Nat, k ≤ us.length ∧ iv = .int .i64 k ∧ fv = .bool (isIn (us.take k) fa) ∧ Below w10.heap.size w10 wr) (fun _ iv _ => us.length - (intOf iv).toNat)
                case atStart => exact ⟨0, Nat.zero_le _, rfl, rfl, Below.refl _ _⟩
                case round =>
                  obtain ⟨k, hk, rfl, rfl, hbl⟩ := hrel
                  by_cases hlt : k < us.length
                  · have e1 := List.getElem?_eq_getElem hlt
                    obtain ⟨x, hx⟩ : ∃ x, x = us[k] := ⟨_, rfl⟩
                    rw [← hx] at e1
                    rcases hr with hr | ⟨bl, ol, rfl, hr⟩
                    · have : (strs us).length = us.length := strs_length us
                      rw [hr] at this; simp at this; omega
                    have hc0 := hr k _ (strs_get e1)
                    have IT : Hid _ := isIn_take us fa x k e1
                    have hc1 : wr.cell? ⟨bl, ol + k, none⟩ = some (.string (txt x)) := (hbl.cell (p := ⟨bl, ol + k, none⟩) (cell_in hc0)).trans hc0
                    have ne : Nonempty (Ext wr) := ⟨Ext.of wr (Below.refl _ _)⟩
                    have xc := Ext.cell hc1
                    have FO : Hid (∀ W : World, Calls Try.prog 17 #[.string a] W fun e w' => e = .returned (.string (txt fa)) ∧ Below W.heap.size W w') := fun W => by
                      have h := foldOf_any a W HA.out
                      rw [FA.out] at h; exact h
                    clear hr hx e1 hc0
                    obtain ⟨fo, hfo⟩ : ∃ x, isIn (us.take k) fa = x := ⟨_, rfl⟩
                    rw [hfo] at IT ⊢
                    clear hfo
                    cases fo
                    · by_cases hq : x = fa
                      · have hqe : ((txt x).toList == (txt fa).toList) = true := by rw [hq]; simp
                        have IT2 : Hid (isIn (us.take (k + 1)) fa = true) := by show _ = _; rw [IT.out, hq]; simp
                        clear hq IT
                        go_wp2_with fail
                        refine wp_region_ext (by kernel_rfl) (by kernel_rfl) ?_
                        repeat (go_big_quiet_step ((go_at_call 17; exact ext_call (FO.out _))))
                        refine wpQuiet_nil ?_
                        intro w11 hw11
                        obtain ⟨x, rfl⟩ := hw11
                        go_wp2_with fail
                        go_roundw
                        case rel => exact ⟨k + 1, by omega, by go_num, by rw [IT2.out], next hbl x.2⟩
                        case measure => simp [intOf]; omega
                      · have hqe : ((txt x).toList == (txt fa).toList) = false := by
                          rw [beq_eq_false_iff_ne, Lib.toList_data, Lib.toList_data]; exact hq
                        have IT2 : Hid (isIn (us.take (k + 1)) fa = false) := by show _ = _; rw [IT.out, beq_eq_false_iff_ne.2 hq]; rfl
                        clear hq IT
                        go_wp2_with fail
                        refine wp_region_ext (by kernel_rfl) (by kernel_rfl) ?_
                        repeat (go_big_quiet_step ((go_at_call 17; exact ext_call (FO.out _))))
                        refine wpQuiet_nil ?_
                        intro w11 hw11
                        obtain ⟨x, rfl⟩ := hw11
                        go_wp2_with fail
                        go_roundw
                        case rel => exact ⟨k + 1, by omega, by go_num, by rw [IT2.out], next hbl x.2⟩
                        case measure => simp [intOf]; omega
                    · have IT2 : Hid (isIn (us.take (k + 1)) fa = true) := by show _ = _; rw [IT.out]; rfl
                      clear IT
                      go_wp2_with fail
                      refine wp_region_ext (by kernel_rfl) (by kernel_rfl) ?_
                      repeat (go_big_quiet_step ((go_at_call 17; exact ext_call (FO.out _))))
                      refine wpQuiet_nil ?_
                      intro w11 hw11
                      obtain ⟨x, rfl⟩ := hw11
                      go_wp2_with fail
                      go_roundw
                      case rel => exact ⟨k + 1, by omega, by go_num, by rw [IT2.out], next hbl x.2⟩
                      case measure => simp [intOf]; omega
                  · have HT : Hid (us.take k = us) := List.take_of_length_le (by omega)
                    rw [HT.out, UI.out]
                    clear hr
                    go_wp2_with fail
                    refine (foldOf_any _ _ HH.out).mono ?_
                    rw [FH.out]
                    rintro e w12 ⟨rfl, hb12⟩
                    go_wp2_with fail
                    refine (foldOf_any _ _ HA.out).mono ?_
                    rw [FA.out]
                    rintro e w13 ⟨rfl, hb13⟩
                    go_wp2_with fail
                    refine (match_any _ _ _ HF.out HG.out).mono ?_
                    rw [txt_toList, txt_toList]
                    rintro e w14 ⟨rfl, hb14⟩
                    go_wp2_with fail
                    go_ret
                    refine ⟨?_, next (next (next (next g10 hbl) hb12) hb13) hb14⟩
                    rfl
              · have c2b : (Ea == 0) = false := by rw [beq_eq_false_iff_ne]; exact c2
                clear c2
                go_wp2_with fail
                refine (canon_any _ _ HH.out).mono ?_
                rw [EH.out]
                rintro e w7 ⟨rfl, hb7⟩
                go_wp2_with fail
                refine (canon_any _ _ HA.out).mono ?_
                rw [EA.out]
                rintro e w8 ⟨rfl, hb8⟩
                go_wp2_with fail
                go_ret
                exact ⟨rfl, next (next gp hb7) hb8⟩
            · have c1b : (Eh == 0) = false := by rw [beq_eq_false_iff_ne]; exact c1
              clear c1
              go_wp2_with fail
              refine (canon_any _ _ HH.out).mono ?_
              rw [EH.out]
              rintro e w7 ⟨rfl, hb7⟩
              go_wp2_with fail
              refine (canon_any _ _ HA.out).mono ?_
              rw [EA.out]
              rintro e w8 ⟨rfl, hb8⟩
              go_wp2_with fail
              go_ret
              exact ⟨rfl, next (next gp hb7) hb8⟩
        · skip
          go_enter Try.func6, Try.ntmps6
          go_wp2_with fail
          refine (hostBegun_any _).mono ?_
          rintro e w0 ⟨rfl, g0⟩
          go_wp2_with fail
          refine (match_any _ _ _ HH.out HA1.out).mono ?_
          rw [M1.out]
          rintro e w1 ⟨rfl, hb1⟩
          have g1 := next g0 hb1
          go_wp2_with fail
          refine (match_any _ _ _ HH.out HB1.out).mono ?_
          rw [M2.out]
          rintro e w2 ⟨rfl, hb2⟩
          have g2 := next g1 hb2
          go_wp2_with fail
          refine (address_any _ _ HA.out).mono ?_
          rw [D1.out]
          rintro e w3 ⟨rfl, hb3⟩
          have g3 := next g2 hb3
          go_wp2_with fail
          refine (address_any _ _ HB.out).mono ?_
          rw [D2.out]
          rintro e w4 ⟨rfl, hb4⟩
          have g4 := next g3 hb4
          have gp : Below w.heap.size w w4 := g4
          clear g0 g1 hb1 g2 hb2 g3 hb3 g4 hb4
          by_cases c1 : Eh = 0
          · subst c1
            obtain ⟨z1, z2⟩ := OKH.out rfl
            have z1' : h.size ≤ 253 := z1
            have NE : Hid _ := z2
            clear z1 z2
            by_cases c2 : Ea = 0
            · subst c2
              have z3' : a.size ≤ 253 := (OKA.out rfl).1
              have hfs : (txt (foldL h.data.toList)).size = h.size := by rw [txt_size]; simp [foldL]
              have hfa : (txt (foldL a.data.toList)).size = a.size := by rw [txt_size]; simp [foldL]
              have HM : Hid (((txt (foldL h.data.toList)).size + 1) * 16 ≤ 140737488355328) := by show _ ≤ _; omega
              have HF : Hid ((txt (foldL h.data.toList)).size ≤ maxLen) := by show _ ≤ _; rw [hfs]; exact HH.out
              have HG : Hid ((txt (foldL a.data.toList)).size < maxLen) := by show _ < _; rw [hfa]; exact HA1.out
              have hul : (upsL (foldL h.data.toList)).length ≤ 254 := by
                have h1 := ups_len (foldL h.data.toList)
                have h2 : (foldL h.data.toList).length = h.size := hfs
                omega
              have UI : Hid (isIn (upsL (foldL h.data.toList)) (foldL a.data.toList) = matchL (foldL h.data.toList) (foldL a.data.toList)) := ups_in _ _ NE.out
              clear hfs hfa
              obtain ⟨fa, hfa⟩ : ∃ x, foldL a.data.toList = x := ⟨_, rfl⟩
              obtain ⟨fh, hfh⟩ : ∃ x, foldL h.data.toList = x := ⟨_, rfl⟩
              rw [hfa] at UI HG
              rw [hfh] at UI HM HF hul
              have FA : Hid _ := hfa
              have FH : Hid _ := hfh
              clear hfa hfh
              go_wp2_with fail
              refine (canon_any _ _ HH.out).mono ?_
              rw [EH.out]
              rintro e w7 ⟨rfl, hb7⟩
              go_wp2_with fail
              refine (canon_any _ _ HA.out).mono ?_
              rw [EA.out]
              rintro e w8 ⟨rfl, hb8⟩
              go_wp2_with fail
              refine (foldOf_any _ _ HH.out).mono ?_
              rw [FH.out]
              rintro e w9 ⟨rfl, hb9⟩
              go_wp2_with fail
              refine (ups_any _ _ HM.out).mono ?_
              rw [txt_toList]
              rintro e w10 ⟨v10, rfl, hown, hb10⟩
              have g10 := next (next (next (next gp hb7) hb8) hb9) hb10
              have rd := Reads.of_own hown
              clear gp hb7 hb8 hb9 hb10 hown
              obtain ⟨us, hus⟩ : ∃ us, us = upsL fh := ⟨_, rfl⟩
              rw [← hus] at UI hul rd
              clear hus
              obtain ⟨ad, cap, rfl, hr⟩ := rd
              go_wp2_with fail
              go_loopw [11, 13] (fun fv iv wr => ∃ k : Nat, k ≤ us.length ∧ iv = .int .i64 k ∧ fv = .bool (isIn (us.take k) fa) ∧ Below w10.heap.size w10 wr) (fun _ iv _ => us.length - (intOf iv).toNat)
              case atStart => exact ⟨0, Nat.zero_le _, rfl, rfl, Below.refl _ _⟩
              case round =>
                obtain ⟨k, hk, rfl, rfl, hbl⟩ := hrel
                by_cases hlt : k < us.length
                · have e1 := List.getElem?_eq_getElem hlt
                  obtain ⟨x, hx⟩ : ∃ x, x = us[k] := ⟨_, rfl⟩
                  rw [← hx] at e1
                  rcases hr with hr | ⟨bl, ol, rfl, hr⟩
                  · have : (strs us).length = us.length := strs_length us
                    rw [hr] at this; simp at this; omega
                  have hc0 := hr k _ (strs_get e1)
                  have IT : Hid _ := isIn_take us fa x k e1
                  have hc1 : wr.cell? ⟨bl, ol + k, none⟩ = some (.string (txt x)) := (hbl.cell (p := ⟨bl, ol + k, none⟩) (cell_in hc0)).trans hc0
                  have ne : Nonempty (Ext wr) := ⟨Ext.of wr (Below.refl _ _)⟩
                  have xc := Ext.cell hc1
                  have FO : Hid (∀ W : World, Calls Try.prog 17 #[.string a] W fun e w' => e = .returned (.string (txt fa)) ∧ Below W.heap.size W w') := fun W => by
                    have h := foldOf_any a W HA.out
                    rw [FA.out] at h; exact h
                  clear hr hx e1 hc0
                  obtain ⟨fo, hfo⟩ : ∃ x, isIn (us.take k) fa = x := ⟨_, rfl⟩
                  rw [hfo] at IT ⊢
                  clear hfo
                  cases fo
                  · by_cases hq : x = fa
                    · have hqe : ((txt x).toList == (txt fa).toList) = true := by rw [hq]; simp
                      have IT2 : Hid (isIn (us.take (k + 1)) fa = true) := by show _ = _; rw [IT.out, hq]; simp
                      clear hq IT
                      go_wp2_with fail
                      refine wp_region_ext (by kernel_rfl) (by kernel_rfl) ?_
                      repeat (go_big_quiet_step ((go_at_call 17; exact ext_call (FO.out _))))
                      refine wpQuiet_nil ?_
                      intro w11 hw11
                      obtain ⟨x, rfl⟩ := hw11
                      go_wp2_with fail
                      go_roundw
                      case rel => exact ⟨k + 1, by omega, by go_num, by rw [IT2.out], next hbl x.2⟩
                      case measure => simp [intOf]; omega
                    · have hqe : ((txt x).toList == (txt fa).toList) = false := by
                        rw [beq_eq_false_iff_ne, Lib.toList_data, Lib.toList_data]; exact hq
                      have IT2 : Hid (isIn (us.take (k + 1)) fa = false) := by show _ = _; rw [IT.out, beq_eq_false_iff_ne.2 hq]; rfl
                      clear hq IT
                      go_wp2_with fail
                      refine wp_region_ext (by kernel_rfl) (by kernel_rfl) ?_
                      repeat (go_big_quiet_step ((go_at_call 17; exact ext_call (FO.out _))))
                      refine wpQuiet_nil ?_
                      intro w11 hw11
                      obtain ⟨x, rfl⟩ := hw11
                      go_wp2_with fail
                      go_roundw
                      case rel => exact ⟨k + 1, by omega, by go_num, by rw [IT2.out], next hbl x.2⟩
                      case measure => simp [intOf]; omega
                  · have IT2 : Hid (isIn (us.take (k + 1)) fa = true) := by show _ = _; rw [IT.out]; rfl
                    clear IT
                    go_wp2_with fail
                    refine wp_region_ext (by kernel_rfl) (by kernel_rfl) ?_
                    repeat (go_big_quiet_step ((go_at_call 17; exact ext_call (FO.out _))))
                    refine wpQuiet_nil ?_
                    intro w11 hw11
                    obtain ⟨x, rfl⟩ := hw11
                    go_wp2_with fail
                    go_roundw
                    case rel => exact ⟨k + 1, by omega, by go_num, by rw [IT2.out], next hbl x.2⟩
                    case measure => simp [intOf]; omega
                · have HT : Hid (us.take k = us) := List.take_of_length_le (by omega)
                  rw [HT.out, UI.out]
                  clear hr
                  go_wp2_with fail
                  refine (foldOf_any _ _ HH.out).mono ?_
                  rw [FH.out]
                  rintro e w12 ⟨rfl, hb12⟩
                  go_wp2_with fail
                  refine (foldOf_any _ _ HA.out).mono ?_
                  rw [FA.out]
                  rintro e w13 ⟨rfl, hb13⟩
                  go_wp2_with fail
                  refine (match_any _ _ _ HF.out HG.out).mono ?_
                  rw [txt_toList, txt_toList]
                  rintro e w14 ⟨rfl, hb14⟩
                  go_wp2_with fail
                  go_ret
                  refine ⟨?_, next (next (next (next g10 hbl) hb12) hb13) hb14⟩
                  rfl
            · have c2b : (Ea == 0) = false := by rw [beq_eq_false_iff_ne]; exact c2
              clear c2
              go_wp2_with fail
              refine (canon_any _ _ HH.out).mono ?_
              rw [EH.out]
              rintro e w7 ⟨rfl, hb7⟩
              go_wp2_with fail
              refine (canon_any _ _ HA.out).mono ?_
              rw [EA.out]
              rintro e w8 ⟨rfl, hb8⟩
              go_wp2_with fail
              go_ret
              exact ⟨rfl, next (next gp hb7) hb8⟩
          · have c1b : (Eh == 0) = false := by rw [beq_eq_false_iff_ne]; exact c1
            clear c1
            go_wp2_with fail
            refine (canon_any _ _ HH.out).mono ?_
            rw [EH.out]
            rintro e w7 ⟨rfl, hb7⟩
            go_wp2_with fail
            refine (canon_any _ _ HA.out).mono ?_
            rw [EA.out]
            rintro e w8 ⟨rfl, hb8⟩
            go_wp2_with fail
            go_ret
            exact ⟨rfl, next (next gp hb7) hb8⟩
      · skip
        go_enter Try.func6, Try.ntmps6
        go_wp2_with fail
        refine (hostBegun_any _).mono ?_
        rintro e w0 ⟨rfl, g0⟩
        go_wp2_with fail
        refine (match_any _ _ _ HH.out HA1.out).mono ?_
        rw [M1.out]
        rintro e w1 ⟨rfl, hb1⟩
        have g1 := next g0 hb1
        go_wp2_with fail
        refine (match_any _ _ _ HH.out HB1.out).mono ?_
        rw [M2.out]
        rintro e w2 ⟨rfl, hb2⟩
        have g2 := next g1 hb2
        go_wp2_with fail
        refine (address_any _ _ HA.out).mono ?_
        rw [D1.out]
        rintro e w3 ⟨rfl, hb3⟩
        have g3 := next g2 hb3
        have gp : Below w.heap.size w w3 := g3
        clear g0 g1 hb1 g2 hb2 g3 hb3
        by_cases c1 : Eh = 0
        · subst c1
          obtain ⟨z1, z2⟩ := OKH.out rfl
          have z1' : h.size ≤ 253 := z1
          have NE : Hid _ := z2
          clear z1 z2
          by_cases c2 : Ea = 0
          · subst c2
            have z3' : a.size ≤ 253 := (OKA.out rfl).1
            have hfs : (txt (foldL h.data.toList)).size = h.size := by rw [txt_size]; simp [foldL]
            have hfa : (txt (foldL a.data.toList)).size = a.size := by rw [txt_size]; simp [foldL]
            have HM : Hid (((txt (foldL h.data.toList)).size + 1) * 16 ≤ 140737488355328) := by show _ ≤ _; omega
            have HF : Hid ((txt (foldL h.data.toList)).size ≤ maxLen) := by show _ ≤ _; rw [hfs]; exact HH.out
            have HG : Hid ((txt (foldL a.data.toList)).size < maxLen) := by show _ < _; rw [hfa]; exact HA1.out
            have hul : (upsL (foldL h.data.toList)).length ≤ 254 := by
              have h1 := ups_len (foldL h.data.toList)
              have h2 : (foldL h.data.toList).length = h.size := hfs
              omega
            have UI : Hid (isIn (upsL (foldL h.data.toList)) (foldL a.data.toList) = matchL (foldL h.data.toList) (foldL a.data.toList)) := ups_in _ _ NE.out
            clear hfs hfa
            obtain ⟨fa, hfa⟩ : ∃ x, foldL a.data.toList = x := ⟨_, rfl⟩
            obtain ⟨fh, hfh⟩ : ∃ x, foldL h.data.toList = x := ⟨_, rfl⟩
            rw [hfa] at UI HG
            rw [hfh] at UI HM HF hul
            have FA : Hid _ := hfa
            have FH : Hid _ := hfh
            clear hfa hfh
            go_wp2_with fail
            refine (canon_any _ _ HH.out).mono ?_
            rw [EH.out]
            rintro e w7 ⟨rfl, hb7⟩
            go_wp2_with fail
            refine (canon_any _ _ HA.out).mono ?_
            rw [EA.out]
            rintro e w8 ⟨rfl, hb8⟩
            go_wp2_with fail
            refine (foldOf_any _ _ HH.out).mono ?_
            rw [FH.out]
            rintro e w9 ⟨rfl, hb9⟩
            go_wp2_with fail
            refine (ups_any _ _ HM.out).mono ?_
            rw [txt_toList]
            rintro e w10 ⟨v10, rfl, hown, hb10⟩
            have g10 := next (next (next (next gp hb7) hb8) hb9) hb10
            have rd := Reads.of_own hown
            clear gp hb7 hb8 hb9 hb10 hown
            obtain ⟨us, hus⟩ : ∃ us, us = upsL fh := ⟨_, rfl⟩
            rw [← hus] at UI hul rd
            clear hus
            obtain ⟨ad, cap, rfl, hr⟩ := rd
            go_wp2_with fail
            go_loopw [11, 13] (fun fv iv wr => ∃ k : Nat, k ≤ us.length ∧ iv = .int .i64 k ∧ fv = .bool (isIn (us.take k) fa) ∧ Below w10.heap.size w10 wr) (fun _ iv _ => us.length - (intOf iv).toNat)
            case atStart => exact ⟨0, Nat.zero_le _, rfl, rfl, Below.refl _ _⟩
            case round =>
              obtain ⟨k, hk, rfl, rfl, hbl⟩ := hrel
              by_cases hlt : k < us.length
              · have e1 := List.getElem?_eq_getElem hlt
                obtain ⟨x, hx⟩ : ∃ x, x = us[k] := ⟨_, rfl⟩
                rw [← hx] at e1
                rcases hr with hr | ⟨bl, ol, rfl, hr⟩
                · have : (strs us).length = us.length := strs_length us
                  rw [hr] at this; simp at this; omega
                have hc0 := hr k _ (strs_get e1)
                have IT : Hid _ := isIn_take us fa x k e1
                have hc1 : wr.cell? ⟨bl, ol + k, none⟩ = some (.string (txt x)) := (hbl.cell (p := ⟨bl, ol + k, none⟩) (cell_in hc0)).trans hc0
                have ne : Nonempty (Ext wr) := ⟨Ext.of wr (Below.refl _ _)⟩
                have xc := Ext.cell hc1
                have FO : Hid (∀ W : World, Calls Try.prog 17 #[.string a] W fun e w' => e = .returned (.string (txt fa)) ∧ Below W.heap.size W w') := fun W => by
                  have h := foldOf_any a W HA.out
                  rw [FA.out] at h; exact h
                clear hr hx e1 hc0
                obtain ⟨fo, hfo⟩ : ∃ x, isIn (us.take k) fa = x := ⟨_, rfl⟩
                rw [hfo] at IT ⊢
                clear hfo
                cases fo
                · by_cases hq : x = fa
                  · have hqe : ((txt x).toList == (txt fa).toList) = true := by rw [hq]; simp
                    have IT2 : Hid (isIn (us.take (k + 1)) fa = true) := by show _ = _; rw [IT.out, hq]; simp
                    clear hq IT
                    go_wp2_with fail
                    refine wp_region_ext (by kernel_rfl) (by kernel_rfl) ?_
                    repeat (go_big_quiet_step ((go_at_call 17; exact ext_call (FO.out _))))
                    refine wpQuiet_nil ?_
                    intro w11 hw11
                    obtain ⟨x, rfl⟩ := hw11
                    go_wp2_with fail
                    go_roundw
                    case rel => exact ⟨k + 1, by omega, by go_num, by rw [IT2.out], next hbl x.2⟩
                    case measure => simp [intOf]; omega
                  · have hqe : ((txt x).toList == (txt fa).toList) = false := by
                      rw [beq_eq_false_iff_ne, Lib.toList_data, Lib.toList_data]; exact hq
                    have IT2 : Hid (isIn (us.take (k + 1)) fa = false) := by show _ = _; rw [IT.out, beq_eq_false_iff_ne.2 hq]; rfl
                    clear hq IT
                    go_wp2_with fail
                    refine wp_region_ext (by kernel_rfl) (by kernel_rfl) ?_
                    repeat (go_big_quiet_step ((go_at_call 17; exact ext_call (FO.out _))))
                    refine wpQuiet_nil ?_
                    intro w11 hw11
                    obtain ⟨x, rfl⟩ := hw11
                    go_wp2_with fail
                    go_roundw
                    case rel => exact ⟨k + 1, by omega, by go_num, by rw [IT2.out], next hbl x.2⟩
                    case measure => simp [intOf]; omega
                · have IT2 : Hid (isIn (us.take (k + 1)) fa = true) := by show _ = _; rw [IT.out]; rfl
                  clear IT
                  go_wp2_with fail
                  refine wp_region_ext (by kernel_rfl) (by kernel_rfl) ?_
                  repeat (go_big_quiet_step ((go_at_call 17; exact ext_call (FO.out _))))
                  refine wpQuiet_nil ?_
                  intro w11 hw11
                  obtain ⟨x, rfl⟩ := hw11
                  go_wp2_with fail
                  go_roundw
                  case rel => exact ⟨k + 1, by omega, by go_num, by rw [IT2.out], next hbl x.2⟩
                  case measure => simp [intOf]; omega
              · have HT : Hid (us.take k = us) := List.take_of_length_le (by omega)
                rw [HT.out, UI.out]
                clear hr
                go_wp2_with fail
                refine (foldOf_any _ _ HH.out).mono ?_
                rw [FH.out]
                rintro e w12 ⟨rfl, hb12⟩
                go_wp2_with fail
                refine (foldOf_any _ _ HA.out).mono ?_
                rw [FA.out]
                rintro e w13 ⟨rfl, hb13⟩
                go_wp2_with fail
                refine (match_any _ _ _ HF.out HG.out).mono ?_
                rw [txt_toList, txt_toList]
                rintro e w14 ⟨rfl, hb14⟩
                go_wp2_with fail
                go_ret
                refine ⟨?_, next (next (next (next g10 hbl) hb12) hb13) hb14⟩
                rfl
          · have c2b : (Ea == 0) = false := by rw [beq_eq_false_iff_ne]; exact c2
            clear c2
            go_wp2_with fail
            refine (canon_any _ _ HH.out).mono ?_
            rw [EH.out]
            rintro e w7 ⟨rfl, hb7⟩
            go_wp2_with fail
            refine (canon_any _ _ HA.out).mono ?_
            rw [EA.out]
            rintro e w8 ⟨rfl, hb8⟩
            go_wp2_with fail
            go_ret
            exact ⟨rfl, next (next gp hb7) hb8⟩
        · have c1b : (Eh == 0) = false := by rw [beq_eq_false_iff_ne]; exact c1
          clear c1
          go_wp2_with fail
          refine (canon_any _ _ HH.out).mono ?_
          rw [EH.out]
          rintro e w7 ⟨rfl, hb7⟩
          go_wp2_with fail
          refine (canon_any _ _ HA.out).mono ?_
          rw [EA.out]
          rintro e w8 ⟨rfl, hb8⟩
          go_wp2_with fail
          go_ret
          exact ⟨rfl, next (next gp hb7) hb8⟩

set_option maxRecDepth 100000 in
theorem lifted (os : Os) (started : os.Started) (H : Type) (enc : TypeId × Value → H) :
    ReturnsInHanded {} Try.checked os 6 .any (Rows.matchChainSpec.pre6 enc Try.prog Try.f6 Rows.matchChainRow.domain false) (Rows.matchChainSpec.post enc Try.prog Try.f6 false true false false) := by
  refine returnsInHanded_of_change_sized (C := Try.checked) own started (by kernel_rfl) Try.func6
    (ChangeSpec.witness6 (enc := enc) (C := Try.checked) false ⟨#[], #[.string ByteArray.empty, .string ByteArray.empty, .string ByteArray.empty], []⟩ 8 (by kernel_rfl) (by kernel_rfl) (by kernel_rfl) (by kernel_rfl)) ?_
  intro W base args ds gs before hval0 hW hcnd hsz0 _
  have hsz : (DataW.weightsEach Try.prog (Try.f6.params.toList ++ Rows.matchChainSpec.plain.varTypes Try.prog) (ds ++ gs)).all (· ≤ reachBytes) = true := hsz0
  have hval : ∀ (j : Nat) t v, Try.f6.params[j]? = some t → args[j]? = some v → Value.okWide Try.prog W .any base t v := hval0
  have hW' := hW
  obtain ⟨p, q, hA0, hV, rfl, hfz, hnd⟩ := hW
  have hA : DataW.TrodAll enc Try.prog W 0 (fun _ => true) true Try.f6.params.toList args.toList ds p := hA0
  rw [Try.params6] at hA hval hsz
  obtain ⟨v0, vs0, d0, ds0, p0, q0, hargs, rfl, rfl, h0, r0⟩ := trodAll_cons hA
  obtain ⟨v1, vs1, d1, ds1, p1, q1, rfl, rfl, rfl, h1, r1⟩ := trodAll_cons r0
  obtain ⟨v2, vs2, d2, ds2, p2, q2, rfl, rfl, rfl, h2, r2⟩ := trodAll_cons r1
  obtain ⟨rfl, rfl, rfl⟩ := trodAll_nil r2
  obtain rfl : args = #[v0, v1, v2] := by cases args; simp_all
  obtain ⟨rfl, rfl⟩ := trodVars_none hV
  have k0 := h0
  have lt0 : ∀ x ∈ p0, x.block < W.heap.size := by obtain ⟨m, hm⟩ := k0; exact DataW.trod_lt m _ _ _ hm
  have k1 := h1
  have lt1 : ∀ x ∈ p1, x.block < W.heap.size := by obtain ⟨m, hm⟩ := k1; exact DataW.trod_lt m _ _ _ hm
  have k2 := h2
  have lt2 : ∀ x ∈ p2, x.block < W.heap.size := by obtain ⟨m, hm⟩ := k2; exact DataW.trod_lt m _ _ _ hm
  obtain ⟨a0, rfl, rfl, hp0, w0⟩ := open_string Try.underlying9 (hval 0 9 v0 rfl rfl) h0
  have z0 : a0.size ≤ 140737488351232 := sized_string hsz (j := 0) (t := 9) rfl rfl
  obtain ⟨a1, rfl, rfl, hp1, w1⟩ := open_string Try.underlying9 (hval 1 9 v1 rfl rfl) h1
  have z1 : a1.size ≤ 140737488351232 := sized_string hsz (j := 1) (t := 9) rfl rfl
  obtain ⟨a2, rfl, rfl, hp2, w2⟩ := open_string Try.underlying9 (hval 2 9 v2 rfl rfl) h2
  have z2 : a2.size ≤ 140737488351232 := sized_string hsz (j := 2) (t := 9) rfl rfl
  clear hA0 hval0
  refine (walk a0 a1 a2 W z0 z1 z2).mono fun e W' ⟨he, bel⟩ => ?_
  subst he
  exact ⟨_, rfl, _, _, _, [], _, [], hW', trodAll_mk1 (shut_bool Try.underlying4 _), (trodAll_cons_mk (Below.trod laidOut (by kernel_rfl) (of_decide_eq_true (by kernel_rfl)) k0 bel lt0) (trodAll_cons_mk (Below.trod laidOut (by kernel_rfl) (of_decide_eq_true (by kernel_rfl)) k1 bel lt1) (trodAll_cons_mk (Below.trod laidOut (by kernel_rfl) (of_decide_eq_true (by kernel_rfl)) k2 bel lt2) trodAll_mk0))), rfl, bel.frame _, fun h => by cases h⟩

theorem proved : Rows.MatchChainSaid :=
  OpenClaim.holds_of_wide 6 Try.f6 rfl rfl rfl rfl rfl rfl rfl ⟨rfl, rfl, rfl, rfl, rfl⟩ rfl rfl rfl rfl rfl (by kernel_rfl) Try.func6 (by kernel_rfl)
    (of_decide_eq_true (by kernel_rfl)) (by unfold Func.isWrapper; first | (rw [if_pos (by decide +kernel)]; kernel_rfl) | (rw [if_neg (by decide +kernel)]; exact ⟨rfl, rfl⟩))
    (fun os started H enc _ => lifted os started H enc)
#print axioms proved
end Go.Proofs.Ytlabffopbambjac.matchChain
