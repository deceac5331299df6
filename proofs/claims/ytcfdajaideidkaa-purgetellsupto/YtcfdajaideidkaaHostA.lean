/- Contracts of package host and of its reference on bytes and labels. -/
import Derived.Test.YtcfdajaideidkaaHostM
import Derived.Lib.Bytealg
namespace Go.Proofs.Ytcfdajaideidkaa
open Go.RowKit
set_option linter.all false
set_option maxRecDepth 100000

theorem ret_b {a b : Bool} (h : a = true ↔ b = true) : Ending.returned (.bool a) = .returned (.bool b) := by rw [Bool.eq_iff_iff.2 h]
theorem digU_i (c : UInt8) : digU c = true ↔ 48 ≤ (c.toNat : Int) ∧ (c.toNat : Int) ≤ 57 := by
  unfold digU
  simp only [Bool.and_eq_true, decide_eq_true_eq]
  omega
set_option maxHeartbeats 400000 in
theorem hdigit_any (c : UInt8) (w : World) :
    Calls Try.prog 93 #[.int .u8 (c.toNat : Int)] w fun e w' => e = .returned (.bool (digU c)) ∧ w' = w := by
  have HD : Hid _ := digU_i c
  go_enter Try.func93, Try.ntmps93
  go_wp2
  all_goals go_ret
  all_goals refine ⟨ret_b ?_, rfl⟩
  all_goals rw [HD.out]
  all_goals (try simp only [decide_eq_true_eq, Bool.false_eq_true])
  all_goals (constructor <;> intro h <;> first | omega | exact h.elim)
set_option maxHeartbeats 400000 in
theorem isDigit_any (c : UInt8) (w : World) :
    Calls Try.prog 88 #[.int .u8 (c.toNat : Int)] w fun e w' => e = .returned (.bool (digU c)) ∧ w' = w := by
  have HD : Hid _ := digU_i c
  go_enter Try.func88, Try.ntmps88
  go_wp2
  all_goals go_ret
  all_goals refine ⟨ret_b ?_, rfl⟩
  all_goals rw [HD.out]
  all_goals (try simp only [decide_eq_true_eq, Bool.false_eq_true])
  all_goals (constructor <;> intro h <;> first | omega | exact h.elim)
theorem eqc (c d : UInt8) : c = d ↔ (c.toNat : Int) = (d.toNat : Int) := by
  rw [← UInt8.toNat_inj]; omega
theorem eq45 (c : UInt8) : (c == 45) = true ↔ (c.toNat : Int) = 45 := by
  rw [beq_iff_eq, eqc]
  have : (45 : UInt8).toNat = 45 := rfl
  omega
theorem labU_i (c : UInt8) : labU c = true ↔ (97 ≤ (c.toNat : Int) ∧ (c.toNat : Int) ≤ 122) ∨ (65 ≤ (c.toNat : Int) ∧ (c.toNat : Int) ≤ 90) ∨ (48 ≤ (c.toNat : Int) ∧ (c.toNat : Int) ≤ 57) ∨ (c.toNat : Int) = 45 := by
  unfold labU
  simp only [Bool.or_eq_true, Bool.and_eq_true, decide_eq_true_eq, eq45, or_assoc, digU_i]
  omega
theorem labR_i (c : UInt8) : labR c = true ↔ (97 ≤ (c.toNat : Int) ∧ (c.toNat : Int) ≤ 122) ∨ (48 ≤ (c.toNat : Int) ∧ (c.toNat : Int) ≤ 57) ∨ (c.toNat : Int) = 45 := by
  unfold labR
  simp only [Bool.or_eq_true, Bool.and_eq_true, decide_eq_true_eq, eq45, or_assoc, digU_i]
  omega
set_option maxHeartbeats 1000000 in
theorem label1_any (c : UInt8) (w : World) :
    Calls Try.prog 92 #[.int .u8 (c.toNat : Int)] w fun e w' => e = .returned (.bool (labU c)) ∧ w' = w := by
  have HL : Hid _ := labU_i c
  obtain ⟨d, hd⟩ : ∃ d, d = digU c := ⟨_, rfl⟩
  have HI := digU_i c
  rw [← hd] at HI
  have HD : Hid _ := hd
  clear hd
  cases d
  all_goals
    have HJ : Hid _ := HI
    clear HI
    go_enter Try.func92, Try.ntmps92
    go_wp2_with (go_at_call 93; refine (hdigit_any _ _).mono ?_; rw [← HD.out]; rintro e w' ⟨rfl, rfl⟩)
    all_goals go_ret
    all_goals refine ⟨ret_b ?_, rfl⟩
    all_goals rw [HL.out]
    all_goals have HJ' := HJ.out
    all_goals (try simp only [decide_eq_true_eq, Bool.false_eq_true, beq_iff_eq, false_iff, true_iff, Bool.or_eq_true, Bool.and_eq_true] at HJ' ⊢)
    all_goals omega
def allB (p : UInt8 → Bool) (l : List UInt8) : Bool := l.all p
theorem all_no (p : UInt8 → Bool) (l : List UInt8) (k : Nat) (c : UInt8) (h : l[k]? = some c) (hc : p c = false) : allB p l = false := by
  unfold allB
  rw [List.all_eq_false]
  exact ⟨c, List.mem_of_getElem? h, by simp [hc]⟩
theorem all_yes (p : UInt8 → Bool) (l : List UInt8) (h : ∀ (j : Nat) c, l[j]? = some c → p c = true) : allB p l = true := by
  unfold allB
  rw [List.all_eq_true]
  intro c hc
  obtain ⟨k, hk⟩ := List.getElem?_of_mem hc
  exact h k c hk
set_option maxHeartbeats 1000000 in
theorem only_any (g : Nat) (p : UInt8 → Bool) (he : ∀ args w, (callFunc g args).run Try.prog w = .ok (.enter g args) w) (hg : ∀ (c : UInt8) (w : World), Calls Try.prog g #[.int .u8 (c.toNat : Int)] w fun e w' => e = .returned (.bool (p c)) ∧ w' = w)
    (s : ByteArray) (w : World) (hs : s.size ≤ maxLen) :
    Calls Try.prog 91 #[.string s, .func (.func g) #[] #[]] w fun e w' => e = .returned (.bool (allB p s.data.toList)) ∧ w' = w := by
  unfold maxLen at hs
  have HG : Hid _ := hg
  clear hg
  go_enter Try.func91, Try.ntmps91
  go_wp2
  go_loop [8] (fun i => ∃ k : Nat, k ≤ s.size ∧ i = .int .i64 k ∧ Hid (∀ (j : Nat) c, s.data.toList[j]? = some c → j < k → p c = true)) (fun i => s.size - (intOf i).toNat)
  case atStart => exact ⟨0, Nat.zero_le _, rfl, fun _ _ _ h => absurd h (by omega)⟩
  case round =>
    obtain ⟨k, hk, rfl, hb⟩ := hrel
    by_cases hlt : k < s.size
    · have HE : Hid (s.data.toList[k]? = some s[k]) := get_of s k hlt
      cases htk : p s[k]
      · have HT : Hid (allB p s.data.toList = false) := all_no p _ k _ HE.out htk
        go_wp2_with fail
        refine (HG.out _ _).mono ?_
        rw [htk]
        rintro e w' ⟨rfl, rfl⟩
        go_wp2_with fail
        go_ret
        refine ⟨?_, rfl⟩
        rw [HT.out]; rfl
      · go_wp2_with fail
        refine (HG.out _ _).mono ?_
        rw [htk]
        rintro e w' ⟨rfl, rfl⟩
        go_wp2_with fail
        go_round
        case rel =>
          refine ⟨k + 1, by omega, by go_num, fun j c hj hlt2 => ?_⟩
          by_cases e : j = k
          · subst e
            rw [HE.out] at hj
            injection hj with hj
            rw [← hj]; exact htk
          · exact hb.out j c hj (by omega)
        case measure => simp [intOf]; omega
    · have HT : Hid (allB p s.data.toList = true) := all_yes p _ (fun j c hj => hb.out j c hj (by have := (List.getElem?_eq_some_iff.1 hj).1; simp at this; omega))
      go_wp2_with fail
      go_ret
      refine ⟨?_, rfl⟩
      rw [HT.out]; rfl
theorem only_label (s : ByteArray) (w : World) (hs : s.size ≤ maxLen) :
    Calls Try.prog 91 #[.string s, .func (.func 92) #[] #[]] w fun e w' => e = .returned (.bool (allB labU s.data.toList)) ∧ w' = w :=
  only_any _ labU (enters_of Try.func92 (by kernel_rfl) rfl) label1_any s w hs
theorem only_digit (s : ByteArray) (w : World) (hs : s.size ≤ maxLen) :
    Calls Try.prog 91 #[.string s, .func (.func 93) #[] #[]] w fun e w' => e = .returned (.bool (allB digU s.data.toList)) ∧ w' = w :=
  only_any _ digU (enters_of Try.func93 (by kernel_rfl) rfl) hdigit_any s w hs
theorem head_get (s : ByteArray) (h : 0 < s.size) : s.data.toList.head? = some s[0] := by
  rw [List.head?_eq_getElem?]; exact get_of s 0 h
theorem last_get (s : ByteArray) (h : s.size - 1 < s.size) : s.data.toList.getLast? = some s[s.size - 1] := by
  rw [List.getLast?_eq_getElem?]; exact get_of s (s.size - 1) h
theorem endsL_i (s : ByteArray) : endsL s.data.toList = true ↔ ∃ h : 1 ≤ s.size, s.size ≤ 63 ∧ ((s[0]'(by omega)).toNat : Int) ≠ 45 ∧ ((s[s.size - 1]'(by omega)).toNat : Int) ≠ 45 := by
  unfold endsL
  have hl : s.data.toList.length = s.size := rfl
  by_cases h : 1 ≤ s.size
  · rw [head_get s (by omega), last_get s (by omega), hl]
    simp only [Bool.and_eq_true, decide_eq_true_eq, Bool.not_eq_true', Option.some_beq_some, h, true_and, exists_true_left, and_assoc]
    simp only [← Bool.not_eq_true, eq45]
  · simp [hl, h]
theorem size_nil (s : ByteArray) (h : ¬ 1 ≤ s.size) : s = ByteArray.empty := by
  apply ByteArray.ext
  have : s.data.size = 0 := by show s.size = 0; omega
  exact Array.size_eq_zero_iff.1 this
theorem ne_nil (s : ByteArray) (h : 1 ≤ s.size) : (s.toList == []) = false := by
  rw [Lib.toList_data, beq_eq_false_iff_ne]
  intro e
  have h0 : s.data.toList.length = 0 := by rw [e]; rfl
  have h2 : s.data.toList.length = s.size := rfl
  omega
theorem ends_no (s : ByteArray) (f : List UInt8 → Bool) (h : ¬ endsL s.data.toList = true) : (endsL s.data.toList && f s.data.toList) = false := by
  rw [Bool.not_eq_true] at h; rw [h]; rfl
set_option maxHeartbeats 1000000 in
theorem label_any (s : ByteArray) (w : World) (hs : s.size ≤ maxLen) :
    Calls Try.prog 85 #[.string s] w fun e w' => e = .returned (.bool (labelL s.data.toList)) ∧ w' = w := by
  have HS : Hid _ := hs
  have HE : Hid _ := endsL_i s
  unfold maxLen at hs
  by_cases h1 : 1 ≤ s.size
  · have hne := ne_nil s h1
    by_cases h2 : s.size ≤ 63
    · by_cases h3 : ((s[0]'(by omega)).toNat : Int) = 45
      · have h3b : (((s[0]'(by omega)).toNat : Int) == 45) = true := by rw [h3]; rfl
        have HT : Hid (labelL s.data.toList = false) := ends_no s (fun l => l.all labU) (fun h => by obtain ⟨_, _, h', _⟩ := HE.out.1 h; exact h' h3)
        clear HE h3
        go_enter Try.func85, Try.ntmps85
        go_wp2_with fail
        go_ret
        refine ⟨?_, rfl⟩
        rw [HT.out]; rfl
      · have h3b : (((s[0]'(by omega)).toNat : Int) == 45) = false := by rw [beq_eq_false_iff_ne]; exact h3
        by_cases h4 : ((s[s.size - 1]'(by omega)).toNat : Int) = 45
        · have h4b : (((s[s.size - 1]'(by omega)).toNat : Int) == 45) = true := by rw [h4]; rfl
          have HT : Hid (labelL s.data.toList = false) := ends_no s (fun l => l.all labU) (fun h => by obtain ⟨_, _, _, h'⟩ := HE.out.1 h; exact h' h4)
          clear HE h3 h4
          have e1 : ((s.size : Int) - 1).toNat = s.size - 1 := by omega
          go_enter Try.func85, Try.ntmps85
          go_wp2_with fail
          go_ret
          refine ⟨?_, rfl⟩
          rw [HT.out]; rfl
        · have h4b : (((s[s.size - 1]'(by omega)).toNat : Int) == 45) = false := by rw [beq_eq_false_iff_ne]; exact h4
          have HT : Hid (labelL s.data.toList = allB labU s.data.toList) := by
            have := HE.out.2 ⟨h1, h2, h3, h4⟩
            show (endsL _ && _) = _
            rw [this]; rfl
          clear HE h3 h4
          have e1 : ((s.size : Int) - 1).toNat = s.size - 1 := by omega
          go_enter Try.func85, Try.ntmps85
          go_wp2_with fail
          refine (only_label s _ HS.out).mono ?_
          rintro e w' ⟨rfl, rfl⟩
          go_wp2_with fail
          go_ret
          refine ⟨?_, rfl⟩
          rw [HT.out]; rfl
    · have HT : Hid (labelL s.data.toList = false) := ends_no s (fun l => l.all labU) (fun h => by obtain ⟨_, h', _⟩ := HE.out.1 h; exact h2 h')
      clear HE
      go_enter Try.func85, Try.ntmps85
      go_wp2_with fail
      go_ret
      refine ⟨?_, rfl⟩
      rw [HT.out]; rfl
  · have HT : Hid (labelL s.data.toList = false) := ends_no s (fun l => l.all labU) (fun h => by obtain ⟨h', _⟩ := HE.out.1 h; exact h1 h')
    clear HE
    obtain rfl := size_nil s h1
    go_enter Try.func85, Try.ntmps85
    go_wp2_with fail
    go_ret
    refine ⟨?_, rfl⟩
    rw [HT.out]; rfl
set_option maxHeartbeats 1000000 in
theorem isLabel_any (s : ByteArray) (w : World) (hs : s.size ≤ maxLen) :
    Calls Try.prog 80 #[.string s] w fun e w' => e = .returned (.bool (labelR s.data.toList)) ∧ w' = w := by
  have HE : Hid _ := endsL_i s
  unfold maxLen at hs
  by_cases h1 : 1 ≤ s.size
  · by_cases h2 : s.size ≤ 63
    · by_cases h3 : ((s[0]'(by omega)).toNat : Int) = 45
      · have h3b : (((s[0]'(by omega)).toNat : Int) == 45) = true := by rw [h3]; rfl
        have HT : Hid (labelR s.data.toList = false) := ends_no s (fun l => l.all labR) (fun h => by obtain ⟨_, _, h', _⟩ := HE.out.1 h; exact h' h3)
        clear HE h3
        go_enter Try.func80, Try.ntmps80
        go_wp2_with fail
        go_ret
        refine ⟨?_, rfl⟩
        rw [HT.out]; rfl
      · have h3b : (((s[0]'(by omega)).toNat : Int) == 45) = false := by rw [beq_eq_false_iff_ne]; exact h3
        by_cases h4 : ((s[s.size - 1]'(by omega)).toNat : Int) = 45
        · have h4b : (((s[s.size - 1]'(by omega)).toNat : Int) == 45) = true := by rw [h4]; rfl
          have HT : Hid (labelR s.data.toList = false) := ends_no s (fun l => l.all labR) (fun h => by obtain ⟨_, _, _, h'⟩ := HE.out.1 h; exact h' h4)
          clear HE h3 h4
          have e1 : ((s.size : Int) - 1).toNat = s.size - 1 := by omega
          go_enter Try.func80, Try.ntmps80
          go_wp2_with fail
          go_ret
          refine ⟨?_, rfl⟩
          rw [HT.out]; rfl
        · have h4b : (((s[s.size - 1]'(by omega)).toNat : Int) == 45) = false := by rw [beq_eq_false_iff_ne]; exact h4
          have HR : Hid (labelR s.data.toList = allB labR s.data.toList) := by
            have := HE.out.2 ⟨h1, h2, h3, h4⟩
            show (endsL _ && _) = _
            rw [this]; rfl
          clear HE h3 h4
          have e1 : ((s.size : Int) - 1).toNat = s.size - 1 := by omega
          go_enter Try.func80, Try.ntmps80
          go_wp2_with fail
          go_loop [3] (fun i => ∃ k : Nat, k ≤ s.size ∧ i = .int .i64 k ∧ Hid (∀ (j : Nat) c, s.data.toList[j]? = some c → j < k → labR c = true)) (fun i => s.size - (intOf i).toNat)
          case atStart => exact ⟨0, Nat.zero_le _, rfl, fun _ _ _ h => absurd h (by omega)⟩
          case round =>
            obtain ⟨k, hk, rfl, hb⟩ := hrel
            by_cases hlt : k < s.size
            · have HG : Hid (s.data.toList[k]? = some s[k]) := get_of s k hlt
              have HL : Hid _ := labR_i s[k]
              have HI : Hid _ := digU_i s[k]
              by_cases c1 : 97 ≤ (s[k].toNat : Int)
              · by_cases c2 : (s[k].toNat : Int) ≤ 122
                · have HT : Hid (labR s[k] = true) := HL.out.2 (by omega)
                  have HD : Hid (True) := trivial
                  go_wp2_with fail
                  go_round
                  case rel =>
                    refine ⟨k + 1, by omega, by go_num, fun j c hj hlt2 => ?_⟩
                    by_cases e : j = k
                    · subst e
                      rw [HG.out] at hj
                      injection hj with hj
                      rw [← hj]; exact HT.out
                    · exact hb.out j c hj (by omega)
                  case measure => simp [intOf]; omega
                · have HT : Hid (allB labR s.data.toList = false) := all_no labR _ k _ HG.out (by rw [← Bool.not_eq_true, HL.out]; omega)
                  have HD : Hid (digU s[k] = false) := by show _ = _; rw [← Bool.not_eq_true, HI.out]; omega
                  have c3 : ((s[k].toNat : Int) == 45) = false := by rw [beq_eq_false_iff_ne]; omega
                  go_wp2_with (go_at_call 88; refine (isDigit_any _ _).mono ?_; rw [HD.out]; rintro e w' ⟨rfl, rfl⟩)
                  go_ret
                  refine ⟨?_, rfl⟩
                  rw [HR.out, HT.out]; rfl
              · by_cases c2 : 48 ≤ (s[k].toNat : Int) ∧ (s[k].toNat : Int) ≤ 57
                · have HT : Hid (labR s[k] = true) := HL.out.2 (by omega)
                  have HD : Hid (digU s[k] = true) := HI.out.2 c2
                  clear c2
                  go_wp2_with (go_at_call 88; refine (isDigit_any _ _).mono ?_; rw [HD.out]; rintro e w' ⟨rfl, rfl⟩)
                  go_round
                  case rel =>
                    refine ⟨k + 1, by omega, by go_num, fun j c hj hlt2 => ?_⟩
                    by_cases e : j = k
                    · subst e
                      rw [HG.out] at hj
                      injection hj with hj
                      rw [← hj]; exact HT.out
                    · exact hb.out j c hj (by omega)
                  case measure => simp [intOf]; omega
                · have HD : Hid (digU s[k] = false) := by show _ = _; rw [← Bool.not_eq_true, HI.out]; omega
                  by_cases c3 : (s[k].toNat : Int) = 45
                  · have HT : Hid (labR s[k] = true) := HL.out.2 (by omega)
                    have c3b : ((s[k].toNat : Int) == 45) = true := by rw [c3]; rfl
                    clear c2 c3
                    go_wp2_with (go_at_call 88; refine (isDigit_any _ _).mono ?_; rw [HD.out]; rintro e w' ⟨rfl, rfl⟩)
                    go_round
                    case rel =>
                      refine ⟨k + 1, by omega, by go_num, fun j c hj hlt2 => ?_⟩
                      by_cases e : j = k
                      · subst e
                        rw [HG.out] at hj
                        injection hj with hj
                        rw [← hj]; exact HT.out
                      · exact hb.out j c hj (by omega)
                    case measure => simp [intOf]; omega
                  · have HT : Hid (allB labR s.data.toList = false) := all_no labR _ k _ HG.out (by rw [← Bool.not_eq_true, HL.out]; omega)
                    have c3b : ((s[k].toNat : Int) == 45) = false := by rw [beq_eq_false_iff_ne]; omega
                    clear c2 c3
                    go_wp2_with (go_at_call 88; refine (isDigit_any _ _).mono ?_; rw [HD.out]; rintro e w' ⟨rfl, rfl⟩)
                    go_ret
                    refine ⟨?_, rfl⟩
                    rw [HR.out, HT.out]; rfl
            · have HT : Hid (allB labR s.data.toList = true) := all_yes labR _ (fun j c hj => hb.out j c hj (by have := (List.getElem?_eq_some_iff.1 hj).1; simp at this; omega))
              go_wp2_with fail
              go_ret
              refine ⟨?_, rfl⟩
              rw [HR.out, HT.out]; rfl
    · have HT : Hid (labelR s.data.toList = false) := ends_no s (fun l => l.all labR) (fun h => by obtain ⟨_, h', _⟩ := HE.out.1 h; exact h2 h')
      clear HE
      go_enter Try.func80, Try.ntmps80
      go_wp2_with fail
      go_ret
      refine ⟨?_, rfl⟩
      rw [HT.out]; rfl
  · have HT : Hid (labelR s.data.toList = false) := ends_no s (fun l => l.all labR) (fun h => by obtain ⟨h', _⟩ := HE.out.1 h; exact h1 h')
    clear HE
    go_enter Try.func80, Try.ntmps80
    go_wp2_with fail
    go_ret
    refine ⟨?_, rfl⟩
    rw [HT.out]; rfl
end Go.Proofs.Ytcfdajaideidkaa
