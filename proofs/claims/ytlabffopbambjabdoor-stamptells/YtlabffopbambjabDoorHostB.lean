/- Contracts of hosts as they are compared: the program's and the reference's. -/
import Derived.Test.YtlabffopbambjabDoorHostA
namespace Go.Proofs.YtlabffopbambjabDoor
open Go.RowKit
set_option linter.all false

/-- a host as it is compared, and the error -/
def canonL (l : List UInt8) : List UInt8 := if l.length ≤ 253 then (if hostL l then foldL l else []) else []
def canonE (l : List UInt8) : Int := if l.length ≤ 253 then (if hostL l then 0 else 1) else 2
theorem host_no (p : List UInt8 → Bool) (l : List (List UInt8)) (k : Nat) (x : List UInt8) (h : l[k]? = some x) (hx : p x = false) : l.all p = false := by
  rw [List.all_eq_false]
  exact ⟨x, List.mem_of_getElem? h, by simp [hx]⟩
theorem host_yes (p : List UInt8 → Bool) (l : List (List UInt8)) (h : ∀ (j : Nat) x, l[j]? = some x → p x = true) : l.all p = true := by
  rw [List.all_eq_true]
  intro x hx
  obtain ⟨k, hk⟩ := List.getElem?_of_mem hx
  exact h k x hk
theorem parts_short (l : List UInt8) (b : UInt8) : ∀ x ∈ partsL l b, x.length ≤ l.length := by
  induction l with
  | nil => intro x hx; simp [partsL] at hx; simp [hx]
  | cons c l ih =>
    intro x hx
    by_cases h : c = b
    · simp only [partsL, h, if_true, List.mem_cons] at hx
      rcases hx with rfl | hx
      · simp
      · have := ih x hx; simp; omega
    · obtain ⟨p, ps, e1, e2⟩ := partsL_cons c l b h
      rw [e2, List.mem_cons] at hx
      rw [e1] at ih
      rcases hx with rfl | hx
      · have := ih p (by simp); simp; omega
      · have := ih x (by simp [hx]); simp; omega
theorem parts_size (s : ByteArray) (b : UInt8) (k : Nat) (x : List UInt8) (h : (partsL s.data.toList b)[k]? = some x) : (txt x).size ≤ s.size := parts_short _ b x (List.mem_of_getElem? h)
theorem digN (c : UInt8) (h : digU c = true) : 48 ≤ c.toNat ∧ c.toNat ≤ 57 := by
  unfold digU at h
  simpa only [Bool.and_eq_true, decide_eq_true_eq] using h
theorem numL_take (s : ByteArray) (k : Nat) (h : k < s.size) : numL (s.data.toList.take (k + 1)) = numL (s.data.toList.take k) * 10 + (s[k].toNat - 48) := by
  have e := List.take_succ_eq_append_getElem (l := s.data.toList) (i := k) (by simpa using h)
  rw [e, numL_snoc]; rfl
theorem numL_rev (r : List UInt8) (h : ∀ c ∈ r, digU c = true) : numL r.reverse + 1 ≤ 10 ^ r.length := by
  induction r with
  | nil => simp [numL]
  | cons c r ih =>
    have h1 := ih (fun d hd => h d (by simp [hd]))
    have h2 := digN c (h c (by simp))
    rw [List.reverse_cons, numL_snoc, List.length_cons, Nat.pow_succ]
    omega
theorem numL_max (l : List UInt8) (h : ∀ c ∈ l, digU c = true) : numL l + 1 ≤ 10 ^ l.length := by
  have := numL_rev l.reverse (fun c hc => h c (by simpa using hc))
  rwa [List.reverse_reverse, List.length_reverse] at this
theorem octetL_i (s : ByteArray) : octetL s.data.toList = (decide (1 ≤ s.size) && decide (s.size ≤ 3) && !(decide (1 < s.size) && s.data.toList.head? == some 48) && allB digU s.data.toList && decide (numL s.data.toList ≤ 255)) := rfl
theorem octet_no1 (s : ByteArray) (h : ¬ (1 ≤ s.size ∧ s.size ≤ 3)) : octetL s.data.toList = false := by
  rw [octetL_i]
  by_cases h1 : 1 ≤ s.size
  · have h2 : ¬ s.size ≤ 3 := fun e => h ⟨h1, e⟩
    simp [h2]
  · simp [h1]
theorem octet_no2 (s : ByteArray) (h1 : 1 < s.size) (h : ((s[0]'(by omega)).toNat : Int) = 48) : octetL s.data.toList = false := by
  rw [octetL_i, head_get s (by omega)]
  have e : s[0]'(by omega) = 48 := UInt8.toNat_inj.1 (by have : (48 : UInt8).toNat = 48 := rfl; omega)
  rw [e]
  simp [h1]
theorem octet_no3 (s : ByteArray) (h : allB digU s.data.toList = false) : octetL s.data.toList = false := by
  rw [octetL_i, h]; simp
theorem octet_yes (s : ByteArray) (h1 : 1 ≤ s.size) (h2 : s.size ≤ 3) (h3 : 1 < s.size → ((s[0]'(by omega)).toNat : Int) ≠ 48) (h4 : allB digU s.data.toList = true) : octetL s.data.toList = decide (numL s.data.toList ≤ 255) := by
  rw [octetL_i, h4, head_get s (by omega)]
  by_cases h : 1 < s.size
  · have e : (s[0]'(by omega) == 48) = false := by
      rw [beq_eq_false_iff_ne]
      intro e
      exact h3 h (by rw [e]; rfl)
    simp [h1, h2, h, e]
  · simp [h1, h2, h]
/-- the number of the first k bytes, of five at most -/
def nAt (s : ByteArray) (k : Nat) : Nat := numL (s.data.toList.take (min k 5))
theorem nAt_lt (s : ByteArray) (k : Nat) (h : k < s.size) (h5 : k < 5) : nAt s (k + 1) = nAt s k * 10 + (s[k].toNat - 48) := by
  unfold nAt
  rw [show min (k + 1) 5 = k + 1 by omega, show min k 5 = k by omega]
  exact numL_take s k h
theorem nAt_ge (s : ByteArray) (k : Nat) (h5 : ¬ k < 5) : nAt s (k + 1) = nAt s k := by
  unfold nAt
  rw [show min (k + 1) 5 = 5 by omega, show min k 5 = 5 by omega]
theorem nAt_max (s : ByteArray) (k : Nat) (h : ∀ (j : Nat) c, s.data.toList[j]? = some c → j < k → digU c = true) : nAt s k ≤ 99999 := by
  unfold nAt
  have h1 := numL_max (s.data.toList.take (min k 5)) (fun c hc => by
    obtain ⟨j, hj⟩ := List.getElem?_of_mem hc
    have hj2 := (List.getElem?_eq_some_iff.1 hj).1
    rw [List.length_take] at hj2
    rw [List.getElem?_take_of_lt (by omega)] at hj
    exact h j c hj (by omega))
  have hl : (s.data.toList.take (min k 5)).length ≤ 5 := by rw [List.length_take]; omega
  have := Nat.pow_le_pow_right (n := 10) (by omega) hl
  omega
/-- how many digits a text begins with, and the number of the first five -/
def leadK (l : List UInt8) : Nat := (leadL l).length
def leadN (l : List UInt8) : Nat := numL ((leadL l).take 5)
theorem lead_at (s : ByteArray) (k : Nat) (hk : k ≤ s.size) (h : ∀ (j : Nat) c, s.data.toList[j]? = some c → j < k → digU c = true) (h2 : ∀ c, s.data.toList[k]? = some c → digU c = false) :
    leadK s.data.toList = k ∧ leadN s.data.toList = nAt s k := by
  have hl : s.data.toList.length = s.size := rfl
  have e := (while_at digU s.data.toList k (by omega) h h2).1
  unfold leadK leadN nAt leadL
  rw [e, List.length_take, List.take_take]
  refine ⟨by omega, ?_⟩
  congr 2
  omega
set_option maxHeartbeats 1000000 in
theorem leadDigits_any (s : ByteArray) (w : World) (hs : s.size ≤ maxLen) :
    Calls Tryd.prog 31 #[.string s] w fun e w' => e = .returned (.tuple #[.int .i64 (leadK s.data.toList : Nat), .int .i64 (leadN s.data.toList : Nat)]) ∧ w' = w := by
  unfold maxLen at hs
  go_enter Tryd.func31, Tryd.ntmps31
  go_wp2
  go_loop [4, 5] (fun kv nv => ∃ k : Nat, k ≤ s.size ∧ kv = .int .i64 k ∧ nv = .int .i64 (nAt s k : Nat) ∧ Hid (∀ (j : Nat) c, s.data.toList[j]? = some c → j < k → digU c = true)) (fun kv _ => s.size - (intOf kv).toNat)
  case atStart => exact ⟨0, Nat.zero_le _, rfl, rfl, fun _ _ _ h => absurd h (by omega)⟩
  case round =>
    obtain ⟨k, hk, rfl, rfl, hb⟩ := hrel
    have hmax := nAt_max s k hb.out
    by_cases hlt : k < s.size
    · have HG : Hid (s.data.toList[k]? = some s[k]) := get_of s k hlt
      cases hd : digU s[k]
      · obtain ⟨ek, en⟩ := lead_at s k hk hb.out (fun c hc => by rw [HG.out] at hc; injection hc with hc; rw [← hc]; exact hd)
        have EK : Hid _ := ek
        have EN : Hid _ := en
        clear ek en
        obtain ⟨n, hn⟩ : ∃ n, n = nAt s k := ⟨_, rfl⟩
        rw [← hn] at EN hmax ⊢
        clear hn
        go_wp2_with (go_at_call 43; refine (isDigit_any _ _).mono ?_; rw [hd]; rintro e w' ⟨rfl, rfl⟩)
        go_ret2
        refine ⟨?_, rfl⟩
        rw [EK.out, EN.out]; rfl
      · have hd2 := digN _ hd
        have d1 : 48 ≤ (s[k].toNat : Int) := by omega
        have d2 : (s[k].toNat : Int) ≤ 57 := by omega
        clear hd2
        have hb2 : Hid (∀ (j : Nat) c, s.data.toList[j]? = some c → j < k + 1 → digU c = true) := fun j c hj hlt2 => by
          by_cases e : j = k
          · subst e
            rw [HG.out] at hj
            injection hj with hj
            rw [← hj]; exact hd
          · exact hb.out j c hj (by omega)
        by_cases h5 : k < 5
        · have HK : Hid (((nAt s k : Nat) : Int) * 10 + (s[k].toNat : Int) - 48 = (nAt s (k + 1) : Nat)) := by
            show _ = _
            rw [nAt_lt s k hlt h5]; omega
          obtain ⟨n, hn⟩ : ∃ n, n = nAt s k := ⟨_, rfl⟩
          rw [← hn] at HK hmax ⊢
          clear hn
          go_wp2_with (go_at_call 43; refine (isDigit_any _ _).mono ?_; rw [hd]; rintro e w' ⟨rfl, rfl⟩)
          go_round
          case rel => exact ⟨k + 1, by omega, by go_num, by rw [← HK.out], hb2⟩
          case measure => simp [intOf]; omega
        · have HK : Hid (nAt s (k + 1) = nAt s k) := nAt_ge s k h5
          obtain ⟨n, hn⟩ : ∃ n, n = nAt s k := ⟨_, rfl⟩
          rw [← hn] at HK hmax ⊢
          clear hn
          go_wp2_with (go_at_call 43; refine (isDigit_any _ _).mono ?_; rw [hd]; rintro e w' ⟨rfl, rfl⟩)
          go_round
          case rel => exact ⟨k + 1, by omega, by go_num, by rw [HK.out], hb2⟩
          case measure => simp [intOf]; omega
    · obtain ⟨ek, en⟩ := lead_at s k hk hb.out (fun c hc => by have := (List.getElem?_eq_some_iff.1 hc).1; simp at this; omega)
      have EK : Hid _ := ek
      have EN : Hid _ := en
      clear ek en
      obtain ⟨n, hn⟩ : ∃ n, n = nAt s k := ⟨_, rfl⟩
      rw [← hn] at EN hmax ⊢
      clear hn
      go_wp2_with fail
      go_ret2
      refine ⟨?_, rfl⟩
      rw [EK.out, EN.out]; rfl
end Go.Proofs.YtlabffopbambjabDoor
