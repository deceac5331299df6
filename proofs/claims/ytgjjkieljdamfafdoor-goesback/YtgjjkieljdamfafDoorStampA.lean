/- Contracts of package stamp on words: a byte that parts, a number, a time of day, a month. -/
import Derived.Test.YtgjjkieljdamfafDoorStampM
import Derived.Test.YtgjjkieljdamfafDoorShelf
namespace Go.Proofs.YtgjjkieljdamfafDoor
open Go.RowKit
set_option linter.all false
set_option maxRecDepth 100000

/-- what stamp's package variables hold -/
structure STabs (w : World) : Prop where
  clk : Tabs w
  part : ∀ k, k < 10 → w.cell? ⟨1, k, none⟩ = some (.int .i32 ([9, 9, 32, 47, 59, 64, 91, 96, 123, 126].getD k 0))
  mons : ∀ (k : Nat) x, monGreat[k]? = some x → w.cell? ⟨5, k, none⟩ = some (.string (txt x))
theorem STabs.below {w w' : World} {A : Nat} (T : STabs w) (hb : Below A w w') (hA : w.heap.size ≤ A) : STabs w' :=
  ⟨T.clk.below hb hA, fun k hk => (hb.cell (p := ⟨1, k, none⟩) (Nat.lt_of_lt_of_le (cell_in (T.part k hk)) hA)).trans (T.part k hk),
    fun k x hx => (hb.cell (p := ⟨5, k, none⟩) (Nat.lt_of_lt_of_le (cell_in (T.mons k x hx)) hA)).trans (T.mons k x hx)⟩
theorem STabs.drewN {w : World} (T : STabs w) (n : Nat) : STabs (w.drewN n) := T.below (below_drewN' w _ n) (Nat.le_refl _)

theorem digs_max (s : ByteArray) (k : Nat) (hk : k ≤ 4) (h : ∀ (j : Nat) c, s.data.toList[j]? = some c → j < k → digU c = true) : numL (s.data.toList.take k) ≤ 9999 := by
  have h1 := numL_max (s.data.toList.take k) (fun c hc => by
    obtain ⟨j, hj⟩ := List.getElem?_of_mem hc
    have hj2 := (List.getElem?_eq_some_iff.1 hj).1
    rw [List.length_take] at hj2
    rw [List.getElem?_take_of_lt (by omega)] at hj
    exact h j c hj (by omega))
  have hl : (s.data.toList.take k).length ≤ 4 := by rw [List.length_take]; omega
  have := Nat.pow_le_pow_right (n := 10) (by omega) hl
  omega
theorem lead_is (s : ByteArray) (k : Nat) (hk : k ≤ s.size) (h : ∀ (j : Nat) c, s.data.toList[j]? = some c → j < k → digU c = true) (h2 : ∀ c, s.data.toList[k]? = some c → digU c = false) :
    leadK s.data.toList = k ∧ leadL s.data.toList = s.data.toList.take k := by
  have hl : s.data.toList.length = s.size := rfl
  have e := (while_at digU s.data.toList k (by omega) h h2).1
  unfold leadK leadL
  rw [e, List.length_take]
  exact ⟨by omega, rfl⟩
theorem lead_more (s : ByteArray) (k : Nat) (hk : k ≤ s.size) (h : ∀ (j : Nat) c, s.data.toList[j]? = some c → j < k → digU c = true) : k ≤ leadK s.data.toList := by
  have hl : s.data.toList.length = s.size := rfl
  unfold leadK leadL
  have e : s.data.toList = s.data.toList.take k ++ s.data.toList.drop k := (List.take_append_drop k _).symm
  rw [e, List.takeWhile_append_of_pos (fun c hc => by
    obtain ⟨j, hj⟩ := List.getElem?_of_mem hc
    have hj2 := (List.getElem?_eq_some_iff.1 hj).1
    rw [List.length_take] at hj2
    rw [List.getElem?_take_of_lt (by omega)] at hj
    exact h j c hj (by omega)), List.length_append, List.length_take]
  omega
set_option maxHeartbeats 1000000 in
theorem number_any (s : ByteArray) (a b : Nat) (ha : a ≤ 4) (hb4 : b ≤ 4) (w : World) (hs : s.size ≤ maxLen) :
    Calls Tryd.prog 90 #[.string s, .int .i64 (a : Int), .int .i64 (b : Int)] w fun e w' =>
      e = .returned (.tuple #[.int .i64 (numV s.data.toList a b : Nat), .string (txt (numR s.data.toList a b)), .bool (numB s.data.toList a b)]) ∧ ∃ n, w' = w.drewN n := by
  unfold maxLen at hs
  go_enter Tryd.func90, Tryd.ntmps90
  go_wp2
  go_loop [9, 10] (fun nv kv => ∃ k : Nat, k ≤ s.size ∧ k ≤ b ∧ kv = .int .i64 k ∧ nv = .int .i64 (numL (s.data.toList.take k) : Nat) ∧ Hid (∀ (j : Nat) c, s.data.toList[j]? = some c → j < k → digU c = true)) (fun _ kv => s.size - (intOf kv).toNat)
  case atStart => exact ⟨0, Nat.zero_le _, Nat.zero_le _, rfl, rfl, fun _ _ _ h => absurd h (by omega)⟩
  case round =>
    obtain ⟨k, hk, hkb, rfl, rfl, hb⟩ := hrel
    have hmax : numL (s.data.toList.take k) ≤ 9999 := digs_max s k (by omega) hb.out
    by_cases hend : ∃ h : k < s.size, digU s[k] = true
    · obtain ⟨hlt, hd⟩ := hend
      have HG : Hid (s.data.toList[k]? = some s[k]) := get_of s k hlt
      have hd2 := digN _ hd
      have d1 : 48 ≤ (s[k].toNat : Int) := by omega
      have d2 : (s[k].toNat : Int) ≤ 57 := by omega
      have hb2 : Hid (∀ (j : Nat) c, s.data.toList[j]? = some c → j < k + 1 → digU c = true) := fun j c hj hlt2 => by
        by_cases e : j = k
        · subst e
          rw [HG.out] at hj
          injection hj with hj
          rw [← hj]; exact hd
        · exact hb.out j c hj (by omega)
      clear hd2 hd
      by_cases hm : k = b
      · subst hm
        obtain ⟨e1, e2, e3⟩ := num_no s.data.toList a k (by have := lead_more s (k + 1) (by omega) hb2.out; omega)
        have E : Hid (numB s.data.toList a k = false ∧ numV s.data.toList a k = 0 ∧ numR s.data.toList a k = []) := ⟨e1, e2, e3⟩
        clear e1 e2 e3
        obtain ⟨n, hn⟩ : ∃ n, n = numL (s.data.toList.take k) := ⟨_, rfl⟩
        rw [← hn] at hmax ⊢
        clear hn
        go_wp2_with fail
        go_ret3
        refine ⟨?_, 0, rfl⟩
        rw [E.out.1, E.out.2.1, E.out.2.2]; rfl
      · have HK : Hid ((10 : Int) * (numL (s.data.toList.take k) : Nat) + ((s[k].toNat : Int) - 48) = (numL (s.data.toList.take (k + 1)) : Nat)) := by
          show _ = _
          rw [numL_take s k hlt]; omega
        have hmb : ¬ (k : Int) = (b : Int) := by omega
        obtain ⟨n, hn⟩ : ∃ n, n = numL (s.data.toList.take k) := ⟨_, rfl⟩
        rw [← hn] at HK hmax ⊢
        clear hn
        go_wp2_with fail
        go_round
        case rel => exact ⟨k + 1, by omega, by omega, by go_num, by rw [← HK.out], hb2⟩
        case measure => simp [intOf]; omega
    · have hno : ∀ c, s.data.toList[k]? = some c → digU c = false := fun c hc => by
        have hlt : k < s.size := (List.getElem?_eq_some_iff.1 hc).1
        rw [get_of s k hlt] at hc
        injection hc with hc
        rw [← hc, ← Bool.not_eq_true]
        exact fun h => hend ⟨hlt, h⟩
      have hlk : leadK s.data.toList = k ∧ leadL s.data.toList = s.data.toList.take k := lead_is s k hk hb.out hno
      by_cases hla : k < a
      · obtain ⟨e1, e2, e3⟩ := num_no s.data.toList a b (by omega)
        have E : Hid (numB s.data.toList a b = false ∧ numV s.data.toList a b = 0 ∧ numR s.data.toList a b = []) := ⟨e1, e2, e3⟩
        clear e1 e2 e3 hlk
        obtain ⟨n, hn⟩ : ∃ n, n = numL (s.data.toList.take k) := ⟨_, rfl⟩
        rw [← hn] at hmax ⊢
        clear hn
        by_cases hlt : k < s.size
        · have hd3 : ¬ (48 ≤ (s[k].toNat : Int) ∧ (s[k].toNat : Int) ≤ 57) := fun h => hend ⟨hlt, (digU_i _).2 h⟩
          by_cases hd4 : 48 ≤ (s[k].toNat : Int)
          · have hd5 : 57 < (s[k].toNat : Int) := by omega
            clear hend hno hd3
            go_wp2_with fail
            go_ret3
            refine ⟨?_, 0, rfl⟩
            rw [E.out.1, E.out.2.1, E.out.2.2]; rfl
          · clear hend hno hd3
            go_wp2_with fail
            go_ret3
            refine ⟨?_, 0, rfl⟩
            rw [E.out.1, E.out.2.1, E.out.2.2]; rfl
        · clear hend hno
          go_wp2_with fail
          go_ret3
          refine ⟨?_, 0, rfl⟩
          rw [E.out.1, E.out.2.1, E.out.2.2]; rfl
      · obtain ⟨e1, e2, e3⟩ := num_yes s.data.toList a b (by omega) (by omega)
        rw [hlk.2] at e2
        rw [hlk.1] at e3
        have E : Hid (numB s.data.toList a b = true ∧ numV s.data.toList a b = numL (s.data.toList.take k) ∧ numR s.data.toList a b = s.data.toList.drop k) := ⟨e1, e2, e3⟩
        clear e1 e2 e3 hlk
        obtain ⟨n, hn⟩ : ∃ n, n = numL (s.data.toList.take k) := ⟨_, rfl⟩
        rw [← hn] at hmax E ⊢
        clear hn
        by_cases hlt : k < s.size
        · have hd3 : ¬ (48 ≤ (s[k].toNat : Int) ∧ (s[k].toNat : Int) ≤ 57) := fun h => hend ⟨hlt, (digU_i _).2 h⟩
          by_cases hd4 : 48 ≤ (s[k].toNat : Int)
          · have hd5 : 57 < (s[k].toNat : Int) := by omega
            clear hend hno hd3
            go_wp2_with fail
            go_quiet (fail)
            go_wp2
            go_ret3
            refine ⟨?_, _, rfl⟩
            rw [E.out.1, E.out.2.1, E.out.2.2, ← ext_from]; rfl
          · clear hend hno hd3
            go_wp2_with fail
            go_quiet (fail)
            go_wp2
            go_ret3
            refine ⟨?_, _, rfl⟩
            rw [E.out.1, E.out.2.1, E.out.2.2, ← ext_from]; rfl
        · clear hend hno
          go_wp2_with fail
          go_quiet (fail)
          go_wp2
          go_ret3
          refine ⟨?_, _, rfl⟩
          rw [E.out.1, E.out.2.1, E.out.2.2, ← ext_from]; rfl
end Go.Proofs.YtgjjkieljdamfafDoor
