/- Contracts of package path and of what it calls of the library: the last place of a byte, a beginning, what is behind it; a path's default, a match. -/
import Derived.Test.YtcfdajaideidkaaWordB
import Derived.Test.YtcfdajaideidkaaPathM
namespace Go.Proofs.Ytcfdajaideidkaa
open Go.RowKit
set_option linter.all false
set_option maxRecDepth 100000

theorem eqB (c b : UInt8) : c = b ↔ (c.toNat : Int) = (b.toNat : Int) := by
  rw [← UInt8.toNat_inj]; omega
theorem eq47 (c : UInt8) : c = 47 ↔ (c.toNat : Int) = 47 := eqB c 47
/-- the last place of a byte -/
def LastAt (l : List UInt8) (b : UInt8) (r : Int) : Prop :=
  (r = -1 ∧ ∀ (j : Nat) c, l[j]? = some c → c ≠ b) ∨ ∃ k : Nat, r = k ∧ l[k]? = some b ∧ ∀ (j : Nat) c, l[j]? = some c → k < j → c ≠ b
theorem lastAt_one {l : List UInt8} {b : UInt8} {r r' : Int} (h : LastAt l b r) (h' : LastAt l b r') : r = r' := by
  rcases h with ⟨rfl, h⟩ | ⟨k, rfl, hk, h⟩ <;> rcases h' with ⟨rfl, h'⟩ | ⟨k', rfl, hk', h'⟩
  · rfl
  · exact absurd rfl (h _ _ hk')
  · exact absurd rfl (h' _ _ hk)
  · rcases Nat.lt_trichotomy k k' with hl | hl | hl
    · exact absurd rfl (h _ _ hk' hl)
    · rw [hl]
    · exact absurd rfl (h' _ _ hk hl)
set_option maxHeartbeats 1000000 in
theorem prel_any (s p : ByteArray) (w : World) (hs : s.size ≤ maxLen) :
    Calls Try.prog 82 #[.string s, .string p] w fun e w' => e = .returned (.bool (Lib.hasPrefix s.data.toList p.data.toList)) ∧ w' = w := by
  unfold maxLen at hs
  have HR : Hid _ := Lib.hasPrefix_raw s p
  by_cases h : p.size ≤ s.size
  · go_enter Try.func82, Try.ntmps82
    go_wp2
    go_ret
    refine ⟨?_, rfl⟩
    rw [← HR.out]
    simp [h]
  · go_enter Try.func82, Try.ntmps82
    go_wp2
    go_ret
    refine ⟨?_, rfl⟩
    rw [← HR.out]
    simp [h]
set_option maxHeartbeats 400000 in
theorem pre_any (s p : ByteArray) (w : World) (hs : s.size ≤ maxLen) :
    Calls Try.prog 73 #[.string s, .string p] w fun e w' => e = .returned (.bool (Lib.hasPrefix s.data.toList p.data.toList)) ∧ w' = w := by
  go_enter Try.func73, Try.ntmps73
  go_wp2_with fail
  refine (prel_any _ _ _ hs).mono ?_
  rintro e w' ⟨rfl, rfl⟩
  go_wp2_with fail
  go_ret
  exact ⟨rfl, rfl⟩
theorem default_flat (l : List UInt8) (h : deepB l = false) : defaultL l = [47] := by unfold defaultL; rw [h]; rfl
theorem default_deep (l : List UInt8) (h : deepB l = true) : defaultL l = aheadL l := by unfold defaultL; rw [h]; rfl
theorem count_none (l : List UInt8) (h : ∀ (j : Nat) c, l[j]? = some c → c ≠ 47) : l.count 47 = 0 := by
  rw [List.count_eq_zero]
  intro hm
  obtain ⟨j, hj⟩ := List.getElem?_of_mem hm
  exact h j _ hj rfl
theorem default_no (l : List UInt8) (h : ∀ (j : Nat) c, l[j]? = some c → c ≠ 47) : defaultL l = [47] := by
  apply default_flat
  rw [← Bool.not_eq_true, deep_iff, count_none l h]
  omega
theorem default_beg (l : List UInt8) (h : ¬ l.head? = some 47) : defaultL l = [47] := by
  apply default_flat
  rw [← Bool.not_eq_true, deep_iff]
  exact fun h' => h h'.1
theorem default_count (l : List UInt8) (h : l.count 47 = 1) : defaultL l = [47] := by
  apply default_flat
  rw [← Bool.not_eq_true, deep_iff, h]
  omega
theorem count_zero (l : List UInt8) (h0 : l[0]? = some 47) (h : ∀ (j : Nat) c, l[j]? = some c → 0 < j → c ≠ 47) : l.count 47 = 1 := by
  cases l with
  | nil => cases h0
  | cons c r =>
    have hc : c = 47 := by simpa using h0
    subst hc
    have hr := count_none r (fun j c hj => h (j + 1) c (by simpa using hj) (by omega))
    simp [hr]
theorem count_split (l : List UInt8) (k : Nat) (hk : l[k]? = some 47) (h : ∀ (j : Nat) c, l[j]? = some c → k < j → c ≠ 47) :
    l.count 47 = (l.take k).count 47 + 1 ∧ (∃ r, l = l.take k ++ 47 :: r ∧ 47 ∉ r) := by
  obtain ⟨hl, he⟩ := List.getElem?_eq_some_iff.1 hk
  have e : l = l.take k ++ 47 :: l.drop (k + 1) := by
    conv => lhs; rw [← List.take_append_drop k l, List.drop_eq_getElem_cons hl, he]
  have hn : 47 ∉ l.drop (k + 1) := by
    intro hm
    obtain ⟨j, hj⟩ := List.getElem?_of_mem hm
    rw [List.getElem?_drop] at hj
    exact h _ _ hj (by omega) rfl
  refine ⟨?_, _, e, hn⟩
  conv => lhs; rw [e, List.count_append, List.count_cons_self, List.count_eq_zero.2 hn]
theorem ahead_at (l : List UInt8) (k : Nat) (hk : l[k]? = some 47) (h : ∀ (j : Nat) c, l[j]? = some c → k < j → c ≠ 47) : aheadL l = l.take k := by
  obtain ⟨_, r, e, hr⟩ := count_split l k hk h
  have hr2 : ∀ c ∈ r.reverse, (fun c : UInt8 => c != 47) c = true := by
    intro c hc
    have : c ∈ r := by simpa using hc
    simp only [bne_iff_ne, ne_eq]
    intro e'
    rw [e'] at this
    exact hr this
  unfold aheadL
  conv => lhs; rw [e]
  rw [List.reverse_append, List.reverse_cons, List.append_assoc, List.dropWhile_append_of_pos hr2]
  simp
theorem default_at (l : List UInt8) (k : Nat) (h0 : l.head? = some 47) (hp : 0 < k) (hk : l[k]? = some 47) (h : ∀ (j : Nat) c, l[j]? = some c → k < j → c ≠ 47) : defaultL l = l.take k := by
  rw [default_deep, ahead_at l k hk h]
  rw [deep_iff]
  refine ⟨h0, ?_⟩
  rw [(count_split l k hk h).1]
  have : 47 ∈ l.take k := by
    apply List.mem_of_getElem? (i := 0)
    rw [List.getElem?_take_of_lt hp, ← List.head?_eq_getElem?]
    exact h0
  have := List.count_pos_iff.2 this
  omega
theorem head_47 (s : ByteArray) (h : 0 < s.size) : (s.data.toList.head? = some 47) ↔ ((s[0]'h).toNat : Int) = 47 := by
  rw [List.head?_eq_getElem?, get_of s 0 h]
  constructor
  · intro e; injection e with e; exact (eq47 _).1 e
  · intro e; rw [(eq47 _).2 e]
theorem last_ex (l : List UInt8) (b : UInt8) : ∃ r, LastAt l b r := by
  have key : ∀ n : Nat, n ≤ l.length → (∃ r, LastAt l b r) ∨ ∀ (j : Nat) c, l[j]? = some c → l.length - n ≤ j → c ≠ b := by
    intro n
    induction n with
    | zero => intro _; right; intro j c hj h; have := (List.getElem?_eq_some_iff.1 hj).1; omega
    | succ n ih =>
      intro hn
      rcases ih (by omega) with h | h
      · exact .inl h
      · have hlt : l.length - (n + 1) < l.length := by omega
        by_cases e : l[l.length - (n + 1)] = b
        · left
          exact ⟨_, .inr ⟨_, rfl, by rw [List.getElem?_eq_getElem hlt, e], fun j c hj hlt => h j c hj (by omega)⟩⟩
        · right
          intro j c hj hle
          by_cases hj2 : j = l.length - (n + 1)
          · subst hj2
            rw [List.getElem?_eq_getElem hlt] at hj
            injection hj with hj
            rw [← hj]; exact e
          · exact h j c hj (by omega)
  rcases key l.length (Nat.le_refl _) with h | h
  · exact h
  · exact ⟨-1, .inl ⟨rfl, fun j c hj => h j c hj (by omega)⟩⟩
end Go.Proofs.Ytcfdajaideidkaa
