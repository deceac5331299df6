/- The document's own answer: is one of a list; what may be done. -/
import Derived.Test.YtklpfbakjiaaoaaGrantC
import Derived.Test.YtklpfbakjiaaoaaGrantK
import Derived.Deep.RegionHeld3
import Derived.Deep.Cut
import Derived.Deep.CutRange
import Derived.Deep.RegionWith
import Derived.BigQuiet
namespace Go.Proofs.Ytklpfbakjiaaoaa
open Go.RowKit
set_option linter.all false
set_option maxRecDepth 100000

set_option maxHeartbeats 2000000 in
theorem hasV_any (v : Value) (l : List Int) (x : Int) (w : World) (hr : Rows w v intF l) (hm : l.length ≤ maxLen) :
    Calls Try.prog 24 #[v, .int .i64 x] w fun e w' => e = .returned (.bool (l.contains x)) ∧ w' = w := by
  obtain ⟨ad, cap, rfl⟩ := hr.shape
  obtain ⟨z, hz⟩ : ∃ z, z = l.contains x := ⟨_, rfl⟩
  rw [← hz]
  obtain ⟨n, hn⟩ : ∃ n, n = l.length := ⟨_, rfl⟩
  have HR : Hid (Rows w (.slice ad n cap) intF l) := by rw [hn]; exact hr
  have HZ1 : Hid (x ∈ l → z = true) := fun h => by rw [hz]; exact List.contains_iff_mem.2 h
  have HZ0 : Hid ((∀ (j : Nat) y, l[j]? = some y → y ≠ x) → z = false) := fun h => by
    rw [hz]
    cases hc : l.contains x
    · rfl
    · obtain ⟨j, hj⟩ := List.getElem?_of_mem (List.contains_iff_mem.1 hc)
      exact absurd rfl (h j x hj)
  have HN : Hid _ := hn
  rw [← hn] at hm ⊢
  unfold maxLen at hm
  clear hr hz hn
  go_enter Try.func24, Try.ntmps24
  go_wp2_with fail
  go_loopw [5] (fun i wr => ∃ k : Nat, k ≤ n ∧ i = .int .i64 k ∧ Hid (∀ (j : Nat) y, j < k → l[j]? = some y → y ≠ x) ∧ wr = w) (fun i _ => n - (intOf i).toNat)
  case atStart => exact ⟨0, Nat.zero_le _, rfl, fun _ _ h _ => absurd h (by omega), rfl⟩
  case round =>
    obtain ⟨k, hk, rfl, hall, hwr⟩ := hrel
    subst hwr
    by_cases hlt : k < n
    · obtain ⟨y, e1⟩ : ∃ y, l[k]? = some y := ⟨_, List.getElem?_eq_getElem (by rw [← HN.out]; exact hlt)⟩
      obtain ⟨bl, ol, rfl, hbl, hcell⟩ := Rows.at HR.out rfl 0 (fun _ => rfl) k y e1
      have c0 := hcell 0 _ rfl
      rw [show ol + k * (0 + 1) + 0 = ol + k by omega] at c0
      have HE : Hid _ := e1
      clear e1 hcell hbl
      by_cases hxy : y = x
      · have q : (y == x) = true := by rw [hxy]; simp
        have HX : Hid (z = true) := HZ1.out (by rw [← hxy]; exact List.mem_of_getElem? HE.out)
        clear hxy
        go_wp2_with fail
        go_ret
        exact ⟨by rw [HX.out]; rfl, by first | trivial | rfl⟩
      · have q : (y == x) = false := by rw [beq_eq_false_iff_ne]; exact hxy
        have HA : Hid (∀ (j : Nat) y, j < k + 1 → l[j]? = some y → y ≠ x) := fun j u hj hu => by
          by_cases e : j = k
          · rw [e, HE.out] at hu
            injection hu with hu
            rw [← hu]; exact hxy
          · exact hall.out j u (by omega) hu
        clear hxy
        go_wp2_with fail
        go_roundw
        case rel => exact ⟨k + 1, by omega, by go_num, HA, by first | trivial | rfl⟩
        case measure => simp [intOf]; omega
    · have HX : Hid (z = false) := HZ0.out fun j y hj => hall.out j y (by have := (List.getElem?_eq_some_iff.1 hj).1; rw [← HN.out] at this; omega) hj
      go_wp2_with fail
      go_ret
      exact ⟨by rw [HX.out]; rfl, by first | trivial | rfl⟩
def mayPre (c : Cn) (p : Int) (k : Nat) : Bool := decide (p = 0) || (List.range k).any fun j => decide (p = (j : Int) + 1) && c.ps[j]?.getD false
theorem mayPre_succ (c : Cn) (p : Int) (k : Nat) : mayPre c p (k + 1) = (mayPre c p k || (decide (p = (k : Int) + 1) && c.ps[k]?.getD false)) := by
  unfold mayPre
  rw [List.range_succ, List.any_append]
  simp only [List.any_cons, List.any_nil, Bool.or_false, Bool.or_assoc]
theorem mayPre_ten (c : Cn) (p : Int) : mayPre c p 10 = (decide (p = 0) || purC c p) := by
  unfold mayPre
  congr 1
  rw [Bool.eq_iff_iff, List.any_eq_true]
  constructor
  · rintro ⟨j, hj, h⟩
    rw [Bool.and_eq_true, decide_eq_true_eq] at h
    have hj := List.mem_range.1 hj
    unfold purC
    rw [decide_eq_true (show 1 ≤ p by omega), decide_eq_true (show p ≤ 10 by omega), show (p - 1).toNat = j by omega, h.2]; rfl
  · intro h
    unfold purC at h
    rw [Bool.and_eq_true, Bool.and_eq_true, decide_eq_true_eq, decide_eq_true_eq] at h
    obtain ⟨⟨h1, h2⟩, h3⟩ := h
    refine ⟨(p - 1).toNat, List.mem_range.2 (by omega), ?_⟩
    rw [Bool.and_eq_true, decide_eq_true_eq]
    exact ⟨by omega, h3⟩
set_option maxHeartbeats 8000000 in
theorem mayOf_any (c : Cn) (v : Value) (p n : Int) (w : World) (hr : Rows w v intF c.vs) (hm : c.vs.length ≤ maxLen) (hp : -9223372036854775808 ≤ p ∧ p ≤ 9223372036854775807) (hn : -9223372036854775808 ≤ n ∧ n ≤ 9223372036854775807) :
    Calls Try.prog 15 #[.agg #[.int .i64 c.g, .bool c.b0, .bool c.b1, .bool c.b2, .bool c.b3, .bool c.b4, .bool c.b5, .bool c.b6, .bool c.b7, .bool c.b8, .bool c.b9, v], .int .i64 p, .int .i64 n] w fun e w' => e = .returned (.bool (mayC c p n)) ∧ Below w.heap.size w w' := by
  obtain ⟨z, hz⟩ : ∃ z, z = mayC c p n := ⟨_, rfl⟩
  obtain ⟨y, hy⟩ : ∃ y, y = c.vs.contains n := ⟨_, rfl⟩
  have HZ : Hid (z = (mayPre c p 10 && (decide (n = 0) || y))) := by show _ = _; rw [hz, hy, mayPre_ten]; rfl
  have KH : Hid (∀ w', Rows w' v intF c.vs → Calls Try.prog 24 #[v, .int .i64 n] w' fun e w'' => e = .returned (.bool y) ∧ w'' = w') := fun w' h => by rw [hy]; exact hasV_any v c.vs n w' h hm
  rw [← hz]
  obtain ⟨W0, hW0⟩ : ∃ W0, W0 = (w.alloc (.cells #[.int .i64 c.g, .bool c.b0, .bool c.b1, .bool c.b2, .bool c.b3, .bool c.b4, .bool c.b5, .bool c.b6, .bool c.b7, .bool c.b8, .bool c.b9, v] 25)) := ⟨_, rfl⟩
  have C : Hid (CB W0 w.heap.size c v) := by
    rw [hW0]
    have h := CB.new w c v 25 hr
    exact h
  have S : Hid (Below w.heap.size w W0) := by rw [hW0]; exact below_new _ _
  have HW0 : Hid _ := hW0
  have HP : Hid (-9223372036854775808 ≤ p ∧ p ≤ 9223372036854775807) := hp
  clear hz hy hr hm hn hW0
  go_enter Try.func15, Try.ntmps15
  go_upto_region 1 with fail
  rw [← HW0.out]
  clear HW0
  obtain ⟨b0, hb0⟩ : ∃ b, b = decide (p = 0) := ⟨_, rfl⟩
  have hq0 : (p == 0) = b0 := by
    rw [hb0]
    by_cases e : p = 0
    · rw [decide_eq_true e, e]; rfl
    · rw [decide_eq_false e]; exact (beq_eq_false_iff_ne).2 e
  have HB0 : Hid (b0 = mayPre c p 0) := by show _ = _; rw [hb0]; unfold mayPre; simp
  clear hb0
  go_wp2_with fail
  clear hq0
  go_loopw [7, 8] (fun a i wr => ∃ (k : Nat) (b : Bool), k ≤ 10 ∧ i = .int .i64 k ∧ a = .bool b ∧ Hid (b = mayPre c p k) ∧ wr = W0) (fun _ i _ => 10 - (intOf i).toNat)
  case atStart => exact ⟨0, b0, Nat.zero_le _, rfl, rfl, HB0, rfl⟩
  case round =>
    obtain ⟨k, b, hk, rfl, rfl, hbb, hwr⟩ := hrel
    subst hwr
    by_cases hlt : k < 10
    · obtain ⟨x, hx⟩ : ∃ x, x = c.ps[k]?.getD false := ⟨_, rfl⟩
      have cx : wr.cell? ⟨w.heap.size, 1 + k, none⟩ = some (.bool x) := by rw [hx]; exact C.out.row.cell (1 + k) (ps_get c v k hlt)
      have HS : Hid (mayPre c p (k + 1) = (b || (decide (p = (k : Int) + 1) && x))) := by show _ = _; rw [mayPre_succ, ← hbb.out, ← hx]
      clear hx
      cases b
      · by_cases e : p = (k : Int) + 1
        · have q : (p == (k : Int) + 1) = true := by rw [e]; simp
          have H2 : Hid (x = mayPre c p (k + 1)) := by show _ = _; rw [HS.out, decide_eq_true e]; simp
          clear e
          go_wp2_with fail
          go_roundw
          case rel => exact ⟨k + 1, x, by omega, by go_num, rfl, H2, by first | trivial | rfl⟩
          case measure => simp [intOf]; omega
        · have q : (p == (k : Int) + 1) = false := by rw [beq_eq_false_iff_ne]; exact e
          have H2 : Hid (false = mayPre c p (k + 1)) := by show _ = _; rw [HS.out, decide_eq_false e]; simp
          clear e
          go_wp2_with fail
          go_roundw
          case rel => exact ⟨k + 1, false, by omega, by go_num, rfl, H2, by first | trivial | rfl⟩
          case measure => simp [intOf]; omega
      · have H2 : Hid (true = mayPre c p (k + 1)) := by show _ = _; rw [HS.out]; simp
        go_wp2_with fail
        go_roundw
        case rel => exact ⟨k + 1, true, by omega, by go_num, rfl, H2, by first | trivial | rfl⟩
        case measure => simp [intOf]; omega
    · have HZ2 : Hid (z = (b && (decide (n = 0) || y))) := by show _ = _; rw [HZ.out, hbb.out, show k = 10 by omega]
      have c11 := C.out.row.cell 11 rfl
      cases b
      · have HX : Hid (z = false) := by show _ = _; rw [HZ2.out]; rfl
        go_wp2_with fail
        go_ret
        exact ⟨by rw [HX.out]; rfl, S.out⟩
      · by_cases hn0 : n = 0
        · have q : (n == 0) = true := by rw [hn0]; rfl
          have HX : Hid (z = true) := by show _ = _; rw [HZ2.out, decide_eq_true hn0]; rfl
          clear hn0
          go_wp2_with fail
          go_ret
          exact ⟨by rw [HX.out]; rfl, S.out⟩
        · have q : (n == 0) = false := by rw [beq_eq_false_iff_ne]; exact hn0
          have HX : Hid (z = y) := by show _ = _; rw [HZ2.out, decide_eq_false hn0]; simp
          clear hn0
          go_wp2_with fail
          refine (KH.out _ C.out.rows).mono ?_
          rintro e w2 ⟨rfl, rfl⟩
          go_wp2_with fail
          go_ret
          exact ⟨by rw [HX.out]; rfl, S.out⟩
end Go.Proofs.Ytklpfbakjiaaoaa
