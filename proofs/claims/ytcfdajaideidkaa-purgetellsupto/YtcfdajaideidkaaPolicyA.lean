/- The contracts of what names a cookie. -/
import Derived.Test.YtcfdajaideidkaaPolicyM
import Derived.Test.YtcfdajaideidkaaHostC
import Derived.Test.YtcfdajaideidkaaPathA
namespace Go.Proofs.Ytcfdajaideidkaa
open Go.RowKit
set_option linter.all false
set_option maxRecDepth 100000
set_option maxRecDepth 100000

theorem tx_t (a b : List UInt8) (h : a = b) : ((txt a).toList == (txt b).toList) = true := by subst h; simp
theorem tx_f (a b : List UInt8) (h : ¬ a = b) : ((txt a).toList == (txt b).toList) = false := by
  rw [beq_eq_false_iff_ne, Lib.toList_data, Lib.toList_data]; exact h
set_option maxHeartbeats 400000 in
theorem cl1_any (B : Nat) (n t : List UInt8) (w : World) (hc : w.cell? ⟨B, 1, none⟩ = some (.string (txt t))) :
    Calls Try.prog 71 #[.string (txt n), .pointer (some ⟨B, 0, none⟩)] w fun e w' => e = .returned (.bool (n == t)) ∧ w' = w := by
  by_cases h : n = t
  · have y := tx_t n t h
    have hr : (n == t) = true := by rw [h]; simp
    rw [hr]
    clear h hr
    go_enter Try.func71, Try.ntmps71
    go_wp2
    go_ret
    exact ⟨rfl, rfl⟩
  · have y := tx_f n t h
    have hr : (n == t) = false := by rw [beq_eq_false_iff_ne]; exact h
    rw [hr]
    clear h hr
    go_enter Try.func71, Try.ntmps71
    go_wp2
    go_ret
    exact ⟨rfl, rfl⟩
set_option maxHeartbeats 400000 in
theorem cl2_any (B : Nat) (n t : List UInt8) (w : World) (hc : w.cell? ⟨B, 1, none⟩ = some (.string (txt t))) (hn : n.length ≤ maxLen) :
    Calls Try.prog 72 #[.string (txt n), .pointer (some ⟨B, 0, none⟩)] w fun e w' => e = .returned (.bool (Lib.hasPrefix n t)) ∧ w' = w := by
  have HN : Hid ((txt n).size ≤ maxLen) := hn
  clear hn
  go_enter Try.func72, Try.ntmps72
  go_wp2_with fail
  refine (pre_any _ _ _ HN.out).mono ?_
  rintro e w1 ⟨rfl, rfl⟩
  go_wp2_with fail
  go_ret
  exact ⟨rfl, rfl⟩
set_option maxHeartbeats 400000 in
theorem cl3_any (B : Nat) (n t : List UInt8) (w : World) (hc : w.cell? ⟨B, 1, none⟩ = some (.string (txt t))) (hn : n.length ≤ maxLen) :
    Calls Try.prog 74 #[.string (txt n), .pointer (some ⟨B, 0, none⟩)] w fun e w' => e = .returned (.bool (Lib.hasSuffix n t)) ∧ w' = w := by
  have HN : Hid ((txt n).size ≤ maxLen) := hn
  clear hn
  go_enter Try.func74, Try.ntmps74
  go_wp2_with fail
  refine (suf_any _ _ _ HN.out).mono ?_
  rintro e w1 ⟨rfl, rfl⟩
  go_wp2_with fail
  go_ret
  exact ⟨rfl, rfl⟩
set_option maxHeartbeats 1000000 in
theorem byName_any (F : Nat) (B : Nat) (c : Ck) (x : Bool) (w : World) (ek : ∀ args w, (callFunc F args).run Try.prog w = .ok (.enter F args) w)
    (kf : ∀ w', Below w.heap.size w w' → Calls Try.prog F #[.string (txt c.name), .pointer (some ⟨B, 0, none⟩)] w' fun e w'' => e = .returned (.bool x) ∧ w'' = w') :
    Calls Try.prog 114 #[.func (.func F) #[] #[.pointer (some ⟨B, 0, none⟩)], .agg (ckC c).toArray] w fun e w' => e = .returned (.bool x) ∧ Below w.heap.size w w' := by
  have KF : Hid (∀ w', Below w.heap.size w w' → Calls Try.prog F #[.string (txt c.name), .pointer (some ⟨B, 0, none⟩)] w' fun e w'' => e = .returned (.bool x) ∧ w'' = w') := kf
  have HB : Hid (Below w.heap.size w (w.alloc (.cells (ckC c).toArray 34))) := (Below.refl _ w).alloc (Nat.le_refl _) _
  clear kf
  simp only [ckC] at HB ⊢
  go_enter Try.func114, Try.ntmps114
  go_wp2_with fail
  refine (KF.out _ HB.out).mono ?_
  rintro e w1 ⟨rfl, rfl⟩
  go_wp2_with fail
  go_ret
  exact ⟨rfl, HB.out⟩
set_option maxHeartbeats 1000000 in
theorem byDomain_any (c : Ck) (t : List UInt8) (w : World) (hd : c.domain.length ≤ maxLen) (ht : t.length < maxLen) :
    Calls Try.prog 115 #[.string (txt t), .agg (ckC c).toArray] w fun e w' => e = .returned (.bool (matchL c.domain t)) ∧ Below w.heap.size w w' := by
  have HD : Hid ((txt c.domain).size ≤ maxLen) := hd
  have HT : Hid ((txt t).size < maxLen) := ht
  have HB : Hid (Below w.heap.size w (w.alloc (.cells (ckC c).toArray 34))) := (Below.refl _ w).alloc (Nat.le_refl _) _
  clear hd ht
  simp only [ckC] at HB ⊢
  go_enter Try.func115, Try.ntmps115
  go_wp2_with fail
  refine (match_any _ _ _ HD.out HT.out).mono ?_
  rintro e w1 ⟨rfl, hb1⟩
  have HB1 : Hid _ := next HB.out hb1
  clear hb1
  go_wp2_with fail
  go_ret
  exact ⟨rfl, HB1.out⟩
end Go.Proofs.Ytcfdajaideidkaa
