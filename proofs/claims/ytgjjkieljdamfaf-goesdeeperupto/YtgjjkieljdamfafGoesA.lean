/- Contracts of package goes. -/
import Derived.Test.YtgjjkieljdamfafGoesM
import Derived.Test.YtgjjkieljdamfafHostC
import Derived.Test.YtgjjkieljdamfafPathB
import Derived.Laws.EntriesVeiled
namespace Go.Proofs.Ytgjjkieljdamfaf
open Go.RowKit
set_option linter.all false
set_option maxRecDepth 100000

/-- who asks, and when, as cells -/
def asL (f : Fr) (now : Int) : List Value := [.string (txt f.host), .string (txt f.path), .bool f.secure, .bool f.script, .bool f.abroad, .int .i64 now]
theorem beq_txt (a b : List UInt8) : ((txt a).toList == (txt b).toList) = (a == b) := by rw [Lib.toList_data, Lib.toList_data]; rfl
set_option maxHeartbeats 1000000 in
theorem live_any (c : Ck) (now : Int) (w : World) : Calls Try.prog 8 #[.agg (ckC c).toArray, .int .i64 now] w fun e w' => e = .returned (.bool (liveB c now)) ∧ Below w.heap.size w w' := by
  simp only [ckC]
  unfold liveB
  go_enter Try.func8, Try.ntmps8
  go_wp2_with fail
  go_ret
  exact ⟨rfl, (Below.refl _ _).alloc (Nat.le_refl _) _⟩
set_option maxHeartbeats 1000000 in
theorem inTime_any (c : Ck) (f : Fr) (now : Int) (w : World) : Calls Try.prog 38 #[.agg (asL f now).toArray, .agg (ckC c).toArray] w fun e w' => e = .returned (.bool (liveB c now)) ∧ Below w.heap.size w w' := by
  have HB : Hid (∀ x y, Below w.heap.size w ((w.alloc x).alloc y)) := fun x y => ((Below.refl _ _).alloc (Nat.le_refl _) _).alloc (by simp) _
  simp only [ckC, asL]
  go_enter Try.func38, Try.ntmps38
  go_wp2_with fail
  refine (live_any c now _).mono ?_
  rintro e w1 ⟨rfl, hb1⟩
  go_wp2_with fail
  go_ret
  exact ⟨rfl, next (HB.out _ _) hb1⟩
set_option maxHeartbeats 1000000 in
theorem atHost_any (c : Ck) (f : Fr) (now : Int) (w : World) (hh : f.host.length ≤ maxLen) (hd : c.domain.length < maxLen) :
    Calls Try.prog 39 #[.agg (asL f now).toArray, .agg (ckC c).toArray] w fun e w' => e = .returned (.bool (hostB c f)) ∧ Below w.heap.size w w' := by
  have HB : Hid (∀ x y, Below w.heap.size w ((w.alloc x).alloc y)) := fun x y => ((Below.refl _ _).alloc (Nat.le_refl _) _).alloc (by simp) _
  have HH : Hid _ := hh
  have HD : Hid _ := hd
  clear hh hd
  obtain ⟨q, hq⟩ : ∃ q, q = hostB c f := ⟨_, rfl⟩
  have HQ : Hid _ := hq
  unfold hostB at hq
  rw [← HQ.out]
  simp only [ckC, asL]
  obtain ⟨ho, hho⟩ : ∃ ho, ho = c.hostOnly := ⟨_, rfl⟩
  rw [← hho] at hq ⊢
  clear hho
  cases ho
  · rw [if_neg (by decide)] at hq
    have H1 : Hid _ := hq
    clear hq
    go_enter Try.func39, Try.ntmps39
    go_wp2_with fail
    refine (match_any (txt f.host) (txt c.domain) _ HH.out HD.out).mono ?_
    rw [txt_toList, txt_toList, ← H1.out]
    rintro e w1 ⟨rfl, hb1⟩
    go_wp2_with fail
    go_ret
    exact ⟨rfl, next (HB.out _ _) hb1⟩
  · rw [if_pos rfl, ← beq_txt] at hq
    replace hq := hq.symm
    clear HQ
    cases q
    all_goals
     go_enter Try.func39, Try.ntmps39
     go_wp2_with fail
     go_ret
     exact ⟨rfl, HB.out _ _⟩
set_option maxHeartbeats 1000000 in
theorem atPath_any (c : Ck) (f : Fr) (now : Int) (w : World) (hp : f.path.length ≤ maxLen) (hc : c.path.length ≤ maxLen) :
    Calls Try.prog 40 #[.agg (asL f now).toArray, .agg (ckC c).toArray] w fun e w' => e = .returned (.bool (pathB c f)) ∧ Below w.heap.size w w' := by
  have HB : Hid (∀ x y, Below w.heap.size w ((w.alloc x).alloc y)) := fun x y => ((Below.refl _ _).alloc (Nat.le_refl _) _).alloc (by simp) _
  have HH : Hid _ := hp
  have HD : Hid _ := hc
  clear hp hc
  unfold pathB
  simp only [ckC, asL]
  go_enter Try.func40, Try.ntmps40
  go_wp2_with fail
  refine (pmatch_any (txt f.path) (txt c.path) _ HH.out HD.out).mono ?_
  rintro e w1 ⟨rfl, rfl⟩
  go_wp2_with fail
  go_ret
  exact ⟨rfl, HB.out _ _⟩
set_option maxHeartbeats 1000000 in
theorem byWay_any (c : Ck) (f : Fr) (now : Int) (w : World) :
    Calls Try.prog 41 #[.agg (asL f now).toArray, .agg (ckC c).toArray] w fun e w' => e = .returned (.bool (wayB c f)) ∧ Below w.heap.size w w' := by
  have HB : Hid (∀ x y, Below w.heap.size w ((w.alloc x).alloc y)) := fun x y => ((Below.refl _ _).alloc (Nat.le_refl _) _).alloc (by simp) _
  unfold wayB
  simp only [ckC, asL]
  obtain ⟨a, ha⟩ : ∃ a, a = f.secure := ⟨_, rfl⟩
  obtain ⟨b, hb⟩ : ∃ b, b = c.secure := ⟨_, rfl⟩
  rw [← ha, ← hb]
  clear ha hb
  cases a <;> cases b
  all_goals
    go_enter Try.func41, Try.ntmps41
    go_wp2_with fail
    go_ret
    exact ⟨rfl, HB.out _ _⟩
set_option maxHeartbeats 1000000 in
theorem byHand_any (c : Ck) (f : Fr) (now : Int) (w : World) :
    Calls Try.prog 42 #[.agg (asL f now).toArray, .agg (ckC c).toArray] w fun e w' => e = .returned (.bool (handB c f)) ∧ Below w.heap.size w w' := by
  have HB : Hid (∀ x y, Below w.heap.size w ((w.alloc x).alloc y)) := fun x y => ((Below.refl _ _).alloc (Nat.le_refl _) _).alloc (by simp) _
  unfold handB
  simp only [ckC, asL]
  obtain ⟨a, ha⟩ : ∃ a, a = f.script := ⟨_, rfl⟩
  obtain ⟨b, hb⟩ : ∃ b, b = c.httpOnly := ⟨_, rfl⟩
  rw [← ha, ← hb]
  clear ha hb
  cases a <;> cases b
  all_goals
    go_enter Try.func42, Try.ntmps42
    go_wp2_with fail
    go_ret
    exact ⟨rfl, HB.out _ _⟩
set_option maxHeartbeats 1000000 in
theorem bySite_any (c : Ck) (f : Fr) (now : Int) (w : World) :
    Calls Try.prog 43 #[.agg (asL f now).toArray, .agg (ckC c).toArray] w fun e w' => e = .returned (.bool (siteB c f)) ∧ Below w.heap.size w w' := by
  have HB : Hid (∀ x y, Below w.heap.size w ((w.alloc x).alloc y)) := fun x y => ((Below.refl _ _).alloc (Nat.le_refl _) _).alloc (by simp) _
  unfold siteB
  simp only [ckC, asL]
  obtain ⟨a, ha⟩ : ∃ a, a = f.abroad := ⟨_, rfl⟩
  rw [← ha]
  clear ha
  by_cases h : c.site = 1
  · have h1 : (c.site == 1) = true := by rw [h]; rfl
    rw [decide_eq_true h]
    clear h
    cases a
    all_goals
      go_enter Try.func43, Try.ntmps43
      go_wp2_with fail
      go_ret
      exact ⟨rfl, HB.out _ _⟩
  · have h1 : (c.site == 1) = false := by rw [beq_eq_false_iff_ne]; exact h
    rw [decide_eq_false h]
    clear h
    cases a
    all_goals
      go_enter Try.func43, Try.ntmps43
      go_wp2_with fail
      go_ret
      exact ⟨rfl, HB.out _ _⟩
end Go.Proofs.Ytgjjkieljdamfaf
