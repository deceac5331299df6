/- The contract of Goes. -/
import Derived.Test.YtgjjkieljdamfafGoesQ
namespace Go.Proofs.Ytgjjkieljdamfaf
open Go.RowKit
set_option linter.all false
set_option maxRecDepth 100000

def qB (c : Ck) (f : Fr) (now : Int) : List Bool := [liveB c now, hostB c f, pathB c f, wayB c f, handB c f, siteB c f]
theorem goes_qs (c : Ck) (f : Fr) (now : Int) : goesL c f now = (qB c f now).all id := by unfold goesL qB; simp
theorem goes_no {c : Ck} {f : Fr} {now : Int} (k : Nat) (h : (qB c f now)[k]? = some false) : goesL c f now = false := by
  rw [goes_qs, List.all_eq_false]
  exact ⟨false, List.mem_of_getElem? h, by decide⟩
theorem goes_yes {c : Ck} {f : Fr} {now : Int} (h : ∀ (k : Nat) b, (qB c f now)[k]? = some b → b = true) : goesL c f now = true := by
  rw [goes_qs, List.all_eq_true]
  intro b hb
  obtain ⟨k, hk⟩ := List.getElem?_of_mem hb
  exact h k b hk
set_option maxHeartbeats 4000000 in
theorem goes_any (c : Ck) (f : Fr) (now : Int) (w : World) (hh : f.host.length ≤ maxLen) (hp : f.path.length ≤ maxLen) (hd : c.domain.length < maxLen) (hc : c.path.length ≤ maxLen) :
    Calls Try.prog 10 #[.agg (ckC c).toArray, .agg (frL f).toArray, .int .i64 now] w fun e w' => e = .returned (.bool (goesL c f now)) ∧ Below w.heap.size w w' := by
  have HH : Hid _ := hh
  have HP : Hid _ := hp
  have HD : Hid _ := hd
  have HC : Hid _ := hc
  clear hh hp hd hc
  obtain ⟨W0, hW0⟩ : ∃ W0, W0 = (((w.alloc (.cells (ckC c).toArray 23)).alloc (.cells (frL f).toArray 25)).alloc (.cells (asL f now).toArray 45)) := ⟨_, rfl⟩
  have B0 : Hid (Below w.heap.size w W0) := by
    rw [hW0]
    exact (((Below.refl _ _).alloc (Nat.le_refl _) _).alloc (by simp) _).alloc (by simp; omega) _
  have C0 : Hid (LRow W0 w.heap.size (ckC c)) := by
    rw [hW0]
    exact ((LRow.new w (ckC c) _).below ((Below.refl _ _).alloc (Nat.le_refl _) _) (by simp)).below ((Below.refl _ _).alloc (Nat.le_refl _) _) (by simp; omega)
  obtain ⟨g, hg⟩ : ∃ g, g = goesL c f now := ⟨_, rfl⟩
  have HG : Hid _ := hg
  rw [← hg]
  clear hg
  simp only [ckC, frL, asL] at hW0 ⊢
  go_enter Try.func10, Try.ntmps10
  go_wp2_with fail
  rw [← hW0]
  clear hW0
  refine (questions_any f now W0).mono ?_
  simp only [qsL]
  rintro e w1 ⟨rfl, hb1⟩
  have B1 : Hid (Below w.heap.size w w1) := next B0.out hb1
  have C1 : Hid (LRow w1 w.heap.size (ckC c)) := C0.out.below hb1 (cell_in (C0.out.cell 0 rfl))
  clear hb1
  go_wp2_with fail
  go_loopw [15] (fun i wr => ∃ (k : Nat) (z : Int), k ≤ 6 ∧ z = k ∧ i = .int .i64 z ∧ Hid (Below w1.heap.size w1 wr) ∧ Hid (∀ (j : Nat) b, j < k → (qB c f now)[j]? = some b → b = true)) (fun i _ => 6 - (intOf i).toNat)
  case atStart => exact ⟨0, 0, by omega, rfl, rfl, Below.refl _ _, fun j b hj => absurd hj (by omega)⟩
  case round =>
    obtain ⟨k, z, hk, hz, rfl, hb, hq⟩ := hrel
    have CK := C1.out.below hb.out (cell_in (C1.out.cell 0 rfl))
    have h7 : k = 0 ∨ k = 1 ∨ k = 2 ∨ k = 3 ∨ k = 4 ∨ k = 5 ∨ k = 6 := by omega
    rcases h7 with rfl | rfl | rfl | rfl | rfl | rfl | rfl
    · obtain rfl : z = 0 := hz
      obtain ⟨q, hqq⟩ : ∃ q, q = liveB c now := ⟨_, rfl⟩
      have HQ : Hid ((qB c f now)[0]? = some q) := by rw [hqq]; rfl
      have HE : Hid _ := hqq
      clear hqq
      have x0 := CK.cell 0 rfl
      have x1 := CK.cell 1 rfl
      have x2 := CK.cell 2 rfl
      have x3 := CK.cell 3 rfl
      have x4 := CK.cell 4 rfl
      have x5 := CK.cell 5 rfl
      have x6 := CK.cell 6 rfl
      have x7 := CK.cell 7 rfl
      have x8 := CK.cell 8 rfl
      have x9 := CK.cell 9 rfl
      have x10 := CK.cell 10 rfl
      have x11 := CK.cell 11 rfl
      have x12 := CK.cell 12 rfl
      clear CK
      go_wp2_with fail
      rw [ix_in _ _ _ _ _ _ _ 0 _ (by decide) rfl]
      go_wp2_with fail
      refine (inTime_any c f now _).mono ?_
      rw [← HE.out]
      rintro e w2 ⟨rfl, hb2⟩
      cases q
      · have HN : Hid (g = false) := by show _ = _; rw [HG.out]; exact goes_no 0 HQ.out
        go_wp2_with fail
        go_ret
        exact ⟨by rw [HN.out]; rfl, next (next B1.out hb.out) hb2⟩
      · go_wp2_with fail
        go_roundw
        case rel => exact ⟨1, 1, by omega, rfl, rfl, next hb.out hb2, fun j b hj h => by
          rcases Nat.lt_or_ge j 0 with h' | h'
          · exact hq.out j b h' h
          · obtain rfl : j = 0 := by omega
            rw [HQ.out] at h; exact (Option.some.inj h).symm⟩
        case measure => simp [intOf]
    · obtain rfl : z = 1 := hz
      obtain ⟨q, hqq⟩ : ∃ q, q = hostB c f := ⟨_, rfl⟩
      have HQ : Hid ((qB c f now)[1]? = some q) := by rw [hqq]; rfl
      have HE : Hid _ := hqq
      clear hqq
      have x0 := CK.cell 0 rfl
      have x1 := CK.cell 1 rfl
      have x2 := CK.cell 2 rfl
      have x3 := CK.cell 3 rfl
      have x4 := CK.cell 4 rfl
      have x5 := CK.cell 5 rfl
      have x6 := CK.cell 6 rfl
      have x7 := CK.cell 7 rfl
      have x8 := CK.cell 8 rfl
      have x9 := CK.cell 9 rfl
      have x10 := CK.cell 10 rfl
      have x11 := CK.cell 11 rfl
      have x12 := CK.cell 12 rfl
      clear CK
      go_wp2_with fail
      rw [ix_in _ _ _ _ _ _ _ 1 _ (by decide) rfl]
      go_wp2_with fail
      refine (atHost_any c f now _ HH.out HD.out).mono ?_
      rw [← HE.out]
      rintro e w2 ⟨rfl, hb2⟩
      cases q
      · have HN : Hid (g = false) := by show _ = _; rw [HG.out]; exact goes_no 1 HQ.out
        go_wp2_with fail
        go_ret
        exact ⟨by rw [HN.out]; rfl, next (next B1.out hb.out) hb2⟩
      · go_wp2_with fail
        go_roundw
        case rel => exact ⟨2, 2, by omega, rfl, rfl, next hb.out hb2, fun j b hj h => by
          rcases Nat.lt_or_ge j 1 with h' | h'
          · exact hq.out j b h' h
          · obtain rfl : j = 1 := by omega
            rw [HQ.out] at h; exact (Option.some.inj h).symm⟩
        case measure => simp [intOf]
    · obtain rfl : z = 2 := hz
      obtain ⟨q, hqq⟩ : ∃ q, q = pathB c f := ⟨_, rfl⟩
      have HQ : Hid ((qB c f now)[2]? = some q) := by rw [hqq]; rfl
      have HE : Hid _ := hqq
      clear hqq
      have x0 := CK.cell 0 rfl
      have x1 := CK.cell 1 rfl
      have x2 := CK.cell 2 rfl
      have x3 := CK.cell 3 rfl
      have x4 := CK.cell 4 rfl
      have x5 := CK.cell 5 rfl
      have x6 := CK.cell 6 rfl
      have x7 := CK.cell 7 rfl
      have x8 := CK.cell 8 rfl
      have x9 := CK.cell 9 rfl
      have x10 := CK.cell 10 rfl
      have x11 := CK.cell 11 rfl
      have x12 := CK.cell 12 rfl
      clear CK
      go_wp2_with fail
      rw [ix_in _ _ _ _ _ _ _ 2 _ (by decide) rfl]
      go_wp2_with fail
      refine (atPath_any c f now _ HP.out HC.out).mono ?_
      rw [← HE.out]
      rintro e w2 ⟨rfl, hb2⟩
      cases q
      · have HN : Hid (g = false) := by show _ = _; rw [HG.out]; exact goes_no 2 HQ.out
        go_wp2_with fail
        go_ret
        exact ⟨by rw [HN.out]; rfl, next (next B1.out hb.out) hb2⟩
      · go_wp2_with fail
        go_roundw
        case rel => exact ⟨3, 3, by omega, rfl, rfl, next hb.out hb2, fun j b hj h => by
          rcases Nat.lt_or_ge j 2 with h' | h'
          · exact hq.out j b h' h
          · obtain rfl : j = 2 := by omega
            rw [HQ.out] at h; exact (Option.some.inj h).symm⟩
        case measure => simp [intOf]
    · obtain rfl : z = 3 := hz
      obtain ⟨q, hqq⟩ : ∃ q, q = wayB c f := ⟨_, rfl⟩
      have HQ : Hid ((qB c f now)[3]? = some q) := by rw [hqq]; rfl
      have HE : Hid _ := hqq
      clear hqq
      have x0 := CK.cell 0 rfl
      have x1 := CK.cell 1 rfl
      have x2 := CK.cell 2 rfl
      have x3 := CK.cell 3 rfl
      have x4 := CK.cell 4 rfl
      have x5 := CK.cell 5 rfl
      have x6 := CK.cell 6 rfl
      have x7 := CK.cell 7 rfl
      have x8 := CK.cell 8 rfl
      have x9 := CK.cell 9 rfl
      have x10 := CK.cell 10 rfl
      have x11 := CK.cell 11 rfl
      have x12 := CK.cell 12 rfl
      clear CK
      go_wp2_with fail
      rw [ix_in _ _ _ _ _ _ _ 3 _ (by decide) rfl]
      go_wp2_with fail
      refine (byWay_any c f now _).mono ?_
      rw [← HE.out]
      rintro e w2 ⟨rfl, hb2⟩
      cases q
      · have HN : Hid (g = false) := by show _ = _; rw [HG.out]; exact goes_no 3 HQ.out
        go_wp2_with fail
        go_ret
        exact ⟨by rw [HN.out]; rfl, next (next B1.out hb.out) hb2⟩
      · go_wp2_with fail
        go_roundw
        case rel => exact ⟨4, 4, by omega, rfl, rfl, next hb.out hb2, fun j b hj h => by
          rcases Nat.lt_or_ge j 3 with h' | h'
          · exact hq.out j b h' h
          · obtain rfl : j = 3 := by omega
            rw [HQ.out] at h; exact (Option.some.inj h).symm⟩
        case measure => simp [intOf]
    · obtain rfl : z = 4 := hz
      obtain ⟨q, hqq⟩ : ∃ q, q = handB c f := ⟨_, rfl⟩
      have HQ : Hid ((qB c f now)[4]? = some q) := by rw [hqq]; rfl
      have HE : Hid _ := hqq
      clear hqq
      have x0 := CK.cell 0 rfl
      have x1 := CK.cell 1 rfl
      have x2 := CK.cell 2 rfl
      have x3 := CK.cell 3 rfl
      have x4 := CK.cell 4 rfl
      have x5 := CK.cell 5 rfl
      have x6 := CK.cell 6 rfl
      have x7 := CK.cell 7 rfl
      have x8 := CK.cell 8 rfl
      have x9 := CK.cell 9 rfl
      have x10 := CK.cell 10 rfl
      have x11 := CK.cell 11 rfl
      have x12 := CK.cell 12 rfl
      clear CK
      go_wp2_with fail
      rw [ix_in _ _ _ _ _ _ _ 4 _ (by decide) rfl]
      go_wp2_with fail
      refine (byHand_any c f now _).mono ?_
      rw [← HE.out]
      rintro e w2 ⟨rfl, hb2⟩
      cases q
      · have HN : Hid (g = false) := by show _ = _; rw [HG.out]; exact goes_no 4 HQ.out
        go_wp2_with fail
        go_ret
        exact ⟨by rw [HN.out]; rfl, next (next B1.out hb.out) hb2⟩
      · go_wp2_with fail
        go_roundw
        case rel => exact ⟨5, 5, by omega, rfl, rfl, next hb.out hb2, fun j b hj h => by
          rcases Nat.lt_or_ge j 4 with h' | h'
          · exact hq.out j b h' h
          · obtain rfl : j = 4 := by omega
            rw [HQ.out] at h; exact (Option.some.inj h).symm⟩
        case measure => simp [intOf]
    · obtain rfl : z = 5 := hz
      obtain ⟨q, hqq⟩ : ∃ q, q = siteB c f := ⟨_, rfl⟩
      have HQ : Hid ((qB c f now)[5]? = some q) := by rw [hqq]; rfl
      have HE : Hid _ := hqq
      clear hqq
      have x0 := CK.cell 0 rfl
      have x1 := CK.cell 1 rfl
      have x2 := CK.cell 2 rfl
      have x3 := CK.cell 3 rfl
      have x4 := CK.cell 4 rfl
      have x5 := CK.cell 5 rfl
      have x6 := CK.cell 6 rfl
      have x7 := CK.cell 7 rfl
      have x8 := CK.cell 8 rfl
      have x9 := CK.cell 9 rfl
      have x10 := CK.cell 10 rfl
      have x11 := CK.cell 11 rfl
      have x12 := CK.cell 12 rfl
      clear CK
      go_wp2_with fail
      rw [ix_in _ _ _ _ _ _ _ 5 _ (by decide) rfl]
      go_wp2_with fail
      refine (bySite_any c f now _).mono ?_
      rw [← HE.out]
      rintro e w2 ⟨rfl, hb2⟩
      cases q
      · have HN : Hid (g = false) := by show _ = _; rw [HG.out]; exact goes_no 5 HQ.out
        go_wp2_with fail
        go_ret
        exact ⟨by rw [HN.out]; rfl, next (next B1.out hb.out) hb2⟩
      · go_wp2_with fail
        go_roundw
        case rel => exact ⟨6, 6, by omega, rfl, rfl, next hb.out hb2, fun j b hj h => by
          rcases Nat.lt_or_ge j 5 with h' | h'
          · exact hq.out j b h' h
          · obtain rfl : j = 5 := by omega
            rw [HQ.out] at h; exact (Option.some.inj h).symm⟩
        case measure => simp [intOf]
    · obtain rfl : z = 6 := hz
      have HN : Hid (g = true) := by show _ = _; rw [HG.out]; exact goes_yes (fun j b h => hq.out j b (by have := (List.getElem?_eq_some_iff.1 h).1; exact this) h)
      clear CK
      go_wp2_with fail
      go_ret
      exact ⟨by rw [HN.out]; rfl, next B1.out hb.out⟩
end Go.Proofs.Ytgjjkieljdamfaf
