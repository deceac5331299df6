/- GoesLess: for all cookies, all two who ask for the same host and path and all two moments: later no more go along, out of a script, for another site, or by a way that is not secure neither. No condition. -/
import Derived.Test.YtgjjkieljdamfafGoesC
import Derived.Test.YtgjjkieljdamfafOpen
import Derived.Test.YtgjjkieljdamfafOpenF
import Derived.Test.YtgjjkieljdamfafRows
namespace Go.Proofs.Ytgjjkieljdamfaf.goesLess
open Go.ChangeShapes Go.WideShapes Go.ChangeAt Go.RowKit
open Go.ChangeMaps (open_string shut_string)
set_option linter.all false
set_option maxRecDepth 100000

theorem same_t (a b : List UInt8) (h : a = b) : ((txt a).toList == (txt b).toList) = true := by subst h; simp
theorem same_f (a b : List UInt8) (h : ¬ a = b) : ((txt a).toList == (txt b).toList) = false := by
  rw [beq_eq_false_iff_ne, Lib.toList_data, Lib.toList_data]; exact h
set_option maxHeartbeats 8000000 in
theorem walk (c : Ck) (f g : Fr) (now later : Int) (w : World) (hc : CkOk 140737488351232 c) (hf : f.host.length ≤ 140737488351232 ∧ f.path.length ≤ 140737488351232) (hg : g.host.length ≤ 140737488351232 ∧ g.path.length ≤ 140737488351232)
    (hn : -9223372036854775808 ≤ now ∧ now ≤ 9223372036854775807) (hl : -9223372036854775808 ≤ later ∧ later ≤ 9223372036854775807) :
    Calls Try.prog 4 #[.agg (ckC c).toArray, .agg (frL f).toArray, .agg (frL g).toArray, .int .i64 now, .int .i64 later] w fun e w' => e = .returned (.bool true) ∧ Below w.heap.size w w' := by
  obtain ⟨fh, fp, f2, f3, f4⟩ := f
  obtain ⟨gh, gp, g2, g3, g4⟩ := g
  dsimp only at hf hg
  have HF : Hid (fh.length ≤ maxLen ∧ fp.length ≤ maxLen) := ⟨by unfold maxLen; omega, by unfold maxLen; omega⟩
  have HG : Hid (gh.length ≤ maxLen ∧ gp.length ≤ maxLen) := ⟨by unfold maxLen; omega, by unfold maxLen; omega⟩
  have HD : Hid (c.domain.length < maxLen ∧ c.path.length ≤ maxLen) := ⟨by have := hc.domain; unfold maxLen; omega, by have := hc.path; unfold maxLen; omega⟩
  clear hc hf hg hn hl
  obtain ⟨W0, hW0⟩ : ∃ W0, W0 = (((w.alloc (.cells (ckC c).toArray 23)).alloc (.cells (frL ⟨fh, fp, f2, f3, f4⟩).toArray 25)).alloc (.cells (frL ⟨gh, gp, g2, g3, g4⟩).toArray 25)) := ⟨_, rfl⟩
  have B0 : Hid (Below w.heap.size w W0) := by
    rw [hW0]
    exact (((Below.refl _ _).alloc (Nat.le_refl _) _).alloc (by simp) _).alloc (by simp; omega) _
  have C0 : Hid (LRow W0 w.heap.size (ckC c)) := by
    rw [hW0]
    exact ((LRow.new w (ckC c) _).below ((Below.refl _ _).alloc (Nat.le_refl _) _) (by simp)).below ((Below.refl _ _).alloc (Nat.le_refl _) _) (by simp; omega)
  have F0 : Hid (LRow W0 (w.heap.size + 1) (frL ⟨fh, fp, f2, f3, f4⟩)) := by
    rw [hW0]
    have h := LRow.new (w.alloc (.cells (ckC c).toArray 23)) (frL ⟨fh, fp, f2, f3, f4⟩) 25
    rw [show (w.alloc (.cells (ckC c).toArray 23)).heap.size = w.heap.size + 1 from by simp] at h
    exact h.below ((Below.refl _ _).alloc (Nat.le_refl _) _) (by simp)
  have G0 : Hid (LRow W0 (w.heap.size + 1 + 1) (frL ⟨gh, gp, g2, g3, g4⟩)) := by
    rw [hW0]
    have h := LRow.new ((w.alloc (.cells (ckC c).toArray 23)).alloc (.cells (frL ⟨fh, fp, f2, f3, f4⟩).toArray 25)) (frL ⟨gh, gp, g2, g3, g4⟩) 25
    rw [show ((w.alloc (.cells (ckC c).toArray 23)).alloc (.cells (frL ⟨fh, fp, f2, f3, f4⟩).toArray 25)).heap.size = w.heap.size + 1 + 1 from by simp] at h
    exact h
  simp only [ckC, frL] at hW0 ⊢
  go_enter Try.func4, Try.ntmps4
  go_wp2_with fail
  rw [← hW0]
  clear hW0
  refine (goesBegun_any _).mono ?_
  rintro e w1 ⟨rfl, hb1⟩
  have B1 : Hid (Below w.heap.size w w1) := next B0.out hb1
  have C1 : Hid (LRow w1 w.heap.size (ckC c)) := C0.out.below hb1 (cell_in (C0.out.cell 0 rfl))
  have F1 : Hid (LRow w1 (w.heap.size + 1) (frL ⟨fh, fp, f2, f3, f4⟩)) := F0.out.below hb1 (cell_in (F0.out.cell 0 rfl))
  have G1 : Hid (LRow w1 (w.heap.size + 1 + 1) (frL ⟨gh, gp, g2, g3, g4⟩)) := G0.out.below hb1 (cell_in (G0.out.cell 0 rfl))
  clear hb1 B0 C0 F0 G0
  by_cases q1 : later < now
  · skip
    have a0 := F1.out.cell 0 rfl
    have a1 := F1.out.cell 1 rfl
    have a2 := F1.out.cell 2 rfl
    have a3 := F1.out.cell 3 rfl
    have a4 := F1.out.cell 4 rfl
    have b0 := G1.out.cell 0 rfl
    have b1 := G1.out.cell 1 rfl
    have b2 := G1.out.cell 2 rfl
    have b3 := G1.out.cell 3 rfl
    have b4 := G1.out.cell 4 rfl
    go_wp2_with fail
    go_ret
    exact ⟨rfl, B1.out⟩
  · skip
    have K1 : Hid (now ≤ later) := by show _ ≤ _; omega
    by_cases q2 : gh = fh
    rotate_left
    · have y2 : ((txt gh).toList == (txt fh).toList) = false := same_f _ _ q2
      clear q2
      have a0 := F1.out.cell 0 rfl
      have a1 := F1.out.cell 1 rfl
      have a2 := F1.out.cell 2 rfl
      have a3 := F1.out.cell 3 rfl
      have a4 := F1.out.cell 4 rfl
      have b0 := G1.out.cell 0 rfl
      have b1 := G1.out.cell 1 rfl
      have b2 := G1.out.cell 2 rfl
      have b3 := G1.out.cell 3 rfl
      have b4 := G1.out.cell 4 rfl
      go_wp2_with fail
      go_ret
      exact ⟨rfl, B1.out⟩
    have y2 : ((txt gh).toList == (txt fh).toList) = true := same_t _ _ q2
    have K2 : Hid _ := q2
    clear q2
    by_cases q3 : gp = fp
    rotate_left
    · have y3 : ((txt gp).toList == (txt fp).toList) = false := same_f _ _ q3
      clear q3
      have a0 := F1.out.cell 0 rfl
      have a1 := F1.out.cell 1 rfl
      have a2 := F1.out.cell 2 rfl
      have a3 := F1.out.cell 3 rfl
      have a4 := F1.out.cell 4 rfl
      have b0 := G1.out.cell 0 rfl
      have b1 := G1.out.cell 1 rfl
      have b2 := G1.out.cell 2 rfl
      have b3 := G1.out.cell 3 rfl
      have b4 := G1.out.cell 4 rfl
      go_wp2_with fail
      go_ret
      exact ⟨rfl, B1.out⟩
    have y3 : ((txt gp).toList == (txt fp).toList) = true := same_t _ _ q3
    have K3 : Hid _ := q3
    clear q3
    cases f3
    · skip
      cases f4
      · skip
        cases g2
        · skip
          have HX : Hid (goesL c ⟨gh, gp, false, g3, g4⟩ later = true → goesL c ⟨fh, fp, f2, false, false⟩ now = true) := fun h => goes_less K1.out K2.out K3.out (fun h => by first | rfl | exact h | cases h) (fun h => by first | rfl | exact h | cases h) (fun h => by first | rfl | exact h | cases h) h
          have a0 := F1.out.cell 0 rfl
          have a1 := F1.out.cell 1 rfl
          have a2 := F1.out.cell 2 rfl
          have a3 := F1.out.cell 3 rfl
          have a4 := F1.out.cell 4 rfl
          have b0 := G1.out.cell 0 rfl
          have b1 := G1.out.cell 1 rfl
          have b2 := G1.out.cell 2 rfl
          have b3 := G1.out.cell 3 rfl
          have b4 := G1.out.cell 4 rfl
          have c0 := C1.out.cell 0 rfl
          have c1 := C1.out.cell 1 rfl
          have c2 := C1.out.cell 2 rfl
          have c3 := C1.out.cell 3 rfl
          have c4 := C1.out.cell 4 rfl
          have c5 := C1.out.cell 5 rfl
          have c6 := C1.out.cell 6 rfl
          have c7 := C1.out.cell 7 rfl
          have c8 := C1.out.cell 8 rfl
          have c9 := C1.out.cell 9 rfl
          have c10 := C1.out.cell 10 rfl
          have c11 := C1.out.cell 11 rfl
          have c12 := C1.out.cell 12 rfl
          go_wp2_with fail
          refine (goes_any c ⟨gh, gp, false, g3, g4⟩ later _ HG.out.1 HG.out.2 HD.out.1 HD.out.2).mono ?_
          obtain ⟨x, hx⟩ : ∃ x, x = goesL c ⟨gh, gp, false, g3, g4⟩ later := ⟨_, rfl⟩
          rw [← hx] at HX ⊢
          clear hx
          rintro e w2 ⟨rfl, hb2⟩
          clear a0 a1 a2 a3 a4 b0 b1 b2 b3 b4 c0 c1 c2 c3 c4 c5 c6 c7 c8 c9 c10 c11 c12
          cases x
          · go_wp2_with fail
            go_ret
            exact ⟨rfl, next B1.out hb2⟩
          · have HY : Hid (goesL c ⟨fh, fp, f2, false, false⟩ now = true) := HX.out rfl
            have C2 := C1.out.below hb2 (cell_in (C1.out.cell 0 rfl))
            have F2 := F1.out.below hb2 (cell_in (F1.out.cell 0 rfl))
            have c0 := C2.cell 0 rfl
            have c1 := C2.cell 1 rfl
            have c2 := C2.cell 2 rfl
            have c3 := C2.cell 3 rfl
            have c4 := C2.cell 4 rfl
            have c5 := C2.cell 5 rfl
            have c6 := C2.cell 6 rfl
            have c7 := C2.cell 7 rfl
            have c8 := C2.cell 8 rfl
            have c9 := C2.cell 9 rfl
            have c10 := C2.cell 10 rfl
            have c11 := C2.cell 11 rfl
            have c12 := C2.cell 12 rfl
            have a0 := F2.cell 0 rfl
            have a1 := F2.cell 1 rfl
            have a2 := F2.cell 2 rfl
            have a3 := F2.cell 3 rfl
            have a4 := F2.cell 4 rfl
            clear C2 F2
            have HB2 : Hid _ := hb2
            clear hb2
            go_wp2_with fail
            refine (goes_any c ⟨fh, fp, f2, false, false⟩ now _ HF.out.1 HF.out.2 HD.out.1 HD.out.2).mono ?_
            rw [HY.out]
            rintro e w3 ⟨rfl, hb3⟩
            go_wp2_with fail
            go_ret
            exact ⟨rfl, next (next B1.out HB2.out) hb3⟩
        · cases f2
          · skip
            have a0 := F1.out.cell 0 rfl
            have a1 := F1.out.cell 1 rfl
            have a2 := F1.out.cell 2 rfl
            have a3 := F1.out.cell 3 rfl
            have a4 := F1.out.cell 4 rfl
            have b0 := G1.out.cell 0 rfl
            have b1 := G1.out.cell 1 rfl
            have b2 := G1.out.cell 2 rfl
            have b3 := G1.out.cell 3 rfl
            have b4 := G1.out.cell 4 rfl
            go_wp2_with fail
            go_ret
            exact ⟨rfl, B1.out⟩
          · skip
            have HX : Hid (goesL c ⟨gh, gp, true, g3, g4⟩ later = true → goesL c ⟨fh, fp, true, false, false⟩ now = true) := fun h => goes_less K1.out K2.out K3.out (fun h => by first | rfl | exact h | cases h) (fun h => by first | rfl | exact h | cases h) (fun h => by first | rfl | exact h | cases h) h
            have a0 := F1.out.cell 0 rfl
            have a1 := F1.out.cell 1 rfl
            have a2 := F1.out.cell 2 rfl
            have a3 := F1.out.cell 3 rfl
            have a4 := F1.out.cell 4 rfl
            have b0 := G1.out.cell 0 rfl
            have b1 := G1.out.cell 1 rfl
            have b2 := G1.out.cell 2 rfl
            have b3 := G1.out.cell 3 rfl
            have b4 := G1.out.cell 4 rfl
            have c0 := C1.out.cell 0 rfl
            have c1 := C1.out.cell 1 rfl
            have c2 := C1.out.cell 2 rfl
            have c3 := C1.out.cell 3 rfl
            have c4 := C1.out.cell 4 rfl
            have c5 := C1.out.cell 5 rfl
            have c6 := C1.out.cell 6 rfl
            have c7 := C1.out.cell 7 rfl
            have c8 := C1.out.cell 8 rfl
            have c9 := C1.out.cell 9 rfl
            have c10 := C1.out.cell 10 rfl
            have c11 := C1.out.cell 11 rfl
            have c12 := C1.out.cell 12 rfl
            go_wp2_with fail
            refine (goes_any c ⟨gh, gp, true, g3, g4⟩ later _ HG.out.1 HG.out.2 HD.out.1 HD.out.2).mono ?_
            obtain ⟨x, hx⟩ : ∃ x, x = goesL c ⟨gh, gp, true, g3, g4⟩ later := ⟨_, rfl⟩
            rw [← hx] at HX ⊢
            clear hx
            rintro e w2 ⟨rfl, hb2⟩
            clear a0 a1 a2 a3 a4 b0 b1 b2 b3 b4 c0 c1 c2 c3 c4 c5 c6 c7 c8 c9 c10 c11 c12
            cases x
            · go_wp2_with fail
              go_ret
              exact ⟨rfl, next B1.out hb2⟩
            · have HY : Hid (goesL c ⟨fh, fp, true, false, false⟩ now = true) := HX.out rfl
              have C2 := C1.out.below hb2 (cell_in (C1.out.cell 0 rfl))
              have F2 := F1.out.below hb2 (cell_in (F1.out.cell 0 rfl))
              have c0 := C2.cell 0 rfl
              have c1 := C2.cell 1 rfl
              have c2 := C2.cell 2 rfl
              have c3 := C2.cell 3 rfl
              have c4 := C2.cell 4 rfl
              have c5 := C2.cell 5 rfl
              have c6 := C2.cell 6 rfl
              have c7 := C2.cell 7 rfl
              have c8 := C2.cell 8 rfl
              have c9 := C2.cell 9 rfl
              have c10 := C2.cell 10 rfl
              have c11 := C2.cell 11 rfl
              have c12 := C2.cell 12 rfl
              have a0 := F2.cell 0 rfl
              have a1 := F2.cell 1 rfl
              have a2 := F2.cell 2 rfl
              have a3 := F2.cell 3 rfl
              have a4 := F2.cell 4 rfl
              clear C2 F2
              have HB2 : Hid _ := hb2
              clear hb2
              go_wp2_with fail
              refine (goes_any c ⟨fh, fp, true, false, false⟩ now _ HF.out.1 HF.out.2 HD.out.1 HD.out.2).mono ?_
              rw [HY.out]
              rintro e w3 ⟨rfl, hb3⟩
              go_wp2_with fail
              go_ret
              exact ⟨rfl, next (next B1.out HB2.out) hb3⟩
      · cases g4
        · skip
          have a0 := F1.out.cell 0 rfl
          have a1 := F1.out.cell 1 rfl
          have a2 := F1.out.cell 2 rfl
          have a3 := F1.out.cell 3 rfl
          have a4 := F1.out.cell 4 rfl
          have b0 := G1.out.cell 0 rfl
          have b1 := G1.out.cell 1 rfl
          have b2 := G1.out.cell 2 rfl
          have b3 := G1.out.cell 3 rfl
          have b4 := G1.out.cell 4 rfl
          go_wp2_with fail
          go_ret
          exact ⟨rfl, B1.out⟩
        · skip
          cases g2
          · skip
            have HX : Hid (goesL c ⟨gh, gp, false, g3, true⟩ later = true → goesL c ⟨fh, fp, f2, false, true⟩ now = true) := fun h => goes_less K1.out K2.out K3.out (fun h => by first | rfl | exact h | cases h) (fun h => by first | rfl | exact h | cases h) (fun h => by first | rfl | exact h | cases h) h
            have a0 := F1.out.cell 0 rfl
            have a1 := F1.out.cell 1 rfl
            have a2 := F1.out.cell 2 rfl
            have a3 := F1.out.cell 3 rfl
            have a4 := F1.out.cell 4 rfl
            have b0 := G1.out.cell 0 rfl
            have b1 := G1.out.cell 1 rfl
            have b2 := G1.out.cell 2 rfl
            have b3 := G1.out.cell 3 rfl
            have b4 := G1.out.cell 4 rfl
            have c0 := C1.out.cell 0 rfl
            have c1 := C1.out.cell 1 rfl
            have c2 := C1.out.cell 2 rfl
            have c3 := C1.out.cell 3 rfl
            have c4 := C1.out.cell 4 rfl
            have c5 := C1.out.cell 5 rfl
            have c6 := C1.out.cell 6 rfl
            have c7 := C1.out.cell 7 rfl
            have c8 := C1.out.cell 8 rfl
            have c9 := C1.out.cell 9 rfl
            have c10 := C1.out.cell 10 rfl
            have c11 := C1.out.cell 11 rfl
            have c12 := C1.out.cell 12 rfl
            go_wp2_with fail
            refine (goes_any c ⟨gh, gp, false, g3, true⟩ later _ HG.out.1 HG.out.2 HD.out.1 HD.out.2).mono ?_
            obtain ⟨x, hx⟩ : ∃ x, x = goesL c ⟨gh, gp, false, g3, true⟩ later := ⟨_, rfl⟩
            rw [← hx] at HX ⊢
            clear hx
            rintro e w2 ⟨rfl, hb2⟩
            clear a0 a1 a2 a3 a4 b0 b1 b2 b3 b4 c0 c1 c2 c3 c4 c5 c6 c7 c8 c9 c10 c11 c12
            cases x
            · go_wp2_with fail
              go_ret
              exact ⟨rfl, next B1.out hb2⟩
            · have HY : Hid (goesL c ⟨fh, fp, f2, false, true⟩ now = true) := HX.out rfl
              have C2 := C1.out.below hb2 (cell_in (C1.out.cell 0 rfl))
              have F2 := F1.out.below hb2 (cell_in (F1.out.cell 0 rfl))
              have c0 := C2.cell 0 rfl
              have c1 := C2.cell 1 rfl
              have c2 := C2.cell 2 rfl
              have c3 := C2.cell 3 rfl
              have c4 := C2.cell 4 rfl
              have c5 := C2.cell 5 rfl
              have c6 := C2.cell 6 rfl
              have c7 := C2.cell 7 rfl
              have c8 := C2.cell 8 rfl
              have c9 := C2.cell 9 rfl
              have c10 := C2.cell 10 rfl
              have c11 := C2.cell 11 rfl
              have c12 := C2.cell 12 rfl
              have a0 := F2.cell 0 rfl
              have a1 := F2.cell 1 rfl
              have a2 := F2.cell 2 rfl
              have a3 := F2.cell 3 rfl
              have a4 := F2.cell 4 rfl
              clear C2 F2
              have HB2 : Hid _ := hb2
              clear hb2
              go_wp2_with fail
              refine (goes_any c ⟨fh, fp, f2, false, true⟩ now _ HF.out.1 HF.out.2 HD.out.1 HD.out.2).mono ?_
              rw [HY.out]
              rintro e w3 ⟨rfl, hb3⟩
              go_wp2_with fail
              go_ret
              exact ⟨rfl, next (next B1.out HB2.out) hb3⟩
          · cases f2
            · skip
              have a0 := F1.out.cell 0 rfl
              have a1 := F1.out.cell 1 rfl
              have a2 := F1.out.cell 2 rfl
              have a3 := F1.out.cell 3 rfl
              have a4 := F1.out.cell 4 rfl
              have b0 := G1.out.cell 0 rfl
              have b1 := G1.out.cell 1 rfl
              have b2 := G1.out.cell 2 rfl
              have b3 := G1.out.cell 3 rfl
              have b4 := G1.out.cell 4 rfl
              go_wp2_with fail
              go_ret
              exact ⟨rfl, B1.out⟩
            · skip
              have HX : Hid (goesL c ⟨gh, gp, true, g3, true⟩ later = true → goesL c ⟨fh, fp, true, false, true⟩ now = true) := fun h => goes_less K1.out K2.out K3.out (fun h => by first | rfl | exact h | cases h) (fun h => by first | rfl | exact h | cases h) (fun h => by first | rfl | exact h | cases h) h
              have a0 := F1.out.cell 0 rfl
              have a1 := F1.out.cell 1 rfl
              have a2 := F1.out.cell 2 rfl
              have a3 := F1.out.cell 3 rfl
              have a4 := F1.out.cell 4 rfl
              have b0 := G1.out.cell 0 rfl
              have b1 := G1.out.cell 1 rfl
              have b2 := G1.out.cell 2 rfl
              have b3 := G1.out.cell 3 rfl
              have b4 := G1.out.cell 4 rfl
              have c0 := C1.out.cell 0 rfl
              have c1 := C1.out.cell 1 rfl
              have c2 := C1.out.cell 2 rfl
              have c3 := C1.out.cell 3 rfl
              have c4 := C1.out.cell 4 rfl
              have c5 := C1.out.cell 5 rfl
              have c6 := C1.out.cell 6 rfl
              have c7 := C1.out.cell 7 rfl
              have c8 := C1.out.cell 8 rfl
              have c9 := C1.out.cell 9 rfl
              have c10 := C1.out.cell 10 rfl
              have c11 := C1.out.cell 11 rfl
              have c12 := C1.out.cell 12 rfl
              go_wp2_with fail
              refine (goes_any c ⟨gh, gp, true, g3, true⟩ later _ HG.out.1 HG.out.2 HD.out.1 HD.out.2).mono ?_
              obtain ⟨x, hx⟩ : ∃ x, x = goesL c ⟨gh, gp, true, g3, true⟩ later := ⟨_, rfl⟩
              rw [← hx] at HX ⊢
              clear hx
              rintro e w2 ⟨rfl, hb2⟩
              clear a0 a1 a2 a3 a4 b0 b1 b2 b3 b4 c0 c1 c2 c3 c4 c5 c6 c7 c8 c9 c10 c11 c12
              cases x
              · go_wp2_with fail
                go_ret
                exact ⟨rfl, next B1.out hb2⟩
              · have HY : Hid (goesL c ⟨fh, fp, true, false, true⟩ now = true) := HX.out rfl
                have C2 := C1.out.below hb2 (cell_in (C1.out.cell 0 rfl))
                have F2 := F1.out.below hb2 (cell_in (F1.out.cell 0 rfl))
                have c0 := C2.cell 0 rfl
                have c1 := C2.cell 1 rfl
                have c2 := C2.cell 2 rfl
                have c3 := C2.cell 3 rfl
                have c4 := C2.cell 4 rfl
                have c5 := C2.cell 5 rfl
                have c6 := C2.cell 6 rfl
                have c7 := C2.cell 7 rfl
                have c8 := C2.cell 8 rfl
                have c9 := C2.cell 9 rfl
                have c10 := C2.cell 10 rfl
                have c11 := C2.cell 11 rfl
                have c12 := C2.cell 12 rfl
                have a0 := F2.cell 0 rfl
                have a1 := F2.cell 1 rfl
                have a2 := F2.cell 2 rfl
                have a3 := F2.cell 3 rfl
                have a4 := F2.cell 4 rfl
                clear C2 F2
                have HB2 : Hid _ := hb2
                clear hb2
                go_wp2_with fail
                refine (goes_any c ⟨fh, fp, true, false, true⟩ now _ HF.out.1 HF.out.2 HD.out.1 HD.out.2).mono ?_
                rw [HY.out]
                rintro e w3 ⟨rfl, hb3⟩
                go_wp2_with fail
                go_ret
                exact ⟨rfl, next (next B1.out HB2.out) hb3⟩
    · cases g3
      · skip
        have a0 := F1.out.cell 0 rfl
        have a1 := F1.out.cell 1 rfl
        have a2 := F1.out.cell 2 rfl
        have a3 := F1.out.cell 3 rfl
        have a4 := F1.out.cell 4 rfl
        have b0 := G1.out.cell 0 rfl
        have b1 := G1.out.cell 1 rfl
        have b2 := G1.out.cell 2 rfl
        have b3 := G1.out.cell 3 rfl
        have b4 := G1.out.cell 4 rfl
        go_wp2_with fail
        go_ret
        exact ⟨rfl, B1.out⟩
      · skip
        cases f4
        · skip
          cases g2
          · skip
            have HX : Hid (goesL c ⟨gh, gp, false, true, g4⟩ later = true → goesL c ⟨fh, fp, f2, true, false⟩ now = true) := fun h => goes_less K1.out K2.out K3.out (fun h => by first | rfl | exact h | cases h) (fun h => by first | rfl | exact h | cases h) (fun h => by first | rfl | exact h | cases h) h
            have a0 := F1.out.cell 0 rfl
            have a1 := F1.out.cell 1 rfl
            have a2 := F1.out.cell 2 rfl
            have a3 := F1.out.cell 3 rfl
            have a4 := F1.out.cell 4 rfl
            have b0 := G1.out.cell 0 rfl
            have b1 := G1.out.cell 1 rfl
            have b2 := G1.out.cell 2 rfl
            have b3 := G1.out.cell 3 rfl
            have b4 := G1.out.cell 4 rfl
            have c0 := C1.out.cell 0 rfl
            have c1 := C1.out.cell 1 rfl
            have c2 := C1.out.cell 2 rfl
            have c3 := C1.out.cell 3 rfl
            have c4 := C1.out.cell 4 rfl
            have c5 := C1.out.cell 5 rfl
            have c6 := C1.out.cell 6 rfl
            have c7 := C1.out.cell 7 rfl
            have c8 := C1.out.cell 8 rfl
            have c9 := C1.out.cell 9 rfl
            have c10 := C1.out.cell 10 rfl
            have c11 := C1.out.cell 11 rfl
            have c12 := C1.out.cell 12 rfl
            go_wp2_with fail
            refine (goes_any c ⟨gh, gp, false, true, g4⟩ later _ HG.out.1 HG.out.2 HD.out.1 HD.out.2).mono ?_
            obtain ⟨x, hx⟩ : ∃ x, x = goesL c ⟨gh, gp, false, true, g4⟩ later := ⟨_, rfl⟩
            rw [← hx] at HX ⊢
            clear hx
            rintro e w2 ⟨rfl, hb2⟩
            clear a0 a1 a2 a3 a4 b0 b1 b2 b3 b4 c0 c1 c2 c3 c4 c5 c6 c7 c8 c9 c10 c11 c12
            cases x
            · go_wp2_with fail
              go_ret
              exact ⟨rfl, next B1.out hb2⟩
            · have HY : Hid (goesL c ⟨fh, fp, f2, true, false⟩ now = true) := HX.out rfl
              have C2 := C1.out.below hb2 (cell_in (C1.out.cell 0 rfl))
              have F2 := F1.out.below hb2 (cell_in (F1.out.cell 0 rfl))
              have c0 := C2.cell 0 rfl
              have c1 := C2.cell 1 rfl
              have c2 := C2.cell 2 rfl
              have c3 := C2.cell 3 rfl
              have c4 := C2.cell 4 rfl
              have c5 := C2.cell 5 rfl
              have c6 := C2.cell 6 rfl
              have c7 := C2.cell 7 rfl
              have c8 := C2.cell 8 rfl
              have c9 := C2.cell 9 rfl
              have c10 := C2.cell 10 rfl
              have c11 := C2.cell 11 rfl
              have c12 := C2.cell 12 rfl
              have a0 := F2.cell 0 rfl
              have a1 := F2.cell 1 rfl
              have a2 := F2.cell 2 rfl
              have a3 := F2.cell 3 rfl
              have a4 := F2.cell 4 rfl
              clear C2 F2
              have HB2 : Hid _ := hb2
              clear hb2
              go_wp2_with fail
              refine (goes_any c ⟨fh, fp, f2, true, false⟩ now _ HF.out.1 HF.out.2 HD.out.1 HD.out.2).mono ?_
              rw [HY.out]
              rintro e w3 ⟨rfl, hb3⟩
              go_wp2_with fail
              go_ret
              exact ⟨rfl, next (next B1.out HB2.out) hb3⟩
          · cases f2
            · skip
              have a0 := F1.out.cell 0 rfl
              have a1 := F1.out.cell 1 rfl
              have a2 := F1.out.cell 2 rfl
              have a3 := F1.out.cell 3 rfl
              have a4 := F1.out.cell 4 rfl
              have b0 := G1.out.cell 0 rfl
              have b1 := G1.out.cell 1 rfl
              have b2 := G1.out.cell 2 rfl
              have b3 := G1.out.cell 3 rfl
              have b4 := G1.out.cell 4 rfl
              go_wp2_with fail
              go_ret
              exact ⟨rfl, B1.out⟩
            · skip
              have HX : Hid (goesL c ⟨gh, gp, true, true, g4⟩ later = true → goesL c ⟨fh, fp, true, true, false⟩ now = true) := fun h => goes_less K1.out K2.out K3.out (fun h => by first | rfl | exact h | cases h) (fun h => by first | rfl | exact h | cases h) (fun h => by first | rfl | exact h | cases h) h
              have a0 := F1.out.cell 0 rfl
              have a1 := F1.out.cell 1 rfl
              have a2 := F1.out.cell 2 rfl
              have a3 := F1.out.cell 3 rfl
              have a4 := F1.out.cell 4 rfl
              have b0 := G1.out.cell 0 rfl
              have b1 := G1.out.cell 1 rfl
              have b2 := G1.out.cell 2 rfl
              have b3 := G1.out.cell 3 rfl
              have b4 := G1.out.cell 4 rfl
              have c0 := C1.out.cell 0 rfl
              have c1 := C1.out.cell 1 rfl
              have c2 := C1.out.cell 2 rfl
              have c3 := C1.out.cell 3 rfl
              have c4 := C1.out.cell 4 rfl
              have c5 := C1.out.cell 5 rfl
              have c6 := C1.out.cell 6 rfl
              have c7 := C1.out.cell 7 rfl
              have c8 := C1.out.cell 8 rfl
              have c9 := C1.out.cell 9 rfl
              have c10 := C1.out.cell 10 rfl
              have c11 := C1.out.cell 11 rfl
              have c12 := C1.out.cell 12 rfl
              go_wp2_with fail
              refine (goes_any c ⟨gh, gp, true, true, g4⟩ later _ HG.out.1 HG.out.2 HD.out.1 HD.out.2).mono ?_
              obtain ⟨x, hx⟩ : ∃ x, x = goesL c ⟨gh, gp, true, true, g4⟩ later := ⟨_, rfl⟩
              rw [← hx] at HX ⊢
              clear hx
              rintro e w2 ⟨rfl, hb2⟩
              clear a0 a1 a2 a3 a4 b0 b1 b2 b3 b4 c0 c1 c2 c3 c4 c5 c6 c7 c8 c9 c10 c11 c12
              cases x
              · go_wp2_with fail
                go_ret
                exact ⟨rfl, next B1.out hb2⟩
              · have HY : Hid (goesL c ⟨fh, fp, true, true, false⟩ now = true) := HX.out rfl
                have C2 := C1.out.below hb2 (cell_in (C1.out.cell 0 rfl))
                have F2 := F1.out.below hb2 (cell_in (F1.out.cell 0 rfl))
                have c0 := C2.cell 0 rfl
                have c1 := C2.cell 1 rfl
                have c2 := C2.cell 2 rfl
                have c3 := C2.cell 3 rfl
                have c4 := C2.cell 4 rfl
                have c5 := C2.cell 5 rfl
                have c6 := C2.cell 6 rfl
                have c7 := C2.cell 7 rfl
                have c8 := C2.cell 8 rfl
                have c9 := C2.cell 9 rfl
                have c10 := C2.cell 10 rfl
                have c11 := C2.cell 11 rfl
                have c12 := C2.cell 12 rfl
                have a0 := F2.cell 0 rfl
                have a1 := F2.cell 1 rfl
                have a2 := F2.cell 2 rfl
                have a3 := F2.cell 3 rfl
                have a4 := F2.cell 4 rfl
                clear C2 F2
                have HB2 : Hid _ := hb2
                clear hb2
                go_wp2_with fail
                refine (goes_any c ⟨fh, fp, true, true, false⟩ now _ HF.out.1 HF.out.2 HD.out.1 HD.out.2).mono ?_
                rw [HY.out]
                rintro e w3 ⟨rfl, hb3⟩
                go_wp2_with fail
                go_ret
                exact ⟨rfl, next (next B1.out HB2.out) hb3⟩
        · cases g4
          · skip
            have a0 := F1.out.cell 0 rfl
            have a1 := F1.out.cell 1 rfl
            have a2 := F1.out.cell 2 rfl
            have a3 := F1.out.cell 3 rfl
            have a4 := F1.out.cell 4 rfl
            have b0 := G1.out.cell 0 rfl
            have b1 := G1.out.cell 1 rfl
            have b2 := G1.out.cell 2 rfl
            have b3 := G1.out.cell 3 rfl
            have b4 := G1.out.cell 4 rfl
            go_wp2_with fail
            go_ret
            exact ⟨rfl, B1.out⟩
          · skip
            cases g2
            · skip
              have HX : Hid (goesL c ⟨gh, gp, false, true, true⟩ later = true → goesL c ⟨fh, fp, f2, true, true⟩ now = true) := fun h => goes_less K1.out K2.out K3.out (fun h => by first | rfl | exact h | cases h) (fun h => by first | rfl | exact h | cases h) (fun h => by first | rfl | exact h | cases h) h
              have a0 := F1.out.cell 0 rfl
              have a1 := F1.out.cell 1 rfl
              have a2 := F1.out.cell 2 rfl
              have a3 := F1.out.cell 3 rfl
              have a4 := F1.out.cell 4 rfl
              have b0 := G1.out.cell 0 rfl
              have b1 := G1.out.cell 1 rfl
              have b2 := G1.out.cell 2 rfl
              have b3 := G1.out.cell 3 rfl
              have b4 := G1.out.cell 4 rfl
              have c0 := C1.out.cell 0 rfl
              have c1 := C1.out.cell 1 rfl
              have c2 := C1.out.cell 2 rfl
              have c3 := C1.out.cell 3 rfl
              have c4 := C1.out.cell 4 rfl
              have c5 := C1.out.cell 5 rfl
              have c6 := C1.out.cell 6 rfl
              have c7 := C1.out.cell 7 rfl
              have c8 := C1.out.cell 8 rfl
              have c9 := C1.out.cell 9 rfl
              have c10 := C1.out.cell 10 rfl
              have c11 := C1.out.cell 11 rfl
              have c12 := C1.out.cell 12 rfl
              go_wp2_with fail
              refine (goes_any c ⟨gh, gp, false, true, true⟩ later _ HG.out.1 HG.out.2 HD.out.1 HD.out.2).mono ?_
              obtain ⟨x, hx⟩ : ∃ x, x = goesL c ⟨gh, gp, false, true, true⟩ later := ⟨_, rfl⟩
              rw [← hx] at HX ⊢
              clear hx
              rintro e w2 ⟨rfl, hb2⟩
              clear a0 a1 a2 a3 a4 b0 b1 b2 b3 b4 c0 c1 c2 c3 c4 c5 c6 c7 c8 c9 c10 c11 c12
              cases x
              · go_wp2_with fail
                go_ret
                exact ⟨rfl, next B1.out hb2⟩
              · have HY : Hid (goesL c ⟨fh, fp, f2, true, true⟩ now = true) := HX.out rfl
                have C2 := C1.out.below hb2 (cell_in (C1.out.cell 0 rfl))
                have F2 := F1.out.below hb2 (cell_in (F1.out.cell 0 rfl))
                have c0 := C2.cell 0 rfl
                have c1 := C2.cell 1 rfl
                have c2 := C2.cell 2 rfl
                have c3 := C2.cell 3 rfl
                have c4 := C2.cell 4 rfl
                have c5 := C2.cell 5 rfl
                have c6 := C2.cell 6 rfl
                have c7 := C2.cell 7 rfl
                have c8 := C2.cell 8 rfl
                have c9 := C2.cell 9 rfl
                have c10 := C2.cell 10 rfl
                have c11 := C2.cell 11 rfl
                have c12 := C2.cell 12 rfl
                have a0 := F2.cell 0 rfl
                have a1 := F2.cell 1 rfl
                have a2 := F2.cell 2 rfl
                have a3 := F2.cell 3 rfl
                have a4 := F2.cell 4 rfl
                clear C2 F2
                have HB2 : Hid _ := hb2
                clear hb2
                go_wp2_with fail
                refine (goes_any c ⟨fh, fp, f2, true, true⟩ now _ HF.out.1 HF.out.2 HD.out.1 HD.out.2).mono ?_
                rw [HY.out]
                rintro e w3 ⟨rfl, hb3⟩
                go_wp2_with fail
                go_ret
                exact ⟨rfl, next (next B1.out HB2.out) hb3⟩
            · cases f2
              · skip
                have a0 := F1.out.cell 0 rfl
                have a1 := F1.out.cell 1 rfl
                have a2 := F1.out.cell 2 rfl
                have a3 := F1.out.cell 3 rfl
                have a4 := F1.out.cell 4 rfl
                have b0 := G1.out.cell 0 rfl
                have b1 := G1.out.cell 1 rfl
                have b2 := G1.out.cell 2 rfl
                have b3 := G1.out.cell 3 rfl
                have b4 := G1.out.cell 4 rfl
                go_wp2_with fail
                go_ret
                exact ⟨rfl, B1.out⟩
              · skip
                have HX : Hid (goesL c ⟨gh, gp, true, true, true⟩ later = true → goesL c ⟨fh, fp, true, true, true⟩ now = true) := fun h => goes_less K1.out K2.out K3.out (fun h => by first | rfl | exact h | cases h) (fun h => by first | rfl | exact h | cases h) (fun h => by first | rfl | exact h | cases h) h
                have a0 := F1.out.cell 0 rfl
                have a1 := F1.out.cell 1 rfl
                have a2 := F1.out.cell 2 rfl
                have a3 := F1.out.cell 3 rfl
                have a4 := F1.out.cell 4 rfl
                have b0 := G1.out.cell 0 rfl
                have b1 := G1.out.cell 1 rfl
                have b2 := G1.out.cell 2 rfl
                have b3 := G1.out.cell 3 rfl
                have b4 := G1.out.cell 4 rfl
                have c0 := C1.out.cell 0 rfl
                have c1 := C1.out.cell 1 rfl
                have c2 := C1.out.cell 2 rfl
                have c3 := C1.out.cell 3 rfl
                have c4 := C1.out.cell 4 rfl
                have c5 := C1.out.cell 5 rfl
                have c6 := C1.out.cell 6 rfl
                have c7 := C1.out.cell 7 rfl
                have c8 := C1.out.cell 8 rfl
                have c9 := C1.out.cell 9 rfl
                have c10 := C1.out.cell 10 rfl
                have c11 := C1.out.cell 11 rfl
                have c12 := C1.out.cell 12 rfl
                go_wp2_with fail
                refine (goes_any c ⟨gh, gp, true, true, true⟩ later _ HG.out.1 HG.out.2 HD.out.1 HD.out.2).mono ?_
                obtain ⟨x, hx⟩ : ∃ x, x = goesL c ⟨gh, gp, true, true, true⟩ later := ⟨_, rfl⟩
                rw [← hx] at HX ⊢
                clear hx
                rintro e w2 ⟨rfl, hb2⟩
                clear a0 a1 a2 a3 a4 b0 b1 b2 b3 b4 c0 c1 c2 c3 c4 c5 c6 c7 c8 c9 c10 c11 c12
                cases x
                · go_wp2_with fail
                  go_ret
                  exact ⟨rfl, next B1.out hb2⟩
                · have HY : Hid (goesL c ⟨fh, fp, true, true, true⟩ now = true) := HX.out rfl
                  have C2 := C1.out.below hb2 (cell_in (C1.out.cell 0 rfl))
                  have F2 := F1.out.below hb2 (cell_in (F1.out.cell 0 rfl))
                  have c0 := C2.cell 0 rfl
                  have c1 := C2.cell 1 rfl
                  have c2 := C2.cell 2 rfl
                  have c3 := C2.cell 3 rfl
                  have c4 := C2.cell 4 rfl
                  have c5 := C2.cell 5 rfl
                  have c6 := C2.cell 6 rfl
                  have c7 := C2.cell 7 rfl
                  have c8 := C2.cell 8 rfl
                  have c9 := C2.cell 9 rfl
                  have c10 := C2.cell 10 rfl
                  have c11 := C2.cell 11 rfl
                  have c12 := C2.cell 12 rfl
                  have a0 := F2.cell 0 rfl
                  have a1 := F2.cell 1 rfl
                  have a2 := F2.cell 2 rfl
                  have a3 := F2.cell 3 rfl
                  have a4 := F2.cell 4 rfl
                  clear C2 F2
                  have HB2 : Hid _ := hb2
                  clear hb2
                  go_wp2_with fail
                  refine (goes_any c ⟨fh, fp, true, true, true⟩ now _ HF.out.1 HF.out.2 HD.out.1 HD.out.2).mono ?_
                  rw [HY.out]
                  rintro e w3 ⟨rfl, hb3⟩
                  go_wp2_with fail
                  go_ret
                  exact ⟨rfl, next (next B1.out HB2.out) hb3⟩
set_option maxRecDepth 100000 in
theorem lifted (os : Os) (started : os.Started) (H : Type) (enc : TypeId × Value → H) :
    ReturnsInHanded {} Try.checked os 4 .any (Rows.goesLessSpec.pre6 enc Try.prog Try.f4 Rows.goesLessRow.domain false) (Rows.goesLessSpec.post enc Try.prog Try.f4 false true false false) := by
  refine returnsInHanded_of_change_sized (C := Try.checked) own started (by kernel_rfl) Try.func4
    (ChangeSpec.witness6 (enc := enc) (C := Try.checked) false ⟨#[], #[.agg #[.string ByteArray.empty, .string ByteArray.empty, .string ByteArray.empty, .string ByteArray.empty, .bool false, .bool false, .bool false, .bool false, .int .i64 0, .int .i64 0, .int .i64 0, .int .i64 0, .int .i64 0], .agg #[.string ByteArray.empty, .string ByteArray.empty, .bool false, .bool false, .bool false], .agg #[.string ByteArray.empty, .string ByteArray.empty, .bool false, .bool false, .bool false], .int .i64 0, .int .i64 0], []⟩ 8 (by kernel_rfl) (by kernel_rfl) (by kernel_rfl) (by kernel_rfl)) ?_
  intro W base args ds gs before hval0 hW hcnd hsz0 _
  have hsz : (DataW.weightsEach Try.prog (Try.f4.params.toList ++ Rows.goesLessSpec.plain.varTypes Try.prog) (ds ++ gs)).all (· ≤ reachBytes) = true := hsz0
  have hval : ∀ (j : Nat) t v, Try.f4.params[j]? = some t → args[j]? = some v → Value.okWide Try.prog W .any base t v := hval0
  have hW' := hW
  obtain ⟨p, q, hA0, hV, rfl, hfz, hnd⟩ := hW
  have hA : DataW.TrodAll enc Try.prog W 0 (fun _ => true) true Try.f4.params.toList args.toList ds p := hA0
  rw [Try.params4] at hA hval hsz
  obtain ⟨v0, vs0, d0, ds0, p0, q0, hargs, rfl, rfl, h0, r0⟩ := trodAll_cons hA
  obtain ⟨v1, vs1, d1, ds1, p1, q1, rfl, rfl, rfl, h1, r1⟩ := trodAll_cons r0
  obtain ⟨v2, vs2, d2, ds2, p2, q2, rfl, rfl, rfl, h2, r2⟩ := trodAll_cons r1
  obtain ⟨v3, vs3, d3, ds3, p3, q3, rfl, rfl, rfl, h3, r3⟩ := trodAll_cons r2
  obtain ⟨v4, vs4, d4, ds4, p4, q4, rfl, rfl, rfl, h4, r4⟩ := trodAll_cons r3
  obtain ⟨rfl, rfl, rfl⟩ := trodAll_nil r4
  obtain rfl : args = #[v0, v1, v2, v3, v4] := by cases args; simp_all
  obtain ⟨rfl, rfl⟩ := trodVars_none hV
  have k0 := h0
  have lt0 : ∀ x ∈ p0, x.block < W.heap.size := by obtain ⟨m, hm⟩ := k0; exact DataW.trod_lt m _ _ _ hm
  have k1 := h1
  have lt1 : ∀ x ∈ p1, x.block < W.heap.size := by obtain ⟨m, hm⟩ := k1; exact DataW.trod_lt m _ _ _ hm
  have k2 := h2
  have lt2 : ∀ x ∈ p2, x.block < W.heap.size := by obtain ⟨m, hm⟩ := k2; exact DataW.trod_lt m _ _ _ hm
  have k3 := h3
  have lt3 : ∀ x ∈ p3, x.block < W.heap.size := by obtain ⟨m, hm⟩ := k3; exact DataW.trod_lt m _ _ _ hm
  have k4 := h4
  have lt4 : ∀ x ∈ p4, x.block < W.heap.size := by obtain ⟨m, hm⟩ := k4; exact DataW.trod_lt m _ _ _ hm
  obtain ⟨l0, rfl, ok0, bk0⟩ := open_cookie (hval 0 23 v0 rfl rfl) k0 140737488351232 (fits_each hsz (j := 0) (t := 23) rfl rfl)
  obtain ⟨l1, rfl, ok1, bk1⟩ := open_from (hval 1 25 v1 rfl rfl) k1 140737488351232 (fits_each hsz (j := 1) (t := 25) rfl rfl)
  obtain ⟨l2, rfl, ok2, bk2⟩ := open_from (hval 2 25 v2 rfl rfl) k2 140737488351232 (fits_each hsz (j := 2) (t := 25) rfl rfl)
  obtain ⟨x3, rfl, rfl, hp3, w3⟩ := open_int Try.underlying3 (hval 3 3 v3 rfl rfl) h3
  have b3 := i64_of w3
  obtain ⟨x4, rfl, rfl, hp4, w4⟩ := open_int Try.underlying3 (hval 4 3 v4 rfl rfl) h4
  have b4 := i64_of w4
  clear hA0 hval0
  refine (walk l0 l1 l2 x3 x4 W ok0 ok1 ok2 b3 b4).mono fun e W' ⟨he, bel⟩ => ?_
  subst he
  exact ⟨_, rfl, _, _, _, [], _, [], hW', trodAll_mk1 (shut_bool Try.underlying4 _), (trodAll_cons_mk (Below.trod laidOut (by kernel_rfl) (of_decide_eq_true (by kernel_rfl)) k0 bel lt0) (trodAll_cons_mk (Below.trod laidOut (by kernel_rfl) (of_decide_eq_true (by kernel_rfl)) k1 bel lt1) (trodAll_cons_mk (Below.trod laidOut (by kernel_rfl) (of_decide_eq_true (by kernel_rfl)) k2 bel lt2) (trodAll_cons_mk (Below.trod laidOut (by kernel_rfl) (of_decide_eq_true (by kernel_rfl)) k3 bel lt3) (trodAll_cons_mk (Below.trod laidOut (by kernel_rfl) (of_decide_eq_true (by kernel_rfl)) k4 bel lt4) trodAll_mk0))))), rfl, bel.frame _, fun h => by cases h⟩

theorem proved : Rows.GoesLessSaid :=
  OpenClaim.holds_of_wide 4 Try.f4 rfl rfl rfl rfl rfl rfl rfl ⟨rfl, rfl, rfl, rfl, rfl⟩ rfl rfl rfl rfl rfl (by kernel_rfl) Try.func4 (by kernel_rfl)
    (of_decide_eq_true (by kernel_rfl)) (by unfold Func.isWrapper; first | (rw [if_pos (by decide +kernel)]; kernel_rfl) | (rw [if_neg (by decide +kernel)]; exact ⟨rfl, rfl⟩))
    (fun os started H enc _ => lifted os started H enc)
#print axioms proved
end Go.Proofs.Ytgjjkieljdamfaf.goesLess
