/- GoesDeeper: for all cookies, all who ask, all moments, hosts and paths, whose texts are bounded as the statement says: what goes along to a path goes along to all below it, and to a host below its own, if it is not that host's alone. -/
import Derived.Test.YtgjjkieljdamfafGoesC
import Derived.Test.YtgjjkieljdamfafOpen
import Derived.Test.YtgjjkieljdamfafOpenF
import Derived.Test.YtgjjkieljdamfafRows
namespace Go.Proofs.Ytgjjkieljdamfaf.goesDeeper
open Go.ChangeShapes Go.WideShapes Go.ChangeAt Go.RowKit
open Go.ChangeMaps (open_string shut_string)
set_option linter.all false
set_option maxRecDepth 100000

theorem lt_of {W : World} {B : Nat} {a : Value} {l : List Value} (h : LRow W B (a :: l)) : B < W.heap.size := cell_in (h.cell 0 rfl)
theorem row_other {W : World} {B X k : Nat} {l : List Value} {x : Value} (h : LRow W B l) (hne : B ≠ X) : LRow (W.setCell ⟨X, k, none⟩ x) B l :=
  ⟨fun j v hj => ⟨by rw [World.cell?_setCell_other _ _ _ _ (by intro e; injection e with e1 _; exact hne e1.symm)]; exact (h.all j v hj).1, by rw [World.frozen?_setCell]; exact (h.all j v hj).2⟩⟩
set_option maxHeartbeats 8000000 in
theorem walk (c : Ck) (f : Fr) (now : Int) (h p : ByteArray) (w : World) (hco : CkOk maxLen c) (hfo : f.host.length ≤ maxLen ∧ f.path.length ≤ maxLen) (hnow : -9223372036854775808 ≤ now ∧ now ≤ 9223372036854775807) (hk : wCookie.bulk c + wFrom.bulk (f.host, f.path, f.secure, f.script, f.abroad) + h.size + p.size ≤ 1099511627776) :
    Calls Try.prog 5 #[.agg (ckC c).toArray, .agg (frL f).toArray, .int .i64 now, .string h, .string p] w fun e w' => e = .returned (.bool true) ∧ Below w.heap.size w w' := by
  obtain ⟨h, rfl⟩ : ∃ l, h = txt l := ⟨h.data.toList, rfl⟩
  obtain ⟨p, rfl⟩ : ∃ l, p = txt l := ⟨p.data.toList, rfl⟩
  have e1 : wFrom.bulk (f.host, f.path, f.secure, f.script, f.abroad) = (f.host.length + 1) + ((f.path.length + 1) + (1 + (1 + 1))) := rfl
  have e2 : wCookie.bulk c = (c.name.length + 1) + ((c.value.length + 1) + ((c.domain.length + 1) + ((c.path.length + 1) + (1 + (1 + (1 + (1 + (1 + (1 + (1 + (1 + 1))))))))))) := rfl
  have e3 : (txt h).size = h.length := rfl
  have e4 : (txt p).size = p.length := rfl
  obtain ⟨fh, fp, f2, f3, f4⟩ := f
  obtain ⟨n, v, d, q, ho, se, ht, la, si, ex, cr, us, no⟩ := c
  dsimp only at e1 e2 hk
  have HH : Hid (fh.length ≤ maxLen) := by show _ ≤ _; unfold maxLen; omega
  have HP : Hid (fp.length ≤ maxLen) := by show _ ≤ _; unfold maxLen; omega
  have KH : Hid (h.length ≤ maxLen) := by show _ ≤ _; unfold maxLen; omega
  have KP : Hid (p.length ≤ maxLen) := by show _ ≤ _; unfold maxLen; omega
  have KM : Hid (((txt h).size + 1) * 16 ≤ 140737488355328) := by show _ ≤ _; omega
  have HD : Hid (d.length < maxLen) := by show _ < _; unfold maxLen; omega
  have HC : Hid (q.length ≤ maxLen) := by show _ ≤ _; unfold maxLen; omega
  clear hco hfo hnow hk e1 e2 e3 e4
  obtain ⟨g0, hg0⟩ : ∃ g, g = goesL ⟨n, v, d, q, ho, se, ht, la, si, ex, cr, us, no⟩ ⟨fh, fp, f2, f3, f4⟩ now := ⟨_, rfl⟩
  have HG : Hid _ := hg0
  obtain ⟨qp, hqp⟩ : ∃ q, q = pmatchL p fp := ⟨_, rfl⟩
  have HQP : Hid _ := hqp
  obtain ⟨qh, hqh⟩ : ∃ q, q = matchL h fh := ⟨_, rfl⟩
  have HQH : Hid _ := hqh
  have HX : Hid (g0 = true → goesL ⟨n, v, d, q, ho, se, ht, la, si, ex, cr, us, no⟩ ⟨if !ho && qh then h else fh, if qp then p else fp, f2, f3, f4⟩ now = true) := fun hg => by
    rw [hqp, hqh]
    exact goes_deeper (f := ⟨fh, fp, f2, f3, f4⟩) h p (by rw [← hg0]; exact hg)
  clear hg0 hqp hqh
  obtain ⟨W0, hW0⟩ : ∃ W0, W0 = ((w.alloc (.cells (ckC ⟨n, v, d, q, ho, se, ht, la, si, ex, cr, us, no⟩).toArray 23)).alloc (.cells (frL ⟨fh, fp, f2, f3, f4⟩).toArray 25)) := ⟨_, rfl⟩
  have B0 : Hid (Below w.heap.size w W0) := by
    rw [hW0]
    exact ((Below.refl _ _).alloc (Nat.le_refl _) _).alloc (by simp) _
  have C0 : Hid (LRow W0 w.heap.size (ckC ⟨n, v, d, q, ho, se, ht, la, si, ex, cr, us, no⟩)) := by
    rw [hW0]
    exact (LRow.new w (ckC ⟨n, v, d, q, ho, se, ht, la, si, ex, cr, us, no⟩) _).below ((Below.refl _ _).alloc (Nat.le_refl _) _) (by simp)
  have F0 : Hid (LRow W0 (w.heap.size + 1) (frL ⟨fh, fp, f2, f3, f4⟩)) := by
    rw [hW0]
    have h := LRow.new (w.alloc (.cells (ckC ⟨n, v, d, q, ho, se, ht, la, si, ex, cr, us, no⟩).toArray 23)) (frL ⟨fh, fp, f2, f3, f4⟩) 25
    rw [show (w.alloc (.cells (ckC ⟨n, v, d, q, ho, se, ht, la, si, ex, cr, us, no⟩).toArray 23)).heap.size = w.heap.size + 1 from by simp] at h
    exact h
  simp only [ckC, frL] at hW0 ⊢
  go_enter Try.func5, Try.ntmps5
  go_wp2_with fail
  rw [← hW0]
  clear hW0
  refine (goesBegun_any _).mono ?_
  rintro e w1 ⟨rfl, hb1⟩
  have B1 : Hid (Below w.heap.size w w1) := next B0.out hb1
  have C1 : Hid (LRow w1 w.heap.size (ckC ⟨n, v, d, q, ho, se, ht, la, si, ex, cr, us, no⟩)) := C0.out.below hb1 (lt_of C0.out)
  have F1 : Hid (LRow w1 (w.heap.size + 1) (frL ⟨fh, fp, f2, f3, f4⟩)) := F0.out.below hb1 (lt_of F0.out)
  clear hb1 B0 C0 F0
  have x0 := C1.out.cell 0 rfl
  have x1 := C1.out.cell 1 rfl
  have x2 := C1.out.cell 2 rfl
  have x3 := C1.out.cell 3 rfl
  have x4 := C1.out.cell 4 rfl
  have x5 := C1.out.cell 5 rfl
  have x6 := C1.out.cell 6 rfl
  have x7 := C1.out.cell 7 rfl
  have x8 := C1.out.cell 8 rfl
  have x9 := C1.out.cell 9 rfl
  have x10 := C1.out.cell 10 rfl
  have x11 := C1.out.cell 11 rfl
  have x12 := C1.out.cell 12 rfl
  have y0 := F1.out.cell 0 rfl
  have y1 := F1.out.cell 1 rfl
  have y2 := F1.out.cell 2 rfl
  have y3 := F1.out.cell 3 rfl
  have y4 := F1.out.cell 4 rfl
  go_wp2_with fail
  refine (goes_any ⟨n, v, d, q, ho, se, ht, la, si, ex, cr, us, no⟩ ⟨fh, fp, f2, f3, f4⟩ now _ HH.out HP.out HD.out HC.out).mono ?_
  rw [← HG.out]
  rintro e w2 ⟨rfl, hb2⟩
  have B2 : Hid _ := next B1.out hb2
  have C2 : Hid _ := C1.out.below hb2 (lt_of C1.out)
  have F2 : Hid _ := F1.out.below hb2 (lt_of F1.out)
  clear hb2 B1 C1 F1 x0 x1 x2 x3 x4 x5 x6 x7 x8 x9 x10 x11 x12 y0 y1 y2 y3 y4
  cases g0
  · go_wp2_with fail
    go_ret
    exact ⟨rfl, B2.out⟩
  have HX' : Hid _ := HX.out rfl
  clear HX
  have u0 := F2.out.cell 0 rfl
  have u1 := F2.out.cell 1 rfl
  have u2 := F2.out.cell 2 rfl
  have u3 := F2.out.cell 3 rfl
  have u4 := F2.out.cell 4 rfl
  obtain ⟨Wg, hWg⟩ : ∃ W, w2.alloc (.cells #[.string (txt fh), .string (txt fp), .bool f2, .bool f3, .bool f4] 25) = W := ⟨_, rfl⟩
  have mg : Below w2.heap.size w2 Wg := by rw [← hWg]; exact (Below.refl _ _).alloc (Nat.le_refl _) _
  have Gg : Hid (LRow Wg w2.heap.size (frL ⟨fh, fp, f2, f3, f4⟩)) := by rw [← hWg]; exact LRow.new w2 (frL ⟨fh, fp, f2, f3, f4⟩) _
  have Fg : Hid _ := F2.out.below mg (lt_of F2.out)
  have Cg : Hid _ := C2.out.below mg (lt_of C2.out)
  have Bg : Hid _ := next B2.out mg
  have HNE : Hid (w.heap.size ≠ w2.heap.size) := Nat.ne_of_lt (lt_of C2.out)
  have HNF : Hid (w.heap.size + 1 ≠ w2.heap.size) := Nat.ne_of_lt (lt_of F2.out)
  have HLE : Hid (w.heap.size ≤ w2.heap.size) := Nat.le_of_lt (lt_of C2.out)
  have v1 := Fg.out.cell 1 rfl
  clear mg C2 F2 B2
  go_wp2_with fail
  clear hWg v1
  refine (pathMatch_any (txt p) (txt fp) _ KP.out HP.out).mono ?_
  rw [txt_toList, txt_toList, ← HQP.out]
  rintro e w3 ⟨rfl, hw3⟩
  rw [hw3]
  clear hw3 w3 u0 u1 u2 u3 u4
  cases qp
  · skip
    have G3 := Gg
    have C3 := Cg
    have F3 := Fg
    have B3 := Bg
    clear Gg Cg Fg Bg
    cases ho
    · have c4 : Wg.cell? ⟨w.heap.size, 4, none⟩ = some (.bool false) := by exact C3.out.cell 4 rfl
      have d0 := F3.out.cell 0 rfl
      go_wp2_with fail
      refine (isMatch_any (txt h) (txt fh) _ KM.out HH.out).mono ?_
      rw [txt_toList, txt_toList, ← HQH.out]
      rintro e w4 ⟨rfl, hb4⟩
      clear c4 d0
      have C4 : Hid _ := C3.out.below hb4 (lt_of C3.out)
      have G4 : Hid _ := G3.out.below hb4 (lt_of G3.out)
      have B4 : Hid _ := next B3.out hb4
      clear hb4 C3 F3 G3 B3
      cases qh
      · skip
        have HY : Hid (goesL ⟨n, v, d, q, false, se, ht, la, si, ex, cr, us, no⟩ ⟨fh, fp, f2, f3, f4⟩ now = true) := by
          have hh := HX'.out
          simp only [Bool.not_false, Bool.not_true, Bool.true_and, Bool.false_and, Bool.false_eq_true, if_true, if_false] at hh
          exact hh
        clear HX'
        have c0 := C4.out.cell 0 rfl
        have c1 := C4.out.cell 1 rfl
        have c2 := C4.out.cell 2 rfl
        have c3 := C4.out.cell 3 rfl
        have c4 := C4.out.cell 4 rfl
        have c5 := C4.out.cell 5 rfl
        have c6 := C4.out.cell 6 rfl
        have c7 := C4.out.cell 7 rfl
        have c8 := C4.out.cell 8 rfl
        have c9 := C4.out.cell 9 rfl
        have c10 := C4.out.cell 10 rfl
        have c11 := C4.out.cell 11 rfl
        have c12 := C4.out.cell 12 rfl
        have g0 := G4.out.cell 0 rfl
        have g1 := G4.out.cell 1 rfl
        have g2 := G4.out.cell 2 rfl
        have g3 := G4.out.cell 3 rfl
        have g4 := G4.out.cell 4 rfl
        go_wp2_with fail
        refine (goes_any ⟨n, v, d, q, false, se, ht, la, si, ex, cr, us, no⟩ ⟨fh, fp, f2, f3, f4⟩ now _ HH.out HP.out HD.out HC.out).mono ?_
        rw [HY.out]
        rintro e w9 ⟨rfl, hb9⟩
        go_wp2_with fail
        go_ret
        exact ⟨rfl, next B4.out hb9⟩
      · obtain ⟨W5, hW5⟩ : ∃ W, w4.setCell ⟨w2.heap.size, 0, none⟩ (.string (txt h)) = W := ⟨_, rfl⟩
        have G5 : Hid (LRow W5 w2.heap.size (frL ⟨h, fp, f2, f3, f4⟩)) := by rw [← hW5]; exact G4.out.set 0 _
        have C5 : Hid (LRow W5 w.heap.size (ckC ⟨n, v, d, q, false, se, ht, la, si, ex, cr, us, no⟩)) := by rw [← hW5]; exact row_other C4.out HNE.out
        have B5 : Hid (Below w.heap.size w W5) := by rw [← hW5]; exact B4.out.setCell HLE.out _
        have z0 := G4.out.cell 0 rfl
        have z1 := G4.out.frozen 0 rfl
        clear C4 G4 B4
        have HY : Hid (goesL ⟨n, v, d, q, false, se, ht, la, si, ex, cr, us, no⟩ ⟨h, fp, f2, f3, f4⟩ now = true) := by
          have hh := HX'.out
          simp only [Bool.not_false, Bool.not_true, Bool.true_and, Bool.false_and, Bool.false_eq_true, if_true, if_false] at hh
          exact hh
        clear HX'
        have c0 := C5.out.cell 0 rfl
        have c1 := C5.out.cell 1 rfl
        have c2 := C5.out.cell 2 rfl
        have c3 := C5.out.cell 3 rfl
        have c4 := C5.out.cell 4 rfl
        have c5 := C5.out.cell 5 rfl
        have c6 := C5.out.cell 6 rfl
        have c7 := C5.out.cell 7 rfl
        have c8 := C5.out.cell 8 rfl
        have c9 := C5.out.cell 9 rfl
        have c10 := C5.out.cell 10 rfl
        have c11 := C5.out.cell 11 rfl
        have c12 := C5.out.cell 12 rfl
        have g0 := G5.out.cell 0 rfl
        have g1 := G5.out.cell 1 rfl
        have g2 := G5.out.cell 2 rfl
        have g3 := G5.out.cell 3 rfl
        have g4 := G5.out.cell 4 rfl
        go_wp2_with fail
        refine (goes_any ⟨n, v, d, q, false, se, ht, la, si, ex, cr, us, no⟩ ⟨h, fp, f2, f3, f4⟩ now _ KH.out HP.out HD.out HC.out).mono ?_
        rw [HY.out]
        rintro e w9 ⟨rfl, hb9⟩
        go_wp2_with fail
        go_ret
        exact ⟨rfl, next B5.out hb9⟩
    · have c4' : Wg.cell? ⟨w.heap.size, 4, none⟩ = some (.bool true) := by exact C3.out.cell 4 rfl
      have HY : Hid (goesL ⟨n, v, d, q, true, se, ht, la, si, ex, cr, us, no⟩ ⟨fh, fp, f2, f3, f4⟩ now = true) := by
        have hh := HX'.out
        simp only [Bool.not_false, Bool.not_true, Bool.true_and, Bool.false_and, Bool.false_eq_true, if_true, if_false] at hh
        exact hh
      clear HX'
      have c0 := C3.out.cell 0 rfl
      have c1 := C3.out.cell 1 rfl
      have c2 := C3.out.cell 2 rfl
      have c3 := C3.out.cell 3 rfl
      have c5 := C3.out.cell 5 rfl
      have c6 := C3.out.cell 6 rfl
      have c7 := C3.out.cell 7 rfl
      have c8 := C3.out.cell 8 rfl
      have c9 := C3.out.cell 9 rfl
      have c10 := C3.out.cell 10 rfl
      have c11 := C3.out.cell 11 rfl
      have c12 := C3.out.cell 12 rfl
      have g0 := G3.out.cell 0 rfl
      have g1 := G3.out.cell 1 rfl
      have g2 := G3.out.cell 2 rfl
      have g3 := G3.out.cell 3 rfl
      have g4 := G3.out.cell 4 rfl
      go_wp2_with fail
      refine (goes_any ⟨n, v, d, q, true, se, ht, la, si, ex, cr, us, no⟩ ⟨fh, fp, f2, f3, f4⟩ now _ HH.out HP.out HD.out HC.out).mono ?_
      rw [HY.out]
      rintro e w9 ⟨rfl, hb9⟩
      go_wp2_with fail
      go_ret
      exact ⟨rfl, next B3.out hb9⟩
  · skip
    obtain ⟨W3, hW3⟩ : ∃ W, Wg.setCell ⟨w2.heap.size, 1, none⟩ (.string (txt p)) = W := ⟨_, rfl⟩
    have G3 : Hid (LRow W3 w2.heap.size (frL ⟨fh, p, f2, f3, f4⟩)) := by rw [← hW3]; exact Gg.out.set 1 _
    have C3 : Hid (LRow W3 w.heap.size (ckC ⟨n, v, d, q, ho, se, ht, la, si, ex, cr, us, no⟩)) := by rw [← hW3]; exact row_other Cg.out HNE.out
    have F3 : Hid (LRow W3 (w.heap.size + 1) (frL ⟨fh, fp, f2, f3, f4⟩)) := by rw [← hW3]; exact row_other Fg.out HNF.out
    have B3 : Hid (Below w.heap.size w W3) := by rw [← hW3]; exact Bg.out.setCell HLE.out _
    have z0 := Gg.out.cell 1 rfl
    have z1 := Gg.out.frozen 1 rfl
    clear Gg Cg Fg Bg
    cases ho
    · have c4 : W3.cell? ⟨w.heap.size, 4, none⟩ = some (.bool false) := by exact C3.out.cell 4 rfl
      have d0 := F3.out.cell 0 rfl
      go_wp2_with fail
      refine (isMatch_any (txt h) (txt fh) _ KM.out HH.out).mono ?_
      rw [txt_toList, txt_toList, ← HQH.out]
      rintro e w4 ⟨rfl, hb4⟩
      clear hW3 c4 d0 z0 z1
      have C4 : Hid _ := C3.out.below hb4 (lt_of C3.out)
      have G4 : Hid _ := G3.out.below hb4 (lt_of G3.out)
      have B4 : Hid _ := next B3.out hb4
      clear hb4 C3 F3 G3 B3
      cases qh
      · skip
        have HY : Hid (goesL ⟨n, v, d, q, false, se, ht, la, si, ex, cr, us, no⟩ ⟨fh, p, f2, f3, f4⟩ now = true) := by
          have hh := HX'.out
          simp only [Bool.not_false, Bool.not_true, Bool.true_and, Bool.false_and, Bool.false_eq_true, if_true, if_false] at hh
          exact hh
        clear HX'
        have c0 := C4.out.cell 0 rfl
        have c1 := C4.out.cell 1 rfl
        have c2 := C4.out.cell 2 rfl
        have c3 := C4.out.cell 3 rfl
        have c4 := C4.out.cell 4 rfl
        have c5 := C4.out.cell 5 rfl
        have c6 := C4.out.cell 6 rfl
        have c7 := C4.out.cell 7 rfl
        have c8 := C4.out.cell 8 rfl
        have c9 := C4.out.cell 9 rfl
        have c10 := C4.out.cell 10 rfl
        have c11 := C4.out.cell 11 rfl
        have c12 := C4.out.cell 12 rfl
        have g0 := G4.out.cell 0 rfl
        have g1 := G4.out.cell 1 rfl
        have g2 := G4.out.cell 2 rfl
        have g3 := G4.out.cell 3 rfl
        have g4 := G4.out.cell 4 rfl
        go_wp2_with fail
        refine (goes_any ⟨n, v, d, q, false, se, ht, la, si, ex, cr, us, no⟩ ⟨fh, p, f2, f3, f4⟩ now _ HH.out KP.out HD.out HC.out).mono ?_
        rw [HY.out]
        rintro e w9 ⟨rfl, hb9⟩
        go_wp2_with fail
        go_ret
        exact ⟨rfl, next B4.out hb9⟩
      · obtain ⟨W5, hW5⟩ : ∃ W, w4.setCell ⟨w2.heap.size, 0, none⟩ (.string (txt h)) = W := ⟨_, rfl⟩
        have G5 : Hid (LRow W5 w2.heap.size (frL ⟨h, p, f2, f3, f4⟩)) := by rw [← hW5]; exact G4.out.set 0 _
        have C5 : Hid (LRow W5 w.heap.size (ckC ⟨n, v, d, q, false, se, ht, la, si, ex, cr, us, no⟩)) := by rw [← hW5]; exact row_other C4.out HNE.out
        have B5 : Hid (Below w.heap.size w W5) := by rw [← hW5]; exact B4.out.setCell HLE.out _
        have z0 := G4.out.cell 0 rfl
        have z1 := G4.out.frozen 0 rfl
        clear C4 G4 B4
        have HY : Hid (goesL ⟨n, v, d, q, false, se, ht, la, si, ex, cr, us, no⟩ ⟨h, p, f2, f3, f4⟩ now = true) := by
          have hh := HX'.out
          simp only [Bool.not_false, Bool.not_true, Bool.true_and, Bool.false_and, Bool.false_eq_true, if_true, if_false] at hh
          exact hh
        clear HX'
        have c0 := C5.out.cell 0 rfl
        have c1 := C5.out.cell 1 rfl
        have c2 := C5.out.cell 2 rfl
        have c3 := C5.out.cell 3 rfl
        have c4 := C5.out.cell 4 rfl
        have c5 := C5.out.cell 5 rfl
        have c6 := C5.out.cell 6 rfl
        have c7 := C5.out.cell 7 rfl
        have c8 := C5.out.cell 8 rfl
        have c9 := C5.out.cell 9 rfl
        have c10 := C5.out.cell 10 rfl
        have c11 := C5.out.cell 11 rfl
        have c12 := C5.out.cell 12 rfl
        have g0 := G5.out.cell 0 rfl
        have g1 := G5.out.cell 1 rfl
        have g2 := G5.out.cell 2 rfl
        have g3 := G5.out.cell 3 rfl
        have g4 := G5.out.cell 4 rfl
        go_wp2_with fail
        refine (goes_any ⟨n, v, d, q, false, se, ht, la, si, ex, cr, us, no⟩ ⟨h, p, f2, f3, f4⟩ now _ KH.out KP.out HD.out HC.out).mono ?_
        rw [HY.out]
        rintro e w9 ⟨rfl, hb9⟩
        go_wp2_with fail
        go_ret
        exact ⟨rfl, next B5.out hb9⟩
    · have c4' : W3.cell? ⟨w.heap.size, 4, none⟩ = some (.bool true) := by exact C3.out.cell 4 rfl
      have HY : Hid (goesL ⟨n, v, d, q, true, se, ht, la, si, ex, cr, us, no⟩ ⟨fh, p, f2, f3, f4⟩ now = true) := by
        have hh := HX'.out
        simp only [Bool.not_false, Bool.not_true, Bool.true_and, Bool.false_and, Bool.false_eq_true, if_true, if_false] at hh
        exact hh
      clear HX'
      have c0 := C3.out.cell 0 rfl
      have c1 := C3.out.cell 1 rfl
      have c2 := C3.out.cell 2 rfl
      have c3 := C3.out.cell 3 rfl
      have c5 := C3.out.cell 5 rfl
      have c6 := C3.out.cell 6 rfl
      have c7 := C3.out.cell 7 rfl
      have c8 := C3.out.cell 8 rfl
      have c9 := C3.out.cell 9 rfl
      have c10 := C3.out.cell 10 rfl
      have c11 := C3.out.cell 11 rfl
      have c12 := C3.out.cell 12 rfl
      have g0 := G3.out.cell 0 rfl
      have g1 := G3.out.cell 1 rfl
      have g2 := G3.out.cell 2 rfl
      have g3 := G3.out.cell 3 rfl
      have g4 := G3.out.cell 4 rfl
      go_wp2_with fail
      refine (goes_any ⟨n, v, d, q, true, se, ht, la, si, ex, cr, us, no⟩ ⟨fh, p, f2, f3, f4⟩ now _ HH.out KP.out HD.out HC.out).mono ?_
      rw [HY.out]
      rintro e w9 ⟨rfl, hb9⟩
      go_wp2_with fail
      go_ret
      exact ⟨rfl, next B3.out hb9⟩
set_option maxRecDepth 100000 in
theorem lifted (os : Os) (started : os.Started) (H : Type) (enc : TypeId × Value → H) (F : Stop.Interp) :
    ReturnsInHanded {} Try.checked os 5 .any ((Rows.OpenSpec.upto Rows.goesDeeperSpec).pre6 enc Try.prog Try.f5 Rows.goesDeeperUptoRow.domain false) (((Rows.OpenSpec.upto Rows.goesDeeperSpec).at F).post enc Try.prog Try.f5 false true false false) := by
  refine returnsInHanded_of_cond (C := Try.checked) (s := (Rows.OpenSpec.upto Rows.goesDeeperSpec)) (k := Rows.uptoSmall) rfl own started (by kernel_rfl) Try.func5
    (OpenSpec.witness (enc := enc) (C := Try.checked) (s := (Rows.OpenSpec.upto Rows.goesDeeperSpec)) (k := Rows.uptoSmall) rfl false ⟨#[], #[.agg #[.string ByteArray.empty, .string ByteArray.empty, .string ByteArray.empty, .string ByteArray.empty, .bool false, .bool false, .bool false, .bool false, .int .i64 0, .int .i64 0, .int .i64 0, .int .i64 0, .int .i64 0], .agg #[.string ByteArray.empty, .string ByteArray.empty, .bool false, .bool false, .bool false], .int .i64 0, .string ByteArray.empty, .string ByteArray.empty], []⟩ 8 (by kernel_rfl) (by kernel_rfl) (by kernel_rfl)
      (x := ([.agg [.lit (.string []), .lit (.string []), .lit (.string []), .lit (.string []), .lit (.bool false), .lit (.bool false), .lit (.bool false), .lit (.bool false), .lit (.int .i64 0), .lit (.int .i64 0), .lit (.int .i64 0), .lit (.int .i64 0), .lit (.int .i64 0)], .agg [.lit (.string []), .lit (.string []), .lit (.bool false), .lit (.bool false), .lit (.bool false)], .lit (.int .i64 0), .lit (.string []), .lit (.string [])], [], [])) (by kernel_rfl) rfl (by kernel_rfl)) ?_
  intro W base args ds gs before hval0 hW hcnd hk _
  have hval : ∀ (j : Nat) t v, Try.f5.params[j]? = some t → args[j]? = some v → Value.okWide Try.prog W .any base t v := hval0
  have hW' := hW
  obtain ⟨p, q, hA0, hV, rfl, hfz, hnd⟩ := hW
  have hA : DataW.TrodAll enc Try.prog W 0 (fun _ => true) true Try.f5.params.toList args.toList ds p := hA0
  rw [Try.params5] at hA hval
  obtain ⟨v0, vs0, d0, ds0, p0, q0, hargs, rfl, rfl, h0, r0⟩ := trodAll_cons hA
  obtain ⟨v1, vs1, d1, ds1, p1, q1, rfl, rfl, rfl, h1, r1⟩ := trodAll_cons r0
  obtain ⟨v2, vs2, d2, ds2, p2, q2, rfl, rfl, rfl, h2, r2⟩ := trodAll_cons r1
  obtain ⟨v3, vs3, d3, ds3, p3, q3, rfl, rfl, rfl, h3, r3⟩ := trodAll_cons r2
  obtain ⟨v4, vs4, d4, ds4, p4, q4, rfl, rfl, rfl, h4, r4⟩ := trodAll_cons r3
  obtain ⟨rfl, rfl, rfl⟩ := trodAll_nil r4
  obtain rfl : args = #[v0, v1, v2, v3, v4] := by cases args; simp_all
  obtain ⟨rfl, rfl⟩ := trodVars_none hV
  have k0 := h0
  have lt0 : ∀ x ∈ p0, x.block < W.heap.size := by obtain ⟨m, hm⟩ := k0; exact DataW.trod_lt m _ _ _ hm
  have k1 := h1
  have lt1 : ∀ x ∈ p1, x.block < W.heap.size := by obtain ⟨m, hm⟩ := k1; exact DataW.trod_lt m _ _ _ hm
  have k2 := h2
  have lt2 : ∀ x ∈ p2, x.block < W.heap.size := by obtain ⟨m, hm⟩ := k2; exact DataW.trod_lt m _ _ _ hm
  have k3 := h3
  have lt3 : ∀ x ∈ p3, x.block < W.heap.size := by obtain ⟨m, hm⟩ := k3; exact DataW.trod_lt m _ _ _ hm
  have k4 := h4
  have lt4 : ∀ x ∈ p4, x.block < W.heap.size := by obtain ⟨m, hm⟩ := k4; exact DataW.trod_lt m _ _ _ hm
  obtain ⟨l0, rfl, ok0, bk0⟩ := open_cookie (hval 0 23 v0 rfl rfl) k0 maxLen (fits_max _)
  obtain ⟨l1, rfl, ok1, bk1⟩ := open_from (hval 1 25 v1 rfl rfl) k1 maxLen (fits_max _)
  obtain ⟨x2, rfl, rfl, hp2, w2⟩ := open_int Try.underlying3 (hval 2 3 v2 rfl rfl) h2
  have b2 := i64_of w2
  obtain ⟨a3, rfl, rfl, hp3, w3⟩ := open_string Try.underlying9 (hval 3 9 v3 rfl rfl) h3
  obtain ⟨a4, rfl, rfl, hp4, w4⟩ := open_string Try.underlying9 (hval 4 9 v4 rfl rfl) h4
  have hbulk := bulk_of hk
  simp only [List.cons_append, List.nil_append, List.append_nil, Rows.uptoBulkAll] at hbulk
  have hbk0 := bk0
  have hbk1 := bk1
  have hbk2 := bulk_str (H := H) a3
  have hbk3 := bulk_str (H := H) a4
  clear hA0 hval0
  refine (walk l0 l1 x2 a3 a4 W ok0 ok1 b2 (by omega)).mono fun e W' ⟨he, bel⟩ => ?_
  subst he
  exact ⟨_, rfl, _, _, _, [], _, [], hW', trodAll_mk1 (shut_bool Try.underlying4 _), (trodAll_cons_mk (Below.trod laidOut (by kernel_rfl) (of_decide_eq_true (by kernel_rfl)) k0 bel lt0) (trodAll_cons_mk (Below.trod laidOut (by kernel_rfl) (of_decide_eq_true (by kernel_rfl)) k1 bel lt1) (trodAll_cons_mk (Below.trod laidOut (by kernel_rfl) (of_decide_eq_true (by kernel_rfl)) k2 bel lt2) (trodAll_cons_mk (Below.trod laidOut (by kernel_rfl) (of_decide_eq_true (by kernel_rfl)) k3 bel lt3) (trodAll_cons_mk (Below.trod laidOut (by kernel_rfl) (of_decide_eq_true (by kernel_rfl)) k4 bel lt4) trodAll_mk0))))), rfl, bel.frame _, fun h => by cases h⟩

theorem proved : Rows.GoesDeeperUptoSaid :=
  OpenClaim.holds_of_cond 5 Try.f5 rfl rfl rfl rfl rfl rfl rfl ⟨rfl, rfl, rfl, rfl, rfl⟩ rfl rfl rfl rfl rfl (by kernel_rfl) Try.func5 (by kernel_rfl)
    (of_decide_eq_true (by kernel_rfl)) (by unfold Func.isWrapper; first | (rw [if_pos (by decide +kernel)]; kernel_rfl) | (rw [if_neg (by decide +kernel)]; exact ⟨rfl, rfl⟩))
    (fun os started H enc _ F => lifted os started H enc F)
#print axioms proved
end Go.Proofs.Ytgjjkieljdamfaf.goesDeeper
