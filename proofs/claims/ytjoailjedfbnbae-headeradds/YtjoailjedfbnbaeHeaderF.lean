/- Contracts: Write, and whether two cookies as headers tell them are one. -/
import Derived.Test.YtjoailjedfbnbaeHeaderE
namespace Go.Proofs.Ytjoailjedfbnbae
open Go.RowKit
set_option linter.all false

theorem rows_mem {W : World} {va : Value} {l : List Attr} (h : Rows W va attrF l) (b off n cap : Nat) (hv : va = .slice (some ⟨b, off, none⟩) n cap) (hl : l ≠ []) : b < W.heap.size := by
  obtain ⟨a, t, rfl⟩ : ∃ a t, l = a :: t := by
    cases l with
    | nil => exact absurd rfl hl
    | cons a t => exact ⟨a, t, rfl⟩
  obtain ⟨b', off', e, hb, _⟩ := Rows.at h hv 1 attrF_len 0 a rfl
  injection e with e
  injection e with e1 e2 e3
  rw [e1]; exact hb
theorem Page.new (w : World) : Page (w.alloc (.cells #[.slice none 0 0, .bool false] 46)) w.heap.size w.heap.size [] :=
  ⟨_, [], false, heap_new _ _ _, Nat.le_refl _, World.ownsRow_nil _ _ _ _, by simp, by simp, fun _ => rfl⟩
set_option maxHeartbeats 1000000 in
theorem hWrite_any (va : Value) (r : Raw) (w : World) (hr : Rows w va attrF r.2.2) (hm : r.2.2.length ≤ maxLen) (hn : r.1.length ≤ maxLen) (hv : r.2.1.length ≤ maxLen) (ha : ∀ a ∈ r.2.2, a.1.length ≤ maxLen ∧ a.2.length ≤ maxLen) :
    Calls Try.prog 8 #[.agg #[.string (txt r.1), .string (txt r.2.1), va]] w fun e w' => e = .returned (.tuple #[.string (txt (wrT r)), .int .i64 (wrE r)]) ∧ Below w.heap.size w w' := by
  have HM : Hid _ := hm
  have HA : Hid _ := ha
  have HR : Hid (Rows w va attrF r.2.2) := hr
  have HN : Hid _ := hn
  have HV : Hid _ := hv
  obtain ⟨ad, cap, rfl⟩ := hr.shape
  clear ha hr hn hv hm
  have hb0 : Below w.heap.size w (w.alloc (.cells #[.string (txt r.1), .string (txt r.2.1), .slice ad r.2.2.length cap] 24)) := (Below.refl _ _).alloc (Nat.le_refl _) _
  have R0 : Hid (S3 (w.alloc (.cells #[.string (txt r.1), .string (txt r.2.1), .slice ad r.2.2.length cap] 24)) w.heap.size (.string (txt r.1)) (.string (txt r.2.1)) (.slice ad r.2.2.length cap)) := S3.new _ _ _ _ _
  have HR0 : Hid (Rows (w.alloc (.cells #[.string (txt r.1), .string (txt r.2.1), .slice ad r.2.2.length cap] 24)) (.slice ad r.2.2.length cap) attrF r.2.2) := Rows.below HR.out hb0 (Nat.le_refl _)
  obtain ⟨z, hz⟩ : ∃ z, z = checkL r := ⟨_, rfl⟩
  have HZ : Hid _ := hz
  by_cases h0 : z = 0
  · have HW : Hid (wrE r = if 400 < (hdT r).length then 2 else 0) := by show _ = _; unfold wrE; rw [← hz, if_pos h0]
    clear hz
    subst h0
    go_enter Try.func8, Try.ntmps8
    go_wp2_with fail
    refine (hCheck_any _ r _ HR0.out HM.out HN.out HV.out HA.out).mono ?_
    rw [← HZ.out]
    rintro e w1 ⟨rfl, hb1⟩
    have R1 : Hid _ := R0.out.below hb1 (by simp)
    have B1 : Hid (Below w.heap.size w w1) := next hb0 hb1
    have hlt1 : w.heap.size < w1.heap.size := R1.out.lt
    have hb2 : Below w1.heap.size w1 (w1.alloc (.cells #[.slice none 0 0, .bool false] 46)) := (Below.refl _ _).alloc (Nat.le_refl _) _
    have R2 : Hid _ := R1.out.below hb2 hlt1
    have HR2 : Hid (Rows (w1.alloc (.cells #[.slice none 0 0, .bool false] 46)) (.slice ad r.2.2.length cap) attrF r.2.2) := Rows.below (Rows.below HR.out B1.out (Nat.le_refl _)) hb2 (Nat.le_refl _)
    have HMem : Hid (∀ b off n cap', Value.slice ad r.2.2.length cap = .slice (some ⟨b, off, none⟩) n cap' → r.2.2 ≠ [] → b < w1.heap.size) := fun b off n cap' hv hl => Nat.lt_trans (rows_mem HR.out b off n cap' hv hl) hlt1
    obtain ⟨c0, c1, c2, f0, f1, f2⟩ := R2.out
    clear R0 HR0 hb0 hb1
    go_wp2_with fail
    refine (tell_any _ r w1.heap.size w1.heap.size _ HR2.out HMem.out HM.out HN.out HV.out HA.out (Page.new w1)).mono ?_
    rintro e w2 ⟨⟨_, rfl⟩, P2, hb3⟩
    obtain ⟨v, l, full, hB, hbB, hown, hl, hf, hlT⟩ := P2
    have B2 : Hid (Below w.heap.size w w2) := B1.out.trans ((hb2.trans hb3).mono (Nat.le_of_lt hlt1))
    clear c0 c1 c2 f0 f1 f2 R1 R2 HR2 hb2 hb3
    obtain ⟨ad2, cap2, rfl⟩ := own_slice hown
    obtain ⟨g0, g1, u0, u1⟩ := two_cells hB
    clear hB
    cases full
    · have e := hlT rfl
      have hle : ¬ 400 < (hdT r).length := by rw [eq_comm, decide_eq_false_iff_not] at hf; exact hf
      have HE : Hid (wrE r = 0) := by show _ = _; rw [HW.out, if_neg hle]
      have HT : Hid (wrT r = l) := by show _ = _; unfold wrT; rw [HE.out, if_pos rfl, e]
      have hcv := run_own_string (P := Try.prog) 44 9 5 Try.underlying44 Try.underlying5 Try.underlying9 _ hown
      clear e hf hlT hown hle
      go_wp2_with fail
      go_ret2
      refine ⟨?_, B2.out⟩
      rw [HE.out, HT.out]; rfl
    · have hle : 400 < (hdT r).length := by rw [eq_comm, decide_eq_true_eq] at hf; exact hf
      have HE : Hid (wrE r = 2) := by show _ = _; rw [HW.out, if_pos hle]
      have HT : Hid (wrT r = []) := by show _ = _; unfold wrT; rw [HE.out, if_neg (by decide)]
      clear hf hlT hown hle
      go_wp2_with fail
      go_ret2
      refine ⟨?_, B2.out⟩
      rw [HE.out, HT.out]; rfl
  · have HW : Hid (wrE r = z) := by show _ = _; unfold wrE; rw [← hz, if_neg h0]
    have HT : Hid (wrT r = []) := by show _ = _; unfold wrT; rw [HW.out, if_neg h0]
    have hzz : (z != 0) = true := by rw [bne_iff_ne]; exact h0
    clear hz h0
    go_enter Try.func8, Try.ntmps8
    go_wp2_with fail
    refine (hCheck_any _ r _ HR0.out HM.out HN.out HV.out HA.out).mono ?_
    rw [← HZ.out]
    rintro e w1 ⟨rfl, hb1⟩
    go_wp2_with fail
    go_ret2
    refine ⟨?_, next hb0 hb1⟩
    rw [HW.out, HT.out]; rfl
end Go.Proofs.Ytjoailjedfbnbae
