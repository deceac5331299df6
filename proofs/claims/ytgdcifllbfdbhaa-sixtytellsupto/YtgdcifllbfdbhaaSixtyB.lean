/- The contract of Write of package sixty. -/
import Derived.Test.YtgdcifllbfdbhaaSixtyA
import Derived.Test.YtgdcifllbfdbhaaWays
namespace Go.Proofs.Ytgdcifllbfdbhaa
open Go.RowKit Go.Lib
set_option linter.all false
set_option maxRecDepth 100000

def abcB : ByteArray := ⟨#[65, 66, 67, 68, 69, 70, 71, 72, 73, 74, 75, 76, 77, 78, 79, 80, 81, 82, 83, 84, 85, 86, 87, 88, 89, 90, 97, 98, 99, 100, 101, 102, 103, 104, 105, 106, 107, 108, 109, 110, 111, 112, 113, 114, 115, 116, 117, 118, 119, 120, 121, 122, 48, 49, 50, 51, 52, 53, 54, 55, 56, 57, 45, 95]⟩
theorem abc_at (n : Nat) (h : n < abcB.size) : abcB[n] = ltr n := by
  have h2 : n < 64 := h
  have : ∀ n : Fin 64, abcB[n.val]? = some (ltr n.val) := by decide +kernel
  have h3 := this ⟨n, h2⟩
  rw [getElem?_pos abcB n h] at h3
  injection h3
def strLen : Value → Nat | .string t => t.size | _ => 0
theorem wL_six (g : List UInt8) (h1 : 1 ≤ g.length) (h3 : g.length ≤ 3) : wL g = (sixL g).map ltr := by
  unfold wL sixL
  rw [List.map_map, show wM g.length = g.length + 1 by unfold wM; omega]
  rfl
set_option maxHeartbeats 4000000 in
theorem sixtyW_any (x : List UInt8) (w : World) (hx : x.length ≤ maxLen) :
    Calls Try.prog 10 #[.string (txt x)] w fun e w' => e = .returned (.tuple #[.string (txt (wT x)), .int .i64 (wE x)]) ∧ Below w.heap.size w w' := by
  unfold maxLen at hx
  obtain ⟨i0, hi, hz0, hz1, hz2⟩ := info8
  obtain ⟨T, hT⟩ : ∃ T, T = txt x := ⟨_, rfl⟩
  obtain ⟨n, hn⟩ : ∃ n, n = x.length := ⟨_, rfl⟩
  have hsz : T.size = n := by rw [hT, hn]; rfl
  by_cases h4 : 400 < n
  · have HT : Hid (wT x = []) := by show _ = _; unfold wT; rw [if_pos (by omega)]
    have HE : Hid (wE x = 2) := by show _ = _; unfold wE; rw [if_pos (by omega)]
    have h4' : (400 : Int) < (n : Int) := by omega
    rw [← hT]
    clear hT hn h4
    go_enter Try.func10, Try.ntmps10
    go_wp2_with fail
    exact bodyPost_ret (v := .tuple #[.string ⟨#[]⟩, .int .i64 2]) (by simp [results, Try.results10, go_sem]) rfl ⟨by rw [HT.out, HE.out]; rfl, Below.refl _ _⟩
  · have HT : Hid (wT x = wL x) := by show _ = _; unfold wT; rw [if_neg (by omega)]
    have HE : Hid (wE x = 0) := by show _ = _; unfold wE; rw [if_neg (by omega)]
    have h4' : (n : Int) ≤ 400 := by omega
    have HX : Hid _ := hT
    have HN : Hid _ := hn
    rw [← hT]
    clear hT hn h4
    go_enter Try.func10, Try.ntmps10
    go_wp2_with fail
    go_loopw [0, 4] (fun s o wr => ∃ k : Nat, k ≤ n ∧ Hid (k % 3 = 0 ∨ k = n) ∧ s = .string (txt (x.drop k)) ∧ wr.ownsRow w.heap.size 5 1 o (wM k) (bcells (wL (x.take k))) ∧ Hid (Below w.heap.size w wr)) (fun s _ _ => strLen s)
    case atStart => exact ⟨0, Nat.zero_le _, .inl rfl, by rw [List.drop_zero, HX.out], by rw [List.take_zero]; exact World.ownsRow_nil _ _ _ _, Below.refl _ _⟩
    case round =>
      obtain ⟨k, hk, hk3, rfl, hown, hb⟩ := hrel
      obtain ⟨R, hR⟩ : ∃ R, R = txt (x.drop k) := ⟨_, rfl⟩
      obtain ⟨oad, ocap, rfl⟩ := slice_own hown
      by_cases hlt : k < n
      · obtain ⟨r, hr⟩ : ∃ r, r = n - k := ⟨_, rfl⟩
        have hrs : R.size = r := by rw [hR, txt_size, List.length_drop, hr, HN.out]
        obtain ⟨m, hm⟩ : ∃ m, m = min r 3 := ⟨_, rfl⟩
        have hm1 : 1 ≤ m := by omega
        have hm3 : m ≤ 3 := by omega
        have hmr : m ≤ r := by omega
        have hcase : (m = 3 ∧ 3 < r) ∨ (m = r ∧ r ≤ 3) := by omega
        obtain ⟨g, hg⟩ : ∃ g, g = (x.drop k).take m := ⟨_, rfl⟩
        have hgl : g.length = m := by rw [hg, List.length_take, List.length_drop, ← HN.out]; omega
        have hex : R.extract 0 m = txt g := by rw [ext_to, hR, hg]; rfl
        have HRX : Hid (R.extract m r = txt (x.drop (k + m))) := by show _ = _; rw [← hrs, ext_from, hR, txt_toList, List.drop_drop]
        have hne : (R.toList == []) = false := by
          rw [hR, Lib.toList_data, beq_eq_false_iff_ne, txt_toList]
          intro h0
          have := congrArg List.length h0
          rw [List.length_drop, ← HN.out] at this
          simp at this; omega
        have HMK : Hid (wM (k + m) = wM k + (m + 1)) := by
          show _ = _
          have := hk3.out
          unfold wM; omega
        have HTK : Hid (wL (x.take (k + m)) = wL (x.take k) ++ (sixL g).map ltr) := by
          show _ = _
          rw [← wL_six g (by omega) (by omega), ← wL_append _ _ (by rw [List.length_take, ← HN.out]; have := hk3.out; omega), hg, List.take_add]
        have HKM : Hid ((k + m) % 3 = 0 ∨ k + m = n) := by show _ ∨ _; have := hk3.out; omega
        have HGL : Hid _ := hgl
        have HKN : Hid (k + m ≤ n) := by show _ ≤ _; omega
        have hwk : wM k ≤ 535 := by unfold wM; omega
        rw [← hR]
        have HRS : Hid ((txt (x.drop (k + m))).size = r - m) := by show _ = _; rw [txt_size, List.length_drop, ← HN.out]; omega
        have HNIL : Hid (m = r → ByteArray.empty = txt (x.drop (k + m))) := fun h => by rw [List.drop_eq_nil_of_le (by rw [← HN.out]; omega)]; rfl
        clear hR hr hm hg hk3 hgl hk hlt
        rcases hcase with ⟨rfl, hr3⟩ | ⟨rfl, hr3⟩
        all_goals
          go_wp2_with fail
          refine (sixes_any g _ (by rw [HGL.out]; omega) (by rw [HGL.out]; omega)).mono ?_
          rintro e w1 ⟨v1, rfl, own1, hb1⟩
          obtain ⟨B6, cap1, hv1⟩ : ∃ B6 cap1, v1 = .slice (some ⟨B6, 0, none⟩) (g.length + 1) cap1 := by
            rcases own1.2 with ⟨_, h⟩ | ⟨b, c, _, h, _⟩
            · omega
            · exact ⟨b, c, h⟩
          obtain ⟨P2, hP2⟩ : ∃ P2 : World → Prop, P2 = fun W => W.ownsRow w.heap.size 43 1 v1 (g.length + 1) ((sixL g).flatMap natF) := ⟨_, rfl⟩
          have HB1 : Hid (Below w.heap.size w w1) := next hb.out hb1
          have hown1 := own_below hown hb1 (Nat.le_refl _)
          have HP1 : Hid (P2 w1) := by show P2 w1; rw [hP2]; exact own_lower own1 hb.out.size
          have HP2 : Hid _ := hP2
          have hgl3 : g.length ≤ 3 := by rw [HGL.out]; omega
          subst hv1
          clear own1 hb1 hown hP2
          go_wp2_with fail
          go_loopw [4, 21] (fun o i wr' => ∃ j : Nat, j ≤ g.length + 1 ∧ i = .int .i64 j ∧ wr'.ownsRow w.heap.size 5 1 o (wM k + j) (bcells (wL (x.take k) ++ ((sixL g).map ltr).take j)) ∧ Hid (P2 wr') ∧ Hid (Below w.heap.size w wr')) (fun _ i _ => g.length + 1 - (intOf i).toNat)
          case atStart => exact ⟨0, Nat.zero_le _, rfl, by rw [List.take_zero, List.append_nil]; exact hown1, HP1, HB1⟩
          case round =>
            obtain ⟨j, hj, rfl, own3, hp3, hb3⟩ := hrel
            obtain ⟨oad3, ocap3, rfl⟩ := slice_own own3
            by_cases hlt : j < g.length + 1
            · have e1 : (sixL g)[j]? = some (sixN g j) := by unfold sixL; rw [List.getElem?_map, List.getElem?_range hlt]; rfl
              obtain ⟨q, hq⟩ : ∃ q, q = sixN g j := ⟨_, rfl⟩
              have hq64 : q < 64 := by rw [hq]; exact sixN_lt _ _
              rw [← hq] at e1
              have HO : Hid (wr.ownsRow w.heap.size 43 1 (.slice (some ⟨B6, 0, none⟩) (g.length + 1) cap1) (g.length + 1) ((sixL g).flatMap natF)) := by have := hp3.out; rw [HP2.out] at this; exact this
              have c0 : wr.cell? ⟨B6, j, none⟩ = some (.int .u64 (q : Int)) := by
                have hrr : Rows wr (.slice (some ⟨B6, 0, none⟩) (g.length + 1) cap1) natF (sixL g) := by
                  show Reads _ _ _ _
                  rw [sixL_length]; exact Reads.of_own HO.out
                obtain ⟨bb, oo, h1, _, hc⟩ := Rows.at hrr rfl 0 (fun _ => rfl) j q e1
                injection h1 with h1
                injection h1 with h1 h2
                have := hc 0 _ rfl
                rw [← h1, ← h2] at this
                rw [show 0 + j * (0 + 1) + 0 = j by omega] at this; exact this
              have HTK2 : Hid (((sixL g).map ltr).take (j + 1) = ((sixL g).map ltr).take j ++ [ltr q]) := by show _ = _; rw [List.take_succ, List.getElem?_map, e1]; rfl
              clear hq e1
              go_wp2_with (at_builtin; refine wpList_append_own _ rfl _ _ 40 rfl w.heap.size 5 i0 (.int .u8 0) 1 1 Try.underlying40 hi hz0 hz1 hz2 rfl (by decide) _ _ _ rfl (own3.alloc _) ⟨wr.heap.size, 0, none⟩ 1 1 [_] rfl rfl (cell1_new _ _ _ _ rfl) (by simp [Value.oneCell']) ?c1 ?c2 ?c3 ?_)
              case c1 => unfold maxLen; omega
              case c2 => omega
              case c3 => have := hb3.out.size; simp; omega
              intro v4 w4 own4 hg4 _
              have own5 : w4.ownsRow w.heap.size 5 1 v4 (wM k + (j + 1)) (bcells (wL (x.take k) ++ ((sixL g).map ltr).take (j + 1))) := by
                rw [HTK2.out, ← List.append_assoc, bcells_append, ← abc_at q hq64]
                exact own4
              have HB4 : Hid (Below w.heap.size w w4) := by
                have h1 : Below w.heap.size w (wr.alloc (.cells #[.int .u8 (abcB[q].toNat : Int)] 5)) := hb3.out.alloc hb3.out.size _
                exact h1.grown hg4 h1.size (fun q e => (own3.lt q e).1)
              have HP4 : Hid (P2 w4) := by
                show P2 w4
                rw [HP2.out]
                exact (HO.out.alloc (.cells #[.int .u8 (abcB[q].toNat : Int)] 5)).kept hg4 (own_apart6 (HO.out.alloc (.cells #[.int .u8 (abcB[q].toNat : Int)] 5)) (own3.alloc (.cells #[.int .u8 (abcB[q].toNat : Int)] 5)) (by decide))
              obtain ⟨oad4, ocap4, rfl⟩ := slice_own own5
              clear own4 own3 hg4 hp3 hb3 c0
              go_wp2_with fail
              go_roundw
              case rel => exact ⟨j + 1, by omega, by go_num, own5, HP4, HB4⟩
              case measure => simp [intOf]; omega
            · have hjg : j = g.length + 1 := by omega
              have hwt : ((sixL g).map ltr).take j = (sixL g).map ltr := List.take_of_length_le (by rw [List.length_map, sixL_length]; omega)
              have hown4 : wr.ownsRow w.heap.size 5 1 (.slice oad3 (wM k + j) ocap3) (wM (k + g.length)) (bcells (wL (x.take (k + g.length)))) := by
                rw [hwt] at own3
                rw [HGL.out, HMK.out, HTK.out]
                rw [show wM k + j = wM k + (g.length + 1) by omega, HGL.out] at own3
                rw [show wM k + j = wM k + (g.length + 1) by omega, HGL.out]
                exact own3
              clear own3 hwt
              go_wp2_with fail
              go_roundw
              case rel => exact ⟨_, HKN.out, HKM.out, by first | rw [HRX.out] | rw [HNIL.out trivial], by rw [← HGL.out]; exact hown4, hb3⟩
              case measure => first | (rw [HRX.out]; simp [strLen, hrs, HRS.out]; omega) | (simp [strLen, hrs]; omega)
      · have hkn : k = n := by omega
        have hR0 : (R.toList == []) = true := by rw [hR, List.drop_eq_nil_of_le (by rw [← HN.out]; omega), Lib.toList_data]; rfl
        have htk : x.take k = x := List.take_of_length_le (by rw [← HN.out]; omega)
        rw [htk] at hown
        have hcv := run_own_string (P := Try.prog) 40 9 5 Try.underlying40 Try.underlying5 Try.underlying9 (wL x) (show wr.ownsRow w.heap.size 5 1 _ (wL x).length _ by rw [wL_length, ← HN.out, ← hkn]; exact hown)
        rw [← hR]
        clear hown htk hkn hR hk3 hk hlt
        go_wp2_with fail
        exact bodyPost_ret (v := .tuple #[.string (txt (wL x)), .int .i64 0]) (by simp [results, Try.results10, go_sem]) rfl ⟨by rw [HT.out, HE.out], hb.out⟩
end Go.Proofs.Ytgdcifllbfdbhaa
