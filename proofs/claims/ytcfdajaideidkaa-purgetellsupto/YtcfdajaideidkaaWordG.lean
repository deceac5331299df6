/- The contract of the reference's parts: by induction, from the end. -/
import Derived.Test.YtcfdajaideidkaaWordF
import Derived.Deep.RegionHeld3
import Derived.Deep.AppendLies
import Derived.Deep.Onto
namespace Go.Proofs.Ytcfdajaideidkaa
open Go.RowKit
set_option linter.all false
set_option maxRecDepth 100000

theorem info_str : (Try.prog.info? 9).map (fun i => (i.zero, i.size, i.bytes)) = some (some (.string ⟨#[]⟩), 1, 16) := by kernel_rfl

theorem parts_last (s : ByteArray) (b : UInt8) (k : Nat) (h : k < s.size) (hk : s[k] = b) (hn : ∀ (j : Nat) c, s.data.toList[j]? = some c → k < j → c ≠ b) :
    partsL s.data.toList b = partsL (s.data.toList.take k) b ++ [(s.extract (k + 1) s.size).data.toList] := by
  have e : s.data.toList = s.data.toList.take k ++ b :: s.data.toList.drop (k + 1) := by
    have h1 := List.take_append_drop k s.data.toList
    have h2 := List.drop_eq_getElem_cons (l := s.data.toList) (i := k) (by simpa using h)
    rw [h2] at h1
    rw [← hk]
    exact h1.symm
  rw [Lib.extract_to_end]
  have hd : partsL (s.data.toList.drop (k + 1)) b = [s.data.toList.drop (k + 1)] := partsL_none _ _ (fun c hc => by
    obtain ⟨j, hj⟩ := List.getElem?_of_mem hc
    rw [List.getElem?_drop] at hj
    exact hn _ c hj (by omega))
  conv => lhs; rw [e]
  rw [partsL_append, hd]

theorem below_one {w w1 w2 : World} {o : Obj} {base : Nat} {e : TypeId} {size : Nat} {v : Value} {n : Nat} {xs : List Value} (hb1 : Below w.heap.size w w1) (hown : w1.ownsRow base e size v n xs) (hbase : w.heap.size ≤ base)
    (hg : (w1.alloc o).grownBy w2 v.ownBlock) : Below w.heap.size w w2 := by
  have h := hb1.alloc hb1.size o
  exact h.grown hg h.size (fun q e => Nat.le_trans hbase (hown.lt q e).1)
theorem below_two {w w1 w2 : World} {base : Nat} {e : TypeId} {size : Nat} {v : Value} {n : Nat} {xs : List Value} (hb1 : Below w.heap.size w w1) (hown : w1.ownsRow base e size v n xs) (hbase : w.heap.size ≤ base)
    (hg : w1.grownBy w2 v.ownBlock) : Below w.heap.size w w2 :=
  hb1.grown hg hb1.size (fun q e => Nat.le_trans hbase (hown.lt q e).1)

set_option maxHeartbeats 2000000 in
theorem partsOf_any (s : ByteArray) (b : UInt8) (w : World) (hm : (s.size + 1) * 16 ≤ 140737488355328) :
    Calls Try.prog 79 #[.string s, .int .u8 (b.toNat : Int)] w fun e w' => ∃ v, e = .returned v ∧
      w'.ownsRow w.heap.size 9 1 v (partsL s.data.toList b).length (strs (partsL s.data.toList b)) ∧ Below w.heap.size w w' := by
  obtain ⟨n, hn⟩ : ∃ n, s.size ≤ n := ⟨_, Nat.le_refl _⟩
  induction n using Nat.strongRecOn generalizing s w with
  | ind n ih =>
    obtain ⟨i0, hi, hz0, hz1, hz2⟩ := info_parts info_str
    have IH : Hid _ := ih
    clear ih
    go_enter Try.func79, Try.ntmps79
    go_wp2
    go_loop [5] (fun i => ∃ k : Nat, k ≤ s.size ∧ i = .int .i64 ((k : Int) - 1) ∧ Hid (∀ (j : Nat) c, s.data.toList[j]? = some c → k ≤ j → c ≠ b)) (fun i => ((intOf i) + 1).toNat)
    case atStart => exact ⟨s.size, Nat.le_refl _, rfl, fun j c hj h => by have := (List.getElem?_eq_some_iff.1 hj).1; simp at this; omega⟩
    case round =>
      obtain ⟨k, hk, rfl, hno⟩ := hrel
      by_cases h0 : k = 0
      · subst h0
        have HT : Hid (partsL s.data.toList b = [s.data.toList]) := partsL_none _ _ (fun c hc => by
          obtain ⟨j, hj⟩ := List.getElem?_of_mem hc
          exact hno.out j c hj (by omega))
        clear hno
        go_wp2_with fail
        go_ret
        refine ⟨_, rfl, ?_, (Below.refl _ _).alloc (Nat.le_refl _) _⟩
        rw [HT.out]
        exact World.ownsRow_lit w #[.string s] 1 (Nat.le_refl _) (by decide) rfl
      · obtain ⟨m, rfl⟩ : ∃ m, k = m + 1 := ⟨k - 1, by omega⟩
        have em : (((m + 1 : Nat) : Int) - 1) = (m : Int) := by omega
        rw [em]
        have hlt : m < s.size := by omega
        have HG : Hid (s.data.toList[m]? = some s[m]) := get_of s m hlt
        clear em
        by_cases heq : s[m] = b
        · have HT : Hid _ := parts_last s b m hlt heq hno.out
          have hbq : ((s[m].toNat : Int) == (b.toNat : Int)) = true := by rw [heq]; simp
          clear heq
          have hpl := partsL_len (s.extract 0 m).data.toList b
          have hpl2 : (s.extract 0 m).data.toList.length = m := by simp; omega
          have b1 : (0 : Int) ≤ (m : Int) := by omega
          have b2 : (m : Int) ≤ (s.size : Int) := by omega
          have b3 : (m : Int) + 1 ≤ (s.size : Int) := by omega
          have b4 : (0 : Int) ≤ (m : Int) + 1 := by omega
          have hwr : IntKind.i64.wrap ((m : Int) + 1) = (m : Int) + 1 := IntWalk.i64_in _ (by omega)
          have hsl : ∀ u : World, (Instr.slice 9 (.string s) (some (.int .i64 ((m : Int) + 1))) none none).run Try.prog u = .ok (.string (s.extract (m + 1) s.size)) u := fun u => by
            have h := run_slice_string_l (P := Try.prog) u 9 s Try.underlying9 .i64 ((m : Int) + 1) b4 b3
            have e : ((m : Int) + 1).toNat = m + 1 := by omega
            rw [e] at h; exact h
          go_wp2_with fail
          go_region_held3 (fun _ => True) (trivial)
            (first
              | (go_at_call 79; refine (IH.out m (by omega) _ _ (by simp; omega) (by simp; omega)).mono ?_; rintro e w1 ⟨v, rfl, hown, hb1⟩; have hsz1 := hb1.size; simp at hsz1)
              | (refine step_append_lies _ (by rfl) (.tmp 22) (.tmp 27) 106 (by rfl) _ 9 i0 (.string ⟨#[]⟩) 1 16 Try.underlying106 hi hz0 hz1 hz2 rfl (by decide) _ _ _ (by rfl) (hown.alloc _) ⟨w1.heap.size, 0, none⟩ 1 1 [.string (s.extract (m + 1) s.size)] (by rfl) rfl (cell_one_new _ _ _) (by simp [Value.oneCell']) (by decide) (by unfold maxLen; omega) (by omega) (by simp; omega) _ rfl ?_; intro g cap w2 hown2 hg2 _ _)
              | (refine step_append_lies _ (by rfl) (.tmp 22) (.tmp 27) 106 (by rfl) _ 9 i0 (.string ⟨#[]⟩) 1 16 Try.underlying106 hi hz0 hz1 hz2 rfl (by decide) _ _ _ (by rfl) hown ⟨w.heap.size, 0, none⟩ 1 1 [.string (s.extract (m + 1) s.size)] (by rfl) rfl ?hn (by simp [Value.oneCell']) (by decide) (by unfold maxLen; omega) (by omega) (by simp; omega) _ rfl ?_; (intro j u hj; obtain rfl : j = 0 := (by have := (List.getElem?_eq_some_iff.1 hj).1; simp at this; omega); simp at hj; subst hj; simp [Addr.add]; rw [hb1.cell (p := ⟨w.heap.size, 0, none⟩) (by simp)]; simp); intro g cap w2 hown2 hg2 _ _))
          all_goals go_wp2_with fail
          all_goals go_ret
          all_goals rw [Lib.extract_data] at hown2
          all_goals simp only [List.drop_zero, Nat.sub_zero] at hown2
          · refine ⟨_, rfl, ?_, ((Below.refl w.heap.size w).drew).trans (below_one (w := w.drew) hb1 hown (Nat.le_refl _) hg2)⟩
            rw [HT.out, strs_append, List.length_append]
            exact hown2
          · refine ⟨_, rfl, ?_, (((Below.refl w.heap.size w).alloc (Nat.le_refl _) (.cells #[.string (s.extract (m + 1) s.size)] 9)).drew).trans ((below_two hb1 hown (Nat.le_refl _) hg2).mono (Nat.le_of_lt (by show w.heap.size < (w.alloc _).heap.size; simp)))⟩
            rw [HT.out, strs_append, List.length_append]
            exact hown2.mono (Nat.le_of_lt (by show w.heap.size < (w.alloc _).heap.size; simp))
        · have hbq : ((s[m].toNat : Int) == (b.toNat : Int)) = false := by
            rw [beq_eq_false_iff_ne]
            intro h
            exact heq (UInt8.toNat_inj.1 (by omega))
          have HE : Hid (s[m] ≠ b) := heq
          clear heq
          go_wp2_with fail
          go_round
          case rel =>
            refine ⟨m, by omega, by go_num, fun j c hj hlt2 => ?_⟩
            by_cases e : j = m
            · subst e
              rw [HG.out] at hj
              injection hj with hj
              rw [← hj]; exact HE.out
            · exact hno.out j c hj (by omega)
          case measure => simp [intOf]
end Go.Proofs.Ytcfdajaideidkaa
