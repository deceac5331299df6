/- The contract of sixes: a group's bits six by six. -/
import Derived.Test.YtgdcifllbfdbhaaBitsD
import Derived.Test.YtgdcifllbfdbhaaSixtyM
import Derived.Test.YtgdcifllbfdbhaaWordB
namespace Go.Proofs.Ytgdcifllbfdbhaa
open Go.RowKit Go.Lib
set_option linter.all false
set_option maxRecDepth 100000

/-- the sixes of a group of bytes -/
def sixL (g : List UInt8) : List Nat := (List.range (g.length + 1)).map (sixN g)
theorem bitT_zero (g : List UInt8) (i : Nat) : bitT (g ++ [0]) i = bitT g i := by
  rcases Nat.lt_or_ge i (8 * g.length) with h | h
  · exact bitT_left _ _ _ h
  · obtain ⟨j, rfl⟩ : ∃ j, i = 8 * g.length + j := ⟨i - 8 * g.length, by omega⟩
    rw [bitT_right, bitT_out g _ (by omega)]
    unfold bitT
    rcases Nat.eq_zero_or_pos (j / 8) with h0 | h0
    · rw [h0]; simp
    · rw [List.getElem?_eq_none (by simp; omega)]; simp
theorem rdN_six (s : List UInt8) (t : Nat) (h : t + 6 ≤ 8 * s.length) : rdN s t 6 = numB ((List.range 6).map fun k => bitT s (t + k)) := by
  unfold rdN
  congr 1
  apply list_ext_getD
  · rw [List.length_take, List.length_drop, bitsT_length]; simp; omega
  · intro i hi
    rw [List.length_take, List.length_drop, bitsT_length] at hi
    rw [List.getElem?_take, if_pos (by omega), List.getElem?_drop, bitsT_get, List.getElem?_map, List.getElem?_range (by omega)]
    rfl
theorem rbL_six (s : List UInt8) (m t : Nat) (h : t + 6 * m ≤ 8 * s.length) : rbL s t (List.replicate m 6) = (List.range m).map (fun i => numB ((List.range 6).map fun k => bitT s (t + 6 * i + k))) := by
  induction m generalizing t with
  | zero => rfl
  | succ m ih =>
    rw [List.replicate_succ, rbL, show (6 : Int).toNat = 6 from rfl, ih (t + 6) (by omega), List.range_succ_eq_map (n := m), List.map_cons, List.map_map, rdN_six s t (by omega)]
    congr 1
    apply List.map_congr_left
    intro i _
    show numB _ = numB _
    congr 1
    apply List.map_congr_left
    intro k _
    congr 1
    show t + 6 + 6 * i + k = t + 6 * (i + 1) + k
    omega
theorem rbE_six (s : List UInt8) (m t : Nat) (h : t + 6 * m ≤ 8 * s.length) : rbE s t (List.replicate m 6) = 0 := by
  induction m generalizing t with
  | zero => rfl
  | succ m ih =>
    rw [List.replicate_succ, rbE, if_pos (by decide), if_neg (by omega)]
    exact ih (t + 6) (by omega)
theorem rE_six (g : List UInt8) (h : g.length ≤ 3) : rE (g ++ [0]) (List.replicate (g.length + 1) 6) = 0 := by
  unfold rE
  rw [List.length_replicate, if_neg (by omega)]
  exact rbE_six _ _ _ (by rw [List.length_append]; simp; omega)
theorem rL_six (g : List UInt8) (h : g.length ≤ 3) : rL (g ++ [0]) (List.replicate (g.length + 1) 6) = sixL g := by
  unfold rL
  rw [if_pos (rE_six g h), rbL_six _ _ _ (by rw [List.length_append]; simp; omega)]
  unfold sixL
  apply List.map_congr_left
  intro i _
  unfold sixN
  congr 1
  apply List.map_congr_left
  intro k _
  rw [bitT_zero]
  congr 1; omega
theorem sixL_length (g : List UInt8) : (sixL g).length = g.length + 1 := by simp [sixL]
theorem own_lower {W : World} {b b' : Nat} {e : TypeId} {size : Nat} {v : Value} {n : Nat} {cs : List Value} (h : W.ownsRow b e size v n cs) (hb : b' ≤ b) : W.ownsRow b' e size v n cs := by
  obtain ⟨hl, h⟩ := h
  refine ⟨hl, ?_⟩
  rcases h with h | ⟨g, cap, cur, h1, h2, h3⟩
  · exact .inl h
  · exact .inr ⟨g, cap, cur, h1, Nat.le_trans hb h2, h3⟩
theorem own_apart6 {W : World} {b1 b2 : Nat} {e1 e2 : TypeId} {s1 s2 n1 n2 : Nat} {v1 v2 : Value} {c1 c2 : List Value} (h1 : W.ownsRow b1 e1 s1 v1 n1 c1) (h2 : W.ownsRow b2 e2 s2 v2 n2 c2) (hne : e1 ≠ e2) : v1.ownBlock = none ∨ v1.ownBlock ≠ v2.ownBlock := by
  rcases h1.2 with ⟨rfl, _⟩ | ⟨g, cap, cur, rfl, _, hg, _⟩
  · exact .inl rfl
  · right
    intro e
    rcases h2.2 with ⟨rfl, _⟩ | ⟨g', cap', cur', rfl, _, hg', _⟩
    · cases e
    · have e' : g = g' := Option.some.inj e
      subst e'
      rw [hg] at hg'
      injection hg' with hg'
      injection hg' with _ e3 _
      exact hne e3
theorem txt_cat1 (a b : List UInt8) : txt a ++ txt b = txt (a ++ b) := ByteArray.mk_append_mk a b
theorem intF_map (ws : List Int) : ws.flatMap intF = ws.map (fun z => Value.int .i64 z) := by
  induction ws with
  | nil => rfl
  | cons a r ih => rw [List.flatMap_cons, ih]; rfl
theorem rows_row {W : World} {B n cap : Nat} (ws : List Int) (hn : ws.length = n) (h : ∀ (j : Nat) z, ws[j]? = some z → W.cell? ⟨B, j, none⟩ = some (.int .i64 z)) : Rows W (.slice (some ⟨B, 0, none⟩) n cap) intF ws := by
  subst hn
  refine ⟨_, cap, rfl, .inr ⟨B, 0, rfl, fun j u hj => ?_⟩⟩
  rw [Nat.zero_add]
  rw [intF_map, List.getElem?_map] at hj
  cases hw : ws[j]? with
  | none => rw [hw] at hj; cases hj
  | some z =>
    rw [hw] at hj
    injection hj with hj
    rw [← hj]
    exact h j z hw
set_option maxHeartbeats 2000000 in
theorem sixes_any (g : List UInt8) (w : World) (h1 : 1 ≤ g.length) (h3 : g.length ≤ 3) :
    Calls Try.prog 23 #[.string (txt g)] w fun e w' => ∃ v, e = .returned v ∧ w'.ownsRow w.heap.size 43 1 v (g.length + 1) ((sixL g).flatMap natF) ∧ Below w.heap.size w w' := by
  obtain ⟨n, hn⟩ : ∃ n, n = g.length := ⟨_, rfl⟩
  have KR : Hid (∀ w' v, Rows w' v intF (List.replicate (n + 1) 6) → Calls Try.prog 45 #[.string (txt (g ++ [0])), v] w' fun e w'' => ∃ v', e = .returned (.tuple #[v', .int .i64 (rK (g ++ [0]) (List.replicate (n + 1) 6) : Int), .int .i64 0]) ∧ w''.ownsRow w'.heap.size 43 1 v' (n + 1) ((sixL g).flatMap natF) ∧ Below w'.heap.size w' w'') := fun w' v h => by
    have := bread_own (g ++ [0]) v (List.replicate (n + 1) 6) w' h (by rw [List.length_append]; simp; omega) (by rw [List.length_replicate]; unfold maxLen; omega)
    rw [hn] at this ⊢
    rw [rE_six g h3, rL_six g h3, sixL_length] at this
    exact this
  have hsz : (txt g).size = n := by rw [hn]; rfl
  have hcat : txt g ++ ⟨#[0]⟩ = txt (g ++ [0]) := txt_cat1 g [0]
  have hcs : (txt g).size + (⟨#[0]⟩ : ByteArray).size ≤ 9223372036854775807 := by rw [hsz]; show n + 1 ≤ _; omega
  have hcs2 : ¬ 9223372036854775807 < (txt g).size + (⟨#[0]⟩ : ByteArray).size := by omega
  have e1 : IntKind.i64.wrap ((n : Int) + 1) = (n : Int) + 1 := IntWalk.i64_in _ (by omega)
  have hn1 : 1 ≤ n := by omega
  have hn3 : n ≤ 3 := by omega
  have hsl : ∀ (b : Nat) (W : World), (Instr.sliceAt 73 (.pointer (some ⟨b, 0, none⟩)) none (some (.int .i64 ((n : Int) + 1))) none).run Try.prog W = .ok (.slice (some ⟨b, 0, none⟩) (n + 1) 4) W := fun b W => by
    have hal : Try.prog.arrayLen 73 = 4 := by kernel_rfl
    have ht : Try.prog.underlying 73 = some (.array (Try.prog.arrayLen 73) (Try.prog.elem 73)) := by kernel_rfl
    have hel : Try.prog.elem 73 = 3 := by kernel_rfl
    rw [run_sliceAt_array_h W _ ⟨b, 0, none⟩ ht .i64 ((n : Int) + 1) (by omega) (by rw [hal]; omega), hel, Try.sizeOf3, hal]
    have e : ((n : Int) + 1).toNat = n + 1 := by omega
    simp [slicedAt, e, Addr.add]
  have HN : Hid _ := hn
  clear hn h1 h3
  go_enter Try.func23, Try.ntmps23
  go_wp2_with fail
  refine (KR.out _ _ (rows_row _ (by rw [List.length_replicate]) ?rows)).mono ?_
  case rows =>
    intro j z hj
    have hlt := (List.getElem?_eq_some_iff.1 hj).1
    rw [List.length_replicate] at hlt
    rw [List.getElem?_replicate, if_pos hlt] at hj
    injection hj with hj
    subst hj
    have : j = 0 ∨ j = 1 ∨ j = 2 ∨ j = 3 := by omega
    rcases this with rfl | rfl | rfl | rfl <;> simp
  rintro e w1 ⟨v1, rfl, hr1, hb1⟩
  have HR1 : Hid (w1.ownsRow w.heap.size 43 1 v1 (g.length + 1) ((sixL g).flatMap natF)) := by rw [← HN.out]; exact own_lower hr1 (by simp)
  have HB1 : Hid (Below w.heap.size w w1) := ((Below.refl _ w).alloc (Nat.le_refl _) _).trans (hb1.mono (by simp))
  clear hr1 hb1
  go_wp2_with fail
  go_ret
  exact ⟨_, rfl, HR1.out, HB1.out⟩
end Go.Proofs.Ytgdcifllbfdbhaa
