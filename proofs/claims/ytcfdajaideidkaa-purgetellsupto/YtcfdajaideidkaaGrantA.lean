/- The contracts of Check, of the set of vendors, and of what is granted. -/
import Derived.Test.YtcfdajaideidkaaGrantM
import Derived.Test.YtcfdajaideidkaaChecked
import Derived.Test.YtcfdajaideidkaaWho
import Derived.Test.YtcfdajaideidkaaKit5
import Derived.Maps.OwnSet
import Derived.Maps.AppendAt
namespace Go.Proofs.Ytcfdajaideidkaa
open Go.RowKit Go.Maps
set_option linter.all false
set_option maxRecDepth 100000
set_option maxRecDepth 100000

def intF (z : Int) : List Value := [.int .i64 z]
def inR (l : List Int) : Prop := ∀ z ∈ l, -9223372036854775808 ≤ z ∧ z ≤ 9223372036854775807
theorem chV_at (b : Int) (l : List Int) (k : Nat) (v : Int) (h : l[k]? = some v) (hall : chV b (l.take k) = 0) (b2 : Int) (hb : b2 = (l.take k).getLast?.getD b) :
    chV b l = if v < 1 ∨ 40 < v then 3 else if v ≤ b2 then 4 else chV v (l.drop (k + 1)) := by
  induction l generalizing b k with
  | nil => simp at h
  | cons x r ih =>
    cases k with
    | zero =>
      simp at h hb
      subst h hb
      rfl
    | succ k =>
      simp only [List.take_succ_cons] at hall hb
      have hx : ¬ (x < 1 ∨ 40 < x) ∧ ¬ x ≤ b ∧ chV x (r.take k) = 0 := by
        unfold chV at hall
        split at hall
        · cases hall
        · rename_i h1
          split at hall
          · cases hall
          · rename_i h2; exact ⟨h1, h2, hall⟩
      have := ih x k (by simpa using h) hx.2.2 (by
        rw [hb]
        cases hk : r.take k with
        | nil => rfl
        | cons y t => rw [List.getLast?_cons_cons]; cases hl : (y :: t).getLast? with
          | none => simp at hl
          | some z => rfl)
      conv => lhs; unfold chV
      rw [if_neg hx.1, if_neg hx.2.1, this]; rfl
theorem chV_take (b : Int) (l : List Int) (k : Nat) (v : Int) (h : l[k]? = some v) (hall : chV b (l.take k) = 0) (b2 : Int) (hb : b2 = (l.take k).getLast?.getD b) (h1 : ¬ (v < 1 ∨ 40 < v)) (h2 : ¬ v ≤ b2) : chV b (l.take (k + 1)) = 0 := by
  have hlt := (List.getElem?_eq_some_iff.1 h).1
  have := chV_at b (l.take (k + 1)) k v (by rw [List.getElem?_take, if_pos (by omega)]; exact h) (by rw [List.take_take, Nat.min_eq_left (by omega)]; exact hall) b2 (by rw [List.take_take, Nat.min_eq_left (by omega)]; exact hb)
  rw [this, if_neg h1, if_neg h2, List.drop_eq_nil_of_le (by rw [List.length_take]; omega)]; rfl
set_option maxHeartbeats 4000000 in
theorem check_any (c : Cn) (v : Value) (w : World) (hr : Rows w v intF c.vs) (hm : c.vs.length ≤ maxLen) :
    Calls Try.prog 23 #[.agg #[.int .i64 c.g, .bool c.b0, .bool c.b1, .bool c.b2, .bool c.b3, .bool c.b4, .bool c.b5, .bool c.b6, .bool c.b7, .bool c.b8, .bool c.b9, v]] w fun e w' => e = .returned (.int .i64 (chC c)) ∧ Below w.heap.size w w' := by
  obtain ⟨ad, cap, rfl⟩ := hr.shape
  obtain ⟨g, b0, b1, b2, b3, b4, b5, b6, b7, b8, b9, vs⟩ := c
  simp only at hr hm ⊢
  obtain ⟨z, hz⟩ : ∃ z, z = chC ⟨g, b0, b1, b2, b3, b4, b5, b6, b7, b8, b9, vs⟩ := ⟨_, rfl⟩
  rw [← hz]
  have HR : Hid _ := hr
  unfold maxLen at hm
  have HBW : Hid (Below w.heap.size w (w.alloc (.cells #[.int .i64 g, .bool b0, .bool b1, .bool b2, .bool b3, .bool b4, .bool b5, .bool b6, .bool b7, .bool b8, .bool b9, .slice ad vs.length cap] 32))) := (Below.refl _ w).alloc (Nat.le_refl _) _
  by_cases hg : g < 0 ∨ 68719476735 < g
  · have HZ : Hid (z = 3) := by show _ = _; rw [hz]; unfold chC; rw [if_pos hg]
    clear hz hr
    by_cases g1 : g < 0
    · go_enter Try.func23, Try.ntmps23
      go_wp2_with fail
      go_ret
      exact ⟨by rw [HZ.out]; rfl, HBW.out⟩
    · have g2 : 68719476735 < g := by omega
      go_enter Try.func23, Try.ntmps23
      go_wp2_with fail
      go_ret
      exact ⟨by rw [HZ.out]; rfl, HBW.out⟩
  · have g1 : ¬ g < 0 := by omega
    have g2 : ¬ 68719476735 < g := by omega
    have HZ : Hid (z = chV 0 vs) := by show _ = _; rw [hz]; unfold chC; rw [if_neg hg]
    clear hz hg hr
    go_enter Try.func23, Try.ntmps23
    go_wp2_with fail
    go_loopw [3, 17] (fun b i wr => ∃ k : Nat, ∃ bb : Int, k ≤ vs.length ∧ i = .int .i64 k ∧ b = .int .i64 bb ∧ Hid (bb = (vs.take k).getLast?.getD 0) ∧ Hid (chV 0 (vs.take k) = 0) ∧ Hid (Below w.heap.size w wr)) (fun _ i _ => vs.length - (intOf i).toNat)
    case atStart => exact ⟨0, 0, Nat.zero_le _, rfl, rfl, rfl, rfl, HBW.out⟩
    case round =>
      obtain ⟨k, bb, hk, rfl, rfl, hbb, hall, hb⟩ := hrel
      by_cases hlt : k < vs.length
      · have e1 := List.getElem?_eq_getElem hlt
        obtain ⟨x, hx⟩ : ∃ f, f = vs[k] := ⟨_, rfl⟩
        rw [← hx] at e1
        obtain ⟨bl, ol, rfl, hbl, hcell⟩ := Rows.at HR.out rfl 0 (fun _ => rfl) k x e1
        have c0 : wr.cell? ⟨bl, ol + k, none⟩ = some (.int .i64 x) := by
          have := (hb.out.cell (p := ⟨bl, ol + k * (0 + 1) + 0, none⟩) hbl).trans (hcell 0 _ rfl)
          rw [show ol + k * (0 + 1) + 0 = ol + k by omega] at this
          exact this
        have HD : Hid _ := chV_at 0 vs k x e1 hall.out bb hbb.out
        have HTK : Hid (¬ (x < 1 ∨ 40 < x) → ¬ x ≤ bb → chV 0 (vs.take (k + 1)) = 0) := chV_take 0 vs k x e1 hall.out bb hbb.out
        have HLS : Hid (x = (vs.take (k + 1)).getLast?.getD 0) := by show _ = _; rw [List.take_succ, e1]; simp
        clear hx e1 hcell hbl hbb hall
        by_cases h1 : x < 1
        · have HZ3 : Hid (z = 3) := by show _ = _; rw [HZ.out, HD.out, if_pos (.inl h1)]
          go_wp2_with fail
          go_ret
          exact ⟨by rw [HZ3.out]; rfl, hb.out⟩
        · by_cases h2 : 40 < x
          · have HZ3 : Hid (z = 3) := by show _ = _; rw [HZ.out, HD.out, if_pos (.inr h2)]
            go_wp2_with fail
            go_ret
            exact ⟨by rw [HZ3.out]; rfl, hb.out⟩
          · have h12 : ¬ (x < 1 ∨ 40 < x) := by omega
            by_cases h3 : x ≤ bb
            · have HZ4 : Hid (z = 4) := by show _ = _; rw [HZ.out, HD.out, if_neg h12, if_pos h3]
              clear h12
              go_wp2_with fail
              go_ret
              exact ⟨by rw [HZ4.out]; rfl, hb.out⟩
            · have HT2 : Hid _ := HTK.out h12 h3
              clear h12
              go_wp2_with fail
              go_roundw
              case rel => exact ⟨k + 1, x, by omega, by go_num, rfl, HLS, HT2, hb⟩
              case measure => simp [intOf]; omega
      · have HZ0 : Hid (z = 0) := by
          show _ = _
          have h := hall.out
          rw [List.take_of_length_le (by omega)] at h
          rw [HZ.out, h]
        go_wp2_with fail
        go_ret
        exact ⟨by rw [HZ0.out]; rfl, hb.out⟩
end Go.Proofs.Ytcfdajaideidkaa
