/- The contracts of Check, of the set of vendors, and of what is granted. -/
import Derived.Test.YtmjcgkjkhpjgbaaGrantM
import Derived.Test.YtmjcgkjkhpjgbaaChecked
import Derived.Test.YtmjcgkjkhpjgbaaWho
import Derived.Test.YtmjcgkjkhpjgbaaKit5
import Derived.Maps.OwnSet
import Derived.Maps.AppendAt
namespace Go.Proofs.Ytmjcgkjkhpjgbaa
open Go.RowKit Go.Maps
set_option linter.all false
set_option maxRecDepth 100000

def intF (z : Int) : List Value := [.int .i64 z]
def inR (l : List Int) : Prop := ∀ z ∈ l, -9223372036854775808 ≤ z ∧ z ≤ 9223372036854775807
theorem chV_at (b : Int) (l : List Int) (k : Nat) (v : Int) (h : l[k]? = some v) (hall : chV b (l.take k) = 0) (b2 : Int) (hb : b2 = (l.take k).getLast?.getD b) :
    chV b l = if v < 1 ∨ 40 < v then 3 else if v ≤ b2 then 4 else chV v (l.drop (k + 1)) := by
  induction l generalizing b k with
  | nil => simp at h
  | cons x r ih =>
    cases k with
    | zero =>
      simp at h hb
      subst h hb
      rfl
    | succ k =>
      simp only [List.take_succ_cons] at hall hb
      have hx : ¬ (x < 1 ∨ 40 < x) ∧ ¬ x ≤ b ∧ chV x (r.take k) = 0 := by
        unfold chV at hall
        split at hall
        · cases hall
        · rename_i h1
          split at hall
          · cases hall
          · rename_i h2; exact ⟨h1, h2, hall⟩
      have := ih x k (by simpa using h) hx.2.2 (by
        rw [hb]
        cases hk : r.take k with
        | nil => rfl
        | cons y t => rw [List.getLast?_cons_cons]; cases hl : (y :: t).getLast? with
          | none => simp at hl
          | some z => rfl)
      conv => lhs; unfold chV
      rw [if_neg hx.1, if_neg hx.2.1, this]; rfl
theorem chV_take (b : Int) (l : List Int) (k : Nat) (v : Int) (h : l[k]? = some v) (hall : chV b (l.take k) = 0) (b2 : Int) (hb : b2 = (l.take k).getLast?.getD b) (h1 : ¬ (v < 1 ∨ 40 < v)) (h2 : ¬ v ≤ b2) : chV b (l.take (k + 1)) = 0 := by
  have hlt := (List.getElem?_eq_some_iff.1 h).1
  have := chV_at b (l.take (k + 1)) k v (by rw [List.getElem?_take, if_pos (by omega)]; exact h) (by rw [List.take_take, Nat.min_eq_left (by omega)]; exact hall) b2 (by rw [List.take_take, Nat.min_eq_left (by omega)]; exact hb)
  rw [this, if_neg h1, if_neg h2, List.drop_eq_nil_of_le (by rw [List.length_take]; omega)]; rfl
end Go.Proofs.Ytmjcgkjkhpjgbaa
