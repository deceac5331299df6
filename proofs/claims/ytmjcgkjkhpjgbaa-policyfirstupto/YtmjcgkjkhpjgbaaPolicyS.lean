/- What a bound on all that is handed in says of each text. No walk. -/
import Derived.Test.YtmjcgkjkhpjgbaaOpenP
import Derived.Test.YtmjcgkjkhpjgbaaOpenF
namespace Go.Proofs.Ytmjcgkjkhpjgbaa
open Go.ChangeShapes Go.WideShapes Go.ChangeAt Go.RowKit
set_option linter.all false
/-- what is bounded in all is bounded in each -/
theorem sum_mem (l : List Nat) (x : Nat) (h : x ∈ l) : x ≤ l.sum := by
  induction l with
  | nil => simp at h
  | cons a l ih =>
    rw [List.sum_cons]
    rcases List.mem_cons.1 h with rfl | h
    · omega
    · have := ih h; omega
theorem sum_len (f : Ru → Nat) (l : List Ru) (h : ∀ r, 1 ≤ f r) : l.length ≤ (l.map f).sum := by
  induction l with
  | nil => simp
  | cons a l ih => rw [List.map_cons, List.sum_cons, List.length_cons]; have := h a; omega
theorem po_small {p : Po} (h : PoOk maxLen p) (hk : poBulk p ≤ 1099511627776) : PoOk 140737488351232 p := by
  have h1 : (p.rules.map ruBulk).sum ≤ 1099511627776 := by unfold poBulk at hk; omega
  refine ⟨?_, fun r hr => ?_, h.dflt, h.caps⟩
  · have := sum_len ruBulk p.rules (fun r => by unfold ruBulk; omega); omega
  · have h2 := sum_mem (p.rules.map ruBulk) (ruBulk r) (List.mem_map.2 ⟨r, hr, rfl⟩)
    have h3 := h.rules r hr
    have h4 : ruBulk r ≤ 1099511627776 := Nat.le_trans h2 h1
    unfold ruBulk at h4
    exact ⟨by omega, h3.kind, h3.purpose, h3.vendor⟩
theorem ck_small {c : Ck} (h : CkOk maxLen c) (hk : wCookie.bulk c ≤ 1099511627776) : CkOk 140737488351232 c ∧ (c.domain.length + 1) * 16 ≤ 140737488355328 := by
  have e2 : wCookie.bulk c = (c.name.length + 1) + ((c.value.length + 1) + ((c.domain.length + 1) + ((c.path.length + 1) + (1 + (1 + (1 + (1 + (1 + (1 + (1 + (1 + 1))))))))))) := rfl
  exact ⟨⟨by omega, by omega, by omega, by omega, h.site, h.expiry, h.created, h.used, h.no⟩, by omega⟩
theorem ru_small {r : Ru} (h : RuOk maxLen r) (hk : ruBulk r ≤ 1099511627776) : RuOk 140737488351232 r := by
  have hk' := hk
  unfold ruBulk at hk'
  exact ⟨by omega, h.kind, h.purpose, h.vendor⟩
end Go.Proofs.Ytmjcgkjkhpjgbaa
