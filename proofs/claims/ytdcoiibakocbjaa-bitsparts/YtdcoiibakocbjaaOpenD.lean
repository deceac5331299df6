/- How lists of numbers with their widths come in, with the room behind them. No walk. -/
import Derived.Test.YtdcoiibakocbjaaOpenB
namespace Go.Proofs.Ytdcoiibakocbjaa
open Go.ChangeShapes Go.WideShapes Go.ChangeAt Go.RowKit
set_option linter.all false

/-- a slice as it may come in -/
def SlOk (v : Value) : Prop := ∃ ad n c, v = .slice ad n c ∧ n ≤ c ∧ c ≤ maxLen ∧ (ad = none → c = 0)
theorem slice_ok {H : Type} {enc : TypeId × Value → H} {P : Program} {W : World} {t e : TypeId} {ad : Option Addr} {n cap : Nat} {d : DataW H} {ps : List MemPlace} (ht : P.underlying t = some (.slice e))
    (h : DataW.Trod enc P W 0 (fun _ => true) true t (.slice ad n cap) d ps) : SlOk (.slice ad n cap) := by
  obtain ⟨fuel, h⟩ := h
  have h : DataW.trod enc P W 0 (fun _ => true) true fuel t [.slice ad n cap] = some (d, ps) := h
  rcases Deep.open_slice ht h with ⟨h1, h2⟩ | ⟨a, len, m', m0, k, D, Pl, h1, _, hl, hm, hmm, h2, hx⟩
  · injection h1 with h1 _
    rw [h1]
    exact ⟨none, 0, 0, rfl, Nat.le_refl _, Nat.zero_le _, fun _ => rfl⟩
  · injection h1 with h1 _
    rw [h1]
    exact ⟨_, _, _, rfl, hl, hm, fun h => by cases h⟩
theorem open_fields2 {H : Type} {enc : TypeId × Value → H} {W : World} {base : Nat} {v : Value} {d : DataW H} {ps : List MemPlace} (hv : Value.okWide Try.prog W .any base 22 v)
    (h : DataW.Trod enc Try.prog W 0 (fun _ => true) true 22 v d ps) (m : Nat) (hf : Fits m (DataW.weights Try.prog 22 d)) :
    ∃ l : List Fd, Rows W v fdC l ∧ (l.length ≤ m ∧ SlOk v) ∧ (∀ f ∈ l, -9223372036854775808 ≤ f.w ∧ f.w ≤ 9223372036854775807) ∧ (wList wFd).bulk l ≤ Rows.uptoBulk d := by
  obtain ⟨l, h1, h2, h3, h4⟩ := open_fields hv h m hf
  refine ⟨l, h1, ⟨h2, ?_⟩, h3, h4⟩
  obtain ⟨ad, cap, hv2⟩ := h1.shape
  rw [hv2] at h ⊢
  exact slice_ok Try.underlying22 h
end Go.Proofs.Ytdcoiibakocbjaa
