/- How lists of cookies come in: their rows, how long they are, and what they take. No walk. -/
import Derived.Test.YtoppjfambomdmaaOpenF
namespace Go.Proofs.Ytoppjfambomdmaa
open Go.ChangeShapes Go.WideShapes Go.ChangeAt Go.RowKit
set_option linter.all false

theorem opens_cookies : Opens Try.prog 22 (wList wCookie) :=
  opens_list Try.underlying22 (by kernel_rfl) (by decide) (of_decide_eq_true (by kernel_rfl)) opens_cookie
theorem bytes_cookie : Try.prog.bytesOf 34 = 112 := by kernel_rfl
/-- a list's own bytes -/
theorem list_bytes {H : Type} {enc : TypeId × Value → H} {P : Program} {W : World} {t e : TypeId} {ad : Option Addr} {n cap m : Nat} {d : DataW H} {ps : List MemPlace} (ht : P.underlying t = some (.slice e))
    (h : DataW.Trod enc P W 0 (fun _ => true) true t (.slice ad n cap) d ps) (hf : Fits m (DataW.weights P t d)) : maxLen ≤ m ∨ n * P.bytesOf e ≤ m := by
  obtain ⟨fuel, h⟩ := h
  have h : DataW.trod enc P W 0 (fun _ => true) true fuel t [.slice ad n cap] = some (d, ps) := h
  rcases Deep.open_slice ht h with ⟨h1, h2⟩ | ⟨a, len, m', m0, k, D, Pl, h1, _, hl, hm, hmm, h2, hx⟩
  · right
    have : n = 0 := by injection h1 with h1 _; injection h1
    rw [this]; simp
  · rw [if_pos rfl] at hmm
    rcases hf with hf | hf
    · exact .inl hf
    · right
      have hn : n = len := by injection h1 with h1 _; injection h1
      have h3 := hf ((len + (m0 - len)) * P.bytesOf e) (by
        have h2' : d = _ := (Prod.mk.inj h2).1
        rw [h2']
        simp [DataW.weights, ht])
      have h4 : len * P.bytesOf e ≤ (len + (m0 - len)) * P.bytesOf e := Nat.mul_le_mul_right _ (by omega)
      rw [hn]; omega
theorem open_cookies {H : Type} {enc : TypeId × Value → H} {W : World} {base : Nat} {v : Value} {d : DataW H} {ps : List MemPlace} (hv : Value.okWide Try.prog W .any base 22 v)
    (h : DataW.Trod enc Try.prog W 0 (fun _ => true) true 22 v d ps) (m : Nat) (hf : Fits m (DataW.weights Try.prog 22 d)) :
    ∃ l : List Ck, Rows W v ckC l ∧ (maxLen ≤ m ∨ l.length * 112 ≤ m) ∧ (∀ c ∈ l, CkOk m c) ∧ (wList wCookie).bulk l ≤ Rows.uptoBulk d := by
  obtain ⟨l, hl, hb⟩ := open_way opens_cookies h
  have hl := hl m hf
  rw [slice_cells Try.underlying22 hv] at hl
  have hr := rows_of wCookie_is (fun _ => rfl) hl
  refine ⟨l, hr, ?_, fun r hr => ?_, hb⟩
  · obtain ⟨ad, cap, hv2⟩ := hr.shape
    subst hv2
    have := list_bytes Try.underlying22 h hf
    rw [bytes_cookie] at this
    exact this
  · obtain ⟨ds, hd⟩ := list_all hl r hr
    exact wCookie_ok m W ds r hd
end Go.Proofs.Ytoppjfambomdmaa
