/- How lists of numbers with their widths, and lists of numbers, come in. No walk. -/
import Derived.Test.YtdcoiibakocbjaaWays
import Derived.Test.YtdcoiibakocbjaaBitsN
namespace Go.Proofs.Ytdcoiibakocbjaa
open Go.ChangeShapes Go.WideShapes Go.ChangeAt Go.RowKit
set_option linter.all false

def wFd0 : Way (UInt64 × Int) := wPair wU64 wInt
def wFd : Way Fd := ⟨2, fun m W cs f => wFd0.rel m W cs (f.n, f.w), fun f => wFd0.bulk (f.n, f.w)⟩
theorem opens_fd : Opens Try.prog 35 wFd := by
  have h : Opens Try.prog 35 wFd0 :=
    opens_struct Try.underlying35 (by kernel_rfl) (opensF_cons rfl (opens_u64 Try.underlying33 (by kernel_rfl)) (opensF_one rfl (opens_int Try.underlying3 (by kernel_rfl))))
  refine ⟨h.1, fun {H enc W fuel cs x} hx => ?_⟩
  obtain ⟨h1, ⟨a, b⟩, h2, h3⟩ := h.2 hx
  exact ⟨h1, ⟨a, b⟩, h2, h3⟩
theorem wFd_is (m : Nat) (W : World) (ds : List Value) (f : Fd) (h : wFd.rel m W ds f) : ds = fdC f := by
  obtain ⟨x, y, rfl, _, rfl, ⟨rfl, _⟩⟩ := h
  rfl
theorem wFd_ok (m : Nat) (W : World) (ds : List Value) (f : Fd) (h : wFd.rel m W ds f) : -9223372036854775808 ≤ f.w ∧ f.w ≤ 9223372036854775807 := by
  obtain ⟨x, y, rfl, _, rfl, ⟨rfl, h⟩⟩ := h
  exact h
theorem opens_fds : Opens Try.prog 22 (wList wFd) :=
  opens_list Try.underlying22 (by kernel_rfl) (by decide) (of_decide_eq_true (by kernel_rfl)) opens_fd
theorem open_fields {H : Type} {enc : TypeId × Value → H} {W : World} {base : Nat} {v : Value} {d : DataW H} {ps : List MemPlace} (hv : Value.okWide Try.prog W .any base 22 v)
    (h : DataW.Trod enc Try.prog W 0 (fun _ => true) true 22 v d ps) (m : Nat) (hf : Fits m (DataW.weights Try.prog 22 d)) :
    ∃ l : List Fd, Rows W v fdC l ∧ l.length ≤ m ∧ (∀ f ∈ l, -9223372036854775808 ≤ f.w ∧ f.w ≤ 9223372036854775807) ∧ (wList wFd).bulk l ≤ Rows.uptoBulk d := by
  obtain ⟨l, hl, hb⟩ := open_way opens_fds h
  have hl := hl m hf
  rw [slice_cells Try.underlying22 hv] at hl
  refine ⟨l, rows_of wFd_is (fun _ => rfl) hl, list_len hl, fun r hr => ?_, hb⟩
  obtain ⟨ds, hd⟩ := list_all hl r hr
  exact wFd_ok m W ds r hd
def intC (z : Int) : List Value := [.int .i64 z]
theorem opens_ints : Opens Try.prog 23 (wList wInt) :=
  opens_list Try.underlying23 (by kernel_rfl) (by decide) (of_decide_eq_true (by kernel_rfl)) (opens_int Try.underlying3 (by kernel_rfl))
theorem open_intsW {H : Type} {enc : TypeId × Value → H} {W : World} {base : Nat} {v : Value} {d : DataW H} {ps : List MemPlace} (hv : Value.okWide Try.prog W .any base 23 v)
    (h : DataW.Trod enc Try.prog W 0 (fun _ => true) true 23 v d ps) (m : Nat) (hf : Fits m (DataW.weights Try.prog 23 d)) :
    ∃ l : List Int, Rows W v intC l ∧ l.length ≤ m ∧ (∀ z ∈ l, -9223372036854775808 ≤ z ∧ z ≤ 9223372036854775807) ∧ (wList wInt).bulk l ≤ Rows.uptoBulk d := by
  obtain ⟨l, hl, hb⟩ := open_way opens_ints h
  have hl := hl m hf
  rw [slice_cells Try.underlying23 hv] at hl
  refine ⟨l, rows_of (A := wInt) (f := intC) (fun m W ds a h => h.1) (fun _ => rfl) hl, list_len hl, fun r hr => ?_, hb⟩
  obtain ⟨ds, hd⟩ := list_all hl r hr
  exact hd.2
end Go.Proofs.Ytdcoiibakocbjaa
