/- The six questions. -/
import Derived.Test.YtgjjkieljdamfafGoesA
namespace Go.Proofs.Ytgjjkieljdamfaf
open Go.RowKit
set_option linter.all false
set_option maxRecDepth 100000

/-- the six questions -/
def qsL (f : Fr) (now : Int) : List Value := [.func (.func 38) #[.agg (asL f now).toArray] #[], .func (.func 39) #[.agg (asL f now).toArray] #[], .func (.func 40) #[.agg (asL f now).toArray] #[],
  .func (.func 41) #[.agg (asL f now).toArray] #[], .func (.func 42) #[.agg (asL f now).toArray] #[], .func (.func 43) #[.agg (asL f now).toArray] #[]]
set_option maxHeartbeats 1000000 in
theorem questions_any (f : Fr) (now : Int) (w : World) :
    Calls Try.prog 25 #[.agg (asL f now).toArray] w fun e w' => e = .returned (.agg (qsL f now).toArray) ∧ Below w.heap.size w w' := by
  obtain ⟨rv, hrv⟩ : ∃ rv, rv = Value.agg (qsL f now).toArray := ⟨_, rfl⟩
  rw [← hrv]
  have HRV : Hid _ := hrv
  clear hrv
  simp only [asL]
  go_enter Try.func25, Try.ntmps25
  go_wp2_with fail
  refine bodyPost_ret (v := rv) (by rw [HRV.out]; simp only [qsL, asL]; simp [results, Try.results25, go_sem]) rfl ⟨rfl, ?_⟩
  exact ((Below.refl _ _).alloc (Nat.le_refl _) _).alloc (by simp) _
theorem ix_in (a b c d e g v : Value) (k : Int) (w : World) (hk : 0 ≤ k ∧ k < 6) (hv : #[a, b, c, d, e, g][k.toNat]? = some v) :
    Sem.run Try.prog (Instr.index 47 (.agg #[a, b, c, d, e, g]) (.int .i64 k)) w = .ok v w := by
  simp [Instr.index, asIntOf, run_underlying Try.underlying47, hk, go_sem]
  rw [List.getElem?_toArray, List.getElem?_eq_some_iff] at hv
  exact hv.2
end Go.Proofs.Ytgjjkieljdamfaf
