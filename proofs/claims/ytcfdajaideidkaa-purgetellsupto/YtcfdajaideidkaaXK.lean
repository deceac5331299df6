/- What goes along: the plain functions, and their order. No walk. Contracts: path.Match; the reference's default and match; what must be in any case. Contracts of package goes. -/
import Derived.Test.YtcfdajaideidkaaHostM
import Derived.Test.YtcfdajaideidkaaPathM
import Derived.Test.YtcfdajaideidkaaWho
import Derived.Test.YtcfdajaideidkaaPathA
import Derived.Test.YtcfdajaideidkaaHostC
import Derived.Laws.EntriesVeiled
namespace Go.Proofs.Ytcfdajaideidkaa
open Go.RowKit
set_option linter.all false
set_option maxRecDepth 100000

def liveB (c : Ck) (now : Int) : Bool := decide (now < c.expiry)
def hostB (c : Ck) (f : Fr) : Bool := if c.hostOnly then f.host == c.domain else matchL f.host c.domain
def pathB (c : Ck) (f : Fr) : Bool := pmatchL f.path c.path
def wayB (c : Ck) (f : Fr) : Bool := f.secure || !c.secure
def handB (c : Ck) (f : Fr) : Bool := !f.script || !c.httpOnly
def siteB (c : Ck) (f : Fr) : Bool := !f.abroad || decide (c.site = 1)
def goesL (c : Ck) (f : Fr) (now : Int) : Bool := liveB c now && (hostB c f && (pathB c f && (wayB c f && (handB c f && siteB c f))))
theorem goes_iff (c : Ck) (f : Fr) (now : Int) : goesL c f now = true ↔ now < c.expiry ∧ hostB c f = true ∧ pmatchL f.path c.path = true ∧ (c.secure = true → f.secure = true) ∧ (f.script = true → c.httpOnly = false) ∧ (f.abroad = true → c.site = 1) := by
  unfold goesL liveB pathB wayB handB siteB
  simp only [Bool.and_eq_true, decide_eq_true_eq]
  refine and_congr_right fun _ => and_congr_right fun _ => and_congr_right fun _ => and_congr ?_ (and_congr ?_ ?_)
  · cases f.secure <;> cases c.secure <;> simp
  · cases f.script <;> cases c.httpOnly <;> simp
  · cases f.abroad <;> simp
theorem gm_iff (a b : List UInt8) : matchL a b = true ↔ a = b ∨ ((∃ x, a = x ++ 46 :: b) ∧ addrL a = false) := by
  unfold matchL
  rw [Bool.or_eq_true, beq_iff_eq, Bool.and_eq_true, Bool.not_eq_true']
  have : Lib.hasSuffix a (46 :: b) = true ↔ ∃ x, a = x ++ 46 :: b := by
    unfold Lib.hasSuffix
    rw [List.isSuffixOf_iff_suffix]
    exact ⟨fun ⟨x, h⟩ => ⟨x, h.symm⟩, fun ⟨x, h⟩ => ⟨x, h.symm⟩⟩
  rw [this]
theorem gm_trans (a b c : List UInt8) (h1 : matchL a b = true) (h2 : matchL b c = true) : matchL a c = true := by
  rw [gm_iff] at h1 h2 ⊢
  rcases h1 with rfl | ⟨⟨x, rfl⟩, h1⟩
  · exact h2
  · rcases h2 with rfl | ⟨⟨y, rfl⟩, h2⟩
    · exact .inr ⟨⟨x, rfl⟩, h1⟩
    · exact .inr ⟨⟨x ++ 46 :: y, by simp⟩, h1⟩
theorem goes_less {c : Ck} {f g : Fr} {now later : Int} (h1 : now ≤ later) (h2 : g.host = f.host) (h3 : g.path = f.path) (h4 : f.script = true → g.script = true) (h5 : f.abroad = true → g.abroad = true) (h6 : g.secure = true → f.secure = true)
    (h : goesL c g later = true) : goesL c f now = true := by
  rw [goes_iff] at h ⊢
  obtain ⟨a1, a2, a3, a4, a5, a6⟩ := h
  refine ⟨by omega, ?_, by rw [← h3]; exact a3, fun e => h6 (a4 e), fun e => a5 (h4 e), fun e => a6 (h5 e)⟩
  unfold hostB at a2 ⊢
  rw [← h2]; exact a2
/-- who asks below -/
def deepF (c : Ck) (f : Fr) (h p : List UInt8) : Fr := { f with host := if !c.hostOnly && matchL h f.host then h else f.host, path := if pmatchL p f.path then p else f.path }
theorem goes_deeper {c : Ck} {f : Fr} {now : Int} (h p : List UInt8) (h0 : goesL c f now = true) : goesL c (deepF c f h p) now = true := by
  rw [goes_iff] at h0 ⊢
  obtain ⟨a1, a2, a3, a4, a5, a6⟩ := h0
  refine ⟨a1, ?_, ?_, a4, a5, a6⟩
  · unfold hostB deepF at *
    cases ho : c.hostOnly
    · rw [ho] at a2
      simp only [Bool.false_eq_true, if_false, Bool.not_false, Bool.true_and] at a2 ⊢
      by_cases hm : matchL h f.host = true
      · rw [if_pos hm]; exact gm_trans _ _ _ hm a2
      · rw [if_neg hm]; exact a2
    · rw [ho] at a2
      simpa using a2
  · show pmatchL (if pmatchL p f.path then p else f.path) c.path = true
    by_cases hm : pmatchL p f.path = true
    · rw [if_pos hm]; exact pmatch_trans _ _ _ hm a3
    · rw [if_neg hm]; exact a3
end Go.Proofs.Ytcfdajaideidkaa
namespace Go.Proofs.Ytcfdajaideidkaa
open Go.RowKit
set_option linter.all false
set_option maxRecDepth 100000

theorem nil_of (s : ByteArray) (h : s.size ≤ 0) : s = ByteArray.empty := by
  apply ByteArray.ext
  have : s.data.size = 0 := by show s.size = 0; omega
  exact Array.size_eq_zero_iff.1 this
end Go.Proofs.Ytcfdajaideidkaa
namespace Go.Proofs.Ytcfdajaideidkaa
open Go.RowKit
set_option linter.all false
set_option maxRecDepth 100000
set_option maxRecDepth 100000

/-- who asks, and when, as cells -/
def asL (f : Fr) (now : Int) : List Value := [.string (txt f.host), .string (txt f.path), .bool f.secure, .bool f.script, .bool f.abroad, .int .i64 now]
theorem beq_txt (a b : List UInt8) : ((txt a).toList == (txt b).toList) = (a == b) := by rw [Lib.toList_data, Lib.toList_data]; rfl
set_option maxHeartbeats 1000000 in
theorem live_any (c : Ck) (now : Int) (w : World) : Calls Try.prog 16 #[.agg (ckC c).toArray, .int .i64 now] w fun e w' => e = .returned (.bool (liveB c now)) ∧ Below w.heap.size w w' := by
  simp only [ckC]
  unfold liveB
  go_enter Try.func16, Try.ntmps16
  go_wp2_with fail
  go_ret
  exact ⟨rfl, (Below.refl _ _).alloc (Nat.le_refl _) _⟩
end Go.Proofs.Ytcfdajaideidkaa
