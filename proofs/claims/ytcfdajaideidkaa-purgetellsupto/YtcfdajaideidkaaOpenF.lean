/- How those who ask, and cookies, come in. No walk. -/
import Derived.Test.YtcfdajaideidkaaWays
import Derived.Test.YtcfdajaideidkaaWho
namespace Go.Proofs.Ytcfdajaideidkaa
open Go.ChangeShapes Go.WideShapes Go.ChangeAt Go.RowKit
set_option linter.all false
set_option maxRecDepth 100000

def wCk : Way (List UInt8 × List UInt8 × List UInt8 × List UInt8 × Bool × Bool × Bool × Bool × Int × Int × Int × Int × Int) :=
  wPair wStr (wPair wStr (wPair wStr (wPair wStr (wPair wBool (wPair wBool (wPair wBool (wPair wBool (wPair wInt (wPair wInt (wPair wInt (wPair wInt wInt)))))))))))
def ckT (c : Ck) : List UInt8 × List UInt8 × List UInt8 × List UInt8 × Bool × Bool × Bool × Bool × Int × Int × Int × Int × Int :=
  (c.name, c.value, c.domain, c.path, c.hostOnly, c.secure, c.httpOnly, c.lasting, c.site, c.expiry, c.created, c.used, c.no)
def wCookie : Way Ck := ⟨13, fun m W cs c => wCk.rel m W cs (ckT c), fun c => wCk.bulk (ckT c)⟩
theorem opens_ck : Opens Try.prog 34 wCk :=
  opens_struct Try.underlying34 (by kernel_rfl) (opensF_cons rfl (opens_str Try.underlying9 (by kernel_rfl)) (opensF_cons rfl (opens_str Try.underlying9 (by kernel_rfl)) (opensF_cons rfl (opens_str Try.underlying9 (by kernel_rfl)) (opensF_cons rfl (opens_str Try.underlying9 (by kernel_rfl))
    (opensF_cons rfl (opens_bool Try.underlying4 (by kernel_rfl)) (opensF_cons rfl (opens_bool Try.underlying4 (by kernel_rfl)) (opensF_cons rfl (opens_bool Try.underlying4 (by kernel_rfl)) (opensF_cons rfl (opens_bool Try.underlying4 (by kernel_rfl))
    (opensF_cons rfl (opens_int Try.underlying3 (by kernel_rfl)) (opensF_cons rfl (opens_int Try.underlying3 (by kernel_rfl)) (opensF_cons rfl (opens_int Try.underlying3 (by kernel_rfl)) (opensF_cons rfl (opens_int Try.underlying3 (by kernel_rfl)) (opensF_one rfl (opens_int Try.underlying3 (by kernel_rfl)))))))))))))))
theorem opens_cookie : Opens Try.prog 34 wCookie := by
  refine ⟨opens_ck.1, fun {H enc W fuel cs x} h => ?_⟩
  obtain ⟨h1, a, h2, h3⟩ := opens_ck.2 h
  obtain ⟨a1, a2, a3, a4, a5, a6, a7, a8, a9, a10, a11, a12, a13⟩ := a
  exact ⟨h1, ⟨a1, a2, a3, a4, a5, a6, a7, a8, a9, a10, a11, a12, a13⟩, h2, h3⟩
theorem wCookie_is (m : Nat) (W : World) (ds : List Value) (c : Ck) (h : wCookie.rel m W ds c) : ds = ckC c := by
  obtain ⟨_, _, rfl, _, ⟨rfl, _⟩, ⟨_, _, rfl, _, ⟨rfl, _⟩, ⟨_, _, rfl, _, ⟨rfl, _⟩, ⟨_, _, rfl, _, ⟨rfl, _⟩, ⟨_, _, rfl, _, rfl, ⟨_, _, rfl, _, rfl, ⟨_, _, rfl, _, rfl, ⟨_, _, rfl, _, rfl, ⟨_, _, rfl, _, ⟨rfl, _⟩, ⟨_, _, rfl, _, ⟨rfl, _⟩, ⟨_, _, rfl, _, ⟨rfl, _⟩, ⟨_, _, rfl, _, ⟨rfl, _⟩, ⟨rfl, _⟩⟩⟩⟩⟩⟩⟩⟩⟩⟩⟩⟩⟩ := h
  rfl
theorem wCookie_ok (m : Nat) (W : World) (ds : List Value) (c : Ck) (h : wCookie.rel m W ds c) : CkOk m c := by
  obtain ⟨_, _, rfl, _, ⟨rfl, h1⟩, ⟨_, _, rfl, _, ⟨rfl, h2⟩, ⟨_, _, rfl, _, ⟨rfl, h3⟩, ⟨_, _, rfl, _, ⟨rfl, h4⟩, ⟨_, _, rfl, _, rfl, ⟨_, _, rfl, _, rfl, ⟨_, _, rfl, _, rfl, ⟨_, _, rfl, _, rfl, ⟨_, _, rfl, _, ⟨rfl, h5⟩, ⟨_, _, rfl, _, ⟨rfl, h6⟩, ⟨_, _, rfl, _, ⟨rfl, h7⟩, ⟨_, _, rfl, _, ⟨rfl, h8⟩, ⟨rfl, h9⟩⟩⟩⟩⟩⟩⟩⟩⟩⟩⟩⟩⟩ := h
  exact ⟨h1, h2, h3, h4, h5, h6, h7, h8, h9⟩
theorem open_cookie {H : Type} {enc : TypeId × Value → H} {W : World} {base : Nat} {v : Value} {d : DataW H} {ps : List MemPlace} (hv : Value.okWide Try.prog W .any base 34 v)
    (h : DataW.Trod enc Try.prog W 0 (fun _ => true) true 34 v d ps) (m : Nat) (hf : Fits m (DataW.weights Try.prog 34 d)) :
    ∃ c : Ck, v = .agg (ckC c).toArray ∧ CkOk m c ∧ wCookie.bulk c ≤ Rows.uptoBulk d := by
  obtain ⟨c, hl, hb⟩ := open_way opens_cookie h
  have hl := hl m hf
  have e := struct_cells Try.underlying34 hv
  rw [wCookie_is _ _ _ _ hl] at e
  exact ⟨c, e, wCookie_ok _ _ _ _ hl, hb⟩
end Go.Proofs.Ytcfdajaideidkaa
