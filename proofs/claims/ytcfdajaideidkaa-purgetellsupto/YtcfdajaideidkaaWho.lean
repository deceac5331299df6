/- Who asks, and cookies, as rows of cells in a block. No walk. -/
import Derived.Test.YtcfdajaideidkaaKit
namespace Go.Proofs.Ytcfdajaideidkaa
open Go.RowKit
set_option linter.all false
set_option maxRecDepth 100000

/-- who asks: host, path, by a secure way, out of a script, from another site -/
structure Fr where
  host : List UInt8
  path : List UInt8
  secure : Bool
  script : Bool
  abroad : Bool
def frL (f : Fr) : List Value := [.string (txt f.host), .string (txt f.path), .bool f.secure, .bool f.script, .bool f.abroad]
/-- a cookie that is kept -/
structure Ck where
  name : List UInt8
  value : List UInt8
  domain : List UInt8
  path : List UInt8
  hostOnly : Bool
  secure : Bool
  httpOnly : Bool
  lasting : Bool
  site : Int
  expiry : Int
  created : Int
  used : Int
  no : Int
def ckC (c : Ck) : List Value := [.string (txt c.name), .string (txt c.value), .string (txt c.domain), .string (txt c.path), .bool c.hostOnly, .bool c.secure, .bool c.httpOnly, .bool c.lasting, .int .i64 c.site, .int .i64 c.expiry, .int .i64 c.created, .int .i64 c.used, .int .i64 c.no]
def i64B (x : Int) : Prop := -9223372036854775808 ≤ x ∧ x ≤ 9223372036854775807
/-- a cookie whose texts are no longer than that, its numbers those of the machine -/
structure CkOk (m : Nat) (c : Ck) : Prop where
  name : c.name.length ≤ m
  value : c.value.length ≤ m
  domain : c.domain.length ≤ m
  path : c.path.length ≤ m
  site : i64B c.site
  expiry : i64B c.expiry
  created : i64B c.created
  used : i64B c.used
  no : i64B c.no
/-- block B holds these cells, and none of them is frozen -/
structure LRow (W : World) (B : Nat) (l : List Value) : Prop where
  all : ∀ (j : Nat) v, l[j]? = some v → W.cell? ⟨B, j, none⟩ = some v ∧ W.frozen? ⟨B, j, none⟩ = false
theorem LRow.cell {W : World} {B : Nat} {l : List Value} (h : LRow W B l) (j : Nat) {v : Value} (hj : l[j]? = some v) : W.cell? ⟨B, j, none⟩ = some v := (h.all j v hj).1
theorem LRow.frozen {W : World} {B : Nat} {l : List Value} (h : LRow W B l) (j : Nat) {v : Value} (hj : l[j]? = some v) : W.frozen? ⟨B, j, none⟩ = false := (h.all j v hj).2
theorem LRow.below {W W' : World} {A B : Nat} {l : List Value} (h : LRow W B l) (hb : Below A W W') (hA : B < A) : LRow W' B l :=
  ⟨fun j v hj => ⟨(hb.cell (p := ⟨B, j, none⟩) hA).trans (h.all j v hj).1, (hb.frozen (p := ⟨B, j, none⟩) hA).trans (h.all j v hj).2⟩⟩
theorem LRow.drewN {W : World} {B : Nat} {l : List Value} (h : LRow W B l) (n : Nat) : LRow (W.drewN n) B l := ⟨h.all⟩
theorem LRow.set {W : World} {B : Nat} {l : List Value} (h : LRow W B l) (k : Nat) (x : Value) : LRow (W.setCell ⟨B, k, none⟩ x) B (l.set k x) := by
  refine ⟨fun j v hj => ?_⟩
  by_cases e : k = j
  · subst e
    rw [List.getElem?_set_self'] at hj
    cases hk : l[k]? with
    | none => rw [hk] at hj; cases hj
    | some u =>
      rw [hk] at hj
      injection hj with hj
      refine ⟨?_, by rw [World.frozen?_setCell]; exact (h.all k u hk).2⟩
      rw [← hj]
      exact World.cell?_setCell_same _ _ _ (h.all k u hk).1
  · rw [List.getElem?_set_ne e] at hj
    refine ⟨?_, by rw [World.frozen?_setCell]; exact (h.all j v hj).2⟩
    rw [World.cell?_setCell_other _ _ _ _ (by intro e'; injection e' with _ e2; exact e e2)]
    exact (h.all j v hj).1
theorem LRow.new (w : World) (l : List Value) (t : TypeId) : LRow (w.alloc (.cells l.toArray t)) w.heap.size l := by
  refine ⟨fun j v hj => ?_⟩
  have hlt := (List.getElem?_eq_some_iff.1 hj).1
  refine ⟨?_, ?_⟩
  · rw [World.cell?_alloc_new]; simpa using hj
  · simp [hlt]
end Go.Proofs.Ytcfdajaideidkaa
