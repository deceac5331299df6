/-
  No cell of these rows narrows 'for every input' (looked for: loops, veiled, ifaces, maps, wideKeys, modest, calm, conditions, laid).
  DERIVED. THE GIVEN ROWS OF THIS SEAT. 4 by the template 'for every input the law returns true; each argument reads behind the call as it read before'; 0 by the template 'total and deterministic' (their statements: YtgjjkieljdamfafTotals.lean).
  GIVEN WITH THE SEED: the statements are not yours to turn. If you find one false, say at which input.
  Laid BY PROGRAM, IN A SANDBOX (cutbox-rows.mjs): the forced cells as the released guide's own fill.sh prints them over the translation b1c40d41305a007f… (all of the seat's roots in one cut). By AI agents, Wed Nov 11 2026. No macro, syntax, notation, axiom, sorry.
-/
import Derived.Test.YtgjjkieljdamfafChecked
import GoSem.Claim
import GoSem.ClaimJoined
import GoSem.ClaimMapViews
import Derived.JoinedTies
import Derived.KernelRfl
namespace Go.Proofs.Ytgjjkieljdamfaf
/- THE CELL 'sum', in the pinned program and in every row, IS THE sha256 OF THE DUMP (.gsa) THAT YtgjjkieljdamfafProg.lean LOADS. Nothing in Lean hashes anything: it is a label: what it is worth is what the hold of that sum in a sandbox is worth. -/
noncomputable def Try.pinned : Pinned := { name := "ytgjjkieljdamfaf", sum := "b1c40d41305a007f2133d4323f49d899b3ab22eacda42c89485fb9589eae2827", checked := Try.checked }
namespace Rows
def none {H : Type} : Left H := { results := [], args := [] }

/-- 'gingersnaplaw.GoesTells': WHATEVER THE INPUT: true; the input reads as it did. -/
def goesTellsSpec : ChangeSpec := { name := "goesTells", fn := fun _ => fun
  | [d1, d2, d3] => { results := [.lit (.bool true)], args := [d1, d2, d3] }
  | _ => none }
def goesTellsRow : OpenClaim := { program := "ytgjjkieljdamfaf", sum := "b1c40d41305a007f2133d4323f49d899b3ab22eacda42c89485fb9589eae2827", func := "gingersnap/gingersnaplaw.GoesTells", spec := "goesTells", inPlace := ["internal/bytealg.CountString", "internal/bytealg.IndexByteString", "internal/bytealg.IndexString"], unfollowed := true, recurses := true, named := ["internal/bytealg.MaxLen"], apart := false }
def GoesTellsSaid : Prop := goesTellsRow.holds Try.pinned (OpenSpec.ofChange goesTellsSpec)

/-- ITS FALSE NEIGHBOUR: 'it returns false'. Refute it at one input. -/
def goesTellsWrong : ChangeSpec := { name := "goesTells", fn := fun _ => fun
  | [d1, d2, d3] => { results := [.lit (.bool false)], args := [d1, d2, d3] }
  | _ => none }
def GoesTellsWrongFalsely : Prop := goesTellsRow.holds Try.pinned (OpenSpec.ofChange goesTellsWrong)

/-- 'gingersnaplaw.GoesLess': WHATEVER THE INPUT: true; the input reads as it did. -/
def goesLessSpec : ChangeSpec := { name := "goesLess", fn := fun _ => fun
  | [d1, d2, d3, d4, d5] => { results := [.lit (.bool true)], args := [d1, d2, d3, d4, d5] }
  | _ => none }
def goesLessRow : OpenClaim := { program := "ytgjjkieljdamfaf", sum := "b1c40d41305a007f2133d4323f49d899b3ab22eacda42c89485fb9589eae2827", func := "gingersnap/gingersnaplaw.GoesLess", spec := "goesLess", inPlace := ["internal/bytealg.CountString", "internal/bytealg.IndexByteString", "internal/bytealg.IndexString"], unfollowed := true, recurses := true, named := ["internal/bytealg.MaxLen"], apart := false }
def GoesLessSaid : Prop := goesLessRow.holds Try.pinned (OpenSpec.ofChange goesLessSpec)

/-- ITS FALSE NEIGHBOUR: 'it returns false'. Refute it at one input. -/
def goesLessWrong : ChangeSpec := { name := "goesLess", fn := fun _ => fun
  | [d1, d2, d3, d4, d5] => { results := [.lit (.bool false)], args := [d1, d2, d3, d4, d5] }
  | _ => none }
def GoesLessWrongFalsely : Prop := goesLessRow.holds Try.pinned (OpenSpec.ofChange goesLessWrong)

/-- 'gingersnaplaw.GoesDeeper': WHATEVER THE INPUT: true; the input reads as it did. -/
def goesDeeperSpec : ChangeSpec := { name := "goesDeeper", fn := fun _ => fun
  | [d1, d2, d3, d4, d5] => { results := [.lit (.bool true)], args := [d1, d2, d3, d4, d5] }
  | _ => none }
def goesDeeperRow : OpenClaim := { program := "ytgjjkieljdamfaf", sum := "b1c40d41305a007f2133d4323f49d899b3ab22eacda42c89485fb9589eae2827", func := "gingersnap/gingersnaplaw.GoesDeeper", spec := "goesDeeper", inPlace := ["internal/bytealg.CountString", "internal/bytealg.IndexByteString", "internal/bytealg.IndexString"], unfollowed := true, recurses := true, named := ["internal/bytealg.MaxLen"], apart := false }
def GoesDeeperSaid : Prop := goesDeeperRow.holds Try.pinned (OpenSpec.ofChange goesDeeperSpec)

/-- ITS FALSE NEIGHBOUR: 'it returns false'. Refute it at one input. -/
def goesDeeperWrong : ChangeSpec := { name := "goesDeeper", fn := fun _ => fun
  | [d1, d2, d3, d4, d5] => { results := [.lit (.bool false)], args := [d1, d2, d3, d4, d5] }
  | _ => none }
def GoesDeeperWrongFalsely : Prop := goesDeeperRow.holds Try.pinned (OpenSpec.ofChange goesDeeperWrong)

/-- 'gingersnaplaw.LineTells': WHATEVER THE INPUT: true; the input reads as it did. -/
def lineTellsSpec : ChangeSpec := { name := "lineTells", fn := fun _ => fun
  | [d1, d2] => { results := [.lit (.bool true)], args := [d1, d2] }
  | _ => none }
def lineTellsRow : OpenClaim := { program := "ytgjjkieljdamfaf", sum := "b1c40d41305a007f2133d4323f49d899b3ab22eacda42c89485fb9589eae2827", func := "gingersnap/gingersnaplaw.LineTells", spec := "lineTells", inPlace := ["internal/bytealg.IndexByteString"], unfollowed := true, recurses := true, apart := false }
def LineTellsSaid : Prop := lineTellsRow.holds Try.pinned (OpenSpec.ofChange lineTellsSpec)

/-- ITS FALSE NEIGHBOUR: 'it returns false'. Refute it at one input. -/
def lineTellsWrong : ChangeSpec := { name := "lineTells", fn := fun _ => fun
  | [d1, d2] => { results := [.lit (.bool false)], args := [d1, d2] }
  | _ => none }
def LineTellsWrongFalsely : Prop := lineTellsRow.holds Try.pinned (OpenSpec.ofChange lineTellsWrong)

/- THE SECOND FORM. 'bulk': how many values and letters a reading holds, each counted each time it is reached (what is shared counts as often as it is met; a slice's spare places count too). A statement '..UptoSaid' is the law's where the arguments, and the package variables that the reading takes, are together of bulk at most 1048576: NARROWER than '..Said'. Prove '..Said' where nothing that the law and all that it calls make is longer than what came in: it says more and counts as full. Else prove '..UptoSaid'. A law counts once. -/
mutual
def uptoBulk {H : Type} : DataW H → Nat
  | .lit (.string bytes) => bytes.length + 1
  | .lit _ => 1
  | .nil => 1
  | .ptr d => uptoBulk d + 1
  | .slice elems spare => uptoBulkAll elems + uptoBulkAll spare + 1
  | .agg parts => uptoBulkAll parts + 1
  | .iface _ d => uptoBulk d + 1
  | .map entries => uptoBulkEntries entries + 1
  | .held _ => 1
def uptoBulkAll {H : Type} : List (DataW H) → Nat
  | [] => 0
  | d :: r => uptoBulk d + uptoBulkAll r
def uptoBulkEntries {H : Type} : List (Lit × DataW H) → Nat
  | [] => 0
  | x :: r => uptoBulkEntry x + uptoBulkEntries r
def uptoBulkEntry {H : Type} : Lit × DataW H → Nat
  | (.string bytes, d) => bytes.length + uptoBulk d + 1
  | (_, d) => uptoBulk d + 1
 end
def uptoSmall : (H : Type) → List (DataW H) → Bool := fun _ ds => decide (uptoBulkAll ds ≤ 1048576)
def OpenSpec.upto (s : _root_.Go.ChangeSpec) : _root_.Go.OpenSpec := { _root_.Go.OpenSpec.ofChange s with cond := some uptoSmall }

/-- 'gingersnaplaw.GoesTells', WHERE WHAT IT READS IS OF BULK AT MOST 1048576: true; the input reads as it did. -/
def goesTellsUptoRow : OpenClaim := { program := "ytgjjkieljdamfaf", sum := "b1c40d41305a007f2133d4323f49d899b3ab22eacda42c89485fb9589eae2827", func := "gingersnap/gingersnaplaw.GoesTells", spec := "goesTells", inPlace := ["internal/bytealg.CountString", "internal/bytealg.IndexByteString", "internal/bytealg.IndexString"], unfollowed := true, recurses := true, named := ["internal/bytealg.MaxLen"], apart := false, narrowed := true }
def GoesTellsUptoSaid : Prop := goesTellsUptoRow.holds Try.pinned (OpenSpec.upto goesTellsSpec)

/-- 'gingersnaplaw.GoesLess', WHERE WHAT IT READS IS OF BULK AT MOST 1048576: true; the input reads as it did. -/
def goesLessUptoRow : OpenClaim := { program := "ytgjjkieljdamfaf", sum := "b1c40d41305a007f2133d4323f49d899b3ab22eacda42c89485fb9589eae2827", func := "gingersnap/gingersnaplaw.GoesLess", spec := "goesLess", inPlace := ["internal/bytealg.CountString", "internal/bytealg.IndexByteString", "internal/bytealg.IndexString"], unfollowed := true, recurses := true, named := ["internal/bytealg.MaxLen"], apart := false, narrowed := true }
def GoesLessUptoSaid : Prop := goesLessUptoRow.holds Try.pinned (OpenSpec.upto goesLessSpec)

/-- 'gingersnaplaw.GoesDeeper', WHERE WHAT IT READS IS OF BULK AT MOST 1048576: true; the input reads as it did. -/
def goesDeeperUptoRow : OpenClaim := { program := "ytgjjkieljdamfaf", sum := "b1c40d41305a007f2133d4323f49d899b3ab22eacda42c89485fb9589eae2827", func := "gingersnap/gingersnaplaw.GoesDeeper", spec := "goesDeeper", inPlace := ["internal/bytealg.CountString", "internal/bytealg.IndexByteString", "internal/bytealg.IndexString"], unfollowed := true, recurses := true, named := ["internal/bytealg.MaxLen"], apart := false, narrowed := true }
def GoesDeeperUptoSaid : Prop := goesDeeperUptoRow.holds Try.pinned (OpenSpec.upto goesDeeperSpec)

/-- 'gingersnaplaw.LineTells', WHERE WHAT IT READS IS OF BULK AT MOST 1048576: true; the input reads as it did. -/
def lineTellsUptoRow : OpenClaim := { program := "ytgjjkieljdamfaf", sum := "b1c40d41305a007f2133d4323f49d899b3ab22eacda42c89485fb9589eae2827", func := "gingersnap/gingersnaplaw.LineTells", spec := "lineTells", inPlace := ["internal/bytealg.IndexByteString"], unfollowed := true, recurses := true, apart := false, narrowed := true }
def LineTellsUptoSaid : Prop := lineTellsUptoRow.holds Try.pinned (OpenSpec.upto lineTellsSpec)

end Rows
end Go.Proofs.Ytgjjkieljdamfaf
