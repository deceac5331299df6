/-
  No cell of these rows narrows 'for every input' (looked for: loops, veiled, ifaces, maps, wideKeys, modest, calm, conditions, laid).
  DERIVED. THE GIVEN ROWS OF THIS SEAT. 7 by the template 'for every input the law returns true; each argument reads behind the call as it read before'; 0 by the template 'total and deterministic' (their statements: YtmjcgkjkhpjgbaaTotals.lean).
  GIVEN WITH THE SEED: the statements are not yours to turn. If you find one false, say at which input.
  Laid BY PROGRAM, IN A SANDBOX (cutbox-rows.mjs): the forced cells as the released guide's own fill.sh prints them over the translation e8a0d65357fc02e8… (all of the seat's roots in one cut). By AI agents, Wed Nov 11 2026. No macro, syntax, notation, axiom, sorry.
-/
import Derived.Test.YtmjcgkjkhpjgbaaChecked
import GoSem.Claim
import GoSem.ClaimJoined
import GoSem.ClaimMapViews
import Derived.JoinedTies
import Derived.KernelRfl
namespace Go.Proofs.Ytmjcgkjkhpjgbaa
/- THE CELL 'sum', in the pinned program and in every row, IS THE sha256 OF THE DUMP (.gsa) THAT YtmjcgkjkhpjgbaaProg.lean LOADS. Nothing in Lean hashes anything: it is a label: what it is worth is what the hold of that sum in a sandbox is worth. -/
noncomputable def Try.pinned : Pinned := { name := "ytmjcgkjkhpjgbaa", sum := "e8a0d65357fc02e8bbc3ae60b8473c055e5ef4a25cbc8e5d9b4eb720ec79b474", checked := Try.checked }
namespace Rows
def none {H : Type} : Left H := { results := [], args := [] }

/-- 'gingersnaplaw.PolicyTells': WHATEVER THE INPUT: true; the input reads as it did. -/
def policyTellsSpec : ChangeSpec := { name := "policyTells", fn := fun _ => fun
  | [d1, d2, d3] => { results := [.lit (.bool true)], args := [d1, d2, d3] }
  | _ => none }
def policyTellsRow : OpenClaim := { program := "ytmjcgkjkhpjgbaa", sum := "e8a0d65357fc02e8bbc3ae60b8473c055e5ef4a25cbc8e5d9b4eb720ec79b474", func := "gingersnap/gingersnaplaw.PolicyTells", spec := "policyTells", inPlace := ["internal/bytealg.IndexByteString"], unfollowed := true, recurses := true, apart := false }
def PolicyTellsSaid : Prop := policyTellsRow.holds Try.pinned (OpenSpec.ofChange policyTellsSpec)

/-- ITS FALSE NEIGHBOUR: 'it returns false'. Refute it at one input. -/
def policyTellsWrong : ChangeSpec := { name := "policyTells", fn := fun _ => fun
  | [d1, d2, d3] => { results := [.lit (.bool false)], args := [d1, d2, d3] }
  | _ => none }
def PolicyTellsWrongFalsely : Prop := policyTellsRow.holds Try.pinned (OpenSpec.ofChange policyTellsWrong)

/-- 'gingersnaplaw.PolicyFirst': WHATEVER THE INPUT: true; the input reads as it did. -/
def policyFirstSpec : ChangeSpec := { name := "policyFirst", fn := fun _ => fun
  | [d1, d2, d3, d4] => { results := [.lit (.bool true)], args := [d1, d2, d3, d4] }
  | _ => none }
def policyFirstRow : OpenClaim := { program := "ytmjcgkjkhpjgbaa", sum := "e8a0d65357fc02e8bbc3ae60b8473c055e5ef4a25cbc8e5d9b4eb720ec79b474", func := "gingersnap/gingersnaplaw.PolicyFirst", spec := "policyFirst", inPlace := ["internal/bytealg.IndexByteString"], unfollowed := true, recurses := true, apart := false }
def PolicyFirstSaid : Prop := policyFirstRow.holds Try.pinned (OpenSpec.ofChange policyFirstSpec)

/-- ITS FALSE NEIGHBOUR: 'it returns false'. Refute it at one input. -/
def policyFirstWrong : ChangeSpec := { name := "policyFirst", fn := fun _ => fun
  | [d1, d2, d3, d4] => { results := [.lit (.bool false)], args := [d1, d2, d3, d4] }
  | _ => none }
def PolicyFirstWrongFalsely : Prop := policyFirstRow.holds Try.pinned (OpenSpec.ofChange policyFirstWrong)

/-- 'gingersnaplaw.PolicyAway': WHATEVER THE INPUT: true; the input reads as it did. -/
def policyAwaySpec : ChangeSpec := { name := "policyAway", fn := fun _ => fun
  | [d1, d2] => { results := [.lit (.bool true)], args := [d1, d2] }
  | _ => none }
def policyAwayRow : OpenClaim := { program := "ytmjcgkjkhpjgbaa", sum := "e8a0d65357fc02e8bbc3ae60b8473c055e5ef4a25cbc8e5d9b4eb720ec79b474", func := "gingersnap/gingersnaplaw.PolicyAway", spec := "policyAway", inPlace := ["internal/bytealg.IndexByteString"], unfollowed := true, recurses := true, apart := false }
def PolicyAwaySaid : Prop := policyAwayRow.holds Try.pinned (OpenSpec.ofChange policyAwaySpec)

/-- ITS FALSE NEIGHBOUR: 'it returns false'. Refute it at one input. -/
def policyAwayWrong : ChangeSpec := { name := "policyAway", fn := fun _ => fun
  | [d1, d2] => { results := [.lit (.bool false)], args := [d1, d2] }
  | _ => none }
def PolicyAwayWrongFalsely : Prop := policyAwayRow.holds Try.pinned (OpenSpec.ofChange policyAwayWrong)

/-- 'gingersnaplaw.PolicyLess': WHATEVER THE INPUT: true; the input reads as it did. -/
def policyLessSpec : ChangeSpec := { name := "policyLess", fn := fun _ => fun
  | [d1, d2, d3, d4] => { results := [.lit (.bool true)], args := [d1, d2, d3, d4] }
  | _ => none }
def policyLessRow : OpenClaim := { program := "ytmjcgkjkhpjgbaa", sum := "e8a0d65357fc02e8bbc3ae60b8473c055e5ef4a25cbc8e5d9b4eb720ec79b474", func := "gingersnap/gingersnaplaw.PolicyLess", spec := "policyLess", inPlace := ["internal/bytealg.IndexByteString"], unfollowed := true, recurses := true, apart := false }
def PolicyLessSaid : Prop := policyLessRow.holds Try.pinned (OpenSpec.ofChange policyLessSpec)

/-- ITS FALSE NEIGHBOUR: 'it returns false'. Refute it at one input. -/
def policyLessWrong : ChangeSpec := { name := "policyLess", fn := fun _ => fun
  | [d1, d2, d3, d4] => { results := [.lit (.bool false)], args := [d1, d2, d3, d4] }
  | _ => none }
def PolicyLessWrongFalsely : Prop := policyLessRow.holds Try.pinned (OpenSpec.ofChange policyLessWrong)

/-- 'gingersnaplaw.CapTells': WHATEVER THE INPUT: true; the input reads as it did. -/
def capTellsSpec : ChangeSpec := { name := "capTells", fn := fun _ => fun
  | [d1, d2] => { results := [.lit (.bool true)], args := [d1, d2] }
  | _ => none }
def capTellsRow : OpenClaim := { program := "ytmjcgkjkhpjgbaa", sum := "e8a0d65357fc02e8bbc3ae60b8473c055e5ef4a25cbc8e5d9b4eb720ec79b474", func := "gingersnap/gingersnaplaw.CapTells", spec := "capTells", inPlace := ["internal/bytealg.IndexByteString"], unfollowed := true, recurses := true, apart := false }
def CapTellsSaid : Prop := capTellsRow.holds Try.pinned (OpenSpec.ofChange capTellsSpec)

/-- ITS FALSE NEIGHBOUR: 'it returns false'. Refute it at one input. -/
def capTellsWrong : ChangeSpec := { name := "capTells", fn := fun _ => fun
  | [d1, d2] => { results := [.lit (.bool false)], args := [d1, d2] }
  | _ => none }
def CapTellsWrongFalsely : Prop := capTellsRow.holds Try.pinned (OpenSpec.ofChange capTellsWrong)

/-- 'gingersnaplaw.CapTwice': WHATEVER THE INPUT: true; the input reads as it did. -/
def capTwiceSpec : ChangeSpec := { name := "capTwice", fn := fun _ => fun
  | [d1, d2] => { results := [.lit (.bool true)], args := [d1, d2] }
  | _ => none }
def capTwiceRow : OpenClaim := { program := "ytmjcgkjkhpjgbaa", sum := "e8a0d65357fc02e8bbc3ae60b8473c055e5ef4a25cbc8e5d9b4eb720ec79b474", func := "gingersnap/gingersnaplaw.CapTwice", spec := "capTwice", inPlace := ["internal/bytealg.IndexByteString"], unfollowed := true, recurses := true, apart := false }
def CapTwiceSaid : Prop := capTwiceRow.holds Try.pinned (OpenSpec.ofChange capTwiceSpec)

/-- ITS FALSE NEIGHBOUR: 'it returns false'. Refute it at one input. -/
def capTwiceWrong : ChangeSpec := { name := "capTwice", fn := fun _ => fun
  | [d1, d2] => { results := [.lit (.bool false)], args := [d1, d2] }
  | _ => none }
def CapTwiceWrongFalsely : Prop := capTwiceRow.holds Try.pinned (OpenSpec.ofChange capTwiceWrong)

/-- 'gingersnaplaw.CapLess': WHATEVER THE INPUT: true; the input reads as it did. -/
def capLessSpec : ChangeSpec := { name := "capLess", fn := fun _ => fun
  | [d1, d2, d3] => { results := [.lit (.bool true)], args := [d1, d2, d3] }
  | _ => none }
def capLessRow : OpenClaim := { program := "ytmjcgkjkhpjgbaa", sum := "e8a0d65357fc02e8bbc3ae60b8473c055e5ef4a25cbc8e5d9b4eb720ec79b474", func := "gingersnap/gingersnaplaw.CapLess", spec := "capLess", inPlace := ["internal/bytealg.IndexByteString"], unfollowed := true, recurses := true, apart := false }
def CapLessSaid : Prop := capLessRow.holds Try.pinned (OpenSpec.ofChange capLessSpec)

/-- ITS FALSE NEIGHBOUR: 'it returns false'. Refute it at one input. -/
def capLessWrong : ChangeSpec := { name := "capLess", fn := fun _ => fun
  | [d1, d2, d3] => { results := [.lit (.bool false)], args := [d1, d2, d3] }
  | _ => none }
def CapLessWrongFalsely : Prop := capLessRow.holds Try.pinned (OpenSpec.ofChange capLessWrong)

/- THE SECOND FORM. 'bulk': how many values and letters a reading holds, each counted each time it is reached (what is shared counts as often as it is met; a slice's spare places count too). A statement '..UptoSaid' is the law's where the arguments, and the package variables that the reading takes, are together of bulk at most 1048576: NARROWER than '..Said'. Prove '..Said' where nothing that the law and all that it calls make is longer than what came in: it says more and counts as full. Else prove '..UptoSaid'. A law counts once. -/
mutual
def uptoBulk {H : Type} : DataW H → Nat
  | .lit (.string bytes) => bytes.length + 1
  | .lit _ => 1
  | .nil => 1
  | .ptr d => uptoBulk d + 1
  | .slice elems spare => uptoBulkAll elems + uptoBulkAll spare + 1
  | .agg parts => uptoBulkAll parts + 1
  | .iface _ d => uptoBulk d + 1
  | .map entries => uptoBulkEntries entries + 1
  | .held _ => 1
def uptoBulkAll {H : Type} : List (DataW H) → Nat
  | [] => 0
  | d :: r => uptoBulk d + uptoBulkAll r
def uptoBulkEntries {H : Type} : List (Lit × DataW H) → Nat
  | [] => 0
  | x :: r => uptoBulkEntry x + uptoBulkEntries r
def uptoBulkEntry {H : Type} : Lit × DataW H → Nat
  | (.string bytes, d) => bytes.length + uptoBulk d + 1
  | (_, d) => uptoBulk d + 1
 end
def uptoSmall : (H : Type) → List (DataW H) → Bool := fun _ ds => decide (uptoBulkAll ds ≤ 1048576)
def OpenSpec.upto (s : _root_.Go.ChangeSpec) : _root_.Go.OpenSpec := { _root_.Go.OpenSpec.ofChange s with cond := some uptoSmall }

/-- 'gingersnaplaw.PolicyTells', WHERE WHAT IT READS IS OF BULK AT MOST 1048576: true; the input reads as it did. -/
def policyTellsUptoRow : OpenClaim := { program := "ytmjcgkjkhpjgbaa", sum := "e8a0d65357fc02e8bbc3ae60b8473c055e5ef4a25cbc8e5d9b4eb720ec79b474", func := "gingersnap/gingersnaplaw.PolicyTells", spec := "policyTells", inPlace := ["internal/bytealg.IndexByteString"], unfollowed := true, recurses := true, apart := false, narrowed := true }
def PolicyTellsUptoSaid : Prop := policyTellsUptoRow.holds Try.pinned (OpenSpec.upto policyTellsSpec)

/-- 'gingersnaplaw.PolicyFirst', WHERE WHAT IT READS IS OF BULK AT MOST 1048576: true; the input reads as it did. -/
def policyFirstUptoRow : OpenClaim := { program := "ytmjcgkjkhpjgbaa", sum := "e8a0d65357fc02e8bbc3ae60b8473c055e5ef4a25cbc8e5d9b4eb720ec79b474", func := "gingersnap/gingersnaplaw.PolicyFirst", spec := "policyFirst", inPlace := ["internal/bytealg.IndexByteString"], unfollowed := true, recurses := true, apart := false, narrowed := true }
def PolicyFirstUptoSaid : Prop := policyFirstUptoRow.holds Try.pinned (OpenSpec.upto policyFirstSpec)

/-- 'gingersnaplaw.PolicyAway', WHERE WHAT IT READS IS OF BULK AT MOST 1048576: true; the input reads as it did. -/
def policyAwayUptoRow : OpenClaim := { program := "ytmjcgkjkhpjgbaa", sum := "e8a0d65357fc02e8bbc3ae60b8473c055e5ef4a25cbc8e5d9b4eb720ec79b474", func := "gingersnap/gingersnaplaw.PolicyAway", spec := "policyAway", inPlace := ["internal/bytealg.IndexByteString"], unfollowed := true, recurses := true, apart := false, narrowed := true }
def PolicyAwayUptoSaid : Prop := policyAwayUptoRow.holds Try.pinned (OpenSpec.upto policyAwaySpec)

/-- 'gingersnaplaw.PolicyLess', WHERE WHAT IT READS IS OF BULK AT MOST 1048576: true; the input reads as it did. -/
def policyLessUptoRow : OpenClaim := { program := "ytmjcgkjkhpjgbaa", sum := "e8a0d65357fc02e8bbc3ae60b8473c055e5ef4a25cbc8e5d9b4eb720ec79b474", func := "gingersnap/gingersnaplaw.PolicyLess", spec := "policyLess", inPlace := ["internal/bytealg.IndexByteString"], unfollowed := true, recurses := true, apart := false, narrowed := true }
def PolicyLessUptoSaid : Prop := policyLessUptoRow.holds Try.pinned (OpenSpec.upto policyLessSpec)

/-- 'gingersnaplaw.CapTells', WHERE WHAT IT READS IS OF BULK AT MOST 1048576: true; the input reads as it did. -/
def capTellsUptoRow : OpenClaim := { program := "ytmjcgkjkhpjgbaa", sum := "e8a0d65357fc02e8bbc3ae60b8473c055e5ef4a25cbc8e5d9b4eb720ec79b474", func := "gingersnap/gingersnaplaw.CapTells", spec := "capTells", inPlace := ["internal/bytealg.IndexByteString"], unfollowed := true, recurses := true, apart := false, narrowed := true }
def CapTellsUptoSaid : Prop := capTellsUptoRow.holds Try.pinned (OpenSpec.upto capTellsSpec)

/-- 'gingersnaplaw.CapTwice', WHERE WHAT IT READS IS OF BULK AT MOST 1048576: true; the input reads as it did. -/
def capTwiceUptoRow : OpenClaim := { program := "ytmjcgkjkhpjgbaa", sum := "e8a0d65357fc02e8bbc3ae60b8473c055e5ef4a25cbc8e5d9b4eb720ec79b474", func := "gingersnap/gingersnaplaw.CapTwice", spec := "capTwice", inPlace := ["internal/bytealg.IndexByteString"], unfollowed := true, recurses := true, apart := false, narrowed := true }
def CapTwiceUptoSaid : Prop := capTwiceUptoRow.holds Try.pinned (OpenSpec.upto capTwiceSpec)

/-- 'gingersnaplaw.CapLess', WHERE WHAT IT READS IS OF BULK AT MOST 1048576: true; the input reads as it did. -/
def capLessUptoRow : OpenClaim := { program := "ytmjcgkjkhpjgbaa", sum := "e8a0d65357fc02e8bbc3ae60b8473c055e5ef4a25cbc8e5d9b4eb720ec79b474", func := "gingersnap/gingersnaplaw.CapLess", spec := "capLess", inPlace := ["internal/bytealg.IndexByteString"], unfollowed := true, recurses := true, apart := false, narrowed := true }
def CapLessUptoSaid : Prop := capLessUptoRow.holds Try.pinned (OpenSpec.upto capLessSpec)

end Rows
end Go.Proofs.Ytmjcgkjkhpjgbaa
