/-
  No cell of these rows narrows 'for every input' (looked for: loops, veiled, ifaces, maps, wideKeys, modest, calm, conditions, laid).
  DERIVED. THE GIVEN ROWS OF THIS SEAT. 7 by the template 'for every input the law returns true; each argument reads behind the call as it read before'; 0 by the template 'total and deterministic' (their statements: YtgdcifllbfdbhaaTotals.lean).
  GIVEN WITH THE SEED: the statements are not yours to turn. If you find one false, say at which input.
  Laid BY PROGRAM, IN A SANDBOX (cutbox-rows.mjs): the forced cells as the released guide's own fill.sh prints them over the translation bdebfe1cc47f699f… (all of the seat's roots in one cut). By AI agents, Wed Nov 11 2026. No macro, syntax, notation, axiom, sorry.
-/
import Derived.Test.YtgdcifllbfdbhaaChecked
import GoSem.Claim
import GoSem.ClaimJoined
import GoSem.ClaimMapViews
import Derived.JoinedTies
import Derived.KernelRfl
namespace Go.Proofs.Ytgdcifllbfdbhaa
/- THE CELL 'sum', in the pinned program and in every row, IS THE sha256 OF THE DUMP (.gsa) THAT YtgdcifllbfdbhaaProg.lean LOADS. Nothing in Lean hashes anything: it is a label: what it is worth is what the hold of that sum in a sandbox is worth. -/
noncomputable def Try.pinned : Pinned := { name := "ytgdcifllbfdbhaa", sum := "bdebfe1cc47f699f4d145334e26fd0d02264acfac81fcc61b9ce58dfc690f0d8", checked := Try.checked }
namespace Rows
def none {H : Type} : Left H := { results := [], args := [] }

/-- 'gingersnaplaw.SixtyTells': WHATEVER THE INPUT: true; the input reads as it did. -/
def sixtyTellsSpec : ChangeSpec := { name := "sixtyTells", fn := fun _ => fun
  | [d1, d2] => { results := [.lit (.bool true)], args := [d1, d2] }
  | _ => none }
def sixtyTellsRow : OpenClaim := { program := "ytgdcifllbfdbhaa", sum := "bdebfe1cc47f699f4d145334e26fd0d02264acfac81fcc61b9ce58dfc690f0d8", func := "gingersnap/gingersnaplaw.SixtyTells", spec := "sixtyTells", inPlace := ["internal/bytealg.IndexByteString", "internal/abi.NoEscape"], unfollowed := true, recurses := true, apart := false }
def SixtyTellsSaid : Prop := sixtyTellsRow.holds Try.pinned (OpenSpec.ofChange sixtyTellsSpec)

/-- ITS FALSE NEIGHBOUR: 'it returns false'. Refute it at one input. -/
def sixtyTellsWrong : ChangeSpec := { name := "sixtyTells", fn := fun _ => fun
  | [d1, d2] => { results := [.lit (.bool false)], args := [d1, d2] }
  | _ => none }
def SixtyTellsWrongFalsely : Prop := sixtyTellsRow.holds Try.pinned (OpenSpec.ofChange sixtyTellsWrong)

/-- 'gingersnaplaw.SixtyBack': WHATEVER THE INPUT: true; the input reads as it did. -/
def sixtyBackSpec : ChangeSpec := { name := "sixtyBack", fn := fun _ => fun
  | [d1, d2] => { results := [.lit (.bool true)], args := [d1, d2] }
  | _ => none }
def sixtyBackRow : OpenClaim := { program := "ytgdcifllbfdbhaa", sum := "bdebfe1cc47f699f4d145334e26fd0d02264acfac81fcc61b9ce58dfc690f0d8", func := "gingersnap/gingersnaplaw.SixtyBack", spec := "sixtyBack", inPlace := ["internal/bytealg.IndexByteString", "internal/abi.NoEscape"], unfollowed := true, recurses := true, apart := false }
def SixtyBackSaid : Prop := sixtyBackRow.holds Try.pinned (OpenSpec.ofChange sixtyBackSpec)

/-- ITS FALSE NEIGHBOUR: 'it returns false'. Refute it at one input. -/
def sixtyBackWrong : ChangeSpec := { name := "sixtyBack", fn := fun _ => fun
  | [d1, d2] => { results := [.lit (.bool false)], args := [d1, d2] }
  | _ => none }
def SixtyBackWrongFalsely : Prop := sixtyBackRow.holds Try.pinned (OpenSpec.ofChange sixtyBackWrong)

/-- 'gingersnaplaw.SixtyJoins': WHATEVER THE INPUT: true; the input reads as it did. -/
def sixtyJoinsSpec : ChangeSpec := { name := "sixtyJoins", fn := fun _ => fun
  | [d1, d2] => { results := [.lit (.bool true)], args := [d1, d2] }
  | _ => none }
def sixtyJoinsRow : OpenClaim := { program := "ytgdcifllbfdbhaa", sum := "bdebfe1cc47f699f4d145334e26fd0d02264acfac81fcc61b9ce58dfc690f0d8", func := "gingersnap/gingersnaplaw.SixtyJoins", spec := "sixtyJoins", inPlace := ["internal/bytealg.IndexByteString", "internal/abi.NoEscape"], unfollowed := true, recurses := true, apart := false }
def SixtyJoinsSaid : Prop := sixtyJoinsRow.holds Try.pinned (OpenSpec.ofChange sixtyJoinsSpec)

/-- ITS FALSE NEIGHBOUR: 'it returns false'. Refute it at one input. -/
def sixtyJoinsWrong : ChangeSpec := { name := "sixtyJoins", fn := fun _ => fun
  | [d1, d2] => { results := [.lit (.bool false)], args := [d1, d2] }
  | _ => none }
def SixtyJoinsWrongFalsely : Prop := sixtyJoinsRow.holds Try.pinned (OpenSpec.ofChange sixtyJoinsWrong)

/-- 'gingersnaplaw.ConsentTells': WHATEVER THE INPUT: true; the input reads as it did. -/
def consentTellsSpec : ChangeSpec := { name := "consentTells", fn := fun _ => fun
  | [d] => { results := [.lit (.bool true)], args := [d] }
  | _ => none }
def consentTellsRow : OpenClaim := { program := "ytgdcifllbfdbhaa", sum := "bdebfe1cc47f699f4d145334e26fd0d02264acfac81fcc61b9ce58dfc690f0d8", func := "gingersnap/gingersnaplaw.ConsentTells", spec := "consentTells", inPlace := ["internal/bytealg.IndexByteString", "internal/abi.NoEscape"], unfollowed := true, recurses := true, apart := false }
def ConsentTellsSaid : Prop := consentTellsRow.holds Try.pinned (OpenSpec.ofChange consentTellsSpec)

/-- ITS FALSE NEIGHBOUR: 'it returns false'. Refute it at one input. -/
def consentTellsWrong : ChangeSpec := { name := "consentTells", fn := fun _ => fun
  | [d] => { results := [.lit (.bool false)], args := [d] }
  | _ => none }
def ConsentTellsWrongFalsely : Prop := consentTellsRow.holds Try.pinned (OpenSpec.ofChange consentTellsWrong)

/-- 'gingersnaplaw.ConsentReads': WHATEVER THE INPUT: true; the input reads as it did. -/
def consentReadsSpec : ChangeSpec := { name := "consentReads", fn := fun _ => fun
  | [d] => { results := [.lit (.bool true)], args := [d] }
  | _ => none }
def consentReadsRow : OpenClaim := { program := "ytgdcifllbfdbhaa", sum := "bdebfe1cc47f699f4d145334e26fd0d02264acfac81fcc61b9ce58dfc690f0d8", func := "gingersnap/gingersnaplaw.ConsentReads", spec := "consentReads", inPlace := ["internal/bytealg.IndexByteString", "internal/abi.NoEscape"], unfollowed := true, recurses := true, apart := false }
def ConsentReadsSaid : Prop := consentReadsRow.holds Try.pinned (OpenSpec.ofChange consentReadsSpec)

/-- ITS FALSE NEIGHBOUR: 'it returns false'. Refute it at one input. -/
def consentReadsWrong : ChangeSpec := { name := "consentReads", fn := fun _ => fun
  | [d] => { results := [.lit (.bool false)], args := [d] }
  | _ => none }
def ConsentReadsWrongFalsely : Prop := consentReadsRow.holds Try.pinned (OpenSpec.ofChange consentReadsWrong)

/-- 'gingersnaplaw.ConsentBack': WHATEVER THE INPUT: true; the input reads as it did. -/
def consentBackSpec : ChangeSpec := { name := "consentBack", fn := fun _ => fun
  | [d1, d2] => { results := [.lit (.bool true)], args := [d1, d2] }
  | _ => none }
def consentBackRow : OpenClaim := { program := "ytgdcifllbfdbhaa", sum := "bdebfe1cc47f699f4d145334e26fd0d02264acfac81fcc61b9ce58dfc690f0d8", func := "gingersnap/gingersnaplaw.ConsentBack", spec := "consentBack", inPlace := ["internal/bytealg.IndexByteString", "internal/abi.NoEscape"], unfollowed := true, recurses := true, apart := false }
def ConsentBackSaid : Prop := consentBackRow.holds Try.pinned (OpenSpec.ofChange consentBackSpec)

/-- ITS FALSE NEIGHBOUR: 'it returns false'. Refute it at one input. -/
def consentBackWrong : ChangeSpec := { name := "consentBack", fn := fun _ => fun
  | [d1, d2] => { results := [.lit (.bool false)], args := [d1, d2] }
  | _ => none }
def ConsentBackWrongFalsely : Prop := consentBackRow.holds Try.pinned (OpenSpec.ofChange consentBackWrong)

/-- 'gingersnaplaw.ConsentShort': WHATEVER THE INPUT: true; the input reads as it did. -/
def consentShortSpec : ChangeSpec := { name := "consentShort", fn := fun _ => fun
  | [d] => { results := [.lit (.bool true)], args := [d] }
  | _ => none }
def consentShortRow : OpenClaim := { program := "ytgdcifllbfdbhaa", sum := "bdebfe1cc47f699f4d145334e26fd0d02264acfac81fcc61b9ce58dfc690f0d8", func := "gingersnap/gingersnaplaw.ConsentShort", spec := "consentShort", inPlace := ["internal/bytealg.IndexByteString", "internal/abi.NoEscape"], unfollowed := true, recurses := true, apart := false }
def ConsentShortSaid : Prop := consentShortRow.holds Try.pinned (OpenSpec.ofChange consentShortSpec)

/-- ITS FALSE NEIGHBOUR: 'it returns false'. Refute it at one input. -/
def consentShortWrong : ChangeSpec := { name := "consentShort", fn := fun _ => fun
  | [d] => { results := [.lit (.bool false)], args := [d] }
  | _ => none }
def ConsentShortWrongFalsely : Prop := consentShortRow.holds Try.pinned (OpenSpec.ofChange consentShortWrong)

/- THE SECOND FORM. 'bulk': how many values and letters a reading holds, each counted each time it is reached (what is shared counts as often as it is met; a slice's spare places count too). A statement '..UptoSaid' is the law's where the arguments, and the package variables that the reading takes, are together of bulk at most 1048576: NARROWER than '..Said'. Prove '..Said' where nothing that the law and all that it calls make is longer than what came in: it says more and counts as full. Else prove '..UptoSaid'. A law counts once. -/
mutual
def uptoBulk {H : Type} : DataW H → Nat
  | .lit (.string bytes) => bytes.length + 1
  | .lit _ => 1
  | .nil => 1
  | .ptr d => uptoBulk d + 1
  | .slice elems spare => uptoBulkAll elems + uptoBulkAll spare + 1
  | .agg parts => uptoBulkAll parts + 1
  | .iface _ d => uptoBulk d + 1
  | .map entries => uptoBulkEntries entries + 1
  | .held _ => 1
def uptoBulkAll {H : Type} : List (DataW H) → Nat
  | [] => 0
  | d :: r => uptoBulk d + uptoBulkAll r
def uptoBulkEntries {H : Type} : List (Lit × DataW H) → Nat
  | [] => 0
  | x :: r => uptoBulkEntry x + uptoBulkEntries r
def uptoBulkEntry {H : Type} : Lit × DataW H → Nat
  | (.string bytes, d) => bytes.length + uptoBulk d + 1
  | (_, d) => uptoBulk d + 1
 end
def uptoSmall : (H : Type) → List (DataW H) → Bool := fun _ ds => decide (uptoBulkAll ds ≤ 1048576)
def OpenSpec.upto (s : _root_.Go.ChangeSpec) : _root_.Go.OpenSpec := { _root_.Go.OpenSpec.ofChange s with cond := some uptoSmall }

/-- 'gingersnaplaw.SixtyTells', WHERE WHAT IT READS IS OF BULK AT MOST 1048576: true; the input reads as it did. -/
def sixtyTellsUptoRow : OpenClaim := { program := "ytgdcifllbfdbhaa", sum := "bdebfe1cc47f699f4d145334e26fd0d02264acfac81fcc61b9ce58dfc690f0d8", func := "gingersnap/gingersnaplaw.SixtyTells", spec := "sixtyTells", inPlace := ["internal/bytealg.IndexByteString", "internal/abi.NoEscape"], unfollowed := true, recurses := true, apart := false, narrowed := true }
def SixtyTellsUptoSaid : Prop := sixtyTellsUptoRow.holds Try.pinned (OpenSpec.upto sixtyTellsSpec)

/-- 'gingersnaplaw.SixtyBack', WHERE WHAT IT READS IS OF BULK AT MOST 1048576: true; the input reads as it did. -/
def sixtyBackUptoRow : OpenClaim := { program := "ytgdcifllbfdbhaa", sum := "bdebfe1cc47f699f4d145334e26fd0d02264acfac81fcc61b9ce58dfc690f0d8", func := "gingersnap/gingersnaplaw.SixtyBack", spec := "sixtyBack", inPlace := ["internal/bytealg.IndexByteString", "internal/abi.NoEscape"], unfollowed := true, recurses := true, apart := false, narrowed := true }
def SixtyBackUptoSaid : Prop := sixtyBackUptoRow.holds Try.pinned (OpenSpec.upto sixtyBackSpec)

/-- 'gingersnaplaw.SixtyJoins', WHERE WHAT IT READS IS OF BULK AT MOST 1048576: true; the input reads as it did. -/
def sixtyJoinsUptoRow : OpenClaim := { program := "ytgdcifllbfdbhaa", sum := "bdebfe1cc47f699f4d145334e26fd0d02264acfac81fcc61b9ce58dfc690f0d8", func := "gingersnap/gingersnaplaw.SixtyJoins", spec := "sixtyJoins", inPlace := ["internal/bytealg.IndexByteString", "internal/abi.NoEscape"], unfollowed := true, recurses := true, apart := false, narrowed := true }
def SixtyJoinsUptoSaid : Prop := sixtyJoinsUptoRow.holds Try.pinned (OpenSpec.upto sixtyJoinsSpec)

/-- 'gingersnaplaw.ConsentTells', WHERE WHAT IT READS IS OF BULK AT MOST 1048576: true; the input reads as it did. -/
def consentTellsUptoRow : OpenClaim := { program := "ytgdcifllbfdbhaa", sum := "bdebfe1cc47f699f4d145334e26fd0d02264acfac81fcc61b9ce58dfc690f0d8", func := "gingersnap/gingersnaplaw.ConsentTells", spec := "consentTells", inPlace := ["internal/bytealg.IndexByteString", "internal/abi.NoEscape"], unfollowed := true, recurses := true, apart := false, narrowed := true }
def ConsentTellsUptoSaid : Prop := consentTellsUptoRow.holds Try.pinned (OpenSpec.upto consentTellsSpec)

/-- 'gingersnaplaw.ConsentReads', WHERE WHAT IT READS IS OF BULK AT MOST 1048576: true; the input reads as it did. -/
def consentReadsUptoRow : OpenClaim := { program := "ytgdcifllbfdbhaa", sum := "bdebfe1cc47f699f4d145334e26fd0d02264acfac81fcc61b9ce58dfc690f0d8", func := "gingersnap/gingersnaplaw.ConsentReads", spec := "consentReads", inPlace := ["internal/bytealg.IndexByteString", "internal/abi.NoEscape"], unfollowed := true, recurses := true, apart := false, narrowed := true }
def ConsentReadsUptoSaid : Prop := consentReadsUptoRow.holds Try.pinned (OpenSpec.upto consentReadsSpec)

/-- 'gingersnaplaw.ConsentBack', WHERE WHAT IT READS IS OF BULK AT MOST 1048576: true; the input reads as it did. -/
def consentBackUptoRow : OpenClaim := { program := "ytgdcifllbfdbhaa", sum := "bdebfe1cc47f699f4d145334e26fd0d02264acfac81fcc61b9ce58dfc690f0d8", func := "gingersnap/gingersnaplaw.ConsentBack", spec := "consentBack", inPlace := ["internal/bytealg.IndexByteString", "internal/abi.NoEscape"], unfollowed := true, recurses := true, apart := false, narrowed := true }
def ConsentBackUptoSaid : Prop := consentBackUptoRow.holds Try.pinned (OpenSpec.upto consentBackSpec)

/-- 'gingersnaplaw.ConsentShort', WHERE WHAT IT READS IS OF BULK AT MOST 1048576: true; the input reads as it did. -/
def consentShortUptoRow : OpenClaim := { program := "ytgdcifllbfdbhaa", sum := "bdebfe1cc47f699f4d145334e26fd0d02264acfac81fcc61b9ce58dfc690f0d8", func := "gingersnap/gingersnaplaw.ConsentShort", spec := "consentShort", inPlace := ["internal/bytealg.IndexByteString", "internal/abi.NoEscape"], unfollowed := true, recurses := true, apart := false, narrowed := true }
def ConsentShortUptoSaid : Prop := consentShortUptoRow.holds Try.pinned (OpenSpec.upto consentShortSpec)

end Rows
end Go.Proofs.Ytgdcifllbfdbhaa
