/-
  No cell of these rows narrows 'for every input' (looked for: loops, veiled, ifaces, maps, wideKeys, modest, calm, conditions, laid).
  DERIVED. THE GIVEN ROWS OF THIS SEAT. 4 by the template 'for every input the law returns true; each argument reads behind the call as it read before'; 0 by the template 'total and deterministic' (their statements: YtcfdajaideidkaaTotals.lean).
  GIVEN WITH THE SEED: the statements are not yours to turn. If you find one false, say at which input.
  Laid BY PROGRAM, IN A SANDBOX (cutbox-rows.mjs): the forced cells as the released guide's own fill.sh prints them over the translation 220b9b1074fe682b… (all of the seat's roots in one cut). By AI agents, Wed Nov 11 2026. No macro, syntax, notation, axiom, sorry.
-/
import Derived.Test.YtcfdajaideidkaaChecked
import GoSem.Claim
import GoSem.ClaimJoined
import GoSem.ClaimMapViews
import Derived.JoinedTies
import Derived.KernelRfl
namespace Go.Proofs.Ytcfdajaideidkaa
/- THE CELL 'sum', in the pinned program and in every row, IS THE sha256 OF THE DUMP (.gsa) THAT YtcfdajaideidkaaProg.lean LOADS. Nothing in Lean hashes anything: it is a label: what it is worth is what the hold of that sum in a sandbox is worth. -/
noncomputable def Try.pinned : Pinned := { name := "ytcfdajaideidkaa", sum := "220b9b1074fe682bfe3ce55eba4e2fa2a8b8088cb19b2a38e7733f881b6a51d2", checked := Try.checked }
namespace Rows
def none {H : Type} : Left H := { results := [], args := [] }

/-- 'gingersnaplaw.PurgeTells': WHATEVER THE INPUT: true; the input reads as it did. -/
def purgeTellsSpec : ChangeSpec := { name := "purgeTells", fn := fun _ => fun
  | [d1, d2, d3, d4, d5] => { results := [.lit (.bool true)], args := [d1, d2, d3, d4, d5] }
  | _ => none }
def purgeTellsRow : OpenClaim := { program := "ytcfdajaideidkaa", sum := "220b9b1074fe682bfe3ce55eba4e2fa2a8b8088cb19b2a38e7733f881b6a51d2", func := "gingersnap/gingersnaplaw.PurgeTells", spec := "purgeTells", inPlace := ["internal/bytealg.IndexByteString"], unfollowed := true, recurses := true, plainKeys := false, apart := false }
def PurgeTellsSaid : Prop := purgeTellsRow.holds Try.pinned (OpenSpec.ofChange purgeTellsSpec)

/-- ITS FALSE NEIGHBOUR: 'it returns false'. Refute it at one input. -/
def purgeTellsWrong : ChangeSpec := { name := "purgeTells", fn := fun _ => fun
  | [d1, d2, d3, d4, d5] => { results := [.lit (.bool false)], args := [d1, d2, d3, d4, d5] }
  | _ => none }
def PurgeTellsWrongFalsely : Prop := purgeTellsRow.holds Try.pinned (OpenSpec.ofChange purgeTellsWrong)

/-- 'gingersnaplaw.PurgeTwice': WHATEVER THE INPUT: true; the input reads as it did. -/
def purgeTwiceSpec : ChangeSpec := { name := "purgeTwice", fn := fun _ => fun
  | [d1, d2, d3, d4] => { results := [.lit (.bool true)], args := [d1, d2, d3, d4] }
  | _ => none }
def purgeTwiceRow : OpenClaim := { program := "ytcfdajaideidkaa", sum := "220b9b1074fe682bfe3ce55eba4e2fa2a8b8088cb19b2a38e7733f881b6a51d2", func := "gingersnap/gingersnaplaw.PurgeTwice", spec := "purgeTwice", inPlace := ["internal/bytealg.IndexByteString"], unfollowed := true, recurses := true, plainKeys := false, apart := false }
def PurgeTwiceSaid : Prop := purgeTwiceRow.holds Try.pinned (OpenSpec.ofChange purgeTwiceSpec)

/-- ITS FALSE NEIGHBOUR: 'it returns false'. Refute it at one input. -/
def purgeTwiceWrong : ChangeSpec := { name := "purgeTwice", fn := fun _ => fun
  | [d1, d2, d3, d4] => { results := [.lit (.bool false)], args := [d1, d2, d3, d4] }
  | _ => none }
def PurgeTwiceWrongFalsely : Prop := purgeTwiceRow.holds Try.pinned (OpenSpec.ofChange purgeTwiceWrong)

/-- 'gingersnaplaw.PurgeMeet': WHATEVER THE INPUT: true; the input reads as it did. -/
def purgeMeetSpec : ChangeSpec := { name := "purgeMeet", fn := fun _ => fun
  | [d1, d2, d3, d4, d5] => { results := [.lit (.bool true)], args := [d1, d2, d3, d4, d5] }
  | _ => none }
def purgeMeetRow : OpenClaim := { program := "ytcfdajaideidkaa", sum := "220b9b1074fe682bfe3ce55eba4e2fa2a8b8088cb19b2a38e7733f881b6a51d2", func := "gingersnap/gingersnaplaw.PurgeMeet", spec := "purgeMeet", inPlace := ["internal/bytealg.IndexByteString"], unfollowed := true, recurses := true, plainKeys := false, apart := false }
def PurgeMeetSaid : Prop := purgeMeetRow.holds Try.pinned (OpenSpec.ofChange purgeMeetSpec)

/-- ITS FALSE NEIGHBOUR: 'it returns false'. Refute it at one input. -/
def purgeMeetWrong : ChangeSpec := { name := "purgeMeet", fn := fun _ => fun
  | [d1, d2, d3, d4, d5] => { results := [.lit (.bool false)], args := [d1, d2, d3, d4, d5] }
  | _ => none }
def PurgeMeetWrongFalsely : Prop := purgeMeetRow.holds Try.pinned (OpenSpec.ofChange purgeMeetWrong)

/-- 'gingersnaplaw.PurgeKeeps': WHATEVER THE INPUT: true; the input reads as it did. -/
def purgeKeepsSpec : ChangeSpec := { name := "purgeKeeps", fn := fun _ => fun
  | [d1, d2, d3, d4, d5, d6] => { results := [.lit (.bool true)], args := [d1, d2, d3, d4, d5, d6] }
  | _ => none }
def purgeKeepsRow : OpenClaim := { program := "ytcfdajaideidkaa", sum := "220b9b1074fe682bfe3ce55eba4e2fa2a8b8088cb19b2a38e7733f881b6a51d2", func := "gingersnap/gingersnaplaw.PurgeKeeps", spec := "purgeKeeps", inPlace := ["internal/bytealg.IndexByteString"], unfollowed := true, recurses := true, plainKeys := false, apart := false }
def PurgeKeepsSaid : Prop := purgeKeepsRow.holds Try.pinned (OpenSpec.ofChange purgeKeepsSpec)

/-- ITS FALSE NEIGHBOUR: 'it returns false'. Refute it at one input. -/
def purgeKeepsWrong : ChangeSpec := { name := "purgeKeeps", fn := fun _ => fun
  | [d1, d2, d3, d4, d5, d6] => { results := [.lit (.bool false)], args := [d1, d2, d3, d4, d5, d6] }
  | _ => none }
def PurgeKeepsWrongFalsely : Prop := purgeKeepsRow.holds Try.pinned (OpenSpec.ofChange purgeKeepsWrong)

/- THE SECOND FORM. 'bulk': how many values and letters a reading holds, each counted each time it is reached (what is shared counts as often as it is met; a slice's spare places count too). A statement '..UptoSaid' is the law's where the arguments, and the package variables that the reading takes, are together of bulk at most 1048576: NARROWER than '..Said'. Prove '..Said' where nothing that the law and all that it calls make is longer than what came in: it says more and counts as full. Else prove '..UptoSaid'. A law counts once. -/
mutual
def uptoBulk {H : Type} : DataW H → Nat
  | .lit (.string bytes) => bytes.length + 1
  | .lit _ => 1
  | .nil => 1
  | .ptr d => uptoBulk d + 1
  | .slice elems spare => uptoBulkAll elems + uptoBulkAll spare + 1
  | .agg parts => uptoBulkAll parts + 1
  | .iface _ d => uptoBulk d + 1
  | .map entries => uptoBulkEntries entries + 1
  | .held _ => 1
def uptoBulkAll {H : Type} : List (DataW H) → Nat
  | [] => 0
  | d :: r => uptoBulk d + uptoBulkAll r
def uptoBulkEntries {H : Type} : List (Lit × DataW H) → Nat
  | [] => 0
  | x :: r => uptoBulkEntry x + uptoBulkEntries r
def uptoBulkEntry {H : Type} : Lit × DataW H → Nat
  | (.string bytes, d) => bytes.length + uptoBulk d + 1
  | (_, d) => uptoBulk d + 1
 end
def uptoSmall : (H : Type) → List (DataW H) → Bool := fun _ ds => decide (uptoBulkAll ds ≤ 1048576)
def OpenSpec.upto (s : _root_.Go.ChangeSpec) : _root_.Go.OpenSpec := { _root_.Go.OpenSpec.ofChange s with cond := some uptoSmall }

/-- 'gingersnaplaw.PurgeTells', WHERE WHAT IT READS IS OF BULK AT MOST 1048576: true; the input reads as it did. -/
def purgeTellsUptoRow : OpenClaim := { program := "ytcfdajaideidkaa", sum := "220b9b1074fe682bfe3ce55eba4e2fa2a8b8088cb19b2a38e7733f881b6a51d2", func := "gingersnap/gingersnaplaw.PurgeTells", spec := "purgeTells", inPlace := ["internal/bytealg.IndexByteString"], unfollowed := true, recurses := true, plainKeys := false, apart := false, narrowed := true }
def PurgeTellsUptoSaid : Prop := purgeTellsUptoRow.holds Try.pinned (OpenSpec.upto purgeTellsSpec)

/-- 'gingersnaplaw.PurgeTwice', WHERE WHAT IT READS IS OF BULK AT MOST 1048576: true; the input reads as it did. -/
def purgeTwiceUptoRow : OpenClaim := { program := "ytcfdajaideidkaa", sum := "220b9b1074fe682bfe3ce55eba4e2fa2a8b8088cb19b2a38e7733f881b6a51d2", func := "gingersnap/gingersnaplaw.PurgeTwice", spec := "purgeTwice", inPlace := ["internal/bytealg.IndexByteString"], unfollowed := true, recurses := true, plainKeys := false, apart := false, narrowed := true }
def PurgeTwiceUptoSaid : Prop := purgeTwiceUptoRow.holds Try.pinned (OpenSpec.upto purgeTwiceSpec)

/-- 'gingersnaplaw.PurgeMeet', WHERE WHAT IT READS IS OF BULK AT MOST 1048576: true; the input reads as it did. -/
def purgeMeetUptoRow : OpenClaim := { program := "ytcfdajaideidkaa", sum := "220b9b1074fe682bfe3ce55eba4e2fa2a8b8088cb19b2a38e7733f881b6a51d2", func := "gingersnap/gingersnaplaw.PurgeMeet", spec := "purgeMeet", inPlace := ["internal/bytealg.IndexByteString"], unfollowed := true, recurses := true, plainKeys := false, apart := false, narrowed := true }
def PurgeMeetUptoSaid : Prop := purgeMeetUptoRow.holds Try.pinned (OpenSpec.upto purgeMeetSpec)

/-- 'gingersnaplaw.PurgeKeeps', WHERE WHAT IT READS IS OF BULK AT MOST 1048576: true; the input reads as it did. -/
def purgeKeepsUptoRow : OpenClaim := { program := "ytcfdajaideidkaa", sum := "220b9b1074fe682bfe3ce55eba4e2fa2a8b8088cb19b2a38e7733f881b6a51d2", func := "gingersnap/gingersnaplaw.PurgeKeeps", spec := "purgeKeeps", inPlace := ["internal/bytealg.IndexByteString"], unfollowed := true, recurses := true, plainKeys := false, apart := false, narrowed := true }
def PurgeKeepsUptoSaid : Prop := purgeKeepsUptoRow.holds Try.pinned (OpenSpec.upto purgeKeepsSpec)

end Rows
end Go.Proofs.Ytcfdajaideidkaa
