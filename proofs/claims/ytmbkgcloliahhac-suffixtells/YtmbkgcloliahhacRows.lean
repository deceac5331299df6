/-
  No cell of these rows narrows 'for every input' (looked for: loops, veiled, ifaces, maps, wideKeys, modest, calm, conditions, laid).
  DERIVED. THE GIVEN ROWS OF THIS SEAT. 6 by the template 'for every input the law returns true; each argument reads behind the call as it read before'; 0 by the template 'total and deterministic' (their statements: YtmbkgcloliahhacTotals.lean).
  GIVEN WITH THE SEED: the statements are not yours to turn. If you find one false, say at which input.
  Laid BY PROGRAM, IN A SANDBOX (cutbox-rows.mjs): the forced cells as the released guide's own fill.sh prints them over the translation f014e2657e0bb6d2… (all of the seat's roots in one cut). By AI agents, Wed Nov 11 2026. No macro, syntax, notation, axiom, sorry.
-/
import Derived.Test.YtmbkgcloliahhacChecked
import GoSem.Claim
import GoSem.ClaimJoined
import GoSem.ClaimMapViews
import Derived.JoinedTies
import Derived.KernelRfl
namespace Go.Proofs.Ytmbkgcloliahhac
/- THE CELL 'sum', in the pinned program and in every row, IS THE sha256 OF THE DUMP (.gsa) THAT YtmbkgcloliahhacProg.lean LOADS. Nothing in Lean hashes anything: it is a label: what it is worth is what the hold of that sum in a sandbox is worth. -/
noncomputable def Try.pinned : Pinned := { name := "ytmbkgcloliahhac", sum := "f014e2657e0bb6d2bb33f6b30ea4fefa367eac5a0cc6d63d9ff1bc1028a310bc", checked := Try.checked }
namespace Rows
def none {H : Type} : Left H := { results := [], args := [] }

/-- 'gingersnaplaw.HostTells': WHATEVER THE INPUT: true; the input reads as it did. -/
def hostTellsSpec : ChangeSpec := { name := "hostTells", fn := fun _ => fun
  | [d1, d2] => { results := [.lit (.bool true)], args := [d1, d2] }
  | _ => none }
def hostTellsRow : OpenClaim := { program := "ytmbkgcloliahhac", sum := "f014e2657e0bb6d2bb33f6b30ea4fefa367eac5a0cc6d63d9ff1bc1028a310bc", func := "gingersnap/gingersnaplaw.HostTells", spec := "hostTells", inPlace := ["internal/bytealg.IndexByteString", "internal/bytealg.CountString", "internal/bytealg.IndexString"], unfollowed := true, recurses := true, named := ["internal/bytealg.MaxLen"], plainKeys := false, apart := false }
def HostTellsSaid : Prop := hostTellsRow.holds Try.pinned (OpenSpec.ofChange hostTellsSpec)

/-- ITS FALSE NEIGHBOUR: 'it returns false'. Refute it at one input. -/
def hostTellsWrong : ChangeSpec := { name := "hostTells", fn := fun _ => fun
  | [d1, d2] => { results := [.lit (.bool false)], args := [d1, d2] }
  | _ => none }
def HostTellsWrongFalsely : Prop := hostTellsRow.holds Try.pinned (OpenSpec.ofChange hostTellsWrong)

/-- 'gingersnaplaw.HostTwice': WHATEVER THE INPUT: true; the input reads as it did. -/
def hostTwiceSpec : ChangeSpec := { name := "hostTwice", fn := fun _ => fun
  | [d] => { results := [.lit (.bool true)], args := [d] }
  | _ => none }
def hostTwiceRow : OpenClaim := { program := "ytmbkgcloliahhac", sum := "f014e2657e0bb6d2bb33f6b30ea4fefa367eac5a0cc6d63d9ff1bc1028a310bc", func := "gingersnap/gingersnaplaw.HostTwice", spec := "hostTwice", inPlace := ["internal/bytealg.IndexByteString", "internal/bytealg.CountString", "internal/bytealg.IndexString"], unfollowed := true, recurses := true, named := ["internal/bytealg.MaxLen"], plainKeys := false, apart := false }
def HostTwiceSaid : Prop := hostTwiceRow.holds Try.pinned (OpenSpec.ofChange hostTwiceSpec)

/-- ITS FALSE NEIGHBOUR: 'it returns false'. Refute it at one input. -/
def hostTwiceWrong : ChangeSpec := { name := "hostTwice", fn := fun _ => fun
  | [d] => { results := [.lit (.bool false)], args := [d] }
  | _ => none }
def HostTwiceWrongFalsely : Prop := hostTwiceRow.holds Try.pinned (OpenSpec.ofChange hostTwiceWrong)

/-- 'gingersnaplaw.MatchOrder': WHATEVER THE INPUT: true; the input reads as it did. -/
def matchOrderSpec : ChangeSpec := { name := "matchOrder", fn := fun _ => fun
  | [d1, d2, d3] => { results := [.lit (.bool true)], args := [d1, d2, d3] }
  | _ => none }
def matchOrderRow : OpenClaim := { program := "ytmbkgcloliahhac", sum := "f014e2657e0bb6d2bb33f6b30ea4fefa367eac5a0cc6d63d9ff1bc1028a310bc", func := "gingersnap/gingersnaplaw.MatchOrder", spec := "matchOrder", inPlace := ["internal/bytealg.CountString", "internal/bytealg.IndexByteString", "internal/bytealg.IndexString"], unfollowed := true, recurses := true, named := ["internal/bytealg.MaxLen"], plainKeys := false, apart := false }
def MatchOrderSaid : Prop := matchOrderRow.holds Try.pinned (OpenSpec.ofChange matchOrderSpec)

/-- ITS FALSE NEIGHBOUR: 'it returns false'. Refute it at one input. -/
def matchOrderWrong : ChangeSpec := { name := "matchOrder", fn := fun _ => fun
  | [d1, d2, d3] => { results := [.lit (.bool false)], args := [d1, d2, d3] }
  | _ => none }
def MatchOrderWrongFalsely : Prop := matchOrderRow.holds Try.pinned (OpenSpec.ofChange matchOrderWrong)

/-- 'gingersnaplaw.MatchChain': WHATEVER THE INPUT: true; the input reads as it did. -/
def matchChainSpec : ChangeSpec := { name := "matchChain", fn := fun _ => fun
  | [d1, d2, d3] => { results := [.lit (.bool true)], args := [d1, d2, d3] }
  | _ => none }
def matchChainRow : OpenClaim := { program := "ytmbkgcloliahhac", sum := "f014e2657e0bb6d2bb33f6b30ea4fefa367eac5a0cc6d63d9ff1bc1028a310bc", func := "gingersnap/gingersnaplaw.MatchChain", spec := "matchChain", inPlace := ["internal/bytealg.IndexByteString", "internal/bytealg.CountString", "internal/bytealg.IndexString"], unfollowed := true, recurses := true, named := ["internal/bytealg.MaxLen"], plainKeys := false, apart := false }
def MatchChainSaid : Prop := matchChainRow.holds Try.pinned (OpenSpec.ofChange matchChainSpec)

/-- ITS FALSE NEIGHBOUR: 'it returns false'. Refute it at one input. -/
def matchChainWrong : ChangeSpec := { name := "matchChain", fn := fun _ => fun
  | [d1, d2, d3] => { results := [.lit (.bool false)], args := [d1, d2, d3] }
  | _ => none }
def MatchChainWrongFalsely : Prop := matchChainRow.holds Try.pinned (OpenSpec.ofChange matchChainWrong)

/-- 'gingersnaplaw.SuffixTells': WHATEVER THE INPUT: true; the input reads as it did. -/
def suffixTellsSpec : ChangeSpec := { name := "suffixTells", fn := fun _ => fun
  | [d1, d2] => { results := [.lit (.bool true)], args := [d1, d2] }
  | _ => none }
def suffixTellsRow : OpenClaim := { program := "ytmbkgcloliahhac", sum := "f014e2657e0bb6d2bb33f6b30ea4fefa367eac5a0cc6d63d9ff1bc1028a310bc", func := "gingersnap/gingersnaplaw.SuffixTells", spec := "suffixTells", inPlace := ["internal/bytealg.IndexByteString", "internal/bytealg.CountString", "internal/bytealg.IndexString"], unfollowed := true, recurses := true, named := ["internal/bytealg.MaxLen"], plainKeys := false, apart := false }
def SuffixTellsSaid : Prop := suffixTellsRow.holds Try.pinned (OpenSpec.ofChange suffixTellsSpec)

/-- ITS FALSE NEIGHBOUR: 'it returns false'. Refute it at one input. -/
def suffixTellsWrong : ChangeSpec := { name := "suffixTells", fn := fun _ => fun
  | [d1, d2] => { results := [.lit (.bool false)], args := [d1, d2] }
  | _ => none }
def SuffixTellsWrongFalsely : Prop := suffixTellsRow.holds Try.pinned (OpenSpec.ofChange suffixTellsWrong)

/-- 'gingersnaplaw.OwnerTwice': WHATEVER THE INPUT: true; the input reads as it did. -/
def ownerTwiceSpec : ChangeSpec := { name := "ownerTwice", fn := fun _ => fun
  | [d1, d2] => { results := [.lit (.bool true)], args := [d1, d2] }
  | _ => none }
def ownerTwiceRow : OpenClaim := { program := "ytmbkgcloliahhac", sum := "f014e2657e0bb6d2bb33f6b30ea4fefa367eac5a0cc6d63d9ff1bc1028a310bc", func := "gingersnap/gingersnaplaw.OwnerTwice", spec := "ownerTwice", inPlace := ["internal/bytealg.IndexByteString", "internal/bytealg.CountString", "internal/bytealg.IndexString"], unfollowed := true, recurses := true, named := ["internal/bytealg.MaxLen"], plainKeys := false, apart := false }
def OwnerTwiceSaid : Prop := ownerTwiceRow.holds Try.pinned (OpenSpec.ofChange ownerTwiceSpec)

/-- ITS FALSE NEIGHBOUR: 'it returns false'. Refute it at one input. -/
def ownerTwiceWrong : ChangeSpec := { name := "ownerTwice", fn := fun _ => fun
  | [d1, d2] => { results := [.lit (.bool false)], args := [d1, d2] }
  | _ => none }
def OwnerTwiceWrongFalsely : Prop := ownerTwiceRow.holds Try.pinned (OpenSpec.ofChange ownerTwiceWrong)

/- THE SECOND FORM. 'bulk': how many values and letters a reading holds, each counted each time it is reached (what is shared counts as often as it is met; a slice's spare places count too). A statement '..UptoSaid' is the law's where the arguments, and the package variables that the reading takes, are together of bulk at most 1048576: NARROWER than '..Said'. Prove '..Said' where nothing that the law and all that it calls make is longer than what came in: it says more and counts as full. Else prove '..UptoSaid'. A law counts once. -/
mutual
def uptoBulk {H : Type} : DataW H → Nat
  | .lit (.string bytes) => bytes.length + 1
  | .lit _ => 1
  | .nil => 1
  | .ptr d => uptoBulk d + 1
  | .slice elems spare => uptoBulkAll elems + uptoBulkAll spare + 1
  | .agg parts => uptoBulkAll parts + 1
  | .iface _ d => uptoBulk d + 1
  | .map entries => uptoBulkEntries entries + 1
  | .held _ => 1
def uptoBulkAll {H : Type} : List (DataW H) → Nat
  | [] => 0
  | d :: r => uptoBulk d + uptoBulkAll r
def uptoBulkEntries {H : Type} : List (Lit × DataW H) → Nat
  | [] => 0
  | x :: r => uptoBulkEntry x + uptoBulkEntries r
def uptoBulkEntry {H : Type} : Lit × DataW H → Nat
  | (.string bytes, d) => bytes.length + uptoBulk d + 1
  | (_, d) => uptoBulk d + 1
 end
def uptoSmall : (H : Type) → List (DataW H) → Bool := fun _ ds => decide (uptoBulkAll ds ≤ 1048576)
def OpenSpec.upto (s : _root_.Go.ChangeSpec) : _root_.Go.OpenSpec := { _root_.Go.OpenSpec.ofChange s with cond := some uptoSmall }

/-- 'gingersnaplaw.HostTells', WHERE WHAT IT READS IS OF BULK AT MOST 1048576: true; the input reads as it did. -/
def hostTellsUptoRow : OpenClaim := { program := "ytmbkgcloliahhac", sum := "f014e2657e0bb6d2bb33f6b30ea4fefa367eac5a0cc6d63d9ff1bc1028a310bc", func := "gingersnap/gingersnaplaw.HostTells", spec := "hostTells", inPlace := ["internal/bytealg.IndexByteString", "internal/bytealg.CountString", "internal/bytealg.IndexString"], unfollowed := true, recurses := true, named := ["internal/bytealg.MaxLen"], plainKeys := false, apart := false, narrowed := true }
def HostTellsUptoSaid : Prop := hostTellsUptoRow.holds Try.pinned (OpenSpec.upto hostTellsSpec)

/-- 'gingersnaplaw.HostTwice', WHERE WHAT IT READS IS OF BULK AT MOST 1048576: true; the input reads as it did. -/
def hostTwiceUptoRow : OpenClaim := { program := "ytmbkgcloliahhac", sum := "f014e2657e0bb6d2bb33f6b30ea4fefa367eac5a0cc6d63d9ff1bc1028a310bc", func := "gingersnap/gingersnaplaw.HostTwice", spec := "hostTwice", inPlace := ["internal/bytealg.IndexByteString", "internal/bytealg.CountString", "internal/bytealg.IndexString"], unfollowed := true, recurses := true, named := ["internal/bytealg.MaxLen"], plainKeys := false, apart := false, narrowed := true }
def HostTwiceUptoSaid : Prop := hostTwiceUptoRow.holds Try.pinned (OpenSpec.upto hostTwiceSpec)

/-- 'gingersnaplaw.MatchOrder', WHERE WHAT IT READS IS OF BULK AT MOST 1048576: true; the input reads as it did. -/
def matchOrderUptoRow : OpenClaim := { program := "ytmbkgcloliahhac", sum := "f014e2657e0bb6d2bb33f6b30ea4fefa367eac5a0cc6d63d9ff1bc1028a310bc", func := "gingersnap/gingersnaplaw.MatchOrder", spec := "matchOrder", inPlace := ["internal/bytealg.CountString", "internal/bytealg.IndexByteString", "internal/bytealg.IndexString"], unfollowed := true, recurses := true, named := ["internal/bytealg.MaxLen"], plainKeys := false, apart := false, narrowed := true }
def MatchOrderUptoSaid : Prop := matchOrderUptoRow.holds Try.pinned (OpenSpec.upto matchOrderSpec)

/-- 'gingersnaplaw.MatchChain', WHERE WHAT IT READS IS OF BULK AT MOST 1048576: true; the input reads as it did. -/
def matchChainUptoRow : OpenClaim := { program := "ytmbkgcloliahhac", sum := "f014e2657e0bb6d2bb33f6b30ea4fefa367eac5a0cc6d63d9ff1bc1028a310bc", func := "gingersnap/gingersnaplaw.MatchChain", spec := "matchChain", inPlace := ["internal/bytealg.IndexByteString", "internal/bytealg.CountString", "internal/bytealg.IndexString"], unfollowed := true, recurses := true, named := ["internal/bytealg.MaxLen"], plainKeys := false, apart := false, narrowed := true }
def MatchChainUptoSaid : Prop := matchChainUptoRow.holds Try.pinned (OpenSpec.upto matchChainSpec)

/-- 'gingersnaplaw.SuffixTells', WHERE WHAT IT READS IS OF BULK AT MOST 1048576: true; the input reads as it did. -/
def suffixTellsUptoRow : OpenClaim := { program := "ytmbkgcloliahhac", sum := "f014e2657e0bb6d2bb33f6b30ea4fefa367eac5a0cc6d63d9ff1bc1028a310bc", func := "gingersnap/gingersnaplaw.SuffixTells", spec := "suffixTells", inPlace := ["internal/bytealg.IndexByteString", "internal/bytealg.CountString", "internal/bytealg.IndexString"], unfollowed := true, recurses := true, named := ["internal/bytealg.MaxLen"], plainKeys := false, apart := false, narrowed := true }
def SuffixTellsUptoSaid : Prop := suffixTellsUptoRow.holds Try.pinned (OpenSpec.upto suffixTellsSpec)

/-- 'gingersnaplaw.OwnerTwice', WHERE WHAT IT READS IS OF BULK AT MOST 1048576: true; the input reads as it did. -/
def ownerTwiceUptoRow : OpenClaim := { program := "ytmbkgcloliahhac", sum := "f014e2657e0bb6d2bb33f6b30ea4fefa367eac5a0cc6d63d9ff1bc1028a310bc", func := "gingersnap/gingersnaplaw.OwnerTwice", spec := "ownerTwice", inPlace := ["internal/bytealg.IndexByteString", "internal/bytealg.CountString", "internal/bytealg.IndexString"], unfollowed := true, recurses := true, named := ["internal/bytealg.MaxLen"], plainKeys := false, apart := false, narrowed := true }
def OwnerTwiceUptoSaid : Prop := ownerTwiceUptoRow.holds Try.pinned (OpenSpec.upto ownerTwiceSpec)

end Rows
end Go.Proofs.Ytmbkgcloliahhac
