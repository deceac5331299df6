/-
  DERIVED. GIVEN WITH THE SEED: THE CARDS: each row of YthdnlpojpbkpkabDoorRows.lean that lists a variable, with what it lists TIED to the program's text (the seventh form; the later family's looks); each row that meets fmt, with fmt's text TOLD by the authors' own Lean function (tested against real Go, not proved from fmt's source: count such statements apart). THE CARD IS WHAT COUNTS. Prove the row's statement (the work); the ties are given (YthdnlpojpbkpkabDoorTie.lean); close each card by the builder's one call (the guide's Derived/Test/ToyasCard.lean, 'card_holds'). Laid BY PROGRAM, IN A SANDBOX (cutbox-door.mjs). By AI agents, Wed Nov 11 2026. No macro, syntax, notation, axiom, sorry.
-/
import Derived.Test.YthdnlpojpbkpkabDoorRows
import GoSem.ClaimSeven
namespace Go.Proofs.YthdnlpojpbkpkabDoor
namespace Rows

/-- THE TIED CARD OF 'gingersnaplaw.ClockBack'. -/
def clockBackCard : Claim7 := { stood := { row := clockBackRow, standIns := [], harness := (true, "82d51eff3b91fc5a724d2ca6c156f0b4178a5e9a421c020e068b52c5508643a9"), looks := false }, kinds := [], alts := [], laidByText := true, laidKinds := [.data, .data, .data], laidTests := true, laidLooks := .later }
def ClockBackCardSaid : Prop := Claim7.holds Tryd.pinned (.plain (OpenSpec.ofChange clockBackSpec)) clockBackCard

/-- THE TIED CARD OF 'gingersnaplaw.ClockCycle'. -/
def clockCycleCard : Claim7 := { stood := { row := clockCycleRow, standIns := [], harness := (true, "82d51eff3b91fc5a724d2ca6c156f0b4178a5e9a421c020e068b52c5508643a9"), looks := false }, kinds := [], alts := [], laidByText := true, laidKinds := [.data, .data, .data], laidTests := true, laidLooks := .later }
def ClockCycleCardSaid : Prop := Claim7.holds Tryd.pinned (.plain (OpenSpec.ofChange clockCycleSpec)) clockCycleCard

/-- THE TIED CARD OF 'gingersnaplaw.ClockAdds'. -/
def clockAddsCard : Claim7 := { stood := { row := clockAddsRow, standIns := [], harness := (true, "82d51eff3b91fc5a724d2ca6c156f0b4178a5e9a421c020e068b52c5508643a9"), looks := false }, kinds := [], alts := [], laidByText := true, laidKinds := [.data, .data, .data], laidTests := true, laidLooks := .later }
def ClockAddsCardSaid : Prop := Claim7.holds Tryd.pinned (.plain (OpenSpec.ofChange clockAddsSpec)) clockAddsCard

/-- THE SECOND FORM's CARD OF 'gingersnaplaw.ClockBack'. -/
def clockBackUptoCard : Claim7 := { stood := { row := clockBackUptoRow, standIns := [], harness := (true, "82d51eff3b91fc5a724d2ca6c156f0b4178a5e9a421c020e068b52c5508643a9"), looks := false }, kinds := [], alts := [], laidByText := true, laidKinds := [.data, .data, .data], laidTests := true, laidLooks := .later }
def ClockBackUptoCardSaid : Prop := Claim7.holds Tryd.pinned (.plain (OpenSpec.upto clockBackSpec)) clockBackUptoCard

/-- THE SECOND FORM's CARD OF 'gingersnaplaw.ClockCycle'. -/
def clockCycleUptoCard : Claim7 := { stood := { row := clockCycleUptoRow, standIns := [], harness := (true, "82d51eff3b91fc5a724d2ca6c156f0b4178a5e9a421c020e068b52c5508643a9"), looks := false }, kinds := [], alts := [], laidByText := true, laidKinds := [.data, .data, .data], laidTests := true, laidLooks := .later }
def ClockCycleUptoCardSaid : Prop := Claim7.holds Tryd.pinned (.plain (OpenSpec.upto clockCycleSpec)) clockCycleUptoCard

/-- THE SECOND FORM's CARD OF 'gingersnaplaw.ClockAdds'. -/
def clockAddsUptoCard : Claim7 := { stood := { row := clockAddsUptoRow, standIns := [], harness := (true, "82d51eff3b91fc5a724d2ca6c156f0b4178a5e9a421c020e068b52c5508643a9"), looks := false }, kinds := [], alts := [], laidByText := true, laidKinds := [.data, .data, .data], laidTests := true, laidLooks := .later }
def ClockAddsUptoCardSaid : Prop := Claim7.holds Tryd.pinned (.plain (OpenSpec.upto clockAddsSpec)) clockAddsUptoCard
end Rows
end Go.Proofs.YthdnlpojpbkpkabDoor
