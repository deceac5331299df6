/-
  DERIVED. GIVEN WITH THE SEED: THE CARDS: each row of YtgjjkieljdamfafDoorRows.lean that lists a variable, with what it lists TIED to the program's text (the seventh form; the later family's looks); each row that meets fmt, with fmt's text TOLD by the authors' own Lean function (tested against real Go, not proved from fmt's source: count such statements apart). THE CARD IS WHAT COUNTS. Prove the row's statement (the work); the ties are given (YtgjjkieljdamfafDoorTie.lean); close each card by the builder's one call (the guide's Derived/Test/ToyasCard.lean, 'card_holds'). Laid BY PROGRAM, IN A SANDBOX (cutbox-door.mjs). By AI agents, Wed Nov 11 2026. No macro, syntax, notation, axiom, sorry.
-/
import Derived.Test.YtgjjkieljdamfafDoorRows
import GoSem.ClaimSeven
namespace Go.Proofs.YtgjjkieljdamfafDoor
namespace Rows

/-- THE TIED CARD OF 'gingersnaplaw.CookieLast'. -/
def cookieLastCard : Claim7 := { stood := { row := cookieLastRow, standIns := [], harness := (true, "5df882d939e1d29b49df981c223069517149b4eca407d783937a7d900ce6f23a"), looks := false }, kinds := [], alts := [], laidByText := true, laidKinds := [.data, .data, .data, .data, .data], laidTests := true, laidLooks := .later }
def CookieLastCardSaid : Prop := Claim7.holds Tryd.pinned (.plain (OpenSpec.ofChange cookieLastSpec)) cookieLastCard

/-- THE TIED CARD OF 'gingersnaplaw.GoesBack'. -/
def goesBackCard : Claim7 := { stood := { row := goesBackRow, standIns := [], harness := (true, "5df882d939e1d29b49df981c223069517149b4eca407d783937a7d900ce6f23a"), looks := false }, kinds := [], alts := [], laidByText := true, laidKinds := [.data, .data, .data, .data, .data], laidTests := true, laidLooks := .later }
def GoesBackCardSaid : Prop := Claim7.holds Tryd.pinned (.plain (OpenSpec.ofChange goesBackSpec)) goesBackCard

/-- THE SECOND FORM's CARD OF 'gingersnaplaw.CookieLast'. -/
def cookieLastUptoCard : Claim7 := { stood := { row := cookieLastUptoRow, standIns := [], harness := (true, "5df882d939e1d29b49df981c223069517149b4eca407d783937a7d900ce6f23a"), looks := false }, kinds := [], alts := [], laidByText := true, laidKinds := [.data, .data, .data, .data, .data], laidTests := true, laidLooks := .later }
def CookieLastUptoCardSaid : Prop := Claim7.holds Tryd.pinned (.plain (OpenSpec.upto cookieLastSpec)) cookieLastUptoCard

/-- THE SECOND FORM's CARD OF 'gingersnaplaw.GoesBack'. -/
def goesBackUptoCard : Claim7 := { stood := { row := goesBackUptoRow, standIns := [], harness := (true, "5df882d939e1d29b49df981c223069517149b4eca407d783937a7d900ce6f23a"), looks := false }, kinds := [], alts := [], laidByText := true, laidKinds := [.data, .data, .data, .data, .data], laidTests := true, laidLooks := .later }
def GoesBackUptoCardSaid : Prop := Claim7.holds Tryd.pinned (.plain (OpenSpec.upto goesBackSpec)) goesBackUptoCard
end Rows
end Go.Proofs.YtgjjkieljdamfafDoor
