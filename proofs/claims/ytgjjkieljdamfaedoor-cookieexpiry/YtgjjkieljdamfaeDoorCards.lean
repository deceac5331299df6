/-
  DERIVED. GIVEN WITH THE SEED: THE CARDS: each row of YtgjjkieljdamfaeDoorRows.lean that lists a variable, with what it lists TIED to the program's text (the seventh form; the later family's looks); each row that meets fmt, with fmt's text TOLD by the authors' own Lean function (tested against real Go, not proved from fmt's source: count such statements apart). THE CARD IS WHAT COUNTS. Prove the row's statement (the work); the ties are given (YtgjjkieljdamfaeDoorTie.lean); close each card by the builder's one call (the guide's Derived/Test/ToyasCard.lean, 'card_holds'). Laid BY PROGRAM, IN A SANDBOX (cutbox-door.mjs). By AI agents, Wed Nov 11 2026. No macro, syntax, notation, axiom, sorry.
-/
import Derived.Test.YtgjjkieljdamfaeDoorRows
import GoSem.ClaimSeven
namespace Go.Proofs.YtgjjkieljdamfaeDoor
namespace Rows

/-- THE TIED CARD OF 'gingersnaplaw.CookieDomain'. -/
def cookieDomainCard : Claim7 := { stood := { row := cookieDomainRow, standIns := [], harness := (true, "4c0ea9de618a96542bf1301f18d9ecf581498cfe1764d00d4639b320bfc2dc86"), looks := false }, kinds := [], alts := [], laidByText := true, laidKinds := [.data, .data, .data, .data, .data], laidTests := true, laidLooks := .later }
def CookieDomainCardSaid : Prop := Claim7.holds Tryd.pinned (.plain (OpenSpec.ofChange cookieDomainSpec)) cookieDomainCard

/-- THE TIED CARD OF 'gingersnaplaw.CookieBars'. -/
def cookieBarsCard : Claim7 := { stood := { row := cookieBarsRow, standIns := [], harness := (true, "4c0ea9de618a96542bf1301f18d9ecf581498cfe1764d00d4639b320bfc2dc86"), looks := false }, kinds := [], alts := [], laidByText := true, laidKinds := [.data, .data, .data, .data, .data], laidTests := true, laidLooks := .later }
def CookieBarsCardSaid : Prop := Claim7.holds Tryd.pinned (.plain (OpenSpec.ofChange cookieBarsSpec)) cookieBarsCard

/-- THE TIED CARD OF 'gingersnaplaw.CookieExpiry'. -/
def cookieExpiryCard : Claim7 := { stood := { row := cookieExpiryRow, standIns := [], harness := (true, "4c0ea9de618a96542bf1301f18d9ecf581498cfe1764d00d4639b320bfc2dc86"), looks := false }, kinds := [], alts := [], laidByText := true, laidKinds := [.data, .data, .data, .data, .data], laidTests := true, laidLooks := .later }
def CookieExpiryCardSaid : Prop := Claim7.holds Tryd.pinned (.plain (OpenSpec.ofChange cookieExpirySpec)) cookieExpiryCard

/-- THE SECOND FORM's CARD OF 'gingersnaplaw.CookieDomain'. -/
def cookieDomainUptoCard : Claim7 := { stood := { row := cookieDomainUptoRow, standIns := [], harness := (true, "4c0ea9de618a96542bf1301f18d9ecf581498cfe1764d00d4639b320bfc2dc86"), looks := false }, kinds := [], alts := [], laidByText := true, laidKinds := [.data, .data, .data, .data, .data], laidTests := true, laidLooks := .later }
def CookieDomainUptoCardSaid : Prop := Claim7.holds Tryd.pinned (.plain (OpenSpec.upto cookieDomainSpec)) cookieDomainUptoCard

/-- THE SECOND FORM's CARD OF 'gingersnaplaw.CookieBars'. -/
def cookieBarsUptoCard : Claim7 := { stood := { row := cookieBarsUptoRow, standIns := [], harness := (true, "4c0ea9de618a96542bf1301f18d9ecf581498cfe1764d00d4639b320bfc2dc86"), looks := false }, kinds := [], alts := [], laidByText := true, laidKinds := [.data, .data, .data, .data, .data], laidTests := true, laidLooks := .later }
def CookieBarsUptoCardSaid : Prop := Claim7.holds Tryd.pinned (.plain (OpenSpec.upto cookieBarsSpec)) cookieBarsUptoCard

/-- THE SECOND FORM's CARD OF 'gingersnaplaw.CookieExpiry'. -/
def cookieExpiryUptoCard : Claim7 := { stood := { row := cookieExpiryUptoRow, standIns := [], harness := (true, "4c0ea9de618a96542bf1301f18d9ecf581498cfe1764d00d4639b320bfc2dc86"), looks := false }, kinds := [], alts := [], laidByText := true, laidKinds := [.data, .data, .data, .data, .data], laidTests := true, laidLooks := .later }
def CookieExpiryUptoCardSaid : Prop := Claim7.holds Tryd.pinned (.plain (OpenSpec.upto cookieExpirySpec)) cookieExpiryUptoCard
end Rows
end Go.Proofs.YtgjjkieljdamfaeDoor
