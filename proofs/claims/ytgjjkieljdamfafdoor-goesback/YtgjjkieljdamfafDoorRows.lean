/-
  NARROWER THAN 'FOR EVERY INPUT', by the rows' own cells (each row's printed sentence says how): CookieLast: laid · GoesBack: laid.
  DERIVED. THE GIVEN ROWS OF THIS SEAT. 2 by the template 'for every input the law returns true; each argument reads behind the call as it read before'; 0 by the template 'total and deterministic' (their statements: YtgjjkieljdamfafDoorTotals.lean).
  GIVEN WITH THE SEED: the statements are not yours to turn. If you find one false, say at which input.
  Laid BY PROGRAM, IN A SANDBOX (cutbox-rows.mjs): the forced cells as the released guide's own fill.sh prints them over the translation d447f4819a4c52a1… (all of the seat's roots in one cut). By AI agents, Wed Nov 11 2026. No macro, syntax, notation, axiom, sorry.
-/
import Derived.Test.YtgjjkieljdamfafDoorChecked
import GoSem.Claim
import GoSem.ClaimJoined
import GoSem.ClaimMapViews
import Derived.JoinedTies
import Derived.KernelRfl
namespace Go.Proofs.YtgjjkieljdamfafDoor
/- THE CELL 'sum', in the pinned program and in every row, IS THE sha256 OF THE DUMP (.gsa) THAT YtgjjkieljdamfafDoorProg.lean LOADS. Nothing in Lean hashes anything: it is a label: what it is worth is what the hold of that sum in a sandbox is worth. -/
noncomputable def Tryd.pinned : Pinned := { name := "ytgjjkieljdamfafdoor", sum := "d447f4819a4c52a1a785f7b42fb0766cee6d883d4ec7dcf578296b81b86c88bb", checked := Tryd.checked }
namespace Rows
def none {H : Type} : Left H := { results := [], args := [] }

/- WHAT THE LISTED PACKAGE-LEVEL VARIABLES READ AS WHEN THE CALL BEGINS. Each datum BY PROGRAM (the guide's laid-datum.mjs) off the statement by which the dump's own 'gosem.cut.vars' lays the variable. In a bare row this is a premise. The card (YtgjjkieljdamfafDoorCards.lean) ties it to the program's text. -/
def laid_gingersnap_clock_bounds {H : Type} : DataW H := .agg [.agg [.lit (.int .i64 1601), .lit (.int .i64 9999)], .agg [.lit (.int .i64 1), .lit (.int .i64 12)], .agg [.lit (.int .i64 1), .lit (.int .i64 31)], .agg [.lit (.int .i64 0), .lit (.int .i64 23)], .agg [.lit (.int .i64 0), .lit (.int .i64 59)], .agg [.lit (.int .i64 0), .lit (.int .i64 59)]]
def laid_gingersnap_clock_monthDays {H : Type} : DataW H := .agg [.lit (.int .i64 31), .lit (.int .i64 28), .lit (.int .i64 31), .lit (.int .i64 30), .lit (.int .i64 31), .lit (.int .i64 30), .lit (.int .i64 31), .lit (.int .i64 31), .lit (.int .i64 30), .lit (.int .i64 31), .lit (.int .i64 30), .lit (.int .i64 31)]
def laid_gingersnap_stamp_parting {H : Type} : DataW H := .agg [.agg [.lit (.int .i32 9), .lit (.int .i32 9)], .agg [.lit (.int .i32 32), .lit (.int .i32 47)], .agg [.lit (.int .i32 59), .lit (.int .i32 64)], .agg [.lit (.int .i32 91), .lit (.int .i32 96)], .agg [.lit (.int .i32 123), .lit (.int .i32 126)]]
def laid_gingersnap_stamp_months {H : Type} : DataW H := .agg [.lit (.string [74, 97, 110]), .lit (.string [70, 101, 98]), .lit (.string [77, 97, 114]), .lit (.string [65, 112, 114]), .lit (.string [77, 97, 121]), .lit (.string [74, 117, 110]), .lit (.string [74, 117, 108]), .lit (.string [65, 117, 103]), .lit (.string [83, 101, 112]), .lit (.string [79, 99, 116]), .lit (.string [78, 111, 118]), .lit (.string [68, 101, 99])]
def laid_gingersnap_cookie_sites {H : Type} : DataW H := .agg [.lit (.string []), .lit (.string [110, 111, 110, 101]), .lit (.string [108, 97, 120]), .lit (.string [115, 116, 114, 105, 99, 116])]

/-- 'gingersnaplaw.CookieLast': WHATEVER THE INPUT: true; the input reads as it did. -/
def cookieLastSpec : ChangeSpec := { name := "cookieLast", fn := fun _ => fun
  | [d1, d2, d3, d4, d5] => { results := [.lit (.bool true)], args := [d1, d2, d3, d4, d5] }
  | _ => none }
def cookieLastRow : OpenClaim := { program := "ytgjjkieljdamfafdoor", sum := "d447f4819a4c52a1a785f7b42fb0766cee6d883d4ec7dcf578296b81b86c88bb", func := "gingersnap/gingersnaplaw.CookieLast", spec := "cookieLast", inPlace := ["internal/bytealg.IndexByteString", "internal/bytealg.CountString", "internal/bytealg.IndexString"], unfollowed := true, recurses := true, named := ["internal/bytealg.MaxLen", "gingersnap/stamp.parting", "gingersnap/stamp.months", "gingersnap/clock.bounds", "gingersnap/clock.monthDays", "gingersnap/cookie.sites"], plainKeys := false, apart := false, laid := [("gingersnap/clock.bounds", laid_gingersnap_clock_bounds), ("gingersnap/clock.monthDays", laid_gingersnap_clock_monthDays), ("gingersnap/stamp.parting", laid_gingersnap_stamp_parting), ("gingersnap/stamp.months", laid_gingersnap_stamp_months), ("gingersnap/cookie.sites", laid_gingersnap_cookie_sites)] }
def CookieLastSaid : Prop := cookieLastRow.holds Tryd.pinned (OpenSpec.ofChange cookieLastSpec)

/-- ITS FALSE NEIGHBOUR: 'it returns false'. Refute it at one input. -/
def cookieLastWrong : ChangeSpec := { name := "cookieLast", fn := fun _ => fun
  | [d1, d2, d3, d4, d5] => { results := [.lit (.bool false)], args := [d1, d2, d3, d4, d5] }
  | _ => none }
def CookieLastWrongFalsely : Prop := cookieLastRow.holds Tryd.pinned (OpenSpec.ofChange cookieLastWrong)

/-- 'gingersnaplaw.GoesBack': WHATEVER THE INPUT: true; the input reads as it did. -/
def goesBackSpec : ChangeSpec := { name := "goesBack", fn := fun _ => fun
  | [d1, d2, d3, d4] => { results := [.lit (.bool true)], args := [d1, d2, d3, d4] }
  | _ => none }
def goesBackRow : OpenClaim := { program := "ytgjjkieljdamfafdoor", sum := "d447f4819a4c52a1a785f7b42fb0766cee6d883d4ec7dcf578296b81b86c88bb", func := "gingersnap/gingersnaplaw.GoesBack", spec := "goesBack", inPlace := ["internal/bytealg.IndexByteString", "internal/bytealg.CountString", "internal/bytealg.IndexString"], unfollowed := true, recurses := true, named := ["internal/bytealg.MaxLen", "gingersnap/stamp.parting", "gingersnap/stamp.months", "gingersnap/clock.bounds", "gingersnap/clock.monthDays", "gingersnap/cookie.sites"], plainKeys := false, apart := false, laid := [("gingersnap/clock.bounds", laid_gingersnap_clock_bounds), ("gingersnap/clock.monthDays", laid_gingersnap_clock_monthDays), ("gingersnap/stamp.parting", laid_gingersnap_stamp_parting), ("gingersnap/stamp.months", laid_gingersnap_stamp_months), ("gingersnap/cookie.sites", laid_gingersnap_cookie_sites)] }
def GoesBackSaid : Prop := goesBackRow.holds Tryd.pinned (OpenSpec.ofChange goesBackSpec)

/-- ITS FALSE NEIGHBOUR: 'it returns false'. Refute it at one input. -/
def goesBackWrong : ChangeSpec := { name := "goesBack", fn := fun _ => fun
  | [d1, d2, d3, d4] => { results := [.lit (.bool false)], args := [d1, d2, d3, d4] }
  | _ => none }
def GoesBackWrongFalsely : Prop := goesBackRow.holds Tryd.pinned (OpenSpec.ofChange goesBackWrong)

/- THE SECOND FORM. 'bulk': how many values and letters a reading holds, each counted each time it is reached (what is shared counts as often as it is met; a slice's spare places count too). A statement '..UptoSaid' is the law's where the arguments, and the package variables that the reading takes, are together of bulk at most 1048576: NARROWER than '..Said'. Prove '..Said' where nothing that the law and all that it calls make is longer than what came in: it says more and counts as full. Else prove '..UptoSaid'. A law counts once. -/
mutual
def uptoBulk {H : Type} : DataW H → Nat
  | .lit (.string bytes) => bytes.length + 1
  | .lit _ => 1
  | .nil => 1
  | .ptr d => uptoBulk d + 1
  | .slice elems spare => uptoBulkAll elems + uptoBulkAll spare + 1
  | .agg parts => uptoBulkAll parts + 1
  | .iface _ d => uptoBulk d + 1
  | .map entries => uptoBulkEntries entries + 1
  | .held _ => 1
def uptoBulkAll {H : Type} : List (DataW H) → Nat
  | [] => 0
  | d :: r => uptoBulk d + uptoBulkAll r
def uptoBulkEntries {H : Type} : List (Lit × DataW H) → Nat
  | [] => 0
  | x :: r => uptoBulkEntry x + uptoBulkEntries r
def uptoBulkEntry {H : Type} : Lit × DataW H → Nat
  | (.string bytes, d) => bytes.length + uptoBulk d + 1
  | (_, d) => uptoBulk d + 1
 end
def uptoSmall : (H : Type) → List (DataW H) → Bool := fun _ ds => decide (uptoBulkAll ds ≤ 1048576)
def OpenSpec.upto (s : _root_.Go.ChangeSpec) : _root_.Go.OpenSpec := { _root_.Go.OpenSpec.ofChange s with cond := some uptoSmall }

/-- 'gingersnaplaw.CookieLast', WHERE WHAT IT READS IS OF BULK AT MOST 1048576: true; the input reads as it did. -/
def cookieLastUptoRow : OpenClaim := { program := "ytgjjkieljdamfafdoor", sum := "d447f4819a4c52a1a785f7b42fb0766cee6d883d4ec7dcf578296b81b86c88bb", func := "gingersnap/gingersnaplaw.CookieLast", spec := "cookieLast", inPlace := ["internal/bytealg.IndexByteString", "internal/bytealg.CountString", "internal/bytealg.IndexString"], unfollowed := true, recurses := true, named := ["internal/bytealg.MaxLen", "gingersnap/stamp.parting", "gingersnap/stamp.months", "gingersnap/clock.bounds", "gingersnap/clock.monthDays", "gingersnap/cookie.sites"], plainKeys := false, apart := false, laid := [("gingersnap/clock.bounds", laid_gingersnap_clock_bounds), ("gingersnap/clock.monthDays", laid_gingersnap_clock_monthDays), ("gingersnap/stamp.parting", laid_gingersnap_stamp_parting), ("gingersnap/stamp.months", laid_gingersnap_stamp_months), ("gingersnap/cookie.sites", laid_gingersnap_cookie_sites)], narrowed := true }
def CookieLastUptoSaid : Prop := cookieLastUptoRow.holds Tryd.pinned (OpenSpec.upto cookieLastSpec)

/-- 'gingersnaplaw.GoesBack', WHERE WHAT IT READS IS OF BULK AT MOST 1048576: true; the input reads as it did. -/
def goesBackUptoRow : OpenClaim := { program := "ytgjjkieljdamfafdoor", sum := "d447f4819a4c52a1a785f7b42fb0766cee6d883d4ec7dcf578296b81b86c88bb", func := "gingersnap/gingersnaplaw.GoesBack", spec := "goesBack", inPlace := ["internal/bytealg.IndexByteString", "internal/bytealg.CountString", "internal/bytealg.IndexString"], unfollowed := true, recurses := true, named := ["internal/bytealg.MaxLen", "gingersnap/stamp.parting", "gingersnap/stamp.months", "gingersnap/clock.bounds", "gingersnap/clock.monthDays", "gingersnap/cookie.sites"], plainKeys := false, apart := false, laid := [("gingersnap/clock.bounds", laid_gingersnap_clock_bounds), ("gingersnap/clock.monthDays", laid_gingersnap_clock_monthDays), ("gingersnap/stamp.parting", laid_gingersnap_stamp_parting), ("gingersnap/stamp.months", laid_gingersnap_stamp_months), ("gingersnap/cookie.sites", laid_gingersnap_cookie_sites)], narrowed := true }
def GoesBackUptoSaid : Prop := goesBackUptoRow.holds Tryd.pinned (OpenSpec.upto goesBackSpec)

end Rows
end Go.Proofs.YtgjjkieljdamfafDoor
