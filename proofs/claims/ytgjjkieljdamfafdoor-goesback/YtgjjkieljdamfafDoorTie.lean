/-
  DERIVED. GIVEN WITH THE SEED: THE PROGRAM's TIES (one call each: nine closed facts by the kernel) AND EACH ROW's TIE, after the 31st guide's Derived/Test/Toyas{Tie, Card}.lean. No idea stands in it: it is a product of the set-up. Laid BY PROGRAM, IN A SANDBOX (cutbox-door.mjs). By AI agents, Wed Nov 11 2026. No macro, syntax, notation, axiom, sorry.
-/
import Derived.Test.YtgjjkieljdamfafDoorRows
import Derived.LaidByTextLater
import Derived.SevenTiedAt
import Derived.LaidSub
import Derived.LaidOnce
namespace Go.Proofs.YtgjjkieljdamfafDoor
open Go
set_option maxRecDepth 100000
theorem seatTie1 : Tryd.prog.laidByTextLater [("gingersnap/clock.bounds", Rows.laid_gingersnap_clock_bounds), ("gingersnap/clock.monthDays", Rows.laid_gingersnap_clock_monthDays), ("gingersnap/stamp.parting", Rows.laid_gingersnap_stamp_parting), ("gingersnap/stamp.months", Rows.laid_gingersnap_stamp_months), ("gingersnap/cookie.sites", Rows.laid_gingersnap_cookie_sites)] [.data, .data, .data, .data, .data] true :=
  Program.laidByTextLater_by_one 45 8 13 (by kernel_rfl) (by kernel_rfl) (by kernel_rfl) (by kernel_rfl) (by kernel_rfl) (by kernel_rfl) (fun _ _ => by kernel_rfl)
theorem noOwnUnsafe : Tryd.pinned.checked.prog.headLifts.contains "ownunsafe" = false := by kernel_rfl
theorem tie : Tryd.prog.laidByTextLater [("gingersnap/clock.bounds", Rows.laid_gingersnap_clock_bounds), ("gingersnap/clock.monthDays", Rows.laid_gingersnap_clock_monthDays), ("gingersnap/stamp.parting", Rows.laid_gingersnap_stamp_parting), ("gingersnap/stamp.months", Rows.laid_gingersnap_stamp_months), ("gingersnap/cookie.sites", Rows.laid_gingersnap_cookie_sites)] [.data, .data, .data, .data, .data] true :=
  Program.laidByTextLater.sub seatTie1 ["gingersnap/clock.bounds", "gingersnap/clock.monthDays", "gingersnap/stamp.parting", "gingersnap/stamp.months", "gingersnap/cookie.sites"] (by kernel_rfl) (by kernel_rfl)
theorem cookieLast_row_tie : Rows.cookieLastRow.laidByTextAt .later Tryd.pinned [.data, .data, .data, .data, .data] true :=
  OpenClaim.laidByTextAt_later rfl rfl tie noOwnUnsafe
theorem goesBack_row_tie : Rows.goesBackRow.laidByTextAt .later Tryd.pinned [.data, .data, .data, .data, .data] true :=
  OpenClaim.laidByTextAt_later rfl rfl tie noOwnUnsafe
theorem cookieLastUpto_row_tie : Rows.cookieLastUptoRow.laidByTextAt .later Tryd.pinned [.data, .data, .data, .data, .data] true :=
  OpenClaim.laidByTextAt_later rfl rfl tie noOwnUnsafe
theorem goesBackUpto_row_tie : Rows.goesBackUptoRow.laidByTextAt .later Tryd.pinned [.data, .data, .data, .data, .data] true :=
  OpenClaim.laidByTextAt_later rfl rfl tie noOwnUnsafe
end Go.Proofs.YtgjjkieljdamfafDoor
