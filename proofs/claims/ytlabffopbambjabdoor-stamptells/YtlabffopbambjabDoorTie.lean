/-
  DERIVED. GIVEN WITH THE SEED: THE PROGRAM's TIES (one call each: nine closed facts by the kernel) AND EACH ROW's TIE, after the 31st guide's Derived/Test/Toyas{Tie, Card}.lean. No idea stands in it: it is a product of the set-up. Laid BY PROGRAM, IN A SANDBOX (cutbox-door.mjs). By AI agents, Wed Nov 11 2026. No macro, syntax, notation, axiom, sorry.
-/
import Derived.Test.YtlabffopbambjabDoorRows
import Derived.LaidByTextLater
import Derived.SevenTiedAt
import Derived.LaidSub
import Derived.LaidOnce
namespace Go.Proofs.YtlabffopbambjabDoor
open Go
set_option maxRecDepth 100000
theorem seatTie1 : Tryd.prog.laidByTextLater [("gingersnap/clock.bounds", Rows.laid_gingersnap_clock_bounds), ("gingersnap/clock.monthDays", Rows.laid_gingersnap_clock_monthDays), ("gingersnap/clock.spans", Rows.laid_gingersnap_clock_spans), ("gingersnap/stamp.parting", Rows.laid_gingersnap_stamp_parting), ("gingersnap/stamp.weekdays", Rows.laid_gingersnap_stamp_weekdays), ("gingersnap/stamp.months", Rows.laid_gingersnap_stamp_months)] [.data, .data, .data, .data, .data, .data] true :=
  Program.laidByTextLater_by_one 54 8 13 (by kernel_rfl) (by kernel_rfl) (by kernel_rfl) (by kernel_rfl) (by kernel_rfl) (by kernel_rfl) (fun _ _ => by kernel_rfl)
theorem noOwnUnsafe : Tryd.pinned.checked.prog.headLifts.contains "ownunsafe" = false := by kernel_rfl
theorem tie : Tryd.prog.laidByTextLater [("gingersnap/clock.bounds", Rows.laid_gingersnap_clock_bounds), ("gingersnap/clock.monthDays", Rows.laid_gingersnap_clock_monthDays), ("gingersnap/clock.spans", Rows.laid_gingersnap_clock_spans)] [.data, .data, .data] true :=
  Program.laidByTextLater.sub seatTie1 ["gingersnap/clock.bounds", "gingersnap/clock.monthDays", "gingersnap/clock.spans"] (by kernel_rfl) (by kernel_rfl)
theorem clockBack_row_tie : Rows.clockBackRow.laidByTextAt .later Tryd.pinned [.data, .data, .data] true :=
  OpenClaim.laidByTextAt_later rfl rfl tie noOwnUnsafe
theorem clockCycle_row_tie : Rows.clockCycleRow.laidByTextAt .later Tryd.pinned [.data, .data, .data] true :=
  OpenClaim.laidByTextAt_later rfl rfl tie noOwnUnsafe
theorem clockAdds_row_tie : Rows.clockAddsRow.laidByTextAt .later Tryd.pinned [.data, .data, .data] true :=
  OpenClaim.laidByTextAt_later rfl rfl tie noOwnUnsafe
theorem tie2 : Tryd.prog.laidByTextLater [("gingersnap/clock.bounds", Rows.laid_gingersnap_clock_bounds), ("gingersnap/clock.monthDays", Rows.laid_gingersnap_clock_monthDays), ("gingersnap/clock.spans", Rows.laid_gingersnap_clock_spans), ("gingersnap/stamp.parting", Rows.laid_gingersnap_stamp_parting), ("gingersnap/stamp.weekdays", Rows.laid_gingersnap_stamp_weekdays), ("gingersnap/stamp.months", Rows.laid_gingersnap_stamp_months)] [.data, .data, .data, .data, .data, .data] true :=
  Program.laidByTextLater.sub seatTie1 ["gingersnap/clock.bounds", "gingersnap/clock.monthDays", "gingersnap/clock.spans", "gingersnap/stamp.parting", "gingersnap/stamp.weekdays", "gingersnap/stamp.months"] (by kernel_rfl) (by kernel_rfl)
theorem stampTells_row_tie : Rows.stampTellsRow.laidByTextAt .later Tryd.pinned [.data, .data, .data, .data, .data, .data] true :=
  OpenClaim.laidByTextAt_later rfl rfl tie2 noOwnUnsafe
theorem stampBack_row_tie : Rows.stampBackRow.laidByTextAt .later Tryd.pinned [.data, .data, .data, .data, .data, .data] true :=
  OpenClaim.laidByTextAt_later rfl rfl tie2 noOwnUnsafe
theorem stampParts_row_tie : Rows.stampPartsRow.laidByTextAt .later Tryd.pinned [.data, .data, .data, .data, .data, .data] true :=
  OpenClaim.laidByTextAt_later rfl rfl tie2 noOwnUnsafe
theorem clockBackUpto_row_tie : Rows.clockBackUptoRow.laidByTextAt .later Tryd.pinned [.data, .data, .data] true :=
  OpenClaim.laidByTextAt_later rfl rfl tie noOwnUnsafe
theorem clockCycleUpto_row_tie : Rows.clockCycleUptoRow.laidByTextAt .later Tryd.pinned [.data, .data, .data] true :=
  OpenClaim.laidByTextAt_later rfl rfl tie noOwnUnsafe
theorem clockAddsUpto_row_tie : Rows.clockAddsUptoRow.laidByTextAt .later Tryd.pinned [.data, .data, .data] true :=
  OpenClaim.laidByTextAt_later rfl rfl tie noOwnUnsafe
theorem stampTellsUpto_row_tie : Rows.stampTellsUptoRow.laidByTextAt .later Tryd.pinned [.data, .data, .data, .data, .data, .data] true :=
  OpenClaim.laidByTextAt_later rfl rfl tie2 noOwnUnsafe
theorem stampBackUpto_row_tie : Rows.stampBackUptoRow.laidByTextAt .later Tryd.pinned [.data, .data, .data, .data, .data, .data] true :=
  OpenClaim.laidByTextAt_later rfl rfl tie2 noOwnUnsafe
theorem stampPartsUpto_row_tie : Rows.stampPartsUptoRow.laidByTextAt .later Tryd.pinned [.data, .data, .data, .data, .data, .data] true :=
  OpenClaim.laidByTextAt_later rfl rfl tie2 noOwnUnsafe
end Go.Proofs.YtlabffopbambjabDoor
