/-
  NARROWER THAN 'FOR EVERY INPUT', by the rows' own cells (each row's printed sentence says how): ClockBack: laid · ClockCycle: laid · ClockAdds: laid · StampTells: laid · StampBack: laid · StampParts: laid.
  DERIVED. THE GIVEN ROWS OF THIS SEAT. 6 by the template 'for every input the law returns true; each argument reads behind the call as it read before'; 0 by the template 'total and deterministic' (their statements: YtlabffopbambjabDoorTotals.lean).
  GIVEN WITH THE SEED: the statements are not yours to turn. If you find one false, say at which input.
  Laid BY PROGRAM, IN A SANDBOX (cutbox-rows.mjs): the forced cells as the released guide's own fill.sh prints them over the translation 744406c6c94ceca9… (all of the seat's roots in one cut). By AI agents, Wed Nov 11 2026. No macro, syntax, notation, axiom, sorry.
-/
import Derived.Test.YtlabffopbambjabDoorChecked
import GoSem.Claim
import GoSem.ClaimJoined
import GoSem.ClaimMapViews
import Derived.JoinedTies
import Derived.KernelRfl
namespace Go.Proofs.YtlabffopbambjabDoor
/- THE CELL 'sum', in the pinned program and in every row, IS THE sha256 OF THE DUMP (.gsa) THAT YtlabffopbambjabDoorProg.lean LOADS. Nothing in Lean hashes anything: it is a label: what it is worth is what the hold of that sum in a sandbox is worth. -/
noncomputable def Tryd.pinned : Pinned := { name := "ytlabffopbambjabdoor", sum := "744406c6c94ceca9ae58a8ebb179ec42e6205abfca41988866ba3405ebd20e24", checked := Tryd.checked }
namespace Rows
def none {H : Type} : Left H := { results := [], args := [] }

/- WHAT THE LISTED PACKAGE-LEVEL VARIABLES READ AS WHEN THE CALL BEGINS. Each datum BY PROGRAM (the guide's laid-datum.mjs) off the statement by which the dump's own 'gosem.cut.vars' lays the variable. In a bare row this is a premise. The card (YtlabffopbambjabDoorCards.lean) ties it to the program's text. -/
def laid_gingersnap_clock_bounds {H : Type} : DataW H := .agg [.agg [.lit (.int .i64 1601), .lit (.int .i64 9999)], .agg [.lit (.int .i64 1), .lit (.int .i64 12)], .agg [.lit (.int .i64 1), .lit (.int .i64 31)], .agg [.lit (.int .i64 0), .lit (.int .i64 23)], .agg [.lit (.int .i64 0), .lit (.int .i64 59)], .agg [.lit (.int .i64 0), .lit (.int .i64 59)]]
def laid_gingersnap_clock_monthDays {H : Type} : DataW H := .agg [.lit (.int .i64 31), .lit (.int .i64 28), .lit (.int .i64 31), .lit (.int .i64 30), .lit (.int .i64 31), .lit (.int .i64 30), .lit (.int .i64 31), .lit (.int .i64 31), .lit (.int .i64 30), .lit (.int .i64 31), .lit (.int .i64 30), .lit (.int .i64 31)]
def laid_gingersnap_clock_spans {H : Type} : DataW H := .agg [.agg [.lit (.int .i64 400), .lit (.int .i64 146097), .lit (.int .i64 20)], .agg [.lit (.int .i64 100), .lit (.int .i64 36524), .lit (.int .i64 3)], .agg [.lit (.int .i64 4), .lit (.int .i64 1461), .lit (.int .i64 24)], .agg [.lit (.int .i64 1), .lit (.int .i64 365), .lit (.int .i64 3)]]
def laid_gingersnap_stamp_parting {H : Type} : DataW H := .agg [.agg [.lit (.int .i32 9), .lit (.int .i32 9)], .agg [.lit (.int .i32 32), .lit (.int .i32 47)], .agg [.lit (.int .i32 59), .lit (.int .i32 64)], .agg [.lit (.int .i32 91), .lit (.int .i32 96)], .agg [.lit (.int .i32 123), .lit (.int .i32 126)]]
def laid_gingersnap_stamp_weekdays {H : Type} : DataW H := .agg [.lit (.string [83, 117, 110]), .lit (.string [77, 111, 110]), .lit (.string [84, 117, 101]), .lit (.string [87, 101, 100]), .lit (.string [84, 104, 117]), .lit (.string [70, 114, 105]), .lit (.string [83, 97, 116])]
def laid_gingersnap_stamp_months {H : Type} : DataW H := .agg [.lit (.string [74, 97, 110]), .lit (.string [70, 101, 98]), .lit (.string [77, 97, 114]), .lit (.string [65, 112, 114]), .lit (.string [77, 97, 121]), .lit (.string [74, 117, 110]), .lit (.string [74, 117, 108]), .lit (.string [65, 117, 103]), .lit (.string [83, 101, 112]), .lit (.string [79, 99, 116]), .lit (.string [78, 111, 118]), .lit (.string [68, 101, 99])]

/-- 'gingersnaplaw.ClockBack': WHATEVER THE INPUT: true; the input reads as it did. -/
def clockBackSpec : ChangeSpec := { name := "clockBack", fn := fun _ => fun
  | [d1, d2] => { results := [.lit (.bool true)], args := [d1, d2] }
  | _ => none }
def clockBackRow : OpenClaim := { program := "ytlabffopbambjabdoor", sum := "744406c6c94ceca9ae58a8ebb179ec42e6205abfca41988866ba3405ebd20e24", func := "gingersnap/gingersnaplaw.ClockBack", spec := "clockBack", named := ["gingersnap/clock.bounds", "gingersnap/clock.monthDays", "gingersnap/clock.spans"], apart := false, laid := [("gingersnap/clock.bounds", laid_gingersnap_clock_bounds), ("gingersnap/clock.monthDays", laid_gingersnap_clock_monthDays), ("gingersnap/clock.spans", laid_gingersnap_clock_spans)] }
def ClockBackSaid : Prop := clockBackRow.holds Tryd.pinned (OpenSpec.ofChange clockBackSpec)

/-- ITS FALSE NEIGHBOUR: 'it returns false'. Refute it at one input. -/
def clockBackWrong : ChangeSpec := { name := "clockBack", fn := fun _ => fun
  | [d1, d2] => { results := [.lit (.bool false)], args := [d1, d2] }
  | _ => none }
def ClockBackWrongFalsely : Prop := clockBackRow.holds Tryd.pinned (OpenSpec.ofChange clockBackWrong)

/-- 'gingersnaplaw.ClockCycle': WHATEVER THE INPUT: true; the input reads as it did. -/
def clockCycleSpec : ChangeSpec := { name := "clockCycle", fn := fun _ => fun
  | [d] => { results := [.lit (.bool true)], args := [d] }
  | _ => none }
def clockCycleRow : OpenClaim := { program := "ytlabffopbambjabdoor", sum := "744406c6c94ceca9ae58a8ebb179ec42e6205abfca41988866ba3405ebd20e24", func := "gingersnap/gingersnaplaw.ClockCycle", spec := "clockCycle", named := ["gingersnap/clock.bounds", "gingersnap/clock.monthDays", "gingersnap/clock.spans"], apart := false, laid := [("gingersnap/clock.bounds", laid_gingersnap_clock_bounds), ("gingersnap/clock.monthDays", laid_gingersnap_clock_monthDays), ("gingersnap/clock.spans", laid_gingersnap_clock_spans)] }
def ClockCycleSaid : Prop := clockCycleRow.holds Tryd.pinned (OpenSpec.ofChange clockCycleSpec)

/-- ITS FALSE NEIGHBOUR: 'it returns false'. Refute it at one input. -/
def clockCycleWrong : ChangeSpec := { name := "clockCycle", fn := fun _ => fun
  | [d] => { results := [.lit (.bool false)], args := [d] }
  | _ => none }
def ClockCycleWrongFalsely : Prop := clockCycleRow.holds Tryd.pinned (OpenSpec.ofChange clockCycleWrong)

/-- 'gingersnaplaw.ClockAdds': WHATEVER THE INPUT: true; the input reads as it did. -/
def clockAddsSpec : ChangeSpec := { name := "clockAdds", fn := fun _ => fun
  | [d1, d2, d3] => { results := [.lit (.bool true)], args := [d1, d2, d3] }
  | _ => none }
def clockAddsRow : OpenClaim := { program := "ytlabffopbambjabdoor", sum := "744406c6c94ceca9ae58a8ebb179ec42e6205abfca41988866ba3405ebd20e24", func := "gingersnap/gingersnaplaw.ClockAdds", spec := "clockAdds", named := ["gingersnap/clock.bounds", "gingersnap/clock.monthDays", "gingersnap/clock.spans"], apart := false, laid := [("gingersnap/clock.bounds", laid_gingersnap_clock_bounds), ("gingersnap/clock.monthDays", laid_gingersnap_clock_monthDays), ("gingersnap/clock.spans", laid_gingersnap_clock_spans)] }
def ClockAddsSaid : Prop := clockAddsRow.holds Tryd.pinned (OpenSpec.ofChange clockAddsSpec)

/-- ITS FALSE NEIGHBOUR: 'it returns false'. Refute it at one input. -/
def clockAddsWrong : ChangeSpec := { name := "clockAdds", fn := fun _ => fun
  | [d1, d2, d3] => { results := [.lit (.bool false)], args := [d1, d2, d3] }
  | _ => none }
def ClockAddsWrongFalsely : Prop := clockAddsRow.holds Tryd.pinned (OpenSpec.ofChange clockAddsWrong)

/-- 'gingersnaplaw.StampTells': WHATEVER THE INPUT: true; the input reads as it did. -/
def stampTellsSpec : ChangeSpec := { name := "stampTells", fn := fun _ => fun
  | [d1, d2] => { results := [.lit (.bool true)], args := [d1, d2] }
  | _ => none }
def stampTellsRow : OpenClaim := { program := "ytlabffopbambjabdoor", sum := "744406c6c94ceca9ae58a8ebb179ec42e6205abfca41988866ba3405ebd20e24", func := "gingersnap/gingersnaplaw.StampTells", spec := "stampTells", unfollowed := true, recurses := true, named := ["gingersnap/stamp.parting", "gingersnap/stamp.months", "gingersnap/clock.bounds", "gingersnap/clock.monthDays", "gingersnap/stamp.weekdays", "gingersnap/clock.spans"], apart := false, laid := [("gingersnap/clock.bounds", laid_gingersnap_clock_bounds), ("gingersnap/clock.monthDays", laid_gingersnap_clock_monthDays), ("gingersnap/clock.spans", laid_gingersnap_clock_spans), ("gingersnap/stamp.parting", laid_gingersnap_stamp_parting), ("gingersnap/stamp.weekdays", laid_gingersnap_stamp_weekdays), ("gingersnap/stamp.months", laid_gingersnap_stamp_months)] }
def StampTellsSaid : Prop := stampTellsRow.holds Tryd.pinned (OpenSpec.ofChange stampTellsSpec)

/-- ITS FALSE NEIGHBOUR: 'it returns false'. Refute it at one input. -/
def stampTellsWrong : ChangeSpec := { name := "stampTells", fn := fun _ => fun
  | [d1, d2] => { results := [.lit (.bool false)], args := [d1, d2] }
  | _ => none }
def StampTellsWrongFalsely : Prop := stampTellsRow.holds Tryd.pinned (OpenSpec.ofChange stampTellsWrong)

/-- 'gingersnaplaw.StampBack': WHATEVER THE INPUT: true; the input reads as it did. -/
def stampBackSpec : ChangeSpec := { name := "stampBack", fn := fun _ => fun
  | [d1, d2] => { results := [.lit (.bool true)], args := [d1, d2] }
  | _ => none }
def stampBackRow : OpenClaim := { program := "ytlabffopbambjabdoor", sum := "744406c6c94ceca9ae58a8ebb179ec42e6205abfca41988866ba3405ebd20e24", func := "gingersnap/gingersnaplaw.StampBack", spec := "stampBack", unfollowed := true, recurses := true, named := ["gingersnap/stamp.months", "gingersnap/stamp.weekdays", "gingersnap/clock.spans", "gingersnap/clock.monthDays", "gingersnap/stamp.parting", "gingersnap/clock.bounds"], apart := false, laid := [("gingersnap/clock.bounds", laid_gingersnap_clock_bounds), ("gingersnap/clock.monthDays", laid_gingersnap_clock_monthDays), ("gingersnap/clock.spans", laid_gingersnap_clock_spans), ("gingersnap/stamp.parting", laid_gingersnap_stamp_parting), ("gingersnap/stamp.weekdays", laid_gingersnap_stamp_weekdays), ("gingersnap/stamp.months", laid_gingersnap_stamp_months)] }
def StampBackSaid : Prop := stampBackRow.holds Tryd.pinned (OpenSpec.ofChange stampBackSpec)

/-- ITS FALSE NEIGHBOUR: 'it returns false'. Refute it at one input. -/
def stampBackWrong : ChangeSpec := { name := "stampBack", fn := fun _ => fun
  | [d1, d2] => { results := [.lit (.bool false)], args := [d1, d2] }
  | _ => none }
def StampBackWrongFalsely : Prop := stampBackRow.holds Tryd.pinned (OpenSpec.ofChange stampBackWrong)

/-- 'gingersnaplaw.StampParts': WHATEVER THE INPUT: true; the input reads as it did. -/
def stampPartsSpec : ChangeSpec := { name := "stampParts", fn := fun _ => fun
  | [d1, d2] => { results := [.lit (.bool true)], args := [d1, d2] }
  | _ => none }
def stampPartsRow : OpenClaim := { program := "ytlabffopbambjabdoor", sum := "744406c6c94ceca9ae58a8ebb179ec42e6205abfca41988866ba3405ebd20e24", func := "gingersnap/gingersnaplaw.StampParts", spec := "stampParts", unfollowed := true, recurses := true, named := ["gingersnap/stamp.parting", "gingersnap/stamp.months", "gingersnap/clock.bounds", "gingersnap/clock.monthDays", "gingersnap/stamp.weekdays", "gingersnap/clock.spans"], apart := false, laid := [("gingersnap/clock.bounds", laid_gingersnap_clock_bounds), ("gingersnap/clock.monthDays", laid_gingersnap_clock_monthDays), ("gingersnap/clock.spans", laid_gingersnap_clock_spans), ("gingersnap/stamp.parting", laid_gingersnap_stamp_parting), ("gingersnap/stamp.weekdays", laid_gingersnap_stamp_weekdays), ("gingersnap/stamp.months", laid_gingersnap_stamp_months)] }
def StampPartsSaid : Prop := stampPartsRow.holds Tryd.pinned (OpenSpec.ofChange stampPartsSpec)

/-- ITS FALSE NEIGHBOUR: 'it returns false'. Refute it at one input. -/
def stampPartsWrong : ChangeSpec := { name := "stampParts", fn := fun _ => fun
  | [d1, d2] => { results := [.lit (.bool false)], args := [d1, d2] }
  | _ => none }
def StampPartsWrongFalsely : Prop := stampPartsRow.holds Tryd.pinned (OpenSpec.ofChange stampPartsWrong)

/- THE SECOND FORM. 'bulk': how many values and letters a reading holds, each counted each time it is reached (what is shared counts as often as it is met; a slice's spare places count too). A statement '..UptoSaid' is the law's where the arguments, and the package variables that the reading takes, are together of bulk at most 1048576: NARROWER than '..Said'. Prove '..Said' where nothing that the law and all that it calls make is longer than what came in: it says more and counts as full. Else prove '..UptoSaid'. A law counts once. -/
mutual
def uptoBulk {H : Type} : DataW H → Nat
  | .lit (.string bytes) => bytes.length + 1
  | .lit _ => 1
  | .nil => 1
  | .ptr d => uptoBulk d + 1
  | .slice elems spare => uptoBulkAll elems + uptoBulkAll spare + 1
  | .agg parts => uptoBulkAll parts + 1
  | .iface _ d => uptoBulk d + 1
  | .map entries => uptoBulkEntries entries + 1
  | .held _ => 1
def uptoBulkAll {H : Type} : List (DataW H) → Nat
  | [] => 0
  | d :: r => uptoBulk d + uptoBulkAll r
def uptoBulkEntries {H : Type} : List (Lit × DataW H) → Nat
  | [] => 0
  | x :: r => uptoBulkEntry x + uptoBulkEntries r
def uptoBulkEntry {H : Type} : Lit × DataW H → Nat
  | (.string bytes, d) => bytes.length + uptoBulk d + 1
  | (_, d) => uptoBulk d + 1
 end
def uptoSmall : (H : Type) → List (DataW H) → Bool := fun _ ds => decide (uptoBulkAll ds ≤ 1048576)
def OpenSpec.upto (s : _root_.Go.ChangeSpec) : _root_.Go.OpenSpec := { _root_.Go.OpenSpec.ofChange s with cond := some uptoSmall }

/-- 'gingersnaplaw.ClockBack', WHERE WHAT IT READS IS OF BULK AT MOST 1048576: true; the input reads as it did. -/
def clockBackUptoRow : OpenClaim := { program := "ytlabffopbambjabdoor", sum := "744406c6c94ceca9ae58a8ebb179ec42e6205abfca41988866ba3405ebd20e24", func := "gingersnap/gingersnaplaw.ClockBack", spec := "clockBack", named := ["gingersnap/clock.bounds", "gingersnap/clock.monthDays", "gingersnap/clock.spans"], apart := false, laid := [("gingersnap/clock.bounds", laid_gingersnap_clock_bounds), ("gingersnap/clock.monthDays", laid_gingersnap_clock_monthDays), ("gingersnap/clock.spans", laid_gingersnap_clock_spans)], narrowed := true }
def ClockBackUptoSaid : Prop := clockBackUptoRow.holds Tryd.pinned (OpenSpec.upto clockBackSpec)

/-- 'gingersnaplaw.ClockCycle', WHERE WHAT IT READS IS OF BULK AT MOST 1048576: true; the input reads as it did. -/
def clockCycleUptoRow : OpenClaim := { program := "ytlabffopbambjabdoor", sum := "744406c6c94ceca9ae58a8ebb179ec42e6205abfca41988866ba3405ebd20e24", func := "gingersnap/gingersnaplaw.ClockCycle", spec := "clockCycle", named := ["gingersnap/clock.bounds", "gingersnap/clock.monthDays", "gingersnap/clock.spans"], apart := false, laid := [("gingersnap/clock.bounds", laid_gingersnap_clock_bounds), ("gingersnap/clock.monthDays", laid_gingersnap_clock_monthDays), ("gingersnap/clock.spans", laid_gingersnap_clock_spans)], narrowed := true }
def ClockCycleUptoSaid : Prop := clockCycleUptoRow.holds Tryd.pinned (OpenSpec.upto clockCycleSpec)

/-- 'gingersnaplaw.ClockAdds', WHERE WHAT IT READS IS OF BULK AT MOST 1048576: true; the input reads as it did. -/
def clockAddsUptoRow : OpenClaim := { program := "ytlabffopbambjabdoor", sum := "744406c6c94ceca9ae58a8ebb179ec42e6205abfca41988866ba3405ebd20e24", func := "gingersnap/gingersnaplaw.ClockAdds", spec := "clockAdds", named := ["gingersnap/clock.bounds", "gingersnap/clock.monthDays", "gingersnap/clock.spans"], apart := false, laid := [("gingersnap/clock.bounds", laid_gingersnap_clock_bounds), ("gingersnap/clock.monthDays", laid_gingersnap_clock_monthDays), ("gingersnap/clock.spans", laid_gingersnap_clock_spans)], narrowed := true }
def ClockAddsUptoSaid : Prop := clockAddsUptoRow.holds Tryd.pinned (OpenSpec.upto clockAddsSpec)

/-- 'gingersnaplaw.StampTells', WHERE WHAT IT READS IS OF BULK AT MOST 1048576: true; the input reads as it did. -/
def stampTellsUptoRow : OpenClaim := { program := "ytlabffopbambjabdoor", sum := "744406c6c94ceca9ae58a8ebb179ec42e6205abfca41988866ba3405ebd20e24", func := "gingersnap/gingersnaplaw.StampTells", spec := "stampTells", unfollowed := true, recurses := true, named := ["gingersnap/stamp.parting", "gingersnap/stamp.months", "gingersnap/clock.bounds", "gingersnap/clock.monthDays", "gingersnap/stamp.weekdays", "gingersnap/clock.spans"], apart := false, laid := [("gingersnap/clock.bounds", laid_gingersnap_clock_bounds), ("gingersnap/clock.monthDays", laid_gingersnap_clock_monthDays), ("gingersnap/clock.spans", laid_gingersnap_clock_spans), ("gingersnap/stamp.parting", laid_gingersnap_stamp_parting), ("gingersnap/stamp.weekdays", laid_gingersnap_stamp_weekdays), ("gingersnap/stamp.months", laid_gingersnap_stamp_months)], narrowed := true }
def StampTellsUptoSaid : Prop := stampTellsUptoRow.holds Tryd.pinned (OpenSpec.upto stampTellsSpec)

/-- 'gingersnaplaw.StampBack', WHERE WHAT IT READS IS OF BULK AT MOST 1048576: true; the input reads as it did. -/
def stampBackUptoRow : OpenClaim := { program := "ytlabffopbambjabdoor", sum := "744406c6c94ceca9ae58a8ebb179ec42e6205abfca41988866ba3405ebd20e24", func := "gingersnap/gingersnaplaw.StampBack", spec := "stampBack", unfollowed := true, recurses := true, named := ["gingersnap/stamp.months", "gingersnap/stamp.weekdays", "gingersnap/clock.spans", "gingersnap/clock.monthDays", "gingersnap/stamp.parting", "gingersnap/clock.bounds"], apart := false, laid := [("gingersnap/clock.bounds", laid_gingersnap_clock_bounds), ("gingersnap/clock.monthDays", laid_gingersnap_clock_monthDays), ("gingersnap/clock.spans", laid_gingersnap_clock_spans), ("gingersnap/stamp.parting", laid_gingersnap_stamp_parting), ("gingersnap/stamp.weekdays", laid_gingersnap_stamp_weekdays), ("gingersnap/stamp.months", laid_gingersnap_stamp_months)], narrowed := true }
def StampBackUptoSaid : Prop := stampBackUptoRow.holds Tryd.pinned (OpenSpec.upto stampBackSpec)

/-- 'gingersnaplaw.StampParts', WHERE WHAT IT READS IS OF BULK AT MOST 1048576: true; the input reads as it did. -/
def stampPartsUptoRow : OpenClaim := { program := "ytlabffopbambjabdoor", sum := "744406c6c94ceca9ae58a8ebb179ec42e6205abfca41988866ba3405ebd20e24", func := "gingersnap/gingersnaplaw.StampParts", spec := "stampParts", unfollowed := true, recurses := true, named := ["gingersnap/stamp.parting", "gingersnap/stamp.months", "gingersnap/clock.bounds", "gingersnap/clock.monthDays", "gingersnap/stamp.weekdays", "gingersnap/clock.spans"], apart := false, laid := [("gingersnap/clock.bounds", laid_gingersnap_clock_bounds), ("gingersnap/clock.monthDays", laid_gingersnap_clock_monthDays), ("gingersnap/clock.spans", laid_gingersnap_clock_spans), ("gingersnap/stamp.parting", laid_gingersnap_stamp_parting), ("gingersnap/stamp.weekdays", laid_gingersnap_stamp_weekdays), ("gingersnap/stamp.months", laid_gingersnap_stamp_months)], narrowed := true }
def StampPartsUptoSaid : Prop := stampPartsUptoRow.holds Tryd.pinned (OpenSpec.upto stampPartsSpec)

end Rows
end Go.Proofs.YtlabffopbambjabDoor
