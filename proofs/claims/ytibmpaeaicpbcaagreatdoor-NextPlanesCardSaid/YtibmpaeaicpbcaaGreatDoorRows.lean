/-
  NARROWER THAN 'FOR EVERY INPUT', by the rows' own cells (each row's printed sentence says how): NextAsks: laid · NextAfter: laid · NextPlanes: laid · NextTakes: laid · NextTimes: laid · NextEnds: laid · NextHalted: laid · NextPlain: laid.
  DERIVED. THE GIVEN ROWS OF THIS SEAT. 8 by the template 'for every input the law returns true; each argument reads behind the call as it read before'; 0 by the template 'total and deterministic' (their statements: YtibmpaeaicpbcaaGreatDoorTotals.lean).
  GIVEN WITH THE SEED: the statements are not yours to turn. If you find one false, say at which input.
  Laid BY PROGRAM, IN A SANDBOX (cutbox-rows.mjs): the forced cells as the released guide's own fill.sh prints them over the translation efb14e86aff1bfcd… (all of the seat's roots in one cut). By AI agents, Wed Nov 11 2026. No macro, syntax, notation, axiom, sorry.
-/
import Derived.Test.YtibmpaeaicpbcaaGreatDoorChecked
import GoSem.Claim
import GoSem.ClaimJoined
import GoSem.ClaimMapViews
import Derived.JoinedTies
import Derived.KernelRfl
namespace Go.Proofs.YtibmpaeaicpbcaaGreatDoor
/- THE CELL 'sum', in the pinned program and in every row, IS THE sha256 OF THE DUMP (.gsa) THAT YtibmpaeaicpbcaaGreatDoorProg.lean LOADS. Nothing in Lean hashes anything: it is a label: what it is worth is what the hold of that sum in a sandbox is worth. -/
noncomputable def Tryz.pinned : Pinned := { name := "ytibmpaeaicpbcaagreatdoor", sum := "efb14e86aff1bfcd8f85bcbe6f8a48d2a9225ba52cf0960b5d5afea20bb78e13", checked := Tryz.checked }
namespace Rows
def none {H : Type} : Left H := { results := [], args := [] }

/- WHAT THE LISTED PACKAGE-LEVEL VARIABLES READ AS WHEN THE CALL BEGINS. Each datum BY PROGRAM (the guide's laid-datum.mjs) off the statement by which the dump's own 'gosem.cut.vars' lays the variable. In a bare row this is a premise. The card (YtibmpaeaicpbcaaGreatDoorCards.lean) ties it to the program's text. -/
def laid_charabanc_flags_masks {H : Type} : DataW H := .agg [.lit (.int .u8 64), .lit (.int .u8 1), .lit (.int .u8 4), .lit (.int .u8 128)]
def laid_charabanc_logic_digits {H : Type} : DataW H := .agg [.agg [.lit (.int .u8 16), .lit (.int .u8 15), .lit (.int .u8 9), .lit (.int .u8 6)], .agg [.lit (.int .u8 1), .lit (.int .u8 255), .lit (.int .u8 153), .lit (.int .u8 96)]]
def laid_charabanc_shift_courses {H : Type} : DataW H := .agg [.agg [.lit (.int .i64 1), .lit (.int .i64 7), .lit (.int .i64 0)], .agg [.lit (.int .i64 (-1)), .lit (.int .i64 0), .lit (.int .i64 7)]]
def laid_charabanc_next_modes {H : Type} : DataW H := .agg [.lit (.int .i64 0), .lit (.int .i64 0), .lit (.int .i64 1), .lit (.int .i64 2)]

/-- 'charabanclaw12.NextAsks': WHATEVER THE INPUT: true; the input reads as it did. -/
def nextAsksSpec : ChangeSpec := { name := "nextAsks", fn := fun _ => fun
  | [d1, d2] => { results := [.lit (.bool true)], args := [d1, d2] }
  | _ => none }
def nextAsksRow : OpenClaim := { program := "ytibmpaeaicpbcaagreatdoor", sum := "efb14e86aff1bfcd8f85bcbe6f8a48d2a9225ba52cf0960b5d5afea20bb78e13", func := "charabanc/charabanclaw12.NextAsks", spec := "nextAsks", unfollowed := true, recurses := true, named := ["charabanc/shift.courses", "charabanc/next.modes", "charabanc/flags.masks", "charabanc/logic.digits"], apart := false, laid := [("charabanc/flags.masks", laid_charabanc_flags_masks), ("charabanc/logic.digits", laid_charabanc_logic_digits), ("charabanc/shift.courses", laid_charabanc_shift_courses), ("charabanc/next.modes", laid_charabanc_next_modes)] }
def NextAsksSaid : Prop := nextAsksRow.holds Tryz.pinned (OpenSpec.ofChange nextAsksSpec)

/-- ITS FALSE NEIGHBOUR: 'it returns false'. Refute it at one input. -/
def nextAsksWrong : ChangeSpec := { name := "nextAsks", fn := fun _ => fun
  | [d1, d2] => { results := [.lit (.bool false)], args := [d1, d2] }
  | _ => none }
def NextAsksWrongFalsely : Prop := nextAsksRow.holds Tryz.pinned (OpenSpec.ofChange nextAsksWrong)

/-- 'charabanclaw12.NextAfter': WHATEVER THE INPUT: true; the input reads as it did. -/
def nextAfterSpec : ChangeSpec := { name := "nextAfter", fn := fun _ => fun
  | [d1, d2, d3] => { results := [.lit (.bool true)], args := [d1, d2, d3] }
  | _ => none }
def nextAfterRow : OpenClaim := { program := "ytibmpaeaicpbcaagreatdoor", sum := "efb14e86aff1bfcd8f85bcbe6f8a48d2a9225ba52cf0960b5d5afea20bb78e13", func := "charabanc/charabanclaw12.NextAfter", spec := "nextAfter", unfollowed := true, recurses := true, named := ["charabanc/shift.courses", "charabanc/next.modes", "charabanc/flags.masks", "charabanc/logic.digits"], apart := false, laid := [("charabanc/flags.masks", laid_charabanc_flags_masks), ("charabanc/logic.digits", laid_charabanc_logic_digits), ("charabanc/shift.courses", laid_charabanc_shift_courses), ("charabanc/next.modes", laid_charabanc_next_modes)] }
def NextAfterSaid : Prop := nextAfterRow.holds Tryz.pinned (OpenSpec.ofChange nextAfterSpec)

/-- ITS FALSE NEIGHBOUR: 'it returns false'. Refute it at one input. -/
def nextAfterWrong : ChangeSpec := { name := "nextAfter", fn := fun _ => fun
  | [d1, d2, d3] => { results := [.lit (.bool false)], args := [d1, d2, d3] }
  | _ => none }
def NextAfterWrongFalsely : Prop := nextAfterRow.holds Tryz.pinned (OpenSpec.ofChange nextAfterWrong)

/-- 'charabanclaw12.NextPlanes': WHATEVER THE INPUT: true; the input reads as it did. -/
def nextPlanesSpec : ChangeSpec := { name := "nextPlanes", fn := fun _ => fun
  | [d1, d2, d3] => { results := [.lit (.bool true)], args := [d1, d2, d3] }
  | _ => none }
def nextPlanesRow : OpenClaim := { program := "ytibmpaeaicpbcaagreatdoor", sum := "efb14e86aff1bfcd8f85bcbe6f8a48d2a9225ba52cf0960b5d5afea20bb78e13", func := "charabanc/charabanclaw12.NextPlanes", spec := "nextPlanes", unfollowed := true, recurses := true, named := ["charabanc/shift.courses", "charabanc/next.modes", "charabanc/flags.masks", "charabanc/logic.digits"], apart := false, laid := [("charabanc/flags.masks", laid_charabanc_flags_masks), ("charabanc/logic.digits", laid_charabanc_logic_digits), ("charabanc/shift.courses", laid_charabanc_shift_courses), ("charabanc/next.modes", laid_charabanc_next_modes)] }
def NextPlanesSaid : Prop := nextPlanesRow.holds Tryz.pinned (OpenSpec.ofChange nextPlanesSpec)

/-- ITS FALSE NEIGHBOUR: 'it returns false'. Refute it at one input. -/
def nextPlanesWrong : ChangeSpec := { name := "nextPlanes", fn := fun _ => fun
  | [d1, d2, d3] => { results := [.lit (.bool false)], args := [d1, d2, d3] }
  | _ => none }
def NextPlanesWrongFalsely : Prop := nextPlanesRow.holds Tryz.pinned (OpenSpec.ofChange nextPlanesWrong)

/-- 'charabanclaw12.NextTakes': WHATEVER THE INPUT: true; the input reads as it did. -/
def nextTakesSpec : ChangeSpec := { name := "nextTakes", fn := fun _ => fun
  | [d1, d2] => { results := [.lit (.bool true)], args := [d1, d2] }
  | _ => none }
def nextTakesRow : OpenClaim := { program := "ytibmpaeaicpbcaagreatdoor", sum := "efb14e86aff1bfcd8f85bcbe6f8a48d2a9225ba52cf0960b5d5afea20bb78e13", func := "charabanc/charabanclaw12.NextTakes", spec := "nextTakes", unfollowed := true, recurses := true, named := ["charabanc/shift.courses", "charabanc/next.modes", "charabanc/flags.masks", "charabanc/logic.digits"], apart := false, laid := [("charabanc/flags.masks", laid_charabanc_flags_masks), ("charabanc/logic.digits", laid_charabanc_logic_digits), ("charabanc/shift.courses", laid_charabanc_shift_courses), ("charabanc/next.modes", laid_charabanc_next_modes)] }
def NextTakesSaid : Prop := nextTakesRow.holds Tryz.pinned (OpenSpec.ofChange nextTakesSpec)

/-- ITS FALSE NEIGHBOUR: 'it returns false'. Refute it at one input. -/
def nextTakesWrong : ChangeSpec := { name := "nextTakes", fn := fun _ => fun
  | [d1, d2] => { results := [.lit (.bool false)], args := [d1, d2] }
  | _ => none }
def NextTakesWrongFalsely : Prop := nextTakesRow.holds Tryz.pinned (OpenSpec.ofChange nextTakesWrong)

/-- 'charabanclaw12.NextTimes': WHATEVER THE INPUT: true; the input reads as it did. -/
def nextTimesSpec : ChangeSpec := { name := "nextTimes", fn := fun _ => fun
  | [d1, d2] => { results := [.lit (.bool true)], args := [d1, d2] }
  | _ => none }
def nextTimesRow : OpenClaim := { program := "ytibmpaeaicpbcaagreatdoor", sum := "efb14e86aff1bfcd8f85bcbe6f8a48d2a9225ba52cf0960b5d5afea20bb78e13", func := "charabanc/charabanclaw12.NextTimes", spec := "nextTimes", unfollowed := true, recurses := true, named := ["charabanc/shift.courses", "charabanc/next.modes", "charabanc/flags.masks", "charabanc/logic.digits"], apart := false, laid := [("charabanc/flags.masks", laid_charabanc_flags_masks), ("charabanc/logic.digits", laid_charabanc_logic_digits), ("charabanc/shift.courses", laid_charabanc_shift_courses), ("charabanc/next.modes", laid_charabanc_next_modes)] }
def NextTimesSaid : Prop := nextTimesRow.holds Tryz.pinned (OpenSpec.ofChange nextTimesSpec)

/-- ITS FALSE NEIGHBOUR: 'it returns false'. Refute it at one input. -/
def nextTimesWrong : ChangeSpec := { name := "nextTimes", fn := fun _ => fun
  | [d1, d2] => { results := [.lit (.bool false)], args := [d1, d2] }
  | _ => none }
def NextTimesWrongFalsely : Prop := nextTimesRow.holds Tryz.pinned (OpenSpec.ofChange nextTimesWrong)

/-- 'charabanclaw12.NextEnds': WHATEVER THE INPUT: true; the input reads as it did. -/
def nextEndsSpec : ChangeSpec := { name := "nextEnds", fn := fun _ => fun
  | [d1, d2] => { results := [.lit (.bool true)], args := [d1, d2] }
  | _ => none }
def nextEndsRow : OpenClaim := { program := "ytibmpaeaicpbcaagreatdoor", sum := "efb14e86aff1bfcd8f85bcbe6f8a48d2a9225ba52cf0960b5d5afea20bb78e13", func := "charabanc/charabanclaw12.NextEnds", spec := "nextEnds", unfollowed := true, recurses := true, named := ["charabanc/shift.courses", "charabanc/next.modes", "charabanc/flags.masks", "charabanc/logic.digits"], apart := false, laid := [("charabanc/flags.masks", laid_charabanc_flags_masks), ("charabanc/logic.digits", laid_charabanc_logic_digits), ("charabanc/shift.courses", laid_charabanc_shift_courses), ("charabanc/next.modes", laid_charabanc_next_modes)] }
def NextEndsSaid : Prop := nextEndsRow.holds Tryz.pinned (OpenSpec.ofChange nextEndsSpec)

/-- ITS FALSE NEIGHBOUR: 'it returns false'. Refute it at one input. -/
def nextEndsWrong : ChangeSpec := { name := "nextEnds", fn := fun _ => fun
  | [d1, d2] => { results := [.lit (.bool false)], args := [d1, d2] }
  | _ => none }
def NextEndsWrongFalsely : Prop := nextEndsRow.holds Tryz.pinned (OpenSpec.ofChange nextEndsWrong)

/-- 'charabanclaw12.NextHalted': WHATEVER THE INPUT: true; the input reads as it did. -/
def nextHaltedSpec : ChangeSpec := { name := "nextHalted", fn := fun _ => fun
  | [d1, d2] => { results := [.lit (.bool true)], args := [d1, d2] }
  | _ => none }
def nextHaltedRow : OpenClaim := { program := "ytibmpaeaicpbcaagreatdoor", sum := "efb14e86aff1bfcd8f85bcbe6f8a48d2a9225ba52cf0960b5d5afea20bb78e13", func := "charabanc/charabanclaw12.NextHalted", spec := "nextHalted", unfollowed := true, recurses := true, named := ["charabanc/shift.courses", "charabanc/next.modes", "charabanc/flags.masks", "charabanc/logic.digits"], apart := false, laid := [("charabanc/flags.masks", laid_charabanc_flags_masks), ("charabanc/logic.digits", laid_charabanc_logic_digits), ("charabanc/shift.courses", laid_charabanc_shift_courses), ("charabanc/next.modes", laid_charabanc_next_modes)] }
def NextHaltedSaid : Prop := nextHaltedRow.holds Tryz.pinned (OpenSpec.ofChange nextHaltedSpec)

/-- ITS FALSE NEIGHBOUR: 'it returns false'. Refute it at one input. -/
def nextHaltedWrong : ChangeSpec := { name := "nextHalted", fn := fun _ => fun
  | [d1, d2] => { results := [.lit (.bool false)], args := [d1, d2] }
  | _ => none }
def NextHaltedWrongFalsely : Prop := nextHaltedRow.holds Tryz.pinned (OpenSpec.ofChange nextHaltedWrong)

/-- 'charabanclaw12.NextPlain': WHATEVER THE INPUT: true; the input reads as it did. -/
def nextPlainSpec : ChangeSpec := { name := "nextPlain", fn := fun _ => fun
  | [d1, d2, d3] => { results := [.lit (.bool true)], args := [d1, d2, d3] }
  | _ => none }
def nextPlainRow : OpenClaim := { program := "ytibmpaeaicpbcaagreatdoor", sum := "efb14e86aff1bfcd8f85bcbe6f8a48d2a9225ba52cf0960b5d5afea20bb78e13", func := "charabanc/charabanclaw12.NextPlain", spec := "nextPlain", unfollowed := true, recurses := true, named := ["charabanc/shift.courses", "charabanc/next.modes", "charabanc/flags.masks", "charabanc/logic.digits"], apart := false, laid := [("charabanc/flags.masks", laid_charabanc_flags_masks), ("charabanc/logic.digits", laid_charabanc_logic_digits), ("charabanc/shift.courses", laid_charabanc_shift_courses), ("charabanc/next.modes", laid_charabanc_next_modes)] }
def NextPlainSaid : Prop := nextPlainRow.holds Tryz.pinned (OpenSpec.ofChange nextPlainSpec)

/-- ITS FALSE NEIGHBOUR: 'it returns false'. Refute it at one input. -/
def nextPlainWrong : ChangeSpec := { name := "nextPlain", fn := fun _ => fun
  | [d1, d2, d3] => { results := [.lit (.bool false)], args := [d1, d2, d3] }
  | _ => none }
def NextPlainWrongFalsely : Prop := nextPlainRow.holds Tryz.pinned (OpenSpec.ofChange nextPlainWrong)

/- THE SECOND FORM. 'bulk': how many values and letters a reading holds, each counted each time it is reached (what is shared counts as often as it is met; a slice's spare places count too). A statement '..UptoSaid' is the law's where the arguments, and the package variables that the reading takes, are together of bulk at most 1048576: NARROWER than '..Said'. Prove '..Said' where nothing that the law and all that it calls make is longer than what came in: it says more and counts as full. Else prove '..UptoSaid'. A law counts once. -/
mutual
def uptoBulk {H : Type} : DataW H → Nat
  | .lit (.string bytes) => bytes.length + 1
  | .lit _ => 1
  | .nil => 1
  | .ptr d => uptoBulk d + 1
  | .slice elems spare => uptoBulkAll elems + uptoBulkAll spare + 1
  | .agg parts => uptoBulkAll parts + 1
  | .iface _ d => uptoBulk d + 1
  | .map entries => uptoBulkEntries entries + 1
  | .held _ => 1
def uptoBulkAll {H : Type} : List (DataW H) → Nat
  | [] => 0
  | d :: r => uptoBulk d + uptoBulkAll r
def uptoBulkEntries {H : Type} : List (Lit × DataW H) → Nat
  | [] => 0
  | x :: r => uptoBulkEntry x + uptoBulkEntries r
def uptoBulkEntry {H : Type} : Lit × DataW H → Nat
  | (.string bytes, d) => bytes.length + uptoBulk d + 1
  | (_, d) => uptoBulk d + 1
 end
def uptoSmall : (H : Type) → List (DataW H) → Bool := fun _ ds => decide (uptoBulkAll ds ≤ 1048576)
def OpenSpec.upto (s : _root_.Go.ChangeSpec) : _root_.Go.OpenSpec := { _root_.Go.OpenSpec.ofChange s with cond := some uptoSmall }

/-- 'charabanclaw12.NextAsks', WHERE WHAT IT READS IS OF BULK AT MOST 1048576: true; the input reads as it did. -/
def nextAsksUptoRow : OpenClaim := { program := "ytibmpaeaicpbcaagreatdoor", sum := "efb14e86aff1bfcd8f85bcbe6f8a48d2a9225ba52cf0960b5d5afea20bb78e13", func := "charabanc/charabanclaw12.NextAsks", spec := "nextAsks", unfollowed := true, recurses := true, named := ["charabanc/shift.courses", "charabanc/next.modes", "charabanc/flags.masks", "charabanc/logic.digits"], apart := false, laid := [("charabanc/flags.masks", laid_charabanc_flags_masks), ("charabanc/logic.digits", laid_charabanc_logic_digits), ("charabanc/shift.courses", laid_charabanc_shift_courses), ("charabanc/next.modes", laid_charabanc_next_modes)], narrowed := true }
def NextAsksUptoSaid : Prop := nextAsksUptoRow.holds Tryz.pinned (OpenSpec.upto nextAsksSpec)

/-- 'charabanclaw12.NextAfter', WHERE WHAT IT READS IS OF BULK AT MOST 1048576: true; the input reads as it did. -/
def nextAfterUptoRow : OpenClaim := { program := "ytibmpaeaicpbcaagreatdoor", sum := "efb14e86aff1bfcd8f85bcbe6f8a48d2a9225ba52cf0960b5d5afea20bb78e13", func := "charabanc/charabanclaw12.NextAfter", spec := "nextAfter", unfollowed := true, recurses := true, named := ["charabanc/shift.courses", "charabanc/next.modes", "charabanc/flags.masks", "charabanc/logic.digits"], apart := false, laid := [("charabanc/flags.masks", laid_charabanc_flags_masks), ("charabanc/logic.digits", laid_charabanc_logic_digits), ("charabanc/shift.courses", laid_charabanc_shift_courses), ("charabanc/next.modes", laid_charabanc_next_modes)], narrowed := true }
def NextAfterUptoSaid : Prop := nextAfterUptoRow.holds Tryz.pinned (OpenSpec.upto nextAfterSpec)

/-- 'charabanclaw12.NextPlanes', WHERE WHAT IT READS IS OF BULK AT MOST 1048576: true; the input reads as it did. -/
def nextPlanesUptoRow : OpenClaim := { program := "ytibmpaeaicpbcaagreatdoor", sum := "efb14e86aff1bfcd8f85bcbe6f8a48d2a9225ba52cf0960b5d5afea20bb78e13", func := "charabanc/charabanclaw12.NextPlanes", spec := "nextPlanes", unfollowed := true, recurses := true, named := ["charabanc/shift.courses", "charabanc/next.modes", "charabanc/flags.masks", "charabanc/logic.digits"], apart := false, laid := [("charabanc/flags.masks", laid_charabanc_flags_masks), ("charabanc/logic.digits", laid_charabanc_logic_digits), ("charabanc/shift.courses", laid_charabanc_shift_courses), ("charabanc/next.modes", laid_charabanc_next_modes)], narrowed := true }
def NextPlanesUptoSaid : Prop := nextPlanesUptoRow.holds Tryz.pinned (OpenSpec.upto nextPlanesSpec)

/-- 'charabanclaw12.NextTakes', WHERE WHAT IT READS IS OF BULK AT MOST 1048576: true; the input reads as it did. -/
def nextTakesUptoRow : OpenClaim := { program := "ytibmpaeaicpbcaagreatdoor", sum := "efb14e86aff1bfcd8f85bcbe6f8a48d2a9225ba52cf0960b5d5afea20bb78e13", func := "charabanc/charabanclaw12.NextTakes", spec := "nextTakes", unfollowed := true, recurses := true, named := ["charabanc/shift.courses", "charabanc/next.modes", "charabanc/flags.masks", "charabanc/logic.digits"], apart := false, laid := [("charabanc/flags.masks", laid_charabanc_flags_masks), ("charabanc/logic.digits", laid_charabanc_logic_digits), ("charabanc/shift.courses", laid_charabanc_shift_courses), ("charabanc/next.modes", laid_charabanc_next_modes)], narrowed := true }
def NextTakesUptoSaid : Prop := nextTakesUptoRow.holds Tryz.pinned (OpenSpec.upto nextTakesSpec)

/-- 'charabanclaw12.NextTimes', WHERE WHAT IT READS IS OF BULK AT MOST 1048576: true; the input reads as it did. -/
def nextTimesUptoRow : OpenClaim := { program := "ytibmpaeaicpbcaagreatdoor", sum := "efb14e86aff1bfcd8f85bcbe6f8a48d2a9225ba52cf0960b5d5afea20bb78e13", func := "charabanc/charabanclaw12.NextTimes", spec := "nextTimes", unfollowed := true, recurses := true, named := ["charabanc/shift.courses", "charabanc/next.modes", "charabanc/flags.masks", "charabanc/logic.digits"], apart := false, laid := [("charabanc/flags.masks", laid_charabanc_flags_masks), ("charabanc/logic.digits", laid_charabanc_logic_digits), ("charabanc/shift.courses", laid_charabanc_shift_courses), ("charabanc/next.modes", laid_charabanc_next_modes)], narrowed := true }
def NextTimesUptoSaid : Prop := nextTimesUptoRow.holds Tryz.pinned (OpenSpec.upto nextTimesSpec)

/-- 'charabanclaw12.NextEnds', WHERE WHAT IT READS IS OF BULK AT MOST 1048576: true; the input reads as it did. -/
def nextEndsUptoRow : OpenClaim := { program := "ytibmpaeaicpbcaagreatdoor", sum := "efb14e86aff1bfcd8f85bcbe6f8a48d2a9225ba52cf0960b5d5afea20bb78e13", func := "charabanc/charabanclaw12.NextEnds", spec := "nextEnds", unfollowed := true, recurses := true, named := ["charabanc/shift.courses", "charabanc/next.modes", "charabanc/flags.masks", "charabanc/logic.digits"], apart := false, laid := [("charabanc/flags.masks", laid_charabanc_flags_masks), ("charabanc/logic.digits", laid_charabanc_logic_digits), ("charabanc/shift.courses", laid_charabanc_shift_courses), ("charabanc/next.modes", laid_charabanc_next_modes)], narrowed := true }
def NextEndsUptoSaid : Prop := nextEndsUptoRow.holds Tryz.pinned (OpenSpec.upto nextEndsSpec)

/-- 'charabanclaw12.NextHalted', WHERE WHAT IT READS IS OF BULK AT MOST 1048576: true; the input reads as it did. -/
def nextHaltedUptoRow : OpenClaim := { program := "ytibmpaeaicpbcaagreatdoor", sum := "efb14e86aff1bfcd8f85bcbe6f8a48d2a9225ba52cf0960b5d5afea20bb78e13", func := "charabanc/charabanclaw12.NextHalted", spec := "nextHalted", unfollowed := true, recurses := true, named := ["charabanc/shift.courses", "charabanc/next.modes", "charabanc/flags.masks", "charabanc/logic.digits"], apart := false, laid := [("charabanc/flags.masks", laid_charabanc_flags_masks), ("charabanc/logic.digits", laid_charabanc_logic_digits), ("charabanc/shift.courses", laid_charabanc_shift_courses), ("charabanc/next.modes", laid_charabanc_next_modes)], narrowed := true }
def NextHaltedUptoSaid : Prop := nextHaltedUptoRow.holds Tryz.pinned (OpenSpec.upto nextHaltedSpec)

/-- 'charabanclaw12.NextPlain', WHERE WHAT IT READS IS OF BULK AT MOST 1048576: true; the input reads as it did. -/
def nextPlainUptoRow : OpenClaim := { program := "ytibmpaeaicpbcaagreatdoor", sum := "efb14e86aff1bfcd8f85bcbe6f8a48d2a9225ba52cf0960b5d5afea20bb78e13", func := "charabanc/charabanclaw12.NextPlain", spec := "nextPlain", unfollowed := true, recurses := true, named := ["charabanc/shift.courses", "charabanc/next.modes", "charabanc/flags.masks", "charabanc/logic.digits"], apart := false, laid := [("charabanc/flags.masks", laid_charabanc_flags_masks), ("charabanc/logic.digits", laid_charabanc_logic_digits), ("charabanc/shift.courses", laid_charabanc_shift_courses), ("charabanc/next.modes", laid_charabanc_next_modes)], narrowed := true }
def NextPlainUptoSaid : Prop := nextPlainUptoRow.holds Tryz.pinned (OpenSpec.upto nextPlainSpec)

end Rows
end Go.Proofs.YtibmpaeaicpbcaaGreatDoor
