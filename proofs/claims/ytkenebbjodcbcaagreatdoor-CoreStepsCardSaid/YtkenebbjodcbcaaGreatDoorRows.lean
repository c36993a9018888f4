/-
  NARROWER THAN 'FOR EVERY INPUT', by the rows' own cells (each row's printed sentence says how): CoreTicks: laid · CoreOne: laid · CoreSteps: laid · CoreNmi: laid · CoreReset: laid · CoreOff: laid.
  DERIVED. THE GIVEN ROWS OF THIS SEAT. 6 by the template 'for every input the law returns true; each argument reads behind the call as it read before'; 0 by the template 'total and deterministic' (their statements: YtkenebbjodcbcaaGreatDoorTotals.lean).
  GIVEN WITH THE SEED: the statements are not yours to turn. If you find one false, say at which input.
  Laid BY PROGRAM, IN A SANDBOX (cutbox-rows.mjs): the forced cells as the released guide's own fill.sh prints them over the translation e4a62bf3b9914b7e… (all of the seat's roots in one cut). By AI agents, Wed Nov 11 2026. No macro, syntax, notation, axiom, sorry.
-/
import Derived.Test.YtkenebbjodcbcaaGreatDoorChecked
import GoSem.Claim
import GoSem.ClaimJoined
import GoSem.ClaimMapViews
import Derived.JoinedTies
import Derived.KernelRfl
namespace Go.Proofs.YtkenebbjodcbcaaGreatDoor
/- THE CELL 'sum', in the pinned program and in every row, IS THE sha256 OF THE DUMP (.gsa) THAT YtkenebbjodcbcaaGreatDoorProg.lean LOADS. Nothing in Lean hashes anything: it is a label: what it is worth is what the hold of that sum in a sandbox is worth. -/
noncomputable def Tryz.pinned : Pinned := { name := "ytkenebbjodcbcaagreatdoor", sum := "e4a62bf3b9914b7ed7d917476158186a3eddf292eb49b816271304d9e211be48", checked := Tryz.checked }
namespace Rows
def none {H : Type} : Left H := { results := [], args := [] }

/- WHAT THE LISTED PACKAGE-LEVEL VARIABLES READ AS WHEN THE CALL BEGINS. Each datum BY PROGRAM (the guide's laid-datum.mjs) off the statement by which the dump's own 'gosem.cut.vars' lays the variable. In a bare row this is a premise. The card (YtkenebbjodcbcaaGreatDoorCards.lean) ties it to the program's text. -/
def laid_charabanc_cycle_samples {H : Type} : DataW H := .agg [.lit (.int .i64 2), .lit (.int .i64 2), .lit (.int .i64 2), .lit (.int .i64 3), .lit (.int .i64 3), .lit (.int .i64 4), .lit (.int .i64 0)]
def laid_charabanc_flags_masks {H : Type} : DataW H := .agg [.lit (.int .u8 64), .lit (.int .u8 1), .lit (.int .u8 4), .lit (.int .u8 128)]
def laid_charabanc_logic_digits {H : Type} : DataW H := .agg [.agg [.lit (.int .u8 16), .lit (.int .u8 15), .lit (.int .u8 9), .lit (.int .u8 6)], .agg [.lit (.int .u8 1), .lit (.int .u8 255), .lit (.int .u8 153), .lit (.int .u8 96)]]
def laid_charabanc_shift_courses {H : Type} : DataW H := .agg [.agg [.lit (.int .i64 1), .lit (.int .i64 7), .lit (.int .i64 0)], .agg [.lit (.int .i64 (-1)), .lit (.int .i64 0), .lit (.int .i64 7)]]
def laid_charabanc_next_modes {H : Type} : DataW H := .agg [.lit (.int .i64 0), .lit (.int .i64 0), .lit (.int .i64 1), .lit (.int .i64 2)]

/-- 'charabanclaw18.CoreTicks': WHATEVER THE INPUT: true; the input reads as it did. -/
def coreTicksSpec : ChangeSpec := { name := "coreTicks", fn := fun _ => fun
  | [d1, d2, d3] => { results := [.lit (.bool true)], args := [d1, d2, d3] }
  | _ => none }
def coreTicksRow : OpenClaim := { program := "ytkenebbjodcbcaagreatdoor", sum := "e4a62bf3b9914b7ed7d917476158186a3eddf292eb49b816271304d9e211be48", func := "charabanc/charabanclaw18.CoreTicks", spec := "coreTicks", unfollowed := true, recurses := true, named := ["charabanc/shift.courses", "charabanc/next.modes", "charabanc/flags.masks", "charabanc/logic.digits", "charabanc/cycle.samples"], apart := false, laid := [("charabanc/cycle.samples", laid_charabanc_cycle_samples), ("charabanc/flags.masks", laid_charabanc_flags_masks), ("charabanc/logic.digits", laid_charabanc_logic_digits), ("charabanc/shift.courses", laid_charabanc_shift_courses), ("charabanc/next.modes", laid_charabanc_next_modes)] }
def CoreTicksSaid : Prop := coreTicksRow.holds Tryz.pinned (OpenSpec.ofChange coreTicksSpec)

/-- ITS FALSE NEIGHBOUR: 'it returns false'. Refute it at one input. -/
def coreTicksWrong : ChangeSpec := { name := "coreTicks", fn := fun _ => fun
  | [d1, d2, d3] => { results := [.lit (.bool false)], args := [d1, d2, d3] }
  | _ => none }
def CoreTicksWrongFalsely : Prop := coreTicksRow.holds Tryz.pinned (OpenSpec.ofChange coreTicksWrong)

/-- 'charabanclaw18.CoreOne': WHATEVER THE INPUT: true; the input reads as it did. -/
def coreOneSpec : ChangeSpec := { name := "coreOne", fn := fun _ => fun
  | [d1, d2, d3] => { results := [.lit (.bool true)], args := [d1, d2, d3] }
  | _ => none }
def coreOneRow : OpenClaim := { program := "ytkenebbjodcbcaagreatdoor", sum := "e4a62bf3b9914b7ed7d917476158186a3eddf292eb49b816271304d9e211be48", func := "charabanc/charabanclaw18.CoreOne", spec := "coreOne", unfollowed := true, recurses := true, named := ["charabanc/shift.courses", "charabanc/next.modes", "charabanc/flags.masks", "charabanc/logic.digits", "charabanc/cycle.samples"], apart := false, laid := [("charabanc/cycle.samples", laid_charabanc_cycle_samples), ("charabanc/flags.masks", laid_charabanc_flags_masks), ("charabanc/logic.digits", laid_charabanc_logic_digits), ("charabanc/shift.courses", laid_charabanc_shift_courses), ("charabanc/next.modes", laid_charabanc_next_modes)] }
def CoreOneSaid : Prop := coreOneRow.holds Tryz.pinned (OpenSpec.ofChange coreOneSpec)

/-- ITS FALSE NEIGHBOUR: 'it returns false'. Refute it at one input. -/
def coreOneWrong : ChangeSpec := { name := "coreOne", fn := fun _ => fun
  | [d1, d2, d3] => { results := [.lit (.bool false)], args := [d1, d2, d3] }
  | _ => none }
def CoreOneWrongFalsely : Prop := coreOneRow.holds Tryz.pinned (OpenSpec.ofChange coreOneWrong)

/-- 'charabanclaw18.CoreSteps': WHATEVER THE INPUT: true; the input reads as it did. -/
def coreStepsSpec : ChangeSpec := { name := "coreSteps", fn := fun _ => fun
  | [d1, d2, d3] => { results := [.lit (.bool true)], args := [d1, d2, d3] }
  | _ => none }
def coreStepsRow : OpenClaim := { program := "ytkenebbjodcbcaagreatdoor", sum := "e4a62bf3b9914b7ed7d917476158186a3eddf292eb49b816271304d9e211be48", func := "charabanc/charabanclaw18.CoreSteps", spec := "coreSteps", unfollowed := true, recurses := true, named := ["charabanc/shift.courses", "charabanc/next.modes", "charabanc/flags.masks", "charabanc/logic.digits", "charabanc/cycle.samples"], apart := false, laid := [("charabanc/cycle.samples", laid_charabanc_cycle_samples), ("charabanc/flags.masks", laid_charabanc_flags_masks), ("charabanc/logic.digits", laid_charabanc_logic_digits), ("charabanc/shift.courses", laid_charabanc_shift_courses), ("charabanc/next.modes", laid_charabanc_next_modes)] }
def CoreStepsSaid : Prop := coreStepsRow.holds Tryz.pinned (OpenSpec.ofChange coreStepsSpec)

/-- ITS FALSE NEIGHBOUR: 'it returns false'. Refute it at one input. -/
def coreStepsWrong : ChangeSpec := { name := "coreSteps", fn := fun _ => fun
  | [d1, d2, d3] => { results := [.lit (.bool false)], args := [d1, d2, d3] }
  | _ => none }
def CoreStepsWrongFalsely : Prop := coreStepsRow.holds Tryz.pinned (OpenSpec.ofChange coreStepsWrong)

/-- 'charabanclaw18.CoreNmi': WHATEVER THE INPUT: true; the input reads as it did. -/
def coreNmiSpec : ChangeSpec := { name := "coreNmi", fn := fun _ => fun
  | [d1, d2, d3] => { results := [.lit (.bool true)], args := [d1, d2, d3] }
  | _ => none }
def coreNmiRow : OpenClaim := { program := "ytkenebbjodcbcaagreatdoor", sum := "e4a62bf3b9914b7ed7d917476158186a3eddf292eb49b816271304d9e211be48", func := "charabanc/charabanclaw18.CoreNmi", spec := "coreNmi", unfollowed := true, recurses := true, named := ["charabanc/shift.courses", "charabanc/next.modes", "charabanc/flags.masks", "charabanc/logic.digits", "charabanc/cycle.samples"], apart := false, laid := [("charabanc/cycle.samples", laid_charabanc_cycle_samples), ("charabanc/flags.masks", laid_charabanc_flags_masks), ("charabanc/logic.digits", laid_charabanc_logic_digits), ("charabanc/shift.courses", laid_charabanc_shift_courses), ("charabanc/next.modes", laid_charabanc_next_modes)] }
def CoreNmiSaid : Prop := coreNmiRow.holds Tryz.pinned (OpenSpec.ofChange coreNmiSpec)

/-- ITS FALSE NEIGHBOUR: 'it returns false'. Refute it at one input. -/
def coreNmiWrong : ChangeSpec := { name := "coreNmi", fn := fun _ => fun
  | [d1, d2, d3] => { results := [.lit (.bool false)], args := [d1, d2, d3] }
  | _ => none }
def CoreNmiWrongFalsely : Prop := coreNmiRow.holds Tryz.pinned (OpenSpec.ofChange coreNmiWrong)

/-- 'charabanclaw18.CoreReset': WHATEVER THE INPUT: true; the input reads as it did. -/
def coreResetSpec : ChangeSpec := { name := "coreReset", fn := fun _ => fun
  | [d1, d2, d3] => { results := [.lit (.bool true)], args := [d1, d2, d3] }
  | _ => none }
def coreResetRow : OpenClaim := { program := "ytkenebbjodcbcaagreatdoor", sum := "e4a62bf3b9914b7ed7d917476158186a3eddf292eb49b816271304d9e211be48", func := "charabanc/charabanclaw18.CoreReset", spec := "coreReset", unfollowed := true, recurses := true, named := ["charabanc/shift.courses", "charabanc/next.modes", "charabanc/flags.masks", "charabanc/logic.digits", "charabanc/cycle.samples"], apart := false, laid := [("charabanc/cycle.samples", laid_charabanc_cycle_samples), ("charabanc/flags.masks", laid_charabanc_flags_masks), ("charabanc/logic.digits", laid_charabanc_logic_digits), ("charabanc/shift.courses", laid_charabanc_shift_courses), ("charabanc/next.modes", laid_charabanc_next_modes)] }
def CoreResetSaid : Prop := coreResetRow.holds Tryz.pinned (OpenSpec.ofChange coreResetSpec)

/-- ITS FALSE NEIGHBOUR: 'it returns false'. Refute it at one input. -/
def coreResetWrong : ChangeSpec := { name := "coreReset", fn := fun _ => fun
  | [d1, d2, d3] => { results := [.lit (.bool false)], args := [d1, d2, d3] }
  | _ => none }
def CoreResetWrongFalsely : Prop := coreResetRow.holds Tryz.pinned (OpenSpec.ofChange coreResetWrong)

/-- 'charabanclaw18.CoreOff': WHATEVER THE INPUT: true; the input reads as it did. -/
def coreOffSpec : ChangeSpec := { name := "coreOff", fn := fun _ => fun
  | [d1, d2, d3] => { results := [.lit (.bool true)], args := [d1, d2, d3] }
  | _ => none }
def coreOffRow : OpenClaim := { program := "ytkenebbjodcbcaagreatdoor", sum := "e4a62bf3b9914b7ed7d917476158186a3eddf292eb49b816271304d9e211be48", func := "charabanc/charabanclaw18.CoreOff", spec := "coreOff", unfollowed := true, recurses := true, named := ["charabanc/shift.courses", "charabanc/next.modes", "charabanc/flags.masks", "charabanc/logic.digits", "charabanc/cycle.samples"], apart := false, laid := [("charabanc/cycle.samples", laid_charabanc_cycle_samples), ("charabanc/flags.masks", laid_charabanc_flags_masks), ("charabanc/logic.digits", laid_charabanc_logic_digits), ("charabanc/shift.courses", laid_charabanc_shift_courses), ("charabanc/next.modes", laid_charabanc_next_modes)] }
def CoreOffSaid : Prop := coreOffRow.holds Tryz.pinned (OpenSpec.ofChange coreOffSpec)

/-- ITS FALSE NEIGHBOUR: 'it returns false'. Refute it at one input. -/
def coreOffWrong : ChangeSpec := { name := "coreOff", fn := fun _ => fun
  | [d1, d2, d3] => { results := [.lit (.bool false)], args := [d1, d2, d3] }
  | _ => none }
def CoreOffWrongFalsely : Prop := coreOffRow.holds Tryz.pinned (OpenSpec.ofChange coreOffWrong)

/- THE SECOND FORM. 'bulk': how many values and letters a reading holds, each counted each time it is reached (what is shared counts as often as it is met; a slice's spare places count too). A statement '..UptoSaid' is the law's where the arguments, and the package variables that the reading takes, are together of bulk at most 1048576: NARROWER than '..Said'. Prove '..Said' where nothing that the law and all that it calls make is longer than what came in: it says more and counts as full. Else prove '..UptoSaid'. A law counts once. -/
mutual
def uptoBulk {H : Type} : DataW H → Nat
  | .lit (.string bytes) => bytes.length + 1
  | .lit _ => 1
  | .nil => 1
  | .ptr d => uptoBulk d + 1
  | .slice elems spare => uptoBulkAll elems + uptoBulkAll spare + 1
  | .agg parts => uptoBulkAll parts + 1
  | .iface _ d => uptoBulk d + 1
  | .map entries => uptoBulkEntries entries + 1
  | .held _ => 1
def uptoBulkAll {H : Type} : List (DataW H) → Nat
  | [] => 0
  | d :: r => uptoBulk d + uptoBulkAll r
def uptoBulkEntries {H : Type} : List (Lit × DataW H) → Nat
  | [] => 0
  | x :: r => uptoBulkEntry x + uptoBulkEntries r
def uptoBulkEntry {H : Type} : Lit × DataW H → Nat
  | (.string bytes, d) => bytes.length + uptoBulk d + 1
  | (_, d) => uptoBulk d + 1
 end
def uptoSmall : (H : Type) → List (DataW H) → Bool := fun _ ds => decide (uptoBulkAll ds ≤ 1048576)
def OpenSpec.upto (s : _root_.Go.ChangeSpec) : _root_.Go.OpenSpec := { _root_.Go.OpenSpec.ofChange s with cond := some uptoSmall }

/-- 'charabanclaw18.CoreTicks', WHERE WHAT IT READS IS OF BULK AT MOST 1048576: true; the input reads as it did. -/
def coreTicksUptoRow : OpenClaim := { program := "ytkenebbjodcbcaagreatdoor", sum := "e4a62bf3b9914b7ed7d917476158186a3eddf292eb49b816271304d9e211be48", func := "charabanc/charabanclaw18.CoreTicks", spec := "coreTicks", unfollowed := true, recurses := true, named := ["charabanc/shift.courses", "charabanc/next.modes", "charabanc/flags.masks", "charabanc/logic.digits", "charabanc/cycle.samples"], apart := false, laid := [("charabanc/cycle.samples", laid_charabanc_cycle_samples), ("charabanc/flags.masks", laid_charabanc_flags_masks), ("charabanc/logic.digits", laid_charabanc_logic_digits), ("charabanc/shift.courses", laid_charabanc_shift_courses), ("charabanc/next.modes", laid_charabanc_next_modes)], narrowed := true }
def CoreTicksUptoSaid : Prop := coreTicksUptoRow.holds Tryz.pinned (OpenSpec.upto coreTicksSpec)

/-- 'charabanclaw18.CoreOne', WHERE WHAT IT READS IS OF BULK AT MOST 1048576: true; the input reads as it did. -/
def coreOneUptoRow : OpenClaim := { program := "ytkenebbjodcbcaagreatdoor", sum := "e4a62bf3b9914b7ed7d917476158186a3eddf292eb49b816271304d9e211be48", func := "charabanc/charabanclaw18.CoreOne", spec := "coreOne", unfollowed := true, recurses := true, named := ["charabanc/shift.courses", "charabanc/next.modes", "charabanc/flags.masks", "charabanc/logic.digits", "charabanc/cycle.samples"], apart := false, laid := [("charabanc/cycle.samples", laid_charabanc_cycle_samples), ("charabanc/flags.masks", laid_charabanc_flags_masks), ("charabanc/logic.digits", laid_charabanc_logic_digits), ("charabanc/shift.courses", laid_charabanc_shift_courses), ("charabanc/next.modes", laid_charabanc_next_modes)], narrowed := true }
def CoreOneUptoSaid : Prop := coreOneUptoRow.holds Tryz.pinned (OpenSpec.upto coreOneSpec)

/-- 'charabanclaw18.CoreSteps', WHERE WHAT IT READS IS OF BULK AT MOST 1048576: true; the input reads as it did. -/
def coreStepsUptoRow : OpenClaim := { program := "ytkenebbjodcbcaagreatdoor", sum := "e4a62bf3b9914b7ed7d917476158186a3eddf292eb49b816271304d9e211be48", func := "charabanc/charabanclaw18.CoreSteps", spec := "coreSteps", unfollowed := true, recurses := true, named := ["charabanc/shift.courses", "charabanc/next.modes", "charabanc/flags.masks", "charabanc/logic.digits", "charabanc/cycle.samples"], apart := false, laid := [("charabanc/cycle.samples", laid_charabanc_cycle_samples), ("charabanc/flags.masks", laid_charabanc_flags_masks), ("charabanc/logic.digits", laid_charabanc_logic_digits), ("charabanc/shift.courses", laid_charabanc_shift_courses), ("charabanc/next.modes", laid_charabanc_next_modes)], narrowed := true }
def CoreStepsUptoSaid : Prop := coreStepsUptoRow.holds Tryz.pinned (OpenSpec.upto coreStepsSpec)

/-- 'charabanclaw18.CoreNmi', WHERE WHAT IT READS IS OF BULK AT MOST 1048576: true; the input reads as it did. -/
def coreNmiUptoRow : OpenClaim := { program := "ytkenebbjodcbcaagreatdoor", sum := "e4a62bf3b9914b7ed7d917476158186a3eddf292eb49b816271304d9e211be48", func := "charabanc/charabanclaw18.CoreNmi", spec := "coreNmi", unfollowed := true, recurses := true, named := ["charabanc/shift.courses", "charabanc/next.modes", "charabanc/flags.masks", "charabanc/logic.digits", "charabanc/cycle.samples"], apart := false, laid := [("charabanc/cycle.samples", laid_charabanc_cycle_samples), ("charabanc/flags.masks", laid_charabanc_flags_masks), ("charabanc/logic.digits", laid_charabanc_logic_digits), ("charabanc/shift.courses", laid_charabanc_shift_courses), ("charabanc/next.modes", laid_charabanc_next_modes)], narrowed := true }
def CoreNmiUptoSaid : Prop := coreNmiUptoRow.holds Tryz.pinned (OpenSpec.upto coreNmiSpec)

/-- 'charabanclaw18.CoreReset', WHERE WHAT IT READS IS OF BULK AT MOST 1048576: true; the input reads as it did. -/
def coreResetUptoRow : OpenClaim := { program := "ytkenebbjodcbcaagreatdoor", sum := "e4a62bf3b9914b7ed7d917476158186a3eddf292eb49b816271304d9e211be48", func := "charabanc/charabanclaw18.CoreReset", spec := "coreReset", unfollowed := true, recurses := true, named := ["charabanc/shift.courses", "charabanc/next.modes", "charabanc/flags.masks", "charabanc/logic.digits", "charabanc/cycle.samples"], apart := false, laid := [("charabanc/cycle.samples", laid_charabanc_cycle_samples), ("charabanc/flags.masks", laid_charabanc_flags_masks), ("charabanc/logic.digits", laid_charabanc_logic_digits), ("charabanc/shift.courses", laid_charabanc_shift_courses), ("charabanc/next.modes", laid_charabanc_next_modes)], narrowed := true }
def CoreResetUptoSaid : Prop := coreResetUptoRow.holds Tryz.pinned (OpenSpec.upto coreResetSpec)

/-- 'charabanclaw18.CoreOff', WHERE WHAT IT READS IS OF BULK AT MOST 1048576: true; the input reads as it did. -/
def coreOffUptoRow : OpenClaim := { program := "ytkenebbjodcbcaagreatdoor", sum := "e4a62bf3b9914b7ed7d917476158186a3eddf292eb49b816271304d9e211be48", func := "charabanc/charabanclaw18.CoreOff", spec := "coreOff", unfollowed := true, recurses := true, named := ["charabanc/shift.courses", "charabanc/next.modes", "charabanc/flags.masks", "charabanc/logic.digits", "charabanc/cycle.samples"], apart := false, laid := [("charabanc/cycle.samples", laid_charabanc_cycle_samples), ("charabanc/flags.masks", laid_charabanc_flags_masks), ("charabanc/logic.digits", laid_charabanc_logic_digits), ("charabanc/shift.courses", laid_charabanc_shift_courses), ("charabanc/next.modes", laid_charabanc_next_modes)], narrowed := true }
def CoreOffUptoSaid : Prop := coreOffUptoRow.holds Tryz.pinned (OpenSpec.upto coreOffSpec)

end Rows
end Go.Proofs.YtkenebbjodcbcaaGreatDoor
