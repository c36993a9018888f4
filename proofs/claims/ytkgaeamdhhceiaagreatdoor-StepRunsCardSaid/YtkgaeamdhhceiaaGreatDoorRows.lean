/-
  NARROWER THAN 'FOR EVERY INPUT', by the rows' own cells (each row's printed sentence says how): StepTells: laid · StepRuns: laid · StepParts: laid · StepWrites: laid.
  DERIVED. THE GIVEN ROWS OF THIS SEAT. 4 by the template 'for every input the law returns true; each argument reads behind the call as it read before'; 0 by the template 'total and deterministic' (their statements: YtkgaeamdhhceiaaGreatDoorTotals.lean).
  GIVEN WITH THE SEED: the statements are not yours to turn. If you find one false, say at which input.
  Laid BY PROGRAM, IN A SANDBOX (cutbox-rows.mjs): the forced cells as the released guide's own fill.sh prints them over the translation f53c46a986c54f26… (all of the seat's roots in one cut). By AI agents, Wed Nov 11 2026. No macro, syntax, notation, axiom, sorry.
-/
import Derived.Test.YtkgaeamdhhceiaaGreatDoorChecked
import GoSem.Claim
import GoSem.ClaimJoined
import GoSem.ClaimMapViews
import Derived.JoinedTies
import Derived.KernelRfl
namespace Go.Proofs.YtkgaeamdhhceiaaGreatDoor
/- THE CELL 'sum', in the pinned program and in every row, IS THE sha256 OF THE DUMP (.gsa) THAT YtkgaeamdhhceiaaGreatDoorProg.lean LOADS. Nothing in Lean hashes anything: it is a label: what it is worth is what the hold of that sum in a sandbox is worth. -/
noncomputable def Tryz.pinned : Pinned := { name := "ytkgaeamdhhceiaagreatdoor", sum := "f53c46a986c54f2613f9cb6d88c006e8c7aaf7ad80ac0c768923cbd7ea9e98c6", checked := Tryz.checked }
namespace Rows
def none {H : Type} : Left H := { results := [], args := [] }

/- WHAT THE LISTED PACKAGE-LEVEL VARIABLES READ AS WHEN THE CALL BEGINS. Each datum BY PROGRAM (the guide's laid-datum.mjs) off the statement by which the dump's own 'gosem.cut.vars' lays the variable. In a bare row this is a premise. The card (YtkgaeamdhhceiaaGreatDoorCards.lean) ties it to the program's text. -/
def laid_charabanc_flags_masks {H : Type} : DataW H := .agg [.lit (.int .u8 64), .lit (.int .u8 1), .lit (.int .u8 4), .lit (.int .u8 128)]
def laid_charabanc_logic_digits {H : Type} : DataW H := .agg [.agg [.lit (.int .u8 16), .lit (.int .u8 15), .lit (.int .u8 9), .lit (.int .u8 6)], .agg [.lit (.int .u8 1), .lit (.int .u8 255), .lit (.int .u8 153), .lit (.int .u8 96)]]
def laid_charabanc_shift_courses {H : Type} : DataW H := .agg [.agg [.lit (.int .i64 1), .lit (.int .i64 7), .lit (.int .i64 0)], .agg [.lit (.int .i64 (-1)), .lit (.int .i64 0), .lit (.int .i64 7)]]
def laid_charabanc_next_modes {H : Type} : DataW H := .agg [.lit (.int .i64 0), .lit (.int .i64 0), .lit (.int .i64 1), .lit (.int .i64 2)]

/-- 'charabanclaw15.StepTells': WHATEVER THE INPUT: true; the input reads as it did. -/
def stepTellsSpec : ChangeSpec := { name := "stepTells", fn := fun _ => fun
  | [d1, d2, d3] => { results := [.lit (.bool true)], args := [d1, d2, d3] }
  | _ => none }
def stepTellsRow : OpenClaim := { program := "ytkgaeamdhhceiaagreatdoor", sum := "f53c46a986c54f2613f9cb6d88c006e8c7aaf7ad80ac0c768923cbd7ea9e98c6", func := "charabanc/charabanclaw15.StepTells", spec := "stepTells", unfollowed := true, recurses := true, named := ["charabanc/shift.courses", "charabanc/next.modes", "charabanc/flags.masks", "charabanc/logic.digits"], apart := false, laid := [("charabanc/flags.masks", laid_charabanc_flags_masks), ("charabanc/logic.digits", laid_charabanc_logic_digits), ("charabanc/shift.courses", laid_charabanc_shift_courses), ("charabanc/next.modes", laid_charabanc_next_modes)] }
def StepTellsSaid : Prop := stepTellsRow.holds Tryz.pinned (OpenSpec.ofChange stepTellsSpec)

/-- ITS FALSE NEIGHBOUR: 'it returns false'. Refute it at one input. -/
def stepTellsWrong : ChangeSpec := { name := "stepTells", fn := fun _ => fun
  | [d1, d2, d3] => { results := [.lit (.bool false)], args := [d1, d2, d3] }
  | _ => none }
def StepTellsWrongFalsely : Prop := stepTellsRow.holds Tryz.pinned (OpenSpec.ofChange stepTellsWrong)

/-- 'charabanclaw15.StepRuns': WHATEVER THE INPUT: true; the input reads as it did. -/
def stepRunsSpec : ChangeSpec := { name := "stepRuns", fn := fun _ => fun
  | [d1, d2, d3] => { results := [.lit (.bool true)], args := [d1, d2, d3] }
  | _ => none }
def stepRunsRow : OpenClaim := { program := "ytkgaeamdhhceiaagreatdoor", sum := "f53c46a986c54f2613f9cb6d88c006e8c7aaf7ad80ac0c768923cbd7ea9e98c6", func := "charabanc/charabanclaw15.StepRuns", spec := "stepRuns", unfollowed := true, recurses := true, named := ["charabanc/shift.courses", "charabanc/next.modes", "charabanc/flags.masks", "charabanc/logic.digits"], apart := false, laid := [("charabanc/flags.masks", laid_charabanc_flags_masks), ("charabanc/logic.digits", laid_charabanc_logic_digits), ("charabanc/shift.courses", laid_charabanc_shift_courses), ("charabanc/next.modes", laid_charabanc_next_modes)] }
def StepRunsSaid : Prop := stepRunsRow.holds Tryz.pinned (OpenSpec.ofChange stepRunsSpec)

/-- ITS FALSE NEIGHBOUR: 'it returns false'. Refute it at one input. -/
def stepRunsWrong : ChangeSpec := { name := "stepRuns", fn := fun _ => fun
  | [d1, d2, d3] => { results := [.lit (.bool false)], args := [d1, d2, d3] }
  | _ => none }
def StepRunsWrongFalsely : Prop := stepRunsRow.holds Tryz.pinned (OpenSpec.ofChange stepRunsWrong)

/-- 'charabanclaw15.StepParts': WHATEVER THE INPUT: true; the input reads as it did. -/
def stepPartsSpec : ChangeSpec := { name := "stepParts", fn := fun _ => fun
  | [d1, d2, d3] => { results := [.lit (.bool true)], args := [d1, d2, d3] }
  | _ => none }
def stepPartsRow : OpenClaim := { program := "ytkgaeamdhhceiaagreatdoor", sum := "f53c46a986c54f2613f9cb6d88c006e8c7aaf7ad80ac0c768923cbd7ea9e98c6", func := "charabanc/charabanclaw15.StepParts", spec := "stepParts", unfollowed := true, recurses := true, named := ["charabanc/shift.courses", "charabanc/next.modes", "charabanc/flags.masks", "charabanc/logic.digits"], apart := false, laid := [("charabanc/flags.masks", laid_charabanc_flags_masks), ("charabanc/logic.digits", laid_charabanc_logic_digits), ("charabanc/shift.courses", laid_charabanc_shift_courses), ("charabanc/next.modes", laid_charabanc_next_modes)] }
def StepPartsSaid : Prop := stepPartsRow.holds Tryz.pinned (OpenSpec.ofChange stepPartsSpec)

/-- ITS FALSE NEIGHBOUR: 'it returns false'. Refute it at one input. -/
def stepPartsWrong : ChangeSpec := { name := "stepParts", fn := fun _ => fun
  | [d1, d2, d3] => { results := [.lit (.bool false)], args := [d1, d2, d3] }
  | _ => none }
def StepPartsWrongFalsely : Prop := stepPartsRow.holds Tryz.pinned (OpenSpec.ofChange stepPartsWrong)

/-- 'charabanclaw15.StepWrites': WHATEVER THE INPUT: true; the input reads as it did. -/
def stepWritesSpec : ChangeSpec := { name := "stepWrites", fn := fun _ => fun
  | [d1, d2, d3] => { results := [.lit (.bool true)], args := [d1, d2, d3] }
  | _ => none }
def stepWritesRow : OpenClaim := { program := "ytkgaeamdhhceiaagreatdoor", sum := "f53c46a986c54f2613f9cb6d88c006e8c7aaf7ad80ac0c768923cbd7ea9e98c6", func := "charabanc/charabanclaw15.StepWrites", spec := "stepWrites", unfollowed := true, recurses := true, named := ["charabanc/shift.courses", "charabanc/next.modes", "charabanc/flags.masks", "charabanc/logic.digits"], apart := false, laid := [("charabanc/flags.masks", laid_charabanc_flags_masks), ("charabanc/logic.digits", laid_charabanc_logic_digits), ("charabanc/shift.courses", laid_charabanc_shift_courses), ("charabanc/next.modes", laid_charabanc_next_modes)] }
def StepWritesSaid : Prop := stepWritesRow.holds Tryz.pinned (OpenSpec.ofChange stepWritesSpec)

/-- ITS FALSE NEIGHBOUR: 'it returns false'. Refute it at one input. -/
def stepWritesWrong : ChangeSpec := { name := "stepWrites", fn := fun _ => fun
  | [d1, d2, d3] => { results := [.lit (.bool false)], args := [d1, d2, d3] }
  | _ => none }
def StepWritesWrongFalsely : Prop := stepWritesRow.holds Tryz.pinned (OpenSpec.ofChange stepWritesWrong)

/- THE SECOND FORM. 'bulk': how many values and letters a reading holds, each counted each time it is reached (what is shared counts as often as it is met; a slice's spare places count too). A statement '..UptoSaid' is the law's where the arguments, and the package variables that the reading takes, are together of bulk at most 1048576: NARROWER than '..Said'. Prove '..Said' where nothing that the law and all that it calls make is longer than what came in: it says more and counts as full. Else prove '..UptoSaid'. A law counts once. -/
mutual
def uptoBulk {H : Type} : DataW H → Nat
  | .lit (.string bytes) => bytes.length + 1
  | .lit _ => 1
  | .nil => 1
  | .ptr d => uptoBulk d + 1
  | .slice elems spare => uptoBulkAll elems + uptoBulkAll spare + 1
  | .agg parts => uptoBulkAll parts + 1
  | .iface _ d => uptoBulk d + 1
  | .map entries => uptoBulkEntries entries + 1
  | .held _ => 1
def uptoBulkAll {H : Type} : List (DataW H) → Nat
  | [] => 0
  | d :: r => uptoBulk d + uptoBulkAll r
def uptoBulkEntries {H : Type} : List (Lit × DataW H) → Nat
  | [] => 0
  | x :: r => uptoBulkEntry x + uptoBulkEntries r
def uptoBulkEntry {H : Type} : Lit × DataW H → Nat
  | (.string bytes, d) => bytes.length + uptoBulk d + 1
  | (_, d) => uptoBulk d + 1
 end
def uptoSmall : (H : Type) → List (DataW H) → Bool := fun _ ds => decide (uptoBulkAll ds ≤ 1048576)
def OpenSpec.upto (s : _root_.Go.ChangeSpec) : _root_.Go.OpenSpec := { _root_.Go.OpenSpec.ofChange s with cond := some uptoSmall }

/-- 'charabanclaw15.StepTells', WHERE WHAT IT READS IS OF BULK AT MOST 1048576: true; the input reads as it did. -/
def stepTellsUptoRow : OpenClaim := { program := "ytkgaeamdhhceiaagreatdoor", sum := "f53c46a986c54f2613f9cb6d88c006e8c7aaf7ad80ac0c768923cbd7ea9e98c6", func := "charabanc/charabanclaw15.StepTells", spec := "stepTells", unfollowed := true, recurses := true, named := ["charabanc/shift.courses", "charabanc/next.modes", "charabanc/flags.masks", "charabanc/logic.digits"], apart := false, laid := [("charabanc/flags.masks", laid_charabanc_flags_masks), ("charabanc/logic.digits", laid_charabanc_logic_digits), ("charabanc/shift.courses", laid_charabanc_shift_courses), ("charabanc/next.modes", laid_charabanc_next_modes)], narrowed := true }
def StepTellsUptoSaid : Prop := stepTellsUptoRow.holds Tryz.pinned (OpenSpec.upto stepTellsSpec)

/-- 'charabanclaw15.StepRuns', WHERE WHAT IT READS IS OF BULK AT MOST 1048576: true; the input reads as it did. -/
def stepRunsUptoRow : OpenClaim := { program := "ytkgaeamdhhceiaagreatdoor", sum := "f53c46a986c54f2613f9cb6d88c006e8c7aaf7ad80ac0c768923cbd7ea9e98c6", func := "charabanc/charabanclaw15.StepRuns", spec := "stepRuns", unfollowed := true, recurses := true, named := ["charabanc/shift.courses", "charabanc/next.modes", "charabanc/flags.masks", "charabanc/logic.digits"], apart := false, laid := [("charabanc/flags.masks", laid_charabanc_flags_masks), ("charabanc/logic.digits", laid_charabanc_logic_digits), ("charabanc/shift.courses", laid_charabanc_shift_courses), ("charabanc/next.modes", laid_charabanc_next_modes)], narrowed := true }
def StepRunsUptoSaid : Prop := stepRunsUptoRow.holds Tryz.pinned (OpenSpec.upto stepRunsSpec)

/-- 'charabanclaw15.StepParts', WHERE WHAT IT READS IS OF BULK AT MOST 1048576: true; the input reads as it did. -/
def stepPartsUptoRow : OpenClaim := { program := "ytkgaeamdhhceiaagreatdoor", sum := "f53c46a986c54f2613f9cb6d88c006e8c7aaf7ad80ac0c768923cbd7ea9e98c6", func := "charabanc/charabanclaw15.StepParts", spec := "stepParts", unfollowed := true, recurses := true, named := ["charabanc/shift.courses", "charabanc/next.modes", "charabanc/flags.masks", "charabanc/logic.digits"], apart := false, laid := [("charabanc/flags.masks", laid_charabanc_flags_masks), ("charabanc/logic.digits", laid_charabanc_logic_digits), ("charabanc/shift.courses", laid_charabanc_shift_courses), ("charabanc/next.modes", laid_charabanc_next_modes)], narrowed := true }
def StepPartsUptoSaid : Prop := stepPartsUptoRow.holds Tryz.pinned (OpenSpec.upto stepPartsSpec)

/-- 'charabanclaw15.StepWrites', WHERE WHAT IT READS IS OF BULK AT MOST 1048576: true; the input reads as it did. -/
def stepWritesUptoRow : OpenClaim := { program := "ytkgaeamdhhceiaagreatdoor", sum := "f53c46a986c54f2613f9cb6d88c006e8c7aaf7ad80ac0c768923cbd7ea9e98c6", func := "charabanc/charabanclaw15.StepWrites", spec := "stepWrites", unfollowed := true, recurses := true, named := ["charabanc/shift.courses", "charabanc/next.modes", "charabanc/flags.masks", "charabanc/logic.digits"], apart := false, laid := [("charabanc/flags.masks", laid_charabanc_flags_masks), ("charabanc/logic.digits", laid_charabanc_logic_digits), ("charabanc/shift.courses", laid_charabanc_shift_courses), ("charabanc/next.modes", laid_charabanc_next_modes)], narrowed := true }
def StepWritesUptoSaid : Prop := stepWritesUptoRow.holds Tryz.pinned (OpenSpec.upto stepWritesSpec)

end Rows
end Go.Proofs.YtkgaeamdhhceiaaGreatDoor
