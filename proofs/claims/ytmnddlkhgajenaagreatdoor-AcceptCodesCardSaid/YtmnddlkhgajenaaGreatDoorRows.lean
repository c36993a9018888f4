/-
  NARROWER THAN 'FOR EVERY INPUT', by the rows' own cells (each row's printed sentence says how): AcceptTells: laid · AcceptTakes: laid · AcceptCodes: laid · AcceptShuts: laid · AcceptNone: laid.
  DERIVED. THE GIVEN ROWS OF THIS SEAT. 5 by the template 'for every input the law returns true; each argument reads behind the call as it read before'; 0 by the template 'total and deterministic' (their statements: YtmnddlkhgajenaaGreatDoorTotals.lean).
  GIVEN WITH THE SEED: the statements are not yours to turn. If you find one false, say at which input.
  Laid BY PROGRAM, IN A SANDBOX (cutbox-rows.mjs): the forced cells as the released guide's own fill.sh prints them over the translation b4c41b95c4c662c0… (all of the seat's roots in one cut). By AI agents, Wed Nov 11 2026. No macro, syntax, notation, axiom, sorry.
-/
import Derived.Test.YtmnddlkhgajenaaGreatDoorChecked
import GoSem.Claim
import GoSem.ClaimJoined
import GoSem.ClaimMapViews
import Derived.JoinedTies
import Derived.KernelRfl
namespace Go.Proofs.YtmnddlkhgajenaaGreatDoor
/- THE CELL 'sum', in the pinned program and in every row, IS THE sha256 OF THE DUMP (.gsa) THAT YtmnddlkhgajenaaGreatDoorProg.lean LOADS. Nothing in Lean hashes anything: it is a label: what it is worth is what the hold of that sum in a sandbox is worth. -/
noncomputable def Tryz.pinned : Pinned := { name := "ytmnddlkhgajenaagreatdoor", sum := "b4c41b95c4c662c00dba66e507fd5b440793d9efcc155934c4dbae0a9def425c", checked := Tryz.checked }
namespace Rows
def none {H : Type} : Left H := { results := [], args := [] }

/- WHAT THE LISTED PACKAGE-LEVEL VARIABLES READ AS WHEN THE CALL BEGINS. Each datum BY PROGRAM (the guide's laid-datum.mjs) off the statement by which the dump's own 'gosem.cut.vars' lays the variable. In a bare row this is a premise. The card (YtmnddlkhgajenaaGreatDoorCards.lean) ties it to the program's text. -/
def laid_charabanc_flags_masks {H : Type} : DataW H := .agg [.lit (.int .u8 64), .lit (.int .u8 1), .lit (.int .u8 4), .lit (.int .u8 128)]
def laid_charabanc_logic_digits {H : Type} : DataW H := .agg [.agg [.lit (.int .u8 16), .lit (.int .u8 15), .lit (.int .u8 9), .lit (.int .u8 6)], .agg [.lit (.int .u8 1), .lit (.int .u8 255), .lit (.int .u8 153), .lit (.int .u8 96)]]
def laid_charabanc_shift_courses {H : Type} : DataW H := .agg [.agg [.lit (.int .i64 1), .lit (.int .i64 7), .lit (.int .i64 0)], .agg [.lit (.int .i64 (-1)), .lit (.int .i64 0), .lit (.int .i64 7)]]
def laid_charabanc_next_modes {H : Type} : DataW H := .agg [.lit (.int .i64 0), .lit (.int .i64 0), .lit (.int .i64 1), .lit (.int .i64 2)]

/-- 'charabanclaw13.AcceptTells': WHATEVER THE INPUT: true; the input reads as it did. -/
def acceptTellsSpec : ChangeSpec := { name := "acceptTells", fn := fun _ => fun
  | [d1, d2, d3] => { results := [.lit (.bool true)], args := [d1, d2, d3] }
  | _ => none }
def acceptTellsRow : OpenClaim := { program := "ytmnddlkhgajenaagreatdoor", sum := "b4c41b95c4c662c00dba66e507fd5b440793d9efcc155934c4dbae0a9def425c", func := "charabanc/charabanclaw13.AcceptTells", spec := "acceptTells", unfollowed := true, recurses := true, named := ["charabanc/shift.courses", "charabanc/next.modes", "charabanc/flags.masks", "charabanc/logic.digits"], apart := false, laid := [("charabanc/flags.masks", laid_charabanc_flags_masks), ("charabanc/logic.digits", laid_charabanc_logic_digits), ("charabanc/shift.courses", laid_charabanc_shift_courses), ("charabanc/next.modes", laid_charabanc_next_modes)] }
def AcceptTellsSaid : Prop := acceptTellsRow.holds Tryz.pinned (OpenSpec.ofChange acceptTellsSpec)

/-- ITS FALSE NEIGHBOUR: 'it returns false'. Refute it at one input. -/
def acceptTellsWrong : ChangeSpec := { name := "acceptTells", fn := fun _ => fun
  | [d1, d2, d3] => { results := [.lit (.bool false)], args := [d1, d2, d3] }
  | _ => none }
def AcceptTellsWrongFalsely : Prop := acceptTellsRow.holds Tryz.pinned (OpenSpec.ofChange acceptTellsWrong)

/-- 'charabanclaw13.AcceptTakes': WHATEVER THE INPUT: true; the input reads as it did. -/
def acceptTakesSpec : ChangeSpec := { name := "acceptTakes", fn := fun _ => fun
  | [d1, d2, d3] => { results := [.lit (.bool true)], args := [d1, d2, d3] }
  | _ => none }
def acceptTakesRow : OpenClaim := { program := "ytmnddlkhgajenaagreatdoor", sum := "b4c41b95c4c662c00dba66e507fd5b440793d9efcc155934c4dbae0a9def425c", func := "charabanc/charabanclaw13.AcceptTakes", spec := "acceptTakes", unfollowed := true, recurses := true, named := ["charabanc/shift.courses", "charabanc/next.modes", "charabanc/flags.masks", "charabanc/logic.digits"], apart := false, laid := [("charabanc/flags.masks", laid_charabanc_flags_masks), ("charabanc/logic.digits", laid_charabanc_logic_digits), ("charabanc/shift.courses", laid_charabanc_shift_courses), ("charabanc/next.modes", laid_charabanc_next_modes)] }
def AcceptTakesSaid : Prop := acceptTakesRow.holds Tryz.pinned (OpenSpec.ofChange acceptTakesSpec)

/-- ITS FALSE NEIGHBOUR: 'it returns false'. Refute it at one input. -/
def acceptTakesWrong : ChangeSpec := { name := "acceptTakes", fn := fun _ => fun
  | [d1, d2, d3] => { results := [.lit (.bool false)], args := [d1, d2, d3] }
  | _ => none }
def AcceptTakesWrongFalsely : Prop := acceptTakesRow.holds Tryz.pinned (OpenSpec.ofChange acceptTakesWrong)

/-- 'charabanclaw13.AcceptCodes': WHATEVER THE INPUT: true; the input reads as it did. -/
def acceptCodesSpec : ChangeSpec := { name := "acceptCodes", fn := fun _ => fun
  | [d1, d2, d3] => { results := [.lit (.bool true)], args := [d1, d2, d3] }
  | _ => none }
def acceptCodesRow : OpenClaim := { program := "ytmnddlkhgajenaagreatdoor", sum := "b4c41b95c4c662c00dba66e507fd5b440793d9efcc155934c4dbae0a9def425c", func := "charabanc/charabanclaw13.AcceptCodes", spec := "acceptCodes", unfollowed := true, recurses := true, named := ["charabanc/shift.courses", "charabanc/next.modes", "charabanc/flags.masks", "charabanc/logic.digits"], apart := false, laid := [("charabanc/flags.masks", laid_charabanc_flags_masks), ("charabanc/logic.digits", laid_charabanc_logic_digits), ("charabanc/shift.courses", laid_charabanc_shift_courses), ("charabanc/next.modes", laid_charabanc_next_modes)] }
def AcceptCodesSaid : Prop := acceptCodesRow.holds Tryz.pinned (OpenSpec.ofChange acceptCodesSpec)

/-- ITS FALSE NEIGHBOUR: 'it returns false'. Refute it at one input. -/
def acceptCodesWrong : ChangeSpec := { name := "acceptCodes", fn := fun _ => fun
  | [d1, d2, d3] => { results := [.lit (.bool false)], args := [d1, d2, d3] }
  | _ => none }
def AcceptCodesWrongFalsely : Prop := acceptCodesRow.holds Tryz.pinned (OpenSpec.ofChange acceptCodesWrong)

/-- 'charabanclaw13.AcceptShuts': WHATEVER THE INPUT: true; the input reads as it did. -/
def acceptShutsSpec : ChangeSpec := { name := "acceptShuts", fn := fun _ => fun
  | [d1, d2, d3] => { results := [.lit (.bool true)], args := [d1, d2, d3] }
  | _ => none }
def acceptShutsRow : OpenClaim := { program := "ytmnddlkhgajenaagreatdoor", sum := "b4c41b95c4c662c00dba66e507fd5b440793d9efcc155934c4dbae0a9def425c", func := "charabanc/charabanclaw13.AcceptShuts", spec := "acceptShuts", unfollowed := true, recurses := true, named := ["charabanc/shift.courses", "charabanc/next.modes", "charabanc/flags.masks", "charabanc/logic.digits"], apart := false, laid := [("charabanc/flags.masks", laid_charabanc_flags_masks), ("charabanc/logic.digits", laid_charabanc_logic_digits), ("charabanc/shift.courses", laid_charabanc_shift_courses), ("charabanc/next.modes", laid_charabanc_next_modes)] }
def AcceptShutsSaid : Prop := acceptShutsRow.holds Tryz.pinned (OpenSpec.ofChange acceptShutsSpec)

/-- ITS FALSE NEIGHBOUR: 'it returns false'. Refute it at one input. -/
def acceptShutsWrong : ChangeSpec := { name := "acceptShuts", fn := fun _ => fun
  | [d1, d2, d3] => { results := [.lit (.bool false)], args := [d1, d2, d3] }
  | _ => none }
def AcceptShutsWrongFalsely : Prop := acceptShutsRow.holds Tryz.pinned (OpenSpec.ofChange acceptShutsWrong)

/-- 'charabanclaw13.AcceptNone': WHATEVER THE INPUT: true; the input reads as it did. -/
def acceptNoneSpec : ChangeSpec := { name := "acceptNone", fn := fun _ => fun
  | [d1, d2, d3] => { results := [.lit (.bool true)], args := [d1, d2, d3] }
  | _ => none }
def acceptNoneRow : OpenClaim := { program := "ytmnddlkhgajenaagreatdoor", sum := "b4c41b95c4c662c00dba66e507fd5b440793d9efcc155934c4dbae0a9def425c", func := "charabanc/charabanclaw13.AcceptNone", spec := "acceptNone", unfollowed := true, recurses := true, named := ["charabanc/shift.courses", "charabanc/next.modes", "charabanc/flags.masks", "charabanc/logic.digits"], apart := false, laid := [("charabanc/flags.masks", laid_charabanc_flags_masks), ("charabanc/logic.digits", laid_charabanc_logic_digits), ("charabanc/shift.courses", laid_charabanc_shift_courses), ("charabanc/next.modes", laid_charabanc_next_modes)] }
def AcceptNoneSaid : Prop := acceptNoneRow.holds Tryz.pinned (OpenSpec.ofChange acceptNoneSpec)

/-- ITS FALSE NEIGHBOUR: 'it returns false'. Refute it at one input. -/
def acceptNoneWrong : ChangeSpec := { name := "acceptNone", fn := fun _ => fun
  | [d1, d2, d3] => { results := [.lit (.bool false)], args := [d1, d2, d3] }
  | _ => none }
def AcceptNoneWrongFalsely : Prop := acceptNoneRow.holds Tryz.pinned (OpenSpec.ofChange acceptNoneWrong)

/- THE SECOND FORM. 'bulk': how many values and letters a reading holds, each counted each time it is reached (what is shared counts as often as it is met; a slice's spare places count too). A statement '..UptoSaid' is the law's where the arguments, and the package variables that the reading takes, are together of bulk at most 1048576: NARROWER than '..Said'. Prove '..Said' where nothing that the law and all that it calls make is longer than what came in: it says more and counts as full. Else prove '..UptoSaid'. A law counts once. -/
mutual
def uptoBulk {H : Type} : DataW H → Nat
  | .lit (.string bytes) => bytes.length + 1
  | .lit _ => 1
  | .nil => 1
  | .ptr d => uptoBulk d + 1
  | .slice elems spare => uptoBulkAll elems + uptoBulkAll spare + 1
  | .agg parts => uptoBulkAll parts + 1
  | .iface _ d => uptoBulk d + 1
  | .map entries => uptoBulkEntries entries + 1
  | .held _ => 1
def uptoBulkAll {H : Type} : List (DataW H) → Nat
  | [] => 0
  | d :: r => uptoBulk d + uptoBulkAll r
def uptoBulkEntries {H : Type} : List (Lit × DataW H) → Nat
  | [] => 0
  | x :: r => uptoBulkEntry x + uptoBulkEntries r
def uptoBulkEntry {H : Type} : Lit × DataW H → Nat
  | (.string bytes, d) => bytes.length + uptoBulk d + 1
  | (_, d) => uptoBulk d + 1
 end
def uptoSmall : (H : Type) → List (DataW H) → Bool := fun _ ds => decide (uptoBulkAll ds ≤ 1048576)
def OpenSpec.upto (s : _root_.Go.ChangeSpec) : _root_.Go.OpenSpec := { _root_.Go.OpenSpec.ofChange s with cond := some uptoSmall }

/-- 'charabanclaw13.AcceptTells', WHERE WHAT IT READS IS OF BULK AT MOST 1048576: true; the input reads as it did. -/
def acceptTellsUptoRow : OpenClaim := { program := "ytmnddlkhgajenaagreatdoor", sum := "b4c41b95c4c662c00dba66e507fd5b440793d9efcc155934c4dbae0a9def425c", func := "charabanc/charabanclaw13.AcceptTells", spec := "acceptTells", unfollowed := true, recurses := true, named := ["charabanc/shift.courses", "charabanc/next.modes", "charabanc/flags.masks", "charabanc/logic.digits"], apart := false, laid := [("charabanc/flags.masks", laid_charabanc_flags_masks), ("charabanc/logic.digits", laid_charabanc_logic_digits), ("charabanc/shift.courses", laid_charabanc_shift_courses), ("charabanc/next.modes", laid_charabanc_next_modes)], narrowed := true }
def AcceptTellsUptoSaid : Prop := acceptTellsUptoRow.holds Tryz.pinned (OpenSpec.upto acceptTellsSpec)

/-- 'charabanclaw13.AcceptTakes', WHERE WHAT IT READS IS OF BULK AT MOST 1048576: true; the input reads as it did. -/
def acceptTakesUptoRow : OpenClaim := { program := "ytmnddlkhgajenaagreatdoor", sum := "b4c41b95c4c662c00dba66e507fd5b440793d9efcc155934c4dbae0a9def425c", func := "charabanc/charabanclaw13.AcceptTakes", spec := "acceptTakes", unfollowed := true, recurses := true, named := ["charabanc/shift.courses", "charabanc/next.modes", "charabanc/flags.masks", "charabanc/logic.digits"], apart := false, laid := [("charabanc/flags.masks", laid_charabanc_flags_masks), ("charabanc/logic.digits", laid_charabanc_logic_digits), ("charabanc/shift.courses", laid_charabanc_shift_courses), ("charabanc/next.modes", laid_charabanc_next_modes)], narrowed := true }
def AcceptTakesUptoSaid : Prop := acceptTakesUptoRow.holds Tryz.pinned (OpenSpec.upto acceptTakesSpec)

/-- 'charabanclaw13.AcceptCodes', WHERE WHAT IT READS IS OF BULK AT MOST 1048576: true; the input reads as it did. -/
def acceptCodesUptoRow : OpenClaim := { program := "ytmnddlkhgajenaagreatdoor", sum := "b4c41b95c4c662c00dba66e507fd5b440793d9efcc155934c4dbae0a9def425c", func := "charabanc/charabanclaw13.AcceptCodes", spec := "acceptCodes", unfollowed := true, recurses := true, named := ["charabanc/shift.courses", "charabanc/next.modes", "charabanc/flags.masks", "charabanc/logic.digits"], apart := false, laid := [("charabanc/flags.masks", laid_charabanc_flags_masks), ("charabanc/logic.digits", laid_charabanc_logic_digits), ("charabanc/shift.courses", laid_charabanc_shift_courses), ("charabanc/next.modes", laid_charabanc_next_modes)], narrowed := true }
def AcceptCodesUptoSaid : Prop := acceptCodesUptoRow.holds Tryz.pinned (OpenSpec.upto acceptCodesSpec)

/-- 'charabanclaw13.AcceptShuts', WHERE WHAT IT READS IS OF BULK AT MOST 1048576: true; the input reads as it did. -/
def acceptShutsUptoRow : OpenClaim := { program := "ytmnddlkhgajenaagreatdoor", sum := "b4c41b95c4c662c00dba66e507fd5b440793d9efcc155934c4dbae0a9def425c", func := "charabanc/charabanclaw13.AcceptShuts", spec := "acceptShuts", unfollowed := true, recurses := true, named := ["charabanc/shift.courses", "charabanc/next.modes", "charabanc/flags.masks", "charabanc/logic.digits"], apart := false, laid := [("charabanc/flags.masks", laid_charabanc_flags_masks), ("charabanc/logic.digits", laid_charabanc_logic_digits), ("charabanc/shift.courses", laid_charabanc_shift_courses), ("charabanc/next.modes", laid_charabanc_next_modes)], narrowed := true }
def AcceptShutsUptoSaid : Prop := acceptShutsUptoRow.holds Tryz.pinned (OpenSpec.upto acceptShutsSpec)

/-- 'charabanclaw13.AcceptNone', WHERE WHAT IT READS IS OF BULK AT MOST 1048576: true; the input reads as it did. -/
def acceptNoneUptoRow : OpenClaim := { program := "ytmnddlkhgajenaagreatdoor", sum := "b4c41b95c4c662c00dba66e507fd5b440793d9efcc155934c4dbae0a9def425c", func := "charabanc/charabanclaw13.AcceptNone", spec := "acceptNone", unfollowed := true, recurses := true, named := ["charabanc/shift.courses", "charabanc/next.modes", "charabanc/flags.masks", "charabanc/logic.digits"], apart := false, laid := [("charabanc/flags.masks", laid_charabanc_flags_masks), ("charabanc/logic.digits", laid_charabanc_logic_digits), ("charabanc/shift.courses", laid_charabanc_shift_courses), ("charabanc/next.modes", laid_charabanc_next_modes)], narrowed := true }
def AcceptNoneUptoSaid : Prop := acceptNoneUptoRow.holds Tryz.pinned (OpenSpec.upto acceptNoneSpec)

end Rows
end Go.Proofs.YtmnddlkhgajenaaGreatDoor
