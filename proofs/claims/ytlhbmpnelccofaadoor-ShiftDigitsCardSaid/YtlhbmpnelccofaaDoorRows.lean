/-
  NARROWER THAN 'FOR EVERY INPUT', by the rows' own cells (each row's printed sentence says how): ShiftDoes: laid · ShiftDigits: laid · ShiftBack: laid · ShiftRound: laid.
  DERIVED. THE GIVEN ROWS OF THIS SEAT. 4 by the template 'for every input the law returns true; each argument reads behind the call as it read before'; 0 by the template 'total and deterministic' (their statements: YtlhbmpnelccofaaDoorTotals.lean).
  GIVEN WITH THE SEED: the statements are not yours to turn. If you find one false, say at which input.
  Laid BY PROGRAM, IN A SANDBOX (cutbox-rows.mjs): the forced cells as the released guide's own fill.sh prints them over the translation 77f4d32e26652e85… (all of the seat's roots in one cut). By AI agents, Wed Nov 11 2026. No macro, syntax, notation, axiom, sorry.
-/
import Derived.Test.YtlhbmpnelccofaaDoorChecked
import GoSem.Claim
import GoSem.ClaimJoined
import GoSem.ClaimMapViews
import Derived.JoinedTies
import Derived.KernelRfl
namespace Go.Proofs.YtlhbmpnelccofaaDoor
/- THE CELL 'sum', in the pinned program and in every row, IS THE sha256 OF THE DUMP (.gsa) THAT YtlhbmpnelccofaaDoorProg.lean LOADS. Nothing in Lean hashes anything: it is a label: what it is worth is what the hold of that sum in a sandbox is worth. -/
noncomputable def Tryd.pinned : Pinned := { name := "ytlhbmpnelccofaadoor", sum := "77f4d32e26652e85f58f11a3ea9f2a310502b33e4b417acc7dff866cadcbcee4", checked := Tryd.checked }
namespace Rows
def none {H : Type} : Left H := { results := [], args := [] }

/- WHAT THE LISTED PACKAGE-LEVEL VARIABLES READ AS WHEN THE CALL BEGINS. Each datum BY PROGRAM (the guide's laid-datum.mjs) off the statement by which the dump's own 'gosem.cut.vars' lays the variable. In a bare row this is a premise. The card (YtlhbmpnelccofaaDoorCards.lean) ties it to the program's text. -/
def laid_charabanc_shift_courses {H : Type} : DataW H := .agg [.agg [.lit (.int .i64 1), .lit (.int .i64 7), .lit (.int .i64 0)], .agg [.lit (.int .i64 (-1)), .lit (.int .i64 0), .lit (.int .i64 7)]]

/-- 'charabanclaw06.ShiftDoes': WHATEVER THE INPUT: true; the input reads as it did. -/
def shiftDoesSpec : ChangeSpec := { name := "shiftDoes", fn := fun _ => fun
  | [d1, d2, d3] => { results := [.lit (.bool true)], args := [d1, d2, d3] }
  | _ => none }
def shiftDoesRow : OpenClaim := { program := "ytlhbmpnelccofaadoor", sum := "77f4d32e26652e85f58f11a3ea9f2a310502b33e4b417acc7dff866cadcbcee4", func := "charabanc/charabanclaw06.ShiftDoes", spec := "shiftDoes", unfollowed := true, recurses := true, named := ["charabanc/shift.courses"], apart := false, laid := [("charabanc/shift.courses", laid_charabanc_shift_courses)] }
def ShiftDoesSaid : Prop := shiftDoesRow.holds Tryd.pinned (OpenSpec.ofChange shiftDoesSpec)

/-- ITS FALSE NEIGHBOUR: 'it returns false'. Refute it at one input. -/
def shiftDoesWrong : ChangeSpec := { name := "shiftDoes", fn := fun _ => fun
  | [d1, d2, d3] => { results := [.lit (.bool false)], args := [d1, d2, d3] }
  | _ => none }
def ShiftDoesWrongFalsely : Prop := shiftDoesRow.holds Tryd.pinned (OpenSpec.ofChange shiftDoesWrong)

/-- 'charabanclaw06.ShiftDigits': WHATEVER THE INPUT: true; the input reads as it did. -/
def shiftDigitsSpec : ChangeSpec := { name := "shiftDigits", fn := fun _ => fun
  | [d1, d2, d3] => { results := [.lit (.bool true)], args := [d1, d2, d3] }
  | _ => none }
def shiftDigitsRow : OpenClaim := { program := "ytlhbmpnelccofaadoor", sum := "77f4d32e26652e85f58f11a3ea9f2a310502b33e4b417acc7dff866cadcbcee4", func := "charabanc/charabanclaw06.ShiftDigits", spec := "shiftDigits", unfollowed := true, recurses := true, named := ["charabanc/shift.courses"], apart := false, laid := [("charabanc/shift.courses", laid_charabanc_shift_courses)] }
def ShiftDigitsSaid : Prop := shiftDigitsRow.holds Tryd.pinned (OpenSpec.ofChange shiftDigitsSpec)

/-- ITS FALSE NEIGHBOUR: 'it returns false'. Refute it at one input. -/
def shiftDigitsWrong : ChangeSpec := { name := "shiftDigits", fn := fun _ => fun
  | [d1, d2, d3] => { results := [.lit (.bool false)], args := [d1, d2, d3] }
  | _ => none }
def ShiftDigitsWrongFalsely : Prop := shiftDigitsRow.holds Tryd.pinned (OpenSpec.ofChange shiftDigitsWrong)

/-- 'charabanclaw06.ShiftBack': WHATEVER THE INPUT: true; the input reads as it did. -/
def shiftBackSpec : ChangeSpec := { name := "shiftBack", fn := fun _ => fun
  | [d1, d2, d3] => { results := [.lit (.bool true)], args := [d1, d2, d3] }
  | _ => none }
def shiftBackRow : OpenClaim := { program := "ytlhbmpnelccofaadoor", sum := "77f4d32e26652e85f58f11a3ea9f2a310502b33e4b417acc7dff866cadcbcee4", func := "charabanc/charabanclaw06.ShiftBack", spec := "shiftBack", unfollowed := true, recurses := true, named := ["charabanc/shift.courses"], apart := false, laid := [("charabanc/shift.courses", laid_charabanc_shift_courses)] }
def ShiftBackSaid : Prop := shiftBackRow.holds Tryd.pinned (OpenSpec.ofChange shiftBackSpec)

/-- ITS FALSE NEIGHBOUR: 'it returns false'. Refute it at one input. -/
def shiftBackWrong : ChangeSpec := { name := "shiftBack", fn := fun _ => fun
  | [d1, d2, d3] => { results := [.lit (.bool false)], args := [d1, d2, d3] }
  | _ => none }
def ShiftBackWrongFalsely : Prop := shiftBackRow.holds Tryd.pinned (OpenSpec.ofChange shiftBackWrong)

/-- 'charabanclaw06.ShiftRound': WHATEVER THE INPUT: true; the input reads as it did. -/
def shiftRoundSpec : ChangeSpec := { name := "shiftRound", fn := fun _ => fun
  | [d1, d2, d3] => { results := [.lit (.bool true)], args := [d1, d2, d3] }
  | _ => none }
def shiftRoundRow : OpenClaim := { program := "ytlhbmpnelccofaadoor", sum := "77f4d32e26652e85f58f11a3ea9f2a310502b33e4b417acc7dff866cadcbcee4", func := "charabanc/charabanclaw06.ShiftRound", spec := "shiftRound", unfollowed := true, recurses := true, named := ["charabanc/shift.courses"], apart := false, laid := [("charabanc/shift.courses", laid_charabanc_shift_courses)] }
def ShiftRoundSaid : Prop := shiftRoundRow.holds Tryd.pinned (OpenSpec.ofChange shiftRoundSpec)

/-- ITS FALSE NEIGHBOUR: 'it returns false'. Refute it at one input. -/
def shiftRoundWrong : ChangeSpec := { name := "shiftRound", fn := fun _ => fun
  | [d1, d2, d3] => { results := [.lit (.bool false)], args := [d1, d2, d3] }
  | _ => none }
def ShiftRoundWrongFalsely : Prop := shiftRoundRow.holds Tryd.pinned (OpenSpec.ofChange shiftRoundWrong)

/- THE SECOND FORM. 'bulk': how many values and letters a reading holds, each counted each time it is reached (what is shared counts as often as it is met; a slice's spare places count too). A statement '..UptoSaid' is the law's where the arguments, and the package variables that the reading takes, are together of bulk at most 1048576: NARROWER than '..Said'. Prove '..Said' where nothing that the law and all that it calls make is longer than what came in: it says more and counts as full. Else prove '..UptoSaid'. A law counts once. -/
mutual
def uptoBulk {H : Type} : DataW H → Nat
  | .lit (.string bytes) => bytes.length + 1
  | .lit _ => 1
  | .nil => 1
  | .ptr d => uptoBulk d + 1
  | .slice elems spare => uptoBulkAll elems + uptoBulkAll spare + 1
  | .agg parts => uptoBulkAll parts + 1
  | .iface _ d => uptoBulk d + 1
  | .map entries => uptoBulkEntries entries + 1
  | .held _ => 1
def uptoBulkAll {H : Type} : List (DataW H) → Nat
  | [] => 0
  | d :: r => uptoBulk d + uptoBulkAll r
def uptoBulkEntries {H : Type} : List (Lit × DataW H) → Nat
  | [] => 0
  | x :: r => uptoBulkEntry x + uptoBulkEntries r
def uptoBulkEntry {H : Type} : Lit × DataW H → Nat
  | (.string bytes, d) => bytes.length + uptoBulk d + 1
  | (_, d) => uptoBulk d + 1
 end
def uptoSmall : (H : Type) → List (DataW H) → Bool := fun _ ds => decide (uptoBulkAll ds ≤ 1048576)
def OpenSpec.upto (s : _root_.Go.ChangeSpec) : _root_.Go.OpenSpec := { _root_.Go.OpenSpec.ofChange s with cond := some uptoSmall }

/-- 'charabanclaw06.ShiftDoes', WHERE WHAT IT READS IS OF BULK AT MOST 1048576: true; the input reads as it did. -/
def shiftDoesUptoRow : OpenClaim := { program := "ytlhbmpnelccofaadoor", sum := "77f4d32e26652e85f58f11a3ea9f2a310502b33e4b417acc7dff866cadcbcee4", func := "charabanc/charabanclaw06.ShiftDoes", spec := "shiftDoes", unfollowed := true, recurses := true, named := ["charabanc/shift.courses"], apart := false, laid := [("charabanc/shift.courses", laid_charabanc_shift_courses)], narrowed := true }
def ShiftDoesUptoSaid : Prop := shiftDoesUptoRow.holds Tryd.pinned (OpenSpec.upto shiftDoesSpec)

/-- 'charabanclaw06.ShiftDigits', WHERE WHAT IT READS IS OF BULK AT MOST 1048576: true; the input reads as it did. -/
def shiftDigitsUptoRow : OpenClaim := { program := "ytlhbmpnelccofaadoor", sum := "77f4d32e26652e85f58f11a3ea9f2a310502b33e4b417acc7dff866cadcbcee4", func := "charabanc/charabanclaw06.ShiftDigits", spec := "shiftDigits", unfollowed := true, recurses := true, named := ["charabanc/shift.courses"], apart := false, laid := [("charabanc/shift.courses", laid_charabanc_shift_courses)], narrowed := true }
def ShiftDigitsUptoSaid : Prop := shiftDigitsUptoRow.holds Tryd.pinned (OpenSpec.upto shiftDigitsSpec)

/-- 'charabanclaw06.ShiftBack', WHERE WHAT IT READS IS OF BULK AT MOST 1048576: true; the input reads as it did. -/
def shiftBackUptoRow : OpenClaim := { program := "ytlhbmpnelccofaadoor", sum := "77f4d32e26652e85f58f11a3ea9f2a310502b33e4b417acc7dff866cadcbcee4", func := "charabanc/charabanclaw06.ShiftBack", spec := "shiftBack", unfollowed := true, recurses := true, named := ["charabanc/shift.courses"], apart := false, laid := [("charabanc/shift.courses", laid_charabanc_shift_courses)], narrowed := true }
def ShiftBackUptoSaid : Prop := shiftBackUptoRow.holds Tryd.pinned (OpenSpec.upto shiftBackSpec)

/-- 'charabanclaw06.ShiftRound', WHERE WHAT IT READS IS OF BULK AT MOST 1048576: true; the input reads as it did. -/
def shiftRoundUptoRow : OpenClaim := { program := "ytlhbmpnelccofaadoor", sum := "77f4d32e26652e85f58f11a3ea9f2a310502b33e4b417acc7dff866cadcbcee4", func := "charabanc/charabanclaw06.ShiftRound", spec := "shiftRound", unfollowed := true, recurses := true, named := ["charabanc/shift.courses"], apart := false, laid := [("charabanc/shift.courses", laid_charabanc_shift_courses)], narrowed := true }
def ShiftRoundUptoSaid : Prop := shiftRoundUptoRow.holds Tryd.pinned (OpenSpec.upto shiftRoundSpec)

end Rows
end Go.Proofs.YtlhbmpnelccofaaDoor
