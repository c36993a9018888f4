/-
  NARROWER THAN 'FOR EVERY INPUT', by the rows' own cells (each row's printed sentence says how): FlagsMakes: laid · FlagsTests: laid · FlagsBack: laid · FlagsKeeps: laid.
  DERIVED. THE GIVEN ROWS OF THIS SEAT. 4 by the template 'for every input the law returns true; each argument reads behind the call as it read before'; 0 by the template 'total and deterministic' (their statements: YtdjienbfaebbdaaDoorTotals.lean).
  GIVEN WITH THE SEED: the statements are not yours to turn. If you find one false, say at which input.
  Laid BY PROGRAM, IN A SANDBOX (cutbox-rows.mjs): the forced cells as the released guide's own fill.sh prints them over the translation 019ea348732c7536… (all of the seat's roots in one cut). By AI agents, Wed Nov 11 2026. No macro, syntax, notation, axiom, sorry.
-/
import Derived.Test.YtdjienbfaebbdaaDoorChecked
import GoSem.Claim
import GoSem.ClaimJoined
import GoSem.ClaimMapViews
import Derived.JoinedTies
import Derived.KernelRfl
namespace Go.Proofs.YtdjienbfaebbdaaDoor
/- THE CELL 'sum', in the pinned program and in every row, IS THE sha256 OF THE DUMP (.gsa) THAT YtdjienbfaebbdaaDoorProg.lean LOADS. Nothing in Lean hashes anything: it is a label: what it is worth is what the hold of that sum in a sandbox is worth. -/
noncomputable def Tryd.pinned : Pinned := { name := "ytdjienbfaebbdaadoor", sum := "019ea348732c75360a765eec66cd3c3a40be55575f21d36bd7401f363c974001", checked := Tryd.checked }
namespace Rows
def none {H : Type} : Left H := { results := [], args := [] }

/- WHAT THE LISTED PACKAGE-LEVEL VARIABLES READ AS WHEN THE CALL BEGINS. Each datum BY PROGRAM (the guide's laid-datum.mjs) off the statement by which the dump's own 'gosem.cut.vars' lays the variable. In a bare row this is a premise. The card (YtdjienbfaebbdaaDoorCards.lean) ties it to the program's text. -/
def laid_charabanc_flags_masks {H : Type} : DataW H := .agg [.lit (.int .u8 64), .lit (.int .u8 1), .lit (.int .u8 4), .lit (.int .u8 128)]

/-- 'charabanclaw02.FlagsMakes': WHATEVER THE INPUT: true; the input reads as it did. -/
def flagsMakesSpec : ChangeSpec := { name := "flagsMakes", fn := fun _ => fun
  | [d1, d2, d3] => { results := [.lit (.bool true)], args := [d1, d2, d3] }
  | _ => none }
def flagsMakesRow : OpenClaim := { program := "ytdjienbfaebbdaadoor", sum := "019ea348732c75360a765eec66cd3c3a40be55575f21d36bd7401f363c974001", func := "charabanc/charabanclaw02.FlagsMakes", spec := "flagsMakes", unfollowed := true, recurses := true, named := ["charabanc/flags.masks"], apart := false, laid := [("charabanc/flags.masks", laid_charabanc_flags_masks)] }
def FlagsMakesSaid : Prop := flagsMakesRow.holds Tryd.pinned (OpenSpec.ofChange flagsMakesSpec)

/-- ITS FALSE NEIGHBOUR: 'it returns false'. Refute it at one input. -/
def flagsMakesWrong : ChangeSpec := { name := "flagsMakes", fn := fun _ => fun
  | [d1, d2, d3] => { results := [.lit (.bool false)], args := [d1, d2, d3] }
  | _ => none }
def FlagsMakesWrongFalsely : Prop := flagsMakesRow.holds Tryd.pinned (OpenSpec.ofChange flagsMakesWrong)

/-- 'charabanclaw02.FlagsTests': WHATEVER THE INPUT: true; the input reads as it did. -/
def flagsTestsSpec : ChangeSpec := { name := "flagsTests", fn := fun _ => fun
  | [d1, d2, d3] => { results := [.lit (.bool true)], args := [d1, d2, d3] }
  | _ => none }
def flagsTestsRow : OpenClaim := { program := "ytdjienbfaebbdaadoor", sum := "019ea348732c75360a765eec66cd3c3a40be55575f21d36bd7401f363c974001", func := "charabanc/charabanclaw02.FlagsTests", spec := "flagsTests", unfollowed := true, recurses := true, named := ["charabanc/flags.masks"], apart := false, laid := [("charabanc/flags.masks", laid_charabanc_flags_masks)] }
def FlagsTestsSaid : Prop := flagsTestsRow.holds Tryd.pinned (OpenSpec.ofChange flagsTestsSpec)

/-- ITS FALSE NEIGHBOUR: 'it returns false'. Refute it at one input. -/
def flagsTestsWrong : ChangeSpec := { name := "flagsTests", fn := fun _ => fun
  | [d1, d2, d3] => { results := [.lit (.bool false)], args := [d1, d2, d3] }
  | _ => none }
def FlagsTestsWrongFalsely : Prop := flagsTestsRow.holds Tryd.pinned (OpenSpec.ofChange flagsTestsWrong)

/-- 'charabanclaw02.FlagsBack': WHATEVER THE INPUT: true; the input reads as it did. -/
def flagsBackSpec : ChangeSpec := { name := "flagsBack", fn := fun _ => fun
  | [d1, d2] => { results := [.lit (.bool true)], args := [d1, d2] }
  | _ => none }
def flagsBackRow : OpenClaim := { program := "ytdjienbfaebbdaadoor", sum := "019ea348732c75360a765eec66cd3c3a40be55575f21d36bd7401f363c974001", func := "charabanc/charabanclaw02.FlagsBack", spec := "flagsBack", unfollowed := true, recurses := true, named := ["charabanc/flags.masks"], apart := false, laid := [("charabanc/flags.masks", laid_charabanc_flags_masks)] }
def FlagsBackSaid : Prop := flagsBackRow.holds Tryd.pinned (OpenSpec.ofChange flagsBackSpec)

/-- ITS FALSE NEIGHBOUR: 'it returns false'. Refute it at one input. -/
def flagsBackWrong : ChangeSpec := { name := "flagsBack", fn := fun _ => fun
  | [d1, d2] => { results := [.lit (.bool false)], args := [d1, d2] }
  | _ => none }
def FlagsBackWrongFalsely : Prop := flagsBackRow.holds Tryd.pinned (OpenSpec.ofChange flagsBackWrong)

/-- 'charabanclaw02.FlagsKeeps': WHATEVER THE INPUT: true; the input reads as it did. -/
def flagsKeepsSpec : ChangeSpec := { name := "flagsKeeps", fn := fun _ => fun
  | [d1, d2, d3] => { results := [.lit (.bool true)], args := [d1, d2, d3] }
  | _ => none }
def flagsKeepsRow : OpenClaim := { program := "ytdjienbfaebbdaadoor", sum := "019ea348732c75360a765eec66cd3c3a40be55575f21d36bd7401f363c974001", func := "charabanc/charabanclaw02.FlagsKeeps", spec := "flagsKeeps", unfollowed := true, recurses := true, named := ["charabanc/flags.masks"], apart := false, laid := [("charabanc/flags.masks", laid_charabanc_flags_masks)] }
def FlagsKeepsSaid : Prop := flagsKeepsRow.holds Tryd.pinned (OpenSpec.ofChange flagsKeepsSpec)

/-- ITS FALSE NEIGHBOUR: 'it returns false'. Refute it at one input. -/
def flagsKeepsWrong : ChangeSpec := { name := "flagsKeeps", fn := fun _ => fun
  | [d1, d2, d3] => { results := [.lit (.bool false)], args := [d1, d2, d3] }
  | _ => none }
def FlagsKeepsWrongFalsely : Prop := flagsKeepsRow.holds Tryd.pinned (OpenSpec.ofChange flagsKeepsWrong)

/- THE SECOND FORM. 'bulk': how many values and letters a reading holds, each counted each time it is reached (what is shared counts as often as it is met; a slice's spare places count too). A statement '..UptoSaid' is the law's where the arguments, and the package variables that the reading takes, are together of bulk at most 1048576: NARROWER than '..Said'. Prove '..Said' where nothing that the law and all that it calls make is longer than what came in: it says more and counts as full. Else prove '..UptoSaid'. A law counts once. -/
mutual
def uptoBulk {H : Type} : DataW H → Nat
  | .lit (.string bytes) => bytes.length + 1
  | .lit _ => 1
  | .nil => 1
  | .ptr d => uptoBulk d + 1
  | .slice elems spare => uptoBulkAll elems + uptoBulkAll spare + 1
  | .agg parts => uptoBulkAll parts + 1
  | .iface _ d => uptoBulk d + 1
  | .map entries => uptoBulkEntries entries + 1
  | .held _ => 1
def uptoBulkAll {H : Type} : List (DataW H) → Nat
  | [] => 0
  | d :: r => uptoBulk d + uptoBulkAll r
def uptoBulkEntries {H : Type} : List (Lit × DataW H) → Nat
  | [] => 0
  | x :: r => uptoBulkEntry x + uptoBulkEntries r
def uptoBulkEntry {H : Type} : Lit × DataW H → Nat
  | (.string bytes, d) => bytes.length + uptoBulk d + 1
  | (_, d) => uptoBulk d + 1
 end
def uptoSmall : (H : Type) → List (DataW H) → Bool := fun _ ds => decide (uptoBulkAll ds ≤ 1048576)
def OpenSpec.upto (s : _root_.Go.ChangeSpec) : _root_.Go.OpenSpec := { _root_.Go.OpenSpec.ofChange s with cond := some uptoSmall }

/-- 'charabanclaw02.FlagsMakes', WHERE WHAT IT READS IS OF BULK AT MOST 1048576: true; the input reads as it did. -/
def flagsMakesUptoRow : OpenClaim := { program := "ytdjienbfaebbdaadoor", sum := "019ea348732c75360a765eec66cd3c3a40be55575f21d36bd7401f363c974001", func := "charabanc/charabanclaw02.FlagsMakes", spec := "flagsMakes", unfollowed := true, recurses := true, named := ["charabanc/flags.masks"], apart := false, laid := [("charabanc/flags.masks", laid_charabanc_flags_masks)], narrowed := true }
def FlagsMakesUptoSaid : Prop := flagsMakesUptoRow.holds Tryd.pinned (OpenSpec.upto flagsMakesSpec)

/-- 'charabanclaw02.FlagsTests', WHERE WHAT IT READS IS OF BULK AT MOST 1048576: true; the input reads as it did. -/
def flagsTestsUptoRow : OpenClaim := { program := "ytdjienbfaebbdaadoor", sum := "019ea348732c75360a765eec66cd3c3a40be55575f21d36bd7401f363c974001", func := "charabanc/charabanclaw02.FlagsTests", spec := "flagsTests", unfollowed := true, recurses := true, named := ["charabanc/flags.masks"], apart := false, laid := [("charabanc/flags.masks", laid_charabanc_flags_masks)], narrowed := true }
def FlagsTestsUptoSaid : Prop := flagsTestsUptoRow.holds Tryd.pinned (OpenSpec.upto flagsTestsSpec)

/-- 'charabanclaw02.FlagsBack', WHERE WHAT IT READS IS OF BULK AT MOST 1048576: true; the input reads as it did. -/
def flagsBackUptoRow : OpenClaim := { program := "ytdjienbfaebbdaadoor", sum := "019ea348732c75360a765eec66cd3c3a40be55575f21d36bd7401f363c974001", func := "charabanc/charabanclaw02.FlagsBack", spec := "flagsBack", unfollowed := true, recurses := true, named := ["charabanc/flags.masks"], apart := false, laid := [("charabanc/flags.masks", laid_charabanc_flags_masks)], narrowed := true }
def FlagsBackUptoSaid : Prop := flagsBackUptoRow.holds Tryd.pinned (OpenSpec.upto flagsBackSpec)

/-- 'charabanclaw02.FlagsKeeps', WHERE WHAT IT READS IS OF BULK AT MOST 1048576: true; the input reads as it did. -/
def flagsKeepsUptoRow : OpenClaim := { program := "ytdjienbfaebbdaadoor", sum := "019ea348732c75360a765eec66cd3c3a40be55575f21d36bd7401f363c974001", func := "charabanc/charabanclaw02.FlagsKeeps", spec := "flagsKeeps", unfollowed := true, recurses := true, named := ["charabanc/flags.masks"], apart := false, laid := [("charabanc/flags.masks", laid_charabanc_flags_masks)], narrowed := true }
def FlagsKeepsUptoSaid : Prop := flagsKeepsUptoRow.holds Tryd.pinned (OpenSpec.upto flagsKeepsSpec)

end Rows
end Go.Proofs.YtdjienbfaebbdaaDoor
