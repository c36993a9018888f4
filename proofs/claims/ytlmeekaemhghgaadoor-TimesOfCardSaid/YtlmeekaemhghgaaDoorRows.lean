/-
  NARROWER THAN 'FOR EVERY INPUT', by the rows' own cells (each row's printed sentence says how): TimesOf: laid · TimesAll: laid · TimesBounds: laid · TimesPlanes: laid · TimesParts: laid.
  DERIVED. THE GIVEN ROWS OF THIS SEAT. 5 by the template 'for every input the law returns true; each argument reads behind the call as it read before'; 0 by the template 'total and deterministic' (their statements: YtlmeekaemhghgaaDoorTotals.lean).
  GIVEN WITH THE SEED: the statements are not yours to turn. If you find one false, say at which input.
  Laid BY PROGRAM, IN A SANDBOX (cutbox-rows.mjs): the forced cells as the released guide's own fill.sh prints them over the translation 77916c15dce19bc4… (all of the seat's roots in one cut). By AI agents, Wed Nov 11 2026. No macro, syntax, notation, axiom, sorry.
-/
import Derived.Test.YtlmeekaemhghgaaDoorChecked
import GoSem.Claim
import GoSem.ClaimJoined
import GoSem.ClaimMapViews
import Derived.JoinedTies
import Derived.KernelRfl
namespace Go.Proofs.YtlmeekaemhghgaaDoor
/- THE CELL 'sum', in the pinned program and in every row, IS THE sha256 OF THE DUMP (.gsa) THAT YtlmeekaemhghgaaDoorProg.lean LOADS. Nothing in Lean hashes anything: it is a label: what it is worth is what the hold of that sum in a sandbox is worth. -/
noncomputable def Tryd.pinned : Pinned := { name := "ytlmeekaemhghgaadoor", sum := "77916c15dce19bc42744318ce46c7fbf390c508acfefa3cb10db5da44a76df8d", checked := Tryd.checked }
namespace Rows
def none {H : Type} : Left H := { results := [], args := [] }

/- WHAT THE LISTED PACKAGE-LEVEL VARIABLES READ AS WHEN THE CALL BEGINS. Each datum BY PROGRAM (the guide's laid-datum.mjs) off the statement by which the dump's own 'gosem.cut.vars' lays the variable. In a bare row this is a premise. The card (YtlmeekaemhghgaaDoorCards.lean) ties it to the program's text. -/
def laid_charabanc_times_rows {H : Type} : DataW H := .agg [.agg [.lit (.int .u8 4), .lit (.int .u8 10), .lit (.int .u8 7), .lit (.int .u8 6), .lit (.int .u8 4), .lit (.int .u8 4), .lit (.int .u8 7), .lit (.int .u8 4), .lit (.int .u8 4), .lit (.int .u8 11), .lit (.int .u8 7), .lit (.int .u8 6), .lit (.int .u8 4), .lit (.int .u8 4), .lit (.int .u8 7), .lit (.int .u8 4)], .agg [.lit (.int .u8 8), .lit (.int .u8 10), .lit (.int .u8 7), .lit (.int .u8 6), .lit (.int .u8 4), .lit (.int .u8 4), .lit (.int .u8 7), .lit (.int .u8 4), .lit (.int .u8 12), .lit (.int .u8 11), .lit (.int .u8 7), .lit (.int .u8 6), .lit (.int .u8 4), .lit (.int .u8 4), .lit (.int .u8 7), .lit (.int .u8 4)], .agg [.lit (.int .u8 7), .lit (.int .u8 10), .lit (.int .u8 16), .lit (.int .u8 6), .lit (.int .u8 4), .lit (.int .u8 4), .lit (.int .u8 7), .lit (.int .u8 4), .lit (.int .u8 7), .lit (.int .u8 11), .lit (.int .u8 16), .lit (.int .u8 6), .lit (.int .u8 4), .lit (.int .u8 4), .lit (.int .u8 7), .lit (.int .u8 4)], .agg [.lit (.int .u8 7), .lit (.int .u8 10), .lit (.int .u8 13), .lit (.int .u8 6), .lit (.int .u8 11), .lit (.int .u8 11), .lit (.int .u8 10), .lit (.int .u8 4), .lit (.int .u8 7), .lit (.int .u8 11), .lit (.int .u8 13), .lit (.int .u8 6), .lit (.int .u8 4), .lit (.int .u8 4), .lit (.int .u8 7), .lit (.int .u8 4)], .agg [.lit (.int .u8 4), .lit (.int .u8 4), .lit (.int .u8 4), .lit (.int .u8 4), .lit (.int .u8 4), .lit (.int .u8 4), .lit (.int .u8 7), .lit (.int .u8 4), .lit (.int .u8 4), .lit (.int .u8 4), .lit (.int .u8 4), .lit (.int .u8 4), .lit (.int .u8 4), .lit (.int .u8 4), .lit (.int .u8 7), .lit (.int .u8 4)], .agg [.lit (.int .u8 7), .lit (.int .u8 7), .lit (.int .u8 7), .lit (.int .u8 7), .lit (.int .u8 7), .lit (.int .u8 7), .lit (.int .u8 4), .lit (.int .u8 7), .lit (.int .u8 4), .lit (.int .u8 4), .lit (.int .u8 4), .lit (.int .u8 4), .lit (.int .u8 4), .lit (.int .u8 4), .lit (.int .u8 7), .lit (.int .u8 4)], .agg [.lit (.int .u8 5), .lit (.int .u8 10), .lit (.int .u8 10), .lit (.int .u8 10), .lit (.int .u8 10), .lit (.int .u8 11), .lit (.int .u8 7), .lit (.int .u8 11), .lit (.int .u8 5), .lit (.int .u8 10), .lit (.int .u8 10), .lit (.int .u8 4), .lit (.int .u8 10), .lit (.int .u8 17), .lit (.int .u8 7), .lit (.int .u8 11)], .agg [.lit (.int .u8 5), .lit (.int .u8 10), .lit (.int .u8 10), .lit (.int .u8 11), .lit (.int .u8 10), .lit (.int .u8 11), .lit (.int .u8 7), .lit (.int .u8 11), .lit (.int .u8 5), .lit (.int .u8 4), .lit (.int .u8 10), .lit (.int .u8 11), .lit (.int .u8 10), .lit (.int .u8 4), .lit (.int .u8 7), .lit (.int .u8 11)], .agg [.lit (.int .u8 5), .lit (.int .u8 10), .lit (.int .u8 10), .lit (.int .u8 19), .lit (.int .u8 10), .lit (.int .u8 11), .lit (.int .u8 7), .lit (.int .u8 11), .lit (.int .u8 5), .lit (.int .u8 4), .lit (.int .u8 10), .lit (.int .u8 4), .lit (.int .u8 10), .lit (.int .u8 4), .lit (.int .u8 7), .lit (.int .u8 11)], .agg [.lit (.int .u8 5), .lit (.int .u8 10), .lit (.int .u8 10), .lit (.int .u8 4), .lit (.int .u8 10), .lit (.int .u8 11), .lit (.int .u8 7), .lit (.int .u8 11), .lit (.int .u8 5), .lit (.int .u8 6), .lit (.int .u8 10), .lit (.int .u8 4), .lit (.int .u8 10), .lit (.int .u8 4), .lit (.int .u8 7), .lit (.int .u8 11)]]
def laid_charabanc_times_rowOf {H : Type} : DataW H := .agg [.lit (.int .u8 0), .lit (.int .u8 1), .lit (.int .u8 2), .lit (.int .u8 3), .lit (.int .u8 4), .lit (.int .u8 4), .lit (.int .u8 4), .lit (.int .u8 5), .lit (.int .u8 4), .lit (.int .u8 4), .lit (.int .u8 4), .lit (.int .u8 4), .lit (.int .u8 6), .lit (.int .u8 7), .lit (.int .u8 8), .lit (.int .u8 9)]
def laid_charabanc_times_single {H : Type} : DataW H := .agg [.lit (.int .u8 12), .lit (.int .u8 12), .lit (.int .u8 15), .lit (.int .u8 20), .lit (.int .u8 8), .lit (.int .u8 14), .lit (.int .u8 8)]
def laid_charabanc_times_special {H : Type} : DataW H := .agg [.lit (.int .u8 9), .lit (.int .u8 9), .lit (.int .u8 9), .lit (.int .u8 9), .lit (.int .u8 18), .lit (.int .u8 18), .lit (.int .u8 8), .lit (.int .u8 8)]

/-- 'charabanclaw10.TimesOf': WHATEVER THE INPUT: true; the input reads as it did. -/
def timesOfSpec : ChangeSpec := { name := "timesOf", fn := fun _ => fun
  | [d1, d2] => { results := [.lit (.bool true)], args := [d1, d2] }
  | _ => none }
def timesOfRow : OpenClaim := { program := "ytlmeekaemhghgaadoor", sum := "77916c15dce19bc42744318ce46c7fbf390c508acfefa3cb10db5da44a76df8d", func := "charabanc/charabanclaw10.TimesOf", spec := "timesOf", unfollowed := true, recurses := true, named := ["charabanc/times.rowOf", "charabanc/times.rows", "charabanc/times.single", "charabanc/times.special"], apart := false, laid := [("charabanc/times.rows", laid_charabanc_times_rows), ("charabanc/times.rowOf", laid_charabanc_times_rowOf), ("charabanc/times.single", laid_charabanc_times_single), ("charabanc/times.special", laid_charabanc_times_special)] }
def TimesOfSaid : Prop := timesOfRow.holds Tryd.pinned (OpenSpec.ofChange timesOfSpec)

/-- ITS FALSE NEIGHBOUR: 'it returns false'. Refute it at one input. -/
def timesOfWrong : ChangeSpec := { name := "timesOf", fn := fun _ => fun
  | [d1, d2] => { results := [.lit (.bool false)], args := [d1, d2] }
  | _ => none }
def TimesOfWrongFalsely : Prop := timesOfRow.holds Tryd.pinned (OpenSpec.ofChange timesOfWrong)

/-- 'charabanclaw10.TimesAll': WHATEVER THE INPUT: true; the input reads as it did. -/
def timesAllSpec : ChangeSpec := { name := "timesAll", fn := fun _ => fun
  | [d1, d2] => { results := [.lit (.bool true)], args := [d1, d2] }
  | _ => none }
def timesAllRow : OpenClaim := { program := "ytlmeekaemhghgaadoor", sum := "77916c15dce19bc42744318ce46c7fbf390c508acfefa3cb10db5da44a76df8d", func := "charabanc/charabanclaw10.TimesAll", spec := "timesAll", unfollowed := true, recurses := true, named := ["charabanc/times.rowOf", "charabanc/times.rows", "charabanc/times.single", "charabanc/times.special"], apart := false, laid := [("charabanc/times.rows", laid_charabanc_times_rows), ("charabanc/times.rowOf", laid_charabanc_times_rowOf), ("charabanc/times.single", laid_charabanc_times_single), ("charabanc/times.special", laid_charabanc_times_special)] }
def TimesAllSaid : Prop := timesAllRow.holds Tryd.pinned (OpenSpec.ofChange timesAllSpec)

/-- ITS FALSE NEIGHBOUR: 'it returns false'. Refute it at one input. -/
def timesAllWrong : ChangeSpec := { name := "timesAll", fn := fun _ => fun
  | [d1, d2] => { results := [.lit (.bool false)], args := [d1, d2] }
  | _ => none }
def TimesAllWrongFalsely : Prop := timesAllRow.holds Tryd.pinned (OpenSpec.ofChange timesAllWrong)

/-- 'charabanclaw10.TimesBounds': WHATEVER THE INPUT: true; the input reads as it did. -/
def timesBoundsSpec : ChangeSpec := { name := "timesBounds", fn := fun _ => fun
  | [d1, d2, d3] => { results := [.lit (.bool true)], args := [d1, d2, d3] }
  | _ => none }
def timesBoundsRow : OpenClaim := { program := "ytlmeekaemhghgaadoor", sum := "77916c15dce19bc42744318ce46c7fbf390c508acfefa3cb10db5da44a76df8d", func := "charabanc/charabanclaw10.TimesBounds", spec := "timesBounds", unfollowed := true, recurses := true, named := ["charabanc/times.rowOf", "charabanc/times.rows", "charabanc/times.single", "charabanc/times.special"], apart := false, laid := [("charabanc/times.rows", laid_charabanc_times_rows), ("charabanc/times.rowOf", laid_charabanc_times_rowOf), ("charabanc/times.single", laid_charabanc_times_single), ("charabanc/times.special", laid_charabanc_times_special)] }
def TimesBoundsSaid : Prop := timesBoundsRow.holds Tryd.pinned (OpenSpec.ofChange timesBoundsSpec)

/-- ITS FALSE NEIGHBOUR: 'it returns false'. Refute it at one input. -/
def timesBoundsWrong : ChangeSpec := { name := "timesBounds", fn := fun _ => fun
  | [d1, d2, d3] => { results := [.lit (.bool false)], args := [d1, d2, d3] }
  | _ => none }
def TimesBoundsWrongFalsely : Prop := timesBoundsRow.holds Tryd.pinned (OpenSpec.ofChange timesBoundsWrong)

/-- 'charabanclaw10.TimesPlanes': WHATEVER THE INPUT: true; the input reads as it did. -/
def timesPlanesSpec : ChangeSpec := { name := "timesPlanes", fn := fun _ => fun
  | [d1, d2] => { results := [.lit (.bool true)], args := [d1, d2] }
  | _ => none }
def timesPlanesRow : OpenClaim := { program := "ytlmeekaemhghgaadoor", sum := "77916c15dce19bc42744318ce46c7fbf390c508acfefa3cb10db5da44a76df8d", func := "charabanc/charabanclaw10.TimesPlanes", spec := "timesPlanes", unfollowed := true, recurses := true, named := ["charabanc/times.rowOf", "charabanc/times.rows", "charabanc/times.single", "charabanc/times.special"], apart := false, laid := [("charabanc/times.rows", laid_charabanc_times_rows), ("charabanc/times.rowOf", laid_charabanc_times_rowOf), ("charabanc/times.single", laid_charabanc_times_single), ("charabanc/times.special", laid_charabanc_times_special)] }
def TimesPlanesSaid : Prop := timesPlanesRow.holds Tryd.pinned (OpenSpec.ofChange timesPlanesSpec)

/-- ITS FALSE NEIGHBOUR: 'it returns false'. Refute it at one input. -/
def timesPlanesWrong : ChangeSpec := { name := "timesPlanes", fn := fun _ => fun
  | [d1, d2] => { results := [.lit (.bool false)], args := [d1, d2] }
  | _ => none }
def TimesPlanesWrongFalsely : Prop := timesPlanesRow.holds Tryd.pinned (OpenSpec.ofChange timesPlanesWrong)

/-- 'charabanclaw10.TimesParts': WHATEVER THE INPUT: true; the input reads as it did. -/
def timesPartsSpec : ChangeSpec := { name := "timesParts", fn := fun _ => fun
  | [d1, d2] => { results := [.lit (.bool true)], args := [d1, d2] }
  | _ => none }
def timesPartsRow : OpenClaim := { program := "ytlmeekaemhghgaadoor", sum := "77916c15dce19bc42744318ce46c7fbf390c508acfefa3cb10db5da44a76df8d", func := "charabanc/charabanclaw10.TimesParts", spec := "timesParts", unfollowed := true, recurses := true, named := ["charabanc/times.rowOf", "charabanc/times.rows", "charabanc/times.single", "charabanc/times.special"], apart := false, laid := [("charabanc/times.rows", laid_charabanc_times_rows), ("charabanc/times.rowOf", laid_charabanc_times_rowOf), ("charabanc/times.single", laid_charabanc_times_single), ("charabanc/times.special", laid_charabanc_times_special)] }
def TimesPartsSaid : Prop := timesPartsRow.holds Tryd.pinned (OpenSpec.ofChange timesPartsSpec)

/-- ITS FALSE NEIGHBOUR: 'it returns false'. Refute it at one input. -/
def timesPartsWrong : ChangeSpec := { name := "timesParts", fn := fun _ => fun
  | [d1, d2] => { results := [.lit (.bool false)], args := [d1, d2] }
  | _ => none }
def TimesPartsWrongFalsely : Prop := timesPartsRow.holds Tryd.pinned (OpenSpec.ofChange timesPartsWrong)

/- THE SECOND FORM. 'bulk': how many values and letters a reading holds, each counted each time it is reached (what is shared counts as often as it is met; a slice's spare places count too). A statement '..UptoSaid' is the law's where the arguments, and the package variables that the reading takes, are together of bulk at most 1048576: NARROWER than '..Said'. Prove '..Said' where nothing that the law and all that it calls make is longer than what came in: it says more and counts as full. Else prove '..UptoSaid'. A law counts once. -/
mutual
def uptoBulk {H : Type} : DataW H → Nat
  | .lit (.string bytes) => bytes.length + 1
  | .lit _ => 1
  | .nil => 1
  | .ptr d => uptoBulk d + 1
  | .slice elems spare => uptoBulkAll elems + uptoBulkAll spare + 1
  | .agg parts => uptoBulkAll parts + 1
  | .iface _ d => uptoBulk d + 1
  | .map entries => uptoBulkEntries entries + 1
  | .held _ => 1
def uptoBulkAll {H : Type} : List (DataW H) → Nat
  | [] => 0
  | d :: r => uptoBulk d + uptoBulkAll r
def uptoBulkEntries {H : Type} : List (Lit × DataW H) → Nat
  | [] => 0
  | x :: r => uptoBulkEntry x + uptoBulkEntries r
def uptoBulkEntry {H : Type} : Lit × DataW H → Nat
  | (.string bytes, d) => bytes.length + uptoBulk d + 1
  | (_, d) => uptoBulk d + 1
 end
def uptoSmall : (H : Type) → List (DataW H) → Bool := fun _ ds => decide (uptoBulkAll ds ≤ 1048576)
def OpenSpec.upto (s : _root_.Go.ChangeSpec) : _root_.Go.OpenSpec := { _root_.Go.OpenSpec.ofChange s with cond := some uptoSmall }

/-- 'charabanclaw10.TimesOf', WHERE WHAT IT READS IS OF BULK AT MOST 1048576: true; the input reads as it did. -/
def timesOfUptoRow : OpenClaim := { program := "ytlmeekaemhghgaadoor", sum := "77916c15dce19bc42744318ce46c7fbf390c508acfefa3cb10db5da44a76df8d", func := "charabanc/charabanclaw10.TimesOf", spec := "timesOf", unfollowed := true, recurses := true, named := ["charabanc/times.rowOf", "charabanc/times.rows", "charabanc/times.single", "charabanc/times.special"], apart := false, laid := [("charabanc/times.rows", laid_charabanc_times_rows), ("charabanc/times.rowOf", laid_charabanc_times_rowOf), ("charabanc/times.single", laid_charabanc_times_single), ("charabanc/times.special", laid_charabanc_times_special)], narrowed := true }
def TimesOfUptoSaid : Prop := timesOfUptoRow.holds Tryd.pinned (OpenSpec.upto timesOfSpec)

/-- 'charabanclaw10.TimesAll', WHERE WHAT IT READS IS OF BULK AT MOST 1048576: true; the input reads as it did. -/
def timesAllUptoRow : OpenClaim := { program := "ytlmeekaemhghgaadoor", sum := "77916c15dce19bc42744318ce46c7fbf390c508acfefa3cb10db5da44a76df8d", func := "charabanc/charabanclaw10.TimesAll", spec := "timesAll", unfollowed := true, recurses := true, named := ["charabanc/times.rowOf", "charabanc/times.rows", "charabanc/times.single", "charabanc/times.special"], apart := false, laid := [("charabanc/times.rows", laid_charabanc_times_rows), ("charabanc/times.rowOf", laid_charabanc_times_rowOf), ("charabanc/times.single", laid_charabanc_times_single), ("charabanc/times.special", laid_charabanc_times_special)], narrowed := true }
def TimesAllUptoSaid : Prop := timesAllUptoRow.holds Tryd.pinned (OpenSpec.upto timesAllSpec)

/-- 'charabanclaw10.TimesBounds', WHERE WHAT IT READS IS OF BULK AT MOST 1048576: true; the input reads as it did. -/
def timesBoundsUptoRow : OpenClaim := { program := "ytlmeekaemhghgaadoor", sum := "77916c15dce19bc42744318ce46c7fbf390c508acfefa3cb10db5da44a76df8d", func := "charabanc/charabanclaw10.TimesBounds", spec := "timesBounds", unfollowed := true, recurses := true, named := ["charabanc/times.rowOf", "charabanc/times.rows", "charabanc/times.single", "charabanc/times.special"], apart := false, laid := [("charabanc/times.rows", laid_charabanc_times_rows), ("charabanc/times.rowOf", laid_charabanc_times_rowOf), ("charabanc/times.single", laid_charabanc_times_single), ("charabanc/times.special", laid_charabanc_times_special)], narrowed := true }
def TimesBoundsUptoSaid : Prop := timesBoundsUptoRow.holds Tryd.pinned (OpenSpec.upto timesBoundsSpec)

/-- 'charabanclaw10.TimesPlanes', WHERE WHAT IT READS IS OF BULK AT MOST 1048576: true; the input reads as it did. -/
def timesPlanesUptoRow : OpenClaim := { program := "ytlmeekaemhghgaadoor", sum := "77916c15dce19bc42744318ce46c7fbf390c508acfefa3cb10db5da44a76df8d", func := "charabanc/charabanclaw10.TimesPlanes", spec := "timesPlanes", unfollowed := true, recurses := true, named := ["charabanc/times.rowOf", "charabanc/times.rows", "charabanc/times.single", "charabanc/times.special"], apart := false, laid := [("charabanc/times.rows", laid_charabanc_times_rows), ("charabanc/times.rowOf", laid_charabanc_times_rowOf), ("charabanc/times.single", laid_charabanc_times_single), ("charabanc/times.special", laid_charabanc_times_special)], narrowed := true }
def TimesPlanesUptoSaid : Prop := timesPlanesUptoRow.holds Tryd.pinned (OpenSpec.upto timesPlanesSpec)

/-- 'charabanclaw10.TimesParts', WHERE WHAT IT READS IS OF BULK AT MOST 1048576: true; the input reads as it did. -/
def timesPartsUptoRow : OpenClaim := { program := "ytlmeekaemhghgaadoor", sum := "77916c15dce19bc42744318ce46c7fbf390c508acfefa3cb10db5da44a76df8d", func := "charabanc/charabanclaw10.TimesParts", spec := "timesParts", unfollowed := true, recurses := true, named := ["charabanc/times.rowOf", "charabanc/times.rows", "charabanc/times.single", "charabanc/times.special"], apart := false, laid := [("charabanc/times.rows", laid_charabanc_times_rows), ("charabanc/times.rowOf", laid_charabanc_times_rowOf), ("charabanc/times.single", laid_charabanc_times_single), ("charabanc/times.special", laid_charabanc_times_special)], narrowed := true }
def TimesPartsUptoSaid : Prop := timesPartsUptoRow.holds Tryd.pinned (OpenSpec.upto timesPartsSpec)

end Rows
end Go.Proofs.YtlmeekaemhghgaaDoor
