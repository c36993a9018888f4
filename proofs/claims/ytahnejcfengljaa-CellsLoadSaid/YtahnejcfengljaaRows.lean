/-
  No cell of these rows narrows 'for every input' (looked for: loops, veiled, ifaces, maps, wideKeys, modest, calm, conditions, laid).
  DERIVED. THE GIVEN ROWS OF THIS SEAT. 4 by the template 'for every input the law returns true; each argument reads behind the call as it read before'; 0 by the template 'total and deterministic' (their statements: YtahnejcfengljaaTotals.lean).
  GIVEN WITH THE SEED: the statements are not yours to turn. If you find one false, say at which input.
  Laid BY PROGRAM, IN A SANDBOX (cutbox-rows.mjs): the forced cells as the released guide's own fill.sh prints them over the translation 46591a7b84ecfef2… (all of the seat's roots in one cut). By AI agents, Wed Nov 11 2026. No macro, syntax, notation, axiom, sorry.
-/
import Derived.Test.YtahnejcfengljaaChecked
import GoSem.Claim
import GoSem.ClaimJoined
import GoSem.ClaimMapViews
import Derived.JoinedTies
import Derived.KernelRfl
namespace Go.Proofs.Ytahnejcfengljaa
/- THE CELL 'sum', in the pinned program and in every row, IS THE sha256 OF THE DUMP (.gsa) THAT YtahnejcfengljaaProg.lean LOADS. Nothing in Lean hashes anything: it is a label: what it is worth is what the hold of that sum in a sandbox is worth. -/
noncomputable def Try.pinned : Pinned := { name := "ytahnejcfengljaa", sum := "46591a7b84ecfef23dac3ca09308285f2d1639a2d81fa7503ec45142d9bd6c90", checked := Try.checked }
namespace Rows
def none {H : Type} : Left H := { results := [], args := [] }

/-- 'charabanclaw14.CellsTell': WHATEVER THE INPUT: true; the input reads as it did. -/
def cellsTellSpec : ChangeSpec := { name := "cellsTell", fn := fun _ => fun
  | [d1, d2, d3] => { results := [.lit (.bool true)], args := [d1, d2, d3] }
  | _ => none }
def cellsTellRow : OpenClaim := { program := "ytahnejcfengljaa", sum := "46591a7b84ecfef23dac3ca09308285f2d1639a2d81fa7503ec45142d9bd6c90", func := "charabanc/charabanclaw14.CellsTell", spec := "cellsTell", unfollowed := true, recurses := true, apart := false }
def CellsTellSaid : Prop := cellsTellRow.holds Try.pinned (OpenSpec.ofChange cellsTellSpec)

/-- ITS FALSE NEIGHBOUR: 'it returns false'. Refute it at one input. -/
def cellsTellWrong : ChangeSpec := { name := "cellsTell", fn := fun _ => fun
  | [d1, d2, d3] => { results := [.lit (.bool false)], args := [d1, d2, d3] }
  | _ => none }
def CellsTellWrongFalsely : Prop := cellsTellRow.holds Try.pinned (OpenSpec.ofChange cellsTellWrong)

/-- 'charabanclaw14.CellsLoad': WHATEVER THE INPUT: true; the input reads as it did. -/
def cellsLoadSpec : ChangeSpec := { name := "cellsLoad", fn := fun _ => fun
  | [d1, d2, d3] => { results := [.lit (.bool true)], args := [d1, d2, d3] }
  | _ => none }
def cellsLoadRow : OpenClaim := { program := "ytahnejcfengljaa", sum := "46591a7b84ecfef23dac3ca09308285f2d1639a2d81fa7503ec45142d9bd6c90", func := "charabanc/charabanclaw14.CellsLoad", spec := "cellsLoad", unfollowed := true, recurses := true, apart := false }
def CellsLoadSaid : Prop := cellsLoadRow.holds Try.pinned (OpenSpec.ofChange cellsLoadSpec)

/-- ITS FALSE NEIGHBOUR: 'it returns false'. Refute it at one input. -/
def cellsLoadWrong : ChangeSpec := { name := "cellsLoad", fn := fun _ => fun
  | [d1, d2, d3] => { results := [.lit (.bool false)], args := [d1, d2, d3] }
  | _ => none }
def CellsLoadWrongFalsely : Prop := cellsLoadRow.holds Try.pinned (OpenSpec.ofChange cellsLoadWrong)

/-- 'charabanclaw14.CellsDiffer': WHATEVER THE INPUT: true; the input reads as it did. -/
def cellsDifferSpec : ChangeSpec := { name := "cellsDiffer", fn := fun _ => fun
  | [d1, d2] => { results := [.lit (.bool true)], args := [d1, d2] }
  | _ => none }
def cellsDifferRow : OpenClaim := { program := "ytahnejcfengljaa", sum := "46591a7b84ecfef23dac3ca09308285f2d1639a2d81fa7503ec45142d9bd6c90", func := "charabanc/charabanclaw14.CellsDiffer", spec := "cellsDiffer", unfollowed := true, recurses := true, apart := false }
def CellsDifferSaid : Prop := cellsDifferRow.holds Try.pinned (OpenSpec.ofChange cellsDifferSpec)

/-- ITS FALSE NEIGHBOUR: 'it returns false'. Refute it at one input. -/
def cellsDifferWrong : ChangeSpec := { name := "cellsDiffer", fn := fun _ => fun
  | [d1, d2] => { results := [.lit (.bool false)], args := [d1, d2] }
  | _ => none }
def CellsDifferWrongFalsely : Prop := cellsDifferRow.holds Try.pinned (OpenSpec.ofChange cellsDifferWrong)

/-- 'charabanclaw14.CellsKeep': WHATEVER THE INPUT: true; the input reads as it did. -/
def cellsKeepSpec : ChangeSpec := { name := "cellsKeep", fn := fun _ => fun
  | [d1, d2, d3] => { results := [.lit (.bool true)], args := [d1, d2, d3] }
  | _ => none }
def cellsKeepRow : OpenClaim := { program := "ytahnejcfengljaa", sum := "46591a7b84ecfef23dac3ca09308285f2d1639a2d81fa7503ec45142d9bd6c90", func := "charabanc/charabanclaw14.CellsKeep", spec := "cellsKeep", unfollowed := true, recurses := true, apart := false }
def CellsKeepSaid : Prop := cellsKeepRow.holds Try.pinned (OpenSpec.ofChange cellsKeepSpec)

/-- ITS FALSE NEIGHBOUR: 'it returns false'. Refute it at one input. -/
def cellsKeepWrong : ChangeSpec := { name := "cellsKeep", fn := fun _ => fun
  | [d1, d2, d3] => { results := [.lit (.bool false)], args := [d1, d2, d3] }
  | _ => none }
def CellsKeepWrongFalsely : Prop := cellsKeepRow.holds Try.pinned (OpenSpec.ofChange cellsKeepWrong)

/- THE SECOND FORM. 'bulk': how many values and letters a reading holds, each counted each time it is reached (what is shared counts as often as it is met; a slice's spare places count too). A statement '..UptoSaid' is the law's where the arguments, and the package variables that the reading takes, are together of bulk at most 1048576: NARROWER than '..Said'. Prove '..Said' where nothing that the law and all that it calls make is longer than what came in: it says more and counts as full. Else prove '..UptoSaid'. A law counts once. -/
mutual
def uptoBulk {H : Type} : DataW H → Nat
  | .lit (.string bytes) => bytes.length + 1
  | .lit _ => 1
  | .nil => 1
  | .ptr d => uptoBulk d + 1
  | .slice elems spare => uptoBulkAll elems + uptoBulkAll spare + 1
  | .agg parts => uptoBulkAll parts + 1
  | .iface _ d => uptoBulk d + 1
  | .map entries => uptoBulkEntries entries + 1
  | .held _ => 1
def uptoBulkAll {H : Type} : List (DataW H) → Nat
  | [] => 0
  | d :: r => uptoBulk d + uptoBulkAll r
def uptoBulkEntries {H : Type} : List (Lit × DataW H) → Nat
  | [] => 0
  | x :: r => uptoBulkEntry x + uptoBulkEntries r
def uptoBulkEntry {H : Type} : Lit × DataW H → Nat
  | (.string bytes, d) => bytes.length + uptoBulk d + 1
  | (_, d) => uptoBulk d + 1
 end
def uptoSmall : (H : Type) → List (DataW H) → Bool := fun _ ds => decide (uptoBulkAll ds ≤ 1048576)
def OpenSpec.upto (s : _root_.Go.ChangeSpec) : _root_.Go.OpenSpec := { _root_.Go.OpenSpec.ofChange s with cond := some uptoSmall }

/-- 'charabanclaw14.CellsTell', WHERE WHAT IT READS IS OF BULK AT MOST 1048576: true; the input reads as it did. -/
def cellsTellUptoRow : OpenClaim := { program := "ytahnejcfengljaa", sum := "46591a7b84ecfef23dac3ca09308285f2d1639a2d81fa7503ec45142d9bd6c90", func := "charabanc/charabanclaw14.CellsTell", spec := "cellsTell", unfollowed := true, recurses := true, apart := false, narrowed := true }
def CellsTellUptoSaid : Prop := cellsTellUptoRow.holds Try.pinned (OpenSpec.upto cellsTellSpec)

/-- 'charabanclaw14.CellsLoad', WHERE WHAT IT READS IS OF BULK AT MOST 1048576: true; the input reads as it did. -/
def cellsLoadUptoRow : OpenClaim := { program := "ytahnejcfengljaa", sum := "46591a7b84ecfef23dac3ca09308285f2d1639a2d81fa7503ec45142d9bd6c90", func := "charabanc/charabanclaw14.CellsLoad", spec := "cellsLoad", unfollowed := true, recurses := true, apart := false, narrowed := true }
def CellsLoadUptoSaid : Prop := cellsLoadUptoRow.holds Try.pinned (OpenSpec.upto cellsLoadSpec)

/-- 'charabanclaw14.CellsDiffer', WHERE WHAT IT READS IS OF BULK AT MOST 1048576: true; the input reads as it did. -/
def cellsDifferUptoRow : OpenClaim := { program := "ytahnejcfengljaa", sum := "46591a7b84ecfef23dac3ca09308285f2d1639a2d81fa7503ec45142d9bd6c90", func := "charabanc/charabanclaw14.CellsDiffer", spec := "cellsDiffer", unfollowed := true, recurses := true, apart := false, narrowed := true }
def CellsDifferUptoSaid : Prop := cellsDifferUptoRow.holds Try.pinned (OpenSpec.upto cellsDifferSpec)

/-- 'charabanclaw14.CellsKeep', WHERE WHAT IT READS IS OF BULK AT MOST 1048576: true; the input reads as it did. -/
def cellsKeepUptoRow : OpenClaim := { program := "ytahnejcfengljaa", sum := "46591a7b84ecfef23dac3ca09308285f2d1639a2d81fa7503ec45142d9bd6c90", func := "charabanc/charabanclaw14.CellsKeep", spec := "cellsKeep", unfollowed := true, recurses := true, apart := false, narrowed := true }
def CellsKeepUptoSaid : Prop := cellsKeepUptoRow.holds Try.pinned (OpenSpec.upto cellsKeepSpec)

end Rows
end Go.Proofs.Ytahnejcfengljaa
