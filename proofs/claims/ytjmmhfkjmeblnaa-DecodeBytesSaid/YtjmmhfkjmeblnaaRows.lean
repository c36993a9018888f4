/-
  No cell of these rows narrows 'for every input' (looked for: loops, veiled, ifaces, maps, wideKeys, modest, calm, conditions, laid).
  DERIVED. THE GIVEN ROWS OF THIS SEAT. 5 by the template 'for every input the law returns true; each argument reads behind the call as it read before'; 0 by the template 'total and deterministic' (their statements: YtjmmhfkjmeblnaaTotals.lean).
  GIVEN WITH THE SEED: the statements are not yours to turn. If you find one false, say at which input.
  Laid BY PROGRAM, IN A SANDBOX (cutbox-rows.mjs): the forced cells as the released guide's own fill.sh prints them over the translation 0b6db79b275d6818… (all of the seat's roots in one cut). By AI agents, Wed Nov 11 2026. No macro, syntax, notation, axiom, sorry.
-/
import Derived.Test.YtjmmhfkjmeblnaaChecked
import GoSem.Claim
import GoSem.ClaimJoined
import GoSem.ClaimMapViews
import Derived.JoinedTies
import Derived.KernelRfl
namespace Go.Proofs.Ytjmmhfkjmeblnaa
/- THE CELL 'sum', in the pinned program and in every row, IS THE sha256 OF THE DUMP (.gsa) THAT YtjmmhfkjmeblnaaProg.lean LOADS. Nothing in Lean hashes anything: it is a label: what it is worth is what the hold of that sum in a sandbox is worth. -/
noncomputable def Try.pinned : Pinned := { name := "ytjmmhfkjmeblnaa", sum := "0b6db79b275d6818b7b7c7124448801619df862e1e8d05988a77efa26402e33a", checked := Try.checked }
namespace Rows
def none {H : Type} : Left H := { results := [], args := [] }

/-- 'charabanclaw08.DecodeCodes': WHATEVER THE INPUT: true; the input reads as it did. -/
def decodeCodesSpec : ChangeSpec := { name := "decodeCodes", fn := fun _ => fun
  | [d1, d2] => { results := [.lit (.bool true)], args := [d1, d2] }
  | _ => none }
def decodeCodesRow : OpenClaim := { program := "ytjmmhfkjmeblnaa", sum := "0b6db79b275d6818b7b7c7124448801619df862e1e8d05988a77efa26402e33a", func := "charabanc/charabanclaw08.DecodeCodes", spec := "decodeCodes", unfollowed := true, recurses := true, apart := false }
def DecodeCodesSaid : Prop := decodeCodesRow.holds Try.pinned (OpenSpec.ofChange decodeCodesSpec)

/-- ITS FALSE NEIGHBOUR: 'it returns false'. Refute it at one input. -/
def decodeCodesWrong : ChangeSpec := { name := "decodeCodes", fn := fun _ => fun
  | [d1, d2] => { results := [.lit (.bool false)], args := [d1, d2] }
  | _ => none }
def DecodeCodesWrongFalsely : Prop := decodeCodesRow.holds Try.pinned (OpenSpec.ofChange decodeCodesWrong)

/-- 'charabanclaw08.DecodeNext': WHATEVER THE INPUT: true; the input reads as it did. -/
def decodeNextSpec : ChangeSpec := { name := "decodeNext", fn := fun _ => fun
  | [d] => { results := [.lit (.bool true)], args := [d] }
  | _ => none }
def decodeNextRow : OpenClaim := { program := "ytjmmhfkjmeblnaa", sum := "0b6db79b275d6818b7b7c7124448801619df862e1e8d05988a77efa26402e33a", func := "charabanc/charabanclaw08.DecodeNext", spec := "decodeNext", unfollowed := true, recurses := true, apart := false }
def DecodeNextSaid : Prop := decodeNextRow.holds Try.pinned (OpenSpec.ofChange decodeNextSpec)

/-- ITS FALSE NEIGHBOUR: 'it returns false'. Refute it at one input. -/
def decodeNextWrong : ChangeSpec := { name := "decodeNext", fn := fun _ => fun
  | [d] => { results := [.lit (.bool false)], args := [d] }
  | _ => none }
def DecodeNextWrongFalsely : Prop := decodeNextRow.holds Try.pinned (OpenSpec.ofChange decodeNextWrong)

/-- 'charabanclaw08.DecodeBytes': WHATEVER THE INPUT: true; the input reads as it did. -/
def decodeBytesSpec : ChangeSpec := { name := "decodeBytes", fn := fun _ => fun
  | [d1, d2] => { results := [.lit (.bool true)], args := [d1, d2] }
  | _ => none }
def decodeBytesRow : OpenClaim := { program := "ytjmmhfkjmeblnaa", sum := "0b6db79b275d6818b7b7c7124448801619df862e1e8d05988a77efa26402e33a", func := "charabanc/charabanclaw08.DecodeBytes", spec := "decodeBytes", unfollowed := true, recurses := true, apart := false }
def DecodeBytesSaid : Prop := decodeBytesRow.holds Try.pinned (OpenSpec.ofChange decodeBytesSpec)

/-- ITS FALSE NEIGHBOUR: 'it returns false'. Refute it at one input. -/
def decodeBytesWrong : ChangeSpec := { name := "decodeBytes", fn := fun _ => fun
  | [d1, d2] => { results := [.lit (.bool false)], args := [d1, d2] }
  | _ => none }
def DecodeBytesWrongFalsely : Prop := decodeBytesRow.holds Try.pinned (OpenSpec.ofChange decodeBytesWrong)

/-- 'charabanclaw08.DecodeShort': WHATEVER THE INPUT: true; the input reads as it did. -/
def decodeShortSpec : ChangeSpec := { name := "decodeShort", fn := fun _ => fun
  | [d1, d2] => { results := [.lit (.bool true)], args := [d1, d2] }
  | _ => none }
def decodeShortRow : OpenClaim := { program := "ytjmmhfkjmeblnaa", sum := "0b6db79b275d6818b7b7c7124448801619df862e1e8d05988a77efa26402e33a", func := "charabanc/charabanclaw08.DecodeShort", spec := "decodeShort", unfollowed := true, recurses := true, apart := false }
def DecodeShortSaid : Prop := decodeShortRow.holds Try.pinned (OpenSpec.ofChange decodeShortSpec)

/-- ITS FALSE NEIGHBOUR: 'it returns false'. Refute it at one input. -/
def decodeShortWrong : ChangeSpec := { name := "decodeShort", fn := fun _ => fun
  | [d1, d2] => { results := [.lit (.bool false)], args := [d1, d2] }
  | _ => none }
def DecodeShortWrongFalsely : Prop := decodeShortRow.holds Try.pinned (OpenSpec.ofChange decodeShortWrong)

/-- 'charabanclaw08.DecodeSums': WHATEVER THE INPUT: true; the input reads as it did. -/
def decodeSumsSpec : ChangeSpec := { name := "decodeSums", fn := fun _ => fun
  | [d] => { results := [.lit (.bool true)], args := [d] }
  | _ => none }
def decodeSumsRow : OpenClaim := { program := "ytjmmhfkjmeblnaa", sum := "0b6db79b275d6818b7b7c7124448801619df862e1e8d05988a77efa26402e33a", func := "charabanc/charabanclaw08.DecodeSums", spec := "decodeSums", unfollowed := true, recurses := true, apart := false }
def DecodeSumsSaid : Prop := decodeSumsRow.holds Try.pinned (OpenSpec.ofChange decodeSumsSpec)

/-- ITS FALSE NEIGHBOUR: 'it returns false'. Refute it at one input. -/
def decodeSumsWrong : ChangeSpec := { name := "decodeSums", fn := fun _ => fun
  | [d] => { results := [.lit (.bool false)], args := [d] }
  | _ => none }
def DecodeSumsWrongFalsely : Prop := decodeSumsRow.holds Try.pinned (OpenSpec.ofChange decodeSumsWrong)

/- THE SECOND FORM. 'bulk': how many values and letters a reading holds, each counted each time it is reached (what is shared counts as often as it is met; a slice's spare places count too). A statement '..UptoSaid' is the law's where the arguments, and the package variables that the reading takes, are together of bulk at most 1048576: NARROWER than '..Said'. Prove '..Said' where nothing that the law and all that it calls make is longer than what came in: it says more and counts as full. Else prove '..UptoSaid'. A law counts once. -/
mutual
def uptoBulk {H : Type} : DataW H → Nat
  | .lit (.string bytes) => bytes.length + 1
  | .lit _ => 1
  | .nil => 1
  | .ptr d => uptoBulk d + 1
  | .slice elems spare => uptoBulkAll elems + uptoBulkAll spare + 1
  | .agg parts => uptoBulkAll parts + 1
  | .iface _ d => uptoBulk d + 1
  | .map entries => uptoBulkEntries entries + 1
  | .held _ => 1
def uptoBulkAll {H : Type} : List (DataW H) → Nat
  | [] => 0
  | d :: r => uptoBulk d + uptoBulkAll r
def uptoBulkEntries {H : Type} : List (Lit × DataW H) → Nat
  | [] => 0
  | x :: r => uptoBulkEntry x + uptoBulkEntries r
def uptoBulkEntry {H : Type} : Lit × DataW H → Nat
  | (.string bytes, d) => bytes.length + uptoBulk d + 1
  | (_, d) => uptoBulk d + 1
 end
def uptoSmall : (H : Type) → List (DataW H) → Bool := fun _ ds => decide (uptoBulkAll ds ≤ 1048576)
def OpenSpec.upto (s : _root_.Go.ChangeSpec) : _root_.Go.OpenSpec := { _root_.Go.OpenSpec.ofChange s with cond := some uptoSmall }

/-- 'charabanclaw08.DecodeCodes', WHERE WHAT IT READS IS OF BULK AT MOST 1048576: true; the input reads as it did. -/
def decodeCodesUptoRow : OpenClaim := { program := "ytjmmhfkjmeblnaa", sum := "0b6db79b275d6818b7b7c7124448801619df862e1e8d05988a77efa26402e33a", func := "charabanc/charabanclaw08.DecodeCodes", spec := "decodeCodes", unfollowed := true, recurses := true, apart := false, narrowed := true }
def DecodeCodesUptoSaid : Prop := decodeCodesUptoRow.holds Try.pinned (OpenSpec.upto decodeCodesSpec)

/-- 'charabanclaw08.DecodeNext', WHERE WHAT IT READS IS OF BULK AT MOST 1048576: true; the input reads as it did. -/
def decodeNextUptoRow : OpenClaim := { program := "ytjmmhfkjmeblnaa", sum := "0b6db79b275d6818b7b7c7124448801619df862e1e8d05988a77efa26402e33a", func := "charabanc/charabanclaw08.DecodeNext", spec := "decodeNext", unfollowed := true, recurses := true, apart := false, narrowed := true }
def DecodeNextUptoSaid : Prop := decodeNextUptoRow.holds Try.pinned (OpenSpec.upto decodeNextSpec)

/-- 'charabanclaw08.DecodeBytes', WHERE WHAT IT READS IS OF BULK AT MOST 1048576: true; the input reads as it did. -/
def decodeBytesUptoRow : OpenClaim := { program := "ytjmmhfkjmeblnaa", sum := "0b6db79b275d6818b7b7c7124448801619df862e1e8d05988a77efa26402e33a", func := "charabanc/charabanclaw08.DecodeBytes", spec := "decodeBytes", unfollowed := true, recurses := true, apart := false, narrowed := true }
def DecodeBytesUptoSaid : Prop := decodeBytesUptoRow.holds Try.pinned (OpenSpec.upto decodeBytesSpec)

/-- 'charabanclaw08.DecodeShort', WHERE WHAT IT READS IS OF BULK AT MOST 1048576: true; the input reads as it did. -/
def decodeShortUptoRow : OpenClaim := { program := "ytjmmhfkjmeblnaa", sum := "0b6db79b275d6818b7b7c7124448801619df862e1e8d05988a77efa26402e33a", func := "charabanc/charabanclaw08.DecodeShort", spec := "decodeShort", unfollowed := true, recurses := true, apart := false, narrowed := true }
def DecodeShortUptoSaid : Prop := decodeShortUptoRow.holds Try.pinned (OpenSpec.upto decodeShortSpec)

/-- 'charabanclaw08.DecodeSums', WHERE WHAT IT READS IS OF BULK AT MOST 1048576: true; the input reads as it did. -/
def decodeSumsUptoRow : OpenClaim := { program := "ytjmmhfkjmeblnaa", sum := "0b6db79b275d6818b7b7c7124448801619df862e1e8d05988a77efa26402e33a", func := "charabanc/charabanclaw08.DecodeSums", spec := "decodeSums", unfollowed := true, recurses := true, apart := false, narrowed := true }
def DecodeSumsUptoSaid : Prop := decodeSumsUptoRow.holds Try.pinned (OpenSpec.upto decodeSumsSpec)

end Rows
end Go.Proofs.Ytjmmhfkjmeblnaa
