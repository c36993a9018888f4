/- Layer 2 (flags): contracts of Make, Of and the document's own. -/
import Derived.Test.YtlmeekaemhghgaaDoorBitsRef
import Derived.Test.YtlmeekaemhghgaaDoorBitsIter
import Derived.Test.YtlmeekaemhghgaaDoorFlagsMath
import Derived.Handy
import Derived.ChangeKeysEq
namespace Go.Proofs.YtlmeekaemhghgaaDoor
open Go.RowKit
set_option linter.unusedVariables false

theorem run_index_arr {P : Program} {t e : TypeId} {n : Nat} {cs : Array Value} {k : IntKind} {i : Int} {w : World} {v : Value} (h : P.underlying t = some (.array n e)) (he : P.plainKey e = true) (hs : (sizeOf e).run P w = .ok 1 w) (hi : 0 ≤ i ∧ i < n) (hv : cs[i.toNat]? = some v) :
    (Instr.index t (.agg cs) (.int k i)).run P w = .ok v w := by
  simp [Instr.index, asIntOf, run_underlying h, hi, hs, run_part_plain w he hv]

/-- eight flags as a value -/
abbrev v8 (b0 b1 b2 b3 b4 b5 b6 b7 : Bool) : Value := .agg #[.bool b0, .bool b1, .bool b2, .bool b3, .bool b4, .bool b5, .bool b6, .bool b7]

/-- the eight flags of a byte as a value -/
abbrev of8 (f : Int) : Value := v8 (isM f 7) (isM f 6) (isM f 5) (isM f 4) (isM f 3) (isM f 2) (isM f 1) (isM f 0)

end Go.Proofs.YtlmeekaemhghgaaDoor
