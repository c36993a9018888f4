/- Layer 8 (decode): prefixes and Bytes: contracts. -/
import Derived.Test.YtlmeekaemhghgaaDoorDecodeNext
import Derived.Deep.DeepCutAuto
import Derived.Laws.AppendOwn
import Derived.Laws.OwnMore
import Derived.OwnWalk
namespace Go.Proofs.YtlmeekaemhghgaaDoor
open Go.RowKit
set_option linter.unusedVariables false
set_option linter.unusedSimpArgs false

/-- bytes as values -/
def bvs (l : List Int) : List Value := l.map fun x => .int .u8 x
/-- the prefix bytes of a plane -/
def preL (p : Int) : List Int := if p = 1 then [203] else if p = 2 then [237] else if p = 3 then [221] else if p = 4 then [253] else if p = 5 then [221, 203] else if p = 6 then [253, 203] else []
end Go.Proofs.YtlmeekaemhghgaaDoor
