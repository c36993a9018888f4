/- Layer 3 (sum): contracts of the document's own answers. -/
import Derived.Test.YtejmbdedlegnaaaDoorSumSub
namespace Go.Proofs.YtejmbdedlegnaaaDoor
open Go.RowKit
set_option linter.unusedVariables false
set_option linter.unusedSimpArgs false

theorem resultM_bits (r : Int) : isM (resultM r) 7 = isM r 7 ∧ isM (resultM r) 6 = (r == 0) ∧ isM (resultM r) 5 = isM r 5 ∧ isM (resultM r) 4 = false ∧ isM (resultM r) 3 = isM r 3 ∧ isM (resultM r) 2 = false ∧ isM (resultM r) 1 = false ∧ isM (resultM r) 0 = false := of_mkM _ _ _ _ _ _ _ _
theorem signed_bounds (a : Int) (h0 : 0 ≤ a) (h1 : a ≤ 255) : -128 ≤ signedM a ∧ signedM a ≤ 127 := by unfold signedM; split <;> omega
end Go.Proofs.YtejmbdedlegnaaaDoor
