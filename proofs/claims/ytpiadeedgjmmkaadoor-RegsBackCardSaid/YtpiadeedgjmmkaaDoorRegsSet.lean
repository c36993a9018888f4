/- Layer 11 (regs): Set: contract. Written by tools/regs.py. -/
import Derived.Test.YtpiadeedgjmmkaaDoorRegsSetA
import Derived.Test.YtpiadeedgjmmkaaDoorRegsSetB
import Derived.Deep.DeepCutAuto
import Derived.Deep.QuietTactic
namespace Go.Proofs.YtpiadeedgjmmkaaDoor
open Go.RowKit
set_option linter.unusedVariables false
set_option linter.unusedSimpArgs false

theorem set_any (g : Rg) (hg : RgB g) (p k v : Int) (hv : B8 v) (w : World) :
    Calls Tryd.prog 22 #[regsV g, .int .i64 p, .int .i64 k, .int .u8 v] w fun e w' => e = .returned (regsV (setG g p k v)) ∧ Below w.heap.size w w' := by
  by_cases hn : k < 0 ∨ k = 6 ∨ 7 < k
  · rw [setG_no g p k v hn]
    exact set_no g p k v hn w
  obtain rfl | rfl | rfl | rfl | rfl | rfl | rfl : k = 0 ∨ k = 1 ∨ k = 2 ∨ k = 3 ∨ k = 4 ∨ k = 5 ∨ k = 7 := by omega
  · exact set_0bc g p v hg.bc hv w
  · exact set_1bc g p v hg.bc hv w
  · exact set_2de g p v hg.de hv w
  · exact set_3de g p v hg.de hv w
  · show Calls _ _ _ _ fun e w' => e = .returned (regsV (setPairG g p 2 (256 * v + pairG g p 2 % 256))) ∧ _
    rw [setPairG_2, pairG_2]
    by_cases h3 : p = 3
    · rw [if_pos h3, if_pos h3]
      exact set_4ix g p v (thirdF_dd h3) hg.ix hv w
    by_cases h4 : p = 4
    · rw [if_neg h3, if_pos h4, if_neg h3, if_pos h4]
      exact set_4iy g p v (thirdF_fd h3 h4) hg.iy hv w
    · rw [if_neg h3, if_neg h4, if_neg h3, if_neg h4]
      exact set_4hl g p v (thirdF_hl h3 h4) hg.hl hv w
  · show Calls _ _ _ _ fun e w' => e = .returned (regsV (setPairG g p 2 (256 * (pairG g p 2 / 256) + v))) ∧ _
    rw [setPairG_2, pairG_2]
    by_cases h3 : p = 3
    · rw [if_pos h3, if_pos h3]
      exact set_5ix g p v (thirdF_dd h3) hg.ix hv w
    by_cases h4 : p = 4
    · rw [if_neg h3, if_pos h4, if_neg h3, if_pos h4]
      exact set_5iy g p v (thirdF_fd h3 h4) hg.iy hv w
    · rw [if_neg h3, if_neg h4, if_neg h3, if_neg h4]
      exact set_5hl g p v (thirdF_hl h3 h4) hg.hl hv w
  · exact set_7af g p v hg.af hv w
end Go.Proofs.YtpiadeedgjmmkaaDoor
