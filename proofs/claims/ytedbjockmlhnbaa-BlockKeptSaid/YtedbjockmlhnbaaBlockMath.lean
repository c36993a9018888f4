/- Plain functions that say what layer 7 (block) answers, and facts on them; nothing of the program. -/
import Derived.Test.YtedbjockmlhnbaaLogicMath
import Derived.Test.YtedbjockmlhnbaaBitOps
namespace Go.Proofs.Ytedbjockmlhnbaa
set_option linter.unusedVariables false
set_option linter.unusedSimpArgs false

/-- the sum of two bytes -/
def plusM (a b : Int) : Int := (a + b) % 256
theorem plusM_byte (a b : Int) : B8 (plusM a b) := by unfold plusM B8; omega
/-- the difference, and one less behind a borrow of the low digits -/
def lessM (a b : Int) : Int := if isM (subF a b false) 4 then (subR a b false + 255) % 256 else subR a b false
theorem lessM_byte (a b : Int) : B8 (lessM a b) := by
  unfold lessM
  split
  · unfold B8; omega
  · exact subR_byte ..
theorem lessM_yes (a b : Int) (h : isM (subF a b false) 4 = true) : (subR a b false + 255) % 256 = lessM a b := by unfold lessM; rw [if_pos h]
theorem lessM_yes' (a b : Int) (h : isM (subF a b false) 4 = true) : (subR a b false - 1) % 256 = lessM a b := by
  rw [← lessM_yes a b h]; omega
theorem lessM_no (a b : Int) (h : isM (subF a b false) 4 = false) : subR a b false = lessM a b := by unfold lessM; rw [if_neg (by simp [h])]

def moveF (a b bc f : Int) : Int := mkM (isM f 7) (isM f 6) (isM (plusM a b) 1) false (isM (plusM a b) 3) (bc != 0) false (isM f 0)
def findF (a b bc f : Int) : Int :=
  mkM (isM (subF a b false) 7) (isM (subF a b false) 6) (isM (lessM a b) 1) (isM (subF a b false) 4) (isM (lessM a b) 3) (bc != 0) true (isM f 0)
def passF (b k left : Int) : Int :=
  mkM (isM left 7) (left == 0) (isM left 5) (decide (255 < k)) (isM left 3) (evenM (xorR (k % 8) left)) (isM b 7) (decide (255 < k))
/-- C behind the byte, by any step -/
def byC (c s : Int) : Int := (c + s) % 256
theorem byC_byte (c s : Int) : B8 (byC c s) := by unfold byC B8; omega
theorem moveF_byte (a b bc f : Int) : B8 (moveF a b bc f) := mkM_byte ..
theorem findF_byte (a b bc f : Int) : B8 (findF a b bc f) := mkM_byte ..
theorem passF_byte (b k left : Int) : B8 (passF b k left) := mkM_byte ..
def againM (kind f : Int) : Bool :=
  if kind = 0 then isM f 2 else if kind = 1 then isM f 2 && !isM f 6 else if kind = 2 then !isM f 6 else if kind = 3 then !isM f 6 else false
theorem againM_out (kind f : Int) (h : kind < 0 ∨ 4 ≤ kind) : againM kind f = false := by
  unfold againM
  repeat (rw [if_neg (by omega)])

/-- the disjunction of two bytes that differ is the machine's -/
theorem xorR_bits (a b : Int) (ha : B8 a) (hb : B8 b) : bits .xor .u8 a b = xorR a b := by
  have q := xor_byte a b ha.1 ha.2 hb.1 hb.2
  have r : B8 (xorR a b) := mergeM_byte ..
  refine byte_ext _ _ q.1 q.2 r.1 r.2 fun n hn => ?_
  rw [isM_xor a b n hn ha.1 ha.2 hb.1 hb.2]
  unfold xorR mergeM
  rw [isM_mkM _ _ _ _ _ _ _ _ n hn]
  refine nat8 (fun n => (isM a n ^^ isM b n) = [_, _, _, _, _, _, _, _].getD n false) ?_ n hn
  simp only [List.getD_cons_zero, List.getD_cons_succ, xorB]
  exact ⟨rfl, rfl, rfl, rfl, rfl, rfl, rfl, rfl⟩
end Go.Proofs.Ytedbjockmlhnbaa
