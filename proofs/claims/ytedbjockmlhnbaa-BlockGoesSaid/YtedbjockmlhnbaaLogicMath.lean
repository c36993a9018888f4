/- Plain functions that say what layer 5 (logic) answers, and facts on them; nothing of the program. -/
import Derived.Test.YtedbjockmlhnbaaSumMath
namespace Go.Proofs.Ytedbjockmlhnbaa
set_option linter.unusedVariables false
set_option linter.unusedSimpArgs false

/-- the byte of what an operation makes of each two bits -/
def mergeM (op : Bool → Bool → Bool) (a b : Int) : Int :=
  mkM (op (isM a 7) (isM b 7)) (op (isM a 6) (isM b 6)) (op (isM a 5) (isM b 5)) (op (isM a 4) (isM b 4)) (op (isM a 3) (isM b 3)) (op (isM a 2) (isM b 2)) (op (isM a 1) (isM b 1)) (op (isM a 0) (isM b 0))
theorem mergeM_byte (op : Bool → Bool → Bool) (a b : Int) : B8 (mergeM op a b) := mkM_byte ..
/-- the bits laid from the lowest one on -/
def upM (b0 b1 b2 b3 b4 b5 b6 b7 : Bool) : Int :=
  withM (withM (withM (withM (withM (withM (withM (withM 0 0 b0) 1 b1) 2 b2) 3 b3) 4 b4) 5 b5) 6 b6) 7 b7
theorem up_mk : ∀ b0 b1 b2 b3 b4 b5 b6 b7 : Bool, upM b0 b1 b2 b3 b4 b5 b6 b7 = mkM b7 b6 b5 b4 b3 b2 b1 b0 := by decide +kernel
def andB (x y : Bool) : Bool := x && y
def orB (x y : Bool) : Bool := x || y
def xorB (x y : Bool) : Bool := x != y
def andR (a b : Int) : Int := mergeM andB a b
def orR (a b : Int) : Int := mergeM orB a b
def xorR (a b : Int) : Int := mergeM xorB a b
/-- the flags of a byte with an even number of bits, and H -/
def andFl (r : Int) : Int := mkM (isM r 7) (r == 0) (isM r 5) true (isM r 3) (evenM r) false false
theorem andFl_byte (r : Int) : B8 (andFl r) := mkM_byte ..
theorem andFl_fin : ∀ x : Fin 256, bits .or .u8 (evenFM (x.val : Int)) 16 = andFl (x.val : Int) := by decide +kernel
theorem andFl_all (r : Int) (h : B8 r) : bits .or .u8 (evenFM r) 16 = andFl r := byte_all (P := fun r => bits .or .u8 (evenFM r) 16 = andFl r) andFl_fin r h.1 h.2
theorem andFl_with (r : Int) (h : B8 r) : withM (evenFM r) 4 true = andFl r :=
  byte_all (P := fun r => withM (evenFM r) 4 true = andFl r) (by decide +kernel) r h.1 h.2
/-- flags with Y and X of a byte -/
def linesM (f a : Int) (h n c : Bool) : Int := mkM (isM f 7) (isM f 6) (isM a 5) h (isM a 3) (isM f 2) n c
theorem linesM_byte (f a : Int) (h n c : Bool) : B8 (linesM f a h n c) := mkM_byte ..
def cplF (a f : Int) : Int := linesM f (255 - a) true true (isM f 0)
def scfF (a f : Int) : Int := linesM f a false false true
def ccfF (a f : Int) : Int := linesM f a (isM f 0) false (!isM f 0)
/-- S, Z and P as they were, and Y and X of a byte -/
theorem kept_math (b f : Int) : keepM (resultM b) f 196 = linesM f b false false false := by
  obtain ⟨z0, z1, z2, z3, z4, z5, z6, z7⟩ : isM 196 0 = false ∧ isM 196 1 = false ∧ isM 196 2 = true ∧ isM 196 3 = false ∧ isM 196 4 = false ∧ isM 196 5 = false ∧ isM 196 6 = true ∧ isM 196 7 = true := by decide +kernel
  obtain ⟨e7, e6, e5, e4, e3, e2, e1, e0⟩ : isM (resultM b) 7 = _ ∧ isM (resultM b) 6 = _ ∧ isM (resultM b) 5 = _ ∧ isM (resultM b) 4 = _ ∧ isM (resultM b) 3 = _ ∧ isM (resultM b) 2 = _ ∧ isM (resultM b) 1 = _ ∧ isM (resultM b) 0 = _ := of_mkM _ _ _ _ _ _ _ _
  unfold keepM linesM
  rw [z0, z1, z2, z3, z4, z5, z6, z7, e0, e1, e3, e4, e5]
  rfl
theorem mk_or : ∀ b0 b1 b2 b3 b4 b5 b6 b7 : Bool, bits .or .u8 (mkM b0 b1 b2 b3 b4 b5 b6 b7) 1 = mkM b0 b1 b2 b3 b4 b5 b6 true ∧ bits .or .u8 (mkM b0 b1 b2 b3 b4 b5 b6 b7) 16 = mkM b0 b1 b2 true b4 b5 b6 b7 ∧ bits .or .u8 (mkM b0 b1 b2 b3 b4 b5 b6 b7) 2 = mkM b0 b1 b2 b3 b4 b5 true b7 ∧ bits .or .u8 (mkM b0 b1 b2 b3 b4 b5 b6 b7) 0 = mkM b0 b1 b2 b3 b4 b5 b6 b7 := by decide +kernel
theorem low_one : ∀ x : Fin 256, bits .and .u8 (x.val : Int) 1 = one (isM (x.val : Int) 0) := by decide +kernel
theorem low_all (f : Int) (h : B8 f) : bits .and .u8 f 1 = one (isM f 0) := byte_all (P := fun f => bits .and .u8 f 1 = one (isM f 0)) low_one f h.1 h.2
theorem or_one (b0 b1 b2 b3 b4 b5 b6 c : Bool) : bits .or .u8 (mkM b0 b1 b2 b3 b4 b5 b6 false) (one c) = mkM b0 b1 b2 b3 b4 b5 b6 c := by
  cases c
  · exact (mk_or b0 b1 b2 b3 b4 b5 b6 false).2.2.2
  · exact (mk_or b0 b1 b2 b3 b4 b5 b6 false).1
theorem cpl_math (a f : Int) (hf : B8 f) : bits .or .u8 (bits .or .u8 (bits .or .u8 (keepM (resultM (255 - a)) f 196) (bits .and .u8 f 1)) 16) 2 = cplF a f := by
  rw [kept_math, low_all f hf]
  unfold linesM cplF linesM
  rw [or_one, (mk_or _ _ _ _ _ _ _ _).2.1, (mk_or _ _ _ _ _ _ _ _).2.2.1]
theorem scf_math (a f : Int) : bits .or .u8 (keepM (resultM a) f 196) 1 = scfF a f := by
  rw [kept_math]
  unfold linesM scfF linesM
  rw [(mk_or _ _ _ _ _ _ _ _).1]
theorem ccf_no (a f : Int) (h : isM f 0 = false) : scfF a f = ccfF a f := by
  unfold scfF ccfF
  rw [h]
  rfl
theorem ccf_yes (a f : Int) (h : isM f 0 = true) : bits .or .u8 (keepM (resultM a) f 196) 16 = ccfF a f := by
  rw [kept_math]
  unfold linesM ccfF linesM
  rw [h, (mk_or _ _ _ _ _ _ _ _).2.1]
  rfl

/-- is the low digit wrong, the high one; by what a byte is corrected -/
def wrongLow (a f : Int) : Bool := isM f 4 || decide (9 < a % 16)
def wrongHigh (a f : Int) : Bool := isM f 0 || decide (153 < a)
def byM (a f : Int) : Int := (if wrongLow a f then 6 else 0) + (if wrongHigh a f then 96 else 0)
def daaR (a f : Int) : Int := if isM f 1 then (a - byM a f) % 256 else (a + byM a f) % 256
def daaF (a f : Int) : Int :=
  mkM (isM (daaR a f) 7) (daaR a f == 0) (isM (daaR a f) 5) (isM a 4 != isM (daaR a f) 4) (isM (daaR a f) 3) (evenM (daaR a f)) (isM f 1) (wrongHigh a f)
theorem daaR_byte (a f : Int) : B8 (daaR a f) := by unfold daaR B8; split <;> omega
theorem daaF_byte (a f : Int) : B8 (daaF a f) := mkM_byte ..
theorem byM_byte (a f : Int) : 0 ≤ byM a f ∧ byM a f ≤ 102 := by unfold byM; split <;> split <;> omega
end Go.Proofs.Ytedbjockmlhnbaa
