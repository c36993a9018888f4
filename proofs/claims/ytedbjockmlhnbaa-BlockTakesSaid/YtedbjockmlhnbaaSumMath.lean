/- Plain functions on integers that say what layer 3 (sum) answers, and facts on them; nothing of the program. -/
import Derived.Test.YtedbjockmlhnbaaFlagsKeep
namespace Go.Proofs.Ytedbjockmlhnbaa
set_option linter.unusedVariables false
set_option linter.unusedSimpArgs false

/-- a carry as a number -/
def one (c : Bool) : Int := if c then 1 else 0
theorem one_bounds (c : Bool) : 0 ≤ one c ∧ one c ≤ 1 := by cases c <;> decide
/-- a number that is no signed byte -/
def farM (n : Int) : Bool := decide (n < -128) || decide (127 < n)
def addR (a b : Int) (c : Bool) : Int := (a + b + one c) % 256
def addF (a b : Int) (c : Bool) : Int :=
  mkM (isM (addR a b c) 7) (addR a b c == 0) (isM (addR a b c) 5) (decide (15 < a % 16 + b % 16 + one c)) (isM (addR a b c) 3) (farM (signedM a + signedM b + one c)) false (decide (255 < a + b + one c))
def subR (a b : Int) (c : Bool) : Int := (a - b - one c) % 256
def subF (a b : Int) (c : Bool) : Int :=
  mkM (isM (subR a b c) 7) (subR a b c == 0) (isM (subR a b c) 5) (decide (a % 16 - b % 16 - one c < 0)) (isM (subR a b c) 3) (farM (signedM a - signedM b - one c)) true (decide (a - b - one c < 0))
def cmpF (a b : Int) : Int :=
  mkM (isM (subR a b false) 7) (subR a b false == 0) (isM b 5) (decide (a % 16 - b % 16 - one false < 0)) (isM b 3) (farM (signedM a - signedM b - one false)) true (decide (a - b - one false < 0))
def incF (a f : Int) : Int :=
  mkM (isM (addR a 1 false) 7) (addR a 1 false == 0) (isM (addR a 1 false) 5) (decide (15 < a % 16 + 1 % 16 + one false)) (isM (addR a 1 false) 3) (farM (signedM a + signedM 1 + one false)) false (isM f 0)
def decF (a f : Int) : Int :=
  mkM (isM (subR a 1 false) 7) (subR a 1 false == 0) (isM (subR a 1 false) 5) (decide (a % 16 - 1 % 16 - one false < 0)) (isM (subR a 1 false) 3) (farM (signedM a - signedM 1 - one false)) true (isM f 0)
theorem addR_byte (a b : Int) (c : Bool) : B8 (addR a b c) := by unfold addR B8; omega
theorem subR_byte (a b : Int) (c : Bool) : B8 (subR a b c) := by unfold subR B8; omega
theorem addF_byte (a b : Int) (c : Bool) : B8 (addF a b c) := mkM_byte ..
theorem subF_byte (a b : Int) (c : Bool) : B8 (subF a b c) := mkM_byte ..
theorem cmpF_byte (a b : Int) : B8 (cmpF a b) := mkM_byte ..
theorem incF_byte (a b : Int) : B8 (incF a b) := mkM_byte ..
theorem decF_byte (a b : Int) : B8 (decF a b) := mkM_byte ..

/-- the carry into the bit k -/
def cK (a b : Int) (c : Bool) (k : Nat) : Bool := decide (2 ^ k ≤ a % 2 ^ k + b % 2 ^ k + one c)
theorem cK_zero (a b : Int) (c : Bool) : cK a b c 0 = c := by
  unfold cK one
  cases c <;> simp <;> omega
theorem cK_step (a b : Int) (c : Bool) (k : Nat) (hk : k < 8) : cK a b c (k + 1) = if cK a b c k then (isM a k || isM b k) else (isM a k && isM b k) := by
  have key := one_bounds c
  refine nat8 (fun k => cK a b c (k + 1) = if cK a b c k then (isM a k || isM b k) else (isM a k && isM b k)) ?_ k hk
  unfold cK isM
  generalize one c = o at key ⊢
  refine ⟨?_, ?_, ?_, ?_, ?_, ?_, ?_, ?_⟩
  all_goals
    rw [Bool.eq_iff_iff]
    simp
    split <;> omega
/-- the bits below k out of which the sum carries -/
def outM (a b : Int) (c : Bool) : Nat → Int
  | 0 => 0
  | k + 1 => if cK a b c (k + 1) then withM (outM a b c k) k true else outM a b c k
theorem outM_byte (a b : Int) (c : Bool) : ∀ k, B8 (outM a b c k)
  | 0 => B8.zero
  | k + 1 => by
    unfold outM
    split
    · exact (outM_byte a b c k).with _ _
    · exact outM_byte a b c k
theorem out8_bits : ∀ c1 c2 c3 c4 c5 c6 c7 c8 : Bool,
    let w := fun (x : Int) (k : Int) (c : Bool) => if c then withM x k true else x
    let o := w (w (w (w (w (w (w (w 0 0 c1) 1 c2) 2 c3) 3 c4) 4 c5) 5 c6) 6 c7) 7 c8
    isM o 3 = c4 ∧ isM o 6 = c7 ∧ isM o 7 = c8 := by decide +kernel
theorem out_bits (a b : Int) (c : Bool) : isM (outM a b c 8) 3 = cK a b c 4 ∧ isM (outM a b c 8) 6 = cK a b c 7 ∧ isM (outM a b c 8) 7 = cK a b c 8 :=
  out8_bits (cK a b c 1) (cK a b c 2) (cK a b c 3) (cK a b c 4) (cK a b c 5) (cK a b c 6) (cK a b c 7) (cK a b c 8)
/-- what the bits' carries are as numbers -/
theorem cK_nums (a b : Int) (c : Bool) (ha : B8 a) (hb : B8 b) : cK a b c 4 = decide (15 < a % 16 + b % 16 + one c) ∧ cK a b c 8 = decide (255 < a + b + one c) ∧ (cK a b c 7 != cK a b c 8) = farM (signedM a + signedM b + one c) := by
  obtain ⟨a0, a1⟩ := ha
  obtain ⟨b0, b1⟩ := hb
  have key := one_bounds c
  unfold cK farM signedM
  generalize one c = o at key ⊢
  refine ⟨?_, ?_, ?_⟩
  · rw [Bool.eq_iff_iff]; simp; omega
  · rw [Bool.eq_iff_iff]; simp; omega
  · rw [Bool.eq_iff_iff]
    simp
    split <;> split <;> omega
end Go.Proofs.Ytedbjockmlhnbaa
