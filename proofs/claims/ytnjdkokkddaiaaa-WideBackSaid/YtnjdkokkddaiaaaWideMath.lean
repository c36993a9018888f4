/- Plain functions on integers that say what layer 4 (wide) answers, and facts on them; nothing of the program. -/
import Derived.Test.YtnjdkokkddaiaaaSumMath
namespace Go.Proofs.Ytnjdkokkddaiaaa
set_option linter.unusedVariables false
set_option linter.unusedSimpArgs false

/-- a word -/
def W16 (x : Int) : Prop := 0 ≤ x ∧ x ≤ 65535
theorem W16.lo {x : Int} (h : W16 x) : 0 ≤ x := h.1
theorem W16.hi {x : Int} (h : W16 x) : x ≤ 65535 := h.2
theorem W16.low {x : Int} (h : W16 x) : B8 (x % 256) := by unfold B8; omega
theorem W16.high {x : Int} (h : W16 x) : B8 (x / 256) := by obtain ⟨h0, h1⟩ := h; unfold B8; omega
def signedW (w : Int) : Int := if w < 32768 then w else w - 65536
/-- a number that is no signed word -/
def farW (n : Int) : Bool := decide (n < -32768) || decide (32767 < n)
def adcW (a b : Int) (c : Bool) : Int := (a + b + one c) % 65536
def sbcW (a b : Int) (c : Bool) : Int := (a - b - one c) % 65536
/-- all flags of a word that came out -/
def wideF (r : Int) (half over minus out : Bool) : Int :=
  mkM (isM (r / 256) 7) (r == 0) (isM (r / 256) 5) half (isM (r / 256) 3) over minus out
def adcF (a b : Int) (c : Bool) : Int :=
  wideF (adcW a b c) (decide (4095 < a % 4096 + b % 4096 + one c)) (farW (signedW a + signedW b + one c)) false (decide (65535 < a + b + one c))
def sbcF (a b : Int) (c : Bool) : Int :=
  wideF (sbcW a b c) (decide (a % 4096 - b % 4096 - one c < 0)) (farW (signedW a - signedW b - one c)) true (decide (a - b - one c < 0))
def addWF (a b f : Int) : Int :=
  mkM (isM f 7) (isM f 6) (isM (adcW a b false / 256) 5) (decide (4095 < a % 4096 + b % 4096)) (isM (adcW a b false / 256) 3) (isM f 2) false (decide (65535 < a + b))
def moveM (w y : Int) : Int := (w + y) % 65536
theorem adcW_word (a b : Int) (c : Bool) : W16 (adcW a b c) := by unfold adcW W16; omega
theorem sbcW_word (a b : Int) (c : Bool) : W16 (sbcW a b c) := by unfold sbcW W16; omega
theorem moveM_word (a b : Int) : W16 (moveM a b) := by unfold moveM W16; omega
theorem adcF_byte (a b : Int) (c : Bool) : B8 (adcF a b c) := mkM_byte ..
theorem sbcF_byte (a b : Int) (c : Bool) : B8 (sbcF a b c) := mkM_byte ..
theorem addWF_byte (a b f : Int) : B8 (addWF a b f) := mkM_byte ..

/-- the carry out of the lower bytes -/
def midA (a b : Int) (c : Bool) : Bool := isM (addF (a % 256) (b % 256) c) 0
def midS (a b : Int) (c : Bool) : Bool := isM (subF (a % 256) (b % 256) c) 0
theorem addF_bit0' (a b : Int) (c : Bool) : isM (addF a b c) 0 = decide (255 < a + b + one c) := (of_mkM _ _ _ _ _ _ _ _).2.2.2.2.2.2.2
theorem subF_bit0' (a b : Int) (c : Bool) : isM (subF a b c) 0 = decide (a - b - one c < 0) := (of_mkM _ _ _ _ _ _ _ _).2.2.2.2.2.2.2
theorem one_dec (p : Prop) [Decidable p] : one (decide p) = if p then 1 else 0 := by unfold one; by_cases h : p <;> simp [h]
theorem keepZ (x0 x1 x2 x3 x4 x5 x6 x7 : Bool) (f : Int) : keepM (mkM x0 x1 x2 x3 x4 x5 x6 x7) f 64 = mkM x0 (isM f 6) x2 x3 x4 x5 x6 x7 := by
  unfold keepM
  obtain ⟨h0, h1, h2, h3, h4, h5, h6, h7⟩ := of_mkM x0 x1 x2 x3 x4 x5 x6 x7
  obtain ⟨z0, z1, z2, z3, z4, z5, z6, z7⟩ : isM 64 0 = false ∧ isM 64 1 = false ∧ isM 64 2 = false ∧ isM 64 3 = false ∧ isM 64 4 = false ∧ isM 64 5 = false ∧ isM 64 6 = true ∧ isM 64 7 = false := by decide +kernel
  rw [h0, h1, h2, h3, h4, h5, h6, h7, z0, z1, z2, z3, z4, z5, z6, z7]
  rfl
theorem keepSZP (x0 x1 x2 x3 x4 x5 x6 x7 : Bool) (f : Int) : keepM (mkM x0 x1 x2 x3 x4 x5 x6 x7) f 196 = mkM (isM f 7) (isM f 6) x2 x3 x4 (isM f 2) x6 x7 := by
  unfold keepM
  obtain ⟨h0, h1, h2, h3, h4, h5, h6, h7⟩ := of_mkM x0 x1 x2 x3 x4 x5 x6 x7
  obtain ⟨z0, z1, z2, z3, z4, z5, z6, z7⟩ : isM 196 0 = false ∧ isM 196 1 = false ∧ isM 196 2 = true ∧ isM 196 3 = false ∧ isM 196 4 = false ∧ isM 196 5 = false ∧ isM 196 6 = true ∧ isM 196 7 = true := by decide +kernel
  rw [h0, h1, h2, h3, h4, h5, h6, h7, z0, z1, z2, z3, z4, z5, z6, z7]
  rfl
/-- the word of the two bytes' sums -/
theorem adc_word (a b : Int) (c : Bool) (ha : W16 a) (hb : W16 b) : 256 * addR (a / 256) (b / 256) (midA a b c) + addR (a % 256) (b % 256) c = adcW a b c := by
  obtain ⟨a0, a1⟩ := ha
  obtain ⟨b0, b1⟩ := hb
  have key := one_bounds c
  unfold midA
  rw [addF_bit0']
  unfold addR adcW
  rw [one_dec]
  split <;> omega
theorem sbc_word (a b : Int) (c : Bool) (ha : W16 a) (hb : W16 b) : 256 * subR (a / 256) (b / 256) (midS a b c) + subR (a % 256) (b % 256) c = sbcW a b c := by
  obtain ⟨a0, a1⟩ := ha
  obtain ⟨b0, b1⟩ := hb
  have key := one_bounds c
  unfold midS
  rw [subF_bit0']
  unfold subR sbcW
  rw [one_dec]
  split <;> omega
theorem zboth (x y : Int) (hx : B8 x) (hy : B8 y) : (x == 0 && y == 0) = (256 * x + y == 0) := by
  obtain ⟨x0, x1⟩ := hx
  obtain ⟨y0, y1⟩ := hy
  rw [Bool.eq_iff_iff]; simp; omega
theorem adc_flags (a b : Int) (c : Bool) (ha : W16 a) (hb : W16 b) :
    keepM (addF (a / 256) (b / 256) (midA a b c)) (bits .and .u8 (addF (a / 256) (b / 256) (midA a b c)) (addF (a % 256) (b % 256) c)) 64 = adcF a b c := by
  have hw := adc_word a b c ha hb
  have r1 := addR_byte (a / 256) (b / 256) (midA a b c)
  have r2 := addR_byte (a % 256) (b % 256) c
  have z : isM (bits .and .u8 (addF (a / 256) (b / 256) (midA a b c)) (addF (a % 256) (b % 256) c)) 6 = (adcW a b c == 0) := by
    rw [← hw, ← zboth _ _ r1 r2]
    have f1 := addF_byte (a / 256) (b / 256) (midA a b c)
    have f2 := addF_byte (a % 256) (b % 256) c
    have := isM_and _ _ 6 (by omega) f1.1 f1.2 f2.1 f2.2
    rw [show ((6 : Nat) : Int) = 6 from rfl] at this
    rw [this]
    exact congr (congrArg _ (of_mkM _ _ _ _ _ _ _ _).2.1) (of_mkM _ _ _ _ _ _ _ _).2.1
  have hh : addR (a / 256) (b / 256) (midA a b c) = adcW a b c / 256 := by
    obtain ⟨x0, x1⟩ := r2
    rw [← hw]; omega
  generalize bits .and .u8 (addF (a / 256) (b / 256) (midA a b c)) (addF (a % 256) (b % 256) c) = y at z ⊢
  unfold addF
  rw [keepZ, z, hh]
  unfold adcF wideF
  obtain ⟨a0, a1⟩ := ha
  obtain ⟨b0, b1⟩ := hb
  have key := one_bounds c
  have m : one (midA a b c) = if 255 < a % 256 + b % 256 + one c then 1 else 0 := by unfold midA; rw [addF_bit0', one_dec]
  have n4 : decide (15 < a / 256 % 16 + b / 256 % 16 + one (midA a b c)) = decide (4095 < a % 4096 + b % 4096 + one c) := by
    rw [m, Bool.eq_iff_iff]; simp; split <;> omega
  have n8 : decide (255 < a / 256 + b / 256 + one (midA a b c)) = decide (65535 < a + b + one c) := by
    rw [m, Bool.eq_iff_iff]; simp; split <;> omega
  have n7 : farM (signedM (a / 256) + signedM (b / 256) + one (midA a b c)) = farW (signedW a + signedW b + one c) := by
    unfold farM farW signedM signedW
    rw [m, Bool.eq_iff_iff]
    simp
    split <;> split <;> split <;> split <;> split <;> omega
  rw [n4, n8, n7]
theorem sbc_flags (a b : Int) (c : Bool) (ha : W16 a) (hb : W16 b) :
    keepM (subF (a / 256) (b / 256) (midS a b c)) (bits .and .u8 (subF (a / 256) (b / 256) (midS a b c)) (subF (a % 256) (b % 256) c)) 64 = sbcF a b c := by
  have hw := sbc_word a b c ha hb
  have r1 := subR_byte (a / 256) (b / 256) (midS a b c)
  have r2 := subR_byte (a % 256) (b % 256) c
  have z : isM (bits .and .u8 (subF (a / 256) (b / 256) (midS a b c)) (subF (a % 256) (b % 256) c)) 6 = (sbcW a b c == 0) := by
    rw [← hw, ← zboth _ _ r1 r2]
    have f1 := subF_byte (a / 256) (b / 256) (midS a b c)
    have f2 := subF_byte (a % 256) (b % 256) c
    have := isM_and _ _ 6 (by omega) f1.1 f1.2 f2.1 f2.2
    rw [show ((6 : Nat) : Int) = 6 from rfl] at this
    rw [this]
    exact congr (congrArg _ (of_mkM _ _ _ _ _ _ _ _).2.1) (of_mkM _ _ _ _ _ _ _ _).2.1
  have hh : subR (a / 256) (b / 256) (midS a b c) = sbcW a b c / 256 := by
    obtain ⟨x0, x1⟩ := r2
    rw [← hw]; omega
  generalize bits .and .u8 (subF (a / 256) (b / 256) (midS a b c)) (subF (a % 256) (b % 256) c) = y at z ⊢
  unfold subF
  rw [keepZ, z, hh]
  unfold sbcF wideF
  obtain ⟨a0, a1⟩ := ha
  obtain ⟨b0, b1⟩ := hb
  have key := one_bounds c
  have m : one (midS a b c) = if a % 256 - b % 256 - one c < 0 then 1 else 0 := by unfold midS; rw [subF_bit0', one_dec]
  have n4 : decide (a / 256 % 16 - b / 256 % 16 - one (midS a b c) < 0) = decide (a % 4096 - b % 4096 - one c < 0) := by
    rw [m, Bool.eq_iff_iff]; simp; split <;> omega
  have n8 : decide (a / 256 - b / 256 - one (midS a b c) < 0) = decide (a - b - one c < 0) := by
    rw [m, Bool.eq_iff_iff]; simp; split <;> omega
  have n7 : farM (signedM (a / 256) - signedM (b / 256) - one (midS a b c)) = farW (signedW a - signedW b - one c) := by
    unfold farM farW signedM signedW
    rw [m, Bool.eq_iff_iff]
    simp
    split <;> split <;> split <;> split <;> split <;> omega
  rw [n4, n8, n7]
theorem add_flags (a b f : Int) : keepM (adcF a b false) f 196 = addWF a b f := by
  unfold adcF wideF
  rw [keepSZP]
  have o : one false = 0 := rfl
  unfold addWF
  rw [o, Int.add_zero, Int.add_zero]
end Go.Proofs.Ytnjdkokkddaiaaa
