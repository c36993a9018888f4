/- Contracts and facts that the claim's proof wants (several texts in one). -/
import Derived.OrdersHeld
import Derived.StillTail
import Derived.Test.YtkenebbjodcbcaaGreatDoorCoG1
namespace Go.Proofs.YtkenebbjodcbcaaGreatDoor
open Go.RowKit
set_option linter.unusedVariables false
set_option linter.unusedSimpArgs false
set_option maxRecDepth 20000
set_option maxHeartbeats 20000000
theorem nat8 (P : Nat → Prop) (h : P 0 ∧ P 1 ∧ P 2 ∧ P 3 ∧ P 4 ∧ P 5 ∧ P 6 ∧ P 7) (n : Nat) (hn : n < 8) : P n := by
  obtain ⟨h0, h1, h2, h3, h4, h5, h6, h7⟩ := h
  match n, hn with
  | 0, _ => exact h0
  | 1, _ => exact h1
  | 2, _ => exact h2
  | 3, _ => exact h3
  | 4, _ => exact h4
  | 5, _ => exact h5
  | 6, _ => exact h6
  | 7, _ => exact h7
theorem isM_mkM (b0 b1 b2 b3 b4 b5 b6 b7 : Bool) (n : Nat) (hn : n < 8) : isM (mkM b0 b1 b2 b3 b4 b5 b6 b7) (n : Int) = [b7, b6, b5, b4, b3, b2, b1, b0].getD n false := by
  obtain ⟨h0, h1, h2, h3, h4, h5, h6, h7⟩ := of_mkM b0 b1 b2 b3 b4 b5 b6 b7
  exact nat8 (fun n => isM (mkM b0 b1 b2 b3 b4 b5 b6 b7) (n : Int) = [b7, b6, b5, b4, b3, b2, b1, b0].getD n false) ⟨h7, h6, h5, h4, h3, h2, h1, h0⟩ n hn
theorem keep_all (f o m : Int) (h0 : 0 ≤ f) (h1 : f ≤ 255) (h2 : 0 ≤ o) (h3 : o ≤ 255) (h4 : 0 ≤ m) (h5 : m ≤ 255) :
    bits .or .u8 (bits .andNot .u8 f m) (bits .and .u8 o m) = keepM f o m := by
  have a := andNot_byte f m h0 h1 h4 h5
  have b := and_byte o m h2 h3 h4 h5
  have c := or_byte _ _ a.1 a.2 b.1 b.2
  have d := keepM_byte f o m
  refine byte_ext _ _ c.1 c.2 d.1 d.2 fun n hn => ?_
  rw [isM_or _ _ n hn a.1 a.2 b.1 b.2, isM_andNot _ _ n hn h0 h1 h4 h5, isM_and _ _ n hn h2 h3 h4 h5]
  unfold keepM
  rw [isM_mkM _ _ _ _ _ _ _ _ n hn]
  refine nat8 (fun n => ((isM f n && !isM m n) || (isM o n && isM m n)) = [_, _, _, _, _, _, _, _].getD n false) ?_ n hn
  simp only [List.getD_cons_zero, List.getD_cons_succ, sel]
  refine ⟨?_, ?_, ?_, ?_, ?_, ?_, ?_, ?_⟩
  · cases isM m 0 <;> simp
  · cases isM m 1 <;> simp
  · cases isM m 2 <;> simp
  · cases isM m 3 <;> simp
  · cases isM m 4 <;> simp
  · cases isM m 5 <;> simp
  · cases isM m 6 <;> simp
  · cases isM m 7 <;> simp
theorem keep_any (f o m : Int) (h0 : 0 ≤ f) (h1 : f ≤ 255) (h2 : 0 ≤ o) (h3 : o ≤ 255) (h4 : 0 ≤ m) (h5 : m ≤ 255) (w : World) :
    Calls Tryz.prog 257 #[.int .u8 f, .int .u8 o, .int .u8 m] w fun e w' => e = .returned (.int .u8 (keepM f o m)) ∧ w = w' := by
  have H := Lib.hid (keep_all f o m h0 h1 h2 h3 h4 h5)
  go_enter Tryz.func257, Tryz.ntmps257
  go_wp2
  go_ret
  exact ⟨ret_int H.out, rfl⟩
def fl (f : Int) (j : Nat) : Bool := isM f (7 - (j : Int))
def kept (f o m : Int) (k j : Nat) : Bool := if j < k then sel (fl m j) (fl f j) (fl o j) else fl f j
def one (c : Bool) : Int := if c then 1 else 0
theorem one_bounds (c : Bool) : 0 ≤ one c ∧ one c ≤ 1 := by cases c <;> decide
def farM (n : Int) : Bool := decide (n < -128) || decide (127 < n)
def addR (a b : Int) (c : Bool) : Int := (a + b + one c) % 256
def addF (a b : Int) (c : Bool) : Int :=
  mkM (isM (addR a b c) 7) (addR a b c == 0) (isM (addR a b c) 5) (decide (15 < a % 16 + b % 16 + one c)) (isM (addR a b c) 3) (farM (signedM a + signedM b + one c)) false (decide (255 < a + b + one c))
def subR (a b : Int) (c : Bool) : Int := (a - b - one c) % 256
def subF (a b : Int) (c : Bool) : Int :=
  mkM (isM (subR a b c) 7) (subR a b c == 0) (isM (subR a b c) 5) (decide (a % 16 - b % 16 - one c < 0)) (isM (subR a b c) 3) (farM (signedM a - signedM b - one c)) true (decide (a - b - one c < 0))
def cmpF (a b : Int) : Int :=
  mkM (isM (subR a b false) 7) (subR a b false == 0) (isM b 5) (decide (a % 16 - b % 16 - one false < 0)) (isM b 3) (farM (signedM a - signedM b - one false)) true (decide (a - b - one false < 0))
def incF (a f : Int) : Int :=
  mkM (isM (addR a 1 false) 7) (addR a 1 false == 0) (isM (addR a 1 false) 5) (decide (15 < a % 16 + 1 % 16 + one false)) (isM (addR a 1 false) 3) (farM (signedM a + signedM 1 + one false)) false (isM f 0)
def decF (a f : Int) : Int :=
  mkM (isM (subR a 1 false) 7) (subR a 1 false == 0) (isM (subR a 1 false) 5) (decide (a % 16 - 1 % 16 - one false < 0)) (isM (subR a 1 false) 3) (farM (signedM a - signedM 1 - one false)) true (isM f 0)
theorem addR_byte (a b : Int) (c : Bool) : B8 (addR a b c) := by unfold addR B8; omega
theorem subR_byte (a b : Int) (c : Bool) : B8 (subR a b c) := by unfold subR B8; omega
theorem addF_byte (a b : Int) (c : Bool) : B8 (addF a b c) := mkM_byte ..
theorem subF_byte (a b : Int) (c : Bool) : B8 (subF a b c) := mkM_byte ..
theorem cmpF_byte (a b : Int) : B8 (cmpF a b) := mkM_byte ..
theorem incF_byte (a b : Int) : B8 (incF a b) := mkM_byte ..
theorem decF_byte (a b : Int) : B8 (decF a b) := mkM_byte ..
def cK (a b : Int) (c : Bool) (k : Nat) : Bool := decide (2 ^ k ≤ a % 2 ^ k + b % 2 ^ k + one c)
theorem cK_zero (a b : Int) (c : Bool) : cK a b c 0 = c := by
  unfold cK one
  cases c <;> simp <;> omega
theorem cK_step (a b : Int) (c : Bool) (k : Nat) (hk : k < 8) : cK a b c (k + 1) = if cK a b c k then (isM a k || isM b k) else (isM a k && isM b k) := by
  have key := one_bounds c
  refine nat8 (fun k => cK a b c (k + 1) = if cK a b c k then (isM a k || isM b k) else (isM a k && isM b k)) ?_ k hk
  unfold cK isM
  generalize one c = o at key ⊢
  refine ⟨?_, ?_, ?_, ?_, ?_, ?_, ?_, ?_⟩
  all_goals
    rw [Bool.eq_iff_iff]
    simp
    split <;> omega
def outM (a b : Int) (c : Bool) : Nat → Int
  | 0 => 0
  | k + 1 => if cK a b c (k + 1) then withM (outM a b c k) k true else outM a b c k
theorem outM_byte (a b : Int) (c : Bool) : ∀ k, B8 (outM a b c k)
  | 0 => B8.zero
  | k + 1 => by
    unfold outM
    split
    · exact (outM_byte a b c k).with _ _
    · exact outM_byte a b c k
theorem out8_bits : ∀ c1 c2 c3 c4 c5 c6 c7 c8 : Bool,
    let w := fun (x : Int) (k : Int) (c : Bool) => if c then withM x k true else x
    let o := w (w (w (w (w (w (w (w 0 0 c1) 1 c2) 2 c3) 3 c4) 4 c5) 5 c6) 6 c7) 7 c8
    isM o 3 = c4 ∧ isM o 6 = c7 ∧ isM o 7 = c8 := by decide +kernel
theorem out_bits (a b : Int) (c : Bool) : isM (outM a b c 8) 3 = cK a b c 4 ∧ isM (outM a b c 8) 6 = cK a b c 7 ∧ isM (outM a b c 8) 7 = cK a b c 8 :=
  out8_bits (cK a b c 1) (cK a b c 2) (cK a b c 3) (cK a b c 4) (cK a b c 5) (cK a b c 6) (cK a b c 7) (cK a b c 8)
theorem cK_nums (a b : Int) (c : Bool) (ha : B8 a) (hb : B8 b) : cK a b c 4 = decide (15 < a % 16 + b % 16 + one c) ∧ cK a b c 8 = decide (255 < a + b + one c) ∧ (cK a b c 7 != cK a b c 8) = farM (signedM a + signedM b + one c) := by
  obtain ⟨a0, a1⟩ := ha
  obtain ⟨b0, b1⟩ := hb
  have key := one_bounds c
  unfold cK farM signedM
  generalize one c = o at key ⊢
  refine ⟨?_, ?_, ?_⟩
  · rw [Bool.eq_iff_iff]; simp; omega
  · rw [Bool.eq_iff_iff]; simp; omega
  · rw [Bool.eq_iff_iff]
    simp
    split <;> split <;> omega
def W16 (x : Int) : Prop := 0 ≤ x ∧ x ≤ 65535
theorem W16.lo {x : Int} (h : W16 x) : 0 ≤ x := h.1
theorem W16.hi {x : Int} (h : W16 x) : x ≤ 65535 := h.2
theorem W16.low {x : Int} (h : W16 x) : B8 (x % 256) := by unfold B8; omega
theorem W16.high {x : Int} (h : W16 x) : B8 (x / 256) := by obtain ⟨h0, h1⟩ := h; unfold B8; omega
def signedW (w : Int) : Int := if w < 32768 then w else w - 65536
def farW (n : Int) : Bool := decide (n < -32768) || decide (32767 < n)
def adcW (a b : Int) (c : Bool) : Int := (a + b + one c) % 65536
def sbcW (a b : Int) (c : Bool) : Int := (a - b - one c) % 65536
def wideF (r : Int) (half over minus out : Bool) : Int :=
  mkM (isM (r / 256) 7) (r == 0) (isM (r / 256) 5) half (isM (r / 256) 3) over minus out
def adcF (a b : Int) (c : Bool) : Int :=
  wideF (adcW a b c) (decide (4095 < a % 4096 + b % 4096 + one c)) (farW (signedW a + signedW b + one c)) false (decide (65535 < a + b + one c))
def sbcF (a b : Int) (c : Bool) : Int :=
  wideF (sbcW a b c) (decide (a % 4096 - b % 4096 - one c < 0)) (farW (signedW a - signedW b - one c)) true (decide (a - b - one c < 0))
def addWF (a b f : Int) : Int :=
  mkM (isM f 7) (isM f 6) (isM (adcW a b false / 256) 5) (decide (4095 < a % 4096 + b % 4096)) (isM (adcW a b false / 256) 3) (isM f 2) false (decide (65535 < a + b))
def moveM (w y : Int) : Int := (w + y) % 65536
theorem adcF_byte (a b : Int) (c : Bool) : B8 (adcF a b c) := mkM_byte ..
theorem sbcF_byte (a b : Int) (c : Bool) : B8 (sbcF a b c) := mkM_byte ..
theorem addWF_byte (a b f : Int) : B8 (addWF a b f) := mkM_byte ..
def midA (a b : Int) (c : Bool) : Bool := isM (addF (a % 256) (b % 256) c) 0
def midS (a b : Int) (c : Bool) : Bool := isM (subF (a % 256) (b % 256) c) 0
theorem addF_bit0' (a b : Int) (c : Bool) : isM (addF a b c) 0 = decide (255 < a + b + one c) := (of_mkM _ _ _ _ _ _ _ _).2.2.2.2.2.2.2
theorem subF_bit0' (a b : Int) (c : Bool) : isM (subF a b c) 0 = decide (a - b - one c < 0) := (of_mkM _ _ _ _ _ _ _ _).2.2.2.2.2.2.2
theorem one_dec (p : Prop) [Decidable p] : one (decide p) = if p then 1 else 0 := by unfold one; by_cases h : p <;> simp [h]
theorem keepZ (x0 x1 x2 x3 x4 x5 x6 x7 : Bool) (f : Int) : keepM (mkM x0 x1 x2 x3 x4 x5 x6 x7) f 64 = mkM x0 (isM f 6) x2 x3 x4 x5 x6 x7 := by
  unfold keepM
  obtain ⟨h0, h1, h2, h3, h4, h5, h6, h7⟩ := of_mkM x0 x1 x2 x3 x4 x5 x6 x7
  obtain ⟨z0, z1, z2, z3, z4, z5, z6, z7⟩ : isM 64 0 = false ∧ isM 64 1 = false ∧ isM 64 2 = false ∧ isM 64 3 = false ∧ isM 64 4 = false ∧ isM 64 5 = false ∧ isM 64 6 = true ∧ isM 64 7 = false := by decide +kernel
  rw [h0, h1, h2, h3, h4, h5, h6, h7, z0, z1, z2, z3, z4, z5, z6, z7]
  rfl
theorem keepSZP (x0 x1 x2 x3 x4 x5 x6 x7 : Bool) (f : Int) : keepM (mkM x0 x1 x2 x3 x4 x5 x6 x7) f 196 = mkM (isM f 7) (isM f 6) x2 x3 x4 (isM f 2) x6 x7 := by
  unfold keepM
  obtain ⟨h0, h1, h2, h3, h4, h5, h6, h7⟩ := of_mkM x0 x1 x2 x3 x4 x5 x6 x7
  obtain ⟨z0, z1, z2, z3, z4, z5, z6, z7⟩ : isM 196 0 = false ∧ isM 196 1 = false ∧ isM 196 2 = true ∧ isM 196 3 = false ∧ isM 196 4 = false ∧ isM 196 5 = false ∧ isM 196 6 = true ∧ isM 196 7 = true := by decide +kernel
  rw [h0, h1, h2, h3, h4, h5, h6, h7, z0, z1, z2, z3, z4, z5, z6, z7]
  rfl
theorem adc_word (a b : Int) (c : Bool) (ha : W16 a) (hb : W16 b) : 256 * addR (a / 256) (b / 256) (midA a b c) + addR (a % 256) (b % 256) c = adcW a b c := by
  obtain ⟨a0, a1⟩ := ha
  obtain ⟨b0, b1⟩ := hb
  have key := one_bounds c
  unfold midA
  rw [addF_bit0']
  unfold addR adcW
  rw [one_dec]
  split <;> omega
theorem sbc_word (a b : Int) (c : Bool) (ha : W16 a) (hb : W16 b) : 256 * subR (a / 256) (b / 256) (midS a b c) + subR (a % 256) (b % 256) c = sbcW a b c := by
  obtain ⟨a0, a1⟩ := ha
  obtain ⟨b0, b1⟩ := hb
  have key := one_bounds c
  unfold midS
  rw [subF_bit0']
  unfold subR sbcW
  rw [one_dec]
  split <;> omega
theorem zboth (x y : Int) (hx : B8 x) (hy : B8 y) : (x == 0 && y == 0) = (256 * x + y == 0) := by
  obtain ⟨x0, x1⟩ := hx
  obtain ⟨y0, y1⟩ := hy
  rw [Bool.eq_iff_iff]; simp; omega
theorem adc_flags (a b : Int) (c : Bool) (ha : W16 a) (hb : W16 b) :
    keepM (addF (a / 256) (b / 256) (midA a b c)) (bits .and .u8 (addF (a / 256) (b / 256) (midA a b c)) (addF (a % 256) (b % 256) c)) 64 = adcF a b c := by
  have hw := adc_word a b c ha hb
  have r1 := addR_byte (a / 256) (b / 256) (midA a b c)
  have r2 := addR_byte (a % 256) (b % 256) c
  have z : isM (bits .and .u8 (addF (a / 256) (b / 256) (midA a b c)) (addF (a % 256) (b % 256) c)) 6 = (adcW a b c == 0) := by
    rw [← hw, ← zboth _ _ r1 r2]
    have f1 := addF_byte (a / 256) (b / 256) (midA a b c)
    have f2 := addF_byte (a % 256) (b % 256) c
    have := isM_and _ _ 6 (by omega) f1.1 f1.2 f2.1 f2.2
    rw [show ((6 : Nat) : Int) = 6 from rfl] at this
    rw [this]
    exact congr (congrArg _ (of_mkM _ _ _ _ _ _ _ _).2.1) (of_mkM _ _ _ _ _ _ _ _).2.1
  have hh : addR (a / 256) (b / 256) (midA a b c) = adcW a b c / 256 := by
    obtain ⟨x0, x1⟩ := r2
    rw [← hw]; omega
  generalize bits .and .u8 (addF (a / 256) (b / 256) (midA a b c)) (addF (a % 256) (b % 256) c) = y at z ⊢
  unfold addF
  rw [keepZ, z, hh]
  unfold adcF wideF
  obtain ⟨a0, a1⟩ := ha
  obtain ⟨b0, b1⟩ := hb
  have key := one_bounds c
  have m : one (midA a b c) = if 255 < a % 256 + b % 256 + one c then 1 else 0 := by unfold midA; rw [addF_bit0', one_dec]
  have n4 : decide (15 < a / 256 % 16 + b / 256 % 16 + one (midA a b c)) = decide (4095 < a % 4096 + b % 4096 + one c) := by
    rw [m, Bool.eq_iff_iff]; simp; split <;> omega
  have n8 : decide (255 < a / 256 + b / 256 + one (midA a b c)) = decide (65535 < a + b + one c) := by
    rw [m, Bool.eq_iff_iff]; simp; split <;> omega
  have n7 : farM (signedM (a / 256) + signedM (b / 256) + one (midA a b c)) = farW (signedW a + signedW b + one c) := by
    unfold farM farW signedM signedW
    rw [m, Bool.eq_iff_iff]
    simp
    split <;> split <;> split <;> split <;> split <;> omega
  rw [n4, n8, n7]
theorem sbc_flags (a b : Int) (c : Bool) (ha : W16 a) (hb : W16 b) :
    keepM (subF (a / 256) (b / 256) (midS a b c)) (bits .and .u8 (subF (a / 256) (b / 256) (midS a b c)) (subF (a % 256) (b % 256) c)) 64 = sbcF a b c := by
  have hw := sbc_word a b c ha hb
  have r1 := subR_byte (a / 256) (b / 256) (midS a b c)
  have r2 := subR_byte (a % 256) (b % 256) c
  have z : isM (bits .and .u8 (subF (a / 256) (b / 256) (midS a b c)) (subF (a % 256) (b % 256) c)) 6 = (sbcW a b c == 0) := by
    rw [← hw, ← zboth _ _ r1 r2]
    have f1 := subF_byte (a / 256) (b / 256) (midS a b c)
    have f2 := subF_byte (a % 256) (b % 256) c
    have := isM_and _ _ 6 (by omega) f1.1 f1.2 f2.1 f2.2
    rw [show ((6 : Nat) : Int) = 6 from rfl] at this
    rw [this]
    exact congr (congrArg _ (of_mkM _ _ _ _ _ _ _ _).2.1) (of_mkM _ _ _ _ _ _ _ _).2.1
  have hh : subR (a / 256) (b / 256) (midS a b c) = sbcW a b c / 256 := by
    obtain ⟨x0, x1⟩ := r2
    rw [← hw]; omega
  generalize bits .and .u8 (subF (a / 256) (b / 256) (midS a b c)) (subF (a % 256) (b % 256) c) = y at z ⊢
  unfold subF
  rw [keepZ, z, hh]
  unfold sbcF wideF
  obtain ⟨a0, a1⟩ := ha
  obtain ⟨b0, b1⟩ := hb
  have key := one_bounds c
  have m : one (midS a b c) = if a % 256 - b % 256 - one c < 0 then 1 else 0 := by unfold midS; rw [subF_bit0', one_dec]
  have n4 : decide (a / 256 % 16 - b / 256 % 16 - one (midS a b c) < 0) = decide (a % 4096 - b % 4096 - one c < 0) := by
    rw [m, Bool.eq_iff_iff]; simp; split <;> omega
  have n8 : decide (a / 256 - b / 256 - one (midS a b c) < 0) = decide (a - b - one c < 0) := by
    rw [m, Bool.eq_iff_iff]; simp; split <;> omega
  have n7 : farM (signedM (a / 256) - signedM (b / 256) - one (midS a b c)) = farW (signedW a - signedW b - one c) := by
    unfold farM farW signedM signedW
    rw [m, Bool.eq_iff_iff]
    simp
    split <;> split <;> split <;> split <;> split <;> omega
  rw [n4, n8, n7]
theorem add_flags (a b f : Int) : keepM (adcF a b false) f 196 = addWF a b f := by
  unfold adcF wideF
  rw [keepSZP]
  have o : one false = 0 := rfl
  unfold addWF
  rw [o, Int.add_zero, Int.add_zero]
def mergeM (op : Bool → Bool → Bool) (a b : Int) : Int :=
  mkM (op (isM a 7) (isM b 7)) (op (isM a 6) (isM b 6)) (op (isM a 5) (isM b 5)) (op (isM a 4) (isM b 4)) (op (isM a 3) (isM b 3)) (op (isM a 2) (isM b 2)) (op (isM a 1) (isM b 1)) (op (isM a 0) (isM b 0))
theorem mergeM_byte (op : Bool → Bool → Bool) (a b : Int) : B8 (mergeM op a b) := mkM_byte ..
def upM (b0 b1 b2 b3 b4 b5 b6 b7 : Bool) : Int :=
  withM (withM (withM (withM (withM (withM (withM (withM 0 0 b0) 1 b1) 2 b2) 3 b3) 4 b4) 5 b5) 6 b6) 7 b7
theorem up_mk : ∀ b0 b1 b2 b3 b4 b5 b6 b7 : Bool, upM b0 b1 b2 b3 b4 b5 b6 b7 = mkM b7 b6 b5 b4 b3 b2 b1 b0 := by decide +kernel
def andB (x y : Bool) : Bool := x && y
def orB (x y : Bool) : Bool := x || y
def xorB (x y : Bool) : Bool := x != y
def andR (a b : Int) : Int := mergeM andB a b
def orR (a b : Int) : Int := mergeM orB a b
def xorR (a b : Int) : Int := mergeM xorB a b
def andFl (r : Int) : Int := mkM (isM r 7) (r == 0) (isM r 5) true (isM r 3) (evenM r) false false
theorem andFl_byte (r : Int) : B8 (andFl r) := mkM_byte ..
theorem andFl_fin : ∀ x : Fin 256, bits .or .u8 (evenFM (x.val : Int)) 16 = andFl (x.val : Int) := by decide +kernel
theorem andFl_all (r : Int) (h : B8 r) : bits .or .u8 (evenFM r) 16 = andFl r := byte_all (P := fun r => bits .or .u8 (evenFM r) 16 = andFl r) andFl_fin r h.1 h.2
def linesM (f a : Int) (h n c : Bool) : Int := mkM (isM f 7) (isM f 6) (isM a 5) h (isM a 3) (isM f 2) n c
theorem linesM_byte (f a : Int) (h n c : Bool) : B8 (linesM f a h n c) := mkM_byte ..
def cplF (a f : Int) : Int := linesM f (255 - a) true true (isM f 0)
def scfF (a f : Int) : Int := linesM f a false false true
def ccfF (a f : Int) : Int := linesM f a (isM f 0) false (!isM f 0)
theorem kept_math (b f : Int) : keepM (resultM b) f 196 = linesM f b false false false := by
  obtain ⟨z0, z1, z2, z3, z4, z5, z6, z7⟩ : isM 196 0 = false ∧ isM 196 1 = false ∧ isM 196 2 = true ∧ isM 196 3 = false ∧ isM 196 4 = false ∧ isM 196 5 = false ∧ isM 196 6 = true ∧ isM 196 7 = true := by decide +kernel
  obtain ⟨e7, e6, e5, e4, e3, e2, e1, e0⟩ : isM (resultM b) 7 = _ ∧ isM (resultM b) 6 = _ ∧ isM (resultM b) 5 = _ ∧ isM (resultM b) 4 = _ ∧ isM (resultM b) 3 = _ ∧ isM (resultM b) 2 = _ ∧ isM (resultM b) 1 = _ ∧ isM (resultM b) 0 = _ := of_mkM _ _ _ _ _ _ _ _
  unfold keepM linesM
  rw [z0, z1, z2, z3, z4, z5, z6, z7, e0, e1, e3, e4, e5]
  rfl
theorem mk_or : ∀ b0 b1 b2 b3 b4 b5 b6 b7 : Bool, bits .or .u8 (mkM b0 b1 b2 b3 b4 b5 b6 b7) 1 = mkM b0 b1 b2 b3 b4 b5 b6 true ∧ bits .or .u8 (mkM b0 b1 b2 b3 b4 b5 b6 b7) 16 = mkM b0 b1 b2 true b4 b5 b6 b7 ∧ bits .or .u8 (mkM b0 b1 b2 b3 b4 b5 b6 b7) 2 = mkM b0 b1 b2 b3 b4 b5 true b7 ∧ bits .or .u8 (mkM b0 b1 b2 b3 b4 b5 b6 b7) 0 = mkM b0 b1 b2 b3 b4 b5 b6 b7 := by decide +kernel
theorem low_one : ∀ x : Fin 256, bits .and .u8 (x.val : Int) 1 = one (isM (x.val : Int) 0) := by decide +kernel
theorem low_all (f : Int) (h : B8 f) : bits .and .u8 f 1 = one (isM f 0) := byte_all (P := fun f => bits .and .u8 f 1 = one (isM f 0)) low_one f h.1 h.2
theorem or_one (b0 b1 b2 b3 b4 b5 b6 c : Bool) : bits .or .u8 (mkM b0 b1 b2 b3 b4 b5 b6 false) (one c) = mkM b0 b1 b2 b3 b4 b5 b6 c := by
  cases c
  · exact (mk_or b0 b1 b2 b3 b4 b5 b6 false).2.2.2
  · exact (mk_or b0 b1 b2 b3 b4 b5 b6 false).1
theorem cpl_math (a f : Int) (hf : B8 f) : bits .or .u8 (bits .or .u8 (bits .or .u8 (keepM (resultM (255 - a)) f 196) (bits .and .u8 f 1)) 16) 2 = cplF a f := by
  rw [kept_math, low_all f hf]
  unfold linesM cplF linesM
  rw [or_one, (mk_or _ _ _ _ _ _ _ _).2.1, (mk_or _ _ _ _ _ _ _ _).2.2.1]
theorem scf_math (a f : Int) : bits .or .u8 (keepM (resultM a) f 196) 1 = scfF a f := by
  rw [kept_math]
  unfold linesM scfF linesM
  rw [(mk_or _ _ _ _ _ _ _ _).1]
theorem ccf_no (a f : Int) (h : isM f 0 = false) : scfF a f = ccfF a f := by
  unfold scfF ccfF
  rw [h]
  rfl
theorem ccf_yes (a f : Int) (h : isM f 0 = true) : bits .or .u8 (keepM (resultM a) f 196) 16 = ccfF a f := by
  rw [kept_math]
  unfold linesM ccfF linesM
  rw [h, (mk_or _ _ _ _ _ _ _ _).2.1]
  rfl
def wrongLow (a f : Int) : Bool := isM f 4 || decide (9 < a % 16)
def wrongHigh (a f : Int) : Bool := isM f 0 || decide (153 < a)
def byM (a f : Int) : Int := (if wrongLow a f then 6 else 0) + (if wrongHigh a f then 96 else 0)
def daaR (a f : Int) : Int := if isM f 1 then (a - byM a f) % 256 else (a + byM a f) % 256
def daaF (a f : Int) : Int :=
  mkM (isM (daaR a f) 7) (daaR a f == 0) (isM (daaR a f) 5) (isM a 4 != isM (daaR a f) 4) (isM (daaR a f) 3) (evenM (daaR a f)) (isM f 1) (wrongHigh a f)
theorem daaR_byte (a f : Int) : B8 (daaR a f) := by unfold daaR B8; split <;> omega
theorem daaF_byte (a f : Int) : B8 (daaF a f) := mkM_byte ..
theorem byM_byte (a f : Int) : 0 ≤ byM a f ∧ byM a f ≤ 102 := by unfold byM; split <;> split <;> omega
def inM (kind b f : Int) : Bool :=
  if kind = 0 then isM b 7 else if kind = 1 then isM b 0 else if kind = 2 then isM f 0 else if kind = 3 then isM f 0 else
  if kind = 4 then false else if kind = 5 then isM b 7 else if kind = 6 then true else false
def soutM (kind b : Int) : Bool := if kind % 2 = 0 then isM b 7 else isM b 0
def shlM (b : Int) (i : Bool) : Int := withM (turnM b 1) 0 i
def shrM (b : Int) (i : Bool) : Int := withM (turnM b (-1)) 7 i
def shM (kind b f : Int) : Int := if kind % 2 = 0 then shlM b (inM kind b f) else shrM b (inM kind b f)
def doR (kind b f : Int) : Int := if 0 ≤ kind ∧ kind < 8 then shM kind b f else b
def doF (kind b f : Int) : Int := if 0 ≤ kind ∧ kind < 8 then withM (evenFM (shM kind b f)) 0 (soutM kind b) else f
def accR (kind b f : Int) : Int := if 0 ≤ kind ∧ kind < 4 then shM kind b f else b
def accF (kind b f : Int) : Int := if 0 ≤ kind ∧ kind < 4 then linesM f (shM kind b f) false false (soutM kind b) else f
theorem shM_byte (kind b f : Int) (hb : B8 b) : B8 (shM kind b f) := by
  unfold shM shlM shrM
  split
  · exact B8.with (turnM_byte b 1 hb.1 hb.2) _ _
  · exact B8.with (turnM_byte b (-1) hb.1 hb.2) _ _
theorem doR_byte (kind b f : Int) (hb : B8 b) : B8 (doR kind b f) := by
  unfold doR
  split
  · exact shM_byte _ _ _ hb
  · exact hb
theorem doF_byte (kind b f : Int) (hf : B8 f) : B8 (doF kind b f) := by
  unfold doF
  split
  · exact B8.with (evenFM_byte _) _ _
  · exact hf
theorem accR_byte (kind b f : Int) (hb : B8 b) : B8 (accR kind b f) := by
  unfold accR
  split
  · exact shM_byte _ _ _ hb
  · exact hb
theorem accF_byte (kind b f : Int) (hf : B8 f) : B8 (accF kind b f) := by
  unfold accF
  split
  · exact linesM_byte ..
  · exact hf
def evenC (r : Int) (c : Bool) : Int := withM (evenFM r) 0 c
theorem evenC_byte (r : Int) (c : Bool) : B8 (evenC r c) := B8.with (evenFM_byte r) _ _
theorem mk_c : ∀ b0 b1 b2 b3 b4 b5 b6 c : Bool, withM (mkM b0 b1 b2 b3 b4 b5 b6 false) 0 c = mkM b0 b1 b2 b3 b4 b5 b6 c := by decide +kernel
theorem even_or (r : Int) (c : Bool) : bits .or .u8 (evenFM r) (one c) = evenC r c := by
  unfold evenC evenFM
  rw [or_one, mk_c]
theorem lines_or (r f : Int) (c : Bool) : bits .or .u8 (keepM (resultM r) f 196) (one c) = linesM f r false false c := by
  rw [kept_math]
  unfold linesM
  rw [or_one]
def digA (right : Bool) (a b : Int) : Int := a / 16 * 16 + (if right then b % 16 else b / 16)
def digB (right : Bool) (a b : Int) : Int := (if right then a % 16 else b % 16) * 16 + (if right then b / 16 else a % 16)
theorem digA_byte (right : Bool) (a b : Int) (ha : B8 a) (hb : B8 b) : B8 (digA right a b) := by
  have a0 := ha.1; have a1 := ha.2; have b0 := hb.1; have b1 := hb.2
  cases right <;> (simp only [digA, B8, if_true, if_false, Bool.false_eq_true]; omega)
theorem digB_byte (right : Bool) (a b : Int) (ha : B8 a) (hb : B8 b) : B8 (digB right a b) := by
  have a0 := ha.1; have a1 := ha.2; have b0 := hb.1; have b1 := hb.2
  cases right <;> (simp only [digB, B8, if_true, if_false, Bool.false_eq_true]; omega)
theorem low4_fin : ∀ x : Fin 256, bits .and .u8 (x.val : Int) 15 = (x.val : Int) % 16 ∧ bits .andNot .u8 (x.val : Int) 15 = (x.val : Int) / 16 * 16 := by decide +kernel
theorem low4_all (b : Int) (hb : B8 b) : bits .and .u8 b 15 = b % 16 ∧ bits .andNot .u8 b 15 = b / 16 * 16 :=
  byte_all (P := fun b => bits .and .u8 b 15 = b % 16 ∧ bits .andNot .u8 b 15 = b / 16 * 16) low4_fin b hb.1 hb.2
theorem join4_fin : ∀ x y : Fin 16, bits .or .u8 ((x.val : Int) * 16) (y.val : Int) = (x.val : Int) * 16 + (y.val : Int) := by decide +kernel
theorem join4_all (x y : Int) (h0 : 0 ≤ x) (h1 : x < 16) (h2 : 0 ≤ y) (h3 : y < 16) : bits .or .u8 (x * 16) y = x * 16 + y := by
  have := join4_fin ⟨x.toNat, by omega⟩ ⟨y.toNat, by omega⟩
  simpa [Int.toNat_of_nonneg h0, Int.toNat_of_nonneg h2] using this
def bitF (n b lines f : Int) : Int := mkM ((n == 7) && isM b n) (!isM b n) (isM lines 5) true (isM lines 3) (!isM b n) false (isM f 0)
theorem bitF_byte (n b lines f : Int) : B8 (bitF n b lines f) := mkM_byte ..
def bitG (lines f : Int) : Int := mkM false false (isM lines 5) true (isM lines 3) false false (isM f 0)
theorem or16 : ∀ c : Bool, bits .or .u8 16 (one c) = mkM false false false true false false false c := by decide +kernel
theorem bit_math (lines f : Int) (hf : B8 f) : keepM (bits .or .u8 16 (bits .and .u8 f 1)) lines 40 = bitG lines f := by
  obtain ⟨z0, z1, z2, z3, z4, z5, z6, z7⟩ : isM 40 0 = false ∧ isM 40 1 = false ∧ isM 40 2 = false ∧ isM 40 3 = true ∧ isM 40 4 = false ∧ isM 40 5 = true ∧ isM 40 6 = false ∧ isM 40 7 = false := by decide +kernel
  rw [low_all f hf, or16]
  obtain ⟨e7, e6, e5, e4, e3, e2, e1, e0⟩ := of_mkM false false false true false false false (isM f 0)
  unfold keepM bitG
  rw [z0, z1, z2, z3, z4, z5, z6, z7, e0, e1, e2, e4, e6, e7]
  rfl
theorem bit_or : ∀ y x c : Bool, bits .or .u8 (bits .or .u8 (mkM false false y true x false false c) 64) 4 = mkM false true y true x true false c ∧ bits .or .u8 (mkM false false y true x false false c) 128 = mkM true false y true x false false c := by decide +kernel
theorem bit_no (n b lines f : Int) (h : isM b n = false) : bits .or .u8 (bits .or .u8 (bitG lines f) 64) 4 = bitF n b lines f := by
  unfold bitF bitG
  rw [h, (bit_or _ _ _).1]
  simp
theorem bit_seven (b lines f : Int) (h : isM b 7 = true) : bits .or .u8 (bitG lines f) 128 = bitF 7 b lines f := by
  unfold bitF bitG
  rw [h, (bit_or _ _ _).2]
  rfl
theorem bit_yes (n b lines f : Int) (h : isM b n = true) (hn : ¬ n = 7) : bitG lines f = bitF n b lines f := by
  unfold bitF bitG
  rw [h, show (n == 7) = false from by simpa using hn]
  rfl
def plusM (a b : Int) : Int := (a + b) % 256
theorem plusM_byte (a b : Int) : B8 (plusM a b) := by unfold plusM B8; omega
def lessM (a b : Int) : Int := if isM (subF a b false) 4 then (subR a b false + 255) % 256 else subR a b false
theorem lessM_byte (a b : Int) : B8 (lessM a b) := by
  unfold lessM
  split
  · unfold B8; omega
  · exact subR_byte ..
theorem lessM_yes (a b : Int) (h : isM (subF a b false) 4 = true) : (subR a b false + 255) % 256 = lessM a b := by unfold lessM; rw [if_pos h]
theorem lessM_yes' (a b : Int) (h : isM (subF a b false) 4 = true) : (subR a b false - 1) % 256 = lessM a b := by
  rw [← lessM_yes a b h]; omega
theorem lessM_no (a b : Int) (h : isM (subF a b false) 4 = false) : subR a b false = lessM a b := by unfold lessM; rw [if_neg (by simp [h])]
def moveF (a b bc f : Int) : Int := mkM (isM f 7) (isM f 6) (isM (plusM a b) 1) false (isM (plusM a b) 3) (bc != 0) false (isM f 0)
def findF (a b bc f : Int) : Int :=
  mkM (isM (subF a b false) 7) (isM (subF a b false) 6) (isM (lessM a b) 1) (isM (subF a b false) 4) (isM (lessM a b) 3) (bc != 0) true (isM f 0)
def passF (b k left : Int) : Int :=
  mkM (isM left 7) (left == 0) (isM left 5) (decide (255 < k)) (isM left 3) (evenM (xorR (k % 8) left)) (isM b 7) (decide (255 < k))
def byC (c s : Int) : Int := (c + s) % 256
theorem byC_byte (c s : Int) : B8 (byC c s) := by unfold byC B8; omega
theorem moveF_byte (a b bc f : Int) : B8 (moveF a b bc f) := mkM_byte ..
theorem findF_byte (a b bc f : Int) : B8 (findF a b bc f) := mkM_byte ..
theorem passF_byte (b k left : Int) : B8 (passF b k left) := mkM_byte ..
def againM (kind f : Int) : Bool :=
  if kind = 0 then isM f 2 else if kind = 1 then isM f 2 && !isM f 6 else if kind = 2 then !isM f 6 else if kind = 3 then !isM f 6 else false
theorem againM_out (kind f : Int) (h : kind < 0 ∨ 4 ≤ kind) : againM kind f = false := by
  unfold againM
  repeat (rw [if_neg (by omega)])
theorem xorR_bits (a b : Int) (ha : B8 a) (hb : B8 b) : bits .xor .u8 a b = xorR a b := by
  have q := xor_byte a b ha.1 ha.2 hb.1 hb.2
  have r : B8 (xorR a b) := mergeM_byte ..
  refine byte_ext _ _ q.1 q.2 r.1 r.2 fun n hn => ?_
  rw [isM_xor a b n hn ha.1 ha.2 hb.1 hb.2]
  unfold xorR mergeM
  rw [isM_mkM _ _ _ _ _ _ _ _ n hn]
  refine nat8 (fun n => (isM a n ^^ isM b n) = [_, _, _, _, _, _, _, _].getD n false) ?_ n hn
  simp only [List.getD_cons_zero, List.getD_cons_succ, xorB]
  exact ⟨rfl, rfl, rfl, rfl, rfl, rfl, rfl, rfl⟩
structure Ms where
  r : Rg
  plane : Int
  x : Int
  y : Int
  z : Int
  p : Int
  q : Int
  spot : Int
  near : Bool
structure MsB (s : Ms) : Prop where
  r : RgB s.r
  plane : s.plane = 0 ∨ s.plane = 3 ∨ s.plane = 4
  x : 0 ≤ s.x ∧ s.x ≤ 3
  y : 0 ≤ s.y ∧ s.y ≤ 7
  z : 0 ≤ s.z ∧ s.z ≤ 7
  p : 0 ≤ s.p ∧ s.p ≤ 3
  q : 0 ≤ s.q ∧ s.q ≤ 1
  spot : Wd16 s.spot
def askN (c : Cy) (s : Ms) : Tr (Int × Ms) := .ask c fun b => .done (b, s)
def readN (a : Int) (s : Ms) : Tr (Int × Ms) := askN ⟨2, a, 0, 3⟩ s
def writeN (a b : Int) (s : Ms) : Tr Ms := (askN ⟨3, a, b, 3⟩ s).bind fun b => .done b.2
def inN (a : Int) (s : Ms) : Tr (Int × Ms) := askN ⟨4, a, 0, 4⟩ s
def outN (a b : Int) (s : Ms) : Tr Ms := (askN ⟨5, a, b, 4⟩ s).bind fun b => .done b.2
def pauseN (n : Int) (s : Ms) : Tr Ms := (askN ⟨7, 0, 0, n⟩ s).bind fun b => .done b.2
def Ms.pc (s : Ms) (v : Int) : Ms := { s with r := { s.r with pc := v } }
def Ms.sp (s : Ms) (v : Int) : Ms := { s with r := { s.r with sp := v } }
def Ms.wz (s : Ms) (v : Int) : Ms := { s with r := { s.r with wz := v } }
def Ms.af (s : Ms) (a f : Int) : Ms := { s with r := { s.r with af := 256 * a + f } }
def Ms.pcUp (s : Ms) : Ms := s.pc ((s.r.pc + 1) % 65536)
def glanceN (s : Ms) : Tr (Int × Ms) := (askN ⟨1, s.r.pc, 0, 4⟩ s).bind fun b => .done (b.1, { b.2 with r := tickG b.2.r 1 })
def fetchN (s : Ms) : Tr (Int × Ms) := (glanceN s).bind fun b => .done (b.1, b.2.pcUp)
def numberN (s : Ms) : Tr (Int × Ms) := (readN s.r.pc s).bind fun b => .done (b.1, b.2.pcUp)
def wordN (s : Ms) : Tr (Int × Ms) := (numberN s).bind fun l => (numberN l.2).bind fun h => .done (256 * h.1 + l.1, h.2)
def wordAtN (a : Int) (s : Ms) : Tr (Int × Ms) := (readN a s).bind fun l => (readN ((a + 1) % 65536) l.2).bind fun h => .done (256 * h.1 + l.1, h.2)
def Ms.spDown (s : Ms) : Ms := s.sp ((s.r.sp - 1) % 65536)
def pushN (w : Int) (s : Ms) : Tr Ms := (writeN s.spDown.r.sp (w / 256) s.spDown).bind fun s => writeN s.spDown.r.sp (w % 256) s.spDown
def popN (s : Ms) : Tr (Int × Ms) := (wordAtN s.r.sp s).bind fun w => .done (w.1, w.2.sp ((w.2.r.sp + 2) % 65536))
def Ms.goTo (s : Ms) (w : Int) : Ms := (s.pc w).wz w
def Ms.a (s : Ms) : Int := s.r.af / 256
def Ms.f (s : Ms) : Int := s.r.af % 256
def Ms.setA (s : Ms) (a : Int) : Ms := s.af a s.f
def Ms.setF (s : Ms) (f : Int) : Ms := s.af s.a f
def Ms.carry (s : Ms) : Int := one (isM s.f 0)
def Ms.hl (s : Ms) : Int := pairG s.r s.plane 2
def Ms.setHL (s : Ms) (w : Int) : Ms := { s with r := setPairG s.r s.plane 2 w }
def Ms.pair (s : Ms) : Int := pairG s.r s.plane s.p
def Ms.setPair (s : Ms) (w : Int) : Ms := { s with r := setPairG s.r s.plane s.p w }
def getN (k : Int) (s : Ms) : Tr (Int × Ms) := if k = 6 then readN s.spot s else .done (getG s.r s.plane k, s)
def putN (k b : Int) (s : Ms) : Tr Ms := if k = 6 then writeN s.spot b s else .done { s with r := setG s.r s.plane k b }
def Ms.left (s : Ms) : Int := (getG s.r s.plane 0 - 1) % 256
def Ms.lessB (s : Ms) : Ms := { s with r := setG s.r s.plane 0 s.left }
def aimN (s : Ms) : Tr Ms := (numberN s).bind fun n => .done { n.2.wz (moveM s.hl (signedM n.1)) with spot := moveM s.hl (signedM n.1), near := true, plane := 0 }
def Ms.split (s : Ms) (c : Int) : Ms := { s with x := fx c, y := fy c, z := fz c, p := fp c, q := fq c }
def Ms.holds (s : Ms) (c : Int) : Bool := testM s.f c
def jumpByN (holds : Bool) (s : Ms) : Tr Ms := (numberN s).bind fun e => if holds then (pauseN 5 e.2).bind fun s => .done (s.goTo (moveM s.r.pc (signedM e.1))) else .done e.2
def branchN (s : Ms) : Tr Ms :=
  if s.y = 0 then .done s else if s.y = 1 then .done { s with r := swapG s.r } else
  if s.y = 2 then (pauseN 1 s).bind fun s => jumpByN (s.left != 0) s.lessB else
  if s.y = 3 then jumpByN true s else jumpByN (s.holds (s.y - 4)) s
def wholePairN (s : Ms) : Tr Ms :=
  if s.q = 0 then (wordN s).bind fun w => .done (w.2.setPair w.1) else
  (pauseN 7 s).bind fun s =>
    let t := s.wz ((s.hl + 1) % 65536)
    .done ((t.setHL (adcW t.hl t.pair false)).setF (addWF t.hl t.pair t.f))
def trailA (s : Ms) (at_ : Int) : Ms := s.wz (256 * s.a + (at_ % 256 + 1) % 256)
def storeAN (at_ : Int) (s : Ms) : Tr Ms := (writeN at_ s.a s).bind fun s => .done (trailA s at_)
def loadAN (at_ : Int) (s : Ms) : Tr Ms := (readN at_ s).bind fun b => .done ((b.2.setA b.1).wz ((at_ + 1) % 65536))
def storeWordN (at_ w : Int) (s : Ms) : Tr Ms := (writeN at_ (w % 256) s).bind fun s => (writeN ((at_ + 1) % 65536) (w / 256) s).bind fun s => .done (s.wz ((at_ + 1) % 65536))
def loadWordN (at_ : Int) (s : Ms) : Tr (Int × Ms) := (wordAtN at_ s).bind fun w => .done (w.1, w.2.wz ((at_ + 1) % 65536))
def throughPlaceN (s : Ms) : Tr Ms :=
  if s.y = 0 ∨ s.y = 2 then storeAN s.pair s else if s.y = 1 ∨ s.y = 3 then loadAN s.pair s else
  if s.y = 4 then (wordN s).bind fun w => storeWordN w.1 w.2.hl w.2 else
  if s.y = 5 then (wordN s).bind fun w => (loadWordN w.1 w.2).bind fun v => .done (v.2.setHL v.1) else
  if s.y = 6 then (wordN s).bind fun w => storeAN w.1 w.2 else
  if s.y = 7 then (wordN s).bind fun w => loadAN w.1 w.2 else .done s
def stepPairN (s : Ms) : Tr Ms := (pauseN 2 s).bind fun s => if s.q = 0 then .done (s.setPair ((s.pair + 1) % 65536)) else .done (s.setPair ((s.pair - 1) % 65536))
def countN (d : Bool) (s : Ms) : Tr Ms := (getN s.y s).bind fun b => (if b.2.y = 6 then pauseN 1 b.2 else .done b.2).bind fun s =>
  putN s.y (if d then subR b.1 1 false else addR b.1 1 false) (s.setF (if d then decF b.1 s.f else incF b.1 s.f))
def loadNumberN (s : Ms) : Tr Ms := (numberN s).bind fun n => (if n.2.near then pauseN 2 n.2 else .done n.2).bind fun s => putN s.y n.1 s
def adjustN (s : Ms) : Ms :=
  if s.y = 4 then s.af (daaR s.a s.f) (daaF s.a s.f) else if s.y = 5 then s.af (255 - s.a) (cplF s.a s.f) else
  if s.y = 6 then s.af s.a (scfF s.a s.f) else if s.y = 7 then s.af s.a (ccfF s.a s.f) else s.af (accR s.y s.a s.f) (accF s.y s.a s.f)
def arithN (b : Int) (s : Ms) : Ms :=
  if s.y = 0 then s.af (addR s.a b false) (addF s.a b false) else if s.y = 1 then s.af (addR s.a b (s.carry != 0)) (addF s.a b (s.carry != 0)) else
  if s.y = 2 then s.af (subR s.a b false) (subF s.a b false) else if s.y = 3 then s.af (subR s.a b (s.carry != 0)) (subF s.a b (s.carry != 0)) else
  if s.y = 4 then s.af (andR s.a b) (andFl (andR s.a b)) else if s.y = 5 then s.af (xorR s.a b) (evenFM (xorR s.a b)) else
  if s.y = 6 then s.af (orR s.a b) (evenFM (orR s.a b)) else if s.y = 7 then s.af s.a (cmpF s.a b) else s.af s.a s.f
def variousN (s : Ms) : Tr Ms :=
  if s.z = 0 then branchN s else if s.z = 1 then wholePairN s else if s.z = 2 then throughPlaceN s else if s.z = 3 then stepPairN s else
  if s.z = 4 then countN false s else if s.z = 5 then countN true s else if s.z = 6 then loadNumberN s else if s.z = 7 then .done (adjustN s) else .done s
def loadN (s : Ms) : Tr Ms := if s.y = 6 ∧ s.z = 6 then .done { s with r := { s.r with halted := true } } else (getN s.z s).bind fun b => putN s.y b.1 b.2
def reckonN (s : Ms) : Tr Ms := (getN s.z s).bind fun b => .done (arithN b.1 b.2)
def popsN (s : Ms) : Tr Ms :=
  if s.q = 0 then (if s.p = 3 then (popN s).bind fun w => .done { w.2 with r := { w.2.r with af := w.1 } } else (popN s).bind fun w => .done (w.2.setPair w.1)) else
  if s.p = 0 then (popN s).bind fun w => .done (w.2.goTo w.1) else if s.p = 1 then .done { s with r := exxG s.r } else
  if s.p = 2 then .done (s.pc s.hl) else if s.p = 3 then (pauseN 2 s).bind fun s => .done (s.sp s.hl) else .done s
def callN (holds : Bool) (s : Ms) : Tr Ms := (wordN s).bind fun w => if holds then (pauseN 1 (w.2.wz w.1)).bind fun s => (pushN s.r.pc s).bind fun s => .done (s.pc s.r.wz) else .done (w.2.wz w.1)
def pushesN (s : Ms) : Tr Ms := if s.q = 0 then (pauseN 1 s).bind fun s => if s.p = 3 then pushN s.r.af s else pushN s.pair s else callN true s
def exchangeTopN (s : Ms) : Tr Ms := (wordAtN s.r.sp s).bind fun w => (pauseN 1 w.2).bind fun t => (writeN ((t.r.sp + 1) % 65536) (w.2.hl / 256) t).bind fun t =>
  (writeN t.r.sp (w.2.hl % 256) t).bind fun t => (pauseN 2 t).bind fun t => .done ((t.setHL w.1).wz w.1)
def singleN (s : Ms) : Tr Ms :=
  if s.y = 0 then (wordN s).bind fun w => .done (w.2.goTo w.1) else
  if s.y = 2 then (numberN s).bind fun n => (outN (256 * s.a + n.1) n.2.a n.2).bind fun t => .done (trailA t (256 * s.a + n.1)) else
  if s.y = 3 then (numberN s).bind fun n => (inN (256 * s.a + n.1) n.2).bind fun b => .done ((b.2.setA b.1).wz ((256 * s.a + n.1 + 1) % 65536)) else
  if s.y = 4 then exchangeTopN s else if s.y = 5 then .done { s with r := { s.r with de := s.r.hl, hl := s.r.de } } else
  if s.y = 6 then .done { s with r := { s.r with iff1 := false, iff2 := false } } else if s.y = 7 then .done { s with r := { s.r with iff1 := true, iff2 := true, late := true } } else .done s
def controlN (s : Ms) : Tr Ms :=
  if s.z = 0 then (pauseN 1 s).bind fun s => if s.holds s.y then (popN s).bind fun w => .done (w.2.goTo w.1) else .done s else
  if s.z = 1 then popsN s else
  if s.z = 2 then (wordN s).bind fun w => if w.2.holds w.2.y then .done ((w.2.wz w.1).pc w.1) else .done (w.2.wz w.1) else
  if s.z = 3 then singleN s else if s.z = 4 then callN (s.holds s.y) s else if s.z = 5 then pushesN s else
  if s.z = 6 then (numberN s).bind fun n => .done (arithN n.1 n.2) else
  if s.z = 7 then (pauseN 1 s).bind fun s => (pushN s.r.pc s).bind fun s => .done (s.goTo ((8 * s.y) % 65536)) else .done s
def takeInN (s : Ms) : Tr Ms := (inN s.r.bc s).bind fun b =>
  let t := (b.2.wz ((b.2.r.bc + 1) % 65536)).setF (withM (evenFM b.1) 0 (isM b.2.f 0))
  if t.y = 6 then .done t else putN t.y b.1 t
def giveOutN (s : Ms) : Tr Ms := (if s.y = 6 then .done (0, s) else getN s.y s).bind fun b => (outN b.2.r.bc b.1 b.2).bind fun s => .done (s.wz ((s.r.bc + 1) % 65536))
def addCarriedN (s : Ms) : Tr Ms := (pauseN 7 s).bind fun s =>
  let t := s.wz ((s.r.hl + 1) % 65536)
  if t.q = 0 then .done (({ t with r := { t.r with hl := sbcW t.r.hl t.pair (isM t.f 0) } } : Ms).setF (sbcF t.r.hl t.pair (isM t.f 0)))
  else .done (({ t with r := { t.r with hl := adcW t.r.hl t.pair (isM t.f 0) } } : Ms).setF (adcF t.r.hl t.pair (isM t.f 0)))
def pairAtPlaceN (s : Ms) : Tr Ms := (wordN s).bind fun at_ => if at_.2.q = 0 then storeWordN at_.1 at_.2.pair at_.2 else (loadWordN at_.1 at_.2).bind fun w => .done (w.2.setPair w.1)
def showN (b : Int) (s : Ms) : Ms := s.af b (withM (withM (resultM b) 0 (isM s.f 0)) 2 s.r.iff2)
def turnDigitsN (s : Ms) : Tr Ms := (readN s.r.hl s).bind fun b => (pauseN 4 b.2).bind fun s =>
  (writeN s.r.hl (digB (s.y == 4) s.a b.1) (s.af (digA (s.y == 4) s.a b.1) (evenC (digA (s.y == 4) s.a b.1) (isM s.f 0)))).bind fun s => .done (s.wz ((s.r.hl + 1) % 65536))
def specialN (s : Ms) : Tr Ms :=
  if s.y = 0 then (pauseN 1 s).bind fun s => .done { s with r := { s.r with i := s.a } } else
  if s.y = 1 then (pauseN 1 s).bind fun s => .done { s with r := { s.r with r := s.a } } else
  if s.y = 2 then (pauseN 1 s).bind fun s => .done (showN s.r.i s) else
  if s.y = 3 then (pauseN 1 s).bind fun s => .done (showN s.r.r s) else
  if s.y = 4 ∨ s.y = 5 then turnDigitsN s else .done s
def Ms.mode (s : Ms) (m : Int) : Ms := { s with r := { s.r with mode := m } }
def extendedN (s : Ms) : Tr Ms :=
  if s.z = 0 then takeInN s else if s.z = 1 then giveOutN s else if s.z = 2 then addCarriedN s else if s.z = 3 then pairAtPlaceN s else
  if s.z = 4 then .done (s.af (subR 0 s.a false) (subF 0 s.a false)) else
  if s.z = 5 then (popN s).bind fun w => .done { (w.2.goTo w.1) with r := { (w.2.goTo w.1).r with iff1 := w.2.r.iff2 } } else
  if s.z = 6 then (if s.y % 4 = 2 then .done (s.mode 1) else if s.y % 4 = 3 then .done (s.mode 2) else .done (s.mode 0)) else if s.z = 7 then specialN s else .done s
def Ms.hlBy (s : Ms) (d : Int) : Ms := { s with r := { s.r with hl := moveM s.r.hl d } }
def Ms.deBy (s : Ms) (d : Int) : Ms := { s with r := { s.r with de := moveM s.r.de d } }
def Ms.bcDown (s : Ms) : Ms := { s with r := { s.r with bc := (s.r.bc - 1) % 65536 } }
def blockMoveN (d : Int) (s : Ms) : Tr Ms := (readN s.r.hl s).bind fun b => (writeN b.2.r.de b.1 b.2).bind fun s => (pauseN 2 s).bind fun s =>
  let t := ((s.hlBy d).deBy d).bcDown
  .done (t.setF (moveF t.a b.1 t.r.bc t.f))
def blockFindN (d : Int) (s : Ms) : Tr Ms := (readN s.r.hl s).bind fun b => (pauseN 5 b.2).bind fun s =>
  let t := ((s.hlBy d).wz (moveM s.r.wz d)).bcDown
  .done (t.setF (findF t.a b.1 t.r.bc t.f))
def blockTakeN (d : Int) (s : Ms) : Tr Ms := (pauseN 1 s).bind fun s => (inN s.r.bc s).bind fun b =>
  let t := b.2.wz (moveM b.2.r.bc d)
  (writeN t.lessB.r.hl b.1 t.lessB).bind fun s => .done ((s.hlBy d).setF (passF b.1 (b.1 + byC (getG (s.hlBy d).r (s.hlBy d).plane 1) d) t.left))
def blockGiveN (d : Int) (s : Ms) : Tr Ms := (pauseN 1 s).bind fun s => (readN s.r.hl s).bind fun b =>
  let t := b.2.lessB.wz (moveM b.2.lessB.r.bc d)
  (outN t.r.bc b.1 t).bind fun s => .done ((s.hlBy d).setF (passF b.1 (b.1 + (s.hlBy d).r.hl % 256) b.2.left))
def repeatN (s : Ms) : Tr Ms := (pauseN 5 s).bind fun s => if s.z = 0 ∨ s.z = 1 then .done ((s.pc ((s.r.pc - 2) % 65536)).wz (((s.r.pc - 2) % 65536 + 1) % 65536)) else .done (s.pc ((s.r.pc - 2) % 65536))
def blockSel (d : Int) (s : Ms) : Tr Ms := (if s.z = 0 then blockMoveN d s else if s.z = 1 then blockFindN d s else if s.z = 2 then blockTakeN d s else if s.z = 3 then blockGiveN d s else .done s).bind fun s =>
  if 6 ≤ s.y ∧ againM s.z s.f = true then repeatN s else .done s
def blocksN (s : Ms) : Tr Ms := if 4 ≤ s.z ∨ s.y < 4 then .done s else if s.q = 0 then blockSel 1 s else blockSel (-1) s
def Ms.inMem (s : Ms) : Bool := s.near || (s.z == 6)
def operandN (s : Ms) : Tr (Int × Ms) := if s.inMem = true then (readN s.spot s).bind fun b => (pauseN 1 b.2).bind fun t => .done (b.1, t) else getN s.z s
def resultN (b : Int) (s : Ms) : Tr Ms := (if s.inMem = true then writeN s.spot b s else .done s).bind fun s => if s.z = 6 then .done s else putN s.z b s
def shiftedN (s : Ms) : Tr Ms := (operandN s).bind fun b => resultN (doR b.2.y b.1 b.2.f) (b.2.setF (doF b.2.y b.1 b.2.f))
def testedN (s : Ms) : Tr Ms := (operandN s).bind fun b => if b.2.inMem = true then .done (b.2.setF (bitF b.2.y b.1 (b.2.r.wz / 256) b.2.f)) else .done (b.2.setF (bitF b.2.y b.1 b.1 b.2.f))
def changedN (on : Bool) (s : Ms) : Tr Ms := (operandN s).bind fun b => resultN (withM b.1 b.2.y on) b.2
def codeCBN (s : Ms) : Tr (Int × Ms) := if s.plane = 0 then fetchN s else (aimN s).bind fun s => (numberN s).bind fun c => (pauseN 2 c.2).bind fun s => .done (c.1, s)
def aloneHead (c : Int) (s : Ms) : Tr Ms := if nearM s.plane c = true then (aimN (s.split c)).bind fun s => if s.x ≠ 0 ∨ s.z ≠ 6 then pauseN 5 s else .done s else .done (s.split c)
def quarterN (s : Ms) : Tr Ms := if s.x = 0 then variousN s else if s.x = 1 then loadN s else if s.x = 2 then reckonN s else controlN s
def quarterE (s : Ms) : Tr Ms := if s.x = 1 then extendedN s else if s.x = 2 then blocksN s else .done s
def quarterC (s : Ms) : Tr Ms := if s.x = 0 then shiftedN s else if s.x = 1 then testedN s else if s.x = 2 then changedN false s else changedN true s
def Ms.atHL (s : Ms) : Ms := { s with spot := s.r.hl }
def Ms.toPlane (s : Ms) (v : Int) : Ms := { s with plane := v }
def Ms.noLate (s : Ms) : Ms := { s with r := { s.r with late := false } }
def bodyN (c : Int) (s : Ms) : Tr Ms :=
  if c = 203 then ((codeCBN s.atHL).bind fun c => .done (c.2.split c.1)).bind quarterC else
  if c = 237 then ((fetchN (s.atHL.toPlane 0)).bind fun c => .done (c.2.split c.1)).bind quarterE else
  (aloneHead c s.atHL).bind quarterN
def execN : List Int → Int → Ms → Except Cy (Ms × List Int)
  | [], c, s => if c = 221 ∨ c = 253 then .error ⟨1, s.r.pc, 0, 4⟩ else (bodyN c s).run []
  | b :: bs, c, s => if c = 221 ∨ c = 253 then execN bs b ({ s.toPlane (if c = 253 then 4 else 3) with r := tickG s.r 1 } : Ms).pcUp else (bodyN c s).run (b :: bs)
theorem exec_body {c : Int} (h : ¬ (c = 221 ∨ c = 253)) (s : Ms) (xs : List Int) : execN xs c s = (bodyN c s).run xs := by
  cases xs with
  | nil => rw [execN, if_neg h]
  | cons b bs => rw [execN, if_neg h]
theorem exec_pre {c : Int} (h : c = 221 ∨ c = 253) {s t : Ms} (ht : t = s.toPlane (if c = 253 then 4 else 3)) (xs : List Int) : execN xs c s = match (fetchN t).run xs with | .ok ((b, u), ys) => execN ys b u | .error e => .error e := by
  subst ht
  cases xs with
  | nil => rw [execN, if_pos h]; rfl
  | cons b bs =>
    rw [execN, if_pos h]
    have e : (fetchN (s.toPlane (if c = 253 then 4 else 3))).run (b :: bs) = .ok ((b, ({ s.toPlane (if c = 253 then 4 else 3) with r := tickG s.r 1 } : Ms).pcUp), bs) := Tr.run_done _ _
    rw [e]
theorem fetch_len {s s' : Ms} {xs ys : List Int} {b : Int} (h : (fetchN s).run xs = .ok ((b, s'), ys)) : ys.length < xs.length := by
  cases xs with
  | nil => cases h
  | cons c cs =>
    have e : (fetchN s).run (c :: cs) = .ok ((c, ({ s with r := tickG s.r 1 } : Ms).pcUp), cs) := Tr.run_done _ _
    rw [e] at h
    cases h
    simp
section
variable {P : Program} {ops : Array Oper} {md : Region.Mode} {Q : Exit → Act → World → Prop} {S : World → Prop} {n : Nat} {L : Array Bool → Act → World → Prop}
def wpAnyT (P : Program) (md : Region.Mode) (ops : Array Oper) (Q : Exit → Act → World → Prop) (S : World → Prop) (n : Nat) (L : Array Bool → Act → World → Prop) : Nat → Array Bool → Act → World → Prop
  | 0, listed, a, w => L listed a w
  | f + 1, listed, a, w => Region.ready md ops listed ≠ [] ∧
    ∀ i ∈ Region.ready md ops listed, i < n ∧ wpOp P ops Q i (fun a' w' => S w' ∧ wpAnyT P md ops Q S n L f (listed.setIfInBounds i true) a' w') a w
theorem wpAny_of_part {g : Nat} (hL : ∀ listed a w, L listed a w → wpAny P md ops Q g listed a w) :
    ∀ (f : Nat) (listed : Array Bool) (a : Act) (w : World), wpAnyT P md ops Q S n L f listed a w → wpAny P md ops Q (f + g) listed a w
  | 0, listed, a, w, h => by rw [Nat.zero_add]; exact hL _ _ _ h
  | f + 1, listed, a, w, h => by
    rw [show f + 1 + g = (f + g) + 1 by omega]
    exact ⟨fun h0 => absurd h0 h.1, fun i hi => wpOp_mono (fun a' w' h' => wpAny_of_part hL f _ a' w' h'.2) (h.2 i hi).2⟩
theorem wpAnyT_first {i : Nat} {oi : Oper} {v : Value} (hi : ops[i]? = some oi) (hsel : ∀ (j : Nat) (o : Oper) cs b, ops[j]? = some o → o.op ≠ .select cs b)
    (hs : Region.sinkB md ops n = true) (hc : Region.chainB md ops n = true) (hn : n < ops.size) (hin : i < n)
    (hQ : ∀ c a w, Q (.panic c) (a.put oi.dst v) w → Q (.panic c) a w)
    (hdone : ∀ listed a w, L listed a w → ∀ j ∈ Region.ready md ops listed, n ≤ j) :
    ∀ (f : Nat) (listed : Array Bool) (a : Act) (w : World), HeadInv md ops n listed →
      (∀ j oj, ops[j]? = some oj → j ≠ i → listed.getD j true = false → (∀ e ∈ oj.after, Region.binds md e = true → e.on ≠ i) → oi.apart ops oj = true) →
      i ∈ Region.ready md ops listed → YieldsIf P ops S oi v a → S w →
      wpAnyT P md ops Q S n L f (listed.setIfInBounds i true) (a.put oi.dst v) w → wpAnyT P md ops Q S n L (f + 1) listed a w := by
  intro f
  induction f with
  | zero =>
    intro listed a w inv _ hr hy hS H
    refine ⟨fun h => (by rw [h] at hr; cases hr), fun j hj => ?_⟩
    have hjn : j < n := Nat.lt_of_not_le fun h => tail_waits hs hc hn inv _ i rfl hin (mem_ready.1 hr).1 j h hj
    refine ⟨hjn, ?_⟩
    by_cases hji : j = i
    · subst hji; exact hy.wpOp hi hS ⟨hS, H⟩
    · have := hdone _ _ _ H j (ready_mono hj hji)
      omega
  | succ f ih =>
    intro listed a w inv hfree hr hy hS H
    refine ⟨fun h => (by rw [h] at hr; cases hr), fun j hj => ?_⟩
    have hjn : j < n := Nat.lt_of_not_le fun h => tail_waits hs hc hn inv _ i rfl hin (mem_ready.1 hr).1 j h hj
    refine ⟨hjn, ?_⟩
    by_cases hji : j = i
    · subst hji; exact hy.wpOp hi hS ⟨hS, H⟩
    · have h1 := (H.2 j (ready_mono hj hji)).2
      obtain ⟨hjun, oj, hoj, hall⟩ := mem_ready.1 hj
      have hnot : ∀ e ∈ oj.after, Region.binds md e = true → e.on ≠ i := fun e he hb heq => by
        have h1 := hall e he hb
        rw [heq, getD_both (mem_ready.1 hr).1] at h1
        cases h1
      have h2 := wpOp_putIf hoj (hfree j oj hoj hji hjun hnot) (fun cs b => hsel i oi cs b hi) (fun cs b => hsel j oj cs b hoj) hQ hy h1
      have hfree' : ∀ k ok, ops[k]? = some ok → k ≠ i → (listed.setIfInBounds j true).getD k true = false →
          (∀ e ∈ ok.after, Region.binds md e = true → e.on ≠ i) → oi.apart ops ok = true := fun k ok hk hki hun hno => by
        refine hfree k ok hk hki ?_ hno
        by_cases hjk : j = k
        · subst hjk; exact hjun
        · rw [getD_set_ne true hjk] at hun; exact hun
      refine wpOp_mono (fun a' w' h3 => ⟨h3.2.1, ih (listed.setIfInBounds j true) a' w' (inv.set hj hjn) hfree' (ready_mono hr (Ne.symm hji)) h3.1 h3.2.1 ?_⟩) h2
      rw [Array.setIfInBounds_comm _ _ hji]
      exact h3.2.2
def tailL (P : Program) (ops : Array Oper) (Q : Exit → Act → World → Prop) (n : Nat) (listed : Array Bool) (a : Act) (w : World) : Prop :=
  Region.seqB .any ops (ops.size - n) n listed = true ∧ wpList P ops Q (ops.toList.drop n) a w
def partT (P : Program) (ops : Array Oper) (Q : Exit → Act → World → Prop) (S : World → Prop) (n f : Nat) (listed : Array Bool) (a : Act) (w : World) : Prop :=
  HeadInv .any ops n listed → wpAnyT P .any ops Q S n (tailL P ops Q n) f listed a w
def partB (ops : Array Oper) (n : Nat) : Bool := Region.noSelect ops && (decide (n < ops.size) && (Region.sinkB .any ops n && Region.chainB .any ops n))
theorem part_start {id : Nat} {a : Act} {w : World} (n : Nat) (S : World → Prop) (hm : P.follows .mixedOrders = true) (hB : partB ops n = true) (hS : S w.drew)
    (h : ∀ w', w' = w.drew → S w' → partT P ops Q S n n (Array.replicate ops.size false) a w') : (Code.region id ops true).wp P Q a w := by
  simp only [partB, Bool.and_eq_true, decide_eq_true_eq] at hB
  obtain ⟨hsel, hn, hs, hc⟩ := hB
  have inv0 : HeadInv .any ops n (Array.replicate ops.size false) :=
    ⟨by simp, fun j oj _ hl => (by rw [getD_replicate_false] at hl; cases hl), fun t _ ht => getD_in (by simpa using ht) (getD_replicate_false _ _)⟩
  have H := h _ rfl hS inv0
  refine wp_region_any hm ?_
  have := wpAny_of_part (g := ops.size - n) (fun listed a w hL => by
    have := wpAny_of_seq (md := .any) (Q' := Q) (ops.toList.drop n) n listed a w (fun j => by simp [List.getElem?_drop]) (by simpa using hL.1) hL.2
    simpa using this) _ _ _ _ H
  rwa [show n + (ops.size - n) = ops.size by omega] at this
theorem part_take {i f : Nat} {listed : Array Bool} {a : Act} {w : World} {o : Oper} (d : Tmp) (v : Value) (hd : o.dst = some d) (ho : ops[i]? = some o) (hB : partB ops n = true) (hin : decide (i < n) = true) (hf : Region.free .any ops listed i = true)
    (hr : (Region.ready .any ops listed).contains i = true) (hQ : ∀ c a w, Q (.panic c) (a.put o.dst v) w → Q (.panic c) a w) (hw : Region.wanted o (yielded ops a.tmps) = true)
    (he : ∀ w, S w → (execOp a.eval o).run P w = .ok (.value v) w) (hS : S w)
    (h : partT P ops Q S n f (listed.setIfInBounds i true) (a.put (some d) v) w) : partT P ops Q S n (f + 1) listed a w := by
  simp only [partB, Bool.and_eq_true, decide_eq_true_eq] at hB
  obtain ⟨hsel, hn, hs, hc⟩ := hB
  intro inv
  have hr' : i ∈ Region.ready .any ops listed := by simpa using hr
  exact wpAnyT_first ho (Region.noSelect_spec hsel) hs hc hn (of_decide_eq_true hin) hQ (fun listed' a' w' hL => seqB_ready hL.1) f listed a w inv (Region.free_spec ho hf) hr' (.inl ⟨hw, he⟩) hS
    (by rw [hd]; exact h (inv.set hr' (of_decide_eq_true hin)))
theorem part_skip {i f : Nat} {listed : Array Bool} {a : Act} {w : World} {o : Oper} (d : Tmp) (hd : o.dst = some d) (ho : ops[i]? = some o) (hB : partB ops n = true) (hin : decide (i < n) = true) (hf : Region.free .any ops listed i = true)
    (hr : (Region.ready .any ops listed).contains i = true) (hQ : ∀ c a w, Q (.panic c) (a.put o.dst undef) w → Q (.panic c) a w) (hw : Region.wanted o (yielded ops a.tmps) = false) (hS : S w)
    (h : partT P ops Q S n f (listed.setIfInBounds i true) (a.put (some d) undef) w) : partT P ops Q S n (f + 1) listed a w := by
  simp only [partB, Bool.and_eq_true, decide_eq_true_eq] at hB
  obtain ⟨hsel, hn, hs, hc⟩ := hB
  intro inv
  have hr' : i ∈ Region.ready .any ops listed := by simpa using hr
  exact wpAnyT_first ho (Region.noSelect_spec hsel) hs hc hn (of_decide_eq_true hin) hQ (fun listed' a' w' hL => seqB_ready hL.1) f listed a w inv (Region.free_spec ho hf) hr' (.inr ⟨hw, rfl⟩) hS
    (by rw [hd]; exact h (inv.set hr' (of_decide_eq_true hin)))
theorem part_call {i f : Nat} {listed : Array Bool} {a : Act} {w : World} {o : Oper} {g : FuncId} {args : Array Value} {R : Ending → World → Prop} (ho : ops[i]? = some o) (hr : Region.ready .any ops listed = [i]) (hin : decide (i < n) = true)
    (hw : Region.wanted o (yielded ops a.tmps) = true) (he : (execOp a.eval o).run P w = .ok (.enter g args) w) (hc : Calls P g args w R)
    (h : ∀ e w', R e w' → match e with
      | .returned v => S w' ∧ partT P ops Q S n f (listed.setIfInBounds i true) (a.put o.dst v) w'
      | .panicked c => Q (.panic c) a w'
      | .outgrown => False) : partT P ops Q S n (f + 1) listed a w := by
  intro inv
  have hr' : i ∈ Region.ready .any ops listed := by rw [hr]; simp
  refine ⟨by rw [hr]; simp, fun j hj => ?_⟩
  rw [hr] at hj
  have hji : j = i := by simpa using hj
  subst hji
  refine ⟨of_decide_eq_true hin, ?_⟩
  unfold wpOp
  simp only [ho, hw, if_true]
  refine .inl ?_
  unfold Oper.wp
  rw [he, Oper.upon_enter]
  refine hc.mono fun e w' hR => ?_
  have := h e w' hR
  cases e with
  | returned v => exact ⟨this.1, this.2 (inv.set hr' (of_decide_eq_true hin))⟩
  | panicked c => exact this
  | outgrown => exact this.elim
structure WL (P : Program) (ops : Array Oper) (Q : Exit → Act → World → Prop) (l : List Oper) (a : Act) (w : World) : Prop where
  h : wpList P ops Q l a w
theorem regionL {id : Nat} {l : List Oper} {a : Act} {w : World} (h : WL P l.toArray Q l a w) : (Code.region id l.toArray false).wp P Q a w := wp_region_lit h.h
theorem endL {a : Act} {w : World} (h : Q .normal a w) : WL P ops Q [] a w := ⟨wpList_nil h⟩
theorem part_end {listed : Array Bool} {a : Act} {w : World} (hB : Region.seqB .any ops (ops.size - n) n listed = true) (h : WL P ops Q (ops.toList.drop n) a w) : partT P ops Q S n 0 listed a w := fun _ => ⟨hB, h.h⟩
theorem list_call {a : Act} {w : World} {o : Oper} {rest : List Oper} {g : FuncId} {args : Array Value} {R : Ending → World → Prop} (hw : Region.wanted o (yielded ops a.tmps) = true)
    (he : (execOp a.eval o).run P w = .ok (.enter g args) w) (hc : Calls P g args w R)
    (h : ∀ e w', R e w' → match e with
      | .returned v => WL P ops Q rest (a.put o.dst v) w'
      | .panicked c => Q (.panic c) a w'
      | .outgrown => False) : WL P ops Q (o :: rest) a w :=
  ⟨wpList_step fun K hK => by
    rw [if_pos hw]
    unfold Oper.wp
    rw [he, Oper.upon_enter]
    refine hc.mono fun e w' hR => ?_
    have := h e w' hR
    cases e with
    | returned v => exact hK _ _ this.h
    | panicked c => exact this
    | outgrown => exact this.elim⟩
theorem list_take {rest : List Oper} {o : Oper} {a : Act} {w : World} (d : Tmp) (v : Value) (hd : o.dst = some d) (hw : Region.wanted o (yielded ops a.tmps) = true) (he : (execOp a.eval o).run P w = .ok (.value v) w)
    (h : WL P ops Q rest (a.put (some d) v) w) : WL P ops Q (o :: rest) a w :=
  ⟨wpList_step fun K hK => by
    rw [if_pos hw]
    unfold Oper.wp
    rw [he, Oper.upon_value, hd]
    exact hK _ _ h.h⟩
theorem list_skip {rest : List Oper} {o : Oper} {a : Act} {w : World} (d : Tmp) (hd : o.dst = some d) (hw : Region.wanted o (yielded ops a.tmps) = false)
    (h : WL P ops Q rest (a.put (some d) undef) w) : WL P ops Q (o :: rest) a w :=
  ⟨wpList_step fun K hK => by
    rw [if_neg (by rw [hw]; simp), hd]
    exact hK _ _ h.h⟩
theorem list_do {rest : List Oper} {o : Oper} {a : Act} {w w' : World} (hd : o.dst = none) (hw : Region.wanted o (yielded ops a.tmps) = true) (he : (execOp a.eval o).run P w = .ok .skip w')
    (h : WL P ops Q rest (a.put none undef) w') : WL P ops Q (o :: rest) a w :=
  ⟨wpList_step fun K hK => by
    rw [if_pos hw]
    unfold Oper.wp
    rw [he, Oper.upon_skip, hd]
    exact hK _ _ h.h⟩
theorem list_make {rest : List Oper} {o : Oper} {a : Act} {w w' : World} (d : Tmp) (v : Value) (hd : o.dst = some d) (hw : Region.wanted o (yielded ops a.tmps) = true) (he : (execOp a.eval o).run P w = .ok (.value v) w')
    (h : WL P ops Q rest (a.put (some d) v) w') : WL P ops Q (o :: rest) a w :=
  ⟨wpList_step fun K hK => by
    rw [if_pos hw]
    unfold Oper.wp
    rw [he, Oper.upon_value, hd]
    exact hK _ _ h.h⟩
end
end Go.Proofs.YtkenebbjodcbcaaGreatDoor
