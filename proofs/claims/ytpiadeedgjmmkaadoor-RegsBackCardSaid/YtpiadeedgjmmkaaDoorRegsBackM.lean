/- Layer 11 (regs): what is set is got, and nothing else changes; turned twice, ticked twice, reset twice: on the plain functions. Nothing of the program. -/
import Derived.Test.YtpiadeedgjmmkaaDoorRegsMath
import Derived.Test.YtpiadeedgjmmkaaDoorBitOps
namespace Go.Proofs.YtpiadeedgjmmkaaDoor
open Go.RowKit
set_option linter.unusedVariables false
set_option linter.unusedSimpArgs false

theorem and65535_i64 (y : Int) : bits BinOp.and IntKind.i64 y 65535 = y % 65536 := by
  have e : (BitVec.ofInt 64 y &&& BitVec.ofInt 64 65535).toNat = (y % 65536).toNat := by
    rw [BitVec.toNat_and, show (BitVec.ofInt 64 65535).toNat = 2 ^ 16 - 1 by decide, Nat.and_two_pow_sub_one_eq_mod, BitVec.toNat_ofInt]
    omega
  show IntKind.i64.wrap ((BitVec.ofInt 64 y &&& BitVec.ofInt 64 65535).toNat : Int) = _
  rw [e, IntKind.wrap_i64]
  omega
theorem high_same (x y : Int) (hx : B8 x) (hy : B8 y) (h : x / 128 = y / 128) : bits .and .u8 (bits .xor .u8 x y) 128 = 0 := by
  have hq := xor_byte x y hx.1 hx.2 hy.1 hy.2
  have ha := and_byte _ 128 hq.1 hq.2 (by omega) (by omega)
  refine byte_ext _ _ ha.1 ha.2 (by omega) (by omega) (fun n hn => ?_)
  rw [isM_and _ _ n hn hq.1 hq.2 (by omega) (by omega), isM_xor _ _ n hn hx.1 hx.2 hy.1 hy.2]
  have h7 : isM x 7 = isM y 7 := by
    unfold isM
    rw [show (2 : Int) ^ (7 : Int).toNat = 128 from rfl, h]
  match n, hn with
  | 0, _ => rw [show isM 128 ((0 : Nat) : Int) = false by decide, show isM 0 ((0 : Nat) : Int) = false by decide, Bool.and_false]
  | 1, _ => rw [show isM 128 ((1 : Nat) : Int) = false by decide, show isM 0 ((1 : Nat) : Int) = false by decide, Bool.and_false]
  | 2, _ => rw [show isM 128 ((2 : Nat) : Int) = false by decide, show isM 0 ((2 : Nat) : Int) = false by decide, Bool.and_false]
  | 3, _ => rw [show isM 128 ((3 : Nat) : Int) = false by decide, show isM 0 ((3 : Nat) : Int) = false by decide, Bool.and_false]
  | 4, _ => rw [show isM 128 ((4 : Nat) : Int) = false by decide, show isM 0 ((4 : Nat) : Int) = false by decide, Bool.and_false]
  | 5, _ => rw [show isM 128 ((5 : Nat) : Int) = false by decide, show isM 0 ((5 : Nat) : Int) = false by decide, Bool.and_false]
  | 6, _ => rw [show isM 128 ((6 : Nat) : Int) = false by decide, show isM 0 ((6 : Nat) : Int) = false by decide, Bool.and_false]
  | 7, _ =>
    show ((isM x 7 ^^ isM y 7) && isM 128 7) = isM 0 7
    rw [h7, Bool.xor_self, Bool.false_and]
    decide
theorem tick_high (r n : Int) (h : B8 r) : bits .and .u8 (bits .xor .u8 (tickR r n) r) 128 = 0 :=
  high_same _ _ (tickR_b h n) h (by unfold tickR; omega)
theorem exx_exx (g : Rg) : exxG (exxG g) = g := rfl
theorem swap_swap (g : Rg) : swapG (swapG g) = g := rfl
theorem exx_swap (g : Rg) : exxG (swapG g) = swapG (exxG g) := rfl
theorem reset_reset (g : Rg) : resetG (resetG g) = resetG g := rfl
theorem tickR_add (r a b : Int) : tickR (tickR r a) b = tickR r (a + b) := by
  unfold tickR
  omega
theorem tickR_zero (r : Int) : tickR r 0 = r := by
  unfold tickR
  omega
theorem tick_add (g : Rg) (a b : Int) : tickG (tickG g a) b = tickG g (a + b) := by
  unfold tickG
  simp only [tickR_add]
theorem tick_back (g : Rg) (a : Int) : tickG (tickG g a) (-a) = g := by
  rw [tick_add, Int.add_right_neg]
  unfold tickG
  rw [tickR_zero]
theorem pair_set (g : Rg) (pl p w : Int) (hp : 0 ≤ p ∧ p ≤ 3) : pairG (setPairG g pl p w) pl p = w := by
  obtain rfl | rfl | rfl | rfl : p = 0 ∨ p = 1 ∨ p = 2 ∨ p = 3 := by omega
  all_goals simp only [pairG, setPairG]
  all_goals try rfl
  by_cases h3 : pl = 3
  · simp [h3]
  · by_cases h4 : pl = 4
    · simp [h4]
    · simp [h3, h4]
theorem setPair_pair (g : Rg) (pl p w : Int) : setPairG (setPairG g pl p w) pl p (pairG g pl p) = g := by
  unfold setPairG pairG
  by_cases h0 : p = 0
  · simp [h0]
  by_cases h1 : p = 1
  · simp [h1]
  by_cases h2 : p = 2
  · by_cases h3 : pl = 3
    · simp [h2, h3]
    · by_cases h4 : pl = 4
      · simp [h2, h4]
      · simp [h2, h3, h4]
  by_cases h3 : p = 3
  · simp [h3]
  · simp [h0, h1, h2, h3]
theorem setPair_setPair (g : Rg) (pl p v w : Int) : setPairG (setPairG g pl p v) pl p w = setPairG g pl p w := by
  unfold setPairG
  by_cases h0 : p = 0
  · simp [h0]
  by_cases h1 : p = 1
  · simp [h1]
  by_cases h2 : p = 2
  · by_cases h3 : pl = 3
    · simp [h2, h3]
    · by_cases h4 : pl = 4
      · simp [h2, h4]
      · simp [h2, h3, h4]
  by_cases h3 : p = 3
  · simp [h3]
  · simp [h0, h1, h2, h3]
theorem pair_self (g : Rg) (pl p : Int) : setPairG g pl p (pairG g pl p) = g := by
  have := setPair_pair g pl p (pairG g pl p)
  rwa [setPair_setPair] at this
theorem pair_other (g : Rg) (pl p q w : Int) (hpq : p ≠ q) : pairG (setPairG g pl p w) pl q = pairG g pl q := by
  unfold pairG setPairG
  by_cases h0 : p = 0
  · subst h0; simp [Ne.symm hpq]
  by_cases h1 : p = 1
  · subst h1; simp [Ne.symm hpq]
  by_cases h2 : p = 2
  · subst h2
    by_cases h3 : pl = 3
    · simp [Ne.symm hpq, h3]
    · by_cases h4 : pl = 4
      · simp [Ne.symm hpq, h4]
      · simp [Ne.symm hpq, h3, h4]
  by_cases h3 : p = 3
  · subst h3; simp [Ne.symm hpq]
  · simp [h0, h1, h2, h3]
theorem pair_af (g : Rg) (pl p x : Int) : pairG { g with af := x } pl p = pairG g pl p := rfl
theorem af_setPair (g : Rg) (pl p w : Int) : (setPairG g pl p w).af = g.af := by
  unfold setPairG
  repeat' split
  all_goals rfl
theorem get_set (g : Rg) (pl k b : Int) (hb : B8 b) (hk : 0 ≤ k ∧ k ≤ 7) (h6 : k ≠ 6) : getG (setG g pl k b) pl k = b := by
  obtain ⟨b0, b1⟩ := hb
  unfold getG setG
  by_cases h7 : k = 7
  · simp only [if_pos h7]
    omega
  have h5 : ¬ (k < 0 ∨ 5 < k) := by omega
  simp only [if_neg h7, if_neg h5]
  by_cases h2 : k % 2 = 0
  · simp only [if_pos h2]
    rw [pair_set _ _ _ _ (by omega)]
    omega
  · simp only [if_neg h2]
    rw [pair_set _ _ _ _ (by omega)]
    omega
theorem set_get (g : Rg) (pl k b : Int) (hb : B8 b) : setG (setG g pl k b) pl k (getG g pl k) = g := by
  obtain ⟨b0, b1⟩ := hb
  unfold getG setG
  by_cases h7 : k = 7
  · simp only [if_pos h7]
    have : 256 * (g.af / 256) + (256 * b + g.af % 256) % 256 = g.af := by omega
    rw [this]
  simp only [if_neg h7]
  by_cases h5 : k < 0 ∨ 5 < k
  · simp only [if_pos h5]
  simp only [if_neg h5]
  by_cases h2 : k % 2 = 0
  · simp only [if_pos h2]
    rw [setPair_setPair, pair_set _ _ _ _ (by omega), show 256 * (pairG g pl (k / 2) / 256) + (256 * b + pairG g pl (k / 2) % 256) % 256 = pairG g pl (k / 2) by omega, pair_self]
  · simp only [if_neg h2]
    rw [setPair_setPair, pair_set _ _ _ _ (by omega), show 256 * ((256 * (pairG g pl (k / 2) / 256) + b) / 256) + pairG g pl (k / 2) % 256 = pairG g pl (k / 2) by omega, pair_self]
theorem get_other (g : Rg) (pl k j b : Int) (hb : B8 b) (hk : 0 ≤ k ∧ k ≤ 7) (hj : 0 ≤ j ∧ j ≤ 7) (hjk : j ≠ k) : getG (setG g pl k b) pl j = getG g pl j := by
  obtain ⟨b0, b1⟩ := hb
  unfold getG setG
  by_cases h7 : k = 7
  · simp only [if_pos h7, if_neg (show ¬ j = 7 by omega), pair_af]
  simp only [if_neg h7]
  by_cases h5 : k < 0 ∨ 5 < k
  · simp only [if_pos h5]
  simp only [if_neg h5]
  by_cases j7 : j = 7
  · simp only [if_pos j7]
    split <;> rw [af_setPair]
  simp only [if_neg j7]
  by_cases j5 : j < 0 ∨ 5 < j
  · simp only [if_pos j5]
  simp only [if_neg j5]
  by_cases hq : j / 2 = k / 2
  · by_cases h2 : k % 2 = 0
    · simp only [if_pos h2, if_neg (show ¬ j % 2 = 0 by omega), hq]
      rw [pair_set _ _ _ _ (by omega)]
      omega
    · simp only [if_neg h2, if_pos (show j % 2 = 0 by omega), hq]
      rw [pair_set _ _ _ _ (by omega)]
      omega
  · by_cases h2 : k % 2 = 0
    · simp only [if_pos h2, pair_other _ _ _ _ _ (Ne.symm hq)]
    · simp only [if_neg h2, pair_other _ _ _ _ _ (Ne.symm hq)]
end Go.Proofs.YtpiadeedgjmmkaaDoor
