/- Bitwise operations on bytes, bit by bit: what 'bits' of two bytes is, by isM. Nothing of the program. -/
import Derived.Test.YtpiadeedgjmmkaaDoorBitsMath
import Derived.Laws.BitsAllLaws
namespace Go.Proofs.YtpiadeedgjmmkaaDoor
set_option linter.unusedVariables false

theorem isM_nat (a n : Nat) (h : n < 8) : isM (a : Int) (n : Int) = a.testBit n := by
  have e : (a : Int) / 2 ^ n % 2 = ((a / 2 ^ n % 2 : Nat) : Int) := by simp
  unfold isM
  rw [Nat.testBit_eq_decide_div_mod_eq, decide_eq_true (show (0 : Int) ≤ (n : Int) by omega), decide_eq_true (show (n : Int) < 8 by omega), Int.toNat_natCast, e]
  simp only [Bool.true_and]
  congr 1
  apply propext
  omega
/-- a fact on two bytes and a bit, of natural numbers -/
theorem bytes2 {Q : Int → Int → Prop} (h : ∀ a b : Nat, a < 256 → b < 256 → Q a b) (a b : Int) (h0 : 0 ≤ a) (h1 : a ≤ 255) (h2 : 0 ≤ b) (h3 : b ≤ 255) : Q a b := by
  have := h a.toNat b.toNat (by omega) (by omega)
  rwa [Int.toNat_of_nonneg h0, Int.toNat_of_nonneg h2] at this
theorem isM_and (a b : Int) (n : Nat) (h : n < 8) (h0 : 0 ≤ a) (h1 : a ≤ 255) (h2 : 0 ≤ b) (h3 : b ≤ 255) : isM (bits .and .u8 a b) n = (isM a n && isM b n) :=
  bytes2 (Q := fun a b => isM (bits .and .u8 a b) n = (isM a n && isM b n)) (fun a b ha hb => by rw [u8_and_nat a b ha hb, isM_nat _ _ h, isM_nat _ _ h, isM_nat _ _ h, Nat.testBit_and]) a b h0 h1 h2 h3
theorem isM_or (a b : Int) (n : Nat) (h : n < 8) (h0 : 0 ≤ a) (h1 : a ≤ 255) (h2 : 0 ≤ b) (h3 : b ≤ 255) : isM (bits .or .u8 a b) n = (isM a n || isM b n) :=
  bytes2 (Q := fun a b => isM (bits .or .u8 a b) n = (isM a n || isM b n)) (fun a b ha hb => by rw [u8_or_nat a b ha hb, isM_nat _ _ h, isM_nat _ _ h, isM_nat _ _ h, Nat.testBit_or]) a b h0 h1 h2 h3
theorem isM_xor (a b : Int) (n : Nat) (h : n < 8) (h0 : 0 ≤ a) (h1 : a ≤ 255) (h2 : 0 ≤ b) (h3 : b ≤ 255) : isM (bits .xor .u8 a b) n = (isM a n ^^ isM b n) :=
  bytes2 (Q := fun a b => isM (bits .xor .u8 a b) n = (isM a n ^^ isM b n)) (fun a b ha hb => by rw [u8_xor_nat a b ha hb, isM_nat _ _ h, isM_nat _ _ h, isM_nat _ _ h, Nat.testBit_xor]) a b h0 h1 h2 h3
theorem not8_bit (b n : Nat) (hb : b < 256) (h : n < 8) : (255 - b).testBit n = !b.testBit n := by
  have := Nat.testBit_two_pow_sub_succ (x := b) (n := 8) (by omega) n
  rw [show 2 ^ 8 - (b + 1) = 255 - b by omega] at this
  simpa [h] using this
theorem isM_andNot (a b : Int) (n : Nat) (h : n < 8) (h0 : 0 ≤ a) (h1 : a ≤ 255) (h2 : 0 ≤ b) (h3 : b ≤ 255) : isM (bits .andNot .u8 a b) n = (isM a n && !isM b n) :=
  bytes2 (Q := fun a b => isM (bits .andNot .u8 a b) n = (isM a n && !isM b n)) (fun a b ha hb => by rw [u8_andNot_nat a b ha hb, isM_nat _ _ h, isM_nat _ _ h, isM_nat _ _ h, Nat.testBit_and, not8_bit b n hb h]) a b h0 h1 h2 h3
theorem and_byte (a b : Int) (h0 : 0 ≤ a) (h1 : a ≤ 255) (h2 : 0 ≤ b) (h3 : b ≤ 255) : 0 ≤ bits .and .u8 a b ∧ bits .and .u8 a b ≤ 255 :=
  bytes2 (Q := fun a b => 0 ≤ bits .and .u8 a b ∧ bits .and .u8 a b ≤ 255) (fun a b ha hb => by rw [u8_and_nat a b ha hb]; have := Nat.and_lt_two_pow (n := 8) a (show b < 2 ^ 8 by omega); omega) a b h0 h1 h2 h3
theorem or_byte (a b : Int) (h0 : 0 ≤ a) (h1 : a ≤ 255) (h2 : 0 ≤ b) (h3 : b ≤ 255) : 0 ≤ bits .or .u8 a b ∧ bits .or .u8 a b ≤ 255 :=
  bytes2 (Q := fun a b => 0 ≤ bits .or .u8 a b ∧ bits .or .u8 a b ≤ 255) (fun a b ha hb => by rw [u8_or_nat a b ha hb]; have := Nat.or_lt_two_pow (n := 8) (show a < 2 ^ 8 by omega) (show b < 2 ^ 8 by omega); omega) a b h0 h1 h2 h3
theorem xor_byte (a b : Int) (h0 : 0 ≤ a) (h1 : a ≤ 255) (h2 : 0 ≤ b) (h3 : b ≤ 255) : 0 ≤ bits .xor .u8 a b ∧ bits .xor .u8 a b ≤ 255 :=
  bytes2 (Q := fun a b => 0 ≤ bits .xor .u8 a b ∧ bits .xor .u8 a b ≤ 255) (fun a b ha hb => by rw [u8_xor_nat a b ha hb]; have := Nat.xor_lt_two_pow (n := 8) (show a < 2 ^ 8 by omega) (show b < 2 ^ 8 by omega); omega) a b h0 h1 h2 h3
theorem andNot_byte (a b : Int) (h0 : 0 ≤ a) (h1 : a ≤ 255) (h2 : 0 ≤ b) (h3 : b ≤ 255) : 0 ≤ bits .andNot .u8 a b ∧ bits .andNot .u8 a b ≤ 255 :=
  bytes2 (Q := fun a b => 0 ≤ bits .andNot .u8 a b ∧ bits .andNot .u8 a b ≤ 255) (fun a b ha hb => by rw [u8_andNot_nat a b ha hb]; have := Nat.and_lt_two_pow (n := 8) a (show 255 - b < 2 ^ 8 by omega); omega) a b h0 h1 h2 h3
/-- two bytes are one if their bits are -/
theorem byte_ext (a b : Int) (h0 : 0 ≤ a) (h1 : a ≤ 255) (h2 : 0 ≤ b) (h3 : b ≤ 255) (h : ∀ n : Nat, n < 8 → isM a n = isM b n) : a = b := by
  have key : a.toNat = b.toNat := by
    apply Nat.eq_of_testBit_eq
    intro i
    by_cases hi : i < 8
    · have := h i hi
      rw [show a = ((a.toNat : Nat) : Int) from (Int.toNat_of_nonneg h0).symm, show b = ((b.toNat : Nat) : Int) from (Int.toNat_of_nonneg h2).symm, isM_nat _ _ hi, isM_nat _ _ hi] at this
      exact this
    · have p : 2 ^ 8 ≤ 2 ^ i := Nat.pow_le_pow_right (by omega) (by omega)
      rw [Nat.testBit_lt_two_pow (show a.toNat < 2 ^ i by omega), Nat.testBit_lt_two_pow (show b.toNat < 2 ^ i by omega)]
  omega
end Go.Proofs.YtpiadeedgjmmkaaDoor
