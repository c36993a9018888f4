/- Layer 3 (sum): contracts of when, carries, join. -/
import Derived.Test.YtggickkdjjjfdaaDoorSumMath
namespace Go.Proofs.YtggickkdjjjfdaaDoor
open Go.RowKit
set_option linter.unusedVariables false
set_option linter.unusedSimpArgs false

/-- a value, or nothing -/
def whenM (h : Bool) (v : Int) : Int := if h then v else 0
theorem pow_fin : ∀ k : Fin 8, (2 : Int) ^ k.val % 256 = 2 ^ k.val ∧ (1 : Int) ≤ 2 ^ k.val ∧ (2 : Int) ^ k.val ≤ 128 ∧ (2 ^ k.val * 2 : Int) % 256 = 2 ^ (k.val + 1) % 256 := by decide +kernel
theorem pow_facts (k : Nat) (hk : k < 8) : (2 : Int) ^ k % 256 = 2 ^ k ∧ (1 : Int) ≤ 2 ^ k ∧ (2 : Int) ^ k ≤ 128 ∧ (2 ^ k * 2 : Int) % 256 = 2 ^ (k + 1) % 256 := pow_fin ⟨k, hk⟩
theorem or_and_bit (a b : Int) (ha : B8 a) (hb : B8 b) (k : Nat) (hk : k < 8) : (bits .and .u8 (bits .or .u8 a b) (2 ^ k) != 0) = (isM a k || isM b k) := by
  have h := or_byte a b ha.1 ha.2 hb.1 hb.2
  have e := and_bit (bits .or .u8 a b) (k : Int) h.1 h.2 (by omega) (by omega)
  rw [Int.toNat_natCast, (pow_facts k hk).1] at e
  rw [e, isM_or a b k hk ha.1 ha.2 hb.1 hb.2]
theorem and_and_bit (a b : Int) (ha : B8 a) (hb : B8 b) (k : Nat) (hk : k < 8) : (bits .and .u8 (bits .and .u8 a b) (2 ^ k) != 0) = (isM a k && isM b k) := by
  have h := and_byte a b ha.1 ha.2 hb.1 hb.2
  have e := and_bit (bits .and .u8 a b) (k : Int) h.1 h.2 (by omega) (by omega)
  rw [Int.toNat_natCast, (pow_facts k hk).1] at e
  rw [e, isM_and a b k hk ha.1 ha.2 hb.1 hb.2]
theorem or_pow (x : Int) (hx : B8 x) (k : Nat) (hk : k < 8) : bits .or .u8 x (2 ^ k) = withM x k true := by
  have e := or_bit x (k : Int) hx.1 hx.2 (by omega) (by omega)
  rwa [Int.toNat_natCast, (pow_facts k hk).1] at e
theorem bit_down (B : Int) (h1 : 1 ≤ B) (h2 : B ≤ 128) : (if B * 2 % 256 = 0 then 0 else 256 - (B * 2 % 256).toNat) < if B = 0 then 0 else 256 - B.toNat := by
  rw [if_neg (show ¬ B = 0 by omega)]
  by_cases h : B * 2 % 256 = 0
  · rw [if_pos h]; omega
  · rw [if_neg h]; omega
/-- the parts' flags, one after another -/
def joinUpto (zs : List Int) : Nat → Int
  | 0 => 0
  | k + 1 => bits .or .u8 (joinUpto zs k) (zs.getD k 0)
end Go.Proofs.YtggickkdjjjfdaaDoor
