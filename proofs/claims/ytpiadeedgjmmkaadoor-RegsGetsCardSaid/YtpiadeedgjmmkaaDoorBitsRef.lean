/- Layer 1 (bits): what the document's own answers are, over the translated program: contracts. -/
import Derived.Test.YtpiadeedgjmmkaaDoorBitsLeaf
import Derived.Lib.Hide
namespace Go.Proofs.YtpiadeedgjmmkaaDoor
open Go.RowKit
set_option linter.unusedVariables false

theorem isM_i64 (b n : Int) (h0 : 0 ≤ n) (h1 : n < 8) : (b / 2 ^ n.toNat % 2 == 1) = isM b n := by
  rw [isM_in b n h0 h1]; by_cases h : b / 2 ^ n.toNat % 2 = 1 <;> simp [h]

theorem withM_in (b n : Int) (on : Bool) (h0 : 0 ≤ n) (h1 : n < 8) : withM b n on = (if isM b n then (if on then b else b - 2 ^ n.toNat) else (if on then b + 2 ^ n.toNat else b)) := by
  unfold withM; rw [if_pos ⟨h0, h1⟩]

theorem count_bound (b : Int) : ∀ k : Nat, 0 ≤ countUpto b k ∧ countUpto b k ≤ k
  | 0 => ⟨by simp [countUpto], by simp [countUpto]⟩
  | k + 1 => by
    have := count_bound b k
    simp only [countUpto]
    split <;> omega
theorem count_yes (b : Int) (k : Nat) (h : isM b k = true) : countUpto b (k + 1) = countUpto b k + 1 := by simp [countUpto, h]
theorem count_no (b : Int) (k : Nat) (h : isM b k = false) : countUpto b (k + 1) = countUpto b k := by simp [countUpto, h]

theorem turn_bound (b y : Int) : ∀ k : Nat, k ≤ 8 → 0 ≤ turnUpto b y k ∧ turnUpto b y k ≤ 256 * k
  | 0, _ => ⟨by simp [turnUpto], by simp [turnUpto]⟩
  | k + 1, h => by
    have := turn_bound b y k (by omega)
    have hp := pow_bound (((k : Int) + y) % 8).toNat (by omega)
    simp only [turnUpto]
    split <;> omega
theorem turn_yes (b y : Int) (k : Nat) (h : isM b k = true) : turnUpto b y (k + 1) = turnUpto b y k + 2 ^ (((k : Int) + y) % 8).toNat := by simp [turnUpto, h]
theorem turn_no (b y : Int) (k : Nat) (h : isM b k = false) : turnUpto b y (k + 1) = turnUpto b y k := by simp [turnUpto, h]

theorem tmod8 (y : Int) : -7 ≤ y.tmod 8 ∧ y.tmod 8 ≤ 7 ∧ (y.tmod 8) % 8 = y % 8 := by
  rcases Int.le_total 0 y with h | h
  · rw [Int.tmod_eq_emod_of_nonneg h]; omega
  · obtain ⟨z, rfl⟩ : ∃ z, y = -z := ⟨-y, by omega⟩
    rw [Int.neg_tmod, Int.tmod_eq_emod_of_nonneg (by omega)]; omega

theorem firstFrom_yes (b : Int) (k r : Nat) (h : isM b k = true) : firstFrom b k (r + 1) = k := by simp [firstFrom, h]
theorem firstFrom_no (b : Int) (k r : Nat) (h : isM b k = false) : firstFrom b k (r + 1) = firstFrom b (k + 1) r := by simp [firstFrom, h]

end Go.Proofs.YtpiadeedgjmmkaaDoor
