/- Decimal digits behind a sum and a difference: facts on plain numbers; nothing of the program. -/
import Derived.Test.YtggickkdjjjfdaaDoorLogicMath
namespace Go.Proofs.YtggickkdjjjfdaaDoor
set_option linter.unusedVariables false
set_option linter.unusedSimpArgs false

theorem addF_bits (a b : Int) (c : Bool) : isM (addF a b c) 4 = decide (15 < a % 16 + b % 16 + one c) ∧ isM (addF a b c) 1 = false ∧ isM (addF a b c) 0 = decide (255 < a + b + one c) := by
  obtain ⟨e7, e6, e5, e4, e3, e2, e1, e0⟩ : isM (addF a b c) 7 = _ ∧ isM (addF a b c) 6 = _ ∧ isM (addF a b c) 5 = _ ∧ isM (addF a b c) 4 = _ ∧ isM (addF a b c) 3 = _ ∧ isM (addF a b c) 2 = _ ∧ isM (addF a b c) 1 = _ ∧ isM (addF a b c) 0 = _ := of_mkM _ _ _ _ _ _ _ _
  exact ⟨e4, e1, e0⟩
theorem subF_bits (a b : Int) (c : Bool) : isM (subF a b c) 4 = decide (a % 16 - b % 16 - one c < 0) ∧ isM (subF a b c) 1 = true ∧ isM (subF a b c) 0 = decide (a - b - one c < 0) := by
  obtain ⟨e7, e6, e5, e4, e3, e2, e1, e0⟩ : isM (subF a b c) 7 = _ ∧ isM (subF a b c) 6 = _ ∧ isM (subF a b c) 5 = _ ∧ isM (subF a b c) 4 = _ ∧ isM (subF a b c) 3 = _ ∧ isM (subF a b c) 2 = _ ∧ isM (subF a b c) 1 = _ ∧ isM (subF a b c) 0 = _ := of_mkM _ _ _ _ _ _ _ _
  exact ⟨e4, e1, e0⟩
theorem daaF_low (a f : Int) : isM (daaF a f) 0 = wrongHigh a f := (of_mkM _ _ _ _ _ _ _ _).2.2.2.2.2.2.2
theorem dec_add (p q s t : Int) (c : Bool) (hp : 0 ≤ p ∧ p ≤ 9) (hq : 0 ≤ q ∧ q ≤ 9) (hs : 0 ≤ s ∧ s ≤ 9) (ht : 0 ≤ t ∧ t ≤ 9) (D : Int)
    (hD : daaR (addR (p * 16 + q) (s * 16 + t) c) (addF (p * 16 + q) (s * 16 + t) c) = D) :
    D / 16 * 10 + D % 16 = (p * 10 + q + (s * 10 + t) + one c) % 100 ∧ isM (daaF (addR (p * 16 + q) (s * 16 + t) c) (addF (p * 16 + q) (s * 16 + t) c)) 0 = decide (99 < p * 10 + q + (s * 10 + t) + one c) := by
  obtain ⟨f4, f1, f0⟩ := addF_bits (p * 16 + q) (s * 16 + t) c
  have key := one_bounds c
  rw [daaF_low]
  unfold daaR byM wrongLow wrongHigh at hD
  unfold wrongHigh
  rw [f1] at hD
  rw [f4, f0] at hD
  rw [f0]
  unfold addR at hD ⊢
  generalize one c = o at key hD ⊢
  clear f4 f1 f0
  simp only [if_true, if_false, Bool.false_eq_true, Bool.or_eq_true, decide_eq_true_eq] at hD
  have m1 : (p * 16 + q) % 16 = q := by omega
  have m2 : (s * 16 + t) % 16 = t := by omega
  rw [m1, m2] at hD
  have hL : (15 < q + t + o ∨ 9 < (p * 16 + q + (s * 16 + t) + o) % 256 % 16) ↔ 10 ≤ q + t + o := by omega
  have hH : (255 < (p * 16 + q + (s * 16 + t) + o) ∨ 153 < (p * 16 + q + (s * 16 + t) + o) % 256) ↔ 154 ≤ (p * 16 + q + (s * 16 + t) + o) := by omega
  simp only [hL, hH] at hD
  constructor
  · by_cases x1 : 10 ≤ q + t + o <;> by_cases x2 : 154 ≤ (p * 16 + q + (s * 16 + t) + o)
    · rw [if_pos x1, if_pos x2, show ((p * 16 + q + (s * 16 + t) + o) % 256 + (6 + 96)) % 256 = 16 * (p + s - 9) + (q + t + o - 10) from by omega] at hD
      subst hD
      omega
    · rw [if_pos x1, if_neg x2, show ((p * 16 + q + (s * 16 + t) + o) % 256 + (6 + 0)) % 256 = 16 * (p + s + 1) + (q + t + o - 10) from by omega] at hD
      subst hD
      omega
    · rw [if_neg x1, if_pos x2, show ((p * 16 + q + (s * 16 + t) + o) % 256 + (0 + 96)) % 256 = 16 * (p + s - 10) + (q + t + o) from by omega] at hD
      subst hD
      omega
    · rw [if_neg x1, if_neg x2, show ((p * 16 + q + (s * 16 + t) + o) % 256 + (0 + 0)) % 256 = 16 * (p + s) + (q + t + o) from by omega] at hD
      subst hD
      omega
  · rw [Bool.eq_iff_iff]
    simp only [Bool.or_eq_true, decide_eq_true_eq, hH]
    omega
theorem dec_sub (p q s t : Int) (c : Bool) (hp : 0 ≤ p ∧ p ≤ 9) (hq : 0 ≤ q ∧ q ≤ 9) (hs : 0 ≤ s ∧ s ≤ 9) (ht : 0 ≤ t ∧ t ≤ 9) (D : Int)
    (hD : daaR (subR (p * 16 + q) (s * 16 + t) c) (subF (p * 16 + q) (s * 16 + t) c) = D) :
    D / 16 * 10 + D % 16 = (p * 10 + q - (s * 10 + t) - one c) % 100 ∧ isM (daaF (subR (p * 16 + q) (s * 16 + t) c) (subF (p * 16 + q) (s * 16 + t) c)) 0 = decide (p * 10 + q - (s * 10 + t) - one c < 0) := by
  obtain ⟨f4, f1, f0⟩ := subF_bits (p * 16 + q) (s * 16 + t) c
  have key := one_bounds c
  rw [daaF_low]
  unfold daaR byM wrongLow wrongHigh at hD
  unfold wrongHigh
  rw [f1] at hD
  rw [f4, f0] at hD
  rw [f0]
  unfold subR at hD ⊢
  generalize one c = o at key hD ⊢
  clear f4 f1 f0
  simp only [if_true, if_false, Bool.false_eq_true, Bool.or_eq_true, decide_eq_true_eq] at hD
  have m1 : (p * 16 + q) % 16 = q := by omega
  have m2 : (s * 16 + t) % 16 = t := by omega
  rw [m1, m2] at hD
  have hL : (q - t - o < 0 ∨ 9 < (p * 16 + q - (s * 16 + t) - o) % 256 % 16) ↔ q - t - o < 0 := by omega
  have hH : ((p * 16 + q - (s * 16 + t) - o) < 0 ∨ 153 < (p * 16 + q - (s * 16 + t) - o) % 256) ↔ (p * 16 + q - (s * 16 + t) - o) < 0 := by omega
  simp only [hL, hH] at hD
  constructor
  · by_cases x1 : q - t - o < 0 <;> by_cases x2 : (p * 16 + q - (s * 16 + t) - o) < 0
    · rw [if_pos x1, if_pos x2, show ((p * 16 + q - (s * 16 + t) - o) % 256 - (6 + 96)) % 256 = 16 * (p - s + 9) + (q - t - o + 10) from by omega] at hD
      subst hD
      omega
    · rw [if_pos x1, if_neg x2, show ((p * 16 + q - (s * 16 + t) - o) % 256 - (6 + 0)) % 256 = 16 * (p - s - 1) + (q - t - o + 10) from by omega] at hD
      subst hD
      omega
    · rw [if_neg x1, if_pos x2, show ((p * 16 + q - (s * 16 + t) - o) % 256 - (0 + 96)) % 256 = 16 * (p - s + 10) + (q - t - o) from by omega] at hD
      subst hD
      omega
    · rw [if_neg x1, if_neg x2, show ((p * 16 + q - (s * 16 + t) - o) % 256 - (0 + 0)) % 256 = 16 * (p - s) + (q - t - o) from by omega] at hD
      subst hD
      omega
  · rw [Bool.eq_iff_iff]
    simp only [Bool.or_eq_true, decide_eq_true_eq, hH]
    omega
theorem one_is_fin : ∀ x : Fin 256, (bits .and .u8 (x.val : Int) 1 == 1) = isM (x.val : Int) 0 := by decide +kernel
theorem one_is (x : Int) (h : B8 x) : (bits .and .u8 x 1 == 1) = isM x 0 := byte_all (P := fun x => (bits .and .u8 x 1 == 1) = isM x 0) one_is_fin x h.1 h.2
/-- what the law asks of two numbers below 100 -/
theorem dec_all (x y : Int) (c : Bool) (A B : Int) (h0 : 0 ≤ x) (h1 : 0 ≤ y) (hA : x % 100 / 10 * 16 + x % 10 = A) (hB : y % 100 / 10 * 16 + y % 10 = B) (D D' : Int)
    (hD : daaR (addR A B c) (addF A B c) = D) (hD' : daaR (subR A B c) (subF A B c) = D') :
    D / 16 * 10 + D % 16 = (x % 100 + y % 100 + one c) % 100 ∧ (bits .and .u8 (daaF (addR A B c) (addF A B c)) 1 == 1) = decide (99 < x % 100 + y % 100 + one c) ∧
    D' / 16 * 10 + D' % 16 = (x % 100 - y % 100 - one c) % 100 ∧ (bits .and .u8 (daaF (subR A B c) (subF A B c)) 1 == 1) = decide (x % 100 - y % 100 - one c < 0) := by
  subst hA hB
  obtain ⟨a1, a2⟩ := dec_add (x % 100 / 10) (x % 10) (y % 100 / 10) (y % 10) c (by omega) (by omega) (by omega) (by omega) D hD
  obtain ⟨b1, b2⟩ := dec_sub (x % 100 / 10) (x % 10) (y % 100 / 10) (y % 10) c (by omega) (by omega) (by omega) (by omega) D' hD'
  have e1 : x % 100 / 10 * 10 + x % 10 = x % 100 := by omega
  have e2 : y % 100 / 10 * 10 + y % 10 = y % 100 := by omega
  rw [e1, e2] at a1 a2 b1 b2
  exact ⟨a1, (one_is _ (daaF_byte ..)).trans a2, b1, (one_is _ (daaF_byte ..)).trans b2⟩
end Go.Proofs.YtggickkdjjjfdaaDoor
