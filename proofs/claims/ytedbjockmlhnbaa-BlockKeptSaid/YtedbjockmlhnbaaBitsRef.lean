/- Layer 1 (bits): what the document's own answers are, over the translated program: contracts. -/
import Derived.Test.YtedbjockmlhnbaaBitsLeaf
import Derived.Lib.Hide
namespace Go.Proofs.Ytedbjockmlhnbaa
open Go.RowKit
set_option linter.unusedVariables false

theorem isM_i64 (b n : Int) (h0 : 0 ≤ n) (h1 : n < 8) : (b / 2 ^ n.toNat % 2 == 1) = isM b n := by
  rw [isM_in b n h0 h1]; by_cases h : b / 2 ^ n.toNat % 2 = 1 <;> simp [h]

set_option maxHeartbeats 400000 in
theorem ris_any (b n : Int) (h0 : 0 ≤ b) (h1 : b ≤ 255) (w : World) :
    Calls Try.prog 22 #[.int .u8 b, .int .i64 n] w fun e w' => e = .returned (.bool (isM b n)) ∧ w = w' := by
  by_cases h : 0 ≤ n
  · by_cases h' : n < 8
    · obtain ⟨k, hk, hk8⟩ : ∃ k : Nat, n = k ∧ k ≤ 7 := ⟨n.toNat, by omega, by omega⟩
      have hb := pow_bound k (by omega)
      have hq : isM b n = (b / 2 ^ n.toNat % 2 == 1) := (isM_i64 b n h h').symm
      rw [hq]
      subst hk
      clear hq
      have hp : 0 < (2 : Int) ^ k := by omega
      have hd0 : 0 ≤ b / 2 ^ k := Int.ediv_nonneg h0 (by omega)
      have hd1 : b / 2 ^ k ≤ 255 := Int.le_trans (Int.ediv_le_self _ h0) h1
      go_enter Try.func22, Try.ntmps22
      go_wp2_with (go_at_call 30; refine (rpower_any _ (by omega) (by omega) _).mono ?_; rintro e w' ⟨rfl, rfl⟩)
      go_ret
      exact ⟨rfl, rfl⟩
    · rw [isM_out b n (by omega)]
      go_enter Try.func22, Try.ntmps22
      go_wp2
      go_ret
      exact ⟨rfl, rfl⟩
  · rw [isM_out b n (by omega)]
    go_enter Try.func22, Try.ntmps22
    go_wp2
    go_ret
    exact ⟨rfl, rfl⟩

theorem withM_in (b n : Int) (on : Bool) (h0 : 0 ≤ n) (h1 : n < 8) : withM b n on = (if isM b n then (if on then b else b - 2 ^ n.toNat) else (if on then b + 2 ^ n.toNat else b)) := by
  unfold withM; rw [if_pos ⟨h0, h1⟩]

set_option maxHeartbeats 1000000 in
theorem rwith_any (b n : Int) (on : Bool) (h0 : 0 ≤ b) (h1 : b ≤ 255) (w : World) :
    Calls Try.prog 31 #[.int .u8 b, .int .i64 n, .bool on] w fun e w' => e = .returned (.int .u8 (withM b n on)) ∧ w = w' := by
  by_cases h : 0 ≤ n
  · by_cases h' : n < 8
    · have hw := withM_byte b n on h0 h1
      rw [withM_in b n on h h'] at hw ⊢
      obtain ⟨k, hk, hk8⟩ : ∃ k : Nat, n = k ∧ k ≤ 7 := ⟨n.toNat, by omega, by omega⟩
      have hb := pow_bound k (by omega)
      subst hk
      simp only [Int.toNat_natCast] at hw ⊢
      cases on <;> cases hm : isM b k <;> simp only [hm, if_true, if_false, Bool.false_eq_true] at hw ⊢
      all_goals
        go_enter Try.func31, Try.ntmps31
        go_wp2_with (first | (go_at_call 22; refine (ris_any _ _ h0 h1 _).mono ?_; rintro e w' ⟨rfl, rfl⟩) | (go_at_call 30; refine (rpower_any _ (by omega) (by omega) _).mono ?_; rintro e w' ⟨rfl, rfl⟩))
        go_ret
        exact ⟨rfl, rfl⟩
    · rw [show withM b n on = b from by unfold withM; rw [if_neg (by omega)]]
      go_enter Try.func31, Try.ntmps31
      go_wp2
      go_ret
      exact ⟨rfl, rfl⟩
  · rw [show withM b n on = b from by unfold withM; rw [if_neg (by omega)]]
    go_enter Try.func31, Try.ntmps31
    go_wp2
    go_ret
    exact ⟨rfl, rfl⟩

theorem count_bound (b : Int) : ∀ k : Nat, 0 ≤ countUpto b k ∧ countUpto b k ≤ k
  | 0 => ⟨by simp [countUpto], by simp [countUpto]⟩
  | k + 1 => by
    have := count_bound b k
    simp only [countUpto]
    split <;> omega
theorem count_yes (b : Int) (k : Nat) (h : isM b k = true) : countUpto b (k + 1) = countUpto b k + 1 := by simp [countUpto, h]
theorem count_no (b : Int) (k : Nat) (h : isM b k = false) : countUpto b (k + 1) = countUpto b k := by simp [countUpto, h]

set_option maxHeartbeats 1000000 in
theorem rcount_any (b : Int) (h0 : 0 ≤ b) (h1 : b ≤ 255) (w : World) :
    Calls Try.prog 45 #[.int .u8 b] w fun e w' => e = .returned (.int .i64 (countUpto b 8)) ∧ w = w' := by
  go_enter Try.func45, Try.ntmps45
  go_wp2
  go_loop [3, 4] (fun x i => ∃ k : Nat, k ≤ 8 ∧ i = .int .i64 k ∧ x = .int .i64 (countUpto b k)) (fun _ i => 8 - (intOf i).toNat)
  case atStart => exact ⟨0, by omega, rfl, rfl⟩
  case round =>
    obtain ⟨k, hk, rfl, rfl⟩ := hrel
    have hb := count_bound b k
    by_cases hlt : k < 8
    · cases hm : isM b k
      · have HS := Lib.hid (count_no b k hm)
        go_wp2_with (go_at_call 22; refine (ris_any _ _ h0 h1 _).mono ?_; rintro e w' ⟨rfl, rfl⟩)
        go_round
        case rel => exact ⟨k + 1, by omega, by go_num, by rw [HS.out]⟩
        case measure => simp [intOf]; omega
      · have HS := Lib.hid (count_yes b k hm)
        go_wp2_with (go_at_call 22; refine (ris_any _ _ h0 h1 _).mono ?_; rintro e w' ⟨rfl, rfl⟩)
        go_round
        case rel => exact ⟨k + 1, by omega, by go_num, by rw [HS.out]⟩
        case measure => simp [intOf]; omega
    · obtain rfl : k = 8 := by omega
      go_wp2
      go_ret
      exact ⟨rfl, rfl⟩

set_option maxHeartbeats 400000 in
theorem reven_any (b : Int) (h0 : 0 ≤ b) (h1 : b ≤ 255) (w : World) :
    Calls Try.prog 40 #[.int .u8 b] w fun e w' => e = .returned (.bool (evenM b)) ∧ w = w' := by
  have hb := count_bound b 8
  go_enter Try.func40, Try.ntmps40
  go_wp2_with (go_at_call 45; refine (rcount_any _ h0 h1 _).mono ?_; rintro e w' ⟨rfl, rfl⟩)
  go_ret
  exact ⟨rfl, rfl⟩

theorem turn_bound (b y : Int) : ∀ k : Nat, k ≤ 8 → 0 ≤ turnUpto b y k ∧ turnUpto b y k ≤ 256 * k
  | 0, _ => ⟨by simp [turnUpto], by simp [turnUpto]⟩
  | k + 1, h => by
    have := turn_bound b y k (by omega)
    have hp := pow_bound (((k : Int) + y) % 8).toNat (by omega)
    simp only [turnUpto]
    split <;> omega
theorem turn_yes (b y : Int) (k : Nat) (h : isM b k = true) : turnUpto b y (k + 1) = turnUpto b y k + 2 ^ (((k : Int) + y) % 8).toNat := by simp [turnUpto, h]
theorem turn_no (b y : Int) (k : Nat) (h : isM b k = false) : turnUpto b y (k + 1) = turnUpto b y k := by simp [turnUpto, h]

theorem tmod8 (y : Int) : -7 ≤ y.tmod 8 ∧ y.tmod 8 ≤ 7 ∧ (y.tmod 8) % 8 = y % 8 := by
  rcases Int.le_total 0 y with h | h
  · rw [Int.tmod_eq_emod_of_nonneg h]; omega
  · obtain ⟨z, rfl⟩ : ∃ z, y = -z := ⟨-y, by omega⟩
    rw [Int.neg_tmod, Int.tmod_eq_emod_of_nonneg (by omega)]; omega

theorem firstFrom_yes (b : Int) (k r : Nat) (h : isM b k = true) : firstFrom b k (r + 1) = k := by simp [firstFrom, h]
theorem firstFrom_no (b : Int) (k r : Nat) (h : isM b k = false) : firstFrom b k (r + 1) = firstFrom b (k + 1) r := by simp [firstFrom, h]

end Go.Proofs.Ytedbjockmlhnbaa
