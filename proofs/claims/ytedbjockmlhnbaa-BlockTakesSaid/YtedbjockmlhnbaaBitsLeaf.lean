/- Layer 1 (bits): what each function that calls no iterator answers, over the translated program: contracts. -/
import Derived.Test.YtedbjockmlhnbaaChecked
import Derived.Test.YtedbjockmlhnbaaBitsMath
import Derived.WalkKit
import Derived.WalkLawsBesides
import Derived.WalkSpells
import Derived.Outline
import Derived.Laws.BitsAllLaws
import Derived.Laws.BitsLemmas
import Derived.LoopTactic
namespace Go.Proofs.Ytedbjockmlhnbaa
open Go.RowKit
set_option linter.unusedVariables false

theorem ret_int {k : IntKind} {a b : Int} (h : a = b) : Ending.returned (.int k a) = .returned (.int k b) := by rw [h]
theorem ret_bool {a b : Bool} (h : a = b) : Ending.returned (.bool a) = .returned (.bool b) := by rw [h]

theorem bstep {a b c : World} (h : Below a.heap.size a b) (k : Below b.heap.size b c) : Below a.heap.size a c := h.trans (k.mono h.size)

theorem wraps16 (n : Int) (h₀ : 0 ≤ n) (h₁ : n < 2 ^ 16) : IntKind.u16.wrap n = n := by rw [IntKind.wrap_u16]; omega
theorem and_bit_fin : ∀ (x : Fin 256) (y : Fin 8), (bits BinOp.and IntKind.u8 (x.val : Int) (2 ^ (y.val : Int).toNat % 256) != 0) = isM (x.val : Int) (y.val : Int) := by decide +kernel
theorem and_bit (b n : Int) (h0 : 0 ≤ b) (h1 : b ≤ 255) (h2 : 0 ≤ n) (h3 : n < 8) : (bits BinOp.and IntKind.u8 b (2 ^ n.toNat % 256) != 0) = isM b n :=
  bit_all (P := fun n => (bits BinOp.and IntKind.u8 b (2 ^ n.toNat % 256) != 0) = isM b n) (fun y => byte_all (P := fun b => (bits BinOp.and IntKind.u8 b (2 ^ (y.val : Int).toNat % 256) != 0) = isM b (y.val : Int)) (fun x => and_bit_fin x y) b h0 h1) n h2 h3
theorem or_bit_fin : ∀ (x : Fin 256) (y : Fin 8), bits BinOp.or IntKind.u8 (x.val : Int) (2 ^ (y.val : Int).toNat % 256) = withM (x.val : Int) (y.val : Int) true := by decide +kernel
theorem or_bit (b n : Int) (h0 : 0 ≤ b) (h1 : b ≤ 255) (h2 : 0 ≤ n) (h3 : n < 8) : bits BinOp.or IntKind.u8 b (2 ^ n.toNat % 256) = withM b n true :=
  bit_all (P := fun n => bits BinOp.or IntKind.u8 b (2 ^ n.toNat % 256) = withM b n true) (fun y => byte_all (P := fun b => bits BinOp.or IntKind.u8 b (2 ^ (y.val : Int).toNat % 256) = withM b (y.val : Int) true) (fun x => or_bit_fin x y) b h0 h1) n h2 h3
theorem not_bit_fin : ∀ (x : Fin 256) (y : Fin 8), bits BinOp.andNot IntKind.u8 (x.val : Int) (2 ^ (y.val : Int).toNat % 256) = withM (x.val : Int) (y.val : Int) false := by decide +kernel
theorem not_bit (b n : Int) (h0 : 0 ≤ b) (h1 : b ≤ 255) (h2 : 0 ≤ n) (h3 : n < 8) : bits BinOp.andNot IntKind.u8 b (2 ^ n.toNat % 256) = withM b n false :=
  bit_all (P := fun n => bits BinOp.andNot IntKind.u8 b (2 ^ n.toNat % 256) = withM b n false) (fun y => byte_all (P := fun b => bits BinOp.andNot IntKind.u8 b (2 ^ (y.val : Int).toNat % 256) = withM b (y.val : Int) false) (fun x => not_bit_fin x y) b h0 h1) n h2 h3
theorem signed_fin : ∀ x : Fin 256, wrap64 (IntKind.i8.wrap (x.val : Int)) = signedM (x.val : Int) := by decide +kernel

theorem isM_out (b n : Int) (h : n < 0 ∨ 8 ≤ n) : isM b n = false := by
  unfold isM
  rcases h with h | h
  · rw [decide_eq_false (show ¬ 0 ≤ n by omega)]; rfl
  · rw [decide_eq_false (show ¬ n < 8 by omega)]; simp
theorem isM_in (b n : Int) (h0 : 0 ≤ n) (h1 : n < 8) : isM b n = decide (b / 2 ^ n.toNat % 2 = 1) := by
  unfold isM
  rw [decide_eq_true h0, decide_eq_true h1]; rfl

set_option maxHeartbeats 400000 in
theorem has_any (n : Int) (w : World) :
    Calls Try.prog 41 #[.int .i64 n] w fun e w' => e = .returned (.bool (decide (0 ≤ n) && decide (n < 8))) ∧ w = w' := by
  by_cases h : 0 ≤ n
  · go_enter Try.func41, Try.ntmps41
    go_wp2
    go_ret
    exact ⟨ret_bool (by rw [decide_eq_true h]; rfl), rfl⟩
  · go_enter Try.func41, Try.ntmps41
    go_wp2
    go_ret
    exact ⟨ret_bool (by rw [decide_eq_false (by omega)]; rfl), rfl⟩
theorem has_yes (n : Int) (h0 : 0 ≤ n) (h1 : n < 8) (w : World) :
    Calls Try.prog 41 #[.int .i64 n] w fun e w' => e = .returned (.bool true) ∧ w = w' :=
  (has_any n w).mono fun _ _ ⟨he, hw⟩ => ⟨he.trans (ret_bool (by rw [decide_eq_true h0, decide_eq_true h1]; rfl)), hw⟩
theorem has_no (n : Int) (h : n < 0 ∨ 8 ≤ n) (w : World) :
    Calls Try.prog 41 #[.int .i64 n] w fun e w' => e = .returned (.bool false) ∧ w = w' :=
  (has_any n w).mono fun _ _ ⟨he, hw⟩ => ⟨he.trans (ret_bool (by
    rcases h with h | h
    · rw [decide_eq_false (by omega)]; rfl
    · rw [decide_eq_false (show ¬ n < 8 by omega)]; simp)), hw⟩
set_option maxHeartbeats 400000 in
theorem is_any (b n : Int) (h0 : 0 ≤ b) (h1 : b ≤ 255) (w : World) :
    Calls Try.prog 29 #[.int .u8 b, .int .i64 n] w fun e w' => e = .returned (.bool (isM b n)) ∧ w = w' := by
  by_cases h : 0 ≤ n ∧ n < 8
  · obtain ⟨h2, h3⟩ := h
    go_enter Try.func29, Try.ntmps29
    go_wp2_with (go_at_call 41; refine (has_yes _ (by omega) (by omega) _).mono ?_; rintro e w' ⟨rfl, rfl⟩)
    go_ret
    exact ⟨ret_bool (and_bit b n h0 h1 h2 h3), rfl⟩
  · have h' : n < 0 ∨ 8 ≤ n := by omega
    clear h
    go_enter Try.func29, Try.ntmps29
    go_wp2_with (go_at_call 41; refine (has_no _ h' _).mono ?_; rintro e w' ⟨rfl, rfl⟩)
    go_ret
    exact ⟨ret_bool (isM_out b n h').symm, rfl⟩
set_option maxHeartbeats 400000 in
theorem rsigned_any (x : Int) (h0 : 0 ≤ x) (h1 : x ≤ 255) (w : World) :
    Calls Try.prog 37 #[.int .u8 x] w fun e w' => e = .returned (.int .i64 (signedM x)) ∧ w = w' := by
  by_cases h : x < 128
  · have e : signedM x = x := if_pos h
    rw [e]; clear e
    go_enter Try.func37, Try.ntmps37
    go_wp2
    go_ret
    exact ⟨rfl, rfl⟩
  · have e : signedM x = x - 256 := if_neg h
    rw [e]; clear e
    go_enter Try.func37, Try.ntmps37
    go_wp2
    go_ret
    exact ⟨rfl, rfl⟩
theorem pow_step (k : Nat) : (2 : Int) ^ (k + 1) = 2 ^ k * 2 := Int.pow_succ 2 k
theorem pow_bound (k : Nat) (h : k ≤ 8) : 1 ≤ (2 : Int) ^ k ∧ (2 : Int) ^ k ≤ 256 := by
  have : ∀ k : Fin 9, 1 ≤ (2 : Int) ^ k.val ∧ (2 : Int) ^ k.val ≤ 256 := by decide +kernel
  exact this ⟨k, by omega⟩
set_option maxHeartbeats 400000 in
theorem rpower_any (n : Int) (h0 : 0 ≤ n) (h1 : n ≤ 8) (w : World) :
    Calls Try.prog 30 #[.int .i64 n] w fun e w' => e = .returned (.int .i64 (2 ^ n.toNat)) ∧ w = w' := by
  go_enter Try.func30, Try.ntmps30
  go_wp2
  go_loop [3, 4] (fun x i => ∃ k : Nat, (k : Int) ≤ n ∧ i = .int .i64 k ∧ x = .int .i64 (2 ^ k)) (fun _ i => n.toNat - (intOf i).toNat)
  case atStart => exact ⟨0, by omega, rfl, rfl⟩
  case round =>
    obtain ⟨k, hk, rfl, rfl⟩ := hrel
    have hb := pow_bound k (by omega)
    by_cases hlt : (k : Int) < n
    · go_wp2
      go_round
      case rel => exact ⟨k + 1, by omega, by go_num, by rw [pow_step]⟩
      case measure => simp [intOf]; omega
    · obtain rfl : n = k := by omega
      go_wp2
      go_ret
      exact ⟨rfl, rfl⟩
end Go.Proofs.Ytedbjockmlhnbaa
