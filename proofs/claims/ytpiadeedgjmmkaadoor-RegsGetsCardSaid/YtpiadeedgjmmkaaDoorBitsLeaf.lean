/- Layer 1 (bits): what each function that calls no iterator answers, over the translated program: contracts. -/
import Derived.Test.YtpiadeedgjmmkaaDoorChecked
import Derived.Test.YtpiadeedgjmmkaaDoorBitsMath
import Derived.WalkKit
import Derived.WalkLawsBesides
import Derived.WalkSpells
import Derived.Outline
import Derived.Laws.BitsAllLaws
import Derived.Laws.BitsLemmas
import Derived.LoopTactic
namespace Go.Proofs.YtpiadeedgjmmkaaDoor
open Go.RowKit
set_option linter.unusedVariables false

theorem ret_int {k : IntKind} {a b : Int} (h : a = b) : Ending.returned (.int k a) = .returned (.int k b) := by rw [h]
theorem ret_bool {a b : Bool} (h : a = b) : Ending.returned (.bool a) = .returned (.bool b) := by rw [h]

theorem bstep {a b c : World} (h : Below a.heap.size a b) (k : Below b.heap.size b c) : Below a.heap.size a c := h.trans (k.mono h.size)

theorem wraps16 (n : Int) (h₀ : 0 ≤ n) (h₁ : n < 2 ^ 16) : IntKind.u16.wrap n = n := by rw [IntKind.wrap_u16]; omega
theorem and_bit_fin : ∀ (x : Fin 256) (y : Fin 8), (bits BinOp.and IntKind.u8 (x.val : Int) (2 ^ (y.val : Int).toNat % 256) != 0) = isM (x.val : Int) (y.val : Int) := by decide +kernel
theorem and_bit (b n : Int) (h0 : 0 ≤ b) (h1 : b ≤ 255) (h2 : 0 ≤ n) (h3 : n < 8) : (bits BinOp.and IntKind.u8 b (2 ^ n.toNat % 256) != 0) = isM b n :=
  bit_all (P := fun n => (bits BinOp.and IntKind.u8 b (2 ^ n.toNat % 256) != 0) = isM b n) (fun y => byte_all (P := fun b => (bits BinOp.and IntKind.u8 b (2 ^ (y.val : Int).toNat % 256) != 0) = isM b (y.val : Int)) (fun x => and_bit_fin x y) b h0 h1) n h2 h3
theorem or_bit_fin : ∀ (x : Fin 256) (y : Fin 8), bits BinOp.or IntKind.u8 (x.val : Int) (2 ^ (y.val : Int).toNat % 256) = withM (x.val : Int) (y.val : Int) true := by decide +kernel
theorem or_bit (b n : Int) (h0 : 0 ≤ b) (h1 : b ≤ 255) (h2 : 0 ≤ n) (h3 : n < 8) : bits BinOp.or IntKind.u8 b (2 ^ n.toNat % 256) = withM b n true :=
  bit_all (P := fun n => bits BinOp.or IntKind.u8 b (2 ^ n.toNat % 256) = withM b n true) (fun y => byte_all (P := fun b => bits BinOp.or IntKind.u8 b (2 ^ (y.val : Int).toNat % 256) = withM b (y.val : Int) true) (fun x => or_bit_fin x y) b h0 h1) n h2 h3
theorem not_bit_fin : ∀ (x : Fin 256) (y : Fin 8), bits BinOp.andNot IntKind.u8 (x.val : Int) (2 ^ (y.val : Int).toNat % 256) = withM (x.val : Int) (y.val : Int) false := by decide +kernel
theorem not_bit (b n : Int) (h0 : 0 ≤ b) (h1 : b ≤ 255) (h2 : 0 ≤ n) (h3 : n < 8) : bits BinOp.andNot IntKind.u8 b (2 ^ n.toNat % 256) = withM b n false :=
  bit_all (P := fun n => bits BinOp.andNot IntKind.u8 b (2 ^ n.toNat % 256) = withM b n false) (fun y => byte_all (P := fun b => bits BinOp.andNot IntKind.u8 b (2 ^ (y.val : Int).toNat % 256) = withM b (y.val : Int) false) (fun x => not_bit_fin x y) b h0 h1) n h2 h3
theorem signed_fin : ∀ x : Fin 256, wrap64 (IntKind.i8.wrap (x.val : Int)) = signedM (x.val : Int) := by decide +kernel

theorem isM_out (b n : Int) (h : n < 0 ∨ 8 ≤ n) : isM b n = false := by
  unfold isM
  rcases h with h | h
  · rw [decide_eq_false (show ¬ 0 ≤ n by omega)]; rfl
  · rw [decide_eq_false (show ¬ n < 8 by omega)]; simp
theorem isM_in (b n : Int) (h0 : 0 ≤ n) (h1 : n < 8) : isM b n = decide (b / 2 ^ n.toNat % 2 = 1) := by
  unfold isM
  rw [decide_eq_true h0, decide_eq_true h1]; rfl

set_option maxHeartbeats 400000 in
theorem lo_any (x : Int) (h0 : 0 ≤ x) (h1 : x ≤ 65535) (w : World) :
    Calls Tryd.prog 28 #[.int .u16 x] w fun e w' => e = .returned (.int .u8 (x % 256)) ∧ w = w' := by
  go_enter Tryd.func28, Tryd.ntmps28
  go_wp2
  go_ret
  exact ⟨rfl, rfl⟩
set_option maxHeartbeats 400000 in
theorem hi_any (x : Int) (h0 : 0 ≤ x) (h1 : x ≤ 65535) (w : World) :
    Calls Tryd.prog 27 #[.int .u16 x] w fun e w' => e = .returned (.int .u8 (x / 256)) ∧ w = w' := by
  go_enter Tryd.func27, Tryd.ntmps27
  go_wp2
  go_ret
  exact ⟨rfl, rfl⟩
set_option maxHeartbeats 400000 in
theorem word_any (x y : Int) (h0 : 0 ≤ x) (h1 : x ≤ 255) (h2 : 0 ≤ y) (h3 : y ≤ 255) (w : World) :
    Calls Tryd.prog 53 #[.int .u8 x, .int .u8 y] w fun e w' => e = .returned (.int .u16 (256 * x + y)) ∧ w = w' := by
  go_enter Tryd.func53, Tryd.ntmps53
  go_wp2
  go_ret
  exact ⟨ret_int (by rw [bits_join .u16 16 (by decide) wraps16 8 (x * 256) y (by omega) (by omega) (by omega) (by omega) (by omega) (by omega)]; omega), rfl⟩
set_option maxHeartbeats 400000 in
theorem rlo_any (x : Int) (h0 : 0 ≤ x) (h1 : x ≤ 65535) (w : World) :
    Calls Tryd.prog 30 #[.int .u16 x] w fun e w' => e = .returned (.int .u8 (x % 256)) ∧ w = w' := by
  go_enter Tryd.func30, Tryd.ntmps30
  go_wp2
  go_ret
  exact ⟨rfl, rfl⟩
set_option maxHeartbeats 400000 in
theorem rhi_any (x : Int) (h0 : 0 ≤ x) (h1 : x ≤ 65535) (w : World) :
    Calls Tryd.prog 29 #[.int .u16 x] w fun e w' => e = .returned (.int .u8 (x / 256)) ∧ w = w' := by
  go_enter Tryd.func29, Tryd.ntmps29
  go_wp2
  go_ret
  exact ⟨rfl, rfl⟩
set_option maxHeartbeats 400000 in
theorem rword_any (x y : Int) (h0 : 0 ≤ x) (h1 : x ≤ 255) (h2 : 0 ≤ y) (h3 : y ≤ 255) (w : World) :
    Calls Tryd.prog 39 #[.int .u8 x, .int .u8 y] w fun e w' => e = .returned (.int .u16 (256 * x + y)) ∧ w = w' := by
  go_enter Tryd.func39, Tryd.ntmps39
  go_wp2
  go_ret
  exact ⟨rfl, rfl⟩
theorem pow_step (k : Nat) : (2 : Int) ^ (k + 1) = 2 ^ k * 2 := Int.pow_succ 2 k
theorem pow_bound (k : Nat) (h : k ≤ 8) : 1 ≤ (2 : Int) ^ k ∧ (2 : Int) ^ k ≤ 256 := by
  have : ∀ k : Fin 9, 1 ≤ (2 : Int) ^ k.val ∧ (2 : Int) ^ k.val ≤ 256 := by decide +kernel
  exact this ⟨k, by omega⟩
end Go.Proofs.YtpiadeedgjmmkaaDoor
