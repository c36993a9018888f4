/- Layer 1 (bits): the iterator over the bits that are set, and the functions that range over it: contracts. -/
import Derived.RangeFuncNested
import Derived.RangeFuncBound
import Derived.RangeFuncCalls
import Derived.RangeFuncLeaves
import Derived.Shelf.Abstract
import Derived.Shelf.RegionOpen
import Derived.WalkKit
import Derived.OwnWalkIn
import Derived.TacticsInMore
import Derived.LoopNIn
import Derived.LoopIn
import Derived.Lib.Hide
import Derived.RangeFuncBox
import Derived.Test.YtlmeekaemhghgaaDoorBitsLeaf
namespace Go.Proofs.YtlmeekaemhghgaaDoor
open Go.RowKit Go.Shelf
set_option linter.unusedVariables false
attribute [local go_sem] Oper.semAt_some

/-- what lies in block B lies as it lay -/
def KeepsBox (B : Nat) (W W' : World) : Prop := W'.heap[B]? = W.heap[B]?
theorem keepsBox_t {B : Nat} {X Y Z : World} (h : KeepsBox B X Y) (k : KeepsBox B Y Z) : KeepsBox B X Z := Eq.trans k h
theorem keepsBox_b {B : Nat} {w : World} (hB : B < w.heap.size) (W : World) (l : Nat) (o o' : Obj) (hl : w.heap.size ≤ l) (_ : W.heap[l]? = some o) (_ : o.isCells = false) (_ : o.isWalk = false) : KeepsBox B W (W.putObj l o') :=
  World.putObj_heap_other (by omega)
theorem keepsBox_set {B b : Nat} (hB : B ≠ b) (W : World) (v : Value) : KeepsBox B W (W.setCell ⟨b, 0, none⟩ v) := Below.heap_setCell _ _ _ B hB
theorem KeepsBox.boxed {B : Nat} {W W' : World} {t : TypeId} {v : Value} (k : KeepsBox B W W') (h : Boxed W B t v) : Boxed W' B t v := Eq.trans k h

/-- what has come when the loop was left -/
def partOf (b : Int) (pre : List (Fin 8)) : Prop := ∃ k : Nat, k < 8 ∧ isM b (k : Int) = true ∧ pre = bitsUpto b (k + 1)

theorem evenFold_snoc (l : List (Fin 8)) (x : Fin 8) : evenFold (l ++ [x]) = !evenFold l := by simp [evenFold]

theorem turnFold_snoc (left : Int) (l : List (Fin 8)) (x : Fin 8) : turnFold left (l ++ [x]) = withM (turnFold left l) (((x.val : Int) + left) % 8) true := by simp [turnFold]
theorem turnFold_byte (left : Int) (l : List (Fin 8)) : 0 ≤ turnFold left l ∧ turnFold left l ≤ 255 := by
  unfold turnFold
  have : ∀ (l : List (Fin 8)) (t : Int), 0 ≤ t → t ≤ 255 → 0 ≤ l.foldl (fun t n => withM t (((n.val : Int) + left) % 8) true) t ∧ l.foldl (fun t n => withM t (((n.val : Int) + left) % 8) true) t ≤ 255 := by
    intro l
    induction l with
    | nil => intro t a b; exact ⟨a, b⟩
    | cons x l ih => intro t a b; have := withM_byte t (((x.val : Int) + left) % 8) true a b; exact ih _ this.1 this.2
  exact this l 0 (by decide) (by decide)
theorem and7_i64 (y : Int) : bits BinOp.and IntKind.i64 y 7 = y % 8 := by
  have e : (BitVec.ofInt 64 y &&& BitVec.ofInt 64 7).toNat = (y % 8).toNat := by
    rw [BitVec.toNat_and, show (BitVec.ofInt 64 7).toNat = 2 ^ 3 - 1 by decide, Nat.and_two_pow_sub_one_eq_mod, BitVec.toNat_ofInt]
    omega
  show IntKind.i64.wrap ((BitVec.ofInt 64 y &&& BitVec.ofInt 64 7).toNat : Int) = _
  rw [e, IntKind.wrap_i64]
  omega

theorem firstM_head (b : Int) (h0 : 0 ≤ b) (h1 : b ≤ 255) : firstM b = ((bitsUpto b 8).head?.map (fun n => (n.val : Int))).getD (-1) :=
  byte_all (P := fun b => firstM b = ((bitsUpto b 8).head?.map (fun n => (n.val : Int))).getD (-1)) first_fin b h0 h1
theorem bitsUpto_part (b : Int) (k : Nat) (hk : k ≤ 8) : bitsUpto b k <+: bitsUpto b 8 := by
  unfold bitsUpto
  rw [List.take_of_length_le (l := List.finRange 8) (i := 8) (by simp)]
  exact List.IsPrefix.filter _ (List.take_prefix _ _)

end Go.Proofs.YtlmeekaemhghgaaDoor
