/- Layer 1 (bits): the iterator over the bits that are set, and the functions that range over it: contracts. -/
import Derived.RangeFuncNested
import Derived.RangeFuncBound
import Derived.RangeFuncCalls
import Derived.RangeFuncLeaves
import Derived.Shelf.Abstract
import Derived.Shelf.RegionOpen
import Derived.WalkKit
import Derived.OwnWalkIn
import Derived.TacticsInMore
import Derived.LoopNIn
import Derived.LoopIn
import Derived.Lib.Hide
import Derived.RangeFuncBox
import Derived.Test.YtedbjockmlhnbaaBitsLeaf
namespace Go.Proofs.Ytedbjockmlhnbaa
open Go.RowKit Go.Shelf
set_option linter.unusedVariables false
attribute [local go_sem] Oper.semAt_some

/-- what lies in block B lies as it lay -/
def KeepsBox (B : Nat) (W W' : World) : Prop := W'.heap[B]? = W.heap[B]?
theorem keepsBox_t {B : Nat} {X Y Z : World} (h : KeepsBox B X Y) (k : KeepsBox B Y Z) : KeepsBox B X Z := Eq.trans k h
theorem keepsBox_b {B : Nat} {w : World} (hB : B < w.heap.size) (W : World) (l : Nat) (o o' : Obj) (hl : w.heap.size ≤ l) (_ : W.heap[l]? = some o) (_ : o.isCells = false) (_ : o.isWalk = false) : KeepsBox B W (W.putObj l o') :=
  World.putObj_heap_other (by omega)
theorem keepsBox_set {B b : Nat} (hB : B ≠ b) (W : World) (v : Value) : KeepsBox B W (W.setCell ⟨b, 0, none⟩ v) := Below.heap_setCell _ _ _ B hB
theorem KeepsBox.boxed {B : Nat} {W W' : World} {t : TypeId} {v : Value} (k : KeepsBox B W W') (h : Boxed W B t v) : Boxed W' B t v := Eq.trans k h

set_option maxRecDepth 100000 in
set_option maxHeartbeats 2000000 in
theorem each1_in (n : Nat) (hn : 1 ≤ n) (l Bs : Nat) (b : Int) (h0 : 0 ≤ b) (h1 : b ≤ 255) (J Jx : List (Fin 8) → World → Prop)
    (hY : ∀ pre x W, J pre W → pre.length < 8 → YieldAt Fence.wide (n - 1) Try.prog l #[.int .i64 (x.val : Int)] W fun e W' =>
      (e = .returned (.bool true) ∧ J (pre ++ [x]) W' ∧ KeepsBox Bs W W') ∨ (e = .returned (.bool false) ∧ Jx (pre ++ [x]) W'))
    (W : World) (hBs : Boxed W Bs 5 (.int .u8 b)) (hJ0 : J [] W) :
    CallsIn Fence.wide n Try.prog 46 #[.func (.yield l) #[] #[], .pointer (some ⟨Bs, 0, none⟩)] W fun e W' => (∃ v, e = .returned v) ∧
      ((∃ ys, ys = bitsUpto b 8 ∧ J ys W') ∨ (∃ pre, (∃ k : Nat, k < 8 ∧ isM b (k : Int) = true ∧ pre = bitsUpto b (k + 1)) ∧ Jx pre W')) := by
  refine callsIn_of_wp Try.func46 rfl trivial ?_ rfl
  simp only [Try.ntmps46, List.size_toArray, List.length_cons, List.length_nil, Nat.reduceAdd, Nat.reduceSub, Array.replicate_succ, Array.replicate_zero, List.push_toArray, List.append_toArray, List.nil_append, List.cons_append]
  gi_wp2
  gi_loopw [4] (fun i wr => ∃ k : Nat, k ≤ 8 ∧ i = .int .i64 k ∧ J (bitsUpto b k) wr ∧ Boxed wr Bs 5 (.int .u8 b))
    (fun i _ => 8 - (intOf i).toNat)
  case atStart => exact ⟨0, Nat.zero_le _, rfl, hJ0, hBs⟩
  case round =>
    obtain ⟨k, hk, rfl, hJs, hnx⟩ := hrel
    have hcx := hnx.cell
    by_cases hlt : k < 8
    · cases hm : isM b k
      · have HS := Lib.hid (bitsUpto_no b k hlt hm)
        gi_wp2_with (refine ⟨trivial, ?_⟩; gi_at_call 29; refine (callsIn_wide.2 (is_any _ _ h0 h1 _)).mono ?_; rintro e w' ⟨rfl, rfl⟩)
        refine ⟨fun _ h => (by cases h), ?_⟩
        gi_wp2
        go_roundw
        case rel => exact ⟨k + 1, by omega, by simp, by rw [HS.out]; exact hJs, hnx⟩
        case measure => simp [intOf]; omega
      · have HS := Lib.hid (bitsUpto_yes b k hlt hm)
        obtain ⟨fn, tmps, assign, body, hy, hR⟩ := hY _ ⟨k, hlt⟩ wr hJs (Nat.lt_of_le_of_lt (bitsUpto_length b k) hlt)
        gi_wp2_with (refine ⟨trivial, ?_⟩; gi_at_call 29; refine (callsIn_wide.2 (is_any _ _ h0 h1 _)).mono ?_; rintro e w' ⟨rfl, rfl⟩)
        gi_wp2
        refine hR.mono ?_
        rintro e W3 (⟨rfl, hJ3, hk3⟩ | ⟨rfl, hJx3⟩)
        · gi_wp2
          go_roundw
          case rel => exact ⟨k + 1, by omega, by simp, by rw [HS.out]; exact hJ3, hk3.boxed hnx⟩
          case measure => simp [intOf]; omega
        · gi_wp2
          refine bodyPost_ret (results_none rfl _ _ _) rfl ?_
          exact ⟨⟨_, rfl⟩, .inr ⟨_, ⟨k, hlt, hm, HS.out.symm⟩, hJx3⟩⟩
    · obtain rfl : k = 8 := by omega
      gi_wp2
      go_end0
      exact ⟨⟨_, rfl⟩, .inl ⟨_, rfl, hJs⟩⟩

set_option maxHeartbeats 1000000 in
theorem each_in (n : Nat) (b : Int) (w : World) :
    CallsIn Fence.wide n Try.prog 44 #[.int .u8 b] w fun e w' => e = .returned (.func (.func 46) #[] #[.pointer (some ⟨w.heap.size, 0, none⟩)]) ∧ w' = w.alloc (.cells #[.int .u8 b] 5) := by
  refine callsIn_of_wp Try.func44 rfl trivial ?_ rfl
  simp only [Try.ntmps44, List.size_toArray, List.length_cons, List.length_nil, Nat.reduceAdd, Nat.reduceSub, Array.replicate_succ, Array.replicate_zero, List.push_toArray, List.append_toArray, List.nil_append, List.cons_append]
  gi_wp2
  go_ret
  exact ⟨rfl, rfl⟩

/-- what has come when the loop was left -/
def partOf (b : Int) (pre : List (Fin 8)) : Prop := ∃ k : Nat, k < 8 ∧ isM b (k : Int) = true ∧ pre = bitsUpto b (k + 1)

theorem each_stops (n : Nat) (hn : 1 ≤ n) (Bs : Nat) (b : Int) (h0 : 0 ≤ b) (h1 : b ≤ 255) (w : World) (hc : Boxed w Bs 5 (.int .u8 b)) :
    SeqStopsK Fence.wide n Try.prog 46 #[.pointer (some ⟨Bs, 0, none⟩)] (fun x : Fin 8 => #[Value.int .i64 (x.val : Int)]) (KeepsBox Bs) (fun ys => ys = bitsUpto b 8) (partOf b) 8 w := fun l J Jx W hW _ _ hY hJ0 =>
  each1_in n hn l Bs b h0 h1 J Jx hY W ((hW.block Bs hc.lt).trans hc) hJ0

theorem evenFold_snoc (l : List (Fin 8)) (x : Fin 8) : evenFold (l ++ [x]) = !evenFold l := by simp [evenFold]

set_option maxRecDepth 100000 in
set_option maxHeartbeats 2000000 in
theorem even_in (b : Int) (h0 : 0 ≤ b) (h1 : b ≤ 255) (w : World) :
    CallsIn Fence.wide 4 Try.prog 39 #[.int .u8 b] w fun e W' => e = .returned (.bool (evenM b)) ∧ Below w.heap.size w W' := by
  refine callsIn_of_wp_marks Try.func39 rfl trivial ?_ rfl
  simp only [Try.ntmps39, List.size_toArray, List.length_cons, List.length_nil, Nat.reduceAdd, Nat.reduceSub, Array.replicate_succ, Array.replicate_zero, List.push_toArray, List.append_toArray, List.nil_append, List.cons_append]
  gi_wp2_with (refine ⟨trivial, ?_⟩; gi_at_call 44; refine (each_in _ _ _).mono ?_; rintro e w' ⟨rfl, rfl⟩)
  have bS := Boxed.new w 4 (.bool true)
  have bN := Boxed.new (w.alloc (.cells #[.bool true] 4)) 5 (.int .u8 b)
  rw [World.size_alloc] at bN
  have hB0 : Below w.heap.size w ((w.alloc (.cells #[.bool true] 4)).alloc (.cells #[.int .u8 b] 5)) := ((Below.refl _ w).alloc (Nat.le_refl _) _).alloc (by simp) _
  refine wpIn_rangeFunc_ownG (F := Fence.wide) rfl (by decide) (gf := 46) (lb := #[.pointer (some ⟨w.heap.size + 1, 0, none⟩)]) rfl trivial (enters_of Try.func46 (by kernel_rfl) rfl)
    (each_stops 3 (by omega) (w.heap.size + 1) b h0 h1 _ bN) keepsBox_t (keepsBox_b (by simp)) (Below.refl _ _) (fun _ => rfl)
    (fun pre W => (W.cell? ⟨w.heap.size, 0, none⟩ = some (.bool (evenFold pre)) ∧ W.frozen? ⟨w.heap.size, 0, none⟩ = false) ∧ Below w.heap.size w W)
    (fun _ _ _ => False)
    (OwnFrom.and (Own.from (fun s A B row hs hg hr => ⟨cell_kept hs.1 hg hr, (frozen_kept hs.1 hg hr).trans hs.2⟩) _) (ownFrom_below (Nat.le_refl _) (by simp; omega)))
    (fun _ _ _ _ _ hs _ _ => hs)
    ⟨⟨(bS.alloc _).cell, (bS.alloc _).frozen⟩, hB0⟩
    (fun x => { tmps := #[.int .u8 b, undef, .bool false, .pointer (some ⟨w.heap.size, 0, none⟩), .int .u8 b, .func (.func 46) #[] #[.pointer (some ⟨w.heap.size + 1, 0, none⟩)], .int .i64 (x.val : Int), undef, undef, undef], defers := [] }) ?assign ?body ?done ?stop
  case assign =>
    intro l x W K hK
    gi_wp2
    simpa using hK
  case body =>
    rintro l pre x W ⟨⟨hc, hf⟩, hB⟩ _
    gi_wp2
    exact ⟨(KeepsOthers.setCell _ _ _).from _, keepsBox_set (by omega) W _, ⟨by rw [evenFold_snoc]; exact World.cell?_setCell_same' _ _ _ (by rw [hc]; rfl), by rw [World.frozen?_setCell]; exact hf⟩, hB.setCell (p := ⟨w.heap.size, 0, none⟩) (Nat.le_refl _) _⟩
  case done =>
    rintro D ys W hD rfl ⟨⟨hc, _⟩, hB⟩ hK
    gi_wp2
    refine ⟨by simp, .inl ⟨_, _, rfl, run_takeDeferred hK, ?_⟩⟩
    exact ⟨_, results_tmp rfl _ _ _, by rw [← evenFold_all b h0 h1]; rfl, hB.trans (belowK_b (w := w) (Nat.le_refl _) W D _ _ (by simp at hD; omega) hK rfl rfl)⟩
  case stop =>
    rintro D c pre W _ _ h _
    exact h.elim
theorem even_any (b : Int) (h0 : 0 ≤ b) (h1 : b ≤ 255) (w : World) :
    Calls Try.prog 39 #[.int .u8 b] w fun e W' => e = .returned (.bool (evenM b)) ∧ Below w.heap.size w W' := callsIn_wide.1 (even_in b h0 h1 w)

theorem turnFold_snoc (left : Int) (l : List (Fin 8)) (x : Fin 8) : turnFold left (l ++ [x]) = withM (turnFold left l) (((x.val : Int) + left) % 8) true := by simp [turnFold]
theorem turnFold_byte (left : Int) (l : List (Fin 8)) : 0 ≤ turnFold left l ∧ turnFold left l ≤ 255 := by
  unfold turnFold
  have : ∀ (l : List (Fin 8)) (t : Int), 0 ≤ t → t ≤ 255 → 0 ≤ l.foldl (fun t n => withM t (((n.val : Int) + left) % 8) true) t ∧ l.foldl (fun t n => withM t (((n.val : Int) + left) % 8) true) t ≤ 255 := by
    intro l
    induction l with
    | nil => intro t a b; exact ⟨a, b⟩
    | cons x l ih => intro t a b; have := withM_byte t (((x.val : Int) + left) % 8) true a b; exact ih _ this.1 this.2
  exact this l 0 (by decide) (by decide)
theorem and7_i64 (y : Int) : bits BinOp.and IntKind.i64 y 7 = y % 8 := by
  have e : (BitVec.ofInt 64 y &&& BitVec.ofInt 64 7).toNat = (y % 8).toNat := by
    rw [BitVec.toNat_and, show (BitVec.ofInt 64 7).toNat = 2 ^ 3 - 1 by decide, Nat.and_two_pow_sub_one_eq_mod, BitVec.toNat_ofInt]
    omega
  show IntKind.i64.wrap ((BitVec.ofInt 64 y &&& BitVec.ofInt 64 7).toNat : Int) = _
  rw [e, IntKind.wrap_i64]
  omega

theorem firstM_head (b : Int) (h0 : 0 ≤ b) (h1 : b ≤ 255) : firstM b = ((bitsUpto b 8).head?.map (fun n => (n.val : Int))).getD (-1) :=
  byte_all (P := fun b => firstM b = ((bitsUpto b 8).head?.map (fun n => (n.val : Int))).getD (-1)) first_fin b h0 h1
theorem bitsUpto_part (b : Int) (k : Nat) (hk : k ≤ 8) : bitsUpto b k <+: bitsUpto b 8 := by
  unfold bitsUpto
  rw [List.take_of_length_le (l := List.finRange 8) (i := 8) (by simp)]
  exact List.IsPrefix.filter _ (List.take_prefix _ _)

end Go.Proofs.Ytedbjockmlhnbaa
