/- Layer 2 (flags): contracts of Keep and the document's own. -/
import Derived.Test.YtedbjockmlhnbaaFlagsTest
import Derived.Test.YtedbjockmlhnbaaArr
namespace Go.Proofs.Ytedbjockmlhnbaa
open Go.RowKit
set_option linter.unusedVariables false

theorem nat8 (P : Nat → Prop) (h : P 0 ∧ P 1 ∧ P 2 ∧ P 3 ∧ P 4 ∧ P 5 ∧ P 6 ∧ P 7) (n : Nat) (hn : n < 8) : P n := by
  obtain ⟨h0, h1, h2, h3, h4, h5, h6, h7⟩ := h
  match n, hn with
  | 0, _ => exact h0
  | 1, _ => exact h1
  | 2, _ => exact h2
  | 3, _ => exact h3
  | 4, _ => exact h4
  | 5, _ => exact h5
  | 6, _ => exact h6
  | 7, _ => exact h7
theorem isM_mkM (b0 b1 b2 b3 b4 b5 b6 b7 : Bool) (n : Nat) (hn : n < 8) : isM (mkM b0 b1 b2 b3 b4 b5 b6 b7) (n : Int) = [b7, b6, b5, b4, b3, b2, b1, b0].getD n false := by
  obtain ⟨h0, h1, h2, h3, h4, h5, h6, h7⟩ := of_mkM b0 b1 b2 b3 b4 b5 b6 b7
  exact nat8 (fun n => isM (mkM b0 b1 b2 b3 b4 b5 b6 b7) (n : Int) = [b7, b6, b5, b4, b3, b2, b1, b0].getD n false) ⟨h7, h6, h5, h4, h3, h2, h1, h0⟩ n hn
theorem keep_all (f o m : Int) (h0 : 0 ≤ f) (h1 : f ≤ 255) (h2 : 0 ≤ o) (h3 : o ≤ 255) (h4 : 0 ≤ m) (h5 : m ≤ 255) :
    bits .or .u8 (bits .andNot .u8 f m) (bits .and .u8 o m) = keepM f o m := by
  have a := andNot_byte f m h0 h1 h4 h5
  have b := and_byte o m h2 h3 h4 h5
  have c := or_byte _ _ a.1 a.2 b.1 b.2
  have d := keepM_byte f o m
  refine byte_ext _ _ c.1 c.2 d.1 d.2 fun n hn => ?_
  rw [isM_or _ _ n hn a.1 a.2 b.1 b.2, isM_andNot _ _ n hn h0 h1 h4 h5, isM_and _ _ n hn h2 h3 h4 h5]
  unfold keepM
  rw [isM_mkM _ _ _ _ _ _ _ _ n hn]
  refine nat8 (fun n => ((isM f n && !isM m n) || (isM o n && isM m n)) = [_, _, _, _, _, _, _, _].getD n false) ?_ n hn
  simp only [List.getD_cons_zero, List.getD_cons_succ, sel]
  refine ⟨?_, ?_, ?_, ?_, ?_, ?_, ?_, ?_⟩
  · cases isM m 0 <;> simp
  · cases isM m 1 <;> simp
  · cases isM m 2 <;> simp
  · cases isM m 3 <;> simp
  · cases isM m 4 <;> simp
  · cases isM m 5 <;> simp
  · cases isM m 6 <;> simp
  · cases isM m 7 <;> simp
/-- the flag at a place of the eight -/
def fl (f : Int) (j : Nat) : Bool := isM f (7 - (j : Int))
theorem of8_at (f : Int) (j : Nat) (hj : j < 8) : (#[Value.bool (isM f 7), .bool (isM f 6), .bool (isM f 5), .bool (isM f 4), .bool (isM f 3), .bool (isM f 2), .bool (isM f 1), .bool (isM f 0)] : Array Value)[j]? = some (.bool (fl f j)) :=
  nat8 (fun j => (#[Value.bool (isM f 7), .bool (isM f 6), .bool (isM f 5), .bool (isM f 4), .bool (isM f 3), .bool (isM f 2), .bool (isM f 1), .bool (isM f 0)] : Array Value)[j]? = some (.bool (fl f j))) ⟨rfl, rfl, rfl, rfl, rfl, rfl, rfl, rfl⟩ j hj
theorem arr_of8 (w : World) (f : Int) (t : TypeId) : ArrIs (w.alloc (.cells #[Value.bool (isM f 7), .bool (isM f 6), .bool (isM f 5), .bool (isM f 4), .bool (isM f 3), .bool (isM f 2), .bool (isM f 1), .bool (isM f 0)] t)) w.heap.size 8 (fun j => .bool (fl f j)) :=
  ArrIs.new w _ t 0 0 _ 8 (.inr rfl) (fun j hj => of8_at f j hj)
/-- what Keep's document has gathered in k rounds -/
def kept (f o m : Int) (k j : Nat) : Bool := if j < k then sel (fl m j) (fl f j) (fl o j) else fl f j
theorem kept_yes (f o m : Int) (k j : Nat) (h : fl m k = true) : (if j = k then Value.bool (fl o k) else .bool (kept f o m k j)) = .bool (kept f o m (k + 1) j) := by
  unfold kept
  by_cases e : j = k
  · subst e; simp [sel, h]
  · by_cases l : j < k
    · rw [if_neg e, if_pos l, if_pos (by omega)]
    · rw [if_neg e, if_neg l, if_neg (by omega)]
theorem kept_no (f o m : Int) (k j : Nat) (h : fl m k = false) : kept f o m k j = kept f o m (k + 1) j := by
  unfold kept
  by_cases e : j = k
  · subst e; simp [sel, h]
  · by_cases l : j < k
    · rw [if_pos l, if_pos (by omega)]
    · rw [if_neg l, if_neg (by omega)]

end Go.Proofs.Ytedbjockmlhnbaa
