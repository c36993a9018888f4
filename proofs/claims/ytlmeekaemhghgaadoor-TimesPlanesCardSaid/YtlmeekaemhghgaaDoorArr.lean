/- An array in memory, element by element (one cell each); what keeps it. Nothing of the program. -/
import Derived.WalkKit
import Derived.Below
namespace Go.Proofs.YtlmeekaemhghgaaDoor
open Go.RowKit
set_option linter.unusedVariables false

/-- The n cells of block A, from the first on, hold v 0, v 1, .., and may be written. -/
def ArrIs (w : World) (A n : Nat) (v : Nat → Value) : Prop := ∀ j, j < n → w.cell? ⟨A, j, none⟩ = some (v j) ∧ w.frozen? ⟨A, j, none⟩ = false
theorem ArrIs.lt {w : World} {A n : Nat} {v : Nat → Value} (h : ArrIs w A n v) (hn : 0 < n) : A < w.heap.size := World.block_lt_of_cell? _ _ (h 0 hn).1
theorem ArrIs.below {w w' : World} {A n B : Nat} {v : Nat → Value} (h : ArrIs w A n v) (k : Below B w w') (hB : A < B) : ArrIs w' A n v :=
  fun j hj => ⟨(k.cell (p := ⟨A, j, none⟩) hB).trans (h j hj).1, (k.frozen (p := ⟨A, j, none⟩) hB).trans (h j hj).2⟩
theorem ArrIs.kept {w w' : World} {A n : Nat} {v : Nat → Value} (h : ArrIs w A n v) (k : Below w.heap.size w w') : ArrIs w' A n v :=
  fun j hj => h.below k (World.block_lt_of_cell? _ _ (h j hj).1) j hj
theorem ArrIs.alloc {w : World} {A n : Nat} {v : Nat → Value} (h : ArrIs w A n v) (o : Obj) : ArrIs (w.alloc o) A n v :=
  h.kept ((Below.refl _ w).alloc (Nat.le_refl _) o)
theorem ArrIs.set {w : World} {A n k : Nat} {v : Nat → Value} (h : ArrIs w A n v) (u : Value) (hk : k < n) : ArrIs (w.setCell ⟨A, k, none⟩ u) A n (fun j => if j = k then u else v j) := by
  intro j hj
  by_cases e : j = k
  · subst e
    simp only [if_true, World.frozen?_setCell]
    exact ⟨World.cell?_setCell_same _ _ _ (h j hj).1, (h j hj).2⟩
  · simp only [if_neg e, World.frozen?_setCell]
    refine ⟨(World.cell?_setCell_other _ _ _ _ ?_).trans (h j hj).1, (h j hj).2⟩
    intro c
    injection c with _ c2
    exact e c2.symm
theorem ArrIs.setOther {w : World} {A B n k : Nat} {v : Nat → Value} (h : ArrIs w A n v) (u : Value) (hAB : A ≠ B) : ArrIs (w.setCell ⟨B, k, none⟩ u) A n v := by
  intro j hj
  rw [World.frozen?_setCell]
  refine ⟨(World.cell?_setCell_other _ _ _ _ ?_).trans (h j hj).1, (h j hj).2⟩
  intro c
  injection c with c1 _
  exact hAB c1.symm
theorem ArrIs.congr {w : World} {A n : Nat} {v u : Nat → Value} (h : ArrIs w A n v) (e : ∀ j, j < n → v j = u j) : ArrIs w A n u :=
  fun j hj => ⟨by rw [← e j hj]; exact (h j hj).1, (h j hj).2⟩
theorem ArrIs.new (w : World) (cs : Array Value) (t : TypeId) (lo hi : Nat) (v : Nat → Value) (n : Nat) (hn : n ≤ lo ∨ hi = 0) (hv : ∀ j, j < n → cs[j]? = some (v j)) : ArrIs (w.alloc (.cells cs t (lo, hi))) w.heap.size n v := by
  intro j hj
  have e : (w.alloc (.cells cs t (lo, hi))).heap[w.heap.size]? = some (.cells cs t (lo, hi)) := by
    show (w.heap.push _)[w.heap.size]? = _
    simp
  constructor
  · simp only [World.cell?, e]
    simpa using hv j hj
  · simp only [World.frozen?, e]
    rcases hn with h | h
    · rw [decide_eq_false (by omega)]; rfl
    · rw [h]; simp
end Go.Proofs.YtlmeekaemhghgaaDoor
