/- Two bytes as an answer; boxed cells of the caller's: kept behind a call that made memory; a box that is new. Nothing of the program. -/
import Derived.WalkKit
namespace Go.Proofs.YtpiadeedgjmmkaaDoor
open Go.RowKit
set_option linter.unusedVariables false

/-- two numbers as an answer -/
abbrev two (r f : Int) : Value := .tuple #[.int .u8 r, .int .u8 f]
/-- two cells of the caller's -/
theorem keep2 {w w' : World} {A B : Nat} {u v : Value} (k : Below w.heap.size w w') (h : w.cell? ⟨A, 0, none⟩ = some u ∧ w.cell? ⟨B, 0, none⟩ = some v) :
    w'.cell? ⟨A, 0, none⟩ = some u ∧ w'.cell? ⟨B, 0, none⟩ = some v :=
  ⟨(k.cell (World.block_lt_of_cell? _ _ h.1)).trans h.1, (k.cell (World.block_lt_of_cell? _ _ h.2)).trans h.2⟩
theorem cell_new (w : World) (v : Value) (t : TypeId) : (w.alloc (.cells #[v] t)).cell? ⟨w.heap.size, 0, none⟩ = some v := by
  have e : ∀ o : Obj, (w.alloc o).heap[w.heap.size]? = some o := fun o => by
    show (w.heap.push _)[w.heap.size]? = _
    simp
  simp only [World.cell?, e]; rfl
theorem cell_kept {w w' : World} {p : Addr} {v : Value} (h : w.cell? p = some v) (k : Below w.heap.size w w') : w'.cell? p = some v :=
  (k.cell (World.block_lt_of_cell? _ _ h)).trans h
/-- a box that is new, below other new blocks -/
theorem cell_under (w : World) (o : Obj) {p : Addr} {v : Value} (h : w.cell? p = some v) : (w.alloc o).cell? p = some v :=
  cell_kept h (Below.alloc (Below.refl _ _) (Nat.le_refl _) _)
end Go.Proofs.YtpiadeedgjmmkaaDoor
