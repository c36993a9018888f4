/- Layer 8 (decode): the walk of the law of sums of lengths. -/
import Derived.Test.YtlmeekaemhghgaaDoorDecodeAwake
import Derived.BigQuiet
import Derived.Deep.DeepCutAuto
import Derived.Deep.QuietTactic
namespace Go.Proofs.YtlmeekaemhghgaaDoor
open Go.RowKit
set_option linter.unusedVariables false
set_option linter.unusedSimpArgs false

theorem bel_drewN {B : Nat} {a w : World} (h : Below B a w) (n : Nat) : Below B a (w.drewN n) := ⟨h.os, h.tape, h.output, h.size, h.block⟩
/-- the row of instructions, cell by cell -/
theorem rowCs_cells {w : World} {b g k cap : Nat} {l : List OpM} (hl : l.length = k) (h : w.ownsRow b 24 6 (.slice (some ⟨g, 0, none⟩) k cap) k (rowCs l)) (j : Nat) (hj : j < k) (o : OpM) (ho : l[j]? = some o) :
    (w.cell? ⟨g, j * 6, none⟩ = some (.int .i64 o.plane) ∧ w.cell? ⟨g, j * 6 + 1, none⟩ = some (.int .u8 o.code) ∧ w.cell? ⟨g, j * 6 + 2, none⟩ = some (.int .u8 o.disp) ∧ w.cell? ⟨g, j * 6 + 3, none⟩ = some (.int .u16 o.imm) ∧ w.cell? ⟨g, j * 6 + 4, none⟩ = some (.int .i64 o.len) ∧ w.cell? ⟨g, j * 6 + 5, none⟩ = some (.int .i64 o.skip)) := by
  have key : ∀ (l : List OpM) (j : Nat) (o : OpM) (r : Nat), r < 6 → l[j]? = some o → (rowCs l)[j * 6 + r]? = (opCs o)[r]? := by
    intro l
    induction l with
    | nil => intro j o r _ h; simp at h
    | cons x l ih =>
      intro j o r hr h
      have e : rowCs (x :: l) = opCs x ++ rowCs l := by simp [rowCs]
      rw [e]
      cases j with
      | zero =>
        simp at h
        subst h
        rw [Nat.zero_mul, Nat.zero_add, List.getElem?_append_left (by simpa [opCs] using hr)]
      | succ j =>
        rw [List.getElem?_append_right (by simp [opCs]; omega), show (j + 1) * 6 + r - (opCs x).length = j * 6 + r by simp [opCs]; omega]
        exact ih j o r hr (by simpa using h)
  have hc : ∀ r, r < 6 → w.cell? ⟨g, j * 6 + r, none⟩ = (opCs o)[r]? := fun r hr => (h.cellAt (j * 6 + r) (by omega)).trans (key l j o r hr ho)
  exact ⟨hc 0 (by omega), hc 1 (by omega), hc 2 (by omega), hc 3 (by omega), hc 4 (by omega), hc 5 (by omega)⟩
end Go.Proofs.YtlmeekaemhghgaaDoor
