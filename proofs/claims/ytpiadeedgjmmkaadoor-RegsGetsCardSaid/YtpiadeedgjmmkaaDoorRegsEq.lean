/- Layer 11 (regs): registers compared: contract. Written by tools/regs.py. -/
import Derived.Test.YtpiadeedgjmmkaaDoorRegsLeaf
import Derived.Laws.StructEq
import Derived.BigQuiet
import Derived.Deep.DeepCutAuto
import Derived.Deep.QuietTactic
namespace Go.Proofs.YtpiadeedgjmmkaaDoor
open Go.RowKit
set_option linter.unusedVariables false
set_option linter.unusedSimpArgs false

theorem keep20 {w w' : World} {B : Nat} {v0 v1 v2 v3 v4 v5 v6 v7 v8 v9 v10 v11 v12 v13 v14 v15 v16 v17 v18 v19 : Value} (k : Below w.heap.size w w')
    (h : w.cell? ⟨B, 0, none⟩ = some v0 ∧ w.cell? ⟨B, 1, none⟩ = some v1 ∧ w.cell? ⟨B, 2, none⟩ = some v2 ∧ w.cell? ⟨B, 3, none⟩ = some v3 ∧ w.cell? ⟨B, 4, none⟩ = some v4 ∧ w.cell? ⟨B, 5, none⟩ = some v5 ∧ w.cell? ⟨B, 6, none⟩ = some v6 ∧ w.cell? ⟨B, 7, none⟩ = some v7 ∧ w.cell? ⟨B, 8, none⟩ = some v8 ∧ w.cell? ⟨B, 9, none⟩ = some v9 ∧ w.cell? ⟨B, 10, none⟩ = some v10 ∧ w.cell? ⟨B, 11, none⟩ = some v11 ∧ w.cell? ⟨B, 12, none⟩ = some v12 ∧ w.cell? ⟨B, 13, none⟩ = some v13 ∧ w.cell? ⟨B, 14, none⟩ = some v14 ∧ w.cell? ⟨B, 15, none⟩ = some v15 ∧ w.cell? ⟨B, 16, none⟩ = some v16 ∧ w.cell? ⟨B, 17, none⟩ = some v17 ∧ w.cell? ⟨B, 18, none⟩ = some v18 ∧ w.cell? ⟨B, 19, none⟩ = some v19) :
    w'.cell? ⟨B, 0, none⟩ = some v0 ∧ w'.cell? ⟨B, 1, none⟩ = some v1 ∧ w'.cell? ⟨B, 2, none⟩ = some v2 ∧ w'.cell? ⟨B, 3, none⟩ = some v3 ∧ w'.cell? ⟨B, 4, none⟩ = some v4 ∧ w'.cell? ⟨B, 5, none⟩ = some v5 ∧ w'.cell? ⟨B, 6, none⟩ = some v6 ∧ w'.cell? ⟨B, 7, none⟩ = some v7 ∧ w'.cell? ⟨B, 8, none⟩ = some v8 ∧ w'.cell? ⟨B, 9, none⟩ = some v9 ∧ w'.cell? ⟨B, 10, none⟩ = some v10 ∧ w'.cell? ⟨B, 11, none⟩ = some v11 ∧ w'.cell? ⟨B, 12, none⟩ = some v12 ∧ w'.cell? ⟨B, 13, none⟩ = some v13 ∧ w'.cell? ⟨B, 14, none⟩ = some v14 ∧ w'.cell? ⟨B, 15, none⟩ = some v15 ∧ w'.cell? ⟨B, 16, none⟩ = some v16 ∧ w'.cell? ⟨B, 17, none⟩ = some v17 ∧ w'.cell? ⟨B, 18, none⟩ = some v18 ∧ w'.cell? ⟨B, 19, none⟩ = some v19 := by
  obtain ⟨h0, h1, h2, h3, h4, h5, h6, h7, h8, h9, h10, h11, h12, h13, h14, h15, h16, h17, h18, h19⟩ := h
  exact ⟨cell_kept h0 k, cell_kept h1 k, cell_kept h2 k, cell_kept h3 k, cell_kept h4 k, cell_kept h5 k, cell_kept h6 k, cell_kept h7 k, cell_kept h8 k, cell_kept h9 k, cell_kept h10 k, cell_kept h11 k, cell_kept h12 k, cell_kept h13 k, cell_kept h14 k, cell_kept h15 k, cell_kept h16 k, cell_kept h17 k, cell_kept h18 k, cell_kept h19 k⟩
set_option maxRecDepth 100000 in
set_option maxHeartbeats 4000000 in
/-- registers compared with themselves -/
theorem regs_same (g : Rg) (w : World) : (Op.equalIn 10000 24 (regsV g) (regsV g)).run Tryd.prog w = .ok true w := by
  unfold regsV regsC
  rw [run_equalIn_agg (P := Tryd.prog) w 9999 24 _ _ (by kernel_rfl) (by kernel_rfl)]
  simp [go_sem]
theorem regs_eql (g : Rg) (w : World) : (binOp .eql 24 (regsV g) (regsV g)).run Tryd.prog w = .ok (.bool true) w := by
  have h := regs_same g w
  unfold regsV at *
  rw [run_eql_struct, h]
  rfl
theorem regs_neq (g : Rg) (w : World) : (binOp .neq 24 (regsV g) (regsV g)).run Tryd.prog w = .ok (.bool false) w := by
  have h := regs_same g w
  unfold regsV at *
  rw [run_neq_struct, h]
  rfl
theorem regs_guard (op : BinOp) (g h : Rg) (x y : Operand) (w : World) : (eqGuard op 24 x y (regsV g) (regsV h)).run Tryd.prog w = .ok () w := by
  unfold regsV
  exact run_eqGuard_agg (P := Tryd.prog) w op _ x y _ _ (by kernel_rfl)
end Go.Proofs.YtpiadeedgjmmkaaDoor
