/- Layer 8 (decode): the map of the sizes of operands, and Size: contracts. -/
import Derived.Test.YtlmeekaemhghgaaDoorDecodeForm
import Derived.Test.YtlmeekaemhghgaaDoorMapLit
import Derived.Test.YtlmeekaemhghgaaDoorFlagsLeaf
namespace Go.Proofs.YtlmeekaemhghgaaDoor
open Go.RowKit
set_option linter.unusedVariables false
set_option linter.unusedSimpArgs false

theorem szins_A0 (W : World) (b : Nat) (hb : b = W.heap.size) :
    (Instr.mapUpdate 76 (.map (some b)) (.int .i64 0) (.agg #[.int .i64 0, .int .i64 0, .int .i64 1, .int .i64 1, .int .i64 1, .int .i64 1, .int .i64 1, .int .i64 1])).run Tryd.prog (W.alloc (.map #[] 0)) = .ok () (W.alloc (.map #[⟨.int .i64 0, .agg #[.int .i64 0, .int .i64 0, .int .i64 1, .int .i64 1, .int .i64 1, .int .i64 1, .int .i64 1, .int .i64 1], 0⟩] 1)) :=
  run_insert_top W _ _ _ Tryd.underlying76 Tryd.underlying3 _ _ _ _ b hb rfl
theorem szins_A1 (W : World) (b : Nat) (hb : b = W.heap.size) :
    (Instr.mapUpdate 76 (.map (some b)) (.int .i64 1) (.agg #[.int .i64 2, .int .i64 0, .int .i64 2, .int .i64 0, .int .i64 2, .int .i64 0, .int .i64 2, .int .i64 0])).run Tryd.prog (W.alloc (.map #[⟨.int .i64 0, .agg #[.int .i64 0, .int .i64 0, .int .i64 1, .int .i64 1, .int .i64 1, .int .i64 1, .int .i64 1, .int .i64 1], 0⟩] 1)) = .ok () (W.alloc (.map #[⟨.int .i64 0, .agg #[.int .i64 0, .int .i64 0, .int .i64 1, .int .i64 1, .int .i64 1, .int .i64 1, .int .i64 1, .int .i64 1], 0⟩, ⟨.int .i64 1, .agg #[.int .i64 2, .int .i64 0, .int .i64 2, .int .i64 0, .int .i64 2, .int .i64 0, .int .i64 2, .int .i64 0], 1⟩] 2)) :=
  run_insert_top W _ _ _ Tryd.underlying76 Tryd.underlying3 _ _ _ _ b hb rfl
theorem szins_A2 (W : World) (b : Nat) (hb : b = W.heap.size) :
    (Instr.mapUpdate 76 (.map (some b)) (.int .i64 2) (.agg #[.int .i64 0, .int .i64 0, .int .i64 0, .int .i64 0, .int .i64 2, .int .i64 2, .int .i64 2, .int .i64 2])).run Tryd.prog (W.alloc (.map #[⟨.int .i64 0, .agg #[.int .i64 0, .int .i64 0, .int .i64 1, .int .i64 1, .int .i64 1, .int .i64 1, .int .i64 1, .int .i64 1], 0⟩, ⟨.int .i64 1, .agg #[.int .i64 2, .int .i64 0, .int .i64 2, .int .i64 0, .int .i64 2, .int .i64 0, .int .i64 2, .int .i64 0], 1⟩] 2)) = .ok () (W.alloc (.map #[⟨.int .i64 0, .agg #[.int .i64 0, .int .i64 0, .int .i64 1, .int .i64 1, .int .i64 1, .int .i64 1, .int .i64 1, .int .i64 1], 0⟩, ⟨.int .i64 1, .agg #[.int .i64 2, .int .i64 0, .int .i64 2, .int .i64 0, .int .i64 2, .int .i64 0, .int .i64 2, .int .i64 0], 1⟩, ⟨.int .i64 2, .agg #[.int .i64 0, .int .i64 0, .int .i64 0, .int .i64 0, .int .i64 2, .int .i64 2, .int .i64 2, .int .i64 2], 2⟩] 3)) :=
  run_insert_top W _ _ _ Tryd.underlying76 Tryd.underlying3 _ _ _ _ b hb rfl
theorem szins_A3 (W : World) (b : Nat) (hb : b = W.heap.size) :
    (Instr.mapUpdate 76 (.map (some b)) (.int .i64 6) (.agg #[.int .i64 1, .int .i64 1, .int .i64 1, .int .i64 1, .int .i64 1, .int .i64 1, .int .i64 1, .int .i64 1])).run Tryd.prog (W.alloc (.map #[⟨.int .i64 0, .agg #[.int .i64 0, .int .i64 0, .int .i64 1, .int .i64 1, .int .i64 1, .int .i64 1, .int .i64 1, .int .i64 1], 0⟩, ⟨.int .i64 1, .agg #[.int .i64 2, .int .i64 0, .int .i64 2, .int .i64 0, .int .i64 2, .int .i64 0, .int .i64 2, .int .i64 0], 1⟩, ⟨.int .i64 2, .agg #[.int .i64 0, .int .i64 0, .int .i64 0, .int .i64 0, .int .i64 2, .int .i64 2, .int .i64 2, .int .i64 2], 2⟩] 3)) = .ok () (W.alloc (.map #[⟨.int .i64 0, .agg #[.int .i64 0, .int .i64 0, .int .i64 1, .int .i64 1, .int .i64 1, .int .i64 1, .int .i64 1, .int .i64 1], 0⟩, ⟨.int .i64 1, .agg #[.int .i64 2, .int .i64 0, .int .i64 2, .int .i64 0, .int .i64 2, .int .i64 0, .int .i64 2, .int .i64 0], 1⟩, ⟨.int .i64 2, .agg #[.int .i64 0, .int .i64 0, .int .i64 0, .int .i64 0, .int .i64 2, .int .i64 2, .int .i64 2, .int .i64 2], 2⟩, ⟨.int .i64 6, .agg #[.int .i64 1, .int .i64 1, .int .i64 1, .int .i64 1, .int .i64 1, .int .i64 1, .int .i64 1, .int .i64 1], 3⟩] 4)) :=
  run_insert_top W _ _ _ Tryd.underlying76 Tryd.underlying3 _ _ _ _ b hb rfl
theorem szins_B0 (W : World) (b : Nat) (hb : b = W.heap.size) :
    (Instr.mapUpdate 76 (.map (some b)) (.int .i64 2) (.agg #[.int .i64 2, .int .i64 2, .int .i64 2, .int .i64 2, .int .i64 2, .int .i64 2, .int .i64 2, .int .i64 2])).run Tryd.prog (W.alloc (.map #[] 0)) = .ok () (W.alloc (.map #[⟨.int .i64 2, .agg #[.int .i64 2, .int .i64 2, .int .i64 2, .int .i64 2, .int .i64 2, .int .i64 2, .int .i64 2, .int .i64 2], 0⟩] 1)) :=
  run_insert_top W _ _ _ Tryd.underlying76 Tryd.underlying3 _ _ _ _ b hb rfl
theorem szins_B1 (W : World) (b : Nat) (hb : b = W.heap.size) :
    (Instr.mapUpdate 76 (.map (some b)) (.int .i64 3) (.agg #[.int .i64 2, .int .i64 0, .int .i64 1, .int .i64 1, .int .i64 0, .int .i64 0, .int .i64 0, .int .i64 0])).run Tryd.prog (W.alloc (.map #[⟨.int .i64 2, .agg #[.int .i64 2, .int .i64 2, .int .i64 2, .int .i64 2, .int .i64 2, .int .i64 2, .int .i64 2, .int .i64 2], 0⟩] 1)) = .ok () (W.alloc (.map #[⟨.int .i64 2, .agg #[.int .i64 2, .int .i64 2, .int .i64 2, .int .i64 2, .int .i64 2, .int .i64 2, .int .i64 2, .int .i64 2], 0⟩, ⟨.int .i64 3, .agg #[.int .i64 2, .int .i64 0, .int .i64 1, .int .i64 1, .int .i64 0, .int .i64 0, .int .i64 0, .int .i64 0], 1⟩] 2)) :=
  run_insert_top W _ _ _ Tryd.underlying76 Tryd.underlying3 _ _ _ _ b hb rfl
theorem szins_B2 (W : World) (b : Nat) (hb : b = W.heap.size) :
    (Instr.mapUpdate 76 (.map (some b)) (.int .i64 4) (.agg #[.int .i64 2, .int .i64 2, .int .i64 2, .int .i64 2, .int .i64 2, .int .i64 2, .int .i64 2, .int .i64 2])).run Tryd.prog (W.alloc (.map #[⟨.int .i64 2, .agg #[.int .i64 2, .int .i64 2, .int .i64 2, .int .i64 2, .int .i64 2, .int .i64 2, .int .i64 2, .int .i64 2], 0⟩, ⟨.int .i64 3, .agg #[.int .i64 2, .int .i64 0, .int .i64 1, .int .i64 1, .int .i64 0, .int .i64 0, .int .i64 0, .int .i64 0], 1⟩] 2)) = .ok () (W.alloc (.map #[⟨.int .i64 2, .agg #[.int .i64 2, .int .i64 2, .int .i64 2, .int .i64 2, .int .i64 2, .int .i64 2, .int .i64 2, .int .i64 2], 0⟩, ⟨.int .i64 3, .agg #[.int .i64 2, .int .i64 0, .int .i64 1, .int .i64 1, .int .i64 0, .int .i64 0, .int .i64 0, .int .i64 0], 1⟩, ⟨.int .i64 4, .agg #[.int .i64 2, .int .i64 2, .int .i64 2, .int .i64 2, .int .i64 2, .int .i64 2, .int .i64 2, .int .i64 2], 2⟩] 3)) :=
  run_insert_top W _ _ _ Tryd.underlying76 Tryd.underlying3 _ _ _ _ b hb rfl
theorem szins_B3 (W : World) (b : Nat) (hb : b = W.heap.size) :
    (Instr.mapUpdate 76 (.map (some b)) (.int .i64 5) (.agg #[.int .i64 0, .int .i64 2, .int .i64 0, .int .i64 0, .int .i64 0, .int .i64 0, .int .i64 0, .int .i64 0])).run Tryd.prog (W.alloc (.map #[⟨.int .i64 2, .agg #[.int .i64 2, .int .i64 2, .int .i64 2, .int .i64 2, .int .i64 2, .int .i64 2, .int .i64 2, .int .i64 2], 0⟩, ⟨.int .i64 3, .agg #[.int .i64 2, .int .i64 0, .int .i64 1, .int .i64 1, .int .i64 0, .int .i64 0, .int .i64 0, .int .i64 0], 1⟩, ⟨.int .i64 4, .agg #[.int .i64 2, .int .i64 2, .int .i64 2, .int .i64 2, .int .i64 2, .int .i64 2, .int .i64 2, .int .i64 2], 2⟩] 3)) = .ok () (W.alloc (.map #[⟨.int .i64 2, .agg #[.int .i64 2, .int .i64 2, .int .i64 2, .int .i64 2, .int .i64 2, .int .i64 2, .int .i64 2, .int .i64 2], 0⟩, ⟨.int .i64 3, .agg #[.int .i64 2, .int .i64 0, .int .i64 1, .int .i64 1, .int .i64 0, .int .i64 0, .int .i64 0, .int .i64 0], 1⟩, ⟨.int .i64 4, .agg #[.int .i64 2, .int .i64 2, .int .i64 2, .int .i64 2, .int .i64 2, .int .i64 2, .int .i64 2, .int .i64 2], 2⟩, ⟨.int .i64 5, .agg #[.int .i64 0, .int .i64 2, .int .i64 0, .int .i64 0, .int .i64 0, .int .i64 0, .int .i64 0, .int .i64 0], 3⟩] 4)) :=
  run_insert_top W _ _ _ Tryd.underlying76 Tryd.underlying3 _ _ _ _ b hb rfl
theorem szins_B4 (W : World) (b : Nat) (hb : b = W.heap.size) :
    (Instr.mapUpdate 76 (.map (some b)) (.int .i64 6) (.agg #[.int .i64 1, .int .i64 1, .int .i64 1, .int .i64 1, .int .i64 1, .int .i64 1, .int .i64 1, .int .i64 1])).run Tryd.prog (W.alloc (.map #[⟨.int .i64 2, .agg #[.int .i64 2, .int .i64 2, .int .i64 2, .int .i64 2, .int .i64 2, .int .i64 2, .int .i64 2, .int .i64 2], 0⟩, ⟨.int .i64 3, .agg #[.int .i64 2, .int .i64 0, .int .i64 1, .int .i64 1, .int .i64 0, .int .i64 0, .int .i64 0, .int .i64 0], 1⟩, ⟨.int .i64 4, .agg #[.int .i64 2, .int .i64 2, .int .i64 2, .int .i64 2, .int .i64 2, .int .i64 2, .int .i64 2, .int .i64 2], 2⟩, ⟨.int .i64 5, .agg #[.int .i64 0, .int .i64 2, .int .i64 0, .int .i64 0, .int .i64 0, .int .i64 0, .int .i64 0, .int .i64 0], 3⟩] 4)) = .ok () (W.alloc (.map #[⟨.int .i64 2, .agg #[.int .i64 2, .int .i64 2, .int .i64 2, .int .i64 2, .int .i64 2, .int .i64 2, .int .i64 2, .int .i64 2], 0⟩, ⟨.int .i64 3, .agg #[.int .i64 2, .int .i64 0, .int .i64 1, .int .i64 1, .int .i64 0, .int .i64 0, .int .i64 0, .int .i64 0], 1⟩, ⟨.int .i64 4, .agg #[.int .i64 2, .int .i64 2, .int .i64 2, .int .i64 2, .int .i64 2, .int .i64 2, .int .i64 2, .int .i64 2], 2⟩, ⟨.int .i64 5, .agg #[.int .i64 0, .int .i64 2, .int .i64 0, .int .i64 0, .int .i64 0, .int .i64 0, .int .i64 0, .int .i64 0], 3⟩, ⟨.int .i64 6, .agg #[.int .i64 1, .int .i64 1, .int .i64 1, .int .i64 1, .int .i64 1, .int .i64 1, .int .i64 1, .int .i64 1], 4⟩] 5)) :=
  run_insert_top W _ _ _ Tryd.underlying76 Tryd.underlying3 _ _ _ _ b hb rfl
theorem szins_C0 (W : World) (b : Nat) (hb : b = W.heap.size) :
    (Instr.mapUpdate 76 (.map (some b)) (.int .i64 3) (.agg #[.int .i64 2, .int .i64 2, .int .i64 2, .int .i64 2, .int .i64 2, .int .i64 2, .int .i64 2, .int .i64 2])).run Tryd.prog (W.alloc (.map #[] 0)) = .ok () (W.alloc (.map #[⟨.int .i64 3, .agg #[.int .i64 2, .int .i64 2, .int .i64 2, .int .i64 2, .int .i64 2, .int .i64 2, .int .i64 2, .int .i64 2], 0⟩] 1)) :=
  run_insert_top W _ _ _ Tryd.underlying76 Tryd.underlying3 _ _ _ _ b hb rfl
attribute [local go_sem] szins_A0 szins_A1 szins_A2 szins_A3 szins_B0 szins_B1 szins_B2 szins_B3 szins_B4 szins_C0
/-- what the maps hold at Z: eight sizes -/
def rowA (Z : Int) : List Int := if Z = 0 then [0, 0, 1, 1, 1, 1, 1, 1] else if Z = 1 then [2, 0, 2, 0, 2, 0, 2, 0] else if Z = 2 then [0, 0, 0, 0, 2, 2, 2, 2] else if Z = 6 then [1, 1, 1, 1, 1, 1, 1, 1] else [0, 0, 0, 0, 0, 0, 0, 0]
def rowB (Z : Int) : List Int := if Z = 2 then [2, 2, 2, 2, 2, 2, 2, 2] else if Z = 3 then [2, 0, 1, 1, 0, 0, 0, 0] else if Z = 4 then [2, 2, 2, 2, 2, 2, 2, 2] else if Z = 5 then [0, 2, 0, 0, 0, 0, 0, 0] else if Z = 6 then [1, 1, 1, 1, 1, 1, 1, 1] else [0, 0, 0, 0, 0, 0, 0, 0]
def rowC (Z : Int) : List Int := if Z = 3 then [2, 2, 2, 2, 2, 2, 2, 2] else [0, 0, 0, 0, 0, 0, 0, 0]
def rowL (p X Z : Int) : List Int := if p = 0 ∧ X = 0 then rowA Z else if p = 0 ∧ X = 3 then rowB Z else if p = 2 ∧ X = 1 then rowC Z else [0, 0, 0, 0, 0, 0, 0, 0]
def rowV (l : List Int) : Value := .agg (l.map (fun n => (.int .i64 n : Value))).toArray
/-- a map of sizes as a call leaves it: what it answers at each Z -/
def Looks (w : World) (m : Value) (p X : Int) : Prop := ∀ Z : Int, 0 ≤ Z → Z ≤ 7 → (Instr.lookup 76 m (.int .i64 Z) false).run Tryd.prog w = .ok (rowV (rowL p X Z)) w
theorem looksA {w : World} {M : Nat} (h : w.heap[M]? = some (.map #[⟨.int .i64 0, .agg #[.int .i64 0, .int .i64 0, .int .i64 1, .int .i64 1, .int .i64 1, .int .i64 1, .int .i64 1, .int .i64 1], 0⟩, ⟨.int .i64 1, .agg #[.int .i64 2, .int .i64 0, .int .i64 2, .int .i64 0, .int .i64 2, .int .i64 0, .int .i64 2, .int .i64 0], 1⟩, ⟨.int .i64 2, .agg #[.int .i64 0, .int .i64 0, .int .i64 0, .int .i64 0, .int .i64 2, .int .i64 2, .int .i64 2, .int .i64 2], 2⟩, ⟨.int .i64 6, .agg #[.int .i64 1, .int .i64 1, .int .i64 1, .int .i64 1, .int .i64 1, .int .i64 1, .int .i64 1, .int .i64 1], 3⟩] 4)) (Z : Int) (h0 : 0 ≤ Z) (h1 : Z ≤ 7) : (Instr.lookup 76 (.map (some M)) (.int .i64 Z) false).run Tryd.prog w = .ok (rowV (rowA Z)) w := by
  obtain rfl | rfl | rfl | rfl | rfl | rfl | rfl | rfl : Z = 0 ∨ Z = 1 ∨ Z = 2 ∨ Z = 3 ∨ Z = 4 ∨ Z = 5 ∨ Z = 6 ∨ Z = 7 := by omega
  · exact run_look1 Tryd.underlying76 Tryd.underlying3 h rfl
  · exact run_look1 Tryd.underlying76 Tryd.underlying3 h rfl
  · exact run_look1 Tryd.underlying76 Tryd.underlying3 h rfl
  · exact run_look1_no Tryd.underlying76 Tryd.underlying3 h rfl (by kernel_rfl)
  · exact run_look1_no Tryd.underlying76 Tryd.underlying3 h rfl (by kernel_rfl)
  · exact run_look1_no Tryd.underlying76 Tryd.underlying3 h rfl (by kernel_rfl)
  · exact run_look1 Tryd.underlying76 Tryd.underlying3 h rfl
  · exact run_look1_no Tryd.underlying76 Tryd.underlying3 h rfl (by kernel_rfl)
theorem looksB {w : World} {M : Nat} (h : w.heap[M]? = some (.map #[⟨.int .i64 2, .agg #[.int .i64 2, .int .i64 2, .int .i64 2, .int .i64 2, .int .i64 2, .int .i64 2, .int .i64 2, .int .i64 2], 0⟩, ⟨.int .i64 3, .agg #[.int .i64 2, .int .i64 0, .int .i64 1, .int .i64 1, .int .i64 0, .int .i64 0, .int .i64 0, .int .i64 0], 1⟩, ⟨.int .i64 4, .agg #[.int .i64 2, .int .i64 2, .int .i64 2, .int .i64 2, .int .i64 2, .int .i64 2, .int .i64 2, .int .i64 2], 2⟩, ⟨.int .i64 5, .agg #[.int .i64 0, .int .i64 2, .int .i64 0, .int .i64 0, .int .i64 0, .int .i64 0, .int .i64 0, .int .i64 0], 3⟩, ⟨.int .i64 6, .agg #[.int .i64 1, .int .i64 1, .int .i64 1, .int .i64 1, .int .i64 1, .int .i64 1, .int .i64 1, .int .i64 1], 4⟩] 5)) (Z : Int) (h0 : 0 ≤ Z) (h1 : Z ≤ 7) : (Instr.lookup 76 (.map (some M)) (.int .i64 Z) false).run Tryd.prog w = .ok (rowV (rowB Z)) w := by
  obtain rfl | rfl | rfl | rfl | rfl | rfl | rfl | rfl : Z = 0 ∨ Z = 1 ∨ Z = 2 ∨ Z = 3 ∨ Z = 4 ∨ Z = 5 ∨ Z = 6 ∨ Z = 7 := by omega
  · exact run_look1_no Tryd.underlying76 Tryd.underlying3 h rfl (by kernel_rfl)
  · exact run_look1_no Tryd.underlying76 Tryd.underlying3 h rfl (by kernel_rfl)
  · exact run_look1 Tryd.underlying76 Tryd.underlying3 h rfl
  · exact run_look1 Tryd.underlying76 Tryd.underlying3 h rfl
  · exact run_look1 Tryd.underlying76 Tryd.underlying3 h rfl
  · exact run_look1 Tryd.underlying76 Tryd.underlying3 h rfl
  · exact run_look1 Tryd.underlying76 Tryd.underlying3 h rfl
  · exact run_look1_no Tryd.underlying76 Tryd.underlying3 h rfl (by kernel_rfl)
theorem looksC {w : World} {M : Nat} (h : w.heap[M]? = some (.map #[⟨.int .i64 3, .agg #[.int .i64 2, .int .i64 2, .int .i64 2, .int .i64 2, .int .i64 2, .int .i64 2, .int .i64 2, .int .i64 2], 0⟩] 1)) (Z : Int) (h0 : 0 ≤ Z) (h1 : Z ≤ 7) : (Instr.lookup 76 (.map (some M)) (.int .i64 Z) false).run Tryd.prog w = .ok (rowV (rowC Z)) w := by
  obtain rfl | rfl | rfl | rfl | rfl | rfl | rfl | rfl : Z = 0 ∨ Z = 1 ∨ Z = 2 ∨ Z = 3 ∨ Z = 4 ∨ Z = 5 ∨ Z = 6 ∨ Z = 7 := by omega
  · exact run_look1_no Tryd.underlying76 Tryd.underlying3 h rfl (by kernel_rfl)
  · exact run_look1_no Tryd.underlying76 Tryd.underlying3 h rfl (by kernel_rfl)
  · exact run_look1_no Tryd.underlying76 Tryd.underlying3 h rfl (by kernel_rfl)
  · exact run_look1 Tryd.underlying76 Tryd.underlying3 h rfl
  · exact run_look1_no Tryd.underlying76 Tryd.underlying3 h rfl (by kernel_rfl)
  · exact run_look1_no Tryd.underlying76 Tryd.underlying3 h rfl (by kernel_rfl)
  · exact run_look1_no Tryd.underlying76 Tryd.underlying3 h rfl (by kernel_rfl)
  · exact run_look1_no Tryd.underlying76 Tryd.underlying3 h rfl (by kernel_rfl)
theorem looksNil {w : World} (Z : Int) : (Instr.lookup 76 (.map none) (.int .i64 Z) false).run Tryd.prog w = .ok (rowV [0, 0, 0, 0, 0, 0, 0, 0]) w :=
  run_look1_nil Tryd.underlying76 Tryd.underlying3 (by kernel_rfl)
theorem heap_new (w : World) (o : Obj) : (w.alloc o).heap[w.heap.size]? = some o := by
  show (w.heap.push _)[w.heap.size]? = _
  simp
set_option maxHeartbeats 4000000 in
theorem sizes_A (w : World) :
    Calls Tryd.prog 52 #[.int .i64 0, .int .i64 0] w fun e w' => ∃ m, e = .returned m ∧ Looks w' m 0 0 ∧ Below w.heap.size w w' := by
  have hmm := @run_makeMap Tryd.prog
  go_enter Tryd.func52, Tryd.ntmps52
  go_wp2
  go_ret
  exact ⟨_, rfl, fun Z h0 h1 => looksA (heap_new _ _) Z h0 h1, (by repeat (first | exact Below.refl _ _ | assumption | refine bstep ?_ (by assumption) | refine Below.drew ?_ | refine Below.alloc ?_ (by first | (simp; done) | (simp; omega) | omega) _ | refine Below.setCell ?_ (by first | (simp; done) | (simp; omega) | omega) _))⟩
set_option maxHeartbeats 4000000 in
theorem sizes_B (w : World) :
    Calls Tryd.prog 52 #[.int .i64 0, .int .i64 3] w fun e w' => ∃ m, e = .returned m ∧ Looks w' m 0 3 ∧ Below w.heap.size w w' := by
  have hmm := @run_makeMap Tryd.prog
  go_enter Tryd.func52, Tryd.ntmps52
  go_wp2
  go_ret
  exact ⟨_, rfl, fun Z h0 h1 => looksB (heap_new _ _) Z h0 h1, (by repeat (first | exact Below.refl _ _ | assumption | refine bstep ?_ (by assumption) | refine Below.drew ?_ | refine Below.alloc ?_ (by first | (simp; done) | (simp; omega) | omega) _ | refine Below.setCell ?_ (by first | (simp; done) | (simp; omega) | omega) _))⟩
set_option maxHeartbeats 4000000 in
theorem sizes_C (w : World) :
    Calls Tryd.prog 52 #[.int .i64 2, .int .i64 1] w fun e w' => ∃ m, e = .returned m ∧ Looks w' m 2 1 ∧ Below w.heap.size w w' := by
  have hmm := @run_makeMap Tryd.prog
  go_enter Tryd.func52, Tryd.ntmps52
  go_wp2
  go_ret
  exact ⟨_, rfl, fun Z h0 h1 => looksC (heap_new _ _) Z h0 h1, (by repeat (first | exact Below.refl _ _ | assumption | refine bstep ?_ (by assumption) | refine Below.drew ?_ | refine Below.alloc ?_ (by first | (simp; done) | (simp; omega) | omega) _ | refine Below.setCell ?_ (by first | (simp; done) | (simp; omega) | omega) _))⟩
theorem rowL_nil (p X Z : Int) (h : ¬ (p = 0 ∧ X = 0) ∧ ¬ (p = 0 ∧ X = 3) ∧ ¬ (p = 2 ∧ X = 1)) : rowL p X Z = [0, 0, 0, 0, 0, 0, 0, 0] := by
  unfold rowL
  rw [if_neg h.1, if_neg h.2.1, if_neg h.2.2]
set_option maxHeartbeats 4000000 in
theorem sizes_any (p X : Int) (hX : 0 ≤ X ∧ X ≤ 3) (w : World) :
    Calls Tryd.prog 52 #[.int .i64 p, .int .i64 X] w fun e w' => ∃ m, e = .returned m ∧ Looks w' m p X ∧ Below w.heap.size w w' := by
  by_cases hA : p = 0 ∧ X = 0
  · obtain ⟨rfl, rfl⟩ := hA
    exact sizes_A w
  by_cases hB : p = 0 ∧ X = 3
  · obtain ⟨rfl, rfl⟩ := hB
    exact sizes_B w
  by_cases hC : p = 2 ∧ X = 1
  · obtain ⟨rfl, rfl⟩ := hC
    exact sizes_C w
  have hn := Lib.hid (fun Z => rowL_nil p X Z ⟨hA, hB, hC⟩)
  cases e0 : (p == 0) <;> cases e2 : (p == 2) <;> cases x0 : (X == 0) <;> cases x3 : (X == 3) <;> cases x1 : (X == 1)
  all_goals first
    | (exfalso; simp only [beq_iff_eq, beq_eq_false_iff_ne] at e0 e2 x0 x3 x1; omega)
    | (clear hA hB hC
       go_enter Tryd.func52, Tryd.ntmps52
       go_wp2
       go_ret
       exact ⟨_, rfl, fun Z h0 h1 => by rw [hn.out]; exact looksNil Z, (by repeat (first | exact Below.refl _ _ | assumption | refine bstep ?_ (by assumption) | refine Below.drew ?_ | refine Below.alloc ?_ (by first | (simp; done) | (simp; omega) | omega) _ | refine Below.setCell ?_ (by first | (simp; done) | (simp; omega) | omega) _))⟩)
theorem rowP_fin : ∀ c : Fin 256, (rowL 0 (fx (c.val : Int)) (fz (c.val : Int))).getD (fy (c.val : Int)).toNat 0 = sizeP (c.val : Int) := by decide +kernel
theorem rowE_fin : ∀ c : Fin 256, (rowL 2 (fx (c.val : Int)) (fz (c.val : Int))).getD (fy (c.val : Int)).toNat 0 = sizeE (c.val : Int) := by decide +kernel
theorem rowL_length (p X Z : Int) : (rowL p X Z).length = 8 := by
  unfold rowL rowA rowB rowC
  repeat' split
  all_goals rfl
theorem getD_zeros (n : Nat) : ([0, 0, 0, 0, 0, 0, 0, 0] : List Int).getD n 0 = 0 := by
  match n with
  | 0 | 1 | 2 | 3 | 4 | 5 | 6 | 7 => rfl
  | n + 8 => rfl
/-- the plane whose sizes count -/
def basePl (p : Int) : Int := if p = 3 ∨ p = 4 then 0 else p
theorem row_size (p c : Int) (hc : B8 c) : (rowL (basePl p) (fx c) (fz c)).getD (fy c).toNat 0 = sizeM p c := by
  unfold sizeM basePl
  by_cases h : p = 3 ∨ p = 4
  · rw [if_pos h, if_pos (by omega)]
    exact byte_all (P := fun c => (rowL 0 (fx c) (fz c)).getD (fy c).toNat 0 = sizeP c) rowP_fin c hc.1 hc.2
  · rw [if_neg h]
    by_cases h0 : p = 0
    · subst h0
      rw [if_pos (by omega)]
      exact byte_all (P := fun c => (rowL 0 (fx c) (fz c)).getD (fy c).toNat 0 = sizeP c) rowP_fin c hc.1 hc.2
    · rw [if_neg (by omega)]
      by_cases h2 : p = 2
      · subst h2
        rw [if_pos rfl]
        exact byte_all (P := fun c => (rowL 2 (fx c) (fz c)).getD (fy c).toNat 0 = sizeE c) rowE_fin c hc.1 hc.2
      · rw [if_neg h2, rowL_nil _ _ _ ⟨by omega, by omega, by omega⟩, getD_zeros]
theorem run_row (l : List Int) (hl : l.length = 8) (y : Int) (hy : 0 ≤ y ∧ y ≤ 7) (w : World) : (Instr.index 75 (rowV l) (.int .i64 y)).run Tryd.prog w = .ok (.int .i64 (l.getD y.toNat 0)) w :=
  run_index_arr Tryd.underlying75 (by kernel_rfl) (by kernel_rfl) (by omega) (by
    have h : y.toNat < l.length := by omega
    simp [h])
set_option maxHeartbeats 4000000 in
theorem size_any (p c : Int) (hc : B8 c) (w : World) :
    Calls Tryd.prog 50 #[.int .i64 p, .int .u8 c] w fun e w' => e = .returned (.int .i64 (sizeM p c)) ∧ Below w.heap.size w w' := by
  have bx := fx_b c hc
  have bY := fy_b c hc
  have bz := fz_b c hc
  have hf := Lib.hid (fields_any c hc)
  have hr := Lib.hid (row_size p c hc)
  have hix := fun w => run_row (rowL (basePl p) (fx c) (fz c)) (rowL_length _ _ _) (fy c) bY w
  have hs := Lib.hid (sizes_any (basePl p) (fx c) bx)
  by_cases h3 : p = 3
  · subst h3
    rw [show basePl 3 = 0 from rfl] at hs hr hix
    go_enter Tryd.func50, Tryd.ntmps50
    go_wp2_with (first
      | (go_at_call 33; refine (hf.out _).mono ?_; rintro e w' ⟨rfl, rfl⟩)
      | (go_at_call 52; refine (hs.out _).mono ?_; rintro e w' ⟨m, rfl, hl, hb⟩; have hl := hl (fz c) bz.1 bz.2))
    go_ret
    exact ⟨ret_int hr.out, (by repeat (first | exact Below.refl _ _ | assumption | refine bstep ?_ (by assumption) | refine Below.drew ?_ | refine Below.alloc ?_ (by first | (simp; done) | (simp; omega) | omega) _ | refine Below.setCell ?_ (by first | (simp; done) | (simp; omega) | omega) _))⟩
  by_cases h4 : p = 4
  · subst h4
    rw [show basePl 4 = 0 from rfl] at hs hr hix
    go_enter Tryd.func50, Tryd.ntmps50
    go_wp2_with (first
      | (go_at_call 33; refine (hf.out _).mono ?_; rintro e w' ⟨rfl, rfl⟩)
      | (go_at_call 52; refine (hs.out _).mono ?_; rintro e w' ⟨m, rfl, hl, hb⟩; have hl := hl (fz c) bz.1 bz.2))
    go_ret
    exact ⟨ret_int hr.out, (by repeat (first | exact Below.refl _ _ | assumption | refine bstep ?_ (by assumption) | refine Below.drew ?_ | refine Below.alloc ?_ (by first | (simp; done) | (simp; omega) | omega) _ | refine Below.setCell ?_ (by first | (simp; done) | (simp; omega) | omega) _))⟩
  · rw [show basePl p = p by unfold basePl; rw [if_neg (by omega)]] at hs hr hix
    have e3 : (p == 3) = false := by simpa using h3
    have e4 : (p == 4) = false := by simpa using h4
    clear h3 h4
    go_enter Tryd.func50, Tryd.ntmps50
    go_wp2_with (first
      | (go_at_call 33; refine (hf.out _).mono ?_; rintro e w' ⟨rfl, rfl⟩)
      | (go_at_call 52; refine (hs.out _).mono ?_; rintro e w' ⟨m, rfl, hl, hb⟩; have hl := hl (fz c) bz.1 bz.2))
    go_ret
    exact ⟨ret_int hr.out, (by repeat (first | exact Below.refl _ _ | assumption | refine bstep ?_ (by assumption) | refine Below.drew ?_ | refine Below.alloc ?_ (by first | (simp; done) | (simp; omega) | omega) _ | refine Below.setCell ?_ (by first | (simp; done) | (simp; omega) | omega) _))⟩
end Go.Proofs.YtlmeekaemhghgaaDoor
