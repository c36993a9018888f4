/- Opening an argument that is a slice of cells. Nothing of the program's functions. -/
import Derived.WalkKit
import Derived.ProofKit
import Derived.OpenShut
import Derived.ChangeSlices
import Derived.ChangeArms
import Derived.Deep.SlicePairs
import Derived.Deep.Fields
import Derived.Test.YtahnejcfengljaaCellsMem
namespace Go.Proofs.Ytahnejcfengljaa
open Go.ChangeShapes Go.WideShapes Go.ChangeAt Go.RowKit Go.Deep
set_option linter.unusedVariables false

theorem open_cells {H : Type} {enc : TypeId × Value → H} {P : Program} {w : World} {r : Reach} {b0 base : Nat} {sp : Nat → Bool} {held : Bool} {t e : TypeId} {f0 f1 : Field} {v : Value} {d : DataW H} {ps : List MemPlace}
    (ht : P.underlying t = some (.slice e)) (he : P.underlying e = some (.struct #[f0, f1])) (hone : oneCellFields P #[f0, f1] = true) (ce : P.cellsOf e = 2)
    (u0 : P.underlying f0.type = some (.int .u16)) (u1 : P.underlying f1.type = some (.int .u8)) (hv : Value.okWide P w r b0 t v) (h : DataW.Trod enc P w base sp held t v d ps) :
    ∃ (A : Option Addr) (cap : Nat) (xs : List (Int × Int)), v = .slice A xs.length cap ∧ xs.length ≤ cap ∧ cap ≤ maxLen ∧ Cells16 xs ∧ CellsIn w w.heap.size A xs ∧ (A = none → cap = 0) := by
  obtain ⟨a, len, cap, rfl⟩ := okWide_slice ht hv
  obtain ⟨fuel, hf⟩ := h
  obtain ⟨o0, c0⟩ := hone_of hone 0 f0 rfl
  obtain ⟨o1, c1⟩ := hone_of hone 1 f1 rfl
  rcases open_slice_pairs ht he ce o0 o1 c0 c1 hf with ⟨e1, -⟩ | ⟨ad, len', cap', m, n, V0, V1, D0, D1, P0, P1, e1, hb, hle, hm, hmm, -, hx⟩
  · have e1' : (Value.slice a len cap).cells.toList = [.slice none 0 0] := e1
    have e2 : Value.slice a len cap = .slice none 0 0 := by simpa [Value.cells] using e1'
    exact ⟨none, 0, [], e2, Nat.le_refl _, Nat.zero_le _, fun x hx => by simp at hx, CellsIn.nil _ _ _, fun _ => rfl⟩
  · have e1' : (Value.slice a len cap).cells.toList = [.slice (some ad) len' cap'] := e1
    have e2 : Value.slice a len cap = .slice (some ad) len' cap' := by simpa [Value.cells] using e1'
    have hlm : len' ≤ m := by rw [hmm]; split <;> omega
    have each : ∀ i, i < m → ∃ q : Int × Int, V0 i = .int .u16 q.1 ∧ V1 i = .int .u8 q.2 ∧ 0 ≤ q.1 ∧ q.1 ≤ 65535 ∧ 0 ≤ q.2 ∧ q.2 ≤ 255 := by
      intro i hi
      obtain ⟨-, -, h0, h1⟩ := hx i hi
      obtain ⟨z0, g0, -, w0⟩ := DataW.trod_int u0 h0
      obtain ⟨z1, g1, -, w1⟩ := DataW.trod_int u1 h1
      have b0 := bounds_u16 w0
      have b1 := bounds_u8 w1
      simp at g0 g1
      exact ⟨(z0, z1), g0, g1, by omega, by omega, by omega, by omega⟩
    obtain ⟨q, hq⟩ := choose_lt each
    refine ⟨some ad, cap', (List.range len').map q, by rw [List.length_map, List.length_range]; exact e2, by simpa using hle, hm, fun c hc => ?_, fun j c hc => ?_, fun h => by cases h⟩
    · obtain ⟨i, hi, rfl⟩ := List.mem_map.1 hc
      have := hq i (Nat.lt_of_lt_of_le (List.mem_range.1 hi) hlm)
      exact this.2.2
    · have hj : j < len' := by
        have := (List.getElem?_eq_some_iff.1 hc).1
        simpa using this
      have hcq : c = q j := by
        rw [List.getElem?_map, List.getElem?_range hj] at hc
        exact (Option.some.inj hc).symm
      obtain ⟨h0, h1, -⟩ := hx j (by omega)
      obtain ⟨g0, g1, -⟩ := hq j (by omega)
      rw [g0] at h0
      rw [g1] at h1
      rw [hcq]
      refine ⟨ad, rfl, ?_, h0, by rw [add_twice]; exact h1⟩
      have := World.block_lt_of_cell? _ _ h0
      rw [add_block] at this
      exact this
end Go.Proofs.Ytahnejcfengljaa
