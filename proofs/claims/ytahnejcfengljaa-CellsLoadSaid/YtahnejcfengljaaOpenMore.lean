/- Opening arguments that are slices of bytes, and instructions by value. Nothing of the program's functions. -/
import Derived.WalkKit
import Derived.ProofKit
import Derived.OpenShut
import Derived.ChangeSlices
import Derived.Lib.SmallJoins
import Derived.Test.YtahnejcfengljaaMem
import Derived.Test.YtahnejcfengljaaFlagsMath
import Derived.Test.YtahnejcfengljaaDecodeRows
namespace Go.Proofs.Ytahnejcfengljaa
open Go.ChangeShapes Go.WideShapes Go.ChangeAt Go.RowKit
set_option linter.unusedVariables false

theorem open_bytes {H : Type} {enc : TypeId × Value → H} {P : Program} {w : World} {r : Reach} {b0 base : Nat} {sp : Nat → Bool} {held : Bool} {t e : TypeId} {v : Value} {d : DataW H} {ps : List MemPlace}
    (ht : P.underlying t = some (.slice e)) (he : P.underlying e = some (.int .u8)) (hc : P.cellsOf e = 1) (hv : Value.okWide P w r b0 t v) (h : DataW.Trod enc P w base sp held t v d ps) :
    ∃ (A : Option Addr) (cap : Nat) (xs : List Int), v = .slice A xs.length cap ∧ xs.length ≤ cap ∧ cap ≤ maxLen ∧ Bytes8 xs ∧ BytesIn w w.heap.size A xs ∧ (A = none → cap = 0) := by
  obtain ⟨a, len, cap, rfl⟩ := okWide_slice ht hv
  obtain ⟨fuel, hf⟩ := h
  rcases open_ints ht he hc hf with ⟨e1, -⟩ | ⟨ad, len', cap', zs, e1, hb, hle, hm, hz, -, hcell, hwf⟩
  · have e1' : (Value.slice a len cap).cells.toList = [.slice none 0 0] := e1
    have e2 : Value.slice a len cap = .slice none 0 0 := by simpa [Value.cells] using e1'
    refine ⟨none, 0, [], e2, Nat.le_refl _, Nat.zero_le _, fun x hx => by simp at hx, BytesIn.nil _ _ _, fun _ => rfl⟩
  · have e1' : (Value.slice a len cap).cells.toList = [.slice (some ad) len' cap'] := e1
    have e2 : Value.slice a len cap = .slice (some ad) len' cap' := by simpa [Value.cells] using e1'
    have hzl : len' ≤ zs.length := by rw [hz]; split <;> omega
    have htl : (zs.take len').length = len' := by rw [List.length_take]; omega
    refine ⟨some ad, cap', zs.take len', by rw [htl]; exact e2, by omega, hm, fun x hx => ?_, fun j x hx => ?_, fun h => by cases h⟩
    · have hw := hwf x (List.mem_of_mem_take hx)
      have := bounds_u8 hw
      exact ⟨by omega, by omega⟩
    · rw [List.getElem?_take] at hx
      split at hx
      · rename_i hj
        have hj2 : j < zs.length := by omega
        have hce := hcell j hj2
        rw [List.getD_eq_getElem?_getD, hx] at hce
        refine ⟨ad, rfl, ?_, hce⟩
        have := World.block_lt_of_cell? _ _ hce
        rw [add_block] at this
        exact this
      · cases hx
end Go.Proofs.Ytahnejcfengljaa
