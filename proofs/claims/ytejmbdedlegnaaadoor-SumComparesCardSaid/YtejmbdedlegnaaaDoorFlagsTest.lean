/- Layer 2 (flags): contracts of Test, Result, Even, Keep and the document's own. -/
import Derived.Test.YtejmbdedlegnaaaDoorFlagsLeaf
import Derived.Test.YtejmbdedlegnaaaDoorBitOps
import Derived.Laws.Rows
namespace Go.Proofs.YtejmbdedlegnaaaDoor
open Go.RowKit
set_option linter.unusedVariables false
set_option linter.unusedSimpArgs false

/-- what the package's table holds -/
def Masks (w : World) : Prop := w.cell? ⟨0, 0, none⟩ = some (.int .u8 64) ∧ w.cell? ⟨0, 1, none⟩ = some (.int .u8 1) ∧ w.cell? ⟨0, 2, none⟩ = some (.int .u8 4) ∧ w.cell? ⟨0, 3, none⟩ = some (.int .u8 128)
theorem Masks.below {w w' : World} (h : Masks w) (k : Below w.heap.size w w') : Masks w' :=
  ⟨(k.cell (World.block_lt_of_cell? _ _ h.1)).trans h.1, (k.cell (World.block_lt_of_cell? _ _ h.2.1)).trans h.2.1, (k.cell (World.block_lt_of_cell? _ _ h.2.2.1)).trans h.2.2.1, (k.cell (World.block_lt_of_cell? _ _ h.2.2.2)).trans h.2.2.2⟩

theorem mask_fin : ∀ x : Fin 256, (bits .and .u8 (x.val : Int) 64 != 0) = isM (x.val : Int) 6 ∧ (bits .and .u8 (x.val : Int) 1 != 0) = isM (x.val : Int) 0 ∧ (bits .and .u8 (x.val : Int) 4 != 0) = isM (x.val : Int) 2 ∧ (bits .and .u8 (x.val : Int) 128 != 0) = isM (x.val : Int) 7 := by decide +kernel
theorem mask_all (f : Int) (h0 : 0 ≤ f) (h1 : f ≤ 255) : (bits .and .u8 f 64 != 0) = isM f 6 ∧ (bits .and .u8 f 1 != 0) = isM f 0 ∧ (bits .and .u8 f 4 != 0) = isM f 2 ∧ (bits .and .u8 f 128 != 0) = isM f 7 :=
  byte_all (P := fun f => (bits .and .u8 f 64 != 0) = isM f 6 ∧ (bits .and .u8 f 1 != 0) = isM f 0 ∧ (bits .and .u8 f 4 != 0) = isM f 2 ∧ (bits .and .u8 f 128 != 0) = isM f 7) mask_fin f h0 h1
theorem testM_out (f c : Int) (h : c < 0 ∨ 8 ≤ c) : testM f c = false := by
  unfold testM
  repeat (rw [if_neg (by omega)])

set_option maxHeartbeats 4000000 in
theorem test_any (f c : Int) (h0 : 0 ≤ f) (h1 : f ≤ 255) (w : World) (hm : Masks w) :
    Calls Tryd.prog 6 #[.int .u8 f, .int .i64 c] w fun e w' => e = .returned (.bool (testM f c)) ∧ w = w' := by
  obtain ⟨m0, m1, m2, m3⟩ := hm
  obtain ⟨k0, k1, k2, k3⟩ := mask_all f h0 h1
  by_cases hc : c < 0 ∨ 8 ≤ c
  · rw [testM_out f c hc]
    rcases hc with hc | hc
    · go_enter Tryd.func6, Tryd.ntmps6
      go_wp2
      go_ret
      exact ⟨rfl, rfl⟩
    · go_enter Tryd.func6, Tryd.ntmps6
      go_wp2
      go_ret
      exact ⟨rfl, rfl⟩
  · obtain rfl | rfl | rfl | rfl | rfl | rfl | rfl | rfl : c = 0 ∨ c = 1 ∨ c = 2 ∨ c = 3 ∨ c = 4 ∨ c = 5 ∨ c = 6 ∨ c = 7 := by omega
    all_goals
      clear hc
      go_enter Tryd.func6, Tryd.ntmps6
      go_wp2
      go_ret
      refine ⟨ret_bool ?_, rfl⟩
      simp only [testM]
      simp [k0, k1, k2, k3]

theorem result_fin : ∀ x : Fin 256, x.val ≠ 0 → bits .and .u8 (x.val : Int) 168 = resultM (x.val : Int) := by decide +kernel
theorem result_all (r : Int) (h0 : 0 ≤ r) (h1 : r ≤ 255) (h : r ≠ 0) : bits .and .u8 r 168 = resultM r := by
  have := result_fin ⟨r.toNat, by omega⟩ (by simp; omega)
  simpa [Int.toNat_of_nonneg h0] using this
set_option maxHeartbeats 4000000 in
theorem result_any (r : Int) (h0 : 0 ≤ r) (h1 : r ≤ 255) (w : World) :
    Calls Tryd.prog 17 #[.int .u8 r] w fun e w' => e = .returned (.int .u8 (resultM r)) ∧ w = w' := by
  by_cases h : r = 0
  · subst h
    go_enter Tryd.func17, Tryd.ntmps17
    go_wp2
    go_ret
    exact ⟨ret_int (by decide +kernel), rfl⟩
  · have H := Lib.hid (result_all r h0 h1 h)
    have n0 : (r == 0) = false := by simp; omega
    clear h
    go_enter Tryd.func17, Tryd.ntmps17
    go_wp2
    go_ret
    exact ⟨ret_int H.out, rfl⟩
theorem even_fin : ∀ x : Fin 256, evenFM (x.val : Int) = if evenM (x.val : Int) then bits .or .u8 (resultM (x.val : Int)) 4 else resultM (x.val : Int) := by decide +kernel
theorem even_all (r : Int) (h0 : 0 ≤ r) (h1 : r ≤ 255) : evenFM r = if evenM r then bits .or .u8 (resultM r) 4 else resultM r :=
  byte_all (P := fun r => evenFM r = if evenM r then bits .or .u8 (resultM r) 4 else resultM r) even_fin r h0 h1
end Go.Proofs.YtejmbdedlegnaaaDoor
