/- Layer 2 (flags): contracts of Test, Result, Even, Keep and the document's own. -/
import Derived.Test.YtedbjockmlhnbaaFlagsLeaf
import Derived.Test.YtedbjockmlhnbaaBitOps
import Derived.Laws.Rows
namespace Go.Proofs.Ytedbjockmlhnbaa
open Go.RowKit
set_option linter.unusedVariables false
set_option linter.unusedSimpArgs false

theorem mask_fin : ∀ x : Fin 256, (bits .and .u8 (x.val : Int) 64 != 0) = isM (x.val : Int) 6 ∧ (bits .and .u8 (x.val : Int) 1 != 0) = isM (x.val : Int) 0 ∧ (bits .and .u8 (x.val : Int) 4 != 0) = isM (x.val : Int) 2 ∧ (bits .and .u8 (x.val : Int) 128 != 0) = isM (x.val : Int) 7 := by decide +kernel
theorem mask_all (f : Int) (h0 : 0 ≤ f) (h1 : f ≤ 255) : (bits .and .u8 f 64 != 0) = isM f 6 ∧ (bits .and .u8 f 1 != 0) = isM f 0 ∧ (bits .and .u8 f 4 != 0) = isM f 2 ∧ (bits .and .u8 f 128 != 0) = isM f 7 :=
  byte_all (P := fun f => (bits .and .u8 f 64 != 0) = isM f 6 ∧ (bits .and .u8 f 1 != 0) = isM f 0 ∧ (bits .and .u8 f 4 != 0) = isM f 2 ∧ (bits .and .u8 f 128 != 0) = isM f 7) mask_fin f h0 h1
theorem testM_out (f c : Int) (h : c < 0 ∨ 8 ≤ c) : testM f c = false := by
  unfold testM
  repeat (rw [if_neg (by omega)])

theorem result_fin : ∀ x : Fin 256, x.val ≠ 0 → bits .and .u8 (x.val : Int) 168 = resultM (x.val : Int) := by decide +kernel
theorem result_all (r : Int) (h0 : 0 ≤ r) (h1 : r ≤ 255) (h : r ≠ 0) : bits .and .u8 r 168 = resultM r := by
  have := result_fin ⟨r.toNat, by omega⟩ (by simp; omega)
  simpa [Int.toNat_of_nonneg h0] using this
set_option maxHeartbeats 4000000 in
theorem result_any (r : Int) (h0 : 0 ≤ r) (h1 : r ≤ 255) (w : World) :
    Calls Try.prog 38 #[.int .u8 r] w fun e w' => e = .returned (.int .u8 (resultM r)) ∧ w = w' := by
  by_cases h : r = 0
  · subst h
    go_enter Try.func38, Try.ntmps38
    go_wp2
    go_ret
    exact ⟨ret_int (by decide +kernel), rfl⟩
  · have H := Lib.hid (result_all r h0 h1 h)
    have n0 : (r == 0) = false := by simp; omega
    clear h
    go_enter Try.func38, Try.ntmps38
    go_wp2
    go_ret
    exact ⟨ret_int H.out, rfl⟩
set_option maxHeartbeats 4000000 in
theorem rresult_any (r : Int) (h0 : 0 ≤ r) (h1 : r ≤ 255) (w : World) :
    Calls Try.prog 35 #[.int .u8 r] w fun e w' => e = .returned (.int .u8 (resultM r)) ∧ Below w.heap.size w w' := by
  go_enter Try.func35, Try.ntmps35
  go_wp2_with (first | (go_at_call 21; refine (rof_any _ h0 h1 _).mono ?_; rintro e w' ⟨rfl, hb⟩; have hsz := hb.size) | (go_at_call 23; refine (rmake_any _ _ _ _ _ _ _ _ _).mono ?_; rintro e w' ⟨rfl, hb⟩; have hsz := hb.size))
  go_ret
  exact ⟨rfl, (by repeat (first | exact Below.refl _ _ | assumption | refine bstep ?_ (by assumption) | refine Below.drew ?_ | refine Below.alloc ?_ (by first | (simp; done) | (simp; omega) | omega) _ | refine Below.setCell ?_ (by first | (simp; done) | (simp; omega) | omega) _))⟩
theorem even_fin : ∀ x : Fin 256, evenFM (x.val : Int) = if evenM (x.val : Int) then bits .or .u8 (resultM (x.val : Int)) 4 else resultM (x.val : Int) := by decide +kernel
theorem even_all (r : Int) (h0 : 0 ≤ r) (h1 : r ≤ 255) : evenFM r = if evenM r then bits .or .u8 (resultM r) 4 else resultM r :=
  byte_all (P := fun r => evenFM r = if evenM r then bits .or .u8 (resultM r) 4 else resultM r) even_fin r h0 h1
end Go.Proofs.Ytedbjockmlhnbaa
