/- Layer 2 (flags): contracts of Make, Of and the document's own. -/
import Derived.Test.YtedbjockmlhnbaaBitsRef
import Derived.Test.YtedbjockmlhnbaaBitsIter
import Derived.Test.YtedbjockmlhnbaaFlagsMath
import Derived.Handy
import Derived.ChangeKeysEq
namespace Go.Proofs.Ytedbjockmlhnbaa
open Go.RowKit
set_option linter.unusedVariables false

theorem run_index_arr {P : Program} {t e : TypeId} {n : Nat} {cs : Array Value} {k : IntKind} {i : Int} {w : World} {v : Value} (h : P.underlying t = some (.array n e)) (he : P.plainKey e = true) (hs : (sizeOf e).run P w = .ok 1 w) (hi : 0 ≤ i ∧ i < n) (hv : cs[i.toNat]? = some v) :
    (Instr.index t (.agg cs) (.int k i)).run P w = .ok v w := by
  simp [Instr.index, asIntOf, run_underlying h, hi, hs, run_part_plain w he hv]
theorem ix8_0 (a0 a1 a2 a3 a4 a5 a6 a7 : Value) (w : World) : (Instr.index 34 (.agg #[a0, a1, a2, a3, a4, a5, a6, a7]) (.int .i64 0)).run Try.prog w = .ok a0 w :=
  run_index_arr Try.underlying34 (by kernel_rfl) (by kernel_rfl) (by decide) rfl
theorem ix8_1 (a0 a1 a2 a3 a4 a5 a6 a7 : Value) (w : World) : (Instr.index 34 (.agg #[a0, a1, a2, a3, a4, a5, a6, a7]) (.int .i64 1)).run Try.prog w = .ok a1 w :=
  run_index_arr Try.underlying34 (by kernel_rfl) (by kernel_rfl) (by decide) rfl
theorem ix8_2 (a0 a1 a2 a3 a4 a5 a6 a7 : Value) (w : World) : (Instr.index 34 (.agg #[a0, a1, a2, a3, a4, a5, a6, a7]) (.int .i64 2)).run Try.prog w = .ok a2 w :=
  run_index_arr Try.underlying34 (by kernel_rfl) (by kernel_rfl) (by decide) rfl
theorem ix8_3 (a0 a1 a2 a3 a4 a5 a6 a7 : Value) (w : World) : (Instr.index 34 (.agg #[a0, a1, a2, a3, a4, a5, a6, a7]) (.int .i64 3)).run Try.prog w = .ok a3 w :=
  run_index_arr Try.underlying34 (by kernel_rfl) (by kernel_rfl) (by decide) rfl
theorem ix8_4 (a0 a1 a2 a3 a4 a5 a6 a7 : Value) (w : World) : (Instr.index 34 (.agg #[a0, a1, a2, a3, a4, a5, a6, a7]) (.int .i64 4)).run Try.prog w = .ok a4 w :=
  run_index_arr Try.underlying34 (by kernel_rfl) (by kernel_rfl) (by decide) rfl
theorem ix8_5 (a0 a1 a2 a3 a4 a5 a6 a7 : Value) (w : World) : (Instr.index 34 (.agg #[a0, a1, a2, a3, a4, a5, a6, a7]) (.int .i64 5)).run Try.prog w = .ok a5 w :=
  run_index_arr Try.underlying34 (by kernel_rfl) (by kernel_rfl) (by decide) rfl
theorem ix8_6 (a0 a1 a2 a3 a4 a5 a6 a7 : Value) (w : World) : (Instr.index 34 (.agg #[a0, a1, a2, a3, a4, a5, a6, a7]) (.int .i64 6)).run Try.prog w = .ok a6 w :=
  run_index_arr Try.underlying34 (by kernel_rfl) (by kernel_rfl) (by decide) rfl
theorem ix8_7 (a0 a1 a2 a3 a4 a5 a6 a7 : Value) (w : World) : (Instr.index 34 (.agg #[a0, a1, a2, a3, a4, a5, a6, a7]) (.int .i64 7)).run Try.prog w = .ok a7 w :=
  run_index_arr Try.underlying34 (by kernel_rfl) (by kernel_rfl) (by decide) rfl
attribute [local go_sem ↓] ix8_0 ix8_1 ix8_2 ix8_3 ix8_4 ix8_5 ix8_6 ix8_7

/-- eight flags as a value -/
abbrev v8 (b0 b1 b2 b3 b4 b5 b6 b7 : Bool) : Value := .agg #[.bool b0, .bool b1, .bool b2, .bool b3, .bool b4, .bool b5, .bool b6, .bool b7]

/-- the eight flags of a byte as a value -/
abbrev of8 (f : Int) : Value := v8 (isM f 7) (isM f 6) (isM f 5) (isM f 4) (isM f 3) (isM f 2) (isM f 1) (isM f 0)

set_option maxHeartbeats 4000000 in
theorem rmake_any (b0 b1 b2 b3 b4 b5 b6 b7 : Bool) (w : World) :
    Calls Try.prog 23 #[v8 b0 b1 b2 b3 b4 b5 b6 b7] w fun e w' => e = .returned (.int .u8 (mkM b0 b1 b2 b3 b4 b5 b6 b7)) ∧ Below w.heap.size w w' := by
  go_enter Try.func23, Try.ntmps23
  go_wp2
  refine wp_loop_rounds 9 ?_
  iterate 9 (rw [rounds_succ]; go_wp2_with (first
    | (go_at_call 31; refine (rwith_any _ _ _ (B8.lo (by repeat (first | exact B8.zero | apply B8.with))) (B8.hi (by repeat (first | exact B8.zero | apply B8.with))) _).mono ?_; rintro e w' ⟨rfl, rfl⟩)))
  go_ret
  exact ⟨rfl, (by repeat (first | exact Below.refl _ _ | assumption | refine bstep ?_ (by assumption) | refine Below.drew ?_ | refine Below.alloc ?_ (by first | (simp; done) | (simp; omega) | omega) _ | refine Below.setCell ?_ (by first | (simp; done) | (simp; omega) | omega) _))⟩
set_option maxHeartbeats 4000000 in
theorem rof_any (f : Int) (h0 : 0 ≤ f) (h1 : f ≤ 255) (w : World) :
    Calls Try.prog 21 #[.int .u8 f] w fun e w' => e = .returned (of8 f) ∧ Below w.heap.size w w' := by
  go_enter Try.func21, Try.ntmps21
  go_wp2
  refine wp_loop_rounds 9 ?_
  iterate 9 (rw [rounds_succ]; go_wp2_with (first
    | (go_at_call 22; refine (ris_any _ _ h0 h1 _).mono ?_; rintro e w' ⟨rfl, rfl⟩)))
  refine bodyPost_ret (v := of8 f) (by simp [results, Try.f21, go_sem]) rfl ?_
  exact ⟨rfl, (by repeat (first | exact Below.refl _ _ | assumption | refine bstep ?_ (by assumption) | refine Below.drew ?_ | refine Below.alloc ?_ (by first | (simp; done) | (simp; omega) | omega) _ | refine Below.setCell ?_ (by first | (simp; done) | (simp; omega) | omega) _))⟩
end Go.Proofs.Ytedbjockmlhnbaa
