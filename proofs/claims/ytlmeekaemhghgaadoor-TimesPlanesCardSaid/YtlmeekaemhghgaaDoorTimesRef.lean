/- Layer 10 (times): the document's own row, more, ed, Of and Asks: contracts. -/
import Derived.Test.YtlmeekaemhghgaaDoorTimesOf
import Derived.Test.YtlmeekaemhghgaaDoorFlagsLeaf
import Derived.Test.YtlmeekaemhghgaaDoorWhole
import Derived.Deep.DeepCutAuto
namespace Go.Proofs.YtlmeekaemhghgaaDoor
open Go.RowKit
set_option linter.unusedVariables false
set_option linter.unusedSimpArgs false

/-- the document's rows -/
def rowR (k : Int) : List Int := ((rowsT.drop (rowOfT.getD k.toNat 0 * 16).toNat).take 16)
def r10V (k : Int) : Value := .agg ((rowR k).map (Value.int .i64)).toArray
theorem arr16_info : (Tryd.prog.info? 45).map (·.size) = some 16 := by kernel_rfl
theorem row10_0 : r10V 0 = .agg #[.int .i64 4, .int .i64 10, .int .i64 7, .int .i64 6, .int .i64 4, .int .i64 4, .int .i64 7, .int .i64 4, .int .i64 4, .int .i64 11, .int .i64 7, .int .i64 6, .int .i64 4, .int .i64 4, .int .i64 7, .int .i64 4] := by
  unfold r10V
  rw [show rowR 0 = [4, 10, 7, 6, 4, 4, 7, 4, 4, 11, 7, 6, 4, 4, 7, 4] by decide +kernel]
  rfl
set_option maxHeartbeats 4000000 in
theorem rrow_0 (w : World) :
    Calls Tryd.prog 24 #[.int .i64 0] w fun e w' => e = .returned (r10V 0) ∧ Below w.heap.size w w' := by
  rw [row10_0]
  go_enter Tryd.func24, Tryd.ntmps24
  go_upto_region 3 with (first
    | (refine wpList_build rfl _ _ rfl #[.int .i64 4, .int .i64 4, .int .i64 4, .int .i64 4, .int .i64 4, .int .i64 4, .int .i64 7, .int .i64 4, .int .i64 4, .int .i64 4, .int .i64 4, .int .i64 4, .int .i64 4, .int .i64 4, .int .i64 7, .int .i64 4] (by kernel_rfl) ?_)
    | (refine wpList_store_top rfl _ _ _ rfl _ _ _ _ _ rfl rfl (by simp) (Eq.refl 16) arr16_info (by decide) ?_))
  go_wp2_with (first
    | (refine wpList_build rfl _ _ rfl #[.int .i64 4, .int .i64 10, .int .i64 7, .int .i64 6, .int .i64 4, .int .i64 4, .int .i64 7, .int .i64 4, .int .i64 4, .int .i64 11, .int .i64 7, .int .i64 6, .int .i64 4, .int .i64 4, .int .i64 7, .int .i64 4] (by kernel_rfl) ?_)
    | (refine wpList_load_top rfl 45 _ rfl _ _ _ _ rfl (by simp) _ Tryd.underlying45 rfl arr16_info ?_)
    | (refine wpList_store_next rfl _ _ _ rfl _ _ _ _ _ _ rfl rfl rfl (Eq.refl 16) arr16_info (by decide) ?_)
    | (refine wpList_store_top rfl _ _ _ rfl _ _ _ _ _ rfl rfl (by simp) (Eq.refl 16) arr16_info (by decide) ?_))
  refine bodyPost_ret (results_row rfl rfl ((Row.new w _ _).alloc _) _ Tryd.underlying45 rfl arr16_info) rfl ?_
  exact ⟨rfl, (by repeat (first | exact Below.refl _ _ | assumption | refine bstep ?_ (by assumption) | refine Below.drew ?_ | refine Below.alloc ?_ (by first | (simp; done) | (simp; omega) | omega) _ | refine Below.setCell ?_ (by first | (simp; done) | (simp; omega) | omega) _))⟩
theorem row10_1 : r10V 1 = .agg #[.int .i64 8, .int .i64 10, .int .i64 7, .int .i64 6, .int .i64 4, .int .i64 4, .int .i64 7, .int .i64 4, .int .i64 12, .int .i64 11, .int .i64 7, .int .i64 6, .int .i64 4, .int .i64 4, .int .i64 7, .int .i64 4] := by
  unfold r10V
  rw [show rowR 1 = [8, 10, 7, 6, 4, 4, 7, 4, 12, 11, 7, 6, 4, 4, 7, 4] by decide +kernel]
  rfl
set_option maxHeartbeats 4000000 in
theorem rrow_1 (w : World) :
    Calls Tryd.prog 24 #[.int .i64 1] w fun e w' => e = .returned (r10V 1) ∧ Below w.heap.size w w' := by
  rw [row10_1]
  go_enter Tryd.func24, Tryd.ntmps24
  go_upto_region 3 with (first
    | (refine wpList_build rfl _ _ rfl #[.int .i64 4, .int .i64 4, .int .i64 4, .int .i64 4, .int .i64 4, .int .i64 4, .int .i64 7, .int .i64 4, .int .i64 4, .int .i64 4, .int .i64 4, .int .i64 4, .int .i64 4, .int .i64 4, .int .i64 7, .int .i64 4] (by kernel_rfl) ?_)
    | (refine wpList_store_top rfl _ _ _ rfl _ _ _ _ _ rfl rfl (by simp) (Eq.refl 16) arr16_info (by decide) ?_))
  go_wp2_with (first
    | (refine wpList_build rfl _ _ rfl #[.int .i64 8, .int .i64 10, .int .i64 7, .int .i64 6, .int .i64 4, .int .i64 4, .int .i64 7, .int .i64 4, .int .i64 12, .int .i64 11, .int .i64 7, .int .i64 6, .int .i64 4, .int .i64 4, .int .i64 7, .int .i64 4] (by kernel_rfl) ?_)
    | (refine wpList_load_top rfl 45 _ rfl _ _ _ _ rfl (by simp) _ Tryd.underlying45 rfl arr16_info ?_)
    | (refine wpList_store_next rfl _ _ _ rfl _ _ _ _ _ _ rfl rfl rfl (Eq.refl 16) arr16_info (by decide) ?_)
    | (refine wpList_store_top rfl _ _ _ rfl _ _ _ _ _ rfl rfl (by simp) (Eq.refl 16) arr16_info (by decide) ?_))
  refine bodyPost_ret (results_row rfl rfl ((Row.new w _ _).alloc _) _ Tryd.underlying45 rfl arr16_info) rfl ?_
  exact ⟨rfl, (by repeat (first | exact Below.refl _ _ | assumption | refine bstep ?_ (by assumption) | refine Below.drew ?_ | refine Below.alloc ?_ (by first | (simp; done) | (simp; omega) | omega) _ | refine Below.setCell ?_ (by first | (simp; done) | (simp; omega) | omega) _))⟩
theorem row10_2 : r10V 2 = .agg #[.int .i64 7, .int .i64 10, .int .i64 16, .int .i64 6, .int .i64 4, .int .i64 4, .int .i64 7, .int .i64 4, .int .i64 7, .int .i64 11, .int .i64 16, .int .i64 6, .int .i64 4, .int .i64 4, .int .i64 7, .int .i64 4] := by
  unfold r10V
  rw [show rowR 2 = [7, 10, 16, 6, 4, 4, 7, 4, 7, 11, 16, 6, 4, 4, 7, 4] by decide +kernel]
  rfl
set_option maxHeartbeats 4000000 in
theorem rrow_2 (w : World) :
    Calls Tryd.prog 24 #[.int .i64 2] w fun e w' => e = .returned (r10V 2) ∧ Below w.heap.size w w' := by
  rw [row10_2]
  go_enter Tryd.func24, Tryd.ntmps24
  go_upto_region 3 with (first
    | (refine wpList_build rfl _ _ rfl #[.int .i64 4, .int .i64 4, .int .i64 4, .int .i64 4, .int .i64 4, .int .i64 4, .int .i64 7, .int .i64 4, .int .i64 4, .int .i64 4, .int .i64 4, .int .i64 4, .int .i64 4, .int .i64 4, .int .i64 7, .int .i64 4] (by kernel_rfl) ?_)
    | (refine wpList_store_top rfl _ _ _ rfl _ _ _ _ _ rfl rfl (by simp) (Eq.refl 16) arr16_info (by decide) ?_))
  go_wp2_with (first
    | (refine wpList_build rfl _ _ rfl #[.int .i64 7, .int .i64 10, .int .i64 16, .int .i64 6, .int .i64 4, .int .i64 4, .int .i64 7, .int .i64 4, .int .i64 7, .int .i64 11, .int .i64 16, .int .i64 6, .int .i64 4, .int .i64 4, .int .i64 7, .int .i64 4] (by kernel_rfl) ?_)
    | (refine wpList_load_top rfl 45 _ rfl _ _ _ _ rfl (by simp) _ Tryd.underlying45 rfl arr16_info ?_)
    | (refine wpList_store_next rfl _ _ _ rfl _ _ _ _ _ _ rfl rfl rfl (Eq.refl 16) arr16_info (by decide) ?_)
    | (refine wpList_store_top rfl _ _ _ rfl _ _ _ _ _ rfl rfl (by simp) (Eq.refl 16) arr16_info (by decide) ?_))
  refine bodyPost_ret (results_row rfl rfl ((Row.new w _ _).alloc _) _ Tryd.underlying45 rfl arr16_info) rfl ?_
  exact ⟨rfl, (by repeat (first | exact Below.refl _ _ | assumption | refine bstep ?_ (by assumption) | refine Below.drew ?_ | refine Below.alloc ?_ (by first | (simp; done) | (simp; omega) | omega) _ | refine Below.setCell ?_ (by first | (simp; done) | (simp; omega) | omega) _))⟩
theorem row10_3 : r10V 3 = .agg #[.int .i64 7, .int .i64 10, .int .i64 13, .int .i64 6, .int .i64 11, .int .i64 11, .int .i64 10, .int .i64 4, .int .i64 7, .int .i64 11, .int .i64 13, .int .i64 6, .int .i64 4, .int .i64 4, .int .i64 7, .int .i64 4] := by
  unfold r10V
  rw [show rowR 3 = [7, 10, 13, 6, 11, 11, 10, 4, 7, 11, 13, 6, 4, 4, 7, 4] by decide +kernel]
  rfl
set_option maxHeartbeats 4000000 in
theorem rrow_3 (w : World) :
    Calls Tryd.prog 24 #[.int .i64 3] w fun e w' => e = .returned (r10V 3) ∧ Below w.heap.size w w' := by
  rw [row10_3]
  go_enter Tryd.func24, Tryd.ntmps24
  go_upto_region 3 with (first
    | (refine wpList_build rfl _ _ rfl #[.int .i64 4, .int .i64 4, .int .i64 4, .int .i64 4, .int .i64 4, .int .i64 4, .int .i64 7, .int .i64 4, .int .i64 4, .int .i64 4, .int .i64 4, .int .i64 4, .int .i64 4, .int .i64 4, .int .i64 7, .int .i64 4] (by kernel_rfl) ?_)
    | (refine wpList_store_top rfl _ _ _ rfl _ _ _ _ _ rfl rfl (by simp) (Eq.refl 16) arr16_info (by decide) ?_))
  go_wp2_with (first
    | (refine wpList_build rfl _ _ rfl #[.int .i64 7, .int .i64 10, .int .i64 13, .int .i64 6, .int .i64 11, .int .i64 11, .int .i64 10, .int .i64 4, .int .i64 7, .int .i64 11, .int .i64 13, .int .i64 6, .int .i64 4, .int .i64 4, .int .i64 7, .int .i64 4] (by kernel_rfl) ?_)
    | (refine wpList_load_top rfl 45 _ rfl _ _ _ _ rfl (by simp) _ Tryd.underlying45 rfl arr16_info ?_)
    | (refine wpList_store_next rfl _ _ _ rfl _ _ _ _ _ _ rfl rfl rfl (Eq.refl 16) arr16_info (by decide) ?_)
    | (refine wpList_store_top rfl _ _ _ rfl _ _ _ _ _ rfl rfl (by simp) (Eq.refl 16) arr16_info (by decide) ?_))
  refine bodyPost_ret (results_row rfl rfl ((Row.new w _ _).alloc _) _ Tryd.underlying45 rfl arr16_info) rfl ?_
  exact ⟨rfl, (by repeat (first | exact Below.refl _ _ | assumption | refine bstep ?_ (by assumption) | refine Below.drew ?_ | refine Below.alloc ?_ (by first | (simp; done) | (simp; omega) | omega) _ | refine Below.setCell ?_ (by first | (simp; done) | (simp; omega) | omega) _))⟩
theorem row10_4 : r10V 4 = .agg #[.int .i64 4, .int .i64 4, .int .i64 4, .int .i64 4, .int .i64 4, .int .i64 4, .int .i64 7, .int .i64 4, .int .i64 4, .int .i64 4, .int .i64 4, .int .i64 4, .int .i64 4, .int .i64 4, .int .i64 7, .int .i64 4] := by
  unfold r10V
  rw [show rowR 4 = [4, 4, 4, 4, 4, 4, 7, 4, 4, 4, 4, 4, 4, 4, 7, 4] by decide +kernel]
  rfl
set_option maxHeartbeats 4000000 in
theorem rrow_4 (w : World) :
    Calls Tryd.prog 24 #[.int .i64 4] w fun e w' => e = .returned (r10V 4) ∧ Below w.heap.size w w' := by
  rw [row10_4]
  go_enter Tryd.func24, Tryd.ntmps24
  go_upto_region 3 with (first
    | (refine wpList_build rfl _ _ rfl #[.int .i64 4, .int .i64 4, .int .i64 4, .int .i64 4, .int .i64 4, .int .i64 4, .int .i64 7, .int .i64 4, .int .i64 4, .int .i64 4, .int .i64 4, .int .i64 4, .int .i64 4, .int .i64 4, .int .i64 7, .int .i64 4] (by kernel_rfl) ?_)
    | (refine wpList_store_top rfl _ _ _ rfl _ _ _ _ _ rfl rfl (by simp) (Eq.refl 16) arr16_info (by decide) ?_))
  go_wp2_with (first
    | (refine wpList_load_top rfl 45 _ rfl _ _ _ _ rfl (by simp) _ Tryd.underlying45 rfl arr16_info ?_)
    | (refine wpList_store_next rfl _ _ _ rfl _ _ _ _ _ _ rfl rfl rfl (Eq.refl 16) arr16_info (by decide) ?_)
    | (refine wpList_store_top rfl _ _ _ rfl _ _ _ _ _ rfl rfl (by simp) (Eq.refl 16) arr16_info (by decide) ?_))
  refine bodyPost_ret (results_row rfl rfl ((Row.new w _ _).alloc _) _ Tryd.underlying45 rfl arr16_info) rfl ?_
  exact ⟨rfl, (by repeat (first | exact Below.refl _ _ | assumption | refine bstep ?_ (by assumption) | refine Below.drew ?_ | refine Below.alloc ?_ (by first | (simp; done) | (simp; omega) | omega) _ | refine Below.setCell ?_ (by first | (simp; done) | (simp; omega) | omega) _))⟩
theorem row10_5 : r10V 5 = .agg #[.int .i64 4, .int .i64 4, .int .i64 4, .int .i64 4, .int .i64 4, .int .i64 4, .int .i64 7, .int .i64 4, .int .i64 4, .int .i64 4, .int .i64 4, .int .i64 4, .int .i64 4, .int .i64 4, .int .i64 7, .int .i64 4] := by
  unfold r10V
  rw [show rowR 5 = [4, 4, 4, 4, 4, 4, 7, 4, 4, 4, 4, 4, 4, 4, 7, 4] by decide +kernel]
  rfl
set_option maxHeartbeats 4000000 in
theorem rrow_5 (w : World) :
    Calls Tryd.prog 24 #[.int .i64 5] w fun e w' => e = .returned (r10V 5) ∧ Below w.heap.size w w' := by
  rw [row10_5]
  go_enter Tryd.func24, Tryd.ntmps24
  go_upto_region 3 with (first
    | (refine wpList_build rfl _ _ rfl #[.int .i64 4, .int .i64 4, .int .i64 4, .int .i64 4, .int .i64 4, .int .i64 4, .int .i64 7, .int .i64 4, .int .i64 4, .int .i64 4, .int .i64 4, .int .i64 4, .int .i64 4, .int .i64 4, .int .i64 7, .int .i64 4] (by kernel_rfl) ?_)
    | (refine wpList_store_top rfl _ _ _ rfl _ _ _ _ _ rfl rfl (by simp) (Eq.refl 16) arr16_info (by decide) ?_))
  go_wp2_with (first
    | (refine wpList_load_top rfl 45 _ rfl _ _ _ _ rfl (by simp) _ Tryd.underlying45 rfl arr16_info ?_)
    | (refine wpList_store_next rfl _ _ _ rfl _ _ _ _ _ _ rfl rfl rfl (Eq.refl 16) arr16_info (by decide) ?_)
    | (refine wpList_store_top rfl _ _ _ rfl _ _ _ _ _ rfl rfl (by simp) (Eq.refl 16) arr16_info (by decide) ?_))
  refine bodyPost_ret (results_row rfl rfl ((Row.new w _ _).alloc _) _ Tryd.underlying45 rfl arr16_info) rfl ?_
  exact ⟨rfl, (by repeat (first | exact Below.refl _ _ | assumption | refine bstep ?_ (by assumption) | refine Below.drew ?_ | refine Below.alloc ?_ (by first | (simp; done) | (simp; omega) | omega) _ | refine Below.setCell ?_ (by first | (simp; done) | (simp; omega) | omega) _))⟩
theorem row10_6 : r10V 6 = .agg #[.int .i64 4, .int .i64 4, .int .i64 4, .int .i64 4, .int .i64 4, .int .i64 4, .int .i64 7, .int .i64 4, .int .i64 4, .int .i64 4, .int .i64 4, .int .i64 4, .int .i64 4, .int .i64 4, .int .i64 7, .int .i64 4] := by
  unfold r10V
  rw [show rowR 6 = [4, 4, 4, 4, 4, 4, 7, 4, 4, 4, 4, 4, 4, 4, 7, 4] by decide +kernel]
  rfl
set_option maxHeartbeats 4000000 in
theorem rrow_6 (w : World) :
    Calls Tryd.prog 24 #[.int .i64 6] w fun e w' => e = .returned (r10V 6) ∧ Below w.heap.size w w' := by
  rw [row10_6]
  go_enter Tryd.func24, Tryd.ntmps24
  go_upto_region 3 with (first
    | (refine wpList_build rfl _ _ rfl #[.int .i64 4, .int .i64 4, .int .i64 4, .int .i64 4, .int .i64 4, .int .i64 4, .int .i64 7, .int .i64 4, .int .i64 4, .int .i64 4, .int .i64 4, .int .i64 4, .int .i64 4, .int .i64 4, .int .i64 7, .int .i64 4] (by kernel_rfl) ?_)
    | (refine wpList_store_top rfl _ _ _ rfl _ _ _ _ _ rfl rfl (by simp) (Eq.refl 16) arr16_info (by decide) ?_))
  go_wp2_with (first
    | (refine wpList_load_top rfl 45 _ rfl _ _ _ _ rfl (by simp) _ Tryd.underlying45 rfl arr16_info ?_)
    | (refine wpList_store_next rfl _ _ _ rfl _ _ _ _ _ _ rfl rfl rfl (Eq.refl 16) arr16_info (by decide) ?_)
    | (refine wpList_store_top rfl _ _ _ rfl _ _ _ _ _ rfl rfl (by simp) (Eq.refl 16) arr16_info (by decide) ?_))
  refine bodyPost_ret (results_row rfl rfl ((Row.new w _ _).alloc _) _ Tryd.underlying45 rfl arr16_info) rfl ?_
  exact ⟨rfl, (by repeat (first | exact Below.refl _ _ | assumption | refine bstep ?_ (by assumption) | refine Below.drew ?_ | refine Below.alloc ?_ (by first | (simp; done) | (simp; omega) | omega) _ | refine Below.setCell ?_ (by first | (simp; done) | (simp; omega) | omega) _))⟩
theorem row10_7 : r10V 7 = .agg #[.int .i64 7, .int .i64 7, .int .i64 7, .int .i64 7, .int .i64 7, .int .i64 7, .int .i64 4, .int .i64 7, .int .i64 4, .int .i64 4, .int .i64 4, .int .i64 4, .int .i64 4, .int .i64 4, .int .i64 7, .int .i64 4] := by
  unfold r10V
  rw [show rowR 7 = [7, 7, 7, 7, 7, 7, 4, 7, 4, 4, 4, 4, 4, 4, 7, 4] by decide +kernel]
  rfl
set_option maxHeartbeats 4000000 in
theorem rrow_7 (w : World) :
    Calls Tryd.prog 24 #[.int .i64 7] w fun e w' => e = .returned (r10V 7) ∧ Below w.heap.size w w' := by
  rw [row10_7]
  go_enter Tryd.func24, Tryd.ntmps24
  go_upto_region 3 with (first
    | (refine wpList_build rfl _ _ rfl #[.int .i64 4, .int .i64 4, .int .i64 4, .int .i64 4, .int .i64 4, .int .i64 4, .int .i64 7, .int .i64 4, .int .i64 4, .int .i64 4, .int .i64 4, .int .i64 4, .int .i64 4, .int .i64 4, .int .i64 7, .int .i64 4] (by kernel_rfl) ?_)
    | (refine wpList_store_top rfl _ _ _ rfl _ _ _ _ _ rfl rfl (by simp) (Eq.refl 16) arr16_info (by decide) ?_))
  go_wp2_with (first
    | (refine wpList_build rfl _ _ rfl #[.int .i64 7, .int .i64 7, .int .i64 7, .int .i64 7, .int .i64 7, .int .i64 7, .int .i64 4, .int .i64 7, .int .i64 4, .int .i64 4, .int .i64 4, .int .i64 4, .int .i64 4, .int .i64 4, .int .i64 7, .int .i64 4] (by kernel_rfl) ?_)
    | (refine wpList_load_top rfl 45 _ rfl _ _ _ _ rfl (by simp) _ Tryd.underlying45 rfl arr16_info ?_)
    | (refine wpList_store_next rfl _ _ _ rfl _ _ _ _ _ _ rfl rfl rfl (Eq.refl 16) arr16_info (by decide) ?_)
    | (refine wpList_store_top rfl _ _ _ rfl _ _ _ _ _ rfl rfl (by simp) (Eq.refl 16) arr16_info (by decide) ?_))
  refine bodyPost_ret (results_row rfl rfl ((Row.new w _ _).alloc _) _ Tryd.underlying45 rfl arr16_info) rfl ?_
  exact ⟨rfl, (by repeat (first | exact Below.refl _ _ | assumption | refine bstep ?_ (by assumption) | refine Below.drew ?_ | refine Below.alloc ?_ (by first | (simp; done) | (simp; omega) | omega) _ | refine Below.setCell ?_ (by first | (simp; done) | (simp; omega) | omega) _))⟩
theorem row10_8 : r10V 8 = .agg #[.int .i64 4, .int .i64 4, .int .i64 4, .int .i64 4, .int .i64 4, .int .i64 4, .int .i64 7, .int .i64 4, .int .i64 4, .int .i64 4, .int .i64 4, .int .i64 4, .int .i64 4, .int .i64 4, .int .i64 7, .int .i64 4] := by
  unfold r10V
  rw [show rowR 8 = [4, 4, 4, 4, 4, 4, 7, 4, 4, 4, 4, 4, 4, 4, 7, 4] by decide +kernel]
  rfl
set_option maxHeartbeats 4000000 in
theorem rrow_8 (w : World) :
    Calls Tryd.prog 24 #[.int .i64 8] w fun e w' => e = .returned (r10V 8) ∧ Below w.heap.size w w' := by
  rw [row10_8]
  go_enter Tryd.func24, Tryd.ntmps24
  go_upto_region 3 with (first
    | (refine wpList_build rfl _ _ rfl #[.int .i64 4, .int .i64 4, .int .i64 4, .int .i64 4, .int .i64 4, .int .i64 4, .int .i64 7, .int .i64 4, .int .i64 4, .int .i64 4, .int .i64 4, .int .i64 4, .int .i64 4, .int .i64 4, .int .i64 7, .int .i64 4] (by kernel_rfl) ?_)
    | (refine wpList_store_top rfl _ _ _ rfl _ _ _ _ _ rfl rfl (by simp) (Eq.refl 16) arr16_info (by decide) ?_))
  go_wp2_with (first
    | (refine wpList_load_top rfl 45 _ rfl _ _ _ _ rfl (by simp) _ Tryd.underlying45 rfl arr16_info ?_)
    | (refine wpList_store_next rfl _ _ _ rfl _ _ _ _ _ _ rfl rfl rfl (Eq.refl 16) arr16_info (by decide) ?_)
    | (refine wpList_store_top rfl _ _ _ rfl _ _ _ _ _ rfl rfl (by simp) (Eq.refl 16) arr16_info (by decide) ?_))
  refine bodyPost_ret (results_row rfl rfl ((Row.new w _ _).alloc _) _ Tryd.underlying45 rfl arr16_info) rfl ?_
  exact ⟨rfl, (by repeat (first | exact Below.refl _ _ | assumption | refine bstep ?_ (by assumption) | refine Below.drew ?_ | refine Below.alloc ?_ (by first | (simp; done) | (simp; omega) | omega) _ | refine Below.setCell ?_ (by first | (simp; done) | (simp; omega) | omega) _))⟩
theorem row10_9 : r10V 9 = .agg #[.int .i64 4, .int .i64 4, .int .i64 4, .int .i64 4, .int .i64 4, .int .i64 4, .int .i64 7, .int .i64 4, .int .i64 4, .int .i64 4, .int .i64 4, .int .i64 4, .int .i64 4, .int .i64 4, .int .i64 7, .int .i64 4] := by
  unfold r10V
  rw [show rowR 9 = [4, 4, 4, 4, 4, 4, 7, 4, 4, 4, 4, 4, 4, 4, 7, 4] by decide +kernel]
  rfl
set_option maxHeartbeats 4000000 in
theorem rrow_9 (w : World) :
    Calls Tryd.prog 24 #[.int .i64 9] w fun e w' => e = .returned (r10V 9) ∧ Below w.heap.size w w' := by
  rw [row10_9]
  go_enter Tryd.func24, Tryd.ntmps24
  go_upto_region 3 with (first
    | (refine wpList_build rfl _ _ rfl #[.int .i64 4, .int .i64 4, .int .i64 4, .int .i64 4, .int .i64 4, .int .i64 4, .int .i64 7, .int .i64 4, .int .i64 4, .int .i64 4, .int .i64 4, .int .i64 4, .int .i64 4, .int .i64 4, .int .i64 7, .int .i64 4] (by kernel_rfl) ?_)
    | (refine wpList_store_top rfl _ _ _ rfl _ _ _ _ _ rfl rfl (by simp) (Eq.refl 16) arr16_info (by decide) ?_))
  go_wp2_with (first
    | (refine wpList_load_top rfl 45 _ rfl _ _ _ _ rfl (by simp) _ Tryd.underlying45 rfl arr16_info ?_)
    | (refine wpList_store_next rfl _ _ _ rfl _ _ _ _ _ _ rfl rfl rfl (Eq.refl 16) arr16_info (by decide) ?_)
    | (refine wpList_store_top rfl _ _ _ rfl _ _ _ _ _ rfl rfl (by simp) (Eq.refl 16) arr16_info (by decide) ?_))
  refine bodyPost_ret (results_row rfl rfl ((Row.new w _ _).alloc _) _ Tryd.underlying45 rfl arr16_info) rfl ?_
  exact ⟨rfl, (by repeat (first | exact Below.refl _ _ | assumption | refine bstep ?_ (by assumption) | refine Below.drew ?_ | refine Below.alloc ?_ (by first | (simp; done) | (simp; omega) | omega) _ | refine Below.setCell ?_ (by first | (simp; done) | (simp; omega) | omega) _))⟩
theorem row10_10 : r10V 10 = .agg #[.int .i64 4, .int .i64 4, .int .i64 4, .int .i64 4, .int .i64 4, .int .i64 4, .int .i64 7, .int .i64 4, .int .i64 4, .int .i64 4, .int .i64 4, .int .i64 4, .int .i64 4, .int .i64 4, .int .i64 7, .int .i64 4] := by
  unfold r10V
  rw [show rowR 10 = [4, 4, 4, 4, 4, 4, 7, 4, 4, 4, 4, 4, 4, 4, 7, 4] by decide +kernel]
  rfl
set_option maxHeartbeats 4000000 in
theorem rrow_10 (w : World) :
    Calls Tryd.prog 24 #[.int .i64 10] w fun e w' => e = .returned (r10V 10) ∧ Below w.heap.size w w' := by
  rw [row10_10]
  go_enter Tryd.func24, Tryd.ntmps24
  go_upto_region 3 with (first
    | (refine wpList_build rfl _ _ rfl #[.int .i64 4, .int .i64 4, .int .i64 4, .int .i64 4, .int .i64 4, .int .i64 4, .int .i64 7, .int .i64 4, .int .i64 4, .int .i64 4, .int .i64 4, .int .i64 4, .int .i64 4, .int .i64 4, .int .i64 7, .int .i64 4] (by kernel_rfl) ?_)
    | (refine wpList_store_top rfl _ _ _ rfl _ _ _ _ _ rfl rfl (by simp) (Eq.refl 16) arr16_info (by decide) ?_))
  go_wp2_with (first
    | (refine wpList_load_top rfl 45 _ rfl _ _ _ _ rfl (by simp) _ Tryd.underlying45 rfl arr16_info ?_)
    | (refine wpList_store_next rfl _ _ _ rfl _ _ _ _ _ _ rfl rfl rfl (Eq.refl 16) arr16_info (by decide) ?_)
    | (refine wpList_store_top rfl _ _ _ rfl _ _ _ _ _ rfl rfl (by simp) (Eq.refl 16) arr16_info (by decide) ?_))
  refine bodyPost_ret (results_row rfl rfl ((Row.new w _ _).alloc _) _ Tryd.underlying45 rfl arr16_info) rfl ?_
  exact ⟨rfl, (by repeat (first | exact Below.refl _ _ | assumption | refine bstep ?_ (by assumption) | refine Below.drew ?_ | refine Below.alloc ?_ (by first | (simp; done) | (simp; omega) | omega) _ | refine Below.setCell ?_ (by first | (simp; done) | (simp; omega) | omega) _))⟩
theorem row10_11 : r10V 11 = .agg #[.int .i64 4, .int .i64 4, .int .i64 4, .int .i64 4, .int .i64 4, .int .i64 4, .int .i64 7, .int .i64 4, .int .i64 4, .int .i64 4, .int .i64 4, .int .i64 4, .int .i64 4, .int .i64 4, .int .i64 7, .int .i64 4] := by
  unfold r10V
  rw [show rowR 11 = [4, 4, 4, 4, 4, 4, 7, 4, 4, 4, 4, 4, 4, 4, 7, 4] by decide +kernel]
  rfl
set_option maxHeartbeats 4000000 in
theorem rrow_11 (w : World) :
    Calls Tryd.prog 24 #[.int .i64 11] w fun e w' => e = .returned (r10V 11) ∧ Below w.heap.size w w' := by
  rw [row10_11]
  go_enter Tryd.func24, Tryd.ntmps24
  go_upto_region 3 with (first
    | (refine wpList_build rfl _ _ rfl #[.int .i64 4, .int .i64 4, .int .i64 4, .int .i64 4, .int .i64 4, .int .i64 4, .int .i64 7, .int .i64 4, .int .i64 4, .int .i64 4, .int .i64 4, .int .i64 4, .int .i64 4, .int .i64 4, .int .i64 7, .int .i64 4] (by kernel_rfl) ?_)
    | (refine wpList_store_top rfl _ _ _ rfl _ _ _ _ _ rfl rfl (by simp) (Eq.refl 16) arr16_info (by decide) ?_))
  go_wp2_with (first
    | (refine wpList_load_top rfl 45 _ rfl _ _ _ _ rfl (by simp) _ Tryd.underlying45 rfl arr16_info ?_)
    | (refine wpList_store_next rfl _ _ _ rfl _ _ _ _ _ _ rfl rfl rfl (Eq.refl 16) arr16_info (by decide) ?_)
    | (refine wpList_store_top rfl _ _ _ rfl _ _ _ _ _ rfl rfl (by simp) (Eq.refl 16) arr16_info (by decide) ?_))
  refine bodyPost_ret (results_row rfl rfl ((Row.new w _ _).alloc _) _ Tryd.underlying45 rfl arr16_info) rfl ?_
  exact ⟨rfl, (by repeat (first | exact Below.refl _ _ | assumption | refine bstep ?_ (by assumption) | refine Below.drew ?_ | refine Below.alloc ?_ (by first | (simp; done) | (simp; omega) | omega) _ | refine Below.setCell ?_ (by first | (simp; done) | (simp; omega) | omega) _))⟩
theorem row10_12 : r10V 12 = .agg #[.int .i64 5, .int .i64 10, .int .i64 10, .int .i64 10, .int .i64 10, .int .i64 11, .int .i64 7, .int .i64 11, .int .i64 5, .int .i64 10, .int .i64 10, .int .i64 4, .int .i64 10, .int .i64 17, .int .i64 7, .int .i64 11] := by
  unfold r10V
  rw [show rowR 12 = [5, 10, 10, 10, 10, 11, 7, 11, 5, 10, 10, 4, 10, 17, 7, 11] by decide +kernel]
  rfl
set_option maxHeartbeats 4000000 in
theorem rrow_12 (w : World) :
    Calls Tryd.prog 24 #[.int .i64 12] w fun e w' => e = .returned (r10V 12) ∧ Below w.heap.size w w' := by
  rw [row10_12]
  go_enter Tryd.func24, Tryd.ntmps24
  go_upto_region 3 with (first
    | (refine wpList_build rfl _ _ rfl #[.int .i64 4, .int .i64 4, .int .i64 4, .int .i64 4, .int .i64 4, .int .i64 4, .int .i64 7, .int .i64 4, .int .i64 4, .int .i64 4, .int .i64 4, .int .i64 4, .int .i64 4, .int .i64 4, .int .i64 7, .int .i64 4] (by kernel_rfl) ?_)
    | (refine wpList_store_top rfl _ _ _ rfl _ _ _ _ _ rfl rfl (by simp) (Eq.refl 16) arr16_info (by decide) ?_))
  go_wp2_with (first
    | (refine wpList_build rfl _ _ rfl #[.int .i64 5, .int .i64 10, .int .i64 10, .int .i64 10, .int .i64 10, .int .i64 11, .int .i64 7, .int .i64 11, .int .i64 5, .int .i64 10, .int .i64 10, .int .i64 4, .int .i64 10, .int .i64 17, .int .i64 7, .int .i64 11] (by kernel_rfl) ?_)
    | (refine wpList_load_top rfl 45 _ rfl _ _ _ _ rfl (by simp) _ Tryd.underlying45 rfl arr16_info ?_)
    | (refine wpList_store_next rfl _ _ _ rfl _ _ _ _ _ _ rfl rfl rfl (Eq.refl 16) arr16_info (by decide) ?_)
    | (refine wpList_store_top rfl _ _ _ rfl _ _ _ _ _ rfl rfl (by simp) (Eq.refl 16) arr16_info (by decide) ?_))
  refine bodyPost_ret (results_row rfl rfl ((Row.new w _ _).alloc _) _ Tryd.underlying45 rfl arr16_info) rfl ?_
  exact ⟨rfl, (by repeat (first | exact Below.refl _ _ | assumption | refine bstep ?_ (by assumption) | refine Below.drew ?_ | refine Below.alloc ?_ (by first | (simp; done) | (simp; omega) | omega) _ | refine Below.setCell ?_ (by first | (simp; done) | (simp; omega) | omega) _))⟩
theorem row10_13 : r10V 13 = .agg #[.int .i64 5, .int .i64 10, .int .i64 10, .int .i64 11, .int .i64 10, .int .i64 11, .int .i64 7, .int .i64 11, .int .i64 5, .int .i64 4, .int .i64 10, .int .i64 11, .int .i64 10, .int .i64 4, .int .i64 7, .int .i64 11] := by
  unfold r10V
  rw [show rowR 13 = [5, 10, 10, 11, 10, 11, 7, 11, 5, 4, 10, 11, 10, 4, 7, 11] by decide +kernel]
  rfl
set_option maxHeartbeats 4000000 in
theorem rrow_13 (w : World) :
    Calls Tryd.prog 24 #[.int .i64 13] w fun e w' => e = .returned (r10V 13) ∧ Below w.heap.size w w' := by
  rw [row10_13]
  go_enter Tryd.func24, Tryd.ntmps24
  go_upto_region 3 with (first
    | (refine wpList_build rfl _ _ rfl #[.int .i64 4, .int .i64 4, .int .i64 4, .int .i64 4, .int .i64 4, .int .i64 4, .int .i64 7, .int .i64 4, .int .i64 4, .int .i64 4, .int .i64 4, .int .i64 4, .int .i64 4, .int .i64 4, .int .i64 7, .int .i64 4] (by kernel_rfl) ?_)
    | (refine wpList_store_top rfl _ _ _ rfl _ _ _ _ _ rfl rfl (by simp) (Eq.refl 16) arr16_info (by decide) ?_))
  go_wp2_with (first
    | (refine wpList_build rfl _ _ rfl #[.int .i64 5, .int .i64 10, .int .i64 10, .int .i64 11, .int .i64 10, .int .i64 11, .int .i64 7, .int .i64 11, .int .i64 5, .int .i64 4, .int .i64 10, .int .i64 11, .int .i64 10, .int .i64 4, .int .i64 7, .int .i64 11] (by kernel_rfl) ?_)
    | (refine wpList_load_top rfl 45 _ rfl _ _ _ _ rfl (by simp) _ Tryd.underlying45 rfl arr16_info ?_)
    | (refine wpList_store_next rfl _ _ _ rfl _ _ _ _ _ _ rfl rfl rfl (Eq.refl 16) arr16_info (by decide) ?_)
    | (refine wpList_store_top rfl _ _ _ rfl _ _ _ _ _ rfl rfl (by simp) (Eq.refl 16) arr16_info (by decide) ?_))
  refine bodyPost_ret (results_row rfl rfl ((Row.new w _ _).alloc _) _ Tryd.underlying45 rfl arr16_info) rfl ?_
  exact ⟨rfl, (by repeat (first | exact Below.refl _ _ | assumption | refine bstep ?_ (by assumption) | refine Below.drew ?_ | refine Below.alloc ?_ (by first | (simp; done) | (simp; omega) | omega) _ | refine Below.setCell ?_ (by first | (simp; done) | (simp; omega) | omega) _))⟩
theorem row10_14 : r10V 14 = .agg #[.int .i64 5, .int .i64 10, .int .i64 10, .int .i64 19, .int .i64 10, .int .i64 11, .int .i64 7, .int .i64 11, .int .i64 5, .int .i64 4, .int .i64 10, .int .i64 4, .int .i64 10, .int .i64 4, .int .i64 7, .int .i64 11] := by
  unfold r10V
  rw [show rowR 14 = [5, 10, 10, 19, 10, 11, 7, 11, 5, 4, 10, 4, 10, 4, 7, 11] by decide +kernel]
  rfl
set_option maxHeartbeats 4000000 in
theorem rrow_14 (w : World) :
    Calls Tryd.prog 24 #[.int .i64 14] w fun e w' => e = .returned (r10V 14) ∧ Below w.heap.size w w' := by
  rw [row10_14]
  go_enter Tryd.func24, Tryd.ntmps24
  go_upto_region 3 with (first
    | (refine wpList_build rfl _ _ rfl #[.int .i64 4, .int .i64 4, .int .i64 4, .int .i64 4, .int .i64 4, .int .i64 4, .int .i64 7, .int .i64 4, .int .i64 4, .int .i64 4, .int .i64 4, .int .i64 4, .int .i64 4, .int .i64 4, .int .i64 7, .int .i64 4] (by kernel_rfl) ?_)
    | (refine wpList_store_top rfl _ _ _ rfl _ _ _ _ _ rfl rfl (by simp) (Eq.refl 16) arr16_info (by decide) ?_))
  go_wp2_with (first
    | (refine wpList_build rfl _ _ rfl #[.int .i64 5, .int .i64 10, .int .i64 10, .int .i64 19, .int .i64 10, .int .i64 11, .int .i64 7, .int .i64 11, .int .i64 5, .int .i64 4, .int .i64 10, .int .i64 4, .int .i64 10, .int .i64 4, .int .i64 7, .int .i64 11] (by kernel_rfl) ?_)
    | (refine wpList_load_top rfl 45 _ rfl _ _ _ _ rfl (by simp) _ Tryd.underlying45 rfl arr16_info ?_)
    | (refine wpList_store_next rfl _ _ _ rfl _ _ _ _ _ _ rfl rfl rfl (Eq.refl 16) arr16_info (by decide) ?_)
    | (refine wpList_store_top rfl _ _ _ rfl _ _ _ _ _ rfl rfl (by simp) (Eq.refl 16) arr16_info (by decide) ?_))
  refine bodyPost_ret (results_row rfl rfl ((Row.new w _ _).alloc _) _ Tryd.underlying45 rfl arr16_info) rfl ?_
  exact ⟨rfl, (by repeat (first | exact Below.refl _ _ | assumption | refine bstep ?_ (by assumption) | refine Below.drew ?_ | refine Below.alloc ?_ (by first | (simp; done) | (simp; omega) | omega) _ | refine Below.setCell ?_ (by first | (simp; done) | (simp; omega) | omega) _))⟩
theorem row10_15 : r10V 15 = .agg #[.int .i64 5, .int .i64 10, .int .i64 10, .int .i64 4, .int .i64 10, .int .i64 11, .int .i64 7, .int .i64 11, .int .i64 5, .int .i64 6, .int .i64 10, .int .i64 4, .int .i64 10, .int .i64 4, .int .i64 7, .int .i64 11] := by
  unfold r10V
  rw [show rowR 15 = [5, 10, 10, 4, 10, 11, 7, 11, 5, 6, 10, 4, 10, 4, 7, 11] by decide +kernel]
  rfl
set_option maxHeartbeats 4000000 in
theorem rrow_15 (w : World) :
    Calls Tryd.prog 24 #[.int .i64 15] w fun e w' => e = .returned (r10V 15) ∧ Below w.heap.size w w' := by
  rw [row10_15]
  go_enter Tryd.func24, Tryd.ntmps24
  go_upto_region 3 with (first
    | (refine wpList_build rfl _ _ rfl #[.int .i64 4, .int .i64 4, .int .i64 4, .int .i64 4, .int .i64 4, .int .i64 4, .int .i64 7, .int .i64 4, .int .i64 4, .int .i64 4, .int .i64 4, .int .i64 4, .int .i64 4, .int .i64 4, .int .i64 7, .int .i64 4] (by kernel_rfl) ?_)
    | (refine wpList_store_top rfl _ _ _ rfl _ _ _ _ _ rfl rfl (by simp) (Eq.refl 16) arr16_info (by decide) ?_))
  go_wp2_with (first
    | (refine wpList_build rfl _ _ rfl #[.int .i64 5, .int .i64 10, .int .i64 10, .int .i64 4, .int .i64 10, .int .i64 11, .int .i64 7, .int .i64 11, .int .i64 5, .int .i64 6, .int .i64 10, .int .i64 4, .int .i64 10, .int .i64 4, .int .i64 7, .int .i64 11] (by kernel_rfl) ?_)
    | (refine wpList_load_top rfl 45 _ rfl _ _ _ _ rfl (by simp) _ Tryd.underlying45 rfl arr16_info ?_)
    | (refine wpList_store_next rfl _ _ _ rfl _ _ _ _ _ _ rfl rfl rfl (Eq.refl 16) arr16_info (by decide) ?_)
    | (refine wpList_store_top rfl _ _ _ rfl _ _ _ _ _ rfl rfl (by simp) (Eq.refl 16) arr16_info (by decide) ?_))
  refine bodyPost_ret (results_row rfl rfl ((Row.new w _ _).alloc _) _ Tryd.underlying45 rfl arr16_info) rfl ?_
  exact ⟨rfl, (by repeat (first | exact Below.refl _ _ | assumption | refine bstep ?_ (by assumption) | refine Below.drew ?_ | refine Below.alloc ?_ (by first | (simp; done) | (simp; omega) | omega) _ | refine Below.setCell ?_ (by first | (simp; done) | (simp; omega) | omega) _))⟩
theorem rrow_any (k : Int) (hk : 0 ≤ k ∧ k ≤ 15) (w : World) :
    Calls Tryd.prog 24 #[.int .i64 k] w fun e w' => e = .returned (r10V k) ∧ Below w.heap.size w w' := by
  obtain rfl | rfl | rfl | rfl | rfl | rfl | rfl | rfl | rfl | rfl | rfl | rfl | rfl | rfl | rfl | rfl : k = 0 ∨ k = 1 ∨ k = 2 ∨ k = 3 ∨ k = 4 ∨ k = 5 ∨ k = 6 ∨ k = 7 ∨ k = 8 ∨ k = 9 ∨ k = 10 ∨ k = 11 ∨ k = 12 ∨ k = 13 ∨ k = 14 ∨ k = 15 := by omega
  · exact rrow_0 w
  · exact rrow_1 w
  · exact rrow_2 w
  · exact rrow_3 w
  · exact rrow_4 w
  · exact rrow_5 w
  · exact rrow_6 w
  · exact rrow_7 w
  · exact rrow_8 w
  · exact rrow_9 w
  · exact rrow_10 w
  · exact rrow_11 w
  · exact rrow_12 w
  · exact rrow_13 w
  · exact rrow_14 w
  · exact rrow_15 w
theorem row10_fin : ∀ c : Fin 256, (rowR ((c.val : Int) / 16))[((c.val : Int) % 16).toNat]? = some (unheldM (c.val : Int)) := by decide +kernel
/-- a number of the table -/
theorem ix10 (c : Int) (hc : B8 c) (w : World) : (Instr.index 45 (r10V (c / 16)) (.int .i64 (c % 16))).run Tryd.prog w = .ok (.int .i64 (unheldM c)) w := by
  have h := byte_all (P := fun c => (rowR (c / 16))[(c % 16).toNat]? = some (unheldM c)) row10_fin c hc.1 hc.2
  unfold r10V
  refine run_index_arr Tryd.underlying45 (by kernel_rfl) (by kernel_rfl) ⟨by omega, by omega⟩ ?_
  simp only [List.getElem?_toArray, List.getElem?_map]
  rw [h]
  rfl
end Go.Proofs.YtlmeekaemhghgaaDoor
