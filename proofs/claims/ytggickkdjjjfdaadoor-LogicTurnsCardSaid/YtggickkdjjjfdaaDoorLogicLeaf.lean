/- Layer 5 (logic): contracts of merge, And, Or, Xor, keep, Cpl, Scf, Ccf. -/
import Derived.Test.YtggickkdjjjfdaaDoorLogicMath
import Derived.Test.YtggickkdjjjfdaaDoorSumAdd
import Derived.Deep.RegionHeld3
import Derived.Laws.EntriesVeiled
namespace Go.Proofs.YtggickkdjjjfdaaDoor
open Go.RowKit
set_option linter.unusedVariables false
set_option linter.unusedSimpArgs false

set_option maxHeartbeats 400000 in
theorem opAnd_any (x y : Bool) (w : World) :
    Calls Tryd.prog 25 #[.bool x, .bool y] w fun e w' => e = .returned (.bool (andB x y)) ∧ w = w' := by
  cases x
  all_goals
    go_enter Tryd.func25, Tryd.ntmps25
    go_wp2
    go_ret
    exact ⟨rfl, rfl⟩
set_option maxHeartbeats 400000 in
theorem opOr_any (x y : Bool) (w : World) :
    Calls Tryd.prog 30 #[.bool x, .bool y] w fun e w' => e = .returned (.bool (orB x y)) ∧ w = w' := by
  cases x
  all_goals
    go_enter Tryd.func30, Tryd.ntmps30
    go_wp2
    go_ret
    exact ⟨rfl, rfl⟩
set_option maxHeartbeats 400000 in
theorem opXor_any (x y : Bool) (w : World) :
    Calls Tryd.prog 31 #[.bool x, .bool y] w fun e w' => e = .returned (.bool (xorB x y)) ∧ w = w' := by
  go_enter Tryd.func31, Tryd.ntmps31
  go_wp2
  go_ret
  exact ⟨rfl, rfl⟩
set_option maxHeartbeats 4000000 in
theorem mergeAnd_any (a b : Int) (ha : B8 a) (hB : B8 b) (w : World) :
    Calls Tryd.prog 24 #[.int .u8 a, .int .u8 b, .func (.func 25) #[] #[]] w fun e w' => e = .returned (.int .u8 (andR a b)) ∧ Below w.heap.size w w' := by
  go_enter Tryd.func24, Tryd.ntmps24
  go_wp2
  refine wp_loop_rounds 9 ?_
  iterate 9 (rw [rounds_succ]; go_wp2_with (first
    | (go_at_call 43; refine (is_any _ _ (B8.lo (by assumption)) (B8.hi (by assumption)) _).mono ?_; rintro e w' ⟨rfl, rfl⟩)
    | (go_at_call 25; refine (opAnd_any _ _ _).mono ?_; rintro e w' ⟨rfl, rfl⟩)
    | (go_at_call 42; refine (with_any _ _ _ (B8.lo (by repeat (first | exact B8.zero | apply B8.with))) (B8.hi (by repeat (first | exact B8.zero | apply B8.with))) _).mono ?_; rintro e w' ⟨rfl, rfl⟩)))
  go_ret
  exact ⟨ret_int (up_mk _ _ _ _ _ _ _ _), (by repeat (first | exact Below.refl _ _ | assumption | refine bstep ?_ (by assumption) | refine Below.drew ?_ | refine Below.alloc ?_ (by first | (simp; done) | (simp; omega) | omega) _ | refine Below.setCell ?_ (by first | (simp; done) | (simp; omega) | omega) _))⟩
set_option maxHeartbeats 4000000 in
theorem mergeOr_any (a b : Int) (ha : B8 a) (hB : B8 b) (w : World) :
    Calls Tryd.prog 24 #[.int .u8 a, .int .u8 b, .func (.func 30) #[] #[]] w fun e w' => e = .returned (.int .u8 (orR a b)) ∧ Below w.heap.size w w' := by
  go_enter Tryd.func24, Tryd.ntmps24
  go_wp2
  refine wp_loop_rounds 9 ?_
  iterate 9 (rw [rounds_succ]; go_wp2_with (first
    | (go_at_call 43; refine (is_any _ _ (B8.lo (by assumption)) (B8.hi (by assumption)) _).mono ?_; rintro e w' ⟨rfl, rfl⟩)
    | (go_at_call 30; refine (opOr_any _ _ _).mono ?_; rintro e w' ⟨rfl, rfl⟩)
    | (go_at_call 42; refine (with_any _ _ _ (B8.lo (by repeat (first | exact B8.zero | apply B8.with))) (B8.hi (by repeat (first | exact B8.zero | apply B8.with))) _).mono ?_; rintro e w' ⟨rfl, rfl⟩)))
  go_ret
  exact ⟨ret_int (up_mk _ _ _ _ _ _ _ _), (by repeat (first | exact Below.refl _ _ | assumption | refine bstep ?_ (by assumption) | refine Below.drew ?_ | refine Below.alloc ?_ (by first | (simp; done) | (simp; omega) | omega) _ | refine Below.setCell ?_ (by first | (simp; done) | (simp; omega) | omega) _))⟩
set_option maxHeartbeats 4000000 in
theorem mergeXor_any (a b : Int) (ha : B8 a) (hB : B8 b) (w : World) :
    Calls Tryd.prog 24 #[.int .u8 a, .int .u8 b, .func (.func 31) #[] #[]] w fun e w' => e = .returned (.int .u8 (xorR a b)) ∧ Below w.heap.size w w' := by
  go_enter Tryd.func24, Tryd.ntmps24
  go_wp2
  refine wp_loop_rounds 9 ?_
  iterate 9 (rw [rounds_succ]; go_wp2_with (first
    | (go_at_call 43; refine (is_any _ _ (B8.lo (by assumption)) (B8.hi (by assumption)) _).mono ?_; rintro e w' ⟨rfl, rfl⟩)
    | (go_at_call 31; refine (opXor_any _ _ _).mono ?_; rintro e w' ⟨rfl, rfl⟩)
    | (go_at_call 42; refine (with_any _ _ _ (B8.lo (by repeat (first | exact B8.zero | apply B8.with))) (B8.hi (by repeat (first | exact B8.zero | apply B8.with))) _).mono ?_; rintro e w' ⟨rfl, rfl⟩)))
  go_ret
  exact ⟨ret_int (up_mk _ _ _ _ _ _ _ _), (by repeat (first | exact Below.refl _ _ | assumption | refine bstep ?_ (by assumption) | refine Below.drew ?_ | refine Below.alloc ?_ (by first | (simp; done) | (simp; omega) | omega) _ | refine Below.setCell ?_ (by first | (simp; done) | (simp; omega) | omega) _))⟩
set_option maxHeartbeats 4000000 in
theorem and_any (a b : Int) (ha : B8 a) (hB : B8 b) (w : World) :
    Calls Tryd.prog 8 #[.int .u8 a, .int .u8 b] w fun e w' => e = .returned (two (andR a b) (andFl (andR a b))) ∧ Below w.heap.size w w' := by
  have hr : B8 (andR a b) := mergeM_byte ..
  have hm := Lib.hid (andFl_all _ hr)
  go_enter Tryd.func8, Tryd.ntmps8
  go_wp2_with (first
    | (go_at_call 24; refine (mergeAnd_any _ _ (by assumption) (by assumption) _).mono ?_; rintro e w' ⟨rfl, hb⟩; have hsz := hb.size)
    | (go_at_call 26; refine (evenF_any _ (B8.lo (by assumption)) (B8.hi (by assumption)) _).mono ?_; rintro e w' ⟨rfl, hb⟩; have hsz := hb.size))
  go_ret2
  exact ⟨by rw [hm.out]; rfl, (by repeat (first | exact Below.refl _ _ | assumption | refine bstep ?_ (by assumption) | refine Below.drew ?_ | refine Below.alloc ?_ (by first | (simp; done) | (simp; omega) | omega) _ | refine Below.setCell ?_ (by first | (simp; done) | (simp; omega) | omega) _))⟩
set_option maxHeartbeats 4000000 in
theorem or_any (a b : Int) (ha : B8 a) (hB : B8 b) (w : World) :
    Calls Tryd.prog 10 #[.int .u8 a, .int .u8 b] w fun e w' => e = .returned (two (orR a b) (evenFM (orR a b))) ∧ Below w.heap.size w w' := by
  have hr : B8 (orR a b) := mergeM_byte ..
  go_enter Tryd.func10, Tryd.ntmps10
  go_wp2_with (first
    | (go_at_call 24; refine (mergeOr_any _ _ (by assumption) (by assumption) _).mono ?_; rintro e w' ⟨rfl, hb⟩; have hsz := hb.size)
    | (go_at_call 26; refine (evenF_any _ (B8.lo (by assumption)) (B8.hi (by assumption)) _).mono ?_; rintro e w' ⟨rfl, hb⟩; have hsz := hb.size))
  go_ret2
  exact ⟨rfl, (by repeat (first | exact Below.refl _ _ | assumption | refine bstep ?_ (by assumption) | refine Below.drew ?_ | refine Below.alloc ?_ (by first | (simp; done) | (simp; omega) | omega) _ | refine Below.setCell ?_ (by first | (simp; done) | (simp; omega) | omega) _))⟩
set_option maxHeartbeats 4000000 in
theorem xor_any (a b : Int) (ha : B8 a) (hB : B8 b) (w : World) :
    Calls Tryd.prog 12 #[.int .u8 a, .int .u8 b] w fun e w' => e = .returned (two (xorR a b) (evenFM (xorR a b))) ∧ Below w.heap.size w w' := by
  have hr : B8 (xorR a b) := mergeM_byte ..
  go_enter Tryd.func12, Tryd.ntmps12
  go_wp2_with (first
    | (go_at_call 24; refine (mergeXor_any _ _ (by assumption) (by assumption) _).mono ?_; rintro e w' ⟨rfl, hb⟩; have hsz := hb.size)
    | (go_at_call 26; refine (evenF_any _ (B8.lo (by assumption)) (B8.hi (by assumption)) _).mono ?_; rintro e w' ⟨rfl, hb⟩; have hsz := hb.size))
  go_ret2
  exact ⟨rfl, (by repeat (first | exact Below.refl _ _ | assumption | refine bstep ?_ (by assumption) | refine Below.drew ?_ | refine Below.alloc ?_ (by first | (simp; done) | (simp; omega) | omega) _ | refine Below.setCell ?_ (by first | (simp; done) | (simp; omega) | omega) _))⟩
set_option maxHeartbeats 4000000 in
theorem lkeep_any (b f : Int) (hb : B8 b) (hf : B8 f) (w : World) :
    Calls Tryd.prog 32 #[.int .u8 b, .int .u8 f] w fun e w' => e = .returned (.int .u8 (keepM (resultM b) f 196)) ∧ w = w' := by
  have hr := resultM_byte b
  go_enter Tryd.func32, Tryd.ntmps32
  go_wp2_with (first
    | (go_at_call 44; refine (result_any _ (B8.lo (by assumption)) (B8.hi (by assumption)) _).mono ?_; rintro e w' ⟨rfl, rfl⟩)
    | (go_at_call 48; refine (keep_any _ _ _ (B8.lo (by assumption)) (B8.hi (by assumption)) (B8.lo (by assumption)) (B8.hi (by assumption)) (by omega) (by omega) _).mono ?_; rintro e w' ⟨rfl, rfl⟩))
  go_ret
  exact ⟨rfl, rfl⟩
theorem lnot8_fin : ∀ x : Fin 256, bits .xor .u8 IntKind.u8.max (x.val : Int) = 255 - (x.val : Int) := by decide +kernel
theorem lnot8 (b : Int) (hb : B8 b) : bits .xor .u8 IntKind.u8.max b = 255 - b :=
  byte_all (P := fun b => bits .xor .u8 IntKind.u8.max b = 255 - b) lnot8_fin b hb.1 hb.2
set_option maxHeartbeats 4000000 in
theorem cpl_any (a f : Int) (ha : B8 a) (hf : B8 f) (w : World) :
    Calls Tryd.prog 14 #[.int .u8 a, .int .u8 f] w fun e w' => e = .returned (two (255 - a) (cplF a f)) ∧ w = w' := by
  have hr : B8 (255 - a) := ⟨by have := ha.2; omega, by have := ha.1; omega⟩
  have hx := lnot8 a ha
  have hm := Lib.hid (cpl_math a f hf)
  go_enter Tryd.func14, Tryd.ntmps14
  go_wp2_with (first
    | (go_at_call 32; refine (lkeep_any _ _ (by assumption) (by assumption) _).mono ?_; rintro e w' ⟨rfl, rfl⟩))
  go_ret2
  exact ⟨by rw [← hm.out]; rfl, rfl⟩
set_option maxHeartbeats 4000000 in
theorem scf_any (a f : Int) (ha : B8 a) (hf : B8 f) (w : World) :
    Calls Tryd.prog 18 #[.int .u8 a, .int .u8 f] w fun e w' => e = .returned (.int .u8 (scfF a f)) ∧ w = w' := by
  have hm := Lib.hid (scf_math a f)
  go_enter Tryd.func18, Tryd.ntmps18
  go_wp2_with (first
    | (go_at_call 32; refine (lkeep_any _ _ (by assumption) (by assumption) _).mono ?_; rintro e w' ⟨rfl, rfl⟩))
  go_ret
  exact ⟨ret_int hm.out, rfl⟩
set_option maxHeartbeats 4000000 in
theorem ccf_any (a f : Int) (ha : B8 a) (hf : B8 f) (w : World) :
    Calls Tryd.prog 20 #[.int .u8 a, .int .u8 f] w fun e w' => e = .returned (.int .u8 (ccfF a f)) ∧ w = w' := by
  have k := low_all f hf
  cases hc : isM f 0
  · have hm := Lib.hid (ccf_no a f hc)
    have k0 : bits .and .u8 f 1 = 0 := by rw [k, hc]; rfl
    clear k hc
    go_enter Tryd.func20, Tryd.ntmps20
    go_wp2_with (first
      | (go_at_call 18; refine (scf_any _ _ (by assumption) (by assumption) _).mono ?_; rintro e w' ⟨rfl, rfl⟩))
    go_ret
    exact ⟨ret_int hm.out, rfl⟩
  · have hm := Lib.hid (ccf_yes a f hc)
    have k0 : bits .and .u8 f 1 = 1 := by rw [k, hc]; rfl
    clear k hc
    go_enter Tryd.func20, Tryd.ntmps20
    go_wp2_with (first
      | (go_at_call 32; refine (lkeep_any _ _ (by assumption) (by assumption) _).mono ?_; rintro e w' ⟨rfl, rfl⟩))
    go_ret
    exact ⟨ret_int hm.out, rfl⟩
end Go.Proofs.YtggickkdjjjfdaaDoor
