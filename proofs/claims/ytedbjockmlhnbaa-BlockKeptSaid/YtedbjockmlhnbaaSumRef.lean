/- Layer 3 (sum): contracts of the document's own answers. -/
import Derived.Test.YtedbjockmlhnbaaSumSub
namespace Go.Proofs.Ytedbjockmlhnbaa
open Go.RowKit
set_option linter.unusedVariables false
set_option linter.unusedSimpArgs false
attribute [local go_sem ↓] ix8_0 ix8_1 ix8_2 ix8_3 ix8_4 ix8_5 ix8_6 ix8_7

set_option maxHeartbeats 400000 in
theorem rone_any (c : Bool) (w : World) :
    Calls Try.prog 34 #[.bool c] w fun e w' => e = .returned (.int .i64 (one c)) ∧ w = w' := by
  cases c
  all_goals
    go_enter Try.func34, Try.ntmps34
    go_wp2
    go_ret
    exact ⟨rfl, rfl⟩
set_option maxHeartbeats 400000 in
theorem rfar_any (n : Int) (w : World) :
    Calls Try.prog 36 #[.int .i64 n] w fun e w' => e = .returned (.bool (farM n)) ∧ w = w' := by
  by_cases h : n < -128
  · go_enter Try.func36, Try.ntmps36
    go_wp2
    go_ret
    exact ⟨ret_bool (by unfold farM; rw [decide_eq_true h]; rfl), rfl⟩
  · go_enter Try.func36, Try.ntmps36
    go_wp2
    go_ret
    exact ⟨ret_bool (by unfold farM; rw [decide_eq_false (show ¬ n < -128 by omega)]; rfl), rfl⟩
theorem resultM_bits (r : Int) : isM (resultM r) 7 = isM r 7 ∧ isM (resultM r) 6 = (r == 0) ∧ isM (resultM r) 5 = isM r 5 ∧ isM (resultM r) 4 = false ∧ isM (resultM r) 3 = isM r 3 ∧ isM (resultM r) 2 = false ∧ isM (resultM r) 1 = false ∧ isM (resultM r) 0 = false := of_mkM _ _ _ _ _ _ _ _
theorem signed_bounds (a : Int) (h0 : 0 ≤ a) (h1 : a ≤ 255) : -128 ≤ signedM a ∧ signedM a ≤ 127 := by unfold signedM; split <;> omega
set_option maxHeartbeats 4000000 in
theorem rsub_any (a b : Int) (c : Bool) (ha : B8 a) (hb : B8 b) (w : World) :
    Calls Try.prog 25 #[.int .u8 a, .int .u8 b, .bool c] w fun e w' => e = .returned (two (subR a b c) (subF a b c)) ∧ Below w.heap.size w w' := by
  have a0 := ha.1
  have a1 := ha.2
  have b0 := hb.1
  have b1 := hb.2
  have hr := Lib.hid (subR_byte a b c)
  have ho := one_bounds c
  have hq := Lib.hid (resultM_byte (subR a b c))
  have s1 := signed_bounds a a0 a1
  have s2 := signed_bounds b b0 b1
  have hs : (a - b - one c + 512) % 256 = subR a b c := by unfold subR; omega
  clear ha hb
  go_enter Try.func25, Try.ntmps25
  go_wp2_with (first
    | (go_at_call 34; refine (rone_any _ _).mono ?_; rintro e w' ⟨rfl, rfl⟩)
    | (go_at_call 35; refine (rresult_any _ hr.out.1 hr.out.2 _).mono ?_; rintro e w' ⟨rfl, hb⟩; have hsz := hb.size)
    | (go_at_call 21; refine (rof_any _ hq.out.1 hq.out.2 _).mono ?_; rintro e w' ⟨rfl, hb⟩; have hsz := hb.size)
    | (go_at_call 37; refine (rsigned_any _ (by omega) (by omega) _).mono ?_; rintro e w' ⟨rfl, rfl⟩)
    | (go_at_call 36; refine (rfar_any _ _).mono ?_; rintro e w' ⟨rfl, rfl⟩)
    | (go_at_call 23; refine (rmake_any _ _ _ _ _ _ _ _ _).mono ?_; rintro e w' ⟨rfl, hb⟩; have hsz := hb.size))
  go_ret2
  obtain ⟨e0, e1, e2, e3, e4, e5, e6, e7⟩ := resultM_bits (subR a b c)
  rw [e0, e1, e2, e4]
  exact ⟨rfl, (by repeat (first | exact Below.refl _ _ | assumption | refine bstep ?_ (by assumption) | refine Below.drew ?_ | refine Below.alloc ?_ (by first | (simp; done) | (simp; omega) | omega) _ | refine Below.setCell ?_ (by first | (simp; done) | (simp; omega) | omega) _))⟩
end Go.Proofs.Ytedbjockmlhnbaa
