/- Layer 8 (decode): contracts of ahead, points, Near, within, pass. -/
import Derived.Test.YtlmeekaemhghgaaDoorDecodeLeaf
namespace Go.Proofs.YtlmeekaemhghgaaDoor
open Go.RowKit
set_option linter.unusedVariables false
set_option linter.unusedSimpArgs false

set_option maxHeartbeats 1000000 in
theorem ahead_any (p : Int) (w : World) :
    Calls Tryd.prog 40 #[.int .i64 p] w fun e w' => e = .returned (.bool (aheadM p)) ∧ w = w' := by
  have h : aheadM p = (p == 5 || p == 6) := rfl
  cases h5 : (p == 5) <;> cases h6 : (p == 6)
  all_goals
    rw [h5, h6] at h
    have H := Lib.hid h
    clear h
    go_enter Tryd.func40, Tryd.ntmps40
    go_wp2
    go_ret
    exact ⟨ret_bool (by rw [H.out]; rfl), rfl⟩
set_option maxHeartbeats 1000000 in
theorem within_any (p : Int) (w : World) :
    Calls Tryd.prog 48 #[.int .i64 p] w fun e w' => e = .returned (.int .i64 (withinM p)) ∧ w = w' := by
  by_cases h3 : p = 3
  · subst h3
    go_enter Tryd.func48, Tryd.ntmps48
    go_wp2
    go_ret
    exact ⟨rfl, rfl⟩
  · by_cases h4 : p = 4
    · subst h4
      go_enter Tryd.func48, Tryd.ntmps48
      go_wp2
      go_ret
      exact ⟨rfl, rfl⟩
    · have H := Lib.hid (show withinM p = 1 by unfold withinM; rw [if_neg h3, if_neg h4])
      have e3 : (p == 3) = false := by simpa using h3
      have e4 : (p == 4) = false := by simpa using h4
      clear h3 h4
      go_enter Tryd.func48, Tryd.ntmps48
      go_wp2
      go_ret
      exact ⟨ret_int H.out.symm, rfl⟩
set_option maxHeartbeats 1000000 in
theorem points_any (c : Int) (hc : B8 c) (w : World) :
    Calls Tryd.prog 39 #[.int .u8 c] w fun e w' => e = .returned (.bool (pointsM c)) ∧ w = w' := by
  have bx := fx_b c hc
  have bY := fy_b c hc
  have bz := fz_b c hc
  have hf := Lib.hid (fields_any c hc)
  cases hy6 : (fy c == 6) <;> cases hz6 : (fz c == 6)
  all_goals
    go_enter Tryd.func39, Tryd.ntmps39
    go_wp2_with (first
      | (go_at_call 33; refine (hf.out _).mono ?_; rintro e w' ⟨rfl, rfl⟩))
    all_goals
      go_ret
      refine ⟨ret_bool ?_, rfl⟩
      (try unfold pointsM)
      (try simp [*])
      (try simp_all)
      (try omega)
set_option maxHeartbeats 1000000 in
theorem dnear_any (p c : Int) (hc : B8 c) (w : World) :
    Calls Tryd.prog 32 #[.int .i64 p, .int .u8 c] w fun e w' => e = .returned (.bool (nearM p c)) ∧ w = w' := by
  have hp := Lib.hid (points_any c hc)
  have ha := Lib.hid (ahead_any p)
  by_cases h3 : p = 3
  · subst h3
    go_enter Tryd.func32, Tryd.ntmps32
    go_wp2_with (first
      | (go_at_call 39; refine (hp.out _).mono ?_; rintro e w' ⟨rfl, rfl⟩))
    go_ret
    exact ⟨rfl, rfl⟩
  · by_cases h4 : p = 4
    · subst h4
      go_enter Tryd.func32, Tryd.ntmps32
      go_wp2_with (first
        | (go_at_call 39; refine (hp.out _).mono ?_; rintro e w' ⟨rfl, rfl⟩))
      go_ret
      exact ⟨rfl, rfl⟩
    · have H := Lib.hid (show nearM p c = aheadM p by unfold nearM; rw [if_neg (by omega)])
      have e3 : (p == 3) = false := by simpa using h3
      have e4 : (p == 4) = false := by simpa using h4
      clear h3 h4
      go_enter Tryd.func32, Tryd.ntmps32
      go_wp2_with (first
        | (go_at_call 40; refine (ha.out _).mono ?_; rintro e w' ⟨rfl, rfl⟩))
      go_ret
      exact ⟨ret_bool H.out.symm, rfl⟩
/-- an instruction as a value -/
abbrev opC (o : OpM) : Array Value := #[.int .i64 o.plane, .int .u8 o.code, .int .u8 o.disp, .int .u16 o.imm, .int .i64 o.len, .int .i64 o.skip]
abbrev opV (a b c d e f : Int) : Value := .agg #[.int .i64 a, .int .u8 b, .int .u8 c, .int .u16 d, .int .i64 e, .int .i64 f]
set_option maxHeartbeats 1000000 in
theorem pass_no (b c d e f : Int) (w : World) :
    Calls Tryd.prog 47 #[opV 0 b c d e f] w fun E w' => E = .returned (opV 0 b c d e f) ∧ Below w.heap.size w w' := by
  go_enter Tryd.func47, Tryd.ntmps47
  go_wp2
  refine bodyPost_ret (v := opV 0 b c d e f) (by simp [results, Tryd.f47, go_sem]) rfl ?_
  exact ⟨rfl, (by repeat (first | exact Below.refl _ _ | assumption | refine bstep ?_ (by assumption) | refine Below.drew ?_ | refine Below.alloc ?_ (by first | (simp; done) | (simp; omega) | omega) _ | refine Below.setCell ?_ (by first | (simp; done) | (simp; omega) | omega) _))⟩
set_option maxHeartbeats 1000000 in
theorem pass_yes (a b c d e f : Int) (h : (a != 0) = true) (hf : 0 ≤ f ∧ f ≤ 4611686018427387904) (w : World) :
    Calls Tryd.prog 47 #[opV a b c d e f] w fun E w' => E = .returned (opV a b c d e (f + 1)) ∧ Below w.heap.size w w' := by
  go_enter Tryd.func47, Tryd.ntmps47
  go_wp2
  refine bodyPost_ret (v := opV a b c d e (f + 1)) (by simp [results, Tryd.f47, go_sem]) rfl ?_
  exact ⟨rfl, (by repeat (first | exact Below.refl _ _ | assumption | refine bstep ?_ (by assumption) | refine Below.drew ?_ | refine Below.alloc ?_ (by first | (simp; done) | (simp; omega) | omega) _ | refine Below.setCell ?_ (by first | (simp; done) | (simp; omega) | omega) _))⟩
end Go.Proofs.YtlmeekaemhghgaaDoor
