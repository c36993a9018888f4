/- Layer 8 (decode): contracts of Fields, ahead, points, Near, within and of the document's Fields, one, two, Size, Near. -/
import Derived.Test.YtgdpafldhmchpaaDoorDecodeMath
import Derived.Test.YtgdpafldhmchpaaDoorBitsLeaf
import Derived.Test.YtgdpafldhmchpaaDoorBox
import Derived.Handy
import Derived.Lib.Hide
namespace Go.Proofs.YtgdpafldhmchpaaDoor
open Go.RowKit
set_option linter.unusedVariables false
set_option linter.unusedSimpArgs false

/-- the five fields as an answer -/
abbrev five (c : Int) : Value := .tuple #[.int .i64 (fx c), .int .i64 (fy c), .int .i64 (fz c), .int .i64 (fp c), .int .i64 (fq c)]
theorem results_tmp5 {fn : Func} {t u v x y : Tmp} (h : fn.results = #[.tmp t, .tmp u, .tmp v, .tmp x, .tmp y]) (tmps : Array Value) (P : Program) (w : World) :
    (results fn tmps).run P w = .ok (.tuple #[tmps.getD t undef, tmps.getD u undef, tmps.getD v undef, tmps.getD x undef, tmps.getD y undef]) w := by simp [results, h]
set_option maxHeartbeats 400000 in
theorem rfields_any (c : Int) (hc : B8 c) (w : World) :
    Calls Tryd.prog 18 #[.int .u8 c] w fun e w' => e = .returned (five c) ∧ w = w' := by
  obtain ⟨h0, h1⟩ := hc
  go_enter Tryd.func18, Tryd.ntmps18
  go_wp2
  refine bodyPost_ret (results_tmp5 rfl _ _ _) rfl ?_
  exact ⟨rfl, rfl⟩
set_option maxHeartbeats 400000 in
theorem fields_any (c : Int) (hc : B8 c) (w : World) :
    Calls Tryd.prog 15 #[.int .u8 c] w fun e w' => e = .returned (five c) ∧ w = w' := by
  obtain ⟨h0, h1⟩ := hc
  go_enter Tryd.func15, Tryd.ntmps15
  go_wp2
  refine bodyPost_ret (results_tmp5 rfl _ _ _) rfl ?_
  refine ⟨?_, rfl⟩
  have e1 : c / 8 % 8 / 2 = c / 16 % 4 := by omega
  have e2 : c / 8 % 8 % 2 = c / 8 % 2 := by omega
  show Ending.returned (.tuple #[.int .i64 (c / 64), .int .i64 (c / 8 % 8), .int .i64 (c % 8), .int .i64 (c / 8 % 8 / 2), .int .i64 (c / 8 % 8 % 2)]) = _
  rw [e1, e2]
  rfl
theorem fx_b (c : Int) (hc : B8 c) : 0 ≤ fx c ∧ fx c ≤ 3 := by obtain ⟨h0, h1⟩ := hc; unfold fx; omega
theorem fy_b (c : Int) (hc : B8 c) : 0 ≤ fy c ∧ fy c ≤ 7 := by obtain ⟨h0, h1⟩ := hc; unfold fy; omega
theorem fz_b (c : Int) (hc : B8 c) : 0 ≤ fz c ∧ fz c ≤ 7 := by obtain ⟨h0, h1⟩ := hc; unfold fz; omega
theorem plane_cases (p : Int) : p = 0 ∨ p = 1 ∨ p = 2 ∨ p = 3 ∨ p = 4 ∨ p = 5 ∨ p = 6 ∨ (p < 0 ∨ 6 < p) := by omega
/-- the seven planes one by one, and all others: what '==' tells of them -/
theorem plane_no (p : Int) (h : p < 0 ∨ 6 < p) : (p == 0) = false ∧ (p == 1) = false ∧ (p == 2) = false ∧ (p == 3) = false ∧ (p == 4) = false ∧ (p == 5) = false ∧ (p == 6) = false := by
  simp only [beq_eq_false_iff_ne]
  omega
set_option maxHeartbeats 1000000 in
theorem drnear_any (p c : Int) (hc : B8 c) (w : World) :
    Calls Tryd.prog 48 #[.int .i64 p, .int .u8 c] w fun e w' => e = .returned (.bool (nearM p c)) ∧ w = w' := by
  have bx := fx_b c hc
  have bY := fy_b c hc
  have bz := fz_b c hc
  have hf := Lib.hid (rfields_any c hc)
  by_cases hp : p < 0 ∨ 6 < p
  · have h := hp
    obtain ⟨n0, n1, n2, n3, n4, n5, n6⟩ := plane_no p h
    go_enter Tryd.func48, Tryd.ntmps48
    go_wp2_with (first
      | (go_at_call 18; refine (hf.out _).mono ?_; rintro e w' ⟨rfl, rfl⟩))
    go_ret
    exact ⟨ret_bool (by unfold nearM; rw [if_neg (by omega)]; unfold aheadM; rw [n5, n6]; rfl), rfl⟩
  obtain rfl | rfl | rfl | rfl | rfl | rfl | rfl : p = 0 ∨ p = 1 ∨ p = 2 ∨ p = 3 ∨ p = 4 ∨ p = 5 ∨ p = 6 := by omega
  all_goals
    clear hp
    cases hy6 : (fy c == 6) <;> cases hz6 : (fz c == 6)
    all_goals
      go_enter Tryd.func48, Tryd.ntmps48
      go_wp2_with (first
        | (go_at_call 18; refine (hf.out _).mono ?_; rintro e w' ⟨rfl, rfl⟩))
      all_goals
        go_ret
        refine ⟨ret_bool ?_, rfl⟩
        (try unfold nearM aheadM pointsM)
        (try simp [*])
        (try simp_all)
        (try omega)
end Go.Proofs.YtgdpafldhmchpaaDoor
