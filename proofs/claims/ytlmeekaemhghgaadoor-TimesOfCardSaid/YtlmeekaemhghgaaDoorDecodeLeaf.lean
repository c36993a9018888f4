/- Layer 8 (decode): contracts of Fields, ahead, points, Near, within and of the document's Fields, one, two, Size, Near. -/
import Derived.Test.YtlmeekaemhghgaaDoorDecodeMath
import Derived.Test.YtlmeekaemhghgaaDoorBitsLeaf
import Derived.Test.YtlmeekaemhghgaaDoorBox
import Derived.Handy
import Derived.Lib.Hide
namespace Go.Proofs.YtlmeekaemhghgaaDoor
open Go.RowKit
set_option linter.unusedVariables false
set_option linter.unusedSimpArgs false

/-- the five fields as an answer -/
abbrev five (c : Int) : Value := .tuple #[.int .i64 (fx c), .int .i64 (fy c), .int .i64 (fz c), .int .i64 (fp c), .int .i64 (fq c)]
theorem results_tmp5 {fn : Func} {t u v x y : Tmp} (h : fn.results = #[.tmp t, .tmp u, .tmp v, .tmp x, .tmp y]) (tmps : Array Value) (P : Program) (w : World) :
    (results fn tmps).run P w = .ok (.tuple #[tmps.getD t undef, tmps.getD u undef, tmps.getD v undef, tmps.getD x undef, tmps.getD y undef]) w := by simp [results, h]
set_option maxHeartbeats 400000 in
theorem rfields_any (c : Int) (hc : B8 c) (w : World) :
    Calls Tryd.prog 23 #[.int .u8 c] w fun e w' => e = .returned (five c) ∧ w = w' := by
  obtain ⟨h0, h1⟩ := hc
  go_enter Tryd.func23, Tryd.ntmps23
  go_wp2
  refine bodyPost_ret (results_tmp5 rfl _ _ _) rfl ?_
  exact ⟨rfl, rfl⟩
set_option maxHeartbeats 400000 in
theorem fields_any (c : Int) (hc : B8 c) (w : World) :
    Calls Tryd.prog 33 #[.int .u8 c] w fun e w' => e = .returned (five c) ∧ w = w' := by
  obtain ⟨h0, h1⟩ := hc
  go_enter Tryd.func33, Tryd.ntmps33
  go_wp2
  refine bodyPost_ret (results_tmp5 rfl _ _ _) rfl ?_
  refine ⟨?_, rfl⟩
  have e1 : c / 8 % 8 / 2 = c / 16 % 4 := by omega
  have e2 : c / 8 % 8 % 2 = c / 8 % 2 := by omega
  show Ending.returned (.tuple #[.int .i64 (c / 64), .int .i64 (c / 8 % 8), .int .i64 (c % 8), .int .i64 (c / 8 % 8 / 2), .int .i64 (c / 8 % 8 % 2)]) = _
  rw [e1, e2]
  rfl
set_option maxHeartbeats 1000000 in
theorem one_any (x y z : Int) (hx : 0 ≤ x ∧ x ≤ 3) (hy : 0 ≤ y ∧ y ≤ 7) (hz : 0 ≤ z ∧ z ≤ 7) (w : World) :
    Calls Tryd.prog 43 #[.int .i64 x, .int .i64 y, .int .i64 z] w fun e w' => e = .returned (.bool (oneB x y z)) ∧ w = w' := by
  by_cases h0 : x = 0
  · subst h0
    go_enter Tryd.func43, Tryd.ntmps43
    go_wp2
    all_goals
      go_ret
      refine ⟨ret_bool ?_, rfl⟩
      (try unfold oneB)
      (try simp [*])
  · have e0 : (x == 0) = false := by simpa using h0
    go_enter Tryd.func43, Tryd.ntmps43
    go_wp2
    all_goals
      go_ret
      refine ⟨ret_bool ?_, rfl⟩
      (try unfold oneB)
      (try simp [*])
set_option maxHeartbeats 1000000 in
theorem two_any (x y z p q : Int) (hx : 0 ≤ x ∧ x ≤ 3) (hy : 0 ≤ y ∧ y ≤ 7) (hz : 0 ≤ z ∧ z ≤ 7) (w : World) :
    Calls Tryd.prog 44 #[.int .i64 x, .int .i64 y, .int .i64 z, .int .i64 p, .int .i64 q] w fun e w' => e = .returned (.bool (twoB x y z p q)) ∧ w = w' := by
  by_cases h0 : x = 0
  · subst h0
    go_enter Tryd.func44, Tryd.ntmps44
    go_wp2
    all_goals
      go_ret
      refine ⟨ret_bool ?_, rfl⟩
      (try unfold twoB)
      (try simp [*])
  · have e0 : (x == 0) = false := by simpa using h0
    go_enter Tryd.func44, Tryd.ntmps44
    go_wp2
    all_goals
      go_ret
      refine ⟨ret_bool ?_, rfl⟩
      (try unfold twoB)
      (try simp [*])
      (try (rw [Bool.eq_iff_iff]; simp [*]))
theorem fx_b (c : Int) (hc : B8 c) : 0 ≤ fx c ∧ fx c ≤ 3 := by obtain ⟨h0, h1⟩ := hc; unfold fx; omega
theorem fy_b (c : Int) (hc : B8 c) : 0 ≤ fy c ∧ fy c ≤ 7 := by obtain ⟨h0, h1⟩ := hc; unfold fy; omega
theorem fz_b (c : Int) (hc : B8 c) : 0 ≤ fz c ∧ fz c ≤ 7 := by obtain ⟨h0, h1⟩ := hc; unfold fz; omega
theorem plane_cases (p : Int) : p = 0 ∨ p = 1 ∨ p = 2 ∨ p = 3 ∨ p = 4 ∨ p = 5 ∨ p = 6 ∨ (p < 0 ∨ 6 < p) := by omega
/-- the seven planes one by one, and all others: what '==' tells of them -/
theorem plane_no (p : Int) (h : p < 0 ∨ 6 < p) : (p == 0) = false ∧ (p == 1) = false ∧ (p == 2) = false ∧ (p == 3) = false ∧ (p == 4) = false ∧ (p == 5) = false ∧ (p == 6) = false := by
  simp only [beq_eq_false_iff_ne]
  omega
set_option maxHeartbeats 1000000 in
theorem rsize_any (p c : Int) (hc : B8 c) (w : World) :
    Calls Tryd.prog 38 #[.int .i64 p, .int .u8 c] w fun e w' => e = .returned (.int .i64 (sizeM p c)) ∧ w = w' := by
  have bx := fx_b c hc
  have bY := fy_b c hc
  have bz := fz_b c hc
  have hf := Lib.hid (rfields_any c hc)
  by_cases hp : p < 0 ∨ 6 < p
  · have h := hp
    obtain ⟨n0, n1, n2, n3, n4, n5, n6⟩ := plane_no p h
    go_enter Tryd.func38, Tryd.ntmps38
    go_wp2_with (first
      | (go_at_call 23; refine (hf.out _).mono ?_; rintro e w' ⟨rfl, rfl⟩))
    go_ret
    exact ⟨ret_int (by unfold sizeM; rw [if_neg (by omega), if_neg (by omega)]), rfl⟩
  obtain rfl | rfl | rfl | rfl | rfl | rfl | rfl : p = 0 ∨ p = 1 ∨ p = 2 ∨ p = 3 ∨ p = 4 ∨ p = 5 ∨ p = 6 := by omega
  all_goals
    clear hp
    cases h1 : oneB (fx c) (fy c) (fz c) <;> cases h2 : twoB (fx c) (fy c) (fz c) (fp c) (fq c)
    all_goals
      have H1 := Lib.hid (fun w => h1 ▸ one_any (fx c) (fy c) (fz c) bx bY bz w)
      have H2 := Lib.hid (fun w => h2 ▸ two_any (fx c) (fy c) (fz c) (fp c) (fq c) bx bY bz w)
      have hs := Lib.hid (show sizeP c = if (if oneB (fx c) (fy c) (fz c) then true else false) then 1 else if twoB (fx c) (fy c) (fz c) (fp c) (fq c) then 2 else 0 by unfold sizeP; simp)
      rw [h1, h2] at hs
      clear h1 h2
      go_enter Tryd.func38, Tryd.ntmps38
      go_wp2_with (first
        | (go_at_call 23; refine (hf.out _).mono ?_; rintro e w' ⟨rfl, rfl⟩)
        | (go_at_call 43; refine (H1.out _).mono ?_; rintro e w' ⟨rfl, rfl⟩)
        | (go_at_call 44; refine (H2.out _).mono ?_; rintro e w' ⟨rfl, rfl⟩))
      all_goals
        go_ret
        refine ⟨ret_int ?_, rfl⟩
        simp [sizeM, hs.out]
        (try simp [sizeE, *])
        (try simpa using ‹(fz c == 3) = true›)
        (try simpa using ‹(fz c == 3) = false›)
set_option maxHeartbeats 1000000 in
theorem drnear_any (p c : Int) (hc : B8 c) (w : World) :
    Calls Tryd.prog 26 #[.int .i64 p, .int .u8 c] w fun e w' => e = .returned (.bool (nearM p c)) ∧ w = w' := by
  have bx := fx_b c hc
  have bY := fy_b c hc
  have bz := fz_b c hc
  have hf := Lib.hid (rfields_any c hc)
  by_cases hp : p < 0 ∨ 6 < p
  · have h := hp
    obtain ⟨n0, n1, n2, n3, n4, n5, n6⟩ := plane_no p h
    go_enter Tryd.func26, Tryd.ntmps26
    go_wp2_with (first
      | (go_at_call 23; refine (hf.out _).mono ?_; rintro e w' ⟨rfl, rfl⟩))
    go_ret
    exact ⟨ret_bool (by unfold nearM; rw [if_neg (by omega)]; unfold aheadM; rw [n5, n6]; rfl), rfl⟩
  obtain rfl | rfl | rfl | rfl | rfl | rfl | rfl : p = 0 ∨ p = 1 ∨ p = 2 ∨ p = 3 ∨ p = 4 ∨ p = 5 ∨ p = 6 := by omega
  all_goals
    clear hp
    cases hy6 : (fy c == 6) <;> cases hz6 : (fz c == 6)
    all_goals
      go_enter Tryd.func26, Tryd.ntmps26
      go_wp2_with (first
        | (go_at_call 23; refine (hf.out _).mono ?_; rintro e w' ⟨rfl, rfl⟩))
      all_goals
        go_ret
        refine ⟨ret_bool ?_, rfl⟩
        (try unfold nearM aheadM pointsM)
        (try simp [*])
        (try simp_all)
        (try omega)
end Go.Proofs.YtlmeekaemhghgaaDoor
