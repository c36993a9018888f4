/- Layer 5 (logic): the document's own answer for decimal digits made right. -/
import Derived.Test.YtggickkdjjjfdaaDoorLogicRef
namespace Go.Proofs.YtggickkdjjjfdaaDoor
open Go.RowKit
set_option linter.unusedVariables false
set_option linter.unusedSimpArgs false
attribute [local go_sem ↓] ix8_0 ix8_1 ix8_2 ix8_3 ix8_4 ix8_5 ix8_6 ix8_7

theorem daaR_no (a f N : Int) (h : byM a f = N) (c : isM f 1 = false) : (a + N) % 256 = daaR a f := by unfold daaR; rw [c, h]; rfl
theorem daaR_yes (a f N : Int) (h : byM a f = N) (c : isM f 1 = true) : (a - N) % 256 = daaR a f := by unfold daaR; rw [c, h]; rfl
theorem daaR_0 (a f : Int) (h : byM a f = 0) : a % 256 = daaR a f := by unfold daaR; rw [h]; split <;> omega
theorem byM_is (a f : Int) : byM a f = (if isM f 4 || decide (9 < a % 16) then 6 else 0) + (if isM f 0 || decide (153 < a) then 96 else 0) := rfl
theorem daaF_is (a f : Int) : daaF a f = mkM (isM (daaR a f) 7) (daaR a f == 0) (isM (daaR a f) 5) (isM a 4 != isM (daaR a f) 4) (isM (daaR a f) 3) (evenM (daaR a f)) (isM f 1) (isM f 0 || decide (153 < a)) := rfl
set_option maxHeartbeats 16000000 in
theorem rdaa_any (a f : Int) (ha : B8 a) (hf : B8 f) (w : World) :
    Calls Tryd.prog 17 #[.int .u8 a, .int .u8 f] w fun e w' => e = .returned (two (daaR a f) (daaF a f)) ∧ Below w.heap.size w w' := by
  have a0 := ha.1
  have a1 := ha.2
  have hr := daaR_byte a f
  have he := evenFM_byte (daaR a f)
  have hD := daaF_is a f
  have hN := byM_is a f
  by_cases x2 : 9 < a % 16 <;> by_cases x4 : 153 < a <;> cases c1 : isM f 4 <;> cases c3 : isM f 0 <;> cases c5 : isM f 1
  all_goals
    first | rw [c1, c3, decide_eq_true x2, decide_eq_true x4] at hN | rw [c1, c3, decide_eq_true x2, decide_eq_false x4] at hN | rw [c1, c3, decide_eq_false x2, decide_eq_true x4] at hN | rw [c1, c3, decide_eq_false x2, decide_eq_false x4] at hN
    first | rw [c3, c5, decide_eq_true x4] at hD | rw [c3, c5] at hD
    simp only [Bool.or_true, Bool.or_false, Bool.true_or, Bool.false_or] at hD
    first
      | have hb := daaR_0 a f (hN.trans (by decide))
      | have hb := daaR_yes a f 102 (hN.trans (by decide)) c5
      | have hb := daaR_no a f 102 (hN.trans (by decide)) c5
      | have hb := daaR_yes a f 96 (hN.trans (by decide)) c5
      | have hb := daaR_no a f 96 (hN.trans (by decide)) c5
      | have hb := daaR_yes a f 6 (hN.trans (by decide)) c5
      | have hb := daaR_no a f 6 (hN.trans (by decide)) c5
    clear hN
    have HD := Lib.hid hD
    clear hD
    go_enter Tryd.func17, Tryd.ntmps17
    go_wp2_with fail
    refine (rof_any _ hf.1 hf.2 _).mono ?_
    rintro e w1 ⟨rfl, hb1⟩
    have hs1 := hb1.size
    go_wp2_with fail
    refine (revenF_any _ hr.1 hr.2 _).mono ?_
    rintro e w2 ⟨rfl, hb2⟩
    have hs2 := hb2.size
    have A2 := arr_v8 w2 w1 _ _ _ _ _ _ _ _ _ hb2
    go_wp2_with fail
    refine (rof_any _ he.1 he.2 _).mono ?_
    rintro e w3 ⟨rfl, hb3⟩
    have hs3 := hb3.size
    have c6 := ((A2.kept hb3) 6 (by omega)).1
    simp only [List.getD_cons_succ, List.getD_cons_zero] at c6
    simp only [World.size_alloc] at hs2 hs3
    have hlt : w1.heap.size < w3.heap.size := by omega
    go_wp2_with (first
      | (go_at_call 37; refine (ris_any _ _ (B8.lo (by assumption)) (B8.hi (by assumption)) _).mono ?_; rintro e w' ⟨rfl, rfl⟩)
      | (go_at_call 34; refine (rmake_any _ _ _ _ _ _ _ _ _).mono ?_; rintro e w' ⟨rfl, hb⟩; have hsz := hb.size))
    go_ret2
    obtain ⟨e7, e6, e5, e4, e3, e2, e1, e0⟩ := evenFM_bits (daaR a f)
    rw [e7, e6, e5, e3, e2, HD.out]
    exact ⟨rfl, (by repeat (first | exact Below.refl _ _ | assumption | refine bstep ?_ (by assumption) | refine Below.drew ?_ | refine Below.alloc ?_ (by first | (simp; done) | (simp; omega) | omega) _ | refine Below.setCell ?_ (by first | (simp; done) | (simp; omega) | omega) _))⟩
end Go.Proofs.YtggickkdjjjfdaaDoor
