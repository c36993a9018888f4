/- Layer 3 (sum): contracts of the document's own answers. -/
import Derived.Test.YtejmbdedlegnaaaSumSub
namespace Go.Proofs.Ytejmbdedlegnaaa
open Go.RowKit
set_option linter.unusedVariables false
set_option linter.unusedSimpArgs false
attribute [local go_sem ↓] ix8_0 ix8_1 ix8_2 ix8_3 ix8_4 ix8_5 ix8_6 ix8_7

set_option maxHeartbeats 400000 in
theorem rone_any (c : Bool) (w : World) :
    Calls Try.prog 25 #[.bool c] w fun e w' => e = .returned (.int .i64 (one c)) ∧ w = w' := by
  cases c
  all_goals
    go_enter Try.func25, Try.ntmps25
    go_wp2
    go_ret
    exact ⟨rfl, rfl⟩
set_option maxHeartbeats 400000 in
theorem rfar_any (n : Int) (w : World) :
    Calls Try.prog 28 #[.int .i64 n] w fun e w' => e = .returned (.bool (farM n)) ∧ w = w' := by
  by_cases h : n < -128
  · go_enter Try.func28, Try.ntmps28
    go_wp2
    go_ret
    exact ⟨ret_bool (by unfold farM; rw [decide_eq_true h]; rfl), rfl⟩
  · go_enter Try.func28, Try.ntmps28
    go_wp2
    go_ret
    exact ⟨ret_bool (by unfold farM; rw [decide_eq_false (show ¬ n < -128 by omega)]; rfl), rfl⟩
theorem resultM_bits (r : Int) : isM (resultM r) 7 = isM r 7 ∧ isM (resultM r) 6 = (r == 0) ∧ isM (resultM r) 5 = isM r 5 ∧ isM (resultM r) 4 = false ∧ isM (resultM r) 3 = isM r 3 ∧ isM (resultM r) 2 = false ∧ isM (resultM r) 1 = false ∧ isM (resultM r) 0 = false := of_mkM _ _ _ _ _ _ _ _
theorem signed_bounds (a : Int) (h0 : 0 ≤ a) (h1 : a ≤ 255) : -128 ≤ signedM a ∧ signedM a ≤ 127 := by unfold signedM; split <;> omega
set_option maxHeartbeats 4000000 in
theorem radd_any (a b : Int) (c : Bool) (ha : B8 a) (hb : B8 b) (w : World) :
    Calls Try.prog 9 #[.int .u8 a, .int .u8 b, .bool c] w fun e w' => e = .returned (two (addR a b c) (addF a b c)) ∧ Below w.heap.size w w' := by
  have a0 := ha.1
  have a1 := ha.2
  have b0 := hb.1
  have b1 := hb.2
  have hr := Lib.hid (addR_byte a b c)
  have ho := one_bounds c
  have hq := Lib.hid (resultM_byte (addR a b c))
  have s1 := signed_bounds a a0 a1
  have s2 := signed_bounds b b0 b1
  clear ha hb
  go_enter Try.func9, Try.ntmps9
  go_wp2_with (first
    | (go_at_call 25; refine (rone_any _ _).mono ?_; rintro e w' ⟨rfl, rfl⟩)
    | (go_at_call 27; refine (rresult_any _ (by omega) (by omega) _).mono ?_; rintro e w' ⟨rfl, hb⟩; have hsz := hb.size)
    | (go_at_call 26; refine (rof_any _ hq.out.1 hq.out.2 _).mono ?_; rintro e w' ⟨rfl, hb⟩; have hsz := hb.size)
    | (go_at_call 29; refine (rsigned_any _ (by omega) (by omega) _).mono ?_; rintro e w' ⟨rfl, rfl⟩)
    | (go_at_call 28; refine (rfar_any _ _).mono ?_; rintro e w' ⟨rfl, rfl⟩)
    | (go_at_call 30; refine (rmake_any _ _ _ _ _ _ _ _ _).mono ?_; rintro e w' ⟨rfl, hb⟩; have hsz := hb.size))
  go_ret2
  obtain ⟨e0, e1, e2, e3, e4, e5, e6, e7⟩ := resultM_bits (addR a b c)
  rw [e0, e1, e2, e4, e6]
  exact ⟨rfl, (by repeat (first | exact Below.refl _ _ | assumption | refine bstep ?_ (by assumption) | refine Below.drew ?_ | refine Below.alloc ?_ (by first | (simp; done) | (simp; omega) | omega) _ | refine Below.setCell ?_ (by first | (simp; done) | (simp; omega) | omega) _))⟩
set_option maxHeartbeats 4000000 in
theorem rsub_any (a b : Int) (c : Bool) (ha : B8 a) (hb : B8 b) (w : World) :
    Calls Try.prog 11 #[.int .u8 a, .int .u8 b, .bool c] w fun e w' => e = .returned (two (subR a b c) (subF a b c)) ∧ Below w.heap.size w w' := by
  have a0 := ha.1
  have a1 := ha.2
  have b0 := hb.1
  have b1 := hb.2
  have hr := Lib.hid (subR_byte a b c)
  have ho := one_bounds c
  have hq := Lib.hid (resultM_byte (subR a b c))
  have s1 := signed_bounds a a0 a1
  have s2 := signed_bounds b b0 b1
  have hs : (a - b - one c + 512) % 256 = subR a b c := by unfold subR; omega
  clear ha hb
  go_enter Try.func11, Try.ntmps11
  go_wp2_with (first
    | (go_at_call 25; refine (rone_any _ _).mono ?_; rintro e w' ⟨rfl, rfl⟩)
    | (go_at_call 27; refine (rresult_any _ hr.out.1 hr.out.2 _).mono ?_; rintro e w' ⟨rfl, hb⟩; have hsz := hb.size)
    | (go_at_call 26; refine (rof_any _ hq.out.1 hq.out.2 _).mono ?_; rintro e w' ⟨rfl, hb⟩; have hsz := hb.size)
    | (go_at_call 29; refine (rsigned_any _ (by omega) (by omega) _).mono ?_; rintro e w' ⟨rfl, rfl⟩)
    | (go_at_call 28; refine (rfar_any _ _).mono ?_; rintro e w' ⟨rfl, rfl⟩)
    | (go_at_call 30; refine (rmake_any _ _ _ _ _ _ _ _ _).mono ?_; rintro e w' ⟨rfl, hb⟩; have hsz := hb.size))
  go_ret2
  obtain ⟨e0, e1, e2, e3, e4, e5, e6, e7⟩ := resultM_bits (subR a b c)
  rw [e0, e1, e2, e4]
  exact ⟨rfl, (by repeat (first | exact Below.refl _ _ | assumption | refine bstep ?_ (by assumption) | refine Below.drew ?_ | refine Below.alloc ?_ (by first | (simp; done) | (simp; omega) | omega) _ | refine Below.setCell ?_ (by first | (simp; done) | (simp; omega) | omega) _))⟩
set_option maxHeartbeats 4000000 in
theorem rcmp_any (a b : Int) (ha : B8 a) (hb : B8 b) (w : World) :
    Calls Try.prog 15 #[.int .u8 a, .int .u8 b] w fun e w' => e = .returned (.int .u8 (cmpF a b)) ∧ Below w.heap.size w w' := by
  have hf := Lib.hid (subF_byte a b false)
  have ha := Lib.hid ha
  have hB := Lib.hid hb
  clear hb
  go_enter Try.func15, Try.ntmps15
  go_wp2_with (first
    | (go_at_call 11; refine (rsub_any _ _ _ ha.out hB.out _).mono ?_; rintro e w' ⟨rfl, hb⟩; have hsz := hb.size)
    | (go_at_call 26; refine (rof_any _ hf.out.1 hf.out.2 _).mono ?_; rintro e w' ⟨rfl, hb⟩; have hsz := hb.size)
    | (go_at_call 32; refine (ris_any _ _ hB.out.1 hB.out.2 _).mono ?_; rintro e w' ⟨rfl, rfl⟩)
    | (go_at_call 30; refine (rmake_any _ _ _ _ _ _ _ _ _).mono ?_; rintro e w' ⟨rfl, hb⟩; have hsz := hb.size))
  go_ret
  obtain ⟨e0, e1, e2, e3, e4, e5, e6, e7⟩ : isM (subF a b false) 7 = _ ∧ isM (subF a b false) 6 = _ ∧ isM (subF a b false) 5 = _ ∧ isM (subF a b false) 4 = _ ∧ isM (subF a b false) 3 = _ ∧ isM (subF a b false) 2 = _ ∧ isM (subF a b false) 1 = _ ∧ isM (subF a b false) 0 = _ := of_mkM _ _ _ _ _ _ _ _
  rw [e0, e1, e3, e5, e6, e7]
  exact ⟨rfl, (by repeat (first | exact Below.refl _ _ | assumption | refine bstep ?_ (by assumption) | refine Below.drew ?_ | refine Below.alloc ?_ (by first | (simp; done) | (simp; omega) | omega) _ | refine Below.setCell ?_ (by first | (simp; done) | (simp; omega) | omega) _))⟩
set_option maxHeartbeats 4000000 in
theorem rinc_any (a f : Int) (ha : B8 a) (hf : B8 f) (w : World) :
    Calls Try.prog 17 #[.int .u8 a, .int .u8 f] w fun e w' => e = .returned (two (addR a 1 false) (incF a f)) ∧ Below w.heap.size w w' := by
  have hg := Lib.hid (addF_byte a 1 false)
  have ha := Lib.hid ha
  have hf := Lib.hid hf
  go_enter Try.func17, Try.ntmps17
  go_wp2_with (first
    | (go_at_call 9; refine (radd_any _ _ _ ha.out ⟨by omega, by omega⟩ _).mono ?_; rintro e w' ⟨rfl, hb⟩; have hsz := hb.size)
    | (go_at_call 26; refine (rof_any _ hg.out.1 hg.out.2 _).mono ?_; rintro e w' ⟨rfl, hb⟩; have hsz := hb.size)
    | (go_at_call 32; refine (ris_any _ _ hf.out.1 hf.out.2 _).mono ?_; rintro e w' ⟨rfl, rfl⟩)
    | (go_at_call 30; refine (rmake_any _ _ _ _ _ _ _ _ _).mono ?_; rintro e w' ⟨rfl, hb⟩; have hsz := hb.size))
  go_ret2
  obtain ⟨e0, e1, e2, e3, e4, e5, e6, e7⟩ : isM (addF a 1 false) 7 = _ ∧ isM (addF a 1 false) 6 = _ ∧ isM (addF a 1 false) 5 = _ ∧ isM (addF a 1 false) 4 = _ ∧ isM (addF a 1 false) 3 = _ ∧ isM (addF a 1 false) 2 = _ ∧ isM (addF a 1 false) 1 = _ ∧ isM (addF a 1 false) 0 = _ := of_mkM _ _ _ _ _ _ _ _
  rw [e0, e1, e2, e3, e4, e5, e6]
  exact ⟨rfl, (by repeat (first | exact Below.refl _ _ | assumption | refine bstep ?_ (by assumption) | refine Below.drew ?_ | refine Below.alloc ?_ (by first | (simp; done) | (simp; omega) | omega) _ | refine Below.setCell ?_ (by first | (simp; done) | (simp; omega) | omega) _))⟩
set_option maxHeartbeats 4000000 in
theorem rdec_any (a f : Int) (ha : B8 a) (hf : B8 f) (w : World) :
    Calls Try.prog 19 #[.int .u8 a, .int .u8 f] w fun e w' => e = .returned (two (subR a 1 false) (decF a f)) ∧ Below w.heap.size w w' := by
  have hg := Lib.hid (subF_byte a 1 false)
  have ha := Lib.hid ha
  have hf := Lib.hid hf
  go_enter Try.func19, Try.ntmps19
  go_wp2_with (first
    | (go_at_call 11; refine (rsub_any _ _ _ ha.out ⟨by omega, by omega⟩ _).mono ?_; rintro e w' ⟨rfl, hb⟩; have hsz := hb.size)
    | (go_at_call 26; refine (rof_any _ hg.out.1 hg.out.2 _).mono ?_; rintro e w' ⟨rfl, hb⟩; have hsz := hb.size)
    | (go_at_call 32; refine (ris_any _ _ hf.out.1 hf.out.2 _).mono ?_; rintro e w' ⟨rfl, rfl⟩)
    | (go_at_call 30; refine (rmake_any _ _ _ _ _ _ _ _ _).mono ?_; rintro e w' ⟨rfl, hb⟩; have hsz := hb.size))
  go_ret2
  obtain ⟨e0, e1, e2, e3, e4, e5, e6, e7⟩ : isM (subF a 1 false) 7 = _ ∧ isM (subF a 1 false) 6 = _ ∧ isM (subF a 1 false) 5 = _ ∧ isM (subF a 1 false) 4 = _ ∧ isM (subF a 1 false) 3 = _ ∧ isM (subF a 1 false) 2 = _ ∧ isM (subF a 1 false) 1 = _ ∧ isM (subF a 1 false) 0 = _ := of_mkM _ _ _ _ _ _ _ _
  rw [e0, e1, e2, e3, e4, e5, e6]
  exact ⟨rfl, (by repeat (first | exact Below.refl _ _ | assumption | refine bstep ?_ (by assumption) | refine Below.drew ?_ | refine Below.alloc ?_ (by first | (simp; done) | (simp; omega) | omega) _ | refine Below.setCell ?_ (by first | (simp; done) | (simp; omega) | omega) _))⟩
set_option maxHeartbeats 4000000 in
theorem rneg_any (a : Int) (ha : B8 a) (w : World) :
    Calls Try.prog 13 #[.int .u8 a] w fun e w' => e = .returned (two (subR 0 a false) (subF 0 a false)) ∧ Below w.heap.size w w' := by
  have ha := Lib.hid ha
  go_enter Try.func13, Try.ntmps13
  go_wp2_with (first
    | (go_at_call 11; refine (rsub_any _ _ _ ⟨by omega, by omega⟩ ha.out _).mono ?_; rintro e w' ⟨rfl, hb⟩; have hsz := hb.size))
  go_ret2
  exact ⟨rfl, (by repeat (first | exact Below.refl _ _ | assumption | refine bstep ?_ (by assumption) | refine Below.drew ?_ | refine Below.alloc ?_ (by first | (simp; done) | (simp; omega) | omega) _ | refine Below.setCell ?_ (by first | (simp; done) | (simp; omega) | omega) _))⟩
end Go.Proofs.Ytejmbdedlegnaaa
