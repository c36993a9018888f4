/- Layer 4 (wide): contracts of the document's own answers. -/
import Derived.Test.YtnjdkokkddaiaaaWideAdd
import Derived.Test.YtnjdkokkddaiaaaSumRef
namespace Go.Proofs.Ytnjdkokkddaiaaa
open Go.RowKit
set_option linter.unusedVariables false
set_option linter.unusedSimpArgs false
attribute [local go_sem ↓] ix8_0 ix8_1 ix8_2 ix8_3 ix8_4 ix8_5 ix8_6 ix8_7

set_option maxHeartbeats 400000 in
theorem rwsigned_any (x : Int) (hx : W16 x) (w : World) :
    Calls Try.prog 31 #[.int .u16 x] w fun e w' => e = .returned (.int .i64 (signedW x)) ∧ w = w' := by
  have x0 := hx.1
  have x1 := hx.2
  by_cases h : x < 32768
  · have e : signedW x = x := if_pos h
    rw [e]; clear e
    go_enter Try.func31, Try.ntmps31
    go_wp2
    go_ret
    exact ⟨rfl, rfl⟩
  · have e : signedW x = x - 65536 := if_neg h
    rw [e]; clear e
    go_enter Try.func31, Try.ntmps31
    go_wp2
    go_ret
    exact ⟨rfl, rfl⟩
set_option maxHeartbeats 400000 in
theorem rwcarry_any (f : Int) (hf : B8 f) (w : World) :
    Calls Try.prog 30 #[.int .u8 f] w fun e w' => e = .returned (.int .i64 (one (isM f 0))) ∧ w = w' := by
  cases h : isM f 0
  all_goals
    go_enter Try.func30, Try.ntmps30
    go_wp2_with (go_at_call 44; refine (ris_any _ _ (B8.lo (by assumption)) (B8.hi (by assumption)) _).mono ?_; rintro e w' ⟨rfl, rfl⟩)
    go_ret
    exact ⟨rfl, rfl⟩
set_option maxHeartbeats 4000000 in
theorem rlines_any (b0 b1 b2 b3 b4 b5 b6 b7 : Bool) (r : Int) (hr : W16 r) (w : World) :
    Calls Try.prog 26 #[v8 b0 b1 b2 b3 b4 b5 b6 b7, .int .u16 r] w fun e w' => e = .returned (v8 b0 b1 (isM (r / 256) 5) b3 (isM (r / 256) 3) b5 b6 b7) ∧ Below w.heap.size w w' := by
  have hh := hr.high
  go_enter Try.func26, Try.ntmps26
  go_wp2_with (first
    | (go_at_call 20; refine (rhi_any _ (W16.lo (by assumption)) (W16.hi (by assumption)) _).mono ?_; rintro e w' ⟨rfl, rfl⟩)
    | (go_at_call 44; refine (ris_any _ _ (B8.lo (by assumption)) (B8.hi (by assumption)) _).mono ?_; rintro e w' ⟨rfl, rfl⟩))
  refine bodyPost_ret (v := v8 b0 b1 (isM (r / 256) 5) b3 (isM (r / 256) 3) b5 b6 b7) (by simp [results, Try.f26, go_sem]) rfl ?_
  exact ⟨rfl, (by repeat (first | exact Below.refl _ _ | assumption | refine bstep ?_ (by assumption) | refine Below.drew ?_ | refine Below.alloc ?_ (by first | (simp; done) | (simp; omega) | omega) _ | refine Below.setCell ?_ (by first | (simp; done) | (simp; omega) | omega) _))⟩
set_option maxHeartbeats 4000000 in
theorem rwresult_any (r : Int) (half over out minus : Bool) (hr : W16 r) (w : World) :
    Calls Try.prog 32 #[.int .u16 r, .bool half, .bool over, .bool out, .bool minus] w fun e w' => e = .returned (.int .u8 (wideF r half over minus out)) ∧ Below w.heap.size w w' := by
  have hh := hr.high
  go_enter Try.func32, Try.ntmps32
  go_wp2_with (first
    | (go_at_call 20; refine (rhi_any _ (W16.lo (by assumption)) (W16.hi (by assumption)) _).mono ?_; rintro e w' ⟨rfl, rfl⟩)
    | (go_at_call 44; refine (ris_any _ _ (B8.lo (by assumption)) (B8.hi (by assumption)) _).mono ?_; rintro e w' ⟨rfl, rfl⟩)
    | (go_at_call 26; refine (rlines_any _ _ _ _ _ _ _ _ _ (by assumption) _).mono ?_; rintro e w' ⟨rfl, hb⟩; have hsz := hb.size)
    | (go_at_call 28; refine (rmake_any _ _ _ _ _ _ _ _ _).mono ?_; rintro e w' ⟨rfl, hb⟩; have hsz := hb.size))
  go_ret
  exact ⟨rfl, (by repeat (first | exact Below.refl _ _ | assumption | refine bstep ?_ (by assumption) | refine Below.drew ?_ | refine Below.alloc ?_ (by first | (simp; done) | (simp; omega) | omega) _ | refine Below.setCell ?_ (by first | (simp; done) | (simp; omega) | omega) _))⟩
set_option maxHeartbeats 4000000 in
theorem rwadd_any (a b f : Int) (ha : W16 a) (hb : W16 b) (hf : B8 f) (w : World) :
    Calls Try.prog 9 #[.int .u16 a, .int .u16 b, .int .u8 f] w fun e w' => e = .returned (wtwo (adcW a b false) (addWF a b f)) ∧ Below w.heap.size w w' := by
  have a0 := ha.1
  have a1 := ha.2
  have b0 := hb.1
  have b1 := hb.2
  have hr := adcW_word a b false
  have hs : (a + b) % 65536 = adcW a b false := by unfold adcW one; simp
  clear ha hb
  go_enter Try.func9, Try.ntmps9
  go_wp2_with (first
    | (go_at_call 27; refine (rof_any _ (B8.lo (by assumption)) (B8.hi (by assumption)) _).mono ?_; rintro e w' ⟨rfl, hb⟩; have hsz := hb.size)
    | (go_at_call 26; refine (rlines_any _ _ _ _ _ _ _ _ _ (by assumption) _).mono ?_; rintro e w' ⟨rfl, hb⟩; have hsz := hb.size)
    | (go_at_call 28; refine (rmake_any _ _ _ _ _ _ _ _ _).mono ?_; rintro e w' ⟨rfl, hb⟩; have hsz := hb.size))
  go_ret2
  exact ⟨rfl, (by repeat (first | exact Below.refl _ _ | assumption | refine bstep ?_ (by assumption) | refine Below.drew ?_ | refine Below.alloc ?_ (by first | (simp; done) | (simp; omega) | omega) _ | refine Below.setCell ?_ (by first | (simp; done) | (simp; omega) | omega) _))⟩
theorem signedW_bounds (a : Int) (h0 : 0 ≤ a) (h1 : a ≤ 65535) : -32768 ≤ signedW a ∧ signedW a ≤ 32767 := by unfold signedW; split <;> omega
set_option maxHeartbeats 4000000 in
theorem rwadc_any (a b f : Int) (ha : W16 a) (hb : W16 b) (hf : B8 f) (w : World) :
    Calls Try.prog 11 #[.int .u16 a, .int .u16 b, .int .u8 f] w fun e w' => e = .returned (wtwo (adcW a b (isM f 0)) (adcF a b (isM f 0))) ∧ Below w.heap.size w w' := by
  have hB := hb
  clear hb
  have a0 := ha.1
  have a1 := ha.2
  have b0 := hB.1
  have b1 := hB.2
  have ho := one_bounds (isM f 0)
  have s1 := signedW_bounds a a0 a1
  have s2 := signedW_bounds b b0 b1
  have hr := adcW_word a b (isM f 0)
  have hs : (a + b + one (isM f 0)) % 65536 = adcW a b (isM f 0) := rfl
  cases hv : decide (signedW a + signedW b + one (isM f 0) < -32768)
  all_goals
    have hv0 := Lib.hid hv
    simp at hv
    go_enter Try.func11, Try.ntmps11
    go_wp2_with (first
      | (go_at_call 30; refine (rwcarry_any _ (by assumption) _).mono ?_; rintro e w' ⟨rfl, rfl⟩)
      | (go_at_call 31; refine (rwsigned_any _ (by assumption) _).mono ?_; rintro e w' ⟨rfl, rfl⟩)
      | (go_at_call 32; refine (rwresult_any _ _ _ _ _ (by assumption) _).mono ?_; rintro e w' ⟨rfl, hb⟩; have hsz := hb.size))
    go_ret2
    refine ⟨?_, (by repeat (first | exact Below.refl _ _ | assumption | refine bstep ?_ (by assumption) | refine Below.drew ?_ | refine Below.alloc ?_ (by first | (simp; done) | (simp; omega) | omega) _ | refine Below.setCell ?_ (by first | (simp; done) | (simp; omega) | omega) _))⟩
    unfold adcF farW
    rw [hv0.out]
    rfl
set_option maxHeartbeats 4000000 in
theorem rwsbc_any (a b f : Int) (ha : W16 a) (hb : W16 b) (hf : B8 f) (w : World) :
    Calls Try.prog 13 #[.int .u16 a, .int .u16 b, .int .u8 f] w fun e w' => e = .returned (wtwo (sbcW a b (isM f 0)) (sbcF a b (isM f 0))) ∧ Below w.heap.size w w' := by
  have hB := hb
  clear hb
  have a0 := ha.1
  have a1 := ha.2
  have b0 := hB.1
  have b1 := hB.2
  have ho := one_bounds (isM f 0)
  have s1 := signedW_bounds a a0 a1
  have s2 := signedW_bounds b b0 b1
  have hr := sbcW_word a b (isM f 0)
  have hs : (a - b - one (isM f 0) + 131072) % 65536 = sbcW a b (isM f 0) := by unfold sbcW; omega
  cases hv : decide (signedW a - signedW b - one (isM f 0) < -32768)
  all_goals
    have hv0 := Lib.hid hv
    simp at hv
    go_enter Try.func13, Try.ntmps13
    go_wp2_with (first
      | (go_at_call 30; refine (rwcarry_any _ (by assumption) _).mono ?_; rintro e w' ⟨rfl, rfl⟩)
      | (go_at_call 31; refine (rwsigned_any _ (by assumption) _).mono ?_; rintro e w' ⟨rfl, rfl⟩)
      | (go_at_call 32; refine (rwresult_any _ _ _ _ _ (by assumption) _).mono ?_; rintro e w' ⟨rfl, hb⟩; have hsz := hb.size))
    go_ret2
    refine ⟨?_, (by repeat (first | exact Below.refl _ _ | assumption | refine bstep ?_ (by assumption) | refine Below.drew ?_ | refine Below.alloc ?_ (by first | (simp; done) | (simp; omega) | omega) _ | refine Below.setCell ?_ (by first | (simp; done) | (simp; omega) | omega) _))⟩
    unfold sbcF farW
    rw [hv0.out]
    rfl
theorem tmod16 (y : Int) : -65535 ≤ y.tmod 65536 ∧ y.tmod 65536 ≤ 65535 ∧ (y.tmod 65536) % 65536 = y % 65536 := by
  rcases Int.le_total 0 y with h | h
  · rw [Int.tmod_eq_emod_of_nonneg h]; omega
  · obtain ⟨z, rfl⟩ : ∃ z, y = -z := ⟨-y, by omega⟩
    rw [Int.neg_tmod, Int.tmod_eq_emod_of_nonneg (by omega)]; omega
set_option maxHeartbeats 400000 in
theorem rmove_any (x y : Int) (hx : W16 x) (w : World) :
    Calls Try.prog 15 #[.int .u16 x, .int .i64 y] w fun e w' => e = .returned (.int .u16 (moveM x y)) ∧ w = w' := by
  have x0 := hx.1
  have x1 := hx.2
  obtain ⟨t0, t1, t2⟩ := tmod16 y
  obtain ⟨u0, u1, u2⟩ := tmod16 (x + y.tmod 65536)
  have T2 := Lib.hid t2
  have U2 := Lib.hid u2
  clear t2 u2
  go_enter Try.func15, Try.ntmps15
  go_wp2
  go_ret
  exact ⟨ret_int (by rw [U2.out]; have := T2.out; unfold moveM; omega), rfl⟩
set_option maxHeartbeats 400000 in
theorem rnear_any (x y : Int) (hx : W16 x) (hy : B8 y) (w : World) :
    Calls Try.prog 17 #[.int .u16 x, .int .u8 y] w fun e w' => e = .returned (.int .u16 (moveM x (signedM y))) ∧ w = w' := by
  go_enter Try.func17, Try.ntmps17
  go_wp2_with (first
    | (go_at_call 35; refine (rsigned_any _ (B8.lo (by assumption)) (B8.hi (by assumption)) _).mono ?_; rintro e w' ⟨rfl, rfl⟩)
    | (go_at_call 15; refine (rmove_any _ _ (by assumption) _).mono ?_; rintro e w' ⟨rfl, rfl⟩))
  go_ret
  exact ⟨rfl, rfl⟩
end Go.Proofs.Ytnjdkokkddaiaaa
