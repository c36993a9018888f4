/- Contracts and facts that the claim's proof wants (several texts in one). -/
import Derived.Deep.MidRow
import Derived.Test.YtmnddlkhgajenaaGreatDoorAcG1
import Derived.Test.YtmnddlkhgajenaaGreatDoorAcG3
namespace Go.Proofs.YtmnddlkhgajenaaGreatDoor
open Go.RowKit
set_option linter.unusedVariables false
set_option linter.unusedSimpArgs false
set_option maxRecDepth 20000
set_option maxHeartbeats 20000000
section
attribute [local go_sem ↓] ix8_0 ix8_1 ix8_2 ix8_3 ix8_4 ix8_5 ix8_6 ix8_7
theorem rone_any (c : Bool) (w : World) :
    Calls Tryz.prog 208 #[.bool c] w fun e w' => e = .returned (.int .i64 (one c)) ∧ w = w' := by
  cases c
  all_goals
    go_enter Tryz.func208, Tryz.ntmps208
    go_wp2
    go_ret
    exact ⟨rfl, rfl⟩
theorem rfar_any (n : Int) (w : World) :
    Calls Tryz.prog 209 #[.int .i64 n] w fun e w' => e = .returned (.bool (farM n)) ∧ w = w' := by
  by_cases h : n < -128
  · go_enter Tryz.func209, Tryz.ntmps209
    go_wp2
    go_ret
    exact ⟨ret_bool (by unfold farM; rw [decide_eq_true h]; rfl), rfl⟩
  · go_enter Tryz.func209, Tryz.ntmps209
    go_wp2
    go_ret
    exact ⟨ret_bool (by unfold farM; rw [decide_eq_false (show ¬ n < -128 by omega)]; rfl), rfl⟩
theorem resultM_bits (r : Int) : isM (resultM r) 7 = isM r 7 ∧ isM (resultM r) 6 = (r == 0) ∧ isM (resultM r) 5 = isM r 5 ∧ isM (resultM r) 4 = false ∧ isM (resultM r) 3 = isM r 3 ∧ isM (resultM r) 2 = false ∧ isM (resultM r) 1 = false ∧ isM (resultM r) 0 = false := of_mkM _ _ _ _ _ _ _ _
theorem signed_bounds (a : Int) (h0 : 0 ≤ a) (h1 : a ≤ 255) : -128 ≤ signedM a ∧ signedM a ≤ 127 := by unfold signedM; split <;> omega
theorem radd_any (a b : Int) (c : Bool) (ha : B8 a) (hb : B8 b) (w : World) :
    Calls Tryz.prog 147 #[.int .u8 a, .int .u8 b, .bool c] w fun e w' => e = .returned (two (addR a b c) (addF a b c)) ∧ Below w.heap.size w w' := by
  have a0 := ha.1
  have a1 := ha.2
  have b0 := hb.1
  have b1 := hb.2
  have hr := Lib.hid (addR_byte a b c)
  have ho := one_bounds c
  have hq := Lib.hid (resultM_byte (addR a b c))
  have s1 := signed_bounds a a0 a1
  have s2 := signed_bounds b b0 b1
  clear ha hb
  go_enter Tryz.func147, Tryz.ntmps147
  go_wp2_with (first
    | (go_at_call 208; refine (rone_any _ _).mono ?_; rintro e w' ⟨rfl, rfl⟩)
    | (go_at_call 138; refine (rresult_any _ (by omega) (by omega) _).mono ?_; rintro e w' ⟨rfl, hb⟩; have hsz := hb.size)
    | (go_at_call 124; refine (rof_any _ hq.out.1 hq.out.2 _).mono ?_; rintro e w' ⟨rfl, hb⟩; have hsz := hb.size)
    | (go_at_call 91; refine (rsigned_any _ (by omega) (by omega) _).mono ?_; rintro e w' ⟨rfl, rfl⟩)
    | (go_at_call 209; refine (rfar_any _ _).mono ?_; rintro e w' ⟨rfl, rfl⟩)
    | (go_at_call 126; refine (rmake_any _ _ _ _ _ _ _ _ _).mono ?_; rintro e w' ⟨rfl, hb⟩; have hsz := hb.size))
  go_ret2
  obtain ⟨e0, e1, e2, e3, e4, e5, e6, e7⟩ := resultM_bits (addR a b c)
  rw [e0, e1, e2, e4, e6]
  exact ⟨rfl, (by repeat (first | exact Below.refl _ _ | assumption | refine bstep ?_ (by assumption) | refine Below.drew ?_ | refine Below.alloc ?_ (by first | (simp; done) | (simp; omega) | omega) _ | refine Below.setCell ?_ (by first | (simp; done) | (simp; omega) | omega) _))⟩
theorem rsub_any (a b : Int) (c : Bool) (ha : B8 a) (hb : B8 b) (w : World) :
    Calls Tryz.prog 136 #[.int .u8 a, .int .u8 b, .bool c] w fun e w' => e = .returned (two (subR a b c) (subF a b c)) ∧ Below w.heap.size w w' := by
  have a0 := ha.1
  have a1 := ha.2
  have b0 := hb.1
  have b1 := hb.2
  have hr := Lib.hid (subR_byte a b c)
  have ho := one_bounds c
  have hq := Lib.hid (resultM_byte (subR a b c))
  have s1 := signed_bounds a a0 a1
  have s2 := signed_bounds b b0 b1
  have hs : (a - b - one c + 512) % 256 = subR a b c := by unfold subR; omega
  clear ha hb
  go_enter Tryz.func136, Tryz.ntmps136
  go_wp2_with (first
    | (go_at_call 208; refine (rone_any _ _).mono ?_; rintro e w' ⟨rfl, rfl⟩)
    | (go_at_call 138; refine (rresult_any _ hr.out.1 hr.out.2 _).mono ?_; rintro e w' ⟨rfl, hb⟩; have hsz := hb.size)
    | (go_at_call 124; refine (rof_any _ hq.out.1 hq.out.2 _).mono ?_; rintro e w' ⟨rfl, hb⟩; have hsz := hb.size)
    | (go_at_call 91; refine (rsigned_any _ (by omega) (by omega) _).mono ?_; rintro e w' ⟨rfl, rfl⟩)
    | (go_at_call 209; refine (rfar_any _ _).mono ?_; rintro e w' ⟨rfl, rfl⟩)
    | (go_at_call 126; refine (rmake_any _ _ _ _ _ _ _ _ _).mono ?_; rintro e w' ⟨rfl, hb⟩; have hsz := hb.size))
  go_ret2
  obtain ⟨e0, e1, e2, e3, e4, e5, e6, e7⟩ := resultM_bits (subR a b c)
  rw [e0, e1, e2, e4]
  exact ⟨rfl, (by repeat (first | exact Below.refl _ _ | assumption | refine bstep ?_ (by assumption) | refine Below.drew ?_ | refine Below.alloc ?_ (by first | (simp; done) | (simp; omega) | omega) _ | refine Below.setCell ?_ (by first | (simp; done) | (simp; omega) | omega) _))⟩
theorem rcmp_any (a b : Int) (ha : B8 a) (hb : B8 b) (w : World) :
    Calls Tryz.prog 151 #[.int .u8 a, .int .u8 b] w fun e w' => e = .returned (.int .u8 (cmpF a b)) ∧ Below w.heap.size w w' := by
  have hf := Lib.hid (subF_byte a b false)
  have ha := Lib.hid ha
  have hB := Lib.hid hb
  clear hb
  go_enter Tryz.func151, Tryz.ntmps151
  go_wp2_with (first
    | (go_at_call 136; refine (rsub_any _ _ _ ha.out hB.out _).mono ?_; rintro e w' ⟨rfl, hb⟩; have hsz := hb.size)
    | (go_at_call 124; refine (rof_any _ hf.out.1 hf.out.2 _).mono ?_; rintro e w' ⟨rfl, hb⟩; have hsz := hb.size)
    | (go_at_call 122; refine (ris_any _ _ hB.out.1 hB.out.2 _).mono ?_; rintro e w' ⟨rfl, rfl⟩)
    | (go_at_call 126; refine (rmake_any _ _ _ _ _ _ _ _ _).mono ?_; rintro e w' ⟨rfl, hb⟩; have hsz := hb.size))
  go_ret
  obtain ⟨e0, e1, e2, e3, e4, e5, e6, e7⟩ : isM (subF a b false) 7 = _ ∧ isM (subF a b false) 6 = _ ∧ isM (subF a b false) 5 = _ ∧ isM (subF a b false) 4 = _ ∧ isM (subF a b false) 3 = _ ∧ isM (subF a b false) 2 = _ ∧ isM (subF a b false) 1 = _ ∧ isM (subF a b false) 0 = _ := of_mkM _ _ _ _ _ _ _ _
  rw [e0, e1, e3, e5, e6, e7]
  exact ⟨rfl, (by repeat (first | exact Below.refl _ _ | assumption | refine bstep ?_ (by assumption) | refine Below.drew ?_ | refine Below.alloc ?_ (by first | (simp; done) | (simp; omega) | omega) _ | refine Below.setCell ?_ (by first | (simp; done) | (simp; omega) | omega) _))⟩
theorem rinc_any (a f : Int) (ha : B8 a) (hf : B8 f) (w : World) :
    Calls Tryz.prog 213 #[.int .u8 a, .int .u8 f] w fun e w' => e = .returned (two (addR a 1 false) (incF a f)) ∧ Below w.heap.size w w' := by
  have hg := Lib.hid (addF_byte a 1 false)
  have ha := Lib.hid ha
  have hf := Lib.hid hf
  go_enter Tryz.func213, Tryz.ntmps213
  go_wp2_with (first
    | (go_at_call 147; refine (radd_any _ _ _ ha.out ⟨by omega, by omega⟩ _).mono ?_; rintro e w' ⟨rfl, hb⟩; have hsz := hb.size)
    | (go_at_call 124; refine (rof_any _ hg.out.1 hg.out.2 _).mono ?_; rintro e w' ⟨rfl, hb⟩; have hsz := hb.size)
    | (go_at_call 122; refine (ris_any _ _ hf.out.1 hf.out.2 _).mono ?_; rintro e w' ⟨rfl, rfl⟩)
    | (go_at_call 126; refine (rmake_any _ _ _ _ _ _ _ _ _).mono ?_; rintro e w' ⟨rfl, hb⟩; have hsz := hb.size))
  go_ret2
  obtain ⟨e0, e1, e2, e3, e4, e5, e6, e7⟩ : isM (addF a 1 false) 7 = _ ∧ isM (addF a 1 false) 6 = _ ∧ isM (addF a 1 false) 5 = _ ∧ isM (addF a 1 false) 4 = _ ∧ isM (addF a 1 false) 3 = _ ∧ isM (addF a 1 false) 2 = _ ∧ isM (addF a 1 false) 1 = _ ∧ isM (addF a 1 false) 0 = _ := of_mkM _ _ _ _ _ _ _ _
  rw [e0, e1, e2, e3, e4, e5, e6]
  exact ⟨rfl, (by repeat (first | exact Below.refl _ _ | assumption | refine bstep ?_ (by assumption) | refine Below.drew ?_ | refine Below.alloc ?_ (by first | (simp; done) | (simp; omega) | omega) _ | refine Below.setCell ?_ (by first | (simp; done) | (simp; omega) | omega) _))⟩
theorem rdec_any (a f : Int) (ha : B8 a) (hf : B8 f) (w : World) :
    Calls Tryz.prog 214 #[.int .u8 a, .int .u8 f] w fun e w' => e = .returned (two (subR a 1 false) (decF a f)) ∧ Below w.heap.size w w' := by
  have hg := Lib.hid (subF_byte a 1 false)
  have ha := Lib.hid ha
  have hf := Lib.hid hf
  go_enter Tryz.func214, Tryz.ntmps214
  go_wp2_with (first
    | (go_at_call 136; refine (rsub_any _ _ _ ha.out ⟨by omega, by omega⟩ _).mono ?_; rintro e w' ⟨rfl, hb⟩; have hsz := hb.size)
    | (go_at_call 124; refine (rof_any _ hg.out.1 hg.out.2 _).mono ?_; rintro e w' ⟨rfl, hb⟩; have hsz := hb.size)
    | (go_at_call 122; refine (ris_any _ _ hf.out.1 hf.out.2 _).mono ?_; rintro e w' ⟨rfl, rfl⟩)
    | (go_at_call 126; refine (rmake_any _ _ _ _ _ _ _ _ _).mono ?_; rintro e w' ⟨rfl, hb⟩; have hsz := hb.size))
  go_ret2
  obtain ⟨e0, e1, e2, e3, e4, e5, e6, e7⟩ : isM (subF a 1 false) 7 = _ ∧ isM (subF a 1 false) 6 = _ ∧ isM (subF a 1 false) 5 = _ ∧ isM (subF a 1 false) 4 = _ ∧ isM (subF a 1 false) 3 = _ ∧ isM (subF a 1 false) 2 = _ ∧ isM (subF a 1 false) 1 = _ ∧ isM (subF a 1 false) 0 = _ := of_mkM _ _ _ _ _ _ _ _
  rw [e0, e1, e2, e3, e4, e5, e6]
  exact ⟨rfl, (by repeat (first | exact Below.refl _ _ | assumption | refine bstep ?_ (by assumption) | refine Below.drew ?_ | refine Below.alloc ?_ (by first | (simp; done) | (simp; omega) | omega) _ | refine Below.setCell ?_ (by first | (simp; done) | (simp; omega) | omega) _))⟩
theorem rneg_any (a : Int) (ha : B8 a) (w : World) :
    Calls Tryz.prog 84 #[.int .u8 a] w fun e w' => e = .returned (two (subR 0 a false) (subF 0 a false)) ∧ Below w.heap.size w w' := by
  have ha := Lib.hid ha
  go_enter Tryz.func84, Tryz.ntmps84
  go_wp2_with (first
    | (go_at_call 136; refine (rsub_any _ _ _ ⟨by omega, by omega⟩ ha.out _).mono ?_; rintro e w' ⟨rfl, hb⟩; have hsz := hb.size))
  go_ret2
  exact ⟨rfl, (by repeat (first | exact Below.refl _ _ | assumption | refine bstep ?_ (by assumption) | refine Below.drew ?_ | refine Below.alloc ?_ (by first | (simp; done) | (simp; omega) | omega) _ | refine Below.setCell ?_ (by first | (simp; done) | (simp; omega) | omega) _))⟩
end
section
attribute [local go_sem ↓] ix8_0 ix8_1 ix8_2 ix8_3 ix8_4 ix8_5 ix8_6 ix8_7
theorem rwsigned_any (x : Int) (hx : W16 x) (w : World) :
    Calls Tryz.prog 132 #[.int .u16 x] w fun e w' => e = .returned (.int .i64 (signedW x)) ∧ w = w' := by
  have x0 := hx.1
  have x1 := hx.2
  by_cases h : x < 32768
  · have e : signedW x = x := if_pos h
    rw [e]; clear e
    go_enter Tryz.func132, Tryz.ntmps132
    go_wp2
    go_ret
    exact ⟨rfl, rfl⟩
  · have e : signedW x = x - 65536 := if_neg h
    rw [e]; clear e
    go_enter Tryz.func132, Tryz.ntmps132
    go_wp2
    go_ret
    exact ⟨rfl, rfl⟩
theorem rwcarry_any (f : Int) (hf : B8 f) (w : World) :
    Calls Tryz.prog 131 #[.int .u8 f] w fun e w' => e = .returned (.int .i64 (one (isM f 0))) ∧ w = w' := by
  cases h : isM f 0
  all_goals
    go_enter Tryz.func131, Tryz.ntmps131
    go_wp2_with (go_at_call 122; refine (ris_any _ _ (B8.lo (by assumption)) (B8.hi (by assumption)) _).mono ?_; rintro e w' ⟨rfl, rfl⟩)
    go_ret
    exact ⟨rfl, rfl⟩
theorem rlines_any (b0 b1 b2 b3 b4 b5 b6 b7 : Bool) (r : Int) (hr : W16 r) (w : World) :
    Calls Tryz.prog 207 #[v8 b0 b1 b2 b3 b4 b5 b6 b7, .int .u16 r] w fun e w' => e = .returned (v8 b0 b1 (isM (r / 256) 5) b3 (isM (r / 256) 3) b5 b6 b7) ∧ Below w.heap.size w w' := by
  have hh := hr.high
  go_enter Tryz.func207, Tryz.ntmps207
  go_wp2_with (first
    | (go_at_call 52; refine (rhi_any _ (W16.lo (by assumption)) (W16.hi (by assumption)) _).mono ?_; rintro e w' ⟨rfl, rfl⟩)
    | (go_at_call 122; refine (ris_any _ _ (B8.lo (by assumption)) (B8.hi (by assumption)) _).mono ?_; rintro e w' ⟨rfl, rfl⟩))
  refine bodyPost_ret (v := v8 b0 b1 (isM (r / 256) 5) b3 (isM (r / 256) 3) b5 b6 b7) (by simp [results, Tryz.f207, go_sem]) rfl ?_
  exact ⟨rfl, (by repeat (first | exact Below.refl _ _ | assumption | refine bstep ?_ (by assumption) | refine Below.drew ?_ | refine Below.alloc ?_ (by first | (simp; done) | (simp; omega) | omega) _ | refine Below.setCell ?_ (by first | (simp; done) | (simp; omega) | omega) _))⟩
theorem rwresult_any (r : Int) (half over out minus : Bool) (hr : W16 r) (w : World) :
    Calls Tryz.prog 133 #[.int .u16 r, .bool half, .bool over, .bool out, .bool minus] w fun e w' => e = .returned (.int .u8 (wideF r half over minus out)) ∧ Below w.heap.size w w' := by
  have hh := hr.high
  go_enter Tryz.func133, Tryz.ntmps133
  go_wp2_with (first
    | (go_at_call 52; refine (rhi_any _ (W16.lo (by assumption)) (W16.hi (by assumption)) _).mono ?_; rintro e w' ⟨rfl, rfl⟩)
    | (go_at_call 122; refine (ris_any _ _ (B8.lo (by assumption)) (B8.hi (by assumption)) _).mono ?_; rintro e w' ⟨rfl, rfl⟩)
    | (go_at_call 207; refine (rlines_any _ _ _ _ _ _ _ _ _ (by assumption) _).mono ?_; rintro e w' ⟨rfl, hb⟩; have hsz := hb.size)
    | (go_at_call 126; refine (rmake_any _ _ _ _ _ _ _ _ _).mono ?_; rintro e w' ⟨rfl, hb⟩; have hsz := hb.size))
  go_ret
  exact ⟨rfl, (by repeat (first | exact Below.refl _ _ | assumption | refine bstep ?_ (by assumption) | refine Below.drew ?_ | refine Below.alloc ?_ (by first | (simp; done) | (simp; omega) | omega) _ | refine Below.setCell ?_ (by first | (simp; done) | (simp; omega) | omega) _))⟩
theorem rwadd_any (a b f : Int) (ha : W16 a) (hb : W16 b) (hf : B8 f) (w : World) :
    Calls Tryz.prog 142 #[.int .u16 a, .int .u16 b, .int .u8 f] w fun e w' => e = .returned (wtwo (adcW a b false) (addWF a b f)) ∧ Below w.heap.size w w' := by
  have a0 := ha.1
  have a1 := ha.2
  have b0 := hb.1
  have b1 := hb.2
  have hr := adcW_word a b false
  have hs : (a + b) % 65536 = adcW a b false := by unfold adcW one; simp
  clear ha hb
  go_enter Tryz.func142, Tryz.ntmps142
  go_wp2_with (first
    | (go_at_call 124; refine (rof_any _ (B8.lo (by assumption)) (B8.hi (by assumption)) _).mono ?_; rintro e w' ⟨rfl, hb⟩; have hsz := hb.size)
    | (go_at_call 207; refine (rlines_any _ _ _ _ _ _ _ _ _ (by assumption) _).mono ?_; rintro e w' ⟨rfl, hb⟩; have hsz := hb.size)
    | (go_at_call 126; refine (rmake_any _ _ _ _ _ _ _ _ _).mono ?_; rintro e w' ⟨rfl, hb⟩; have hsz := hb.size))
  go_ret2
  exact ⟨rfl, (by repeat (first | exact Below.refl _ _ | assumption | refine bstep ?_ (by assumption) | refine Below.drew ?_ | refine Below.alloc ?_ (by first | (simp; done) | (simp; omega) | omega) _ | refine Below.setCell ?_ (by first | (simp; done) | (simp; omega) | omega) _))⟩
theorem signedW_bounds (a : Int) (h0 : 0 ≤ a) (h1 : a ≤ 65535) : -32768 ≤ signedW a ∧ signedW a ≤ 32767 := by unfold signedW; split <;> omega
theorem rwadc_any (a b f : Int) (ha : W16 a) (hb : W16 b) (hf : B8 f) (w : World) :
    Calls Tryz.prog 82 #[.int .u16 a, .int .u16 b, .int .u8 f] w fun e w' => e = .returned (wtwo (adcW a b (isM f 0)) (adcF a b (isM f 0))) ∧ Below w.heap.size w w' := by
  have hB := hb
  clear hb
  have a0 := ha.1
  have a1 := ha.2
  have b0 := hB.1
  have b1 := hB.2
  have ho := one_bounds (isM f 0)
  have s1 := signedW_bounds a a0 a1
  have s2 := signedW_bounds b b0 b1
  have hr := adcW_word a b (isM f 0)
  have hs : (a + b + one (isM f 0)) % 65536 = adcW a b (isM f 0) := rfl
  cases hv : decide (signedW a + signedW b + one (isM f 0) < -32768)
  all_goals
    have hv0 := Lib.hid hv
    simp at hv
    go_enter Tryz.func82, Tryz.ntmps82
    go_wp2_with (first
      | (go_at_call 131; refine (rwcarry_any _ (by assumption) _).mono ?_; rintro e w' ⟨rfl, rfl⟩)
      | (go_at_call 132; refine (rwsigned_any _ (by assumption) _).mono ?_; rintro e w' ⟨rfl, rfl⟩)
      | (go_at_call 133; refine (rwresult_any _ _ _ _ _ (by assumption) _).mono ?_; rintro e w' ⟨rfl, hb⟩; have hsz := hb.size))
    go_ret2
    refine ⟨?_, (by repeat (first | exact Below.refl _ _ | assumption | refine bstep ?_ (by assumption) | refine Below.drew ?_ | refine Below.alloc ?_ (by first | (simp; done) | (simp; omega) | omega) _ | refine Below.setCell ?_ (by first | (simp; done) | (simp; omega) | omega) _))⟩
    unfold adcF farW
    rw [hv0.out]
    rfl
theorem rwsbc_any (a b f : Int) (ha : W16 a) (hb : W16 b) (hf : B8 f) (w : World) :
    Calls Tryz.prog 79 #[.int .u16 a, .int .u16 b, .int .u8 f] w fun e w' => e = .returned (wtwo (sbcW a b (isM f 0)) (sbcF a b (isM f 0))) ∧ Below w.heap.size w w' := by
  have hB := hb
  clear hb
  have a0 := ha.1
  have a1 := ha.2
  have b0 := hB.1
  have b1 := hB.2
  have ho := one_bounds (isM f 0)
  have s1 := signedW_bounds a a0 a1
  have s2 := signedW_bounds b b0 b1
  have hr := sbcW_word a b (isM f 0)
  have hs : (a - b - one (isM f 0) + 131072) % 65536 = sbcW a b (isM f 0) := by unfold sbcW; omega
  cases hv : decide (signedW a - signedW b - one (isM f 0) < -32768)
  all_goals
    have hv0 := Lib.hid hv
    simp at hv
    go_enter Tryz.func79, Tryz.ntmps79
    go_wp2_with (first
      | (go_at_call 131; refine (rwcarry_any _ (by assumption) _).mono ?_; rintro e w' ⟨rfl, rfl⟩)
      | (go_at_call 132; refine (rwsigned_any _ (by assumption) _).mono ?_; rintro e w' ⟨rfl, rfl⟩)
      | (go_at_call 133; refine (rwresult_any _ _ _ _ _ (by assumption) _).mono ?_; rintro e w' ⟨rfl, hb⟩; have hsz := hb.size))
    go_ret2
    refine ⟨?_, (by repeat (first | exact Below.refl _ _ | assumption | refine bstep ?_ (by assumption) | refine Below.drew ?_ | refine Below.alloc ?_ (by first | (simp; done) | (simp; omega) | omega) _ | refine Below.setCell ?_ (by first | (simp; done) | (simp; omega) | omega) _))⟩
    unfold sbcF farW
    rw [hv0.out]
    rfl
theorem tmod16 (y : Int) : -65535 ≤ y.tmod 65536 ∧ y.tmod 65536 ≤ 65535 ∧ (y.tmod 65536) % 65536 = y % 65536 := by
  rcases Int.le_total 0 y with h | h
  · rw [Int.tmod_eq_emod_of_nonneg h]; omega
  · obtain ⟨z, rfl⟩ : ∃ z, y = -z := ⟨-y, by omega⟩
    rw [Int.neg_tmod, Int.tmod_eq_emod_of_nonneg (by omega)]; omega
theorem wrmove_any (x y : Int) (hx : W16 x) (w : World) :
    Calls Tryz.prog 90 #[.int .u16 x, .int .i64 y] w fun e w' => e = .returned (.int .u16 (moveM x y)) ∧ w = w' := by
  have x0 := hx.1
  have x1 := hx.2
  obtain ⟨t0, t1, t2⟩ := tmod16 y
  obtain ⟨u0, u1, u2⟩ := tmod16 (x + y.tmod 65536)
  have T2 := Lib.hid t2
  have U2 := Lib.hid u2
  clear t2 u2
  go_enter Tryz.func90, Tryz.ntmps90
  go_wp2
  go_ret
  exact ⟨ret_int (by rw [U2.out]; have := T2.out; unfold moveM; omega), rfl⟩
theorem rnear_any (x y : Int) (hx : W16 x) (hy : B8 y) (w : World) :
    Calls Tryz.prog 57 #[.int .u16 x, .int .u8 y] w fun e w' => e = .returned (.int .u16 (moveM x (signedM y))) ∧ w = w' := by
  go_enter Tryz.func57, Tryz.ntmps57
  go_wp2_with (first
    | (go_at_call 91; refine (rsigned_any _ (B8.lo (by assumption)) (B8.hi (by assumption)) _).mono ?_; rintro e w' ⟨rfl, rfl⟩)
    | (go_at_call 90; refine (wrmove_any _ _ (by assumption) _).mono ?_; rintro e w' ⟨rfl, rfl⟩))
  go_ret
  exact ⟨rfl, rfl⟩
end
section
theorem arr_v8 (w' w : World) (b0 b1 b2 b3 b4 b5 b6 b7 : Bool) (t : TypeId) (hb : Below (w.alloc (.cells #[.bool b0, .bool b1, .bool b2, .bool b3, .bool b4, .bool b5, .bool b6, .bool b7] t)).heap.size (w.alloc (.cells #[.bool b0, .bool b1, .bool b2, .bool b3, .bool b4, .bool b5, .bool b6, .bool b7] t)) w') :
    ArrIs w' w.heap.size 8 (fun j => .bool ([b0, b1, b2, b3, b4, b5, b6, b7].getD j false)) :=
  (ArrIs.new w _ t 0 0 _ 8 (.inr rfl) (fun j hj => nat8 (fun j => (#[Value.bool b0, .bool b1, .bool b2, .bool b3, .bool b4, .bool b5, .bool b6, .bool b7] : Array Value)[j]? = some (.bool ([b0, b1, b2, b3, b4, b5, b6, b7].getD j false))) ⟨rfl, rfl, rfl, rfl, rfl, rfl, rfl, rfl⟩ j hj)).kept hb
attribute [local go_sem ↓] ix8_0 ix8_1 ix8_2 ix8_3 ix8_4 ix8_5 ix8_6 ix8_7
def mergeUpto (op : Bool → Bool → Bool) (a b : Int) : Nat → Int
  | 0 => 0
  | k + 1 => withM (mergeUpto op a b k) k (op (isM a k) (isM b k))
theorem mergeUpto_byte (op : Bool → Bool → Bool) (a b : Int) : ∀ k, B8 (mergeUpto op a b k)
  | 0 => B8.zero
  | k + 1 => (mergeUpto_byte op a b k).with _ _
theorem mergeUpto_all (op : Bool → Bool → Bool) (a b : Int) : mergeUpto op a b 8 = mergeM op a b := up_mk _ _ _ _ _ _ _ _
theorem againstAnd_any (a b : Int) (ha : B8 a) (hB : B8 b) (w : World) :
    Calls Tryz.prog 220 #[.int .i64 0, .int .u8 a, .int .u8 b] w fun e w' => e = .returned (.int .u8 (andR a b)) ∧ w = w' := by
  go_enter Tryz.func220, Tryz.ntmps220
  go_wp2
  go_loop [7, 8] (fun r i => ∃ k : Nat, k ≤ 8 ∧ i = .int .i64 k ∧ r = .int .u8 (mergeUpto andB a b k)) (fun _ i => 8 - (intOf i).toNat)
  case atStart => exact ⟨0, by omega, rfl, rfl⟩
  case round =>
    obtain ⟨k, hk, rfl, rfl⟩ := hrel
    have hm := mergeUpto_byte andB a b k
    by_cases hlt : k < 8
    · have HS := Lib.hid (show mergeUpto andB a b (k + 1) = withM (mergeUpto andB a b k) k (andB (isM a k) (isM b k)) from rfl)
      cases c : isM a k <;> cases d : isM b k
      all_goals
        rw [c, d] at HS
        go_wp2_with (first
          | (go_at_call 122; refine (ris_any _ _ (B8.lo (by assumption)) (B8.hi (by assumption)) _).mono ?_; rintro e w' ⟨rfl, rfl⟩)
          | (go_at_call 74; refine (rwith_any _ _ _ (B8.lo (by assumption)) (B8.hi (by assumption)) _).mono ?_; rintro e w' ⟨rfl, rfl⟩))
        go_round
        case rel => exact ⟨k + 1, by omega, by go_num, by rw [HS.out]; rfl⟩
        case measure => simp [intOf]; omega
    · obtain rfl : k = 8 := by omega
      go_wp2
      go_ret
      exact ⟨ret_int (mergeUpto_all _ _ _), rfl⟩
theorem againstOr_any (a b : Int) (ha : B8 a) (hB : B8 b) (w : World) :
    Calls Tryz.prog 220 #[.int .i64 1, .int .u8 a, .int .u8 b] w fun e w' => e = .returned (.int .u8 (orR a b)) ∧ w = w' := by
  go_enter Tryz.func220, Tryz.ntmps220
  go_wp2
  go_loop [7, 8] (fun r i => ∃ k : Nat, k ≤ 8 ∧ i = .int .i64 k ∧ r = .int .u8 (mergeUpto orB a b k)) (fun _ i => 8 - (intOf i).toNat)
  case atStart => exact ⟨0, by omega, rfl, rfl⟩
  case round =>
    obtain ⟨k, hk, rfl, rfl⟩ := hrel
    have hm := mergeUpto_byte orB a b k
    by_cases hlt : k < 8
    · have HS := Lib.hid (show mergeUpto orB a b (k + 1) = withM (mergeUpto orB a b k) k (orB (isM a k) (isM b k)) from rfl)
      cases c : isM a k <;> cases d : isM b k
      all_goals
        rw [c, d] at HS
        go_wp2_with (first
          | (go_at_call 122; refine (ris_any _ _ (B8.lo (by assumption)) (B8.hi (by assumption)) _).mono ?_; rintro e w' ⟨rfl, rfl⟩)
          | (go_at_call 74; refine (rwith_any _ _ _ (B8.lo (by assumption)) (B8.hi (by assumption)) _).mono ?_; rintro e w' ⟨rfl, rfl⟩))
        go_round
        case rel => exact ⟨k + 1, by omega, by go_num, by rw [HS.out]; rfl⟩
        case measure => simp [intOf]; omega
    · obtain rfl : k = 8 := by omega
      go_wp2
      go_ret
      exact ⟨ret_int (mergeUpto_all _ _ _), rfl⟩
theorem againstXor_any (a b : Int) (ha : B8 a) (hB : B8 b) (w : World) :
    Calls Tryz.prog 220 #[.int .i64 2, .int .u8 a, .int .u8 b] w fun e w' => e = .returned (.int .u8 (xorR a b)) ∧ w = w' := by
  go_enter Tryz.func220, Tryz.ntmps220
  go_wp2
  go_loop [7, 8] (fun r i => ∃ k : Nat, k ≤ 8 ∧ i = .int .i64 k ∧ r = .int .u8 (mergeUpto xorB a b k)) (fun _ i => 8 - (intOf i).toNat)
  case atStart => exact ⟨0, by omega, rfl, rfl⟩
  case round =>
    obtain ⟨k, hk, rfl, rfl⟩ := hrel
    have hm := mergeUpto_byte xorB a b k
    by_cases hlt : k < 8
    · have HS := Lib.hid (show mergeUpto xorB a b (k + 1) = withM (mergeUpto xorB a b k) k (xorB (isM a k) (isM b k)) from rfl)
      cases c : isM a k <;> cases d : isM b k
      all_goals
        rw [c, d] at HS
        go_wp2_with (first
          | (go_at_call 122; refine (ris_any _ _ (B8.lo (by assumption)) (B8.hi (by assumption)) _).mono ?_; rintro e w' ⟨rfl, rfl⟩)
          | (go_at_call 74; refine (rwith_any _ _ _ (B8.lo (by assumption)) (B8.hi (by assumption)) _).mono ?_; rintro e w' ⟨rfl, rfl⟩))
        go_round
        case rel => exact ⟨k + 1, by omega, by go_num, by rw [HS.out]; rfl⟩
        case measure => simp [intOf]; omega
    · obtain rfl : k = 8 := by omega
      go_wp2
      go_ret
      exact ⟨ret_int (mergeUpto_all _ _ _), rfl⟩
theorem rand_any (a b : Int) (ha : B8 a) (hB : B8 b) (w : World) :
    Calls Tryz.prog 148 #[.int .u8 a, .int .u8 b] w fun e w' => e = .returned (two (andR a b) (andFl (andR a b))) ∧ Below w.heap.size w w' := by
  have hr : B8 (andR a b) := mergeM_byte ..
  have he := evenFM_byte (andR a b)
  have hm := Lib.hid (andFl_with _ hr)
  go_enter Tryz.func148, Tryz.ntmps148
  go_wp2_with (first
    | (go_at_call 220; refine (againstAnd_any _ _ (by assumption) (by assumption) _).mono ?_; rintro e w' ⟨rfl, rfl⟩)
    | (go_at_call 74; refine (rwith_any _ _ _ (B8.lo (by assumption)) (B8.hi (by assumption)) _).mono ?_; rintro e w' ⟨rfl, rfl⟩)
    | (go_at_call 75; refine (revenF_any _ (B8.lo (by assumption)) (B8.hi (by assumption)) _).mono ?_; rintro e w' ⟨rfl, hb⟩; have hsz := hb.size))
  go_ret2
  exact ⟨by rw [← hm.out]; rfl, (by repeat (first | exact Below.refl _ _ | assumption | refine bstep ?_ (by assumption) | refine Below.drew ?_ | refine Below.alloc ?_ (by first | (simp; done) | (simp; omega) | omega) _ | refine Below.setCell ?_ (by first | (simp; done) | (simp; omega) | omega) _))⟩
theorem ror_any (a b : Int) (ha : B8 a) (hB : B8 b) (w : World) :
    Calls Tryz.prog 150 #[.int .u8 a, .int .u8 b] w fun e w' => e = .returned (two (orR a b) (evenFM (orR a b))) ∧ Below w.heap.size w w' := by
  have hr : B8 (orR a b) := mergeM_byte ..
  have he := evenFM_byte (orR a b)
  go_enter Tryz.func150, Tryz.ntmps150
  go_wp2_with (first
    | (go_at_call 220; refine (againstOr_any _ _ (by assumption) (by assumption) _).mono ?_; rintro e w' ⟨rfl, rfl⟩)
    | (go_at_call 74; refine (rwith_any _ _ _ (B8.lo (by assumption)) (B8.hi (by assumption)) _).mono ?_; rintro e w' ⟨rfl, rfl⟩)
    | (go_at_call 75; refine (revenF_any _ (B8.lo (by assumption)) (B8.hi (by assumption)) _).mono ?_; rintro e w' ⟨rfl, hb⟩; have hsz := hb.size))
  go_ret2
  exact ⟨rfl, (by repeat (first | exact Below.refl _ _ | assumption | refine bstep ?_ (by assumption) | refine Below.drew ?_ | refine Below.alloc ?_ (by first | (simp; done) | (simp; omega) | omega) _ | refine Below.setCell ?_ (by first | (simp; done) | (simp; omega) | omega) _))⟩
theorem rxor_any (a b : Int) (ha : B8 a) (hB : B8 b) (w : World) :
    Calls Tryz.prog 149 #[.int .u8 a, .int .u8 b] w fun e w' => e = .returned (two (xorR a b) (evenFM (xorR a b))) ∧ Below w.heap.size w w' := by
  have hr : B8 (xorR a b) := mergeM_byte ..
  have he := evenFM_byte (xorR a b)
  go_enter Tryz.func149, Tryz.ntmps149
  go_wp2_with (first
    | (go_at_call 220; refine (againstXor_any _ _ (by assumption) (by assumption) _).mono ?_; rintro e w' ⟨rfl, rfl⟩)
    | (go_at_call 74; refine (rwith_any _ _ _ (B8.lo (by assumption)) (B8.hi (by assumption)) _).mono ?_; rintro e w' ⟨rfl, rfl⟩)
    | (go_at_call 75; refine (revenF_any _ (B8.lo (by assumption)) (B8.hi (by assumption)) _).mono ?_; rintro e w' ⟨rfl, hb⟩; have hsz := hb.size))
  go_ret2
  exact ⟨rfl, (by repeat (first | exact Below.refl _ _ | assumption | refine bstep ?_ (by assumption) | refine Below.drew ?_ | refine Below.alloc ?_ (by first | (simp; done) | (simp; omega) | omega) _ | refine Below.setCell ?_ (by first | (simp; done) | (simp; omega) | omega) _))⟩
theorem ArrIs.there {w : World} {A n : Nat} {v : Nat → Value} (h : ArrIs w A n v) : w.there A 0 n := fun j hj => by
  rw [Nat.zero_add]; exact ⟨by rw [(h j hj).1]; rfl, (h j hj).2⟩
theorem range8 (w : World) (b : Nat) (x0 x1 x2 x3 x4 x5 x6 x7 : Value) (h : w.there b 0 8) : ∀ w2, w.setCells b 0 [x0, x1, x2, x3, x4, x5, x6, x7] = w2 →
    w2.cell? ⟨b, 0, none⟩ = some x0 ∧ w2.cell? ⟨b, 1, none⟩ = some x1 ∧ w2.cell? ⟨b, 2, none⟩ = some x2 ∧ w2.cell? ⟨b, 3, none⟩ = some x3 ∧ w2.cell? ⟨b, 4, none⟩ = some x4 ∧ w2.cell? ⟨b, 5, none⟩ = some x5 ∧ w2.cell? ⟨b, 6, none⟩ = some x6 ∧ w2.cell? ⟨b, 7, none⟩ = some x7 := by
  rintro w2 rfl
  have hc := World.rangeAt_setCells_same w b 0 [x0, x1, x2, x3, x4, x5, x6, x7] h
  exact ⟨hc 0 _ rfl, hc 1 _ rfl, hc 2 _ rfl, hc 3 _ rfl, hc 4 _ rfl, hc 5 _ rfl, hc 6 _ rfl, hc 7 _ rfl⟩
theorem Below.setCells {n : Nat} {w w' : World} (h : Below n w w') {b : Nat} (hb : n ≤ b) : ∀ (vs : List Value) (o : Nat), Below n w (w'.setCells b o vs) := by
  intro vs
  induction vs generalizing w' with
  | nil => intro o; exact h
  | cons v r ih => intro o; exact ih (h.setCell hb _) (o + 1)
theorem lines_any (f a : Int) (hf : B8 f) (ha : B8 a) (w : World) :
    Calls Tryz.prog 274 #[.int .u8 f, .int .u8 a] w fun e w' => e = .returned (v8 (isM f 7) (isM f 6) (isM a 5) (isM f 4) (isM a 3) (isM f 2) (isM f 1) (isM f 0)) ∧ Below w.heap.size w w' := by
  have hf0 := hf.1
  have hf1 := hf.2
  go_enter Tryz.func274, Tryz.ntmps274
  go_wp2_with fail
  refine (rof_any _ hf0 hf1 _).mono ?_
  rintro e w' ⟨rfl, hb⟩
  have hsz := hb.size
  have hlt : w.heap.size < w'.heap.size := by simp only [World.size_alloc] at hsz; omega
  have R := ((arr_v8 w' w false false false false false false false false _ hb).alloc (.cells #[.bool (isM f 7), .bool (isM f 6), .bool (isM a 5), .bool (isM f 4), .bool (isM a 3), .bool (isM f 2), .bool (isM f 1), .bool (isM f 0)] 112)).there
  have hb := Lib.hid hb
  clear hsz
  go_wp2_with (first
    | (go_at_call 122; refine (ris_any _ _ ha.1 ha.2 _).mono ?_; rintro e w' ⟨rfl, rfl⟩)
    | (refine wpList_store_mid rfl _ _ _ rfl _ _ _ rfl rfl R (by kernel_rfl) (by simp [Value.oneCell']) ?_; rw [show (#[Value.bool (isM f 7), .bool (isM f 6), .bool (isM a 5), .bool (isM f 4), .bool (isM a 3), .bool (isM f 2), .bool (isM f 1), .bool (isM f 0)] : Array Value).toList = [Value.bool (isM f 7), .bool (isM f 6), .bool (isM a 5), .bool (isM f 4), .bool (isM a 3), .bool (isM f 2), .bool (isM f 1), .bool (isM f 0)] from rfl]; have hl := range8 _ _ (.bool (isM f 7)) (.bool (isM f 6)) (.bool (isM a 5)) (.bool (isM f 4)) (.bool (isM a 3)) (.bool (isM f 2)) (.bool (isM f 1)) (.bool (isM f 0)) R _ rfl; have hq := Lib.hid (Below.setCells (b := w.heap.size) (show Below w.heap.size w (w'.alloc (.cells #[.bool (isM f 7), .bool (isM f 6), .bool (isM a 5), .bool (isM f 4), .bool (isM a 3), .bool (isM f 2), .bool (isM f 1), .bool (isM f 0)] 112)) from Below.alloc (Below.trans ((Below.refl _ w).alloc (Nat.le_refl _) _) (hb.out.mono (by simp))) (by omega) _) (Nat.le_refl _) [.bool (isM f 7), .bool (isM f 6), .bool (isM a 5), .bool (isM f 4), .bool (isM a 3), .bool (isM f 2), .bool (isM f 1), .bool (isM f 0)] 0); clear R; generalize (w'.alloc _).setCells w.heap.size 0 _ = w2 at hl hq ⊢))
  refine bodyPost_ret (v := v8 (isM f 7) (isM f 6) (isM a 5) (isM f 4) (isM a 3) (isM f 2) (isM f 1) (isM f 0)) (by simp [results, Tryz.f274, go_sem, hl.1, hl.2.1, hl.2.2.1, hl.2.2.2.1, hl.2.2.2.2.1, hl.2.2.2.2.2.1, hl.2.2.2.2.2.2.1, hl.2.2.2.2.2.2.2]) rfl ?_
  exact ⟨rfl, hq.out⟩
theorem rcpl_any (a f : Int) (ha : B8 a) (hf : B8 f) (w : World) :
    Calls Tryz.prog 216 #[.int .u8 a, .int .u8 f] w fun e w' => e = .returned (two (255 - a) (cplF a f)) ∧ Below w.heap.size w w' := by
  have hr : B8 (255 - a) := ⟨by have := ha.2; omega, by have := ha.1; omega⟩
  have a0 := ha.1
  have a1 := ha.2
  go_enter Tryz.func216, Tryz.ntmps216
  go_wp2_with (first
    | (go_at_call 274; refine (lines_any _ _ (by assumption) (by assumption) _).mono ?_; rintro e w' ⟨rfl, hb⟩; have hsz := hb.size)
    | (go_at_call 126; refine (rmake_any _ _ _ _ _ _ _ _ _).mono ?_; rintro e w' ⟨rfl, hb⟩; have hsz := hb.size))
  go_ret2
  exact ⟨rfl, (by repeat (first | exact Below.refl _ _ | assumption | refine bstep ?_ (by assumption) | refine Below.drew ?_ | refine Below.alloc ?_ (by first | (simp; done) | (simp; omega) | omega) _ | refine Below.setCell ?_ (by first | (simp; done) | (simp; omega) | omega) _))⟩
theorem rscf_any (a f : Int) (ha : B8 a) (hf : B8 f) (w : World) :
    Calls Tryz.prog 217 #[.int .u8 a, .int .u8 f] w fun e w' => e = .returned (.int .u8 (scfF a f)) ∧ Below w.heap.size w w' := by
  go_enter Tryz.func217, Tryz.ntmps217
  go_wp2_with (first
    | (go_at_call 274; refine (lines_any _ _ (by assumption) (by assumption) _).mono ?_; rintro e w' ⟨rfl, hb⟩; have hsz := hb.size)
    | (go_at_call 126; refine (rmake_any _ _ _ _ _ _ _ _ _).mono ?_; rintro e w' ⟨rfl, hb⟩; have hsz := hb.size))
  go_ret
  exact ⟨rfl, (by repeat (first | exact Below.refl _ _ | assumption | refine bstep ?_ (by assumption) | refine Below.drew ?_ | refine Below.alloc ?_ (by first | (simp; done) | (simp; omega) | omega) _ | refine Below.setCell ?_ (by first | (simp; done) | (simp; omega) | omega) _))⟩
theorem rccf_any (a f : Int) (ha : B8 a) (hf : B8 f) (w : World) :
    Calls Tryz.prog 218 #[.int .u8 a, .int .u8 f] w fun e w' => e = .returned (.int .u8 (ccfF a f)) ∧ Below w.heap.size w w' := by
  go_enter Tryz.func218, Tryz.ntmps218
  go_wp2_with (first
    | (go_at_call 274; refine (lines_any _ _ (by assumption) (by assumption) _).mono ?_; rintro e w' ⟨rfl, hb⟩; have hsz := hb.size)
    | (go_at_call 126; refine (rmake_any _ _ _ _ _ _ _ _ _).mono ?_; rintro e w' ⟨rfl, hb⟩; have hsz := hb.size))
  go_ret
  exact ⟨rfl, (by repeat (first | exact Below.refl _ _ | assumption | refine bstep ?_ (by assumption) | refine Below.drew ?_ | refine Below.alloc ?_ (by first | (simp; done) | (simp; omega) | omega) _ | refine Below.setCell ?_ (by first | (simp; done) | (simp; omega) | omega) _))⟩
theorem evenFM_bits (r : Int) : isM (evenFM r) 7 = isM r 7 ∧ isM (evenFM r) 6 = (r == 0) ∧ isM (evenFM r) 5 = isM r 5 ∧ isM (evenFM r) 4 = false ∧ isM (evenFM r) 3 = isM r 3 ∧ isM (evenFM r) 2 = evenM r ∧ isM (evenFM r) 1 = false ∧ isM (evenFM r) 0 = false := of_mkM _ _ _ _ _ _ _ _
end
section
attribute [local go_sem ↓] ix8_0 ix8_1 ix8_2 ix8_3 ix8_4 ix8_5 ix8_6 ix8_7
theorem daaR_no (a f N : Int) (h : byM a f = N) (c : isM f 1 = false) : (a + N) % 256 = daaR a f := by unfold daaR; rw [c, h]; rfl
theorem daaR_yes (a f N : Int) (h : byM a f = N) (c : isM f 1 = true) : (a - N) % 256 = daaR a f := by unfold daaR; rw [c, h]; rfl
theorem daaR_0 (a f : Int) (h : byM a f = 0) : a % 256 = daaR a f := by unfold daaR; rw [h]; split <;> omega
theorem byM_is (a f : Int) : byM a f = (if isM f 4 || decide (9 < a % 16) then 6 else 0) + (if isM f 0 || decide (153 < a) then 96 else 0) := rfl
theorem daaF_is (a f : Int) : daaF a f = mkM (isM (daaR a f) 7) (daaR a f == 0) (isM (daaR a f) 5) (isM a 4 != isM (daaR a f) 4) (isM (daaR a f) 3) (evenM (daaR a f)) (isM f 1) (isM f 0 || decide (153 < a)) := rfl
theorem rdaa_any (a f : Int) (ha : B8 a) (hf : B8 f) (w : World) :
    Calls Tryz.prog 215 #[.int .u8 a, .int .u8 f] w fun e w' => e = .returned (two (daaR a f) (daaF a f)) ∧ Below w.heap.size w w' := by
  have a0 := ha.1
  have a1 := ha.2
  have hr := daaR_byte a f
  have he := evenFM_byte (daaR a f)
  have hD := daaF_is a f
  have hN := byM_is a f
  by_cases x2 : 9 < a % 16 <;> by_cases x4 : 153 < a <;> cases c1 : isM f 4 <;> cases c3 : isM f 0 <;> cases c5 : isM f 1
  all_goals
    first | rw [c1, c3, decide_eq_true x2, decide_eq_true x4] at hN | rw [c1, c3, decide_eq_true x2, decide_eq_false x4] at hN | rw [c1, c3, decide_eq_false x2, decide_eq_true x4] at hN | rw [c1, c3, decide_eq_false x2, decide_eq_false x4] at hN
    first | rw [c3, c5, decide_eq_true x4] at hD | rw [c3, c5] at hD
    simp only [Bool.or_true, Bool.or_false, Bool.true_or, Bool.false_or] at hD
    first
      | have hb := daaR_0 a f (hN.trans (by decide))
      | have hb := daaR_yes a f 102 (hN.trans (by decide)) c5
      | have hb := daaR_no a f 102 (hN.trans (by decide)) c5
      | have hb := daaR_yes a f 96 (hN.trans (by decide)) c5
      | have hb := daaR_no a f 96 (hN.trans (by decide)) c5
      | have hb := daaR_yes a f 6 (hN.trans (by decide)) c5
      | have hb := daaR_no a f 6 (hN.trans (by decide)) c5
    clear hN
    have HD := Lib.hid hD
    clear hD
    go_enter Tryz.func215, Tryz.ntmps215
    go_wp2_with fail
    refine (rof_any _ hf.1 hf.2 _).mono ?_
    rintro e w1 ⟨rfl, hb1⟩
    have hs1 := hb1.size
    go_wp2_with fail
    refine (revenF_any _ hr.1 hr.2 _).mono ?_
    rintro e w2 ⟨rfl, hb2⟩
    have hs2 := hb2.size
    have A2 := arr_v8 w2 w1 _ _ _ _ _ _ _ _ _ hb2
    go_wp2_with fail
    refine (rof_any _ he.1 he.2 _).mono ?_
    rintro e w3 ⟨rfl, hb3⟩
    have hs3 := hb3.size
    have c6 := ((A2.kept hb3) 6 (by omega)).1
    simp only [List.getD_cons_succ, List.getD_cons_zero] at c6
    simp only [World.size_alloc] at hs2 hs3
    have hlt : w1.heap.size < w3.heap.size := by omega
    go_wp2_with (first
      | (go_at_call 122; refine (ris_any _ _ (B8.lo (by assumption)) (B8.hi (by assumption)) _).mono ?_; rintro e w' ⟨rfl, rfl⟩)
      | (go_at_call 126; refine (rmake_any _ _ _ _ _ _ _ _ _).mono ?_; rintro e w' ⟨rfl, hb⟩; have hsz := hb.size))
    go_ret2
    obtain ⟨e7, e6, e5, e4, e3, e2, e1, e0⟩ := evenFM_bits (daaR a f)
    rw [e7, e6, e5, e3, e2, HD.out]
    exact ⟨rfl, (by repeat (first | exact Below.refl _ _ | assumption | refine bstep ?_ (by assumption) | refine Below.drew ?_ | refine Below.alloc ?_ (by first | (simp; done) | (simp; omega) | omega) _ | refine Below.setCell ?_ (by first | (simp; done) | (simp; omega) | omega) _))⟩
end
section
attribute [local go_sem ↓] ix8_0 ix8_1 ix8_2 ix8_3 ix8_4 ix8_5 ix8_6 ix8_7
abbrev byteBool (r : Int) (o : Bool) : Value := .tuple #[.int .u8 r, .bool o]
theorem rmoved_left (b : Int) (i : Bool) (hb : B8 b) (w : World) :
    Calls Tryz.prog 210 #[.int .u8 b, .bool true, .bool i] w fun e w' => e = .returned (byteBool (shlM b i) (isM b 7)) ∧ w = w' := by
  have hm := (up_all b hb i).1
  have hm := Lib.hid hm
  have hu : B8 (upTo b) := by unfold upTo; repeat (first | exact B8.zero | apply B8.with)
  go_enter Tryz.func210, Tryz.ntmps210
  go_wp2
  refine wp_loop_rounds 9 ?_
  iterate 9 (rw [rounds_succ]; go_wp2_with (first
    | (go_at_call 122; refine (ris_any _ _ (B8.lo (by assumption)) (B8.hi (by assumption)) _).mono ?_; rintro e w' ⟨rfl, rfl⟩)
    | (go_at_call 74; refine (rwith_any _ _ _ (B8.lo (by repeat (first | exact B8.zero | apply B8.with))) (B8.hi (by repeat (first | exact B8.zero | apply B8.with))) _).mono ?_; rintro e w' ⟨rfl, rfl⟩)))
  go_ret2
  exact ⟨by rw [← hm.out]; rfl, rfl⟩
theorem rmoved_right (b : Int) (i : Bool) (hb : B8 b) (w : World) :
    Calls Tryz.prog 210 #[.int .u8 b, .bool false, .bool i] w fun e w' => e = .returned (byteBool (shrM b i) (isM b 0)) ∧ w = w' := by
  have hm := (up_all b hb i).2
  have hm := Lib.hid hm
  go_enter Tryz.func210, Tryz.ntmps210
  go_wp2
  refine wp_loop_rounds 9 ?_
  iterate 9 (rw [rounds_succ]; go_wp2_with (first
    | (go_at_call 122; refine (ris_any _ _ (B8.lo (by assumption)) (B8.hi (by assumption)) _).mono ?_; rintro e w' ⟨rfl, rfl⟩)
    | (go_at_call 74; refine (rwith_any _ _ _ (B8.lo (by repeat (first | exact B8.zero | apply B8.with))) (B8.hi (by repeat (first | exact B8.zero | apply B8.with))) _).mono ?_; rintro e w' ⟨rfl, rfl⟩)))
  go_ret2
  exact ⟨by rw [← hm.out]; rfl, rfl⟩
theorem rturned_even (k b f : Int) (hk : k = 0 ∨ k = 2 ∨ k = 4 ∨ k = 6) (hb : B8 b) (hf : B8 f) (w : World) :
    Calls Tryz.prog 140 #[.int .i64 k, .int .u8 b, .int .u8 f] w fun e w' => e = .returned (moved (shM k b f) (soutM k b) true) ∧ w = w' := by
  obtain rfl | rfl | rfl | rfl := hk
  all_goals
    go_enter Tryz.func140, Tryz.ntmps140
    go_wp2_with (first
      | (go_at_call 122; refine (ris_any _ _ (B8.lo (by assumption)) (B8.hi (by assumption)) _).mono ?_; rintro e w' ⟨rfl, rfl⟩)
      | (go_at_call 210; refine (rmoved_left _ _ (by assumption) _).mono ?_; rintro e w' ⟨rfl, rfl⟩))
    go_ret3
    exact ⟨rfl, rfl⟩
theorem rturned_odd (k b f : Int) (hk : k = 1 ∨ k = 3 ∨ k = 5 ∨ k = 7) (hb : B8 b) (hf : B8 f) (w : World) :
    Calls Tryz.prog 140 #[.int .i64 k, .int .u8 b, .int .u8 f] w fun e w' => e = .returned (moved (shM k b f) (soutM k b) true) ∧ w = w' := by
  obtain rfl | rfl | rfl | rfl := hk
  all_goals
    go_enter Tryz.func140, Tryz.ntmps140
    go_wp2_with (first
      | (go_at_call 122; refine (ris_any _ _ (B8.lo (by assumption)) (B8.hi (by assumption)) _).mono ?_; rintro e w' ⟨rfl, rfl⟩)
      | (go_at_call 210; refine (rmoved_right _ _ (by assumption) _).mono ?_; rintro e w' ⟨rfl, rfl⟩))
    go_ret3
    exact ⟨rfl, rfl⟩
theorem rturned_yes (k b f : Int) (h0 : 0 ≤ k) (h1 : k < 8) (hb : B8 b) (hf : B8 f) (w : World) :
    Calls Tryz.prog 140 #[.int .i64 k, .int .u8 b, .int .u8 f] w fun e w' => e = .returned (moved (shM k b f) (soutM k b) true) ∧ w = w' := by
  by_cases h : k % 2 = 0
  · exact rturned_even k b f (by omega) hb hf w
  · exact rturned_odd k b f (by omega) hb hf w
theorem rturned_no (k b f : Int) (hk : k < 0 ∨ 8 ≤ k) (hb : B8 b) (hf : B8 f) (w : World) :
    Calls Tryz.prog 140 #[.int .i64 k, .int .u8 b, .int .u8 f] w fun e w' => e = .returned (moved b false false) ∧ w = w' := by
  have n0 : (k == 0) = false := by simp; omega
  have n1 : (k == 1) = false := by simp; omega
  have n2 : (k == 2) = false := by simp; omega
  have n3 : (k == 3) = false := by simp; omega
  have n4 : (k == 4) = false := by simp; omega
  have n5 : (k == 5) = false := by simp; omega
  have n6 : (k == 6) = false := by simp; omega
  have n7 : (k == 7) = false := by simp; omega
  clear hk
  go_enter Tryz.func140, Tryz.ntmps140
  go_wp2
  go_ret3
  exact ⟨rfl, rfl⟩
theorem rdo_any (k b f : Int) (hb : B8 b) (hf : B8 f) (w : World) :
    Calls Tryz.prog 87 #[.int .i64 k, .int .u8 b, .int .u8 f] w fun e w' => e = .returned (two (doR k b f) (doF k b f)) ∧ Below w.heap.size w w' := by
  have hB := hb
  clear hb
  by_cases h : 0 ≤ k ∧ k < 8
  · have er : doR k b f = shM k b f := if_pos h
    have ef : doF k b f = withM (evenFM (shM k b f)) 0 (soutM k b) := if_pos h
    rw [er, ef]
    have hs := shM_byte k b f hB
    obtain ⟨h0, h1⟩ := h
    clear er ef
    have hm := rturned_yes k b f h0 h1 hB hf
    generalize shM k b f = R at hs hm ⊢
    generalize soutM k b = O at hm ⊢
    have he := evenFM_byte R
    clear h0 h1
    go_enter Tryz.func87, Tryz.ntmps87
    go_wp2_with (first
      | (go_at_call 140; refine (hm _).mono ?_; rintro e w' ⟨rfl, rfl⟩)
      | (go_at_call 75; refine (revenF_any _ (B8.lo (by assumption)) (B8.hi (by assumption)) _).mono ?_; rintro e w' ⟨rfl, hb⟩; have hsz := hb.size)
      | (go_at_call 74; refine (rwith_any _ _ _ (B8.lo (by assumption)) (B8.hi (by assumption)) _).mono ?_; rintro e w' ⟨rfl, rfl⟩))
    go_ret2
    exact ⟨rfl, (by repeat (first | exact Below.refl _ _ | assumption | refine bstep ?_ (by assumption) | refine Below.drew ?_ | refine Below.alloc ?_ (by first | (simp; done) | (simp; omega) | omega) _ | refine Below.setCell ?_ (by first | (simp; done) | (simp; omega) | omega) _))⟩
  · have er : doR k b f = b := if_neg h
    have ef : doF k b f = f := if_neg h
    rw [er, ef]
    have hm := rturned_no k b f (by omega) hB hf
    clear h er ef
    go_enter Tryz.func87, Tryz.ntmps87
    go_wp2_with (first
      | (go_at_call 140; refine (hm _).mono ?_; rintro e w' ⟨rfl, rfl⟩))
    go_ret2
    exact ⟨rfl, (by repeat (first | exact Below.refl _ _ | assumption | refine bstep ?_ (by assumption) | refine Below.drew ?_ | refine Below.alloc ?_ (by first | (simp; done) | (simp; omega) | omega) _ | refine Below.setCell ?_ (by first | (simp; done) | (simp; omega) | omega) _))⟩
theorem racc_any (k b f : Int) (hb : B8 b) (hf : B8 f) (w : World) :
    Calls Tryz.prog 219 #[.int .i64 k, .int .u8 b, .int .u8 f] w fun e w' => e = .returned (two (accR k b f) (accF k b f)) ∧ Below w.heap.size w w' := by
  have hB := hb
  clear hb
  by_cases h : 0 ≤ k ∧ k < 4
  · have er : accR k b f = shM k b f := if_pos h
    have ef : accF k b f = linesM f (shM k b f) false false (soutM k b) := if_pos h
    rw [er, ef]
    have hs := shM_byte k b f hB
    obtain ⟨h0, h1⟩ := h
    clear er ef
    have hm := rturned_yes k b f h0 (by omega) hB hf
    generalize shM k b f = R at hs hm ⊢
    generalize soutM k b = O at hm ⊢
    go_enter Tryz.func219, Tryz.ntmps219
    go_wp2_with (first
      | (go_at_call 140; refine (hm _).mono ?_; rintro e w' ⟨rfl, rfl⟩)
      | (go_at_call 124; refine (rof_any _ (B8.lo (by assumption)) (B8.hi (by assumption)) _).mono ?_; rintro e w' ⟨rfl, hb⟩; have hsz := hb.size)
      | (go_at_call 122; refine (ris_any _ _ (B8.lo (by assumption)) (B8.hi (by assumption)) _).mono ?_; rintro e w' ⟨rfl, rfl⟩)
      | (go_at_call 126; refine (rmake_any _ _ _ _ _ _ _ _ _).mono ?_; rintro e w' ⟨rfl, hb⟩; have hsz := hb.size))
    go_ret2
    exact ⟨rfl, (by repeat (first | exact Below.refl _ _ | assumption | refine bstep ?_ (by assumption) | refine Below.drew ?_ | refine Below.alloc ?_ (by first | (simp; done) | (simp; omega) | omega) _ | refine Below.setCell ?_ (by first | (simp; done) | (simp; omega) | omega) _))⟩
  · have er : accR k b f = b := if_neg h
    have ef : accF k b f = f := if_neg h
    rw [er, ef]
    clear er ef
    by_cases h8 : 0 ≤ k ∧ k < 8
    · have hm := rturned_yes k b f h8.1 h8.2 hB hf
      have h3 : 3 < k := by omega
      clear h h8
      go_enter Tryz.func219, Tryz.ntmps219
      go_wp2_with (first
        | (go_at_call 140; refine (hm _).mono ?_; rintro e w' ⟨rfl, rfl⟩))
      go_ret2
      exact ⟨rfl, (by repeat (first | exact Below.refl _ _ | assumption | refine bstep ?_ (by assumption) | refine Below.drew ?_ | refine Below.alloc ?_ (by first | (simp; done) | (simp; omega) | omega) _ | refine Below.setCell ?_ (by first | (simp; done) | (simp; omega) | omega) _))⟩
    · have hm := rturned_no k b f (by omega) hB hf
      clear h h8
      go_enter Tryz.func219, Tryz.ntmps219
      go_wp2_with (first
        | (go_at_call 140; refine (hm _).mono ?_; rintro e w' ⟨rfl, rfl⟩))
      go_ret2
      exact ⟨rfl, (by repeat (first | exact Below.refl _ _ | assumption | refine bstep ?_ (by assumption) | refine Below.drew ?_ | refine Below.alloc ?_ (by first | (simp; done) | (simp; omega) | omega) _ | refine Below.setCell ?_ (by first | (simp; done) | (simp; omega) | omega) _))⟩
theorem rdigit_any (right : Bool) (a b f : Int) (ha : B8 a) (hb : B8 b) (hf : B8 f) (w : World) :
    Calls Tryz.prog 139 #[.bool right, .int .u8 a, .int .u8 b, .int .u8 f] w fun e w' => e = .returned (three (digA right a b) (digB right a b) (evenC (digA right a b) (isM f 0))) ∧ Below w.heap.size w w' := by
  have hB := hb
  clear hb
  have a0 := ha.1
  have a1 := ha.2
  have b0 := hB.1
  have b1 := hB.2
  cases right
  · have hd := digA_byte false a b ha hB
    have he := evenFM_byte (digA false a b)
    go_enter Tryz.func139, Tryz.ntmps139
    go_wp2_with (first
      | (go_at_call 122; refine (ris_any _ _ (B8.lo (by assumption)) (B8.hi (by assumption)) _).mono ?_; rintro e w' ⟨rfl, rfl⟩)
      | (go_at_call 75; refine (revenF_any (digA false a b) (B8.lo (by assumption)) (B8.hi (by assumption)) _).mono ?_; rintro e w' ⟨rfl, hb⟩; have hsz := hb.size)
      | (go_at_call 74; refine (rwith_any _ _ _ (B8.lo (by assumption)) (B8.hi (by assumption)) _).mono ?_; rintro e w' ⟨rfl, rfl⟩))
    go_ret3
    exact ⟨rfl, (by repeat (first | exact Below.refl _ _ | assumption | refine bstep ?_ (by assumption) | refine Below.drew ?_ | refine Below.alloc ?_ (by first | (simp; done) | (simp; omega) | omega) _ | refine Below.setCell ?_ (by first | (simp; done) | (simp; omega) | omega) _))⟩
  · have hd := digA_byte true a b ha hB
    have he := evenFM_byte (digA true a b)
    go_enter Tryz.func139, Tryz.ntmps139
    go_wp2_with (first
      | (go_at_call 122; refine (ris_any _ _ (B8.lo (by assumption)) (B8.hi (by assumption)) _).mono ?_; rintro e w' ⟨rfl, rfl⟩)
      | (go_at_call 75; refine (revenF_any (digA true a b) (B8.lo (by assumption)) (B8.hi (by assumption)) _).mono ?_; rintro e w' ⟨rfl, hb⟩; have hsz := hb.size)
      | (go_at_call 74; refine (rwith_any _ _ _ (B8.lo (by assumption)) (B8.hi (by assumption)) _).mono ?_; rintro e w' ⟨rfl, rfl⟩))
    go_ret3
    exact ⟨rfl, (by repeat (first | exact Below.refl _ _ | assumption | refine bstep ?_ (by assumption) | refine Below.drew ?_ | refine Below.alloc ?_ (by first | (simp; done) | (simp; omega) | omega) _ | refine Below.setCell ?_ (by first | (simp; done) | (simp; omega) | omega) _))⟩
theorem rbit6_any (n b lines f : Int) (hb : B8 b) (hl : B8 lines) (hf : B8 f) (w : World) :
    Calls Tryz.prog 88 #[.int .i64 n, .int .u8 b, .int .u8 lines, .int .u8 f] w fun e w' => e = .returned (.int .u8 (bitF n b lines f)) ∧ Below w.heap.size w w' := by
  have hB := hb
  clear hb
  by_cases h7 : n = 7
  · subst h7
    go_enter Tryz.func88, Tryz.ntmps88
    go_wp2_with (first
      | (go_at_call 124; refine (rof_any _ (B8.lo (by assumption)) (B8.hi (by assumption)) _).mono ?_; rintro e w' ⟨rfl, hb⟩; have hsz := hb.size)
      | (go_at_call 122; refine (ris_any _ _ (B8.lo (by assumption)) (B8.hi (by assumption)) _).mono ?_; rintro e w' ⟨rfl, rfl⟩)
      | (go_at_call 126; refine (rmake_any _ _ _ _ _ _ _ _ _).mono ?_; rintro e w' ⟨rfl, hb⟩; have hsz := hb.size))
    go_ret
    exact ⟨rfl, (by repeat (first | exact Below.refl _ _ | assumption | refine bstep ?_ (by assumption) | refine Below.drew ?_ | refine Below.alloc ?_ (by first | (simp; done) | (simp; omega) | omega) _ | refine Below.setCell ?_ (by first | (simp; done) | (simp; omega) | omega) _))⟩
  · have n7 : (n == 7) = false := by simpa using h7
    have e : bitF n b lines f = mkM false (!isM b n) (isM lines 5) true (isM lines 3) (!isM b n) false (isM f 0) := by unfold bitF; rw [n7]; rfl
    rw [e]
    clear h7 e
    go_enter Tryz.func88, Tryz.ntmps88
    go_wp2_with (first
      | (go_at_call 124; refine (rof_any _ (B8.lo (by assumption)) (B8.hi (by assumption)) _).mono ?_; rintro e w' ⟨rfl, hb⟩; have hsz := hb.size)
      | (go_at_call 122; refine (ris_any _ _ (B8.lo (by assumption)) (B8.hi (by assumption)) _).mono ?_; rintro e w' ⟨rfl, rfl⟩)
      | (go_at_call 126; refine (rmake_any _ _ _ _ _ _ _ _ _).mono ?_; rintro e w' ⟨rfl, hb⟩; have hsz := hb.size))
    go_ret
    exact ⟨rfl, (by repeat (first | exact Below.refl _ _ | assumption | refine bstep ?_ (by assumption) | refine Below.drew ?_ | refine Below.alloc ?_ (by first | (simp; done) | (simp; omega) | omega) _ | refine Below.setCell ?_ (by first | (simp; done) | (simp; omega) | omega) _))⟩
end
end Go.Proofs.YtmnddlkhgajenaaGreatDoor
