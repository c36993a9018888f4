/- Contracts and facts that the claim's proof wants (several texts in one). -/
import Derived.Deep.MidRow
import Derived.BigQuiet
import Derived.Deep.QuietTactic
import Derived.Test.YtibmpaeaicpbcaaGreatDoorNxG1
import Derived.Test.YtibmpaeaicpbcaaGreatDoorNxG2
import Derived.Test.YtibmpaeaicpbcaaGreatDoorNxG3
import Derived.Test.YtibmpaeaicpbcaaGreatDoorNxG5
namespace Go.Proofs.YtibmpaeaicpbcaaGreatDoor
open Go.RowKit
set_option linter.unusedVariables false
set_option linter.unusedSimpArgs false
set_option maxRecDepth 20000
set_option maxHeartbeats 20000000
section
attribute [local go_sem ↓] ix8_0 ix8_1 ix8_2 ix8_3 ix8_4 ix8_5 ix8_6 ix8_7
theorem rwsigned_any (x : Int) (hx : W16 x) (w : World) :
    Calls Tryz.prog 167 #[.int .u16 x] w fun e w' => e = .returned (.int .i64 (signedW x)) ∧ w = w' := by
  have x0 := hx.1
  have x1 := hx.2
  by_cases h : x < 32768
  · have e : signedW x = x := if_pos h
    rw [e]; clear e
    go_enter Tryz.func167, Tryz.ntmps167
    go_wp2
    go_ret
    exact ⟨rfl, rfl⟩
  · have e : signedW x = x - 65536 := if_neg h
    rw [e]; clear e
    go_enter Tryz.func167, Tryz.ntmps167
    go_wp2
    go_ret
    exact ⟨rfl, rfl⟩
theorem rwcarry_any (f : Int) (hf : B8 f) (w : World) :
    Calls Tryz.prog 166 #[.int .u8 f] w fun e w' => e = .returned (.int .i64 (one (isM f 0))) ∧ w = w' := by
  cases h : isM f 0
  all_goals
    go_enter Tryz.func166, Tryz.ntmps166
    go_wp2_with (go_at_call 157; refine (ris_any _ _ (B8.lo (by assumption)) (B8.hi (by assumption)) _).mono ?_; rintro e w' ⟨rfl, rfl⟩)
    go_ret
    exact ⟨rfl, rfl⟩
theorem rlines_any (b0 b1 b2 b3 b4 b5 b6 b7 : Bool) (r : Int) (hr : W16 r) (w : World) :
    Calls Tryz.prog 247 #[v8 b0 b1 b2 b3 b4 b5 b6 b7, .int .u16 r] w fun e w' => e = .returned (v8 b0 b1 (isM (r / 256) 5) b3 (isM (r / 256) 3) b5 b6 b7) ∧ Below w.heap.size w w' := by
  have hh := hr.high
  go_enter Tryz.func247, Tryz.ntmps247
  go_wp2_with (first
    | (go_at_call 89; refine (rhi_any _ (W16.lo (by assumption)) (W16.hi (by assumption)) _).mono ?_; rintro e w' ⟨rfl, rfl⟩)
    | (go_at_call 157; refine (ris_any _ _ (B8.lo (by assumption)) (B8.hi (by assumption)) _).mono ?_; rintro e w' ⟨rfl, rfl⟩))
  refine bodyPost_ret (v := v8 b0 b1 (isM (r / 256) 5) b3 (isM (r / 256) 3) b5 b6 b7) (by simp [results, Tryz.f247, go_sem]) rfl ?_
  exact ⟨rfl, (by repeat (first | exact Below.refl _ _ | assumption | refine bstep ?_ (by assumption) | refine Below.drew ?_ | refine Below.alloc ?_ (by first | (simp; done) | (simp; omega) | omega) _ | refine Below.setCell ?_ (by first | (simp; done) | (simp; omega) | omega) _))⟩
theorem rwresult_any (r : Int) (half over out minus : Bool) (hr : W16 r) (w : World) :
    Calls Tryz.prog 168 #[.int .u16 r, .bool half, .bool over, .bool out, .bool minus] w fun e w' => e = .returned (.int .u8 (wideF r half over minus out)) ∧ Below w.heap.size w w' := by
  have hh := hr.high
  go_enter Tryz.func168, Tryz.ntmps168
  go_wp2_with (first
    | (go_at_call 89; refine (rhi_any _ (W16.lo (by assumption)) (W16.hi (by assumption)) _).mono ?_; rintro e w' ⟨rfl, rfl⟩)
    | (go_at_call 157; refine (ris_any _ _ (B8.lo (by assumption)) (B8.hi (by assumption)) _).mono ?_; rintro e w' ⟨rfl, rfl⟩)
    | (go_at_call 247; refine (rlines_any _ _ _ _ _ _ _ _ _ (by assumption) _).mono ?_; rintro e w' ⟨rfl, hb⟩; have hsz := hb.size)
    | (go_at_call 161; refine (rmake_any _ _ _ _ _ _ _ _ _).mono ?_; rintro e w' ⟨rfl, hb⟩; have hsz := hb.size))
  go_ret
  exact ⟨rfl, (by repeat (first | exact Below.refl _ _ | assumption | refine bstep ?_ (by assumption) | refine Below.drew ?_ | refine Below.alloc ?_ (by first | (simp; done) | (simp; omega) | omega) _ | refine Below.setCell ?_ (by first | (simp; done) | (simp; omega) | omega) _))⟩
theorem rwadd_any (a b f : Int) (ha : W16 a) (hb : W16 b) (hf : B8 f) (w : World) :
    Calls Tryz.prog 177 #[.int .u16 a, .int .u16 b, .int .u8 f] w fun e w' => e = .returned (wtwo (adcW a b false) (addWF a b f)) ∧ Below w.heap.size w w' := by
  have a0 := ha.1
  have a1 := ha.2
  have b0 := hb.1
  have b1 := hb.2
  have hr := adcW_word a b false
  have hs : (a + b) % 65536 = adcW a b false := by unfold adcW one; simp
  clear ha hb
  go_enter Tryz.func177, Tryz.ntmps177
  go_wp2_with (first
    | (go_at_call 159; refine (rof_any _ (B8.lo (by assumption)) (B8.hi (by assumption)) _).mono ?_; rintro e w' ⟨rfl, hb⟩; have hsz := hb.size)
    | (go_at_call 247; refine (rlines_any _ _ _ _ _ _ _ _ _ (by assumption) _).mono ?_; rintro e w' ⟨rfl, hb⟩; have hsz := hb.size)
    | (go_at_call 161; refine (rmake_any _ _ _ _ _ _ _ _ _).mono ?_; rintro e w' ⟨rfl, hb⟩; have hsz := hb.size))
  go_ret2
  exact ⟨rfl, (by repeat (first | exact Below.refl _ _ | assumption | refine bstep ?_ (by assumption) | refine Below.drew ?_ | refine Below.alloc ?_ (by first | (simp; done) | (simp; omega) | omega) _ | refine Below.setCell ?_ (by first | (simp; done) | (simp; omega) | omega) _))⟩
theorem signedW_bounds (a : Int) (h0 : 0 ≤ a) (h1 : a ≤ 65535) : -32768 ≤ signedW a ∧ signedW a ≤ 32767 := by unfold signedW; split <;> omega
theorem rwadc_any (a b f : Int) (ha : W16 a) (hb : W16 b) (hf : B8 f) (w : World) :
    Calls Tryz.prog 84 #[.int .u16 a, .int .u16 b, .int .u8 f] w fun e w' => e = .returned (wtwo (adcW a b (isM f 0)) (adcF a b (isM f 0))) ∧ Below w.heap.size w w' := by
  have hB := hb
  clear hb
  have a0 := ha.1
  have a1 := ha.2
  have b0 := hB.1
  have b1 := hB.2
  have ho := one_bounds (isM f 0)
  have s1 := signedW_bounds a a0 a1
  have s2 := signedW_bounds b b0 b1
  have hr := adcW_word a b (isM f 0)
  have hs : (a + b + one (isM f 0)) % 65536 = adcW a b (isM f 0) := rfl
  cases hv : decide (signedW a + signedW b + one (isM f 0) < -32768)
  all_goals
    have hv0 := Lib.hid hv
    simp at hv
    go_enter Tryz.func84, Tryz.ntmps84
    go_wp2_with (first
      | (go_at_call 166; refine (rwcarry_any _ (by assumption) _).mono ?_; rintro e w' ⟨rfl, rfl⟩)
      | (go_at_call 167; refine (rwsigned_any _ (by assumption) _).mono ?_; rintro e w' ⟨rfl, rfl⟩)
      | (go_at_call 168; refine (rwresult_any _ _ _ _ _ (by assumption) _).mono ?_; rintro e w' ⟨rfl, hb⟩; have hsz := hb.size))
    go_ret2
    refine ⟨?_, (by repeat (first | exact Below.refl _ _ | assumption | refine bstep ?_ (by assumption) | refine Below.drew ?_ | refine Below.alloc ?_ (by first | (simp; done) | (simp; omega) | omega) _ | refine Below.setCell ?_ (by first | (simp; done) | (simp; omega) | omega) _))⟩
    unfold adcF farW
    rw [hv0.out]
    rfl
theorem rwsbc_any (a b f : Int) (ha : W16 a) (hb : W16 b) (hf : B8 f) (w : World) :
    Calls Tryz.prog 81 #[.int .u16 a, .int .u16 b, .int .u8 f] w fun e w' => e = .returned (wtwo (sbcW a b (isM f 0)) (sbcF a b (isM f 0))) ∧ Below w.heap.size w w' := by
  have hB := hb
  clear hb
  have a0 := ha.1
  have a1 := ha.2
  have b0 := hB.1
  have b1 := hB.2
  have ho := one_bounds (isM f 0)
  have s1 := signedW_bounds a a0 a1
  have s2 := signedW_bounds b b0 b1
  have hr := sbcW_word a b (isM f 0)
  have hs : (a - b - one (isM f 0) + 131072) % 65536 = sbcW a b (isM f 0) := by unfold sbcW; omega
  cases hv : decide (signedW a - signedW b - one (isM f 0) < -32768)
  all_goals
    have hv0 := Lib.hid hv
    simp at hv
    go_enter Tryz.func81, Tryz.ntmps81
    go_wp2_with (first
      | (go_at_call 166; refine (rwcarry_any _ (by assumption) _).mono ?_; rintro e w' ⟨rfl, rfl⟩)
      | (go_at_call 167; refine (rwsigned_any _ (by assumption) _).mono ?_; rintro e w' ⟨rfl, rfl⟩)
      | (go_at_call 168; refine (rwresult_any _ _ _ _ _ (by assumption) _).mono ?_; rintro e w' ⟨rfl, hb⟩; have hsz := hb.size))
    go_ret2
    refine ⟨?_, (by repeat (first | exact Below.refl _ _ | assumption | refine bstep ?_ (by assumption) | refine Below.drew ?_ | refine Below.alloc ?_ (by first | (simp; done) | (simp; omega) | omega) _ | refine Below.setCell ?_ (by first | (simp; done) | (simp; omega) | omega) _))⟩
    unfold sbcF farW
    rw [hv0.out]
    rfl
theorem tmod16 (y : Int) : -65535 ≤ y.tmod 65536 ∧ y.tmod 65536 ≤ 65535 ∧ (y.tmod 65536) % 65536 = y % 65536 := by
  rcases Int.le_total 0 y with h | h
  · rw [Int.tmod_eq_emod_of_nonneg h]; omega
  · obtain ⟨z, rfl⟩ : ∃ z, y = -z := ⟨-y, by omega⟩
    rw [Int.neg_tmod, Int.tmod_eq_emod_of_nonneg (by omega)]; omega
theorem wrmove_any (x y : Int) (hx : W16 x) (w : World) :
    Calls Tryz.prog 93 #[.int .u16 x, .int .i64 y] w fun e w' => e = .returned (.int .u16 (moveM x y)) ∧ w = w' := by
  have x0 := hx.1
  have x1 := hx.2
  obtain ⟨t0, t1, t2⟩ := tmod16 y
  obtain ⟨u0, u1, u2⟩ := tmod16 (x + y.tmod 65536)
  have T2 := Lib.hid t2
  have U2 := Lib.hid u2
  clear t2 u2
  go_enter Tryz.func93, Tryz.ntmps93
  go_wp2
  go_ret
  exact ⟨ret_int (by rw [U2.out]; have := T2.out; unfold moveM; omega), rfl⟩
theorem rnear_any (x y : Int) (hx : W16 x) (hy : B8 y) (w : World) :
    Calls Tryz.prog 51 #[.int .u16 x, .int .u8 y] w fun e w' => e = .returned (.int .u16 (moveM x (signedM y))) ∧ w = w' := by
  go_enter Tryz.func51, Tryz.ntmps51
  go_wp2_with (first
    | (go_at_call 94; refine (rsigned_any _ (B8.lo (by assumption)) (B8.hi (by assumption)) _).mono ?_; rintro e w' ⟨rfl, rfl⟩)
    | (go_at_call 93; refine (wrmove_any _ _ (by assumption) _).mono ?_; rintro e w' ⟨rfl, rfl⟩))
  go_ret
  exact ⟨rfl, rfl⟩
end
section
theorem arr_v8 (w' w : World) (b0 b1 b2 b3 b4 b5 b6 b7 : Bool) (t : TypeId) (hb : Below (w.alloc (.cells #[.bool b0, .bool b1, .bool b2, .bool b3, .bool b4, .bool b5, .bool b6, .bool b7] t)).heap.size (w.alloc (.cells #[.bool b0, .bool b1, .bool b2, .bool b3, .bool b4, .bool b5, .bool b6, .bool b7] t)) w') :
    ArrIs w' w.heap.size 8 (fun j => .bool ([b0, b1, b2, b3, b4, b5, b6, b7].getD j false)) :=
  (ArrIs.new w _ t 0 0 _ 8 (.inr rfl) (fun j hj => nat8 (fun j => (#[Value.bool b0, .bool b1, .bool b2, .bool b3, .bool b4, .bool b5, .bool b6, .bool b7] : Array Value)[j]? = some (.bool ([b0, b1, b2, b3, b4, b5, b6, b7].getD j false))) ⟨rfl, rfl, rfl, rfl, rfl, rfl, rfl, rfl⟩ j hj)).kept hb
attribute [local go_sem ↓] ix8_0 ix8_1 ix8_2 ix8_3 ix8_4 ix8_5 ix8_6 ix8_7
def mergeUpto (op : Bool → Bool → Bool) (a b : Int) : Nat → Int
  | 0 => 0
  | k + 1 => withM (mergeUpto op a b k) k (op (isM a k) (isM b k))
theorem mergeUpto_byte (op : Bool → Bool → Bool) (a b : Int) : ∀ k, B8 (mergeUpto op a b k)
  | 0 => B8.zero
  | k + 1 => (mergeUpto_byte op a b k).with _ _
theorem mergeUpto_all (op : Bool → Bool → Bool) (a b : Int) : mergeUpto op a b 8 = mergeM op a b := up_mk _ _ _ _ _ _ _ _
theorem againstAnd_any (a b : Int) (ha : B8 a) (hB : B8 b) (w : World) :
    Calls Tryz.prog 260 #[.int .i64 0, .int .u8 a, .int .u8 b] w fun e w' => e = .returned (.int .u8 (andR a b)) ∧ w = w' := by
  go_enter Tryz.func260, Tryz.ntmps260
  go_wp2
  go_loop [7, 8] (fun r i => ∃ k : Nat, k ≤ 8 ∧ i = .int .i64 k ∧ r = .int .u8 (mergeUpto andB a b k)) (fun _ i => 8 - (intOf i).toNat)
  case atStart => exact ⟨0, by omega, rfl, rfl⟩
  case round =>
    obtain ⟨k, hk, rfl, rfl⟩ := hrel
    have hm := mergeUpto_byte andB a b k
    by_cases hlt : k < 8
    · have HS := Lib.hid (show mergeUpto andB a b (k + 1) = withM (mergeUpto andB a b k) k (andB (isM a k) (isM b k)) from rfl)
      cases c : isM a k <;> cases d : isM b k
      all_goals
        rw [c, d] at HS
        go_wp2_with (first
          | (go_at_call 157; refine (ris_any _ _ (B8.lo (by assumption)) (B8.hi (by assumption)) _).mono ?_; rintro e w' ⟨rfl, rfl⟩)
          | (go_at_call 76; refine (rwith_any _ _ _ (B8.lo (by assumption)) (B8.hi (by assumption)) _).mono ?_; rintro e w' ⟨rfl, rfl⟩))
        go_round
        case rel => exact ⟨k + 1, by omega, by go_num, by rw [HS.out]; rfl⟩
        case measure => simp [intOf]; omega
    · obtain rfl : k = 8 := by omega
      go_wp2
      go_ret
      exact ⟨ret_int (mergeUpto_all _ _ _), rfl⟩
theorem againstOr_any (a b : Int) (ha : B8 a) (hB : B8 b) (w : World) :
    Calls Tryz.prog 260 #[.int .i64 1, .int .u8 a, .int .u8 b] w fun e w' => e = .returned (.int .u8 (orR a b)) ∧ w = w' := by
  go_enter Tryz.func260, Tryz.ntmps260
  go_wp2
  go_loop [7, 8] (fun r i => ∃ k : Nat, k ≤ 8 ∧ i = .int .i64 k ∧ r = .int .u8 (mergeUpto orB a b k)) (fun _ i => 8 - (intOf i).toNat)
  case atStart => exact ⟨0, by omega, rfl, rfl⟩
  case round =>
    obtain ⟨k, hk, rfl, rfl⟩ := hrel
    have hm := mergeUpto_byte orB a b k
    by_cases hlt : k < 8
    · have HS := Lib.hid (show mergeUpto orB a b (k + 1) = withM (mergeUpto orB a b k) k (orB (isM a k) (isM b k)) from rfl)
      cases c : isM a k <;> cases d : isM b k
      all_goals
        rw [c, d] at HS
        go_wp2_with (first
          | (go_at_call 157; refine (ris_any _ _ (B8.lo (by assumption)) (B8.hi (by assumption)) _).mono ?_; rintro e w' ⟨rfl, rfl⟩)
          | (go_at_call 76; refine (rwith_any _ _ _ (B8.lo (by assumption)) (B8.hi (by assumption)) _).mono ?_; rintro e w' ⟨rfl, rfl⟩))
        go_round
        case rel => exact ⟨k + 1, by omega, by go_num, by rw [HS.out]; rfl⟩
        case measure => simp [intOf]; omega
    · obtain rfl : k = 8 := by omega
      go_wp2
      go_ret
      exact ⟨ret_int (mergeUpto_all _ _ _), rfl⟩
theorem againstXor_any (a b : Int) (ha : B8 a) (hB : B8 b) (w : World) :
    Calls Tryz.prog 260 #[.int .i64 2, .int .u8 a, .int .u8 b] w fun e w' => e = .returned (.int .u8 (xorR a b)) ∧ w = w' := by
  go_enter Tryz.func260, Tryz.ntmps260
  go_wp2
  go_loop [7, 8] (fun r i => ∃ k : Nat, k ≤ 8 ∧ i = .int .i64 k ∧ r = .int .u8 (mergeUpto xorB a b k)) (fun _ i => 8 - (intOf i).toNat)
  case atStart => exact ⟨0, by omega, rfl, rfl⟩
  case round =>
    obtain ⟨k, hk, rfl, rfl⟩ := hrel
    have hm := mergeUpto_byte xorB a b k
    by_cases hlt : k < 8
    · have HS := Lib.hid (show mergeUpto xorB a b (k + 1) = withM (mergeUpto xorB a b k) k (xorB (isM a k) (isM b k)) from rfl)
      cases c : isM a k <;> cases d : isM b k
      all_goals
        rw [c, d] at HS
        go_wp2_with (first
          | (go_at_call 157; refine (ris_any _ _ (B8.lo (by assumption)) (B8.hi (by assumption)) _).mono ?_; rintro e w' ⟨rfl, rfl⟩)
          | (go_at_call 76; refine (rwith_any _ _ _ (B8.lo (by assumption)) (B8.hi (by assumption)) _).mono ?_; rintro e w' ⟨rfl, rfl⟩))
        go_round
        case rel => exact ⟨k + 1, by omega, by go_num, by rw [HS.out]; rfl⟩
        case measure => simp [intOf]; omega
    · obtain rfl : k = 8 := by omega
      go_wp2
      go_ret
      exact ⟨ret_int (mergeUpto_all _ _ _), rfl⟩
theorem rand_any (a b : Int) (ha : B8 a) (hB : B8 b) (w : World) :
    Calls Tryz.prog 183 #[.int .u8 a, .int .u8 b] w fun e w' => e = .returned (two (andR a b) (andFl (andR a b))) ∧ Below w.heap.size w w' := by
  have hr : B8 (andR a b) := mergeM_byte ..
  have he := evenFM_byte (andR a b)
  have hm := Lib.hid (andFl_with _ hr)
  go_enter Tryz.func183, Tryz.ntmps183
  go_wp2_with (first
    | (go_at_call 260; refine (againstAnd_any _ _ (by assumption) (by assumption) _).mono ?_; rintro e w' ⟨rfl, rfl⟩)
    | (go_at_call 76; refine (rwith_any _ _ _ (B8.lo (by assumption)) (B8.hi (by assumption)) _).mono ?_; rintro e w' ⟨rfl, rfl⟩)
    | (go_at_call 77; refine (revenF_any _ (B8.lo (by assumption)) (B8.hi (by assumption)) _).mono ?_; rintro e w' ⟨rfl, hb⟩; have hsz := hb.size))
  go_ret2
  exact ⟨by rw [← hm.out]; rfl, (by repeat (first | exact Below.refl _ _ | assumption | refine bstep ?_ (by assumption) | refine Below.drew ?_ | refine Below.alloc ?_ (by first | (simp; done) | (simp; omega) | omega) _ | refine Below.setCell ?_ (by first | (simp; done) | (simp; omega) | omega) _))⟩
theorem ror_any (a b : Int) (ha : B8 a) (hB : B8 b) (w : World) :
    Calls Tryz.prog 185 #[.int .u8 a, .int .u8 b] w fun e w' => e = .returned (two (orR a b) (evenFM (orR a b))) ∧ Below w.heap.size w w' := by
  have hr : B8 (orR a b) := mergeM_byte ..
  have he := evenFM_byte (orR a b)
  go_enter Tryz.func185, Tryz.ntmps185
  go_wp2_with (first
    | (go_at_call 260; refine (againstOr_any _ _ (by assumption) (by assumption) _).mono ?_; rintro e w' ⟨rfl, rfl⟩)
    | (go_at_call 76; refine (rwith_any _ _ _ (B8.lo (by assumption)) (B8.hi (by assumption)) _).mono ?_; rintro e w' ⟨rfl, rfl⟩)
    | (go_at_call 77; refine (revenF_any _ (B8.lo (by assumption)) (B8.hi (by assumption)) _).mono ?_; rintro e w' ⟨rfl, hb⟩; have hsz := hb.size))
  go_ret2
  exact ⟨rfl, (by repeat (first | exact Below.refl _ _ | assumption | refine bstep ?_ (by assumption) | refine Below.drew ?_ | refine Below.alloc ?_ (by first | (simp; done) | (simp; omega) | omega) _ | refine Below.setCell ?_ (by first | (simp; done) | (simp; omega) | omega) _))⟩
theorem rxor_any (a b : Int) (ha : B8 a) (hB : B8 b) (w : World) :
    Calls Tryz.prog 184 #[.int .u8 a, .int .u8 b] w fun e w' => e = .returned (two (xorR a b) (evenFM (xorR a b))) ∧ Below w.heap.size w w' := by
  have hr : B8 (xorR a b) := mergeM_byte ..
  have he := evenFM_byte (xorR a b)
  go_enter Tryz.func184, Tryz.ntmps184
  go_wp2_with (first
    | (go_at_call 260; refine (againstXor_any _ _ (by assumption) (by assumption) _).mono ?_; rintro e w' ⟨rfl, rfl⟩)
    | (go_at_call 76; refine (rwith_any _ _ _ (B8.lo (by assumption)) (B8.hi (by assumption)) _).mono ?_; rintro e w' ⟨rfl, rfl⟩)
    | (go_at_call 77; refine (revenF_any _ (B8.lo (by assumption)) (B8.hi (by assumption)) _).mono ?_; rintro e w' ⟨rfl, hb⟩; have hsz := hb.size))
  go_ret2
  exact ⟨rfl, (by repeat (first | exact Below.refl _ _ | assumption | refine bstep ?_ (by assumption) | refine Below.drew ?_ | refine Below.alloc ?_ (by first | (simp; done) | (simp; omega) | omega) _ | refine Below.setCell ?_ (by first | (simp; done) | (simp; omega) | omega) _))⟩
theorem ArrIs.there {w : World} {A n : Nat} {v : Nat → Value} (h : ArrIs w A n v) : w.there A 0 n := fun j hj => by
  rw [Nat.zero_add]; exact ⟨by rw [(h j hj).1]; rfl, (h j hj).2⟩
theorem range8 (w : World) (b : Nat) (x0 x1 x2 x3 x4 x5 x6 x7 : Value) (h : w.there b 0 8) : ∀ w2, w.setCells b 0 [x0, x1, x2, x3, x4, x5, x6, x7] = w2 →
    w2.cell? ⟨b, 0, none⟩ = some x0 ∧ w2.cell? ⟨b, 1, none⟩ = some x1 ∧ w2.cell? ⟨b, 2, none⟩ = some x2 ∧ w2.cell? ⟨b, 3, none⟩ = some x3 ∧ w2.cell? ⟨b, 4, none⟩ = some x4 ∧ w2.cell? ⟨b, 5, none⟩ = some x5 ∧ w2.cell? ⟨b, 6, none⟩ = some x6 ∧ w2.cell? ⟨b, 7, none⟩ = some x7 := by
  rintro w2 rfl
  have hc := World.rangeAt_setCells_same w b 0 [x0, x1, x2, x3, x4, x5, x6, x7] h
  exact ⟨hc 0 _ rfl, hc 1 _ rfl, hc 2 _ rfl, hc 3 _ rfl, hc 4 _ rfl, hc 5 _ rfl, hc 6 _ rfl, hc 7 _ rfl⟩
theorem Below.setCells {n : Nat} {w w' : World} (h : Below n w w') {b : Nat} (hb : n ≤ b) : ∀ (vs : List Value) (o : Nat), Below n w (w'.setCells b o vs) := by
  intro vs
  induction vs generalizing w' with
  | nil => intro o; exact h
  | cons v r ih => intro o; exact ih (h.setCell hb _) (o + 1)
theorem lines_any (f a : Int) (hf : B8 f) (ha : B8 a) (w : World) :
    Calls Tryz.prog 288 #[.int .u8 f, .int .u8 a] w fun e w' => e = .returned (v8 (isM f 7) (isM f 6) (isM a 5) (isM f 4) (isM a 3) (isM f 2) (isM f 1) (isM f 0)) ∧ Below w.heap.size w w' := by
  have hf0 := hf.1
  have hf1 := hf.2
  go_enter Tryz.func288, Tryz.ntmps288
  go_wp2_with fail
  refine (rof_any _ hf0 hf1 _).mono ?_
  rintro e w' ⟨rfl, hb⟩
  have hsz := hb.size
  have hlt : w.heap.size < w'.heap.size := by simp only [World.size_alloc] at hsz; omega
  have R := ((arr_v8 w' w false false false false false false false false _ hb).alloc (.cells #[.bool (isM f 7), .bool (isM f 6), .bool (isM a 5), .bool (isM f 4), .bool (isM a 3), .bool (isM f 2), .bool (isM f 1), .bool (isM f 0)] 109)).there
  have hb := Lib.hid hb
  clear hsz
  go_wp2_with (first
    | (go_at_call 157; refine (ris_any _ _ ha.1 ha.2 _).mono ?_; rintro e w' ⟨rfl, rfl⟩)
    | (refine wpList_store_mid rfl _ _ _ rfl _ _ _ rfl rfl R (by kernel_rfl) (by simp [Value.oneCell']) ?_; rw [show (#[Value.bool (isM f 7), .bool (isM f 6), .bool (isM a 5), .bool (isM f 4), .bool (isM a 3), .bool (isM f 2), .bool (isM f 1), .bool (isM f 0)] : Array Value).toList = [Value.bool (isM f 7), .bool (isM f 6), .bool (isM a 5), .bool (isM f 4), .bool (isM a 3), .bool (isM f 2), .bool (isM f 1), .bool (isM f 0)] from rfl]; have hl := range8 _ _ (.bool (isM f 7)) (.bool (isM f 6)) (.bool (isM a 5)) (.bool (isM f 4)) (.bool (isM a 3)) (.bool (isM f 2)) (.bool (isM f 1)) (.bool (isM f 0)) R _ rfl; have hq := Lib.hid (Below.setCells (b := w.heap.size) (show Below w.heap.size w (w'.alloc (.cells #[.bool (isM f 7), .bool (isM f 6), .bool (isM a 5), .bool (isM f 4), .bool (isM a 3), .bool (isM f 2), .bool (isM f 1), .bool (isM f 0)] 109)) from Below.alloc (Below.trans ((Below.refl _ w).alloc (Nat.le_refl _) _) (hb.out.mono (by simp))) (by omega) _) (Nat.le_refl _) [.bool (isM f 7), .bool (isM f 6), .bool (isM a 5), .bool (isM f 4), .bool (isM a 3), .bool (isM f 2), .bool (isM f 1), .bool (isM f 0)] 0); clear R; generalize (w'.alloc _).setCells w.heap.size 0 _ = w2 at hl hq ⊢))
  refine bodyPost_ret (v := v8 (isM f 7) (isM f 6) (isM a 5) (isM f 4) (isM a 3) (isM f 2) (isM f 1) (isM f 0)) (by simp [results, Tryz.f288, go_sem, hl.1, hl.2.1, hl.2.2.1, hl.2.2.2.1, hl.2.2.2.2.1, hl.2.2.2.2.2.1, hl.2.2.2.2.2.2.1, hl.2.2.2.2.2.2.2]) rfl ?_
  exact ⟨rfl, hq.out⟩
theorem rcpl_any (a f : Int) (ha : B8 a) (hf : B8 f) (w : World) :
    Calls Tryz.prog 256 #[.int .u8 a, .int .u8 f] w fun e w' => e = .returned (two (255 - a) (cplF a f)) ∧ Below w.heap.size w w' := by
  have hr : B8 (255 - a) := ⟨by have := ha.2; omega, by have := ha.1; omega⟩
  have a0 := ha.1
  have a1 := ha.2
  go_enter Tryz.func256, Tryz.ntmps256
  go_wp2_with (first
    | (go_at_call 288; refine (lines_any _ _ (by assumption) (by assumption) _).mono ?_; rintro e w' ⟨rfl, hb⟩; have hsz := hb.size)
    | (go_at_call 161; refine (rmake_any _ _ _ _ _ _ _ _ _).mono ?_; rintro e w' ⟨rfl, hb⟩; have hsz := hb.size))
  go_ret2
  exact ⟨rfl, (by repeat (first | exact Below.refl _ _ | assumption | refine bstep ?_ (by assumption) | refine Below.drew ?_ | refine Below.alloc ?_ (by first | (simp; done) | (simp; omega) | omega) _ | refine Below.setCell ?_ (by first | (simp; done) | (simp; omega) | omega) _))⟩
theorem rscf_any (a f : Int) (ha : B8 a) (hf : B8 f) (w : World) :
    Calls Tryz.prog 257 #[.int .u8 a, .int .u8 f] w fun e w' => e = .returned (.int .u8 (scfF a f)) ∧ Below w.heap.size w w' := by
  go_enter Tryz.func257, Tryz.ntmps257
  go_wp2_with (first
    | (go_at_call 288; refine (lines_any _ _ (by assumption) (by assumption) _).mono ?_; rintro e w' ⟨rfl, hb⟩; have hsz := hb.size)
    | (go_at_call 161; refine (rmake_any _ _ _ _ _ _ _ _ _).mono ?_; rintro e w' ⟨rfl, hb⟩; have hsz := hb.size))
  go_ret
  exact ⟨rfl, (by repeat (first | exact Below.refl _ _ | assumption | refine bstep ?_ (by assumption) | refine Below.drew ?_ | refine Below.alloc ?_ (by first | (simp; done) | (simp; omega) | omega) _ | refine Below.setCell ?_ (by first | (simp; done) | (simp; omega) | omega) _))⟩
theorem rccf_any (a f : Int) (ha : B8 a) (hf : B8 f) (w : World) :
    Calls Tryz.prog 258 #[.int .u8 a, .int .u8 f] w fun e w' => e = .returned (.int .u8 (ccfF a f)) ∧ Below w.heap.size w w' := by
  go_enter Tryz.func258, Tryz.ntmps258
  go_wp2_with (first
    | (go_at_call 288; refine (lines_any _ _ (by assumption) (by assumption) _).mono ?_; rintro e w' ⟨rfl, hb⟩; have hsz := hb.size)
    | (go_at_call 161; refine (rmake_any _ _ _ _ _ _ _ _ _).mono ?_; rintro e w' ⟨rfl, hb⟩; have hsz := hb.size))
  go_ret
  exact ⟨rfl, (by repeat (first | exact Below.refl _ _ | assumption | refine bstep ?_ (by assumption) | refine Below.drew ?_ | refine Below.alloc ?_ (by first | (simp; done) | (simp; omega) | omega) _ | refine Below.setCell ?_ (by first | (simp; done) | (simp; omega) | omega) _))⟩
theorem evenFM_bits (r : Int) : isM (evenFM r) 7 = isM r 7 ∧ isM (evenFM r) 6 = (r == 0) ∧ isM (evenFM r) 5 = isM r 5 ∧ isM (evenFM r) 4 = false ∧ isM (evenFM r) 3 = isM r 3 ∧ isM (evenFM r) 2 = evenM r ∧ isM (evenFM r) 1 = false ∧ isM (evenFM r) 0 = false := of_mkM _ _ _ _ _ _ _ _
end
section
attribute [local go_sem ↓] ix8_0 ix8_1 ix8_2 ix8_3 ix8_4 ix8_5 ix8_6 ix8_7
theorem daaR_no (a f N : Int) (h : byM a f = N) (c : isM f 1 = false) : (a + N) % 256 = daaR a f := by unfold daaR; rw [c, h]; rfl
theorem daaR_yes (a f N : Int) (h : byM a f = N) (c : isM f 1 = true) : (a - N) % 256 = daaR a f := by unfold daaR; rw [c, h]; rfl
theorem daaR_0 (a f : Int) (h : byM a f = 0) : a % 256 = daaR a f := by unfold daaR; rw [h]; split <;> omega
theorem byM_is (a f : Int) : byM a f = (if isM f 4 || decide (9 < a % 16) then 6 else 0) + (if isM f 0 || decide (153 < a) then 96 else 0) := rfl
theorem daaF_is (a f : Int) : daaF a f = mkM (isM (daaR a f) 7) (daaR a f == 0) (isM (daaR a f) 5) (isM a 4 != isM (daaR a f) 4) (isM (daaR a f) 3) (evenM (daaR a f)) (isM f 1) (isM f 0 || decide (153 < a)) := rfl
theorem rdaa_any (a f : Int) (ha : B8 a) (hf : B8 f) (w : World) :
    Calls Tryz.prog 255 #[.int .u8 a, .int .u8 f] w fun e w' => e = .returned (two (daaR a f) (daaF a f)) ∧ Below w.heap.size w w' := by
  have a0 := ha.1
  have a1 := ha.2
  have hr := daaR_byte a f
  have he := evenFM_byte (daaR a f)
  have hD := daaF_is a f
  have hN := byM_is a f
  by_cases x2 : 9 < a % 16 <;> by_cases x4 : 153 < a <;> cases c1 : isM f 4 <;> cases c3 : isM f 0 <;> cases c5 : isM f 1
  all_goals
    first | rw [c1, c3, decide_eq_true x2, decide_eq_true x4] at hN | rw [c1, c3, decide_eq_true x2, decide_eq_false x4] at hN | rw [c1, c3, decide_eq_false x2, decide_eq_true x4] at hN | rw [c1, c3, decide_eq_false x2, decide_eq_false x4] at hN
    first | rw [c3, c5, decide_eq_true x4] at hD | rw [c3, c5] at hD
    simp only [Bool.or_true, Bool.or_false, Bool.true_or, Bool.false_or] at hD
    first
      | have hb := daaR_0 a f (hN.trans (by decide))
      | have hb := daaR_yes a f 102 (hN.trans (by decide)) c5
      | have hb := daaR_no a f 102 (hN.trans (by decide)) c5
      | have hb := daaR_yes a f 96 (hN.trans (by decide)) c5
      | have hb := daaR_no a f 96 (hN.trans (by decide)) c5
      | have hb := daaR_yes a f 6 (hN.trans (by decide)) c5
      | have hb := daaR_no a f 6 (hN.trans (by decide)) c5
    clear hN
    have HD := Lib.hid hD
    clear hD
    go_enter Tryz.func255, Tryz.ntmps255
    go_wp2_with fail
    refine (rof_any _ hf.1 hf.2 _).mono ?_
    rintro e w1 ⟨rfl, hb1⟩
    have hs1 := hb1.size
    go_wp2_with fail
    refine (revenF_any _ hr.1 hr.2 _).mono ?_
    rintro e w2 ⟨rfl, hb2⟩
    have hs2 := hb2.size
    have A2 := arr_v8 w2 w1 _ _ _ _ _ _ _ _ _ hb2
    go_wp2_with fail
    refine (rof_any _ he.1 he.2 _).mono ?_
    rintro e w3 ⟨rfl, hb3⟩
    have hs3 := hb3.size
    have c6 := ((A2.kept hb3) 6 (by omega)).1
    simp only [List.getD_cons_succ, List.getD_cons_zero] at c6
    simp only [World.size_alloc] at hs2 hs3
    have hlt : w1.heap.size < w3.heap.size := by omega
    go_wp2_with (first
      | (go_at_call 157; refine (ris_any _ _ (B8.lo (by assumption)) (B8.hi (by assumption)) _).mono ?_; rintro e w' ⟨rfl, rfl⟩)
      | (go_at_call 161; refine (rmake_any _ _ _ _ _ _ _ _ _).mono ?_; rintro e w' ⟨rfl, hb⟩; have hsz := hb.size))
    go_ret2
    obtain ⟨e7, e6, e5, e4, e3, e2, e1, e0⟩ := evenFM_bits (daaR a f)
    rw [e7, e6, e5, e3, e2, HD.out]
    exact ⟨rfl, (by repeat (first | exact Below.refl _ _ | assumption | refine bstep ?_ (by assumption) | refine Below.drew ?_ | refine Below.alloc ?_ (by first | (simp; done) | (simp; omega) | omega) _ | refine Below.setCell ?_ (by first | (simp; done) | (simp; omega) | omega) _))⟩
end
section
attribute [local go_sem ↓] ix8_0 ix8_1 ix8_2 ix8_3 ix8_4 ix8_5 ix8_6 ix8_7
abbrev byteBool (r : Int) (o : Bool) : Value := .tuple #[.int .u8 r, .bool o]
theorem rmoved_left (b : Int) (i : Bool) (hb : B8 b) (w : World) :
    Calls Tryz.prog 250 #[.int .u8 b, .bool true, .bool i] w fun e w' => e = .returned (byteBool (shlM b i) (isM b 7)) ∧ w = w' := by
  have hm := (up_all b hb i).1
  have hm := Lib.hid hm
  have hu : B8 (upTo b) := by unfold upTo; repeat (first | exact B8.zero | apply B8.with)
  go_enter Tryz.func250, Tryz.ntmps250
  go_wp2
  refine wp_loop_rounds 9 ?_
  iterate 9 (rw [rounds_succ]; go_wp2_with (first
    | (go_at_call 157; refine (ris_any _ _ (B8.lo (by assumption)) (B8.hi (by assumption)) _).mono ?_; rintro e w' ⟨rfl, rfl⟩)
    | (go_at_call 76; refine (rwith_any _ _ _ (B8.lo (by repeat (first | exact B8.zero | apply B8.with))) (B8.hi (by repeat (first | exact B8.zero | apply B8.with))) _).mono ?_; rintro e w' ⟨rfl, rfl⟩)))
  go_ret2
  exact ⟨by rw [← hm.out]; rfl, rfl⟩
theorem rmoved_right (b : Int) (i : Bool) (hb : B8 b) (w : World) :
    Calls Tryz.prog 250 #[.int .u8 b, .bool false, .bool i] w fun e w' => e = .returned (byteBool (shrM b i) (isM b 0)) ∧ w = w' := by
  have hm := (up_all b hb i).2
  have hm := Lib.hid hm
  go_enter Tryz.func250, Tryz.ntmps250
  go_wp2
  refine wp_loop_rounds 9 ?_
  iterate 9 (rw [rounds_succ]; go_wp2_with (first
    | (go_at_call 157; refine (ris_any _ _ (B8.lo (by assumption)) (B8.hi (by assumption)) _).mono ?_; rintro e w' ⟨rfl, rfl⟩)
    | (go_at_call 76; refine (rwith_any _ _ _ (B8.lo (by repeat (first | exact B8.zero | apply B8.with))) (B8.hi (by repeat (first | exact B8.zero | apply B8.with))) _).mono ?_; rintro e w' ⟨rfl, rfl⟩)))
  go_ret2
  exact ⟨by rw [← hm.out]; rfl, rfl⟩
theorem rturned_even (k b f : Int) (hk : k = 0 ∨ k = 2 ∨ k = 4 ∨ k = 6) (hb : B8 b) (hf : B8 f) (w : World) :
    Calls Tryz.prog 175 #[.int .i64 k, .int .u8 b, .int .u8 f] w fun e w' => e = .returned (moved (shM k b f) (soutM k b) true) ∧ w = w' := by
  obtain rfl | rfl | rfl | rfl := hk
  all_goals
    go_enter Tryz.func175, Tryz.ntmps175
    go_wp2_with (first
      | (go_at_call 157; refine (ris_any _ _ (B8.lo (by assumption)) (B8.hi (by assumption)) _).mono ?_; rintro e w' ⟨rfl, rfl⟩)
      | (go_at_call 250; refine (rmoved_left _ _ (by assumption) _).mono ?_; rintro e w' ⟨rfl, rfl⟩))
    go_ret3
    exact ⟨rfl, rfl⟩
theorem rturned_odd (k b f : Int) (hk : k = 1 ∨ k = 3 ∨ k = 5 ∨ k = 7) (hb : B8 b) (hf : B8 f) (w : World) :
    Calls Tryz.prog 175 #[.int .i64 k, .int .u8 b, .int .u8 f] w fun e w' => e = .returned (moved (shM k b f) (soutM k b) true) ∧ w = w' := by
  obtain rfl | rfl | rfl | rfl := hk
  all_goals
    go_enter Tryz.func175, Tryz.ntmps175
    go_wp2_with (first
      | (go_at_call 157; refine (ris_any _ _ (B8.lo (by assumption)) (B8.hi (by assumption)) _).mono ?_; rintro e w' ⟨rfl, rfl⟩)
      | (go_at_call 250; refine (rmoved_right _ _ (by assumption) _).mono ?_; rintro e w' ⟨rfl, rfl⟩))
    go_ret3
    exact ⟨rfl, rfl⟩
theorem rturned_yes (k b f : Int) (h0 : 0 ≤ k) (h1 : k < 8) (hb : B8 b) (hf : B8 f) (w : World) :
    Calls Tryz.prog 175 #[.int .i64 k, .int .u8 b, .int .u8 f] w fun e w' => e = .returned (moved (shM k b f) (soutM k b) true) ∧ w = w' := by
  by_cases h : k % 2 = 0
  · exact rturned_even k b f (by omega) hb hf w
  · exact rturned_odd k b f (by omega) hb hf w
theorem rturned_no (k b f : Int) (hk : k < 0 ∨ 8 ≤ k) (hb : B8 b) (hf : B8 f) (w : World) :
    Calls Tryz.prog 175 #[.int .i64 k, .int .u8 b, .int .u8 f] w fun e w' => e = .returned (moved b false false) ∧ w = w' := by
  have n0 : (k == 0) = false := by simp; omega
  have n1 : (k == 1) = false := by simp; omega
  have n2 : (k == 2) = false := by simp; omega
  have n3 : (k == 3) = false := by simp; omega
  have n4 : (k == 4) = false := by simp; omega
  have n5 : (k == 5) = false := by simp; omega
  have n6 : (k == 6) = false := by simp; omega
  have n7 : (k == 7) = false := by simp; omega
  clear hk
  go_enter Tryz.func175, Tryz.ntmps175
  go_wp2
  go_ret3
  exact ⟨rfl, rfl⟩
theorem rdo_any (k b f : Int) (hb : B8 b) (hf : B8 f) (w : World) :
    Calls Tryz.prog 90 #[.int .i64 k, .int .u8 b, .int .u8 f] w fun e w' => e = .returned (two (doR k b f) (doF k b f)) ∧ Below w.heap.size w w' := by
  have hB := hb
  clear hb
  by_cases h : 0 ≤ k ∧ k < 8
  · have er : doR k b f = shM k b f := if_pos h
    have ef : doF k b f = withM (evenFM (shM k b f)) 0 (soutM k b) := if_pos h
    rw [er, ef]
    have hs := shM_byte k b f hB
    obtain ⟨h0, h1⟩ := h
    clear er ef
    have hm := rturned_yes k b f h0 h1 hB hf
    generalize shM k b f = R at hs hm ⊢
    generalize soutM k b = O at hm ⊢
    have he := evenFM_byte R
    clear h0 h1
    go_enter Tryz.func90, Tryz.ntmps90
    go_wp2_with (first
      | (go_at_call 175; refine (hm _).mono ?_; rintro e w' ⟨rfl, rfl⟩)
      | (go_at_call 77; refine (revenF_any _ (B8.lo (by assumption)) (B8.hi (by assumption)) _).mono ?_; rintro e w' ⟨rfl, hb⟩; have hsz := hb.size)
      | (go_at_call 76; refine (rwith_any _ _ _ (B8.lo (by assumption)) (B8.hi (by assumption)) _).mono ?_; rintro e w' ⟨rfl, rfl⟩))
    go_ret2
    exact ⟨rfl, (by repeat (first | exact Below.refl _ _ | assumption | refine bstep ?_ (by assumption) | refine Below.drew ?_ | refine Below.alloc ?_ (by first | (simp; done) | (simp; omega) | omega) _ | refine Below.setCell ?_ (by first | (simp; done) | (simp; omega) | omega) _))⟩
  · have er : doR k b f = b := if_neg h
    have ef : doF k b f = f := if_neg h
    rw [er, ef]
    have hm := rturned_no k b f (by omega) hB hf
    clear h er ef
    go_enter Tryz.func90, Tryz.ntmps90
    go_wp2_with (first
      | (go_at_call 175; refine (hm _).mono ?_; rintro e w' ⟨rfl, rfl⟩))
    go_ret2
    exact ⟨rfl, (by repeat (first | exact Below.refl _ _ | assumption | refine bstep ?_ (by assumption) | refine Below.drew ?_ | refine Below.alloc ?_ (by first | (simp; done) | (simp; omega) | omega) _ | refine Below.setCell ?_ (by first | (simp; done) | (simp; omega) | omega) _))⟩
theorem racc_any (k b f : Int) (hb : B8 b) (hf : B8 f) (w : World) :
    Calls Tryz.prog 259 #[.int .i64 k, .int .u8 b, .int .u8 f] w fun e w' => e = .returned (two (accR k b f) (accF k b f)) ∧ Below w.heap.size w w' := by
  have hB := hb
  clear hb
  by_cases h : 0 ≤ k ∧ k < 4
  · have er : accR k b f = shM k b f := if_pos h
    have ef : accF k b f = linesM f (shM k b f) false false (soutM k b) := if_pos h
    rw [er, ef]
    have hs := shM_byte k b f hB
    obtain ⟨h0, h1⟩ := h
    clear er ef
    have hm := rturned_yes k b f h0 (by omega) hB hf
    generalize shM k b f = R at hs hm ⊢
    generalize soutM k b = O at hm ⊢
    go_enter Tryz.func259, Tryz.ntmps259
    go_wp2_with (first
      | (go_at_call 175; refine (hm _).mono ?_; rintro e w' ⟨rfl, rfl⟩)
      | (go_at_call 159; refine (rof_any _ (B8.lo (by assumption)) (B8.hi (by assumption)) _).mono ?_; rintro e w' ⟨rfl, hb⟩; have hsz := hb.size)
      | (go_at_call 157; refine (ris_any _ _ (B8.lo (by assumption)) (B8.hi (by assumption)) _).mono ?_; rintro e w' ⟨rfl, rfl⟩)
      | (go_at_call 161; refine (rmake_any _ _ _ _ _ _ _ _ _).mono ?_; rintro e w' ⟨rfl, hb⟩; have hsz := hb.size))
    go_ret2
    exact ⟨rfl, (by repeat (first | exact Below.refl _ _ | assumption | refine bstep ?_ (by assumption) | refine Below.drew ?_ | refine Below.alloc ?_ (by first | (simp; done) | (simp; omega) | omega) _ | refine Below.setCell ?_ (by first | (simp; done) | (simp; omega) | omega) _))⟩
  · have er : accR k b f = b := if_neg h
    have ef : accF k b f = f := if_neg h
    rw [er, ef]
    clear er ef
    by_cases h8 : 0 ≤ k ∧ k < 8
    · have hm := rturned_yes k b f h8.1 h8.2 hB hf
      have h3 : 3 < k := by omega
      clear h h8
      go_enter Tryz.func259, Tryz.ntmps259
      go_wp2_with (first
        | (go_at_call 175; refine (hm _).mono ?_; rintro e w' ⟨rfl, rfl⟩))
      go_ret2
      exact ⟨rfl, (by repeat (first | exact Below.refl _ _ | assumption | refine bstep ?_ (by assumption) | refine Below.drew ?_ | refine Below.alloc ?_ (by first | (simp; done) | (simp; omega) | omega) _ | refine Below.setCell ?_ (by first | (simp; done) | (simp; omega) | omega) _))⟩
    · have hm := rturned_no k b f (by omega) hB hf
      clear h h8
      go_enter Tryz.func259, Tryz.ntmps259
      go_wp2_with (first
        | (go_at_call 175; refine (hm _).mono ?_; rintro e w' ⟨rfl, rfl⟩))
      go_ret2
      exact ⟨rfl, (by repeat (first | exact Below.refl _ _ | assumption | refine bstep ?_ (by assumption) | refine Below.drew ?_ | refine Below.alloc ?_ (by first | (simp; done) | (simp; omega) | omega) _ | refine Below.setCell ?_ (by first | (simp; done) | (simp; omega) | omega) _))⟩
theorem rdigit_any (right : Bool) (a b f : Int) (ha : B8 a) (hb : B8 b) (hf : B8 f) (w : World) :
    Calls Tryz.prog 174 #[.bool right, .int .u8 a, .int .u8 b, .int .u8 f] w fun e w' => e = .returned (three (digA right a b) (digB right a b) (evenC (digA right a b) (isM f 0))) ∧ Below w.heap.size w w' := by
  have hB := hb
  clear hb
  have a0 := ha.1
  have a1 := ha.2
  have b0 := hB.1
  have b1 := hB.2
  cases right
  · have hd := digA_byte false a b ha hB
    have he := evenFM_byte (digA false a b)
    go_enter Tryz.func174, Tryz.ntmps174
    go_wp2_with (first
      | (go_at_call 157; refine (ris_any _ _ (B8.lo (by assumption)) (B8.hi (by assumption)) _).mono ?_; rintro e w' ⟨rfl, rfl⟩)
      | (go_at_call 77; refine (revenF_any (digA false a b) (B8.lo (by assumption)) (B8.hi (by assumption)) _).mono ?_; rintro e w' ⟨rfl, hb⟩; have hsz := hb.size)
      | (go_at_call 76; refine (rwith_any _ _ _ (B8.lo (by assumption)) (B8.hi (by assumption)) _).mono ?_; rintro e w' ⟨rfl, rfl⟩))
    go_ret3
    exact ⟨rfl, (by repeat (first | exact Below.refl _ _ | assumption | refine bstep ?_ (by assumption) | refine Below.drew ?_ | refine Below.alloc ?_ (by first | (simp; done) | (simp; omega) | omega) _ | refine Below.setCell ?_ (by first | (simp; done) | (simp; omega) | omega) _))⟩
  · have hd := digA_byte true a b ha hB
    have he := evenFM_byte (digA true a b)
    go_enter Tryz.func174, Tryz.ntmps174
    go_wp2_with (first
      | (go_at_call 157; refine (ris_any _ _ (B8.lo (by assumption)) (B8.hi (by assumption)) _).mono ?_; rintro e w' ⟨rfl, rfl⟩)
      | (go_at_call 77; refine (revenF_any (digA true a b) (B8.lo (by assumption)) (B8.hi (by assumption)) _).mono ?_; rintro e w' ⟨rfl, hb⟩; have hsz := hb.size)
      | (go_at_call 76; refine (rwith_any _ _ _ (B8.lo (by assumption)) (B8.hi (by assumption)) _).mono ?_; rintro e w' ⟨rfl, rfl⟩))
    go_ret3
    exact ⟨rfl, (by repeat (first | exact Below.refl _ _ | assumption | refine bstep ?_ (by assumption) | refine Below.drew ?_ | refine Below.alloc ?_ (by first | (simp; done) | (simp; omega) | omega) _ | refine Below.setCell ?_ (by first | (simp; done) | (simp; omega) | omega) _))⟩
theorem rbit6_any (n b lines f : Int) (hb : B8 b) (hl : B8 lines) (hf : B8 f) (w : World) :
    Calls Tryz.prog 91 #[.int .i64 n, .int .u8 b, .int .u8 lines, .int .u8 f] w fun e w' => e = .returned (.int .u8 (bitF n b lines f)) ∧ Below w.heap.size w w' := by
  have hB := hb
  clear hb
  by_cases h7 : n = 7
  · subst h7
    go_enter Tryz.func91, Tryz.ntmps91
    go_wp2_with (first
      | (go_at_call 159; refine (rof_any _ (B8.lo (by assumption)) (B8.hi (by assumption)) _).mono ?_; rintro e w' ⟨rfl, hb⟩; have hsz := hb.size)
      | (go_at_call 157; refine (ris_any _ _ (B8.lo (by assumption)) (B8.hi (by assumption)) _).mono ?_; rintro e w' ⟨rfl, rfl⟩)
      | (go_at_call 161; refine (rmake_any _ _ _ _ _ _ _ _ _).mono ?_; rintro e w' ⟨rfl, hb⟩; have hsz := hb.size))
    go_ret
    exact ⟨rfl, (by repeat (first | exact Below.refl _ _ | assumption | refine bstep ?_ (by assumption) | refine Below.drew ?_ | refine Below.alloc ?_ (by first | (simp; done) | (simp; omega) | omega) _ | refine Below.setCell ?_ (by first | (simp; done) | (simp; omega) | omega) _))⟩
  · have n7 : (n == 7) = false := by simpa using h7
    have e : bitF n b lines f = mkM false (!isM b n) (isM lines 5) true (isM lines 3) (!isM b n) false (isM f 0) := by unfold bitF; rw [n7]; rfl
    rw [e]
    clear h7 e
    go_enter Tryz.func91, Tryz.ntmps91
    go_wp2_with (first
      | (go_at_call 159; refine (rof_any _ (B8.lo (by assumption)) (B8.hi (by assumption)) _).mono ?_; rintro e w' ⟨rfl, hb⟩; have hsz := hb.size)
      | (go_at_call 157; refine (ris_any _ _ (B8.lo (by assumption)) (B8.hi (by assumption)) _).mono ?_; rintro e w' ⟨rfl, rfl⟩)
      | (go_at_call 161; refine (rmake_any _ _ _ _ _ _ _ _ _).mono ?_; rintro e w' ⟨rfl, hb⟩; have hsz := hb.size))
    go_ret
    exact ⟨rfl, (by repeat (first | exact Below.refl _ _ | assumption | refine bstep ?_ (by assumption) | refine Below.drew ?_ | refine Below.alloc ?_ (by first | (simp; done) | (simp; omega) | omega) _ | refine Below.setCell ?_ (by first | (simp; done) | (simp; omega) | omega) _))⟩
end
section
attribute [local go_sem ↓] ix8_0 ix8_1 ix8_2 ix8_3 ix8_4 ix8_5 ix8_6 ix8_7
theorem rmove_any (a b bc f : Int) (ha : B8 a) (hB : B8 b) (hf : B8 f) (h0 : 0 ≤ bc) (h1 : bc ≤ 65535) (w : World) :
    Calls Tryz.prog 149 #[.int .u8 a, .int .u8 b, .int .u16 bc, .int .u8 f] w fun e w' => e = .returned (.int .u8 (moveF a b bc f)) ∧ Below w.heap.size w w' := by
  have hn := plusM_byte a b
  have hq : (a + b) % 256 = plusM a b := rfl
  have a0 := ha.1; have a1 := ha.2; have b0 := hB.1; have b1 := hB.2
  go_enter Tryz.func149, Tryz.ntmps149
  go_wp2_with (first
    | (go_at_call 159; refine (rof_any _ hf.1 hf.2 _).mono ?_; rintro e w' ⟨rfl, hb⟩; have hsz := hb.size)
    | (go_at_call 157; refine (ris_any _ _ (B8.lo (by assumption)) (B8.hi (by assumption)) _).mono ?_; rintro e w' ⟨rfl, rfl⟩)
    | (go_at_call 161; refine (rmake_any _ _ _ _ _ _ _ _ _).mono ?_; rintro e w' ⟨rfl, hb⟩; have hsz := hb.size))
  go_ret
  exact ⟨rfl, (by repeat (first | exact Below.refl _ _ | assumption | refine bstep ?_ (by assumption) | refine Below.drew ?_ | refine Below.alloc ?_ (by first | (simp; done) | (simp; omega) | omega) _ | refine Below.setCell ?_ (by first | (simp; done) | (simp; omega) | omega) _))⟩
theorem rfind_any (a b bc f : Int) (ha : B8 a) (hB : B8 b) (hf : B8 f) (h0 : 0 ≤ bc) (h1 : bc ≤ 65535) (w : World) :
    Calls Tryz.prog 150 #[.int .u8 a, .int .u8 b, .int .u16 bc, .int .u8 f] w fun e w' => e = .returned (.int .u8 (findF a b bc f)) ∧ Below w.heap.size w w' := by
  have hn := lessM_byte a b
  have hs := Lib.hid (fun w => rsub_any a b false ha hB w)
  have hg := subF_byte a b false
  have hr := subR_byte a b false
  have r0 := hr.1
  have r1 := hr.2
  have hm : Hid (findF a b bc f = mkM (isM (subF a b false) 7) (isM (subF a b false) 6) (isM (lessM a b) 1) (isM (subF a b false) 4) (isM (lessM a b) 3) (bc != 0) true (isM f 0)) := Lib.hid rfl
  cases hc : isM (subF a b false) 4
  · have hl := lessM_no a b hc
    rw [hc] at hm
    generalize hR : subR a b false = R at *
    generalize hG : subF a b false = G at *
    clear hR hG
    subst hl
    go_enter Tryz.func150, Tryz.ntmps150
    go_wp2_with (first
      | (go_at_call 171; refine (hs.out _).mono ?_; rintro e w' ⟨rfl, hb⟩; have hsz := hb.size)
      | (go_at_call 159; refine (rof_any _ (B8.lo (by assumption)) (B8.hi (by assumption)) _).mono ?_; rintro e w' ⟨rfl, hb⟩; have hsz := hb.size)
      | (go_at_call 157; refine (ris_any _ _ (B8.lo (by assumption)) (B8.hi (by assumption)) _).mono ?_; rintro e w' ⟨rfl, rfl⟩)
      | (go_at_call 161; refine (rmake_any _ _ _ _ _ _ _ _ _).mono ?_; rintro e w' ⟨rfl, hb⟩; have hsz := hb.size))
    go_ret
    exact ⟨by rw [hm.out]; rfl, (by repeat (first | exact Below.refl _ _ | assumption | refine bstep ?_ (by assumption) | refine Below.drew ?_ | refine Below.alloc ?_ (by first | (simp; done) | (simp; omega) | omega) _ | refine Below.setCell ?_ (by first | (simp; done) | (simp; omega) | omega) _))⟩
  · have hl := lessM_yes a b hc
    rw [hc] at hm
    generalize hR : subR a b false = R at *
    generalize hG : subF a b false = G at *
    clear hR hG
    go_enter Tryz.func150, Tryz.ntmps150
    go_wp2_with (first
      | (go_at_call 171; refine (hs.out _).mono ?_; rintro e w' ⟨rfl, hb⟩; have hsz := hb.size)
      | (go_at_call 159; refine (rof_any _ (B8.lo (by assumption)) (B8.hi (by assumption)) _).mono ?_; rintro e w' ⟨rfl, hb⟩; have hsz := hb.size)
      | (go_at_call 157; refine (ris_any _ _ (B8.lo (by assumption)) (B8.hi (by assumption)) _).mono ?_; rintro e w' ⟨rfl, rfl⟩)
      | (go_at_call 161; refine (rmake_any _ _ _ _ _ _ _ _ _).mono ?_; rintro e w' ⟨rfl, hb⟩; have hsz := hb.size))
    go_ret
    exact ⟨by rw [hm.out]; rfl, (by repeat (first | exact Below.refl _ _ | assumption | refine bstep ?_ (by assumption) | refine Below.drew ?_ | refine Below.alloc ?_ (by first | (simp; done) | (simp; omega) | omega) _ | refine Below.setCell ?_ (by first | (simp; done) | (simp; omega) | omega) _))⟩
def diffUpto (a b : Int) : Nat → Int
  | 0 => 0
  | k + 1 => withM (diffUpto a b k) k (xorB (isM a k) (isM b k))
theorem diffUpto_byte (a b : Int) : ∀ k, B8 (diffUpto a b k)
  | 0 => B8.zero
  | k + 1 => (diffUpto_byte a b k).with _ _
theorem diffUpto_all (a b : Int) : diffUpto a b 8 = xorR a b := up_mk _ _ _ _ _ _ _ _
theorem counted_any (b left k : Int) (hB : B8 b) (hL : B8 left) (k0 : 0 ≤ k) (k1 : k ≤ 510) (w : World) :
    Calls Tryz.prog 245 #[.int .u8 b, .int .u8 left, .int .i64 k] w fun e w' => e = .returned (.int .u8 (passF b k left)) ∧ Below w.heap.size w w' := by
  have hr := resultM_byte left
  have hx := diffUpto_all (k % 8) left
  have h8 : B8 (k % 8) := ⟨by omega, by omega⟩
  go_enter Tryz.func245, Tryz.ntmps245
  go_wp2_with (first
    | (go_at_call 173; refine (rresult_any _ (B8.lo (by assumption)) (B8.hi (by assumption)) _).mono ?_; rintro e w' ⟨rfl, hb⟩; have hsz := hb.size)
    | (go_at_call 159; refine (rof_any _ (B8.lo (by assumption)) (B8.hi (by assumption)) _).mono ?_; rintro e w' ⟨rfl, hb⟩; have hsz := hb.size))
  obtain ⟨e7, e6, e5, e4, e3, e2, e1, e0⟩ := resultM_bits left
  rw [e7, e6, e5, e4, e3, e2, e1, e0]
  clear e7 e6 e5 e4 e3 e2 e1 e0
  go_loop [8, 9] (fun p i => ∃ n : Nat, n ≤ 8 ∧ i = .int .i64 n ∧ p = .int .u8 (diffUpto (k % 8) left n)) (fun _ i => 8 - (intOf i).toNat)
  case atStart => exact ⟨0, by omega, rfl, rfl⟩
  case round =>
    obtain ⟨n, hn, rfl, rfl⟩ := hrel
    have hp := diffUpto_byte (k % 8) left n
    by_cases hlt : n < 8
    · have HS := Lib.hid (show diffUpto (k % 8) left (n + 1) = withM (diffUpto (k % 8) left n) n (xorB (isM (k % 8) n) (isM left n)) from rfl)
      go_wp2_with (first
        | (go_at_call 157; refine (ris_any _ _ (B8.lo (by assumption)) (B8.hi (by assumption)) _).mono ?_; rintro e w' ⟨rfl, rfl⟩)
        | (go_at_call 76; refine (rwith_any _ _ _ (B8.lo (by assumption)) (B8.hi (by assumption)) _).mono ?_; rintro e w' ⟨rfl, rfl⟩))
      go_round
      case rel => exact ⟨n + 1, by omega, by go_num, by rw [HS.out]; rfl⟩
      case measure => simp [intOf]; omega
    · obtain rfl : n = 8 := by omega
      rw [hx] at hp ⊢
      go_wp2_with (first
        | (go_at_call 160; refine (reven_any _ (B8.lo (by assumption)) (B8.hi (by assumption)) _).mono ?_; rintro e w' ⟨rfl, rfl⟩)
        | (go_at_call 157; refine (ris_any _ _ (B8.lo (by assumption)) (B8.hi (by assumption)) _).mono ?_; rintro e w' ⟨rfl, rfl⟩)
        | (go_at_call 161; refine (rmake_any _ _ _ _ _ _ _ _ _).mono ?_; rintro e w' ⟨rfl, hb⟩; have hsz := hb.size))
      go_ret
      exact ⟨rfl, (by repeat (first | exact Below.refl _ _ | assumption | refine bstep ?_ (by assumption) | refine Below.drew ?_ | refine Below.alloc ?_ (by first | (simp; done) | (simp; omega) | omega) _ | refine Below.setCell ?_ (by first | (simp; done) | (simp; omega) | omega) _))⟩
theorem tmod256 (y : Int) : -255 ≤ y.tmod 256 ∧ y.tmod 256 ≤ 255 ∧ (y.tmod 256) % 256 = y % 256 := by
  rcases Int.le_total 0 y with h | h
  · rw [Int.tmod_eq_emod_of_nonneg h]; omega
  · obtain ⟨z, rfl⟩ : ∃ z, y = -z := ⟨-y, by omega⟩
    rw [Int.neg_tmod, Int.tmod_eq_emod_of_nonneg (by omega)]; omega
theorem rtake_any (b c left s : Int) (hB : B8 b) (hc : B8 c) (hL : B8 left) (w : World) :
    Calls Tryz.prog 152 #[.int .u8 b, .int .u8 c, .int .u8 left, .int .i64 s] w fun e w' => e = .returned (.int .u8 (passF b (b + byC c s) left)) ∧ Below w.heap.size w w' := by
  have hr := byC_byte c s
  have r0 := hr.1; have r1 := hr.2
  have b0 := hB.1; have b1 := hB.2; have c0 := hc.1; have c1 := hc.2
  obtain ⟨t0, t1, t2⟩ := tmod256 s
  have hq : ∀ x : Int, -255 ≤ x → x ≤ 510 → x % 256 = byC c s → (x.tmod 256 + 256).tmod 256 = byC c s := by
    intro x x0 x1 hx
    obtain ⟨u0, u1, u2⟩ := tmod256 x
    rw [Int.tmod_eq_emod_of_nonneg (by omega)]; omega
  have hu := hq (c + s.tmod 256) (by omega) (by omega) (by unfold byC; omega)
  obtain ⟨v0, v1, -⟩ := tmod256 (c + s.tmod 256)
  clear hq t2
  go_enter Tryz.func152, Tryz.ntmps152
  go_wp2_with (first
    | (go_at_call 245; refine (counted_any _ _ _ (by assumption) (by assumption) (by omega) (by omega) _).mono ?_; rintro e w' ⟨rfl, hb⟩; have hsz := hb.size))
  go_ret
  exact ⟨rfl, (by repeat (first | exact Below.refl _ _ | assumption | refine bstep ?_ (by assumption) | refine Below.drew ?_ | refine Below.alloc ?_ (by first | (simp; done) | (simp; omega) | omega) _ | refine Below.setCell ?_ (by first | (simp; done) | (simp; omega) | omega) _))⟩
theorem rgive_any (b l left : Int) (hB : B8 b) (hl : B8 l) (hL : B8 left) (w : World) :
    Calls Tryz.prog 154 #[.int .u8 b, .int .u8 l, .int .u8 left] w fun e w' => e = .returned (.int .u8 (passF b (b + l) left)) ∧ Below w.heap.size w w' := by
  have b0 := hB.1; have b1 := hB.2; have l0 := hl.1; have l1 := hl.2
  go_enter Tryz.func154, Tryz.ntmps154
  go_wp2_with (first
    | (go_at_call 245; refine (counted_any _ _ _ (by assumption) (by assumption) (by omega) (by omega) _).mono ?_; rintro e w' ⟨rfl, hb⟩; have hsz := hb.size))
  go_ret
  exact ⟨rfl, (by repeat (first | exact Below.refl _ _ | assumption | refine bstep ?_ (by assumption) | refine Below.drew ?_ | refine Below.alloc ?_ (by first | (simp; done) | (simp; omega) | omega) _ | refine Below.setCell ?_ (by first | (simp; done) | (simp; omega) | omega) _))⟩
theorem ragain_any (kind f : Int) (hf : B8 f) (w : World) :
    Calls Tryz.prog 155 #[.int .i64 kind, .int .u8 f] w fun e w' => e = .returned (.bool (againM kind f)) ∧ Below w.heap.size w w' := by
  by_cases hc : kind < 0 ∨ 4 ≤ kind
  · rw [againM_out kind f hc]
    have n0 : (kind == 0) = false := by simp; omega
    have n1 : (kind == 1) = false := by simp; omega
    have n2 : (kind == 2) = false := by simp; omega
    have n3 : (kind == 3) = false := by simp; omega
    clear hc
    go_enter Tryz.func155, Tryz.ntmps155
    go_wp2_with (first
      | (go_at_call 159; refine (rof_any _ (B8.lo (by assumption)) (B8.hi (by assumption)) _).mono ?_; rintro e w' ⟨rfl, hb⟩; have hsz := hb.size))
    go_ret
    exact ⟨rfl, (by repeat (first | exact Below.refl _ _ | assumption | refine bstep ?_ (by assumption) | refine Below.drew ?_ | refine Below.alloc ?_ (by first | (simp; done) | (simp; omega) | omega) _ | refine Below.setCell ?_ (by first | (simp; done) | (simp; omega) | omega) _))⟩
  · obtain rfl | rfl | rfl | rfl : kind = 0 ∨ kind = 1 ∨ kind = 2 ∨ kind = 3 := by omega
    all_goals
      clear hc
      cases hp : isM f 2
      all_goals
        go_enter Tryz.func155, Tryz.ntmps155
        go_wp2_with (first
          | (go_at_call 159; refine (rof_any _ (B8.lo (by assumption)) (B8.hi (by assumption)) _).mono ?_; rintro e w' ⟨rfl, hb⟩; have hsz := hb.size))
        go_ret
        exact ⟨ret_bool (by simp [againM, hp]), (by repeat (first | exact Below.refl _ _ | assumption | refine bstep ?_ (by assumption) | refine Below.drew ?_ | refine Below.alloc ?_ (by first | (simp; done) | (simp; omega) | omega) _ | refine Below.setCell ?_ (by first | (simp; done) | (simp; omega) | omega) _))⟩
end
theorem aW_byte {s : Ws} (h : WsB s) : B8 s.a := h.r.af.hi
theorem fW_byte {s : Ws} (h : WsB s) : B8 s.f := h.r.af.lo8
theorem hlW_word {s : Ws} (h : WsB s) : Wd16 s.hl := h.r.pair _ _
theorem idxS (ad : Addr) (n cap : Nat) (i : Int) (k : Nat) (hk : i = k) (hlt : k < n) (w : World) : (Instr.indexAt 25 (.slice (some ad) n cap) (.int .i64 i)).run Tryz.prog w = .ok (.pointer (some (ad.add k))) w := by
  subst hk
  have h0 : (k : Int) < n := by omega
  simp [go_sem, hlt]
theorem w_cycle (k : Int) (a : Int) (hAa : Wd16 a) (b : Int) (hAb : B8 b) (t : Int) {s : Ws} {xs : List Int} {z : Zs} {w : World} {p B : Nat} (h : AtW w p B s xs z) :
    Calls Tryz.prog 26 #[pT p 0, .int .i64 k, .int .u16 a, .int .u8 b, .int .i64 t] w (OutX w p B .u8 xs ((cycW ⟨k, a, b, t⟩ s).runZ xs z)) := by
  obtain ⟨pos, lacks, asked⟩ := z
  have hz := h.frozen
  cases lacks with
  | true =>
    have e : (cycW ⟨k, a, b, t⟩ s).runZ xs ⟨pos, true, asked⟩ = ((0, s), ⟨pos, true, asked⟩) := by simp [cycW, Tr.runZ]
    have c22 := h.cell 22 (.bool true) (fun _ _ _ => rfl)
    go_enter Tryz.func26, Tryz.ntmps26
    go_wp2
    exact retI 10 (.int .u8 0) rfl (by kernel_rfl) rfl (OutX.ok (k := .u8) e B8.zero (NowW.begin h))
  | false =>
    have c22 := h.cell 22 (.bool false) (fun _ _ _ => rfl)
    have c21 := h.cell 21 (.int .i64 (pos : Int)) (fun _ _ _ => rfl)
    have hpos := h.pos
    have hbig := h.big
    have h0 := h
    have hb8 := h.bytes
    obtain ⟨⟨A, cap, hc, hr, hby⟩, hl, h8, hm, ht, hg⟩ := h0
    have c20 : w.cell? ⟨p, 20, none⟩ = some (.slice A xs.length cap) := hr.cell 20
    have c23 := hr.cell 23
    have c24 := hr.cell 24
    have c25 := hr.cell 25
    have c26 := hr.cell 26
    simp only [wC] at c23 c24 c25 c26
    have z21 := hr.frozen 21
    have z22 := hr.frozen 22
    have z23 := hr.frozen 23
    have z24 := hr.frozen 24
    have z25 := hr.frozen 25
    have z26 := hr.frozen 26
    clear hz
    by_cases hle : xs.length ≤ pos
    · have e : (cycW ⟨k, a, b, t⟩ s).runZ xs ⟨pos, false, asked⟩ = ((0, s), ⟨pos, true, ⟨k, a, b, t⟩⟩) := by simp [cycW, Tr.runZ, hle]
      have hge : (xs.length : Int) ≤ (pos : Int) := by omega
      go_enter Tryz.func26, Tryz.ntmps26
      go_wp2_with fail
      go_quiet (fail)
      go_wp2
      have hR : Row (w.drewN nq) p 52 (wC s A xs.length cap ⟨pos, false, asked⟩) := hr
      have hR2 := ((((hR.set 22 (.bool true)).set 23 (.int .i64 k)).set 24 (.int .u16 a)).set 25 (.int .u8 b)).set 26 (.int .i64 t)
      have hO : ∀ c, c ≠ p → ((((((w.drewN nq).setCell ⟨p, 22, none⟩ (.bool true)).setCell ⟨p, 23, none⟩ (.int .i64 k)).setCell ⟨p, 24, none⟩ (.int .u16 a)).setCell ⟨p, 25, none⟩ (.int .u8 b)).setCell ⟨p, 26, none⟩ (.int .i64 t)).heap[c]? = w.heap[c]? := fun c hc =>
        (Below.heap_setCell _ _ _ c hc).trans ((Below.heap_setCell _ _ _ c hc).trans ((Below.heap_setCell _ _ _ c hc).trans ((Below.heap_setCell _ _ _ c hc).trans (Below.heap_setCell _ _ _ c hc))))
      refine retI 10 (.int .u8 0) rfl (by kernel_rfl) rfl (OutX.ok (k := .u8) e B8.zero ⟨⟨⟨A, cap, hc, hR2, hby.keep fun c hlt => hO c (by omega)⟩, hl, h8, hm, ht, hg⟩, ⟨rfl, rfl, rfl, by simp [World.setCell], fun c _ n1 _ => hO c n1⟩⟩)
    · have e : (cycW ⟨k, a, b, t⟩ s).runZ xs ⟨pos, false, asked⟩ = ((xs.getD pos 0, s), ⟨pos + 1, false, asked⟩) := by simp [cycW, Tr.runZ, hle]
      have hge : ¬ (xs.length : Int) ≤ (pos : Int) := by omega
      obtain ⟨ad, hA, hlt, hcell⟩ := hby.at_ (k := pos) (by omega)
      subst hA
      go_enter Tryz.func26, Tryz.ntmps26
      go_wp2_with fail
      go_quiet (fail)
      go_wp2_with fail
      have hR : Row (w.drewN nq) p 52 (wC s (some ad) xs.length cap ⟨pos, false, asked⟩) := hr
      have hR2 := hR.set 21 (.int .i64 ((pos : Int) + 1))
      have hO : ∀ c, c ≠ p → ((w.drewN nq).setCell ⟨p, 21, none⟩ (.int .i64 ((pos : Int) + 1))).heap[c]? = w.heap[c]? := fun c hc => Below.heap_setCell _ _ _ c hc
      have hcell2 : ((w.drewN nq).setCell ⟨p, 21, none⟩ (.int .i64 ((pos : Int) + 1))).cell? (ad.add pos) = some (.int .u8 (xs.getD pos 0)) := (World.cell?_of_block (hO _ (by rw [add_block]; omega))).trans hcell
      have hbes : Besides p p w ((w.drewN nq).setCell ⟨p, 21, none⟩ (.int .i64 ((pos : Int) + 1))) := ⟨rfl, rfl, rfl, by simp [World.setCell], fun c _ n1 _ => hO c n1⟩
      have hat : AtW ((w.drewN nq).setCell ⟨p, 21, none⟩ (.int .i64 ((pos : Int) + 1))) p B s xs ⟨pos + 1, false, asked⟩ := ⟨⟨some ad, cap, hc, hR2, hby.keep fun c hlt => hO c (by omega)⟩, hl, h8, hm, by show pos + 1 ≤ xs.length; omega, hg⟩
      clear c20 c21 c22 c23 c24 c25 c26 z21 z22 z23 z24 z25 z26 hcell hby hr h hR
      generalize (w.drewN nq).setCell ⟨p, 21, none⟩ (.int .i64 ((pos : Int) + 1)) = W1 at *
      refine part_start 11 (fun w' => w' = W1.drew) (by kernel_rfl) (by kernel_rfl) rfl ?_
      intro w2 _ hS
      refine yM 0 44 (pT p 0) hS <| yN 1 45 p 0 hS <| yF 2 46 (fW1 p) hS <| yG 3 47 (.slice (some ad) xs.length cap) rfl (fun w hS => by subst hS; exact heLoad rfl (by kernel_rfl) (ldS (hR2.drew.cell 20))) hS <| yM 4 48 (pT p 0) hS <| yN 5 49 p 0 hS <| yF 6 50 (fW2 p) hS <| yG 7 51 (.int .i64 ((pos : Int) + 1)) rfl (fun w hS => by subst hS; exact heLoad rfl (by kernel_rfl) (ldI (hR2.drew.cell 21))) hS <| yG 8 52 (.int .i64 ((pos : Int) + 1 - 1)) rfl (fun w hS => heBin (V := .int .i64 ((pos : Int) + 1)) (W := .int .i64 1) (R := .int .i64 ((pos : Int) + 1 - 1)) rfl (by kernel_rfl) (by kernel_rfl) (egI _ _ _ _ _) (bSubI _ _ (by omega) (by omega)) w) hS <| yG 9 53 (.pointer (some (ad.add pos))) rfl (fun w hS => heIndex (V := .slice (some ad) xs.length cap) (W := .int .i64 ((pos : Int) + 1 - 1)) rfl (by kernel_rfl) (by kernel_rfl) (idxS ad xs.length cap _ pos (by omega) (by omega) w)) hS <| yG 10 54 (.int .u8 (xs.getD pos 0)) rfl (fun w hS => by subst hS; exact heLoad rfl (by kernel_rfl) (ld8 hcell2)) hS ?_
      refine part_end (by kernel_rfl) ?_
      simp only [List.drop_succ_cons, List.drop_zero]
      try simp only [Act.put, sA, sB, sC]
      refine oA 10 (.int .u8 (xs.getD pos 0)) ?_
      refine endL ?_
      try simp only [Act.put, sA, sB, sC]
      go_wp2_with fail
      subst hS
      exact retI 10 (.int .u8 (xs.getD pos 0)) rfl (by kernel_rfl) rfl (OutX.ok (k := .u8) e (hb8.getD pos) ⟨hat.drew, hbes.drew⟩)
section
variable {ops : Array Oper} {Q : Exit → Act → World → Prop} {w w0 : World} {o : Oper} {rest : List Oper} {base : List Value} {l : Slots} {p B : Nat} {s : Ws} {xs : List Int} {z : Zs}
def wK (s : Ws) (z : Zs) : Cells := (((wC s none 0 0 z).toList.map some).set 20 none)
theorem wK_kn (s : Ws) (z : Zs) (A : Option Addr) (n cap : Nat) : Kn (wK s z) (wC s A n cap z) := by
  refine ⟨by simp [wK], fun k v hk => ?_⟩
  by_cases e : k = 20
  · subst e; simp [wK] at hk
  · rw [wK, List.getElem?_set_ne (Ne.symm e)] at hk
    have h0 : (wC s none 0 0 z)[k]? = some v := by
      rw [← Array.getElem?_toList]
      exact map_some_at hk
    have h1 : wC s A n cap z = (wC s none 0 0 z).setIfInBounds 20 (.slice A n cap) := rfl
    rw [h1, Array.getElem?_setIfInBounds_ne (Ne.symm e)]
    exact h0
theorem wK_back {s s' : Ws} {z : Zs} {A : Option Addr} {n cap : Nat} {full : Array Value} (hk : Kn (wK s' z) full) (hs : Same (wK s z) (wC s A n cap z) (wK s' z) full) : full = wC s' A n cap z := by
  apply Array.ext_getElem?
  intro k
  by_cases e : k = 20
  · subst e
    have := (hs 20 (by simp [wK])).2
    rw [this]; rfl
  · have hkn := wK_kn s' z A n cap
    by_cases hl : k < 31
    · have hsome : ∃ v, (wK s' z)[k]? = some (some v) := by
        rw [wK, List.getElem?_set_ne (Ne.symm e), List.getElem?_map]
        have : k < (wC s' none 0 0 z).toList.length := hl
        rw [List.getElem?_eq_getElem this]
        exact ⟨_, rfl⟩
      obtain ⟨v, hv⟩ := hsome
      rw [hk.at_ k v hv, hkn.at_ k v hv]
    · rw [Array.getElem?_eq_none (by rw [hk.size]; simp [wK]; omega), Array.getElem?_eq_none (by simp; omega)]
abbrev eW (P : Program) (ops : Array Oper) (w : World) (p : Nat) (base : List Value) (os : List Oper) (l : Slots) (s : Ws) (z : Zs) : Ev := evs P ops w p base.length base os l (wK s z) [] []
theorem NowW.put {w' : World} {A : Option Addr} {cap : Nat} {s' : Ws} (hn : NowW w0 p B s xs z w) (hc : xs.length ≤ cap) (hby : BytesIn w B A xs) (hm : WsB s') (hr : Row w' p 52 (wC s' A xs.length cap z)) (hb : Besides p p w w') : NowW w0 p B s' xs z w' := by
  have k : ∀ b, b < B → w'.heap[b]? = w.heap[b]? := fun b hlt => hb.block b (by have := hn.at_.lt; have := hn.at_.low; omega) (by have := hn.at_.low; omega) (by have := hn.at_.low; omega)
  exact ⟨⟨⟨A, cap, hc, hr, hby.keep k⟩, hn.at_.low, hn.at_.bytes, hm, hn.at_.pos, hn.at_.big⟩, hn.bes.trans hb⟩
theorem zR (n : Nat) (hn : NowW w0 p B s xs z w) (h : WO Tryz.prog ops Q base (rest.drop n) (eW Tryz.prog ops w p base (rest.take n) l s z).l w) (ha : (rest.take n).all noSt = true := by kernel_rfl)
    (hk : okE (eW Tryz.prog ops w p base (rest.take n) l s z) (wK s z) := by unfold okE; kernel_rfl) : WO Tryz.prog ops Q base rest l w := by
  obtain ⟨A, cap, hc, hr, hby⟩ := hn.at_.row
  exact evs_run n hr (wK_kn ..) hk fun w' _ e _ _ _ _ => by rw [e ha]; exact h
theorem zFs (hn : NowW w0 p B s xs z w) (s' : Ws) (hm : WsB s') (h : ∀ w', NowW w0 p B s' xs z w' → EO Q .normal base (eW Tryz.prog ops w p base rest l s z).l w')
    (hk : okE (eW Tryz.prog ops w p base rest l s z) (wK s' z) := by unfold okE; kernel_rfl) : WO Tryz.prog ops Q base rest l w := by
  obtain ⟨A, cap, hc, hr, hby⟩ := hn.at_.row
  exact evs_all hr (wK_kn ..) hk fun w' full' _ hr' hK hs hb => woE (h w' (hn.put hc hby hm (by rw [← wK_back hK hs]; exact hr') hb))
theorem zF (hn : NowW w0 p B s xs z w) (h : EO Q .normal base (eW Tryz.prog ops w p base rest l s z).l w) (ha : rest.all noSt = true := by kernel_rfl)
    (hk : okE (eW Tryz.prog ops w p base rest l s z) (wK s z) := by unfold okE; kernel_rfl) : WO Tryz.prog ops Q base rest l w := by
  obtain ⟨A, cap, hc, hr, hby⟩ := hn.at_.row
  exact evs_all hr (wK_kn ..) hk fun w' _ e _ _ _ _ => by rw [e ha]; exact woE h
theorem zEs {y : Code} (hn : NowW w0 p B s xs z w) (s' : Ws) (hm : WsB s') (h : ∀ w', NowW w0 p B s' xs z w' → CO Tryz.prog y Q base (eW Tryz.prog ops w p base rest l s z).l w')
    (hk : okE (eW Tryz.prog ops w p base rest l s z) (wK s' z) := by unfold okE; kernel_rfl) : WO Tryz.prog ops (Exit.then (y.wp Tryz.prog Q) Q) base rest l w := zFs hn s' hm (fun w' k => eoT (h w' k)) hk
theorem zE {y : Code} (hn : NowW w0 p B s xs z w) (h : CO Tryz.prog y Q base (eW Tryz.prog ops w p base rest l s z).l w) (ha : rest.all noSt = true := by kernel_rfl)
    (hk : okE (eW Tryz.prog ops w p base rest l s z) (wK s z) := by unfold okE; kernel_rfl) : WO Tryz.prog ops (Exit.then (y.wp Tryz.prog Q) Q) base rest l w := zF hn (eoT h) ha hk
theorem zQs {y : Code} {id : Nat} (hn : NowW w0 p B s xs z w) (s' : Ws) (hm : WsB s') (h : ∀ w', NowW w0 p B s' xs z w' → CO Tryz.prog y Q base (eW Tryz.prog rest.toArray w p base rest l s z).l w')
    (hk : okE (eW Tryz.prog rest.toArray w p base rest l s z) (wK s' z) := by unfold okE; kernel_rfl) : CO Tryz.prog (.seq (.region id rest.toArray false) y) Q base l w := coR (zEs hn s' hm h hk)
theorem zQ {y : Code} {id : Nat} (hn : NowW w0 p B s xs z w) (h : CO Tryz.prog y Q base (eW Tryz.prog rest.toArray w p base rest l s z).l w) (ha : rest.all noSt = true := by kernel_rfl)
    (hk : okE (eW Tryz.prog rest.toArray w p base rest l s z) (wK s z) := by unfold okE; kernel_rfl) : CO Tryz.prog (.seq (.region id rest.toArray false) y) Q base l w := coR (zE hn h ha hk)
def SW (w0 : World) (p B : Nat) (s : Ws) (xs : List Int) (z : Zs) (w : World) : Prop := NowW w0 p B s xs z w
theorem zP (n : Nat) {id : Nat} {y : Code} (hn : NowW w0 p B s xs z w) (h : ∀ w', NowW w0 p B s xs z w' → PO Tryz.prog ops (Exit.then (y.wp Tryz.prog Q) Q) (SW w0 p B s xs z) n base n (Array.replicate ops.size false) l w')
    (hB : partB ops n = true := by kernel_rfl) (hm : (Tryz.prog).follows .mixedOrders = true := by kernel_rfl) : CO Tryz.prog (.seq (.region id ops true) y) Q base l w := coP n hn.drew (h _ hn.drew) hB hm
theorem zPz (n : Nat) {id : Nat} (hn : NowW w0 p B s xs z w) (h : ∀ w', NowW w0 p B s xs z w' → PO Tryz.prog ops Q (SW w0 p B s xs z) n base n (Array.replicate ops.size false) l w')
    (hB : partB ops n = true := by kernel_rfl) (hm : (Tryz.prog).follows .mixedOrders = true := by kernel_rfl) : CO Tryz.prog (.region id ops true) Q base l w := coPz n hn.drew (h _ hn.drew) hB hm
theorem zD {n f : Nat} {listed : Array Bool} (is : List Nat) (hn : NowW w0 p B s xs z w) (h : PO Tryz.prog ops Q (SW w0 p B s xs z) n base (f - is.length) (setO is listed) (eW Tryz.prog ops w p base (atO ops is) l s z).l w)
    (hk : okE (eW Tryz.prog ops w p base (atO ops is) l s z) (wK s z) := by unfold okE; kernel_rfl) (ha : ((atO ops is).all noSt && (ordB ops n is listed && (partB ops n && Nat.ble is.length f))) = true := by kernel_rfl)
    (hQ : ∀ d v c a w, Q (.panic c) (a.put d v) w → Q (.panic c) a w := by intro d _ _ _ _ h; cases d <;> exact h) : PO Tryz.prog ops Q (SW w0 p B s xs z) n base f listed l w := by
  simp only [Bool.and_eq_true] at ha
  obtain ⟨a1, a2, a3, a4⟩ := ha
  simp only [okE, Prod.mk.injEq] at hk
  obtain ⟨h1, _, h3, h4⟩ := hk
  have hle : is.length ≤ f := by simpa using a4
  have := part_run (cs := wK s z) (ty := 52) (base := base) (W := w) a3 hQ (fun w' hs => by
    have hs : NowW w0 p B s xs z w' := hs
    obtain ⟨A, cap, hc, hr, hby⟩ := hs.at_.row
    exact ⟨_, hr, wK_kn ..⟩) is (f - is.length) listed l [] [] w h1 (pairs_eq h3) (pairs_eq h4) a1 a2 hn h
  rwa [Nat.sub_add_cancel hle] at this
theorem zDo' {n f : Nat} {listed : Array Bool} {V : Value} {N : World → Prop} {g : FuncId} {args : Array Value} (i : Nat) (hc : Calls Tryz.prog g args w fun e w' => e = .returned V ∧ N w' ∧ SW w0 p B s xs z w') (h : ∀ w', N w' → SW w0 p B s xs z w' → PO Tryz.prog ops Q (SW w0 p B s xs z) n base (f - 1) (listed.setIfInBounds i true) (putO o.dst V l) w')
    (ho : ops[i]? = some o := by exact rfl) (hr : (Region.ready .any ops listed, decide (i < n), Nat.blt 0 f, wantO ops base.length base l o, dstO o.dst base.length) = ([i], true, true, some true, true) := by kernel_rfl)
    (he : (execOp (evO base l) o).run Tryz.prog w = .ok (.enter g args) w := by kernel_rfl) : PO Tryz.prog ops Q (SW w0 p B s xs z) n base f listed l w := by
  simp only [Prod.mk.injEq] at hr
  obtain ⟨h1, h2, h3, h4, h5⟩ := hr
  have hf : f = (f - 1) + 1 := by have : 0 < f := by simpa [Nat.blt_eq] using h3
                                  omega
  rw [hf]
  exact poCall ho h1 h2 h4 he h5 hc fun e w' ⟨e1, e2, e3⟩ => by subst e1; exact ⟨e3, h w' e2 e3⟩
theorem zDo {n f : Nat} {listed : Array Bool} {V : Value} {g : FuncId} {args : Array Value} (i : Nat) (hc : Calls Tryz.prog g args w fun e w' => e = .returned V ∧ NowW w0 p B s xs z w') (h : ∀ w', NowW w0 p B s xs z w' → PO Tryz.prog ops Q (SW w0 p B s xs z) n base (f - 1) (listed.setIfInBounds i true) (putO o.dst V l) w')
    (ho : ops[i]? = some o := by exact rfl) (hr : (Region.ready .any ops listed, decide (i < n), Nat.blt 0 f, wantO ops base.length base l o, dstO o.dst base.length) = ([i], true, true, some true, true) := by kernel_rfl)
    (he : (execOp (evO base l) o).run Tryz.prog w = .ok (.enter g args) w := by kernel_rfl) : PO Tryz.prog ops Q (SW w0 p B s xs z) n base f listed l w :=
  zDo' i (hc.mono fun e w' k => ⟨k.1, k.2, k.2⟩) (fun w' k _ => h w' k) ho hr he
theorem zDe {n f : Nat} {listed : Array Bool} {V : Value} {g : FuncId} {args : Array Value} (i : Nat) (hc : Calls Tryz.prog g args w fun e w' => e = .returned V ∧ w = w') (hn : NowW w0 p B s xs z w) (h : PO Tryz.prog ops Q (SW w0 p B s xs z) n base (f - 1) (listed.setIfInBounds i true) (putO o.dst V l) w)
    (ho : ops[i]? = some o := by exact rfl) (hr : (Region.ready .any ops listed, decide (i < n), Nat.blt 0 f, wantO ops base.length base l o, dstO o.dst base.length) = ([i], true, true, some true, true) := by kernel_rfl)
    (he : (execOp (evO base l) o).run Tryz.prog w = .ok (.enter g args) w := by kernel_rfl) : PO Tryz.prog ops Q (SW w0 p B s xs z) n base f listed l w :=
  zDo' i (hc.mono fun e w' k => ⟨k.1, k.2, by rw [← k.2]; exact hn⟩) (fun w' e _ => by rw [← e]; exact h) ho hr he
theorem zDb {n f : Nat} {listed : Array Bool} {V : Value} {g : FuncId} {args : Array Value} (i : Nat) (hc : Calls Tryz.prog g args w fun e w' => e = .returned V ∧ Below w.heap.size w w') (hn : NowW w0 p B s xs z w) (h : ∀ w', NowW w0 p B s xs z w' → PO Tryz.prog ops Q (SW w0 p B s xs z) n base (f - 1) (listed.setIfInBounds i true) (putO o.dst V l) w')
    (ho : ops[i]? = some o := by exact rfl) (hr : (Region.ready .any ops listed, decide (i < n), Nat.blt 0 f, wantO ops base.length base l o, dstO o.dst base.length) = ([i], true, true, some true, true) := by kernel_rfl)
    (he : (execOp (evO base l) o).run Tryz.prog w = .ok (.enter g args) w := by kernel_rfl) : PO Tryz.prog ops Q (SW w0 p B s xs z) n base f listed l w :=
  zDo i (hc.mono fun e w' k => ⟨k.1, hn.below k.2⟩) h ho hr he
theorem zDa {n f : Nat} {listed : Array Bool} {V : Value} {g : FuncId} {args : Array Value} (i : Nat) (hc : Calls Tryz.prog g args w fun e w' => e = .returned V ∧ NowW w p B s xs z w') (hn : NowW w0 p B s xs z w) (h : ∀ w', NowW w0 p B s xs z w' → PO Tryz.prog ops Q (SW w0 p B s xs z) n base (f - 1) (listed.setIfInBounds i true) (putO o.dst V l) w')
    (ho : ops[i]? = some o := by exact rfl) (hr : (Region.ready .any ops listed, decide (i < n), Nat.blt 0 f, wantO ops base.length base l o, dstO o.dst base.length) = ([i], true, true, some true, true) := by kernel_rfl)
    (he : (execOp (evO base l) o).run Tryz.prog w = .ok (.enter g args) w := by kernel_rfl) : PO Tryz.prog ops Q (SW w0 p B s xs z) n base f listed l w :=
  zDo i (hc.mono fun e w' k => ⟨k.1, hn.after k.2⟩) h ho hr he
theorem zX0 {k : IntKind} {X : (Int × Ws) × Zs} {g : FuncId} {args : Array Value} (hc : Calls Tryz.prog g args w (OutX w p B k xs X)) (hn : NowW w0 p B s xs z w)
    (hK : ∀ v s z w', X = ((v, s), z) → kB k v → NowW w0 p B s xs z w' → WO Tryz.prog ops Q base rest (putO o.dst (.int k v) l) w')
    (hg : wantO ops base.length base l o = some true := by kernel_rfl) (he : (execOp (evO base l) o).run Tryz.prog w = .ok (.enter g args) w := by kernel_rfl) (hd : dstO o.dst base.length = true := by kernel_rfl) : WO Tryz.prog ops Q base (o :: rest) l w :=
  woCall hg he hd hc fun e w' ho => by
    obtain ⟨rfl, hk, hN⟩ := ho
    exact hK _ _ _ w' rfl hk (hn.after hN)
theorem zY0 {X : Ws × Zs} {g : FuncId} {args : Array Value} (hc : Calls Tryz.prog g args w (OutY w p B xs X)) (hn : NowW w0 p B s xs z w)
    (hK : ∀ s z w', X = (s, z) → NowW w0 p B s xs z w' → WO Tryz.prog ops Q base rest (putO o.dst (.tuple #[]) l) w')
    (hg : wantO ops base.length base l o = some true := by kernel_rfl) (he : (execOp (evO base l) o).run Tryz.prog w = .ok (.enter g args) w := by kernel_rfl) (hd : dstO o.dst base.length = true := by kernel_rfl) : WO Tryz.prog ops Q base (o :: rest) l w :=
  woCall hg he hd hc fun e w' ho => by
    obtain ⟨rfl, hN⟩ := ho
    exact hK _ _ w' rfl (hn.after hN)
theorem zX {β : Type} {k : IntKind} {T : Tr (Int × Ws)} {f : Int × Ws → Tr β} {G : β × Zs} {g : FuncId} {args : Array Value} (hc : Calls Tryz.prog g args w (OutX w p B k xs (T.runZ xs z))) (hn : NowW w0 p B s xs z w) (hr : G = (T.bind f).runZ xs z)
    (hK : ∀ v s z' w', kB k v → NowW w0 p B s xs z' w' → G = (f (v, s)).runZ xs z' → WO Tryz.prog ops Q base rest (putO o.dst (.int k v) l) w')
    (hg : wantO ops base.length base l o = some true := by kernel_rfl) (he : (execOp (evO base l) o).run Tryz.prog w = .ok (.enter g args) w := by kernel_rfl) (hd : dstO o.dst base.length = true := by kernel_rfl) : WO Tryz.prog ops Q base (o :: rest) l w :=
  zX0 hc hn (fun v s z' w' hX hk hN => hK v s z' w' hk hN (hr.trans (bindZ hX _))) hg he hd
theorem zY {β : Type} {T : Tr Ws} {f : Ws → Tr β} {G : β × Zs} {g : FuncId} {args : Array Value} (hc : Calls Tryz.prog g args w (OutY w p B xs (T.runZ xs z))) (hn : NowW w0 p B s xs z w) (hr : G = (T.bind f).runZ xs z)
    (hK : ∀ s z' w', NowW w0 p B s xs z' w' → G = (f s).runZ xs z' → WO Tryz.prog ops Q base rest (putO o.dst (.tuple #[]) l) w')
    (hg : wantO ops base.length base l o = some true := by kernel_rfl) (he : (execOp (evO base l) o).run Tryz.prog w = .ok (.enter g args) w := by kernel_rfl) (hd : dstO o.dst base.length = true := by kernel_rfl) : WO Tryz.prog ops Q base (o :: rest) l w :=
  zY0 hc hn (fun s z' w' hX hN => hK s z' w' hN (hr.trans (bindZ hX _))) hg he hd
theorem zYt {T : Tr Ws} {G : Ws × Zs} {g : FuncId} {args : Array Value} (hc : Calls Tryz.prog g args w (OutY w p B xs (T.runZ xs z))) (hn : NowW w0 p B s xs z w) (hr : G = T.runZ xs z)
    (hK : ∀ s z' w', NowW w0 p B s xs z' w' → G = (s, z') → WO Tryz.prog ops Q base rest (putO o.dst (.tuple #[]) l) w')
    (hg : wantO ops base.length base l o = some true := by kernel_rfl) (he : (execOp (evO base l) o).run Tryz.prog w = .ok (.enter g args) w := by kernel_rfl) (hd : dstO o.dst base.length = true := by kernel_rfl) : WO Tryz.prog ops Q base (o :: rest) l w :=
  zY0 hc hn (fun s z' w' hX hN => hK s z' w' hN (hr.trans hX)) hg he hd
theorem zBB {V : Value} {g : FuncId} {args : Array Value} (hc : Calls Tryz.prog g args w fun e w' => e = .returned V ∧ Below w.heap.size w w') (hn : NowW w0 p B s xs z w) (h : ∀ w', NowW w0 p B s xs z w' → WO Tryz.prog ops Q base rest (putO o.dst V l) w')
    (hg : wantO ops base.length base l o = some true := by kernel_rfl) (he : (execOp (evO base l) o).run Tryz.prog w = .ok (.enter g args) w := by kernel_rfl) (hd : dstO o.dst base.length = true := by kernel_rfl) : WO Tryz.prog ops Q base (o :: rest) l w :=
  kO hc (fun w' hb => h w' (hn.below hb)) hg he hd
theorem zAA {V : Value} {s' : Ws} {z' : Zs} {g : FuncId} {args : Array Value} (hc : Calls Tryz.prog g args w fun e w' => e = .returned V ∧ NowW w p B s' xs z' w') (hn : NowW w0 p B s xs z w) (h : ∀ w', NowW w0 p B s' xs z' w' → WO Tryz.prog ops Q base rest (putO o.dst V l) w')
    (hg : wantO ops base.length base l o = some true := by kernel_rfl) (he : (execOp (evO base l) o).run Tryz.prog w = .ok (.enter g args) w := by kernel_rfl) (hd : dstO o.dst base.length = true := by kernel_rfl) : WO Tryz.prog ops Q base (o :: rest) l w :=
  kO hc (fun w' hk => h w' (hn.after hk)) hg he hd
end
section
variable {α β : Type} {xs : List Int} {z : Zs} {G : β × Zs} {c : Prop} [Decidable c]
theorem dZ {a : β} (h : G = (Tr.done a).runZ xs z) : G = (a, z) := h
theorem pZ {t e : Tr β} (h : G = (if c then t else e).runZ xs z) (hc : c := by first | assumption | omega) : G = t.runZ xs z := h.trans (zif_pos hc)
theorem qZ {t e : Tr β} (h : G = (if c then t else e).runZ xs z) (hc : ¬ c := by first | assumption | omega) : G = e.runZ xs z := h.trans (zif_neg hc)
theorem pbZ {t e : Tr α} {f : α → Tr β} (h : G = ((if c then t else e).bind f).runZ xs z) (hc : c := by first | assumption | omega) : G = (t.bind f).runZ xs z := h.trans (zbif_pos hc)
theorem qbZ {t e : Tr α} {f : α → Tr β} (h : G = ((if c then t else e).bind f).runZ xs z) (hc : ¬ c := by first | assumption | omega) : G = (e.bind f).runZ xs z := h.trans (zbif_neg hc)
variable {P : Program} {Q : Exit → Act → World → Prop} {base : List Value} {l : Slots} {w : World}
theorem zIf {t e : Tr β} {o : Operand} {x y : Code} (h : G = (if c then t else e).runZ xs z) (h1 : c → G = t.runZ xs z → CO P x Q base l w) (h2 : ¬ c → G = e.runZ xs z → CO P y Q base l w) (hc : evO base l o = .bool (decide c) := by kernel_rfl) : CO P (.cond o x y) Q base l w :=
  coI (decide c) (fun k => h1 (of_decide_eq_true k) (pZ h (of_decide_eq_true k))) (fun k => h2 (of_decide_eq_false k) (qZ h (of_decide_eq_false k))) hc
end
theorem w_states (n : Int) {s : Ws} {xs : List Int} {z : Zs} {w : World} {p B : Nat} (h : AtW w p B s xs z) :
    Calls Tryz.prog 53 #[pT p 0, .int .i64 (n)] w (OutY w p B xs ((statesW n s).runZ xs z)) := by
 have hn := NowW.begin h
 have hr : (statesW n s).runZ xs z = (statesW n s).runZ xs z := rfl
 go_enter Tryz.func53, Tryz.ntmps53
 exact coStart <| coZ <| zR 2 hn <| zX (w_cycle 7 0 (⟨by decide, by decide⟩) 0 (⟨by decide, by decide⟩) n hn.at_) hn hr <| fun v1 s1 z1 w1 hk1 hn hr => woE <| eoV (OutY.ok (dZ hr) hn)
theorem w_tick  {s : Ws} {xs : List Int} {z : Zs} {w : World} {p B : Nat} (h : AtW w p B s xs z) :
    Calls Tryz.prog 27 #[pT p 0] w (fun e w' => e = .returned (.tuple #[]) ∧ NowW w p B (s.tick) xs z w') := by
 have hn := NowW.begin h
 go_enter Tryz.func27, Tryz.ntmps27
 exact coStart <| have b1 := hn.at_.ms.r; coZ <| zR 5 hn <| zBB (rtick_any s.r 1 (b1).r _) hn <| fun w2 hn => zFs hn _ (hn.at_.ms.u_rg ((b1).tick _)) <| fun w3 hn => eoV (⟨rfl, hn⟩)
theorem w_read (a : Int) (hAa : Wd16 a) {s : Ws} {xs : List Int} {z : Zs} {w : World} {p B : Nat} (h : AtW w p B s xs z) :
    Calls Tryz.prog 92 #[pT p 0, .int .u16 (a)] w (OutX w p B .u8 xs ((readW a s).runZ xs z)) := by
 have hn := NowW.begin h
 have hr : (readW a s).runZ xs z = (readW a s).runZ xs z := rfl
 go_enter Tryz.func92, Tryz.ntmps92
 exact coStart <| zQ hn <| coR <| zR 2 hn <| zX (w_cycle 2 a (hAa) 0 (⟨by decide, by decide⟩) 3 hn.at_) hn hr <| fun v3 s3 z3 w3 hk3 hn hr => zE hn <| coRet <| eoIr (.int .u8 (v3)) (OutX.ok (dZ hr) (hk3) hn)
theorem w_write (a : Int) (hAa : Wd16 a) (b : Int) (hAb : B8 b) {s : Ws} {xs : List Int} {z : Zs} {w : World} {p B : Nat} (h : AtW w p B s xs z) :
    Calls Tryz.prog 148 #[pT p 0, .int .u16 (a), .int .u8 (b)] w (OutY w p B xs ((writeW a b s).runZ xs z)) := by
 have hn := NowW.begin h
 have hr : (writeW a b s).runZ xs z = (writeW a b s).runZ xs z := rfl
 go_enter Tryz.func148, Tryz.ntmps148
 exact coStart <| coZ <| zR 3 hn <| zX (w_cycle 3 a (hAa) b (hAb) 3 hn.at_) hn hr <| fun v1 s1 z1 w1 hk1 hn hr => woE <| eoV (OutY.ok (dZ hr) hn)
theorem w_fetch  {s : Ws} {xs : List Int} {z : Zs} {w : World} {p B : Nat} (h : AtW w p B s xs z) :
    Calls Tryz.prog 29 #[pT p 0] w (OutX w p B .u8 xs ((fetchW s).runZ xs z)) := by
 have hn := NowW.begin h
 have hr : (fetchW s).runZ xs z = (fetchW s).runZ xs z := rfl
 go_enter Tryz.func29, Tryz.ntmps29
 exact coStart <| zQ hn <| have b3 := hn.at_.ms.r.pc; coR <| zR 6 hn <| zX (w_cycle 1 s.r.pc (b3) 0 (⟨by decide, by decide⟩) 4 hn.at_) hn hr <| fun v4 s4 z4 w4 hk4 hn hr => zE hn <| have b6 := hn.at_.ms.r.pc; zQs hn (.u_pc _ ((s4.r.pc + 1) % 65536)) (hn.at_.ms.u_pc (Wd16.mod _)) <| fun w7 hn => coR <| zR 1 hn <| zAA (w_tick hn.at_) hn <| fun w9 hn => wT <| zQ hn <| coRet <| eoIr (.int .u8 (v4)) (OutX.ok (dZ hr) (hk4) hn)
theorem w_number  {s : Ws} {xs : List Int} {z : Zs} {w : World} {p B : Nat} (h : AtW w p B s xs z) :
    Calls Tryz.prog 50 #[pT p 0] w (OutX w p B .u8 xs ((numberW s).runZ xs z)) := by
 have hn := NowW.begin h
 have hr : (numberW s).runZ xs z = (numberW s).runZ xs z := rfl
 go_enter Tryz.func50, Tryz.ntmps50
 exact coStart <| zQ hn <| have b3 := hn.at_.ms.r.pc; coR <| zR 6 hn <| zX (w_read s.r.pc (b3) hn.at_) hn hr <| fun v4 s4 z4 w4 hk4 hn hr => zE hn <| have b6 := hn.at_.ms.r.pc; zQs hn (.u_pc _ ((s4.r.pc + 1) % 65536)) (hn.at_.ms.u_pc (Wd16.mod _)) <| fun w7 hn => zQ hn <| coRet <| eoIr (.int .u8 (v4)) (OutX.ok (dZ hr) (hk4) hn)
theorem w_word  {s : Ws} {xs : List Int} {z : Zs} {w : World} {p B : Nat} (h : AtW w p B s xs z) :
    Calls Tryz.prog 169 #[pT p 0] w (OutX w p B .u16 xs ((wordW s).runZ xs z)) := by
 have hn := NowW.begin h
 have hr : (wordW s).runZ xs z = (wordW s).runZ xs z := rfl
 go_enter Tryz.func169, Tryz.ntmps169
 exact coStart <| zQ hn <| coR <| zR 1 hn <| zX (w_number hn.at_) hn hr <| fun v3 s3 z3 w3 hk3 hn hr => zE hn <| coR <| zR 1 hn <| zX (w_number hn.at_) hn hr <| fun v5 s5 z5 w5 hk5 hn hr => zE hn <| coR <| zR 2 hn <| kE (rword_any v5 v3 (hk5).1 (hk5).2 (hk3).1 (hk3).2 _) <| zE hn <| coRet <| eoIr (.int .u16 (256 * v5 + v3)) (OutX.ok (dZ hr) (Wd16.mk8 (hk5) (hk3)) hn)
theorem w_push (x : Int) (hAx : Wd16 x) {s : Ws} {xs : List Int} {z : Zs} {w : World} {p B : Nat} (h : AtW w p B s xs z) :
    Calls Tryz.prog 191 #[pT p 0, .int .u16 (x)] w (OutY w p B xs ((pushW x s).runZ xs z)) := by
 have hn := NowW.begin h
 have hr : (pushW x s).runZ xs z = (pushW x s).runZ xs z := rfl
 go_enter Tryz.func191, Tryz.ntmps191
 exact coStart <| have b2 := hn.at_.ms.r.sp; zQs hn (.u_sp _ ((s.r.sp - 1) % 65536)) (hn.at_.ms.u_sp (Wd16.mod _)) <| fun w3 hn => zP 8 hn <| fun w5 hn => have b6 := hn.at_.ms.r.sp; zD [0, 1, 2, 3, 4, 5, 6] hn <| zDe 7 (rhi_any x (hAx).1 (hAx).2 _) hn <| poE <| zY (w_write ((s.u_sp ((s.r.sp - 1) % 65536)).r.sp) (b6) (x / 256) ((hAx).hi) hn.at_) hn hr <| fun s8 z8 w8 hn hr => wT <| have b10 := hn.at_.ms.r.sp; zQs hn (.u_sp _ ((s8.r.sp - 1) % 65536)) (hn.at_.ms.u_sp (Wd16.mod _)) <| fun w11 hn => zPz 8 hn <| fun w12 hn => have b13 := hn.at_.ms.r.sp; zD [0, 1, 2, 3, 4, 5, 6] hn <| zDe 7 (rlo_any x (hAx).1 (hAx).2 _) hn <| poE <| zY (w_write ((s8.u_sp ((s8.r.sp - 1) % 65536)).r.sp) (b13) (x % 256) ((hAx).lo8) hn.at_) hn hr <| fun s15 z15 w15 hn hr => woE <| eoV (OutY.ok (dZ hr) hn)
theorem w_pop  {s : Ws} {xs : List Int} {z : Zs} {w : World} {p B : Nat} (h : AtW w p B s xs z) :
    Calls Tryz.prog 172 #[pT p 0] w (OutX w p B .u16 xs ((popW s).runZ xs z)) := by
 have hn := NowW.begin h
 have hr : (popW s).runZ xs z = (popW s).runZ xs z := rfl
 go_enter Tryz.func172, Tryz.ntmps172
 exact coStart <| zQ hn <| have b3 := hn.at_.ms.r.sp; coR <| zR 6 hn <| zX (w_read s.r.sp (b3) hn.at_) hn hr <| fun v4 s4 z4 w4 hk4 hn hr => zE hn <| have b6 := hn.at_.ms.r.sp; zQs hn (.u_sp _ ((s4.r.sp + 1) % 65536)) (hn.at_.ms.u_sp (Wd16.mod _)) <| fun w7 hn => have b9 := hn.at_.ms.r.sp; coR <| zR 6 hn <| zX (w_read ((s4.u_sp ((s4.r.sp + 1) % 65536)).r.sp) (b9) hn.at_) hn hr <| fun v10 s10 z10 w10 hk10 hn hr => zE hn <| have b12 := hn.at_.ms.r.sp; zQs hn (.u_sp _ ((s10.r.sp + 1) % 65536)) (hn.at_.ms.u_sp (Wd16.mod _)) <| fun w13 hn => coR <| zR 2 hn <| kE (rword_any v10 v4 (hk10).1 (hk10).2 (hk4).1 (hk4).2 _) <| zE hn <| coRet <| eoIr (.int .u16 (256 * v10 + v4)) (OutX.ok (dZ hr) (Wd16.mk8 (hk10) (hk4)) hn)
theorem w_a  {s : Ws} {xs : List Int} {z : Zs} {w : World} {p B : Nat} (h : AtW w p B s xs z) :
    Calls Tryz.prog 75 #[pT p 0] w (fun e w' => e = .returned (.int .u8 (s.a)) ∧ NowW w p B (s) xs z w') := by
 have hn := NowW.begin h
 go_enter Tryz.func75, Tryz.ntmps75
 exact coStart <| zQ hn <| have b3 := hn.at_.ms.r.af; coR <| zR 5 hn <| kE (rhi_any s.r.af (b3).1 (b3).2 _) <| zE hn <| coRet <| eoIr (.int .u8 (s.r.af / 256)) (⟨rfl, hn⟩)
theorem w_f  {s : Ws} {xs : List Int} {z : Zs} {w : World} {p B : Nat} (h : AtW w p B s xs z) :
    Calls Tryz.prog 83 #[pT p 0] w (fun e w' => e = .returned (.int .u8 (s.f)) ∧ NowW w p B (s) xs z w') := by
 have hn := NowW.begin h
 go_enter Tryz.func83, Tryz.ntmps83
 exact coStart <| zQ hn <| have b3 := hn.at_.ms.r.af; coR <| zR 5 hn <| kE (rlo_any s.r.af (b3).1 (b3).2 _) <| zE hn <| coRet <| eoIr (.int .u8 (s.r.af % 256)) (⟨rfl, hn⟩)
theorem w_put (a : Int) (hAa : B8 a) (f : Int) (hAf : B8 f) {s : Ws} {xs : List Int} {z : Zs} {w : World} {p B : Nat} (h : AtW w p B s xs z) :
    Calls Tryz.prog 74 #[pT p 0, .int .u8 (a), .int .u8 (f)] w (fun e w' => e = .returned (.tuple #[]) ∧ NowW w p B (s.af a f) xs z w') := by
 have hn := NowW.begin h
 go_enter Tryz.func74, Tryz.ntmps74
 exact coStart <| coZ <| zR 3 hn <| kE (rword_any a f (hAa).1 (hAa).2 (hAf).1 (hAf).2 _) <| zFs hn (.u_af _ (256 * a + f)) (hn.at_.ms.u_af (Wd16.mk8 (hAa) (hAf))) <| fun w2 hn => eoV (⟨rfl, hn⟩)
theorem w_carry  {s : Ws} {xs : List Int} {z : Zs} {w : World} {p B : Nat} (h : AtW w p B s xs z) :
    Calls Tryz.prog 78 #[pT p 0] w (fun e w' => e = .returned (.bool (isM s.f 0)) ∧ NowW w p B (s) xs z w') := by
 have hn := NowW.begin h
 go_enter Tryz.func78, Tryz.ntmps78
 exact coStart <| zQ hn <| have b3 := fW_byte hn.at_.ms; coR <| zR 1 hn <| zAA (w_f hn.at_) hn <| fun w4 hn => kE (ris_any s.f 0 (b3).1 (b3).2 _) <| zE hn <| coRet <| eoIr (.bool (isM s.f 0)) (⟨rfl, hn⟩)
theorem w_hl  {s : Ws} {xs : List Int} {z : Zs} {w : World} {p B : Nat} (h : AtW w p B s xs z) :
    Calls Tryz.prog 52 #[pT p 0] w (fun e w' => e = .returned (.int .u16 (s.hl)) ∧ NowW w p B (s) xs z w') := by
 have hn := NowW.begin h
 go_enter Tryz.func52, Tryz.ntmps52
 exact coStart <| zQ hn <| zP 9 hn <| fun w3 hn => have b4 := hn.at_.ms.r; zD [0, 1, 2, 3, 4, 5, 6, 7] hn <| zDb 8 (rpair_any s.r s.plane 2 _) hn <| fun w5 hn => poE <| zE hn <| coRet <| eoIr (.int .u16 (pairG s.r s.plane 2)) (⟨rfl, hn⟩)
theorem w_setHl (x : Int) (hAx : Wd16 x) {s : Ws} {xs : List Int} {z : Zs} {w : World} {p B : Nat} (h : AtW w p B s xs z) :
    Calls Tryz.prog 178 #[pT p 0, .int .u16 (x)] w (fun e w' => e = .returned (.tuple #[]) ∧ NowW w p B (s.setHl x) xs z w') := by
 have hn := NowW.begin h
 go_enter Tryz.func178, Tryz.ntmps178
 exact coStart <| zPz 13 hn <| fun w1 hn => have b2 := hn.at_.ms.r; zD [0, 1, 2, 3, 4, 5, 6, 7, 8, 9] hn <| zDb 10 (rsetPair_any s.r s.plane 2 x _) hn <| fun w3 hn => zD [11, 12] hn <| poE <| zFs hn _ (hn.at_.ms.u_rg ((b2).setPair _ _ (hAx))) <| fun w4 hn => eoV (⟨rfl, hn⟩)
theorem w_where  {s : Ws} {xs : List Int} {z : Zs} {w : World} {p B : Nat} (h : AtW w p B s xs z) :
    Calls Tryz.prog 162 #[pT p 0] w (OutX w p B .u16 xs ((whereW s).runZ xs z)) := by
 have hn := NowW.begin h
 have hr : (whereW s).runZ xs z = (whereW s).runZ xs z := rfl
 go_enter Tryz.func162, Tryz.ntmps162
 refine coStart <| zQ hn <| coS <| zQ hn <| coI (!(s.known)) (fun h4 => ?_) fun h4 => ?_
 · have g4 : ¬ s.known = true := by simpa using h4
   refine have hr := hr.trans (zif_neg g4); zQs hn (.u_known _ (true)) (hn.at_.ms.u_known) <| fun w6 hn => have b8 := hn.at_.ms.r.hl; zQs hn ((s.u_known (true)).u_m ((s.u_known (true)).r.hl)) (hn.at_.ms.u_m (b8)) <| fun w9 hn => coR <| zR 6 hn ?_
   rcases Bool.eq_false_or_eq_true ((((s.u_known (true)).u_m ((s.u_known (true)).r.hl)).plane) == 3) with h11 | h11
   · have g11 : (((s.u_known (true)).u_m ((s.u_known (true)).r.hl)).plane) = 3 := by simpa using h11
     exact tell 25 h11 <| zE hn <| coT <| have hr := hr.trans (zif_pos (.inl g11)); coR <| zR 1 hn <| zX (w_number hn.at_) hn hr <| fun v13 s13 z13 w13 hk13 hn hr => zE hn <| coR <| zR 1 hn <| zY (w_states 5 hn.at_) hn hr <| fun s15 z15 w15 hn hr => wT <| have b17 := hlW_word hn.at_.ms; coR <| zR 2 hn <| zAA (w_hl hn.at_) hn <| fun w18 hn => zR 1 hn <| kE (rnear_any s15.hl v13 (b17) (hk13) _) <| zEs hn (.u_m _ (moveM s15.hl (signedM v13))) (hn.at_.ms.u_m (Wd16.mod _)) <| fun w20 hn => have b21 := hn.at_.ms.m; coZ <| zEs hn ((s15.u_m (moveM s15.hl (signedM v13))).u_wz ((s15.u_m (moveM s15.hl (signedM v13))).m)) (hn.at_.ms.u_wz (b21)) <| fun w22 hn => have b24 := hn.at_.ms.m; zQ hn <| coRet <| eoIr (.int .u16 (((s15.u_m (moveM s15.hl (signedM v13))).u_wz ((s15.u_m (moveM s15.hl (signedM v13))).m)).m)) (OutX.ok (dZ hr) (b24) hn)
   have g11 : ¬ (((s.u_known (true)).u_m ((s.u_known (true)).r.hl)).plane) = 3 := by simpa using h11
   refine tell 25 h11 <| zE hn <| coI ((((s.u_known (true)).u_m ((s.u_known (true)).r.hl)).plane) == 4) (fun h25 => ?_) fun h25 => ?_
   · have g25 : (((s.u_known (true)).u_m ((s.u_known (true)).r.hl)).plane) = 4 := by simpa using h25
     exact have hr := hr.trans (zif_pos (.inr g25)); coR <| zR 1 hn <| zX (w_number hn.at_) hn hr <| fun v27 s27 z27 w27 hk27 hn hr => zE hn <| coR <| zR 1 hn <| zY (w_states 5 hn.at_) hn hr <| fun s29 z29 w29 hn hr => wT <| have b31 := hlW_word hn.at_.ms; coR <| zR 2 hn <| zAA (w_hl hn.at_) hn <| fun w32 hn => zR 1 hn <| kE (rnear_any s29.hl v27 (b31) (hk27) _) <| zEs hn (.u_m _ (moveM s29.hl (signedM v27))) (hn.at_.ms.u_m (Wd16.mod _)) <| fun w34 hn => have b35 := hn.at_.ms.m; coZ <| zEs hn ((s29.u_m (moveM s29.hl (signedM v27))).u_wz ((s29.u_m (moveM s29.hl (signedM v27))).m)) (hn.at_.ms.u_wz (b35)) <| fun w36 hn => have b38 := hn.at_.ms.m; zQ hn <| coRet <| eoIr (.int .u16 (((s29.u_m (moveM s29.hl (signedM v27))).u_wz ((s29.u_m (moveM s29.hl (signedM v27))).m)).m)) (OutX.ok (dZ hr) (b38) hn)
   have g25 : ¬ (((s.u_known (true)).u_m ((s.u_known (true)).r.hl)).plane) = 4 := by simpa using h25
   exact have hr := hr.trans (zif_neg (not_or.2 ⟨g11, g25⟩)); coSkip <| eoT <| have b40 := hn.at_.ms.m; zQ hn <| coRet <| eoIr (.int .u16 (((s.u_known (true)).u_m ((s.u_known (true)).r.hl)).m)) (OutX.ok (dZ hr) (b40) hn)
 have g4 : s.known = true := by simpa using h4
 exact have hr := hr.trans (zif_pos g4); coSkip <| eoT <| have b42 := hn.at_.ms.m; zQ hn <| coRet <| eoIr (.int .u16 (s.m)) (OutX.ok (dZ hr) (b42) hn)
theorem w_through  {s : Ws} {xs : List Int} {z : Zs} {w : World} {p B : Nat} (h : AtW w p B s xs z) :
    Calls Tryz.prog 164 #[pT p 0] w (fun e w' => e = .returned (.int .i64 (throughW s)) ∧ NowW w p B (s) xs z w') := by
 have hn := NowW.begin h
 go_enter Tryz.func164, Tryz.ntmps164
 refine coStart <| zQ hn <| zP 9 hn <| fun w3 hn => have b4 := hn.at_.ms.code; zD [0, 1, 2, 3, 4, 5, 6, 7] hn <| zDe 8 (drnear_any s.plane s.code (b4) _) hn <| poE <| zE hn <| coS <| zQ hn <| coI (nearM s.plane s.code) (fun h8 => ?_) fun h8 => ?_
 · have g8 : nearM s.plane s.code = true := by simpa using h8
   refine zQ hn <| coRet <| eoTr <| eoIr (.int .i64 (0)) ?_
   have e : throughW s = 0 := by unfold throughW; first | rw [if_pos (by assumption)] | rw [if_neg (by assumption)]
   exact ⟨by rw [e], hn⟩
 have g8 : ¬ nearM s.plane s.code = true := by simpa using h8
 refine coSkip <| eoT <| zQ hn <| coRet <| eoIr (.int .i64 (s.plane)) ?_
 have e : throughW s = s.plane := by unfold throughW; first | rw [if_pos (by assumption)] | rw [if_neg (by assumption)]
 exact ⟨by rw [e], hn⟩
theorem w_get (k : Int) {s : Ws} {xs : List Int} {z : Zs} {w : World} {p B : Nat} (h : AtW w p B s xs z) :
    Calls Tryz.prog 80 #[pT p 0, .int .i64 (k)] w (OutX w p B .u8 xs ((getW k s).runZ xs z)) := by
 have hn := NowW.begin h
 have hr : (getW k s).runZ xs z = (getW k s).runZ xs z := rfl
 go_enter Tryz.func80, Tryz.ntmps80
 refine coStart <| zQ hn <| coS <| zQ hn <| zIf hr (fun g4 hr => ?_) fun g4 hr => ?_
 · exact coR <| zR 2 hn <| zX (w_where hn.at_) hn hr <| fun v6 s6 z6 w6 hk6 hn hr => zX (w_read v6 (hk6) hn.at_) hn hr <| fun v7 s7 z7 w7 hk7 hn hr => zE hn <| coRet <| eoTr <| eoIr (.int .u8 (v7)) (OutX.ok (dZ hr) (hk7) hn)
 exact coSkip <| eoT <| zP 8 hn <| fun w9 hn => have b10 := hn.at_.ms.r; zD [0, 1, 2, 3, 4, 6] hn <| zDa 5 (w_through hn.at_) hn <| fun w11 hn => zDb 7 (rget_any s.r (b10) (throughW s) k _) hn <| fun w12 hn => poE <| zE hn <| coRet <| eoIr (.int .u8 (getG s.r (throughW s) k)) (OutX.ok (dZ hr) ((b10).get _ _) hn)
theorem w_set (k : Int) (b : Int) (hAb : B8 b) {s : Ws} {xs : List Int} {z : Zs} {w : World} {p B : Nat} (h : AtW w p B s xs z) :
    Calls Tryz.prog 79 #[pT p 0, .int .i64 (k), .int .u8 (b)] w (OutY w p B xs ((setW k b s).runZ xs z)) := by
 have hn := NowW.begin h
 have hr : (setW k b s).runZ xs z = (setW k b s).runZ xs z := rfl
 go_enter Tryz.func79, Tryz.ntmps79
 refine coStart <| zQ hn <| zIf hr (fun g2 hr => ?_) fun g2 hr => ?_
 · exact coZ <| zR 2 hn <| zX (w_where hn.at_) hn hr <| fun v3 s3 z3 w3 hk3 hn hr => zR 1 hn <| zY (w_write v3 (hk3) b (hAb) hn.at_) hn hr <| fun s4 z4 w4 hn hr => woE <| eoV (OutY.ok (dZ hr) hn)
 exact zPz 12 hn <| fun w5 hn => have b6 := hn.at_.ms.r; zD [0, 1, 2, 3, 4, 5, 7, 8] hn <| zDa 6 (w_through hn.at_) hn <| fun w7 hn => zDb 9 (rset_any s.r (b6) (throughW s) k b (hAb) _) hn <| fun w8 hn => zD [10, 11] hn <| poE <| zFs hn _ (hn.at_.ms.u_rg ((b6).set _ _ (hAb))) <| fun w9 hn => eoV (OutY.ok (dZ hr) hn)
theorem w_hop (o : Bool) {s : Ws} {xs : List Int} {z : Zs} {w : World} {p B : Nat} (h : AtW w p B s xs z) :
    Calls Tryz.prog 252 #[pT p 0, .bool (o)] w (OutY w p B xs ((hopW o s).runZ xs z)) := by
 have hn := NowW.begin h
 have hr : (hopW o s).runZ xs z = (hopW o s).runZ xs z := rfl
 go_enter Tryz.func252, Tryz.ntmps252
 refine coStart <| coR <| zR 1 hn <| zX (w_number hn.at_) hn hr <| fun v2 s2 z2 w2 hk2 hn hr => zE hn <| zQ hn <| coI (o) (fun h4 => ?_) fun h4 => ?_
 · have g4 : o = true := by simpa using h4
   exact have hr := hr.trans (zif_pos g4); coR <| zR 1 hn <| zY (w_states 5 hn.at_) hn hr <| fun s6 z6 w6 hn hr => wT <| have b8 := hn.at_.ms.r.pc; coR <| zR 7 hn <| kE (rnear_any s6.r.pc v2 (b8) (hk2) _) <| zEs hn (.u_pc _ (moveM s6.r.pc (signedM v2))) (hn.at_.ms.u_pc (Wd16.mod _)) <| fun w10 hn => have b11 := hn.at_.ms.r.pc; coZ <| zFs hn ((s6.u_pc (moveM s6.r.pc (signedM v2))).u_wz ((s6.u_pc (moveM s6.r.pc (signedM v2))).r.pc)) (hn.at_.ms.u_wz (b11)) <| fun w12 hn => eoV (OutY.ok (dZ hr) hn)
 have g4 : ¬ o = true := by simpa using h4
 exact have hr := hr.trans (zif_neg g4); coSkip <| eoV (OutY.ok (dZ hr) hn)
theorem w_less  {s : Ws} {xs : List Int} {z : Zs} {w : World} {p B : Nat} (h : AtW w p B s xs z) :
    Calls Tryz.prog 151 #[pT p 0] w (fun e w' => e = .returned (.int .u8 (s.left)) ∧ NowW w p B (s.less) xs z w') := by
 have hn := NowW.begin h
 go_enter Tryz.func151, Tryz.ntmps151
 exact coStart <| zQ hn <| have b3 := hn.at_.ms.r.bc; coR <| zR 5 hn <| kE (rhi_any s.r.bc (b3).1 (b3).2 _) <| zE hn <| have b6 := hn.at_.ms.r.bc; coR <| zR 7 hn <| kE (rlo_any s.r.bc (b6).1 (b6).2 _) <| kE (rword_any (((s.r.bc / 256) - 1) % 256) (s.r.bc % 256) (B8.mod _).1 (B8.mod _).2 ((b6).lo8).1 ((b6).lo8).2 _) <| zEs hn (.u_bc _ (256 * (((s.r.bc / 256) - 1) % 256) + (s.r.bc % 256))) (hn.at_.ms.u_bc (Wd16.mk8 (B8.mod _) ((b6).lo8))) <| fun w9 hn => zQ hn <| coRet <| eoIr (.int .u8 (((s.r.bc / 256) - 1) % 256)) (⟨rfl, hn⟩)
theorem w_sum (y : Int) (b : Int) (hAb : B8 b) {s : Ws} {xs : List Int} {z : Zs} {w : World} {p B : Nat} (h : AtW w p B s xs z) :
    Calls Tryz.prog 96 #[pT p 0, .int .i64 (y), .int .u8 (b)] w (fun e w' => e = .returned (.tuple #[]) ∧ NowW w p B (sumW y b s) xs z w') := by
 have hn := NowW.begin h
 go_enter Tryz.func96, Tryz.ntmps96
 refine coStart <| have b2 := aW_byte hn.at_.ms; coR <| zR 1 hn <| zAA (w_a hn.at_) hn <| fun w3 hn => zE hn <| coR <| zR 1 hn <| zAA (w_carry hn.at_) hn <| fun w5 hn => zE hn <| zQ hn <| zQ hn <| coS <| zQ hn <| coB <| zQ hn <| coI (y == 0) (fun h11 => ?_) fun h11 => ?_
 · have g11 : y = 0 := by simpa using h11
   refine coZ <| zR 2 hn <| zBB (radd_any s.a b false (b2) (hAb) _) hn <| fun w12 hn => zF hn <| eoB <| eoT <| coZ <| zR 3 hn <| zAA (w_put (addR s.a b false) (addR_byte _ _ _) (addF s.a b false) (addF_byte _ _ _) hn.at_) hn <| fun w13 hn => woE <| eoV ?_
   have e : sumW y b s = s.af (addR s.a b false) (addF s.a b false) := by
    unfold sumW
    repeat (first | rw [if_pos (by assumption)] | rw [if_neg (by assumption)])
    all_goals rfl
   exact ⟨rfl, e ▸ hn⟩
 have g11 : ¬ y = 0 := by simpa using h11
 refine zQ hn <| coI (y == 1) (fun h15 => ?_) fun h15 => ?_
 · have g15 : y = 1 := by simpa using h15
   refine coZ <| zR 3 hn <| zBB (radd_any s.a b (isM s.f 0) (b2) (hAb) _) hn <| fun w16 hn => zF hn <| eoB <| eoT <| coZ <| zR 3 hn <| zAA (w_put (addR s.a b (isM s.f 0)) (addR_byte _ _ _) (addF s.a b (isM s.f 0)) (addF_byte _ _ _) hn.at_) hn <| fun w17 hn => woE <| eoV ?_
   have e : sumW y b s = s.af (addR s.a b (isM s.f 0)) (addF s.a b (isM s.f 0)) := by
    unfold sumW
    repeat (first | rw [if_pos (by assumption)] | rw [if_neg (by assumption)])
    all_goals rfl
   exact ⟨rfl, e ▸ hn⟩
 have g15 : ¬ y = 1 := by simpa using h15
 refine zQ hn <| coI (y == 2) (fun h19 => ?_) fun h19 => ?_
 · have g19 : y = 2 := by simpa using h19
   refine coZ <| zR 2 hn <| zBB (rsub_any s.a b false (b2) (hAb) _) hn <| fun w20 hn => zF hn <| eoB <| eoT <| coZ <| zR 3 hn <| zAA (w_put (subR s.a b false) (subR_byte _ _ _) (subF s.a b false) (subF_byte _ _ _) hn.at_) hn <| fun w21 hn => woE <| eoV ?_
   have e : sumW y b s = s.af (subR s.a b false) (subF s.a b false) := by
    unfold sumW
    repeat (first | rw [if_pos (by assumption)] | rw [if_neg (by assumption)])
    all_goals rfl
   exact ⟨rfl, e ▸ hn⟩
 have g19 : ¬ y = 2 := by simpa using h19
 refine zQ hn <| coI (y == 3) (fun h23 => ?_) fun h23 => ?_
 · have g23 : y = 3 := by simpa using h23
   refine coZ <| zR 3 hn <| zBB (rsub_any s.a b (isM s.f 0) (b2) (hAb) _) hn <| fun w24 hn => zF hn <| eoB <| eoT <| coZ <| zR 3 hn <| zAA (w_put (subR s.a b (isM s.f 0)) (subR_byte _ _ _) (subF s.a b (isM s.f 0)) (subF_byte _ _ _) hn.at_) hn <| fun w25 hn => woE <| eoV ?_
   have e : sumW y b s = s.af (subR s.a b (isM s.f 0)) (subF s.a b (isM s.f 0)) := by
    unfold sumW
    repeat (first | rw [if_pos (by assumption)] | rw [if_neg (by assumption)])
    all_goals rfl
   exact ⟨rfl, e ▸ hn⟩
 have g23 : ¬ y = 3 := by simpa using h23
 refine zQ hn <| coI (y == 4) (fun h27 => ?_) fun h27 => ?_
 · have g27 : y = 4 := by simpa using h27
   refine coZ <| zR 2 hn <| zBB (rand_any s.a b (b2) (hAb) _) hn <| fun w28 hn => zF hn <| eoB <| eoT <| coZ <| zR 3 hn <| zAA (w_put (andR s.a b) (mergeM_byte _ _ _) (andFl (andR s.a b)) (andFl_byte _) hn.at_) hn <| fun w29 hn => woE <| eoV ?_
   have e : sumW y b s = s.af (andR s.a b) (andFl (andR s.a b)) := by
    unfold sumW
    repeat (first | rw [if_pos (by assumption)] | rw [if_neg (by assumption)])
    all_goals rfl
   exact ⟨rfl, e ▸ hn⟩
 have g27 : ¬ y = 4 := by simpa using h27
 refine zQ hn <| coI (y == 5) (fun h31 => ?_) fun h31 => ?_
 · have g31 : y = 5 := by simpa using h31
   refine coZ <| zR 2 hn <| zBB (rxor_any s.a b (b2) (hAb) _) hn <| fun w32 hn => zF hn <| eoB <| eoT <| coZ <| zR 3 hn <| zAA (w_put (xorR s.a b) (mergeM_byte _ _ _) (evenFM (xorR s.a b)) (evenFM_byte _) hn.at_) hn <| fun w33 hn => woE <| eoV ?_
   have e : sumW y b s = s.af (xorR s.a b) (evenFM (xorR s.a b)) := by
    unfold sumW
    repeat (first | rw [if_pos (by assumption)] | rw [if_neg (by assumption)])
    all_goals rfl
   exact ⟨rfl, e ▸ hn⟩
 have g31 : ¬ y = 5 := by simpa using h31
 refine zQ hn <| coI (y == 6) (fun h35 => ?_) fun h35 => ?_
 · have g35 : y = 6 := by simpa using h35
   refine coZ <| zR 2 hn <| zBB (ror_any s.a b (b2) (hAb) _) hn <| fun w36 hn => zF hn <| eoB <| eoT <| coZ <| zR 3 hn <| zAA (w_put (orR s.a b) (mergeM_byte _ _ _) (evenFM (orR s.a b)) (evenFM_byte _) hn.at_) hn <| fun w37 hn => woE <| eoV ?_
   have e : sumW y b s = s.af (orR s.a b) (evenFM (orR s.a b)) := by
    unfold sumW
    repeat (first | rw [if_pos (by assumption)] | rw [if_neg (by assumption)])
    all_goals rfl
   exact ⟨rfl, e ▸ hn⟩
 have g35 : ¬ y = 6 := by simpa using h35
 refine coZ <| zR 2 hn <| zBB (rcmp_any s.a b (b2) (hAb) _) hn <| fun w38 hn => zF hn <| eoB <| eoT <| coZ <| zR 3 hn <| zAA (w_put s.a (b2) (cmpF s.a b) (cmpF_byte _ _) hn.at_) hn <| fun w39 hn => woE <| eoV ?_
 have e : sumW y b s = s.af s.a (cmpF s.a b) := by
  unfold sumW
  repeat (first | rw [if_pos (by assumption)] | rw [if_neg (by assumption)])
  all_goals rfl
 exact ⟨rfl, e ▸ hn⟩
theorem w_hops (y : Int) (hAy : 0 ≤ y ∧ y ≤ 7) {s : Ws} {xs : List Int} {z : Zs} {w : World} {p B : Nat} (h : AtW w p B s xs z) :
    Calls Tryz.prog 176 #[pT p 0, .int .i64 (y)] w (OutY w p B xs ((hopsW y s).runZ xs z)) := by
 have hn := NowW.begin h
 have hr : (hopsW y s).runZ xs z = (hopsW y s).runZ xs z := rfl
 go_enter Tryz.func176, Tryz.ntmps176
 refine coStart <| zQ hn <| coB <| zQ hn <| coI (y == 0) (fun h3 => ?_) fun h3 => ?_
 · have g3 : y = 0 := by simpa using h3
   iterate 2 first | have hr := pZ hr | have hr := qZ hr | have hr := pbZ hr | have hr := qbZ hr | skip
   exact coSkip <| eoB <| eoV (OutY.ok (dZ hr) hn)
 have g3 : ¬ y = 0 := by simpa using h3
 iterate 2 first | have hr := pZ hr | have hr := qZ hr | have hr := pbZ hr | have hr := qbZ hr | skip
 refine zQ hn <| coI (y == 1) (fun h5 => ?_) fun h5 => ?_
 · have g5 : y = 1 := by simpa using h5
   iterate 2 first | have hr := pZ hr | have hr := qZ hr | have hr := pbZ hr | have hr := qbZ hr | skip
   exact have b6 := hn.at_.ms.r; coZ <| zR 5 hn <| zBB (rswap_any s.r _) hn <| fun w7 hn => zFs hn _ (hn.at_.ms.u_rg ((b6).swap)) <| fun w8 hn => eoB <| eoV (OutY.ok (dZ hr) hn)
 have g5 : ¬ y = 1 := by simpa using h5
 iterate 2 first | have hr := pZ hr | have hr := qZ hr | have hr := pbZ hr | have hr := qbZ hr | skip
 refine zQ hn <| coI (y == 2) (fun h10 => ?_) fun h10 => ?_
 · have g10 : y = 2 := by simpa using h10
   iterate 2 first | have hr := pZ hr | have hr := qZ hr | have hr := pbZ hr | have hr := qbZ hr | skip
   exact coR <| zR 1 hn <| zY (w_states 1 hn.at_) hn hr <| fun s12 z12 w12 hn hr => wT <| coR <| zR 1 hn <| zAA (w_less hn.at_) hn <| fun w14 hn => zE hn <| coZ <| zR 3 hn <| zYt (w_hop (s12.left != 0) hn.at_) hn hr <| fun s15 z15 w15 hn hr => woE <| eoB <| eoV (OutY.ok hr hn)
 have g10 : ¬ y = 2 := by simpa using h10
 iterate 2 first | have hr := pZ hr | have hr := qZ hr | have hr := pbZ hr | have hr := qbZ hr | skip
 refine zQ hn <| coI (y == 3) (fun h17 => ?_) fun h17 => ?_
 · have g17 : y = 3 := by simpa using h17
   iterate 2 first | have hr := pZ hr | have hr := qZ hr | have hr := pbZ hr | have hr := qbZ hr | skip
   exact coZ <| zR 1 hn <| zY (w_hop true hn.at_) hn hr <| fun s18 z18 w18 hn hr => woE <| eoB <| eoV (OutY.ok (dZ hr) hn)
 have g17 : ¬ y = 3 := by simpa using h17
 iterate 2 first | have hr := pZ hr | have hr := qZ hr | have hr := pbZ hr | have hr := qbZ hr | skip
 exact have b19 := fW_byte hn.at_.ms; coZ <| zR 2 hn <| zAA (w_f hn.at_) hn <| fun w20 hn => zR 1 hn <| kBin 10 (egI _ _ _ _ _) (bSubI y 4 (by have := hAy; omega) (by have := hAy; omega)) <| zBB (rtest_any s.f (y - 4) (b19).1 (b19).2 _ ) hn <| fun w21 hn => zYt (w_hop (testM s.f (y - 4)) hn.at_) hn hr <| fun s22 z22 w22 hn hr => woE <| eoB <| eoV (OutY.ok hr hn)
theorem w_stores (y : Int) {s : Ws} {xs : List Int} {z : Zs} {w : World} {p B : Nat} (h : AtW w p B s xs z) :
    Calls Tryz.prog 179 #[pT p 0, .int .i64 (y)] w (OutY w p B xs ((storesW y s).runZ xs z)) := by
 have hn := NowW.begin h
 have hr : (storesW y s).runZ xs z = (storesW y s).runZ xs z := rfl
 go_enter Tryz.func179, Tryz.ntmps179
 refine coStart <| have b2 := hn.at_.ms.r.bc; zQ hn <| coS <| coR <| zR 3 hn ?_
 rcases Bool.eq_false_or_eq_true (y == 2) with h5 | h5
 · have g5 : y = 2 := by simpa using h5
   refine tell 15 h5 <| zE hn <| coT ?_
   iterate 2 first | have hr := pZ hr | have hr := qZ hr | have hr := pbZ hr | have hr := qbZ hr | skip
   refine have b6 := hn.at_.ms.r.de; coZ <| zE hn <| coS <| zQ hn <| coK (decide (3 < y)) (fun h9 => absurd h9 (by first | (simp; omega) | simp [*])) <| fun h9 => ?_
   iterate 2 first | have hr := pZ hr | have hr := qZ hr | have hr := pbZ hr | have hr := qbZ hr | skip
   refine coSkip <| eoT <| coS <| zQ hn <| coB <| coS <| zQ hn <| coK (y == 0) (fun h14 => absurd h14 (by first | (simp; omega) | simp [*])) <| fun h14 => ?_
   iterate 2 first | have hr := pZ hr | have hr := qZ hr | have hr := pbZ hr | have hr := qbZ hr | skip
   refine zQ hn <| coJ (y == 2) (fun h16 => absurd h16 (by first | (simp; omega) | simp [*])) <| fun h16 => ?_
   iterate 2 first | have hr := pZ hr | have hr := qZ hr | have hr := pbZ hr | have hr := qbZ hr | skip
   refine coSkip <| eoT <| coJ (y == 2) (fun h17 => absurd h17 (by first | (simp; omega) | simp [*])) <| fun h17 => ?_
   iterate 2 first | have hr := pZ hr | have hr := qZ hr | have hr := pbZ hr | have hr := qbZ hr | skip
   exact have b19 := aW_byte hn.at_.ms; coR <| zR 3 hn <| zAA (w_a hn.at_) hn <| fun w20 hn => zY (w_write s.r.de (b6) s.a (b19) hn.at_) hn hr <| fun s21 z21 w21 hn hr => wT <| have b23 := aW_byte hn.at_.ms; coR <| zR 2 hn <| zAA (w_a hn.at_) hn <| fun w24 hn => zR 1 hn <| kE (rlo_any s.r.de (b6).1 (b6).2 _) <| zR 1 hn <| kE (rword_any s21.a (((s.r.de % 256) + 1) % 256) (b23).1 (b23).2 (B8.mod _).1 (B8.mod _).2 _) <| zEs hn (.u_wz _ (256 * s21.a + (((s.r.de % 256) + 1) % 256))) (hn.at_.ms.u_wz (Wd16.mk8 (b23) (B8.mod _))) <| fun w27 hn => coRet <| eoBr <| eoTr <| eoVr (OutY.ok (dZ hr) hn)
 have g5 : ¬ y = 2 := by simpa using h5
 refine tell 15 h5 <| zE hn <| coI (y == 3) (fun h28 => ?_) fun h28 => ?_
 · have g28 : y = 3 := by simpa using h28
   first | (have hr := hr.trans (zif_pos g28); have hr := hr.trans (zif_neg g5)) | (have hr := hr.trans (zif_neg g5); have hr := hr.trans (zif_pos g28))
   refine have b29 := hn.at_.ms.r.de; coZ <| zE hn <| coS <| zQ hn <| coK (decide (3 < y)) (fun h32 => absurd h32 (by first | (simp; omega) | simp [*])) <| fun h32 => ?_
   iterate 2 first | have hr := pZ hr | have hr := qZ hr | have hr := pbZ hr | have hr := qbZ hr | skip
   refine coSkip <| eoT <| coS <| zQ hn <| coB <| coS <| zQ hn <| coK (y == 0) (fun h37 => absurd h37 (by first | (simp; omega) | simp [*])) <| fun h37 => ?_
   iterate 2 first | have hr := pZ hr | have hr := qZ hr | have hr := pbZ hr | have hr := qbZ hr | skip
   refine zQ hn <| coK (y == 2) (fun h39 => absurd h39 (by first | (simp; omega) | simp [*])) <| fun h39 => ?_
   iterate 2 first | have hr := pZ hr | have hr := qZ hr | have hr := pbZ hr | have hr := qbZ hr | skip
   refine coZ <| zE hn <| coK (y == 6) (fun h40 => absurd h40 (by first | (simp; omega) | simp [*])) <| fun h40 => ?_
   iterate 2 first | have hr := pZ hr | have hr := qZ hr | have hr := pbZ hr | have hr := qbZ hr | skip
   refine coS <| zQ hn <| coK (y == 1) (fun h43 => absurd h43 (by first | (simp; omega) | simp [*])) <| fun h43 => ?_
   iterate 2 first | have hr := pZ hr | have hr := qZ hr | have hr := pbZ hr | have hr := qbZ hr | skip
   refine zQ hn <| coJ (y == 3) (fun h45 => absurd h45 (by first | (simp; omega) | simp [*])) <| fun h45 => ?_
   iterate 2 first | have hr := pZ hr | have hr := qZ hr | have hr := pbZ hr | have hr := qbZ hr | skip
   refine coSkip <| eoT <| coJ (y == 3) (fun h46 => absurd h46 (by first | (simp; omega) | simp [*])) <| fun h46 => ?_
   iterate 2 first | have hr := pZ hr | have hr := qZ hr | have hr := pbZ hr | have hr := qbZ hr | skip
   exact coR <| zR 2 hn <| zX (w_read s.r.de (b29) hn.at_) hn hr <| fun v48 s48 z48 w48 hk48 hn hr => zE hn <| have b49 := fW_byte hn.at_.ms; coZ <| zR 3 hn <| zAA (w_f hn.at_) hn <| fun w50 hn => zAA (w_put v48 (hk48) s48.f (b49) hn.at_) hn <| fun w51 hn => woE <| eoB <| eoT <| coZ <| zFs hn (.u_wz _ ((s.r.de + 1) % 65536)) (hn.at_.ms.u_wz (Wd16.mod _)) <| fun w52 hn => eoV (OutY.ok (dZ hr) hn)
 have g28 : ¬ y = 3 := by simpa using h28
 first | (have hr := hr.trans (zif_neg g28); have hr := hr.trans (zif_neg g5)) | (have hr := hr.trans (zif_neg g5); have hr := hr.trans (zif_neg g28))
 refine coSkip <| eoT <| coS <| zQ hn <| coI (decide (3 < y)) (fun h55 => ?_) fun h55 => ?_
 · have g55 : 3 < y := by simpa using h55
   iterate 2 first | have hr := pZ hr | have hr := qZ hr | have hr := pbZ hr | have hr := qbZ hr | skip
   refine coZ <| zR 1 hn <| zX (w_word hn.at_) hn hr <| fun v56 s56 z56 w56 hk56 hn hr => zE hn <| coS <| zQ hn <| coB <| coS <| zQ hn <| coK (y == 0) (fun h61 => absurd h61 (by first | (simp; omega) | simp [*])) <| fun h61 => ?_
   iterate 2 first | have hr := pZ hr | have hr := qZ hr | have hr := pbZ hr | have hr := qbZ hr | skip
   refine zQ hn <| coK (y == 2) (fun h63 => absurd h63 (by first | (simp; omega) | simp [*])) <| fun h63 => ?_
   iterate 2 first | have hr := pZ hr | have hr := qZ hr | have hr := pbZ hr | have hr := qbZ hr | skip
   refine coZ <| zE hn <| coI (y == 6) (fun h64 => ?_) fun h64 => ?_
   · have g64 : y = 6 := by simpa using h64
     iterate 2 first | have hr := pZ hr | have hr := qZ hr | have hr := pbZ hr | have hr := qbZ hr | skip
     exact have b66 := aW_byte hn.at_.ms; coR <| zR 3 hn <| zAA (w_a hn.at_) hn <| fun w67 hn => zY (w_write v56 (hk56) s56.a (b66) hn.at_) hn hr <| fun s68 z68 w68 hn hr => wT <| have b70 := aW_byte hn.at_.ms; coR <| zR 2 hn <| zAA (w_a hn.at_) hn <| fun w71 hn => zR 1 hn <| kE (rlo_any v56 (hk56).1 (hk56).2 _) <| zR 1 hn <| kE (rword_any s68.a (((v56 % 256) + 1) % 256) (b70).1 (b70).2 (B8.mod _).1 (B8.mod _).2 _) <| zEs hn (.u_wz _ (256 * s68.a + (((v56 % 256) + 1) % 256))) (hn.at_.ms.u_wz (Wd16.mk8 (b70) (B8.mod _))) <| fun w74 hn => coRet <| eoBr <| eoTr <| eoVr (OutY.ok (dZ hr) hn)
   have g64 : ¬ y = 6 := by simpa using h64
   iterate 2 first | have hr := pZ hr | have hr := qZ hr | have hr := pbZ hr | have hr := qbZ hr | skip
   refine coS <| zQ hn <| coK (y == 1) (fun h77 => absurd h77 (by first | (simp; omega) | simp [*])) <| fun h77 => ?_
   iterate 2 first | have hr := pZ hr | have hr := qZ hr | have hr := pbZ hr | have hr := qbZ hr | skip
   refine zQ hn <| coK (y == 3) (fun h79 => absurd h79 (by first | (simp; omega) | simp [*])) <| fun h79 => ?_
   iterate 2 first | have hr := pZ hr | have hr := qZ hr | have hr := pbZ hr | have hr := qbZ hr | skip
   refine coZ <| zE hn <| coI (y == 7) (fun h80 => ?_) fun h80 => ?_
   · have g80 : y = 7 := by simpa using h80
     iterate 2 first | have hr := pZ hr | have hr := qZ hr | have hr := pbZ hr | have hr := qbZ hr | skip
     exact coR <| zR 2 hn <| zX (w_read v56 (hk56) hn.at_) hn hr <| fun v82 s82 z82 w82 hk82 hn hr => zE hn <| have b83 := fW_byte hn.at_.ms; coZ <| zR 3 hn <| zAA (w_f hn.at_) hn <| fun w84 hn => zAA (w_put v82 (hk82) s82.f (b83) hn.at_) hn <| fun w85 hn => woE <| eoB <| eoT <| coZ <| zFs hn (.u_wz _ ((v56 + 1) % 65536)) (hn.at_.ms.u_wz (Wd16.mod _)) <| fun w86 hn => eoV (OutY.ok (dZ hr) hn)
   have g80 : ¬ y = 7 := by simpa using h80
   iterate 2 first | have hr := pZ hr | have hr := qZ hr | have hr := pbZ hr | have hr := qbZ hr | skip
   refine zQ hn <| coI (y == 4) (fun h88 => ?_) fun h88 => ?_
   · have g88 : y = 4 := by simpa using h88
     iterate 2 first | have hr := pZ hr | have hr := qZ hr | have hr := pbZ hr | have hr := qbZ hr | skip
     exact have b90 := hlW_word hn.at_.ms; coR <| zR 3 hn <| zAA (w_hl hn.at_) hn <| fun w91 hn => kE (rlo_any s56.hl (b90).1 (b90).2 _) <| zY (w_write v56 (hk56) (s56.hl % 256) ((b90).lo8) hn.at_) hn hr <| fun s93 z93 w93 hn hr => wT <| have b94 := hlW_word hn.at_.ms; coZ <| zR 4 hn <| zAA (w_hl hn.at_) hn <| fun w95 hn => kE (rhi_any s93.hl (b94).1 (b94).2 _) <| zY (w_write ((v56 + 1) % 65536) (Wd16.mod _) (s93.hl / 256) ((b94).hi) hn.at_) hn hr <| fun s97 z97 w97 hn hr => woE <| eoB <| eoT <| coZ <| zFs hn (.u_wz _ ((v56 + 1) % 65536)) (hn.at_.ms.u_wz (Wd16.mod _)) <| fun w98 hn => eoV (OutY.ok (dZ hr) hn)
   have g88 : ¬ y = 4 := by simpa using h88
   iterate 2 first | have hr := pZ hr | have hr := qZ hr | have hr := pbZ hr | have hr := qbZ hr | skip
   refine zQ hn <| coI (y == 5) (fun h100 => ?_) fun h100 => ?_
   · have g100 : y = 5 := by simpa using h100
     iterate 2 first | have hr := pZ hr | have hr := qZ hr | have hr := pbZ hr | have hr := qbZ hr | skip
     exact coR <| zR 2 hn <| zX (w_read v56 (hk56) hn.at_) hn hr <| fun v102 s102 z102 w102 hk102 hn hr => zE hn <| coR <| zR 3 hn <| zX (w_read ((v56 + 1) % 65536) (Wd16.mod _) hn.at_) hn hr <| fun v104 s104 z104 w104 hk104 hn hr => zE hn <| coZ <| zR 3 hn <| kE (rword_any v104 v102 (hk104).1 (hk104).2 (hk102).1 (hk102).2 _) <| zAA (w_setHl (256 * v104 + v102) (Wd16.mk8 (hk104) (hk102)) hn.at_) hn <| fun w106 hn => woE <| eoB <| eoT <| coZ <| zFs hn (.u_wz _ ((v56 + 1) % 65536)) (hn.at_.ms.u_wz (Wd16.mod _)) <| fun w107 hn => eoV (OutY.ok (dZ hr) hn)
   have g100 : ¬ y = 5 := by simpa using h100
   iterate 2 first | have hr := pZ hr | have hr := qZ hr | have hr := pbZ hr | have hr := qbZ hr | skip
   exact coSkip <| eoB <| eoT <| coZ <| zFs hn (.u_wz _ ((v56 + 1) % 65536)) (hn.at_.ms.u_wz (Wd16.mod _)) <| fun w108 hn => eoV (OutY.ok (dZ hr) hn)
 have g55 : ¬ 3 < y := by simpa using h55
 iterate 2 first | have hr := pZ hr | have hr := qZ hr | have hr := pbZ hr | have hr := qbZ hr | skip
 refine coSkip <| eoT <| coS <| zQ hn <| coB <| coS <| zQ hn <| coI (y == 0) (fun h113 => ?_) fun h113 => ?_
 · have g113 : y = 0 := by simpa using h113
   iterate 2 first | have hr := pZ hr | have hr := qZ hr | have hr := pbZ hr | have hr := qbZ hr | skip
   refine coSkip <| eoT <| coJ (y == 0) (fun h114 => absurd h114 (by first | (simp; omega) | simp [*])) <| fun h114 => ?_
   iterate 2 first | have hr := pZ hr | have hr := qZ hr | have hr := pbZ hr | have hr := qbZ hr | skip
   exact have b116 := aW_byte hn.at_.ms; coR <| zR 3 hn <| zAA (w_a hn.at_) hn <| fun w117 hn => zY (w_write s.r.bc (b2) s.a (b116) hn.at_) hn hr <| fun s118 z118 w118 hn hr => wT <| have b120 := aW_byte hn.at_.ms; coR <| zR 2 hn <| zAA (w_a hn.at_) hn <| fun w121 hn => zR 1 hn <| kE (rlo_any s.r.bc (b2).1 (b2).2 _) <| zR 1 hn <| kE (rword_any s118.a (((s.r.bc % 256) + 1) % 256) (b120).1 (b120).2 (B8.mod _).1 (B8.mod _).2 _) <| zEs hn (.u_wz _ (256 * s118.a + (((s.r.bc % 256) + 1) % 256))) (hn.at_.ms.u_wz (Wd16.mk8 (b120) (B8.mod _))) <| fun w124 hn => coRet <| eoBr <| eoTr <| eoVr (OutY.ok (dZ hr) hn)
 have g113 : ¬ y = 0 := by simpa using h113
 iterate 2 first | have hr := pZ hr | have hr := qZ hr | have hr := pbZ hr | have hr := qbZ hr | skip
 refine zQ hn <| coK (y == 2) (fun h126 => absurd h126 (by first | (simp; omega) | simp [*])) <| fun h126 => ?_
 iterate 2 first | have hr := pZ hr | have hr := qZ hr | have hr := pbZ hr | have hr := qbZ hr | skip
 refine coZ <| zE hn <| coK (y == 6) (fun h127 => absurd h127 (by first | (simp; omega) | simp [*])) <| fun h127 => ?_
 iterate 2 first | have hr := pZ hr | have hr := qZ hr | have hr := pbZ hr | have hr := qbZ hr | skip
 refine coS <| zQ hn <| coI (y == 1) (fun h130 => ?_) fun h130 => ?_
 · have g130 : y = 1 := by simpa using h130
   iterate 2 first | have hr := pZ hr | have hr := qZ hr | have hr := pbZ hr | have hr := qbZ hr | skip
   refine coSkip <| eoT <| coJ (y == 1) (fun h131 => absurd h131 (by first | (simp; omega) | simp [*])) <| fun h131 => ?_
   iterate 2 first | have hr := pZ hr | have hr := qZ hr | have hr := pbZ hr | have hr := qbZ hr | skip
   exact coR <| zR 2 hn <| zX (w_read s.r.bc (b2) hn.at_) hn hr <| fun v133 s133 z133 w133 hk133 hn hr => zE hn <| have b134 := fW_byte hn.at_.ms; coZ <| zR 3 hn <| zAA (w_f hn.at_) hn <| fun w135 hn => zAA (w_put v133 (hk133) s133.f (b134) hn.at_) hn <| fun w136 hn => woE <| eoB <| eoT <| coZ <| zFs hn (.u_wz _ ((s.r.bc + 1) % 65536)) (hn.at_.ms.u_wz (Wd16.mod _)) <| fun w137 hn => eoV (OutY.ok (dZ hr) hn)
 have g130 : ¬ y = 1 := by simpa using h130
 iterate 2 first | have hr := pZ hr | have hr := qZ hr | have hr := pbZ hr | have hr := qbZ hr | skip
 refine zQ hn <| coK (y == 3) (fun h139 => absurd h139 (by first | (simp; omega) | simp [*])) <| fun h139 => ?_
 iterate 2 first | have hr := pZ hr | have hr := qZ hr | have hr := pbZ hr | have hr := qbZ hr | skip
 refine coZ <| zE hn <| coK (y == 7) (fun h140 => absurd h140 (by first | (simp; omega) | simp [*])) <| fun h140 => ?_
 iterate 2 first | have hr := pZ hr | have hr := qZ hr | have hr := pbZ hr | have hr := qbZ hr | skip
 refine zQ hn <| coK (y == 4) (fun h142 => absurd h142 (by first | (simp; omega) | simp [*])) <| fun h142 => ?_
 iterate 2 first | have hr := pZ hr | have hr := qZ hr | have hr := pbZ hr | have hr := qbZ hr | skip
 refine zQ hn <| coK (y == 5) (fun h144 => absurd h144 (by first | (simp; omega) | simp [*])) <| fun h144 => ?_
 iterate 2 first | have hr := pZ hr | have hr := qZ hr | have hr := pbZ hr | have hr := qbZ hr | skip
 exact coSkip <| eoB <| eoT <| coZ <| zFs hn (.u_wz _ ((s.r.bc + 1) % 65536)) (hn.at_.ms.u_wz (Wd16.mod _)) <| fun w145 hn => eoV (OutY.ok (dZ hr) hn)
theorem w_step (y : Int) (zA : Int) {s : Ws} {xs : List Int} {z : Zs} {w : World} {p B : Nat} (h : AtW w p B s xs z) :
    Calls Tryz.prog 180 #[pT p 0, .int .i64 (y), .int .i64 (zA)] w (OutY w p B xs ((stepW y zA s).runZ xs z)) := by
 have hn := NowW.begin h
 have hr : (stepW y zA s).runZ xs z = (stepW y zA s).runZ xs z := rfl
 go_enter Tryz.func180, Tryz.ntmps180
 refine coStart <| coR <| zR 2 hn <| zX (w_get y hn.at_) hn hr <| fun v2 s2 z2 w2 hk2 hn hr => zE hn <| coS <| zQ hn <| coI (y == 6) (fun h5 => ?_) fun h5 => ?_
 · have g5 : y = 6 := by simpa using h5
   first | have hr := pZ hr | have hr := qZ hr | have hr := pbZ hr | have hr := qbZ hr | skip
   refine coZ <| zR 1 hn <| zY (w_states 1 hn.at_) hn hr <| fun s6 z6 w6 hn hr => wT <| have b8 := fW_byte hn.at_.ms; coR <| zR 2 hn <| zAA (w_f hn.at_) hn <| fun w9 hn => zBB (rinc_any v2 s6.f (hk2) (b8) _) hn <| fun w10 hn => zE hn <| coS <| zQ hn <| zIf hr (fun g13 hr => ?_) fun g13 hr => ?_
   · exact have b14 := fW_byte hn.at_.ms; coZ <| zR 2 hn <| zAA (w_f hn.at_) hn <| fun w15 hn => zBB (rdec_any v2 s6.f (hk2) (b14) _) hn <| fun w16 hn => zE hn <| have b18 := aW_byte hn.at_.ms; coR <| zR 2 hn <| zAA (w_a hn.at_) hn <| fun w19 hn => zR 1 hn <| zAA (w_put s6.a (b18) (decF v2 s6.f) (decF_byte _ _) hn.at_) hn <| fun w20 hn => wT <| coZ <| zR 3 hn <| zYt (w_set y (subR v2 1 false) (subR_byte _ _ _) hn.at_) hn hr <| fun s21 z21 w21 hn hr => woE <| eoV (OutY.ok hr hn)
   exact coSkip <| eoT <| have b23 := aW_byte hn.at_.ms; coR <| zR 2 hn <| zAA (w_a hn.at_) hn <| fun w24 hn => zR 1 hn <| zAA (w_put s6.a (b23) (incF v2 s6.f) (incF_byte _ _) hn.at_) hn <| fun w25 hn => wT <| coZ <| zR 3 hn <| zYt (w_set y (addR v2 1 false) (addR_byte _ _ _) hn.at_) hn hr <| fun s26 z26 w26 hn hr => woE <| eoV (OutY.ok hr hn)
 have g5 : ¬ y = 6 := by simpa using h5
 first | have hr := pZ hr | have hr := qZ hr | have hr := pbZ hr | have hr := qbZ hr | skip
 refine coSkip <| eoT <| have b28 := fW_byte hn.at_.ms; coR <| zR 2 hn <| zAA (w_f hn.at_) hn <| fun w29 hn => zBB (rinc_any v2 s2.f (hk2) (b28) _) hn <| fun w30 hn => zE hn <| coS <| zQ hn <| zIf hr (fun g33 hr => ?_) fun g33 hr => ?_
 · exact have b34 := fW_byte hn.at_.ms; coZ <| zR 2 hn <| zAA (w_f hn.at_) hn <| fun w35 hn => zBB (rdec_any v2 s2.f (hk2) (b34) _) hn <| fun w36 hn => zE hn <| have b38 := aW_byte hn.at_.ms; coR <| zR 2 hn <| zAA (w_a hn.at_) hn <| fun w39 hn => zR 1 hn <| zAA (w_put s2.a (b38) (decF v2 s2.f) (decF_byte _ _) hn.at_) hn <| fun w40 hn => wT <| coZ <| zR 3 hn <| zYt (w_set y (subR v2 1 false) (subR_byte _ _ _) hn.at_) hn hr <| fun s41 z41 w41 hn hr => woE <| eoV (OutY.ok hr hn)
 exact coSkip <| eoT <| have b43 := aW_byte hn.at_.ms; coR <| zR 2 hn <| zAA (w_a hn.at_) hn <| fun w44 hn => zR 1 hn <| zAA (w_put s2.a (b43) (incF v2 s2.f) (incF_byte _ _) hn.at_) hn <| fun w45 hn => wT <| coZ <| zR 3 hn <| zYt (w_set y (addR v2 1 false) (addR_byte _ _ _) hn.at_) hn hr <| fun s46 z46 w46 hn hr => woE <| eoV (OutY.ok hr hn)
theorem w_turn (y : Int) {s : Ws} {xs : List Int} {z : Zs} {w : World} {p B : Nat} (h : AtW w p B s xs z) :
    Calls Tryz.prog 181 #[pT p 0, .int .i64 (y)] w (fun e w' => e = .returned (.tuple #[]) ∧ NowW w p B (turnW y s) xs z w') := by
 have hn := NowW.begin h
 go_enter Tryz.func181, Tryz.ntmps181
 refine coStart <| have b2 := aW_byte hn.at_.ms; coR <| zR 1 hn <| zAA (w_a hn.at_) hn <| fun w3 hn => zE hn <| have b5 := fW_byte hn.at_.ms; coR <| zR 1 hn <| zAA (w_f hn.at_) hn <| fun w6 hn => zE hn <| coS <| zQ hn <| coB <| zQ hn <| coI (y == 4) (fun h10 => ?_) fun h10 => ?_
 · have g10 : y = 4 := by simpa using h10
   refine coZ <| zR 2 hn <| zBB (rdaa_any s.a s.f (b2) (b5) _ ) hn <| fun w11 hn => zF hn <| eoB <| eoT <| coZ <| zR 3 hn <| zAA (w_put (daaR s.a s.f) (daaR_byte _ _) (daaF s.a s.f) (daaF_byte _ _) hn.at_) hn <| fun w12 hn => woE <| eoV ?_
   have e : turnW y s = s.af (daaR s.a s.f) (daaF s.a s.f) := by
    unfold turnW
    repeat (first | rw [if_pos (by assumption)] | rw [if_neg (by assumption)])
    all_goals rfl
   exact ⟨rfl, e ▸ hn⟩
 have g10 : ¬ y = 4 := by simpa using h10
 refine zQ hn <| coI (y == 5) (fun h14 => ?_) fun h14 => ?_
 · have g14 : y = 5 := by simpa using h14
   refine coZ <| zR 2 hn <| zBB (rcpl_any s.a s.f (b2) (b5) _) hn <| fun w15 hn => zF hn <| eoB <| eoT <| coZ <| zR 3 hn <| zAA (w_put (255 - s.a) (B8.not (b2)) (cplF s.a s.f) (linesM_byte _ _ _ _ _) hn.at_) hn <| fun w16 hn => woE <| eoV ?_
   have e : turnW y s = s.af (255 - s.a) (cplF s.a s.f) := by
    unfold turnW
    repeat (first | rw [if_pos (by assumption)] | rw [if_neg (by assumption)])
    all_goals rfl
   exact ⟨rfl, e ▸ hn⟩
 have g14 : ¬ y = 5 := by simpa using h14
 refine zQ hn <| coI (y == 6) (fun h18 => ?_) fun h18 => ?_
 · have g18 : y = 6 := by simpa using h18
   refine coZ <| zR 2 hn <| zBB (rscf_any s.a s.f (b2) (b5) _) hn <| fun w19 hn => zF hn <| eoB <| eoT <| coZ <| zR 3 hn <| zAA (w_put s.a (b2) (scfF s.a s.f) (linesM_byte _ _ _ _ _) hn.at_) hn <| fun w20 hn => woE <| eoV ?_
   have e : turnW y s = s.af s.a (scfF s.a s.f) := by
    unfold turnW
    repeat (first | rw [if_pos (by assumption)] | rw [if_neg (by assumption)])
    all_goals rfl
   exact ⟨rfl, e ▸ hn⟩
 have g18 : ¬ y = 6 := by simpa using h18
 refine zQ hn <| coI (y == 7) (fun h22 => ?_) fun h22 => ?_
 · have g22 : y = 7 := by simpa using h22
   refine coZ <| zR 2 hn <| zBB (rccf_any s.a s.f (b2) (b5) _) hn <| fun w23 hn => zF hn <| eoB <| eoT <| coZ <| zR 3 hn <| zAA (w_put s.a (b2) (ccfF s.a s.f) (linesM_byte _ _ _ _ _) hn.at_) hn <| fun w24 hn => woE <| eoV ?_
   have e : turnW y s = s.af s.a (ccfF s.a s.f) := by
    unfold turnW
    repeat (first | rw [if_pos (by assumption)] | rw [if_neg (by assumption)])
    all_goals rfl
   exact ⟨rfl, e ▸ hn⟩
 have g22 : ¬ y = 7 := by simpa using h22
 refine coZ <| zR 3 hn <| zBB (racc_any y s.a s.f (b2) (b5) _ ) hn <| fun w25 hn => zF hn <| eoB <| eoT <| coZ <| zR 3 hn <| zAA (w_put (accR y s.a s.f) (accR_byte _ _ _ (b2)) (accF y s.a s.f) (accF_byte _ _ _ (b5)) hn.at_) hn <| fun w26 hn => woE <| eoV ?_
 have e : turnW y s = s.af (accR y s.a s.f) (accF y s.a s.f) := by
  unfold turnW
  repeat (first | rw [if_pos (by assumption)] | rw [if_neg (by assumption)])
  all_goals rfl
 exact ⟨rfl, e ▸ hn⟩
theorem w_back  {s : Ws} {xs : List Int} {z : Zs} {w : World} {p B : Nat} (h : AtW w p B s xs z) :
    Calls Tryz.prog 87 #[pT p 0] w (OutY w p B xs ((backW s).runZ xs z)) := by
 have hn := NowW.begin h
 have hr : (backW s).runZ xs z = (backW s).runZ xs z := rfl
 go_enter Tryz.func87, Tryz.ntmps87
 exact coStart <| coR <| zR 2 hn <| zX (w_pop hn.at_) hn hr <| fun v2 s2 z2 w2 hk2 hn hr => zEs hn (.u_pc _ (v2)) (hn.at_.ms.u_pc (hk2)) <| fun w3 hn => have b4 := hn.at_.ms.r.pc; coZ <| zFs hn ((s2.u_pc (v2)).u_wz ((s2.u_pc (v2)).r.pc)) (hn.at_.ms.u_wz (b4)) <| fun w5 hn => eoV (OutY.ok (dZ hr) hn)
theorem w_call (o : Bool) {s : Ws} {xs : List Int} {z : Zs} {w : World} {p B : Nat} (h : AtW w p B s xs z) :
    Calls Tryz.prog 190 #[pT p 0, .bool (o)] w (OutY w p B xs ((callW o s).runZ xs z)) := by
 have hn := NowW.begin h
 have hr : (callW o s).runZ xs z = (callW o s).runZ xs z := rfl
 go_enter Tryz.func190, Tryz.ntmps190
 refine coStart <| coR <| zR 2 hn <| zX (w_word hn.at_) hn hr <| fun v2 s2 z2 w2 hk2 hn hr => zEs hn (.u_wz _ (v2)) (hn.at_.ms.u_wz (hk2)) <| fun w3 hn => zQ hn <| coI (o) (fun h5 => ?_) fun h5 => ?_
 · have g5 : o = true := by simpa using h5
   exact have hr := hr.trans (zif_pos g5); coR <| zR 1 hn <| zY (w_states 1 hn.at_) hn hr <| fun s7 z7 w7 hn hr => wT <| have b9 := hn.at_.ms.r.pc; coR <| zR 6 hn <| zY (w_push s7.r.pc (b9) hn.at_) hn hr <| fun s10 z10 w10 hn hr => wT <| have b11 := hn.at_.ms.r.wz; coZ <| zFs hn (.u_pc _ (s10.r.wz)) (hn.at_.ms.u_pc (b11)) <| fun w12 hn => eoV (OutY.ok (dZ hr) hn)
 have g5 : ¬ o = true := by simpa using h5
 exact have hr := hr.trans (zif_neg g5); coSkip <| eoV (OutY.ok (dZ hr) hn)
theorem w_pops (pA : Int) (qA : Int) {s : Ws} {xs : List Int} {z : Zs} {w : World} {p B : Nat} (h : AtW w p B s xs z) :
    Calls Tryz.prog 188 #[pT p 0, .int .i64 (pA), .int .i64 (qA)] w (OutY w p B xs ((popsW pA qA s).runZ xs z)) := by
 have hn := NowW.begin h
 have hr : (popsW pA qA s).runZ xs z = (popsW pA qA s).runZ xs z := rfl
 go_enter Tryz.func188, Tryz.ntmps188
 refine coStart <| coB <| coR <| zR 3 hn ?_
 rcases Bool.eq_false_or_eq_true (qA == 0) with h2 | h2
 · have g2 : qA = 0 := by simpa using h2
   refine tell 18 h2 <| zE hn <| coI (pA == 3) (fun h3 => ?_) fun h3 => ?_
   · have g3 : pA = 3 := by simpa using h3
     first | (have hr := hr.trans (zif_pos g3); have hr := hr.trans (zif_pos g2)) | (have hr := hr.trans (zif_pos g2); have hr := hr.trans (zif_pos g3))
     exact coZ <| zR 2 hn <| zX (w_pop hn.at_) hn hr <| fun v4 s4 z4 w4 hk4 hn hr => zFs hn (.u_af _ (v4)) (hn.at_.ms.u_af (hk4)) <| fun w5 hn => eoB <| eoV (OutY.ok (dZ hr) hn)
   have g3 : ¬ pA = 3 := by simpa using h3
   first | (have hr := hr.trans (zif_pos g2); have hr := hr.trans (zif_neg g3)) | (have hr := hr.trans (zif_neg g3); have hr := hr.trans (zif_pos g2))
   refine zQ hn <| coJ (qA == 0) (fun h7 => absurd h7 (by first | (simp; omega) | simp [*])) <| fun h7 => ?_
   iterate 2 first | have hr := pZ hr | have hr := qZ hr | have hr := pbZ hr | have hr := qbZ hr | skip
   exact coR <| zR 1 hn <| zX (w_pop hn.at_) hn hr <| fun v9 s9 z9 w9 hk9 hn hr => zE hn <| zPz 14 hn <| fun w10 hn => have b11 := hn.at_.ms.r; zD [0, 1, 2, 3, 4, 5, 6, 7, 8, 9, 10] hn <| zDb 11 (rsetPair_any s9.r s9.plane pA v9 _) hn <| fun w12 hn => zD [12, 13] hn <| poE <| zFs hn _ (hn.at_.ms.u_rg ((b11).setPair _ _ (hk9))) <| fun w13 hn => eoB <| eoV (OutY.ok (dZ hr) hn)
 have g2 : ¬ qA = 0 := by simpa using h2
 refine tell 18 h2 <| zE hn <| coF ?_
 iterate 2 first | have hr := pZ hr | have hr := qZ hr | have hr := pbZ hr | have hr := qbZ hr | skip
 refine zQ hn <| coK (qA == 0) (fun h15 => absurd h15 (by first | (simp; omega) | simp [*])) <| fun h15 => ?_
 iterate 2 first | have hr := pZ hr | have hr := qZ hr | have hr := pbZ hr | have hr := qbZ hr | skip
 refine zQ hn <| coI (pA == 0) (fun h17 => ?_) fun h17 => ?_
 · have g17 : pA = 0 := by simpa using h17
   iterate 2 first | have hr := pZ hr | have hr := qZ hr | have hr := pbZ hr | have hr := qbZ hr | skip
   exact coZ <| zR 1 hn <| zY (w_back hn.at_) hn hr <| fun s18 z18 w18 hn hr => woE <| eoB <| eoV (OutY.ok (dZ hr) hn)
 have g17 : ¬ pA = 0 := by simpa using h17
 iterate 2 first | have hr := pZ hr | have hr := qZ hr | have hr := pbZ hr | have hr := qbZ hr | skip
 refine zQ hn <| coI (pA == 1) (fun h20 => ?_) fun h20 => ?_
 · have g20 : pA = 1 := by simpa using h20
   iterate 2 first | have hr := pZ hr | have hr := qZ hr | have hr := pbZ hr | have hr := qbZ hr | skip
   exact have b21 := hn.at_.ms.r; coZ <| zR 5 hn <| zBB (rexx_any s.r _) hn <| fun w22 hn => zFs hn _ (hn.at_.ms.u_rg ((b21).exx)) <| fun w23 hn => eoB <| eoV (OutY.ok (dZ hr) hn)
 have g20 : ¬ pA = 1 := by simpa using h20
 iterate 2 first | have hr := pZ hr | have hr := qZ hr | have hr := pbZ hr | have hr := qbZ hr | skip
 refine zQ hn <| coI (pA == 2) (fun h25 => ?_) fun h25 => ?_
 · have g25 : pA = 2 := by simpa using h25
   iterate 2 first | have hr := pZ hr | have hr := qZ hr | have hr := pbZ hr | have hr := qbZ hr | skip
   exact have b26 := hlW_word hn.at_.ms; coZ <| zR 2 hn <| zAA (w_hl hn.at_) hn <| fun w27 hn => zFs hn (.u_pc _ (s.hl)) (hn.at_.ms.u_pc (b26)) <| fun w28 hn => eoB <| eoV (OutY.ok (dZ hr) hn)
 have g25 : ¬ pA = 2 := by simpa using h25
 iterate 2 first | have hr := pZ hr | have hr := qZ hr | have hr := pbZ hr | have hr := qbZ hr | skip
 exact coR <| zR 1 hn <| zY (w_states 2 hn.at_) hn hr <| fun s30 z30 w30 hn hr => wT <| have b31 := hlW_word hn.at_.ms; coZ <| zR 2 hn <| zAA (w_hl hn.at_) hn <| fun w32 hn => zFs hn (.u_sp _ (s30.hl)) (hn.at_.ms.u_sp (b31)) <| fun w33 hn => eoB <| eoV (OutY.ok (dZ hr) hn)
theorem w_ports (y : Int) {s : Ws} {xs : List Int} {z : Zs} {w : World} {p B : Nat} (h : AtW w p B s xs z) :
    Calls Tryz.prog 189 #[pT p 0, .int .i64 (y)] w (OutY w p B xs ((portsW y s).runZ xs z)) := by
 have hn := NowW.begin h
 have hr : (portsW y s).runZ xs z = (portsW y s).runZ xs z := rfl
 go_enter Tryz.func189, Tryz.ntmps189
 refine coStart <| zQ hn <| coB <| zQ hn <| zIf hr (fun g3 hr => ?_) fun g3 hr => ?_
 · exact coR <| zR 2 hn <| zX (w_word hn.at_) hn hr <| fun v5 s5 z5 w5 hk5 hn hr => zEs hn (.u_pc _ (v5)) (hn.at_.ms.u_pc (hk5)) <| fun w6 hn => have b7 := hn.at_.ms.r.pc; coZ <| zFs hn ((s5.u_pc (v5)).u_wz ((s5.u_pc (v5)).r.pc)) (hn.at_.ms.u_wz (b7)) <| fun w8 hn => eoB <| eoV (OutY.ok (dZ hr) hn)
 refine zQ hn <| zIf hr (fun g10 hr => ?_) fun g10 hr => ?_
 · exact coR <| zR 1 hn <| zX (w_number hn.at_) hn hr <| fun v12 s12 z12 w12 hk12 hn hr => zE hn <| have b14 := aW_byte hn.at_.ms; coR <| zR 2 hn <| zAA (w_a hn.at_) hn <| fun w15 hn => zR 1 hn <| kE (rword_any s12.a v12 (b14).1 (b14).2 (hk12).1 (hk12).2 _) <| have b17 := aW_byte hn.at_.ms; zR 1 hn <| zAA (w_a hn.at_) hn <| fun w18 hn => zX (w_cycle 5 (256 * s12.a + v12) (Wd16.mk8 (b14) (hk12)) s12.a (b17) 4 hn.at_) hn hr <| fun v19 s19 z19 w19 hk19 hn hr => wT <| have b20 := aW_byte hn.at_.ms; coZ <| zR 2 hn <| zAA (w_a hn.at_) hn <| fun w21 hn => zR 2 hn <| kE (rword_any s19.a ((v12 + 1) % 256) (b20).1 (b20).2 (B8.mod _).1 (B8.mod _).2 _) <| zFs hn (.u_wz _ (256 * s19.a + ((v12 + 1) % 256))) (hn.at_.ms.u_wz (Wd16.mk8 (b20) (B8.mod _))) <| fun w23 hn => eoB <| eoV (OutY.ok (dZ hr) hn)
 refine zQ hn <| zIf hr (fun g25 hr => ?_) fun g25 hr => ?_
 · exact coR <| zR 1 hn <| zX (w_number hn.at_) hn hr <| fun v27 s27 z27 w27 hk27 hn hr => zE hn <| have b29 := aW_byte hn.at_.ms; coR <| zR 1 hn <| zAA (w_a hn.at_) hn <| fun w30 hn => zR 1 hn <| kE (rword_any s27.a v27 (b29).1 (b29).2 (hk27).1 (hk27).2 _) <| zE hn <| coR <| zR 2 hn <| zX (w_cycle 4 (256 * s27.a + v27) (Wd16.mk8 (b29) (hk27)) 0 (⟨by decide, by decide⟩) 4 hn.at_) hn hr <| fun v33 s33 z33 w33 hk33 hn hr => zE hn <| have b35 := fW_byte hn.at_.ms; coR <| zR 3 hn <| zAA (w_f hn.at_) hn <| fun w36 hn => zAA (w_put v33 (hk33) s33.f (b35) hn.at_) hn <| fun w37 hn => wT <| coZ <| zFs hn (.u_wz _ (((256 * s27.a + v27) + 1) % 65536)) (hn.at_.ms.u_wz (Wd16.mod _)) <| fun w38 hn => eoB <| eoV (OutY.ok (dZ hr) hn)
 refine zQ hn <| zIf hr (fun g40 hr => ?_) fun g40 hr => ?_
 · exact have b42 := hn.at_.ms.r.sp; coR <| zR 6 hn <| zX (w_read s.r.sp (b42) hn.at_) hn hr <| fun v43 s43 z43 w43 hk43 hn hr => zE hn <| have b45 := hn.at_.ms.r.sp; coR <| zR 7 hn <| zX (w_read ((s43.r.sp + 1) % 65536) (Wd16.mod _) hn.at_) hn hr <| fun v46 s46 z46 w46 hk46 hn hr => zE hn <| coR <| zR 1 hn <| zY (w_states 1 hn.at_) hn hr <| fun s48 z48 w48 hn hr => wT <| zP 10 hn <| fun w50 hn => have b51 := hn.at_.ms.r.sp; have b52 := hlW_word hn.at_.ms; zD [0, 1, 2, 3, 4, 5, 6, 7] hn <| zDa 8 (w_hl hn.at_) hn <| fun w53 hn => zDe 9 (rhi_any s48.hl (b52).1 (b52).2 _) hn <| poE <| zY (w_write ((s48.r.sp + 1) % 65536) (Wd16.mod _) (s48.hl / 256) ((b52).hi) hn.at_) hn hr <| fun s55 z55 w55 hn hr => wT <| zP 9 hn <| fun w57 hn => have b58 := hn.at_.ms.r.sp; have b59 := hlW_word hn.at_.ms; zD [0, 1, 2, 3, 4, 5, 6] hn <| zDa 7 (w_hl hn.at_) hn <| fun w60 hn => zDe 8 (rlo_any s55.hl (b59).1 (b59).2 _) hn <| poE <| zY (w_write s55.r.sp (b58) (s55.hl % 256) ((b59).lo8) hn.at_) hn hr <| fun s62 z62 w62 hn hr => wT <| coR <| zR 1 hn <| zY (w_states 2 hn.at_) hn hr <| fun s64 z64 w64 hn hr => wT <| coR <| zR 3 hn <| kE (rword_any v46 v43 (hk46).1 (hk46).2 (hk43).1 (hk43).2 _) <| zEs hn (.u_wz _ (256 * v46 + v43)) (hn.at_.ms.u_wz (Wd16.mk8 (hk46) (hk43))) <| fun w67 hn => have b68 := hn.at_.ms.r.wz; coZ <| zR 6 hn <| zAA (w_setHl ((s64.u_wz (256 * v46 + v43)).r.wz) (b68) hn.at_) hn <| fun w69 hn => woE <| eoB <| eoV (OutY.ok (dZ hr) hn)
 refine zQ hn <| zIf hr (fun g71 hr => ?_) fun g71 hr => ?_
 · exact have b73 := hn.at_.ms.r.de; zQ hn <| have b75 := hn.at_.ms.r.hl; zQs hn (.u_de _ (s.r.hl)) (hn.at_.ms.u_de (b75)) <| fun w76 hn => coZ <| zFs hn (.u_hl _ (s.r.de)) (hn.at_.ms.u_hl (b73)) <| fun w77 hn => eoB <| eoV (OutY.ok (dZ hr) hn)
 refine zQ hn <| zIf hr (fun g79 hr => ?_) fun g79 hr => ?_
 · exact zQs hn (.u_iff1 _ (false)) (hn.at_.ms.u_iff1) <| fun w81 hn => coZ <| zFs hn (.u_iff2 _ (false)) (hn.at_.ms.u_iff2) <| fun w82 hn => eoB <| eoV (OutY.ok (dZ hr) hn)
 refine zQ hn <| zIf hr (fun g84 hr => ?_) fun g84 hr => ?_
 · exact zQs hn (.u_iff1 _ (true)) (hn.at_.ms.u_iff1) <| fun w86 hn => zQs hn (.u_iff2 _ (true)) (hn.at_.ms.u_iff2) <| fun w88 hn => coZ <| zFs hn (.u_late _ (true)) (hn.at_.ms.u_late) <| fun w89 hn => eoB <| eoV (OutY.ok (dZ hr) hn)
 exact coSkip <| eoB <| eoV (OutY.ok (dZ hr) hn)
theorem w_high (y : Int) (hAy : 0 ≤ y ∧ y ≤ 7) (zA : Int) (pA : Int) (qA : Int) {s : Ws} {xs : List Int} {z : Zs} {w : World} {p B : Nat} (h : AtW w p B s xs z) :
    Calls Tryz.prog 97 #[pT p 0, .int .i64 (y), .int .i64 (zA), .int .i64 (pA), .int .i64 (qA)] w (OutY w p B xs ((highW y zA pA qA s).runZ xs z)) := by
 have hn := NowW.begin h
 have hr : (highW y zA pA qA s).runZ xs z = (highW y zA pA qA s).runZ xs z := rfl
 go_enter Tryz.func97, Tryz.ntmps97
 refine coStart <| have b2 := fW_byte hn.at_.ms; coR <| zR 1 hn <| zAA (w_f hn.at_) hn <| fun w3 hn => zR 1 hn <| zBB (rtest_any s.f y (b2).1 (b2).2 _ ) hn <| fun w4 hn => zE hn <| zQ hn <| coB <| zQ hn <| zIf hr (fun g7 hr => ?_) fun g7 hr => ?_
 · refine coR <| zR 1 hn <| zY (w_states 1 hn.at_) hn hr <| fun s9 z9 w9 hn hr => wT <| zQ hn <| coI (testM s.f y) (fun h11 => ?_) fun h11 => ?_
   · have g11 : testM s.f y = true := by simpa using h11
     exact have hr := hr.trans (zif_pos g11); coZ <| zR 1 hn <| zY (w_back hn.at_) hn hr <| fun s12 z12 w12 hn hr => woE <| eoB <| eoV (OutY.ok (dZ hr) hn)
   have g11 : ¬ testM s.f y = true := by simpa using h11
   exact have hr := hr.trans (zif_neg g11); coSkip <| eoB <| eoV (OutY.ok (dZ hr) hn)
 refine zQ hn <| zIf hr (fun g14 hr => ?_) fun g14 hr => ?_
 · exact coZ <| zR 3 hn <| zYt (w_pops pA qA hn.at_) hn hr <| fun s15 z15 w15 hn hr => woE <| eoB <| eoV (OutY.ok hr hn)
 refine zQ hn <| zIf hr (fun g17 hr => ?_) fun g17 hr => ?_
 · refine coR <| zR 2 hn <| zX (w_word hn.at_) hn hr <| fun v19 s19 z19 w19 hk19 hn hr => zEs hn (.u_wz _ (v19)) (hn.at_.ms.u_wz (hk19)) <| fun w20 hn => zQ hn <| coI (testM s.f y) (fun h22 => ?_) fun h22 => ?_
   · have g22 : testM s.f y = true := by simpa using h22
     exact have hr := hr.trans (zif_pos g22); have b23 := hn.at_.ms.r.wz; coZ <| zFs hn ((s19.u_wz (v19)).u_pc ((s19.u_wz (v19)).r.wz)) (hn.at_.ms.u_pc (b23)) <| fun w24 hn => eoB <| eoV (OutY.ok (dZ hr) hn)
   have g22 : ¬ testM s.f y = true := by simpa using h22
   exact have hr := hr.trans (zif_neg g22); coSkip <| eoB <| eoV (OutY.ok (dZ hr) hn)
 refine zQ hn <| zIf hr (fun g26 hr => ?_) fun g26 hr => ?_
 · exact coZ <| zR 2 hn <| zYt (w_ports y hn.at_) hn hr <| fun s27 z27 w27 hn hr => woE <| eoB <| eoV (OutY.ok hr hn)
 refine zQ hn <| zIf hr (fun g29 hr => ?_) fun g29 hr => ?_
 · exact coZ <| zR 2 hn <| zYt (w_call (testM s.f y) hn.at_) hn hr <| fun s30 z30 w30 hn hr => woE <| eoB <| eoV (OutY.ok hr hn)
 refine zQ hn <| zIf hr (fun g32 hr => ?_) fun g32 hr => ?_
 · refine coS <| zQ hn <| zIf hr (fun g35 hr => ?_) fun g35 hr => ?_
   · exact coR <| zR 1 hn <| zY (w_call true hn.at_) hn hr <| fun s37 z37 w37 hn hr => wT <| coRet <| eoTr <| eoBr <| eoVr (OutY.ok (dZ hr) hn)
   refine coSkip <| eoT <| coR <| zR 1 hn <| zY (w_states 1 hn.at_) hn hr <| fun s39 z39 w39 hn hr => wT <| zQ hn <| zIf hr (fun g41 hr => ?_) fun g41 hr => ?_
   · exact have b42 := hn.at_.ms.r.af; coZ <| zR 6 hn <| zY (w_push s39.r.af (b42) hn.at_) hn hr <| fun s43 z43 w43 hn hr => woE <| eoB <| eoV (OutY.ok (dZ hr) hn)
   exact zPz 11 hn <| fun w44 hn => have b45 := hn.at_.ms.r; zD [0, 1, 2, 3, 4, 5, 6, 7, 8, 9] hn <| zDb 10 (rpair_any s39.r s39.plane pA _) hn <| fun w46 hn => poE <| zY (w_push (pairG s39.r s39.plane pA) ((b45).pair _ _) hn.at_) hn hr <| fun s47 z47 w47 hn hr => woE <| eoB <| eoV (OutY.ok (dZ hr) hn)
 refine zQ hn <| zIf hr (fun g49 hr => ?_) fun g49 hr => ?_
 · exact coR <| zR 1 hn <| zX (w_number hn.at_) hn hr <| fun v51 s51 z51 w51 hk51 hn hr => zE hn <| coZ <| zR 3 hn <| zAA (w_sum y v51 (hk51) hn.at_) hn <| fun w52 hn => woE <| eoB <| eoV (OutY.ok (dZ hr) hn)
 exact coR <| zR 1 hn <| zY (w_states 1 hn.at_) hn hr <| fun s54 z54 w54 hn hr => wT <| have b56 := hn.at_.ms.r.pc; coR <| zR 6 hn <| zY (w_push s54.r.pc (b56) hn.at_) hn hr <| fun s57 z57 w57 hn hr => wT <| coR <| zR 2 hn <| kBin 28 (egI _ _ _ _ _) (bMulI 8 y (by have := hAy; omega) (by have := hAy; omega)) <| zEs hn (.u_pc _ ((8 * y) % 65536)) (hn.at_.ms.u_pc (Wd16.mod _)) <| fun w59 hn => have b60 := hn.at_.ms.r.pc; coZ <| zFs hn ((s57.u_pc ((8 * y) % 65536)).u_wz ((s57.u_pc ((8 * y) % 65536)).r.pc)) (hn.at_.ms.u_wz (b60)) <| fun w61 hn => eoB <| eoV (OutY.ok (dZ hr) hn)
theorem w_low (y : Int) (hAy : 0 ≤ y ∧ y ≤ 7) (zA : Int) (pA : Int) (qA : Int) {s : Ws} {xs : List Int} {z : Zs} {w : World} {p B : Nat} (h : AtW w p B s xs z) :
    Calls Tryz.prog 95 #[pT p 0, .int .i64 (y), .int .i64 (zA), .int .i64 (pA), .int .i64 (qA)] w (OutY w p B xs ((lowW y zA pA qA s).runZ xs z)) := by
 have hn := NowW.begin h
 have hr : (lowW y zA pA qA s).runZ xs z = (lowW y zA pA qA s).runZ xs z := rfl
 go_enter Tryz.func95, Tryz.ntmps95
 refine coStart <| zQ hn <| coB <| zQ hn <| zIf hr (fun g3 hr => ?_) fun g3 hr => ?_
 · exact coZ <| zR 2 hn <| zYt (w_hops y (hAy) hn.at_) hn hr <| fun s4 z4 w4 hn hr => woE <| eoB <| eoV (OutY.ok hr hn)
 refine zQ hn <| zIf hr (fun g6 hr => ?_) fun g6 hr => ?_
 · refine coS <| zQ hn <| zIf hr (fun g9 hr => ?_) fun g9 hr => ?_
   · exact coR <| zR 1 hn <| zX (w_word hn.at_) hn hr <| fun v11 s11 z11 w11 hk11 hn hr => zE hn <| zP 14 hn <| fun w13 hn => have b14 := hn.at_.ms.r; zD [0, 1, 2, 3, 4, 5, 6, 7, 8, 9, 10] hn <| zDb 11 (rsetPair_any s11.r s11.plane pA v11 _) hn <| fun w15 hn => zD [12, 13] hn <| poE <| zEs hn _ (hn.at_.ms.u_rg ((b14).setPair _ _ (hk11))) <| fun w16 hn => coRet <| eoTr <| eoBr <| eoVr (OutY.ok (dZ hr) hn)
   exact coSkip <| eoT <| coR <| zR 1 hn <| zY (w_states 7 hn.at_) hn hr <| fun s18 z18 w18 hn hr => wT <| have b20 := hlW_word hn.at_.ms; coR <| zR 2 hn <| zAA (w_hl hn.at_) hn <| fun w21 hn => zEs hn (.u_wz _ ((s18.hl + 1) % 65536)) (hn.at_.ms.u_wz (Wd16.mod _)) <| fun w22 hn => zP 19 hn <| fun w24 hn => have b25 := hn.at_.ms.r; have b26 := hlW_word hn.at_.ms; zD [0, 2, 3, 4, 5, 6, 7, 8, 9, 10, 12] hn <| zDa 1 (w_hl hn.at_) hn <| fun w27 hn => zDb 11 (rpair_any ((s18.u_wz ((s18.hl + 1) % 65536)).r) ((s18.u_wz ((s18.hl + 1) % 65536)).plane) pA _) hn <| fun w28 hn => have b29 := fW_byte hn.at_.ms; zDa 13 (w_f hn.at_) hn <| fun w30 hn => zDb 14 (rwadd_any ((s18.u_wz ((s18.hl + 1) % 65536)).hl) (pairG ((s18.u_wz ((s18.hl + 1) % 65536)).r) ((s18.u_wz ((s18.hl + 1) % 65536)).plane) pA) ((s18.u_wz ((s18.hl + 1) % 65536)).f) (b26) ((b25).pair _ _) (b29) _) hn <| fun w31 hn => zD [15, 16, 17, 18] hn <| poE <| zE hn <| coR <| zR 2 hn <| zAA (w_setHl (adcW ((s18.u_wz ((s18.hl + 1) % 65536)).hl) (pairG ((s18.u_wz ((s18.hl + 1) % 65536)).r) ((s18.u_wz ((s18.hl + 1) % 65536)).plane) pA) false) (Wd16.mod _) hn.at_) hn <| fun w33 hn => wT <| have b34 := aW_byte hn.at_.ms; coZ <| zR 2 hn <| zAA (w_a hn.at_) hn <| fun w35 hn => zR 1 hn <| zAA (w_put (((s18.u_wz ((s18.hl + 1) % 65536)).setHl (adcW ((s18.u_wz ((s18.hl + 1) % 65536)).hl) (pairG ((s18.u_wz ((s18.hl + 1) % 65536)).r) ((s18.u_wz ((s18.hl + 1) % 65536)).plane) pA) false)).a) (b34) (addWF ((s18.u_wz ((s18.hl + 1) % 65536)).hl) (pairG ((s18.u_wz ((s18.hl + 1) % 65536)).r) ((s18.u_wz ((s18.hl + 1) % 65536)).plane) pA) ((s18.u_wz ((s18.hl + 1) % 65536)).f)) (addWF_byte _ _ _) hn.at_) hn <| fun w36 hn => woE <| eoB <| eoV (OutY.ok (dZ hr) hn)
 refine zQ hn <| zIf hr (fun g38 hr => ?_) fun g38 hr => ?_
 · exact coZ <| zR 2 hn <| zYt (w_stores y hn.at_) hn hr <| fun s39 z39 w39 hn hr => woE <| eoB <| eoV (OutY.ok hr hn)
 refine zQ hn <| zIf hr (fun g41 hr => ?_) fun g41 hr => ?_
 · refine coR <| zR 1 hn <| zY (w_states 2 hn.at_) hn hr <| fun s43 z43 w43 hn hr => wT <| zP 10 hn <| fun w45 hn => have b46 := hn.at_.ms.r; zD [0, 1, 2, 3, 4, 5, 6, 7, 8] hn <| zDb 9 (rpair_any s43.r s43.plane pA _) hn <| fun w47 hn => poE <| zE hn <| coS <| zQ hn <| zIf hr (fun g50 hr => ?_) fun g50 hr => ?_
   · exact coZ <| zE hn <| zPz 14 hn <| fun w51 hn => have b52 := hn.at_.ms.r; zD [0, 1, 2, 3, 4, 5, 6, 7, 8, 9, 10] hn <| zDb 11 (rsetPair_any s43.r s43.plane pA (((pairG s43.r s43.plane pA) + 1) % 65536) _) hn <| fun w53 hn => zD [12, 13] hn <| poE <| zFs hn _ (hn.at_.ms.u_rg ((b52).setPair _ _ (Wd16.mod _))) <| fun w54 hn => eoB <| eoV (OutY.ok (dZ hr) hn)
   exact coZ <| zE hn <| zPz 14 hn <| fun w55 hn => have b56 := hn.at_.ms.r; zD [0, 1, 2, 3, 4, 5, 6, 7, 8, 9, 10] hn <| zDb 11 (rsetPair_any s43.r s43.plane pA (((pairG s43.r s43.plane pA) - 1) % 65536) _) hn <| fun w57 hn => zD [12, 13] hn <| poE <| zFs hn _ (hn.at_.ms.u_rg ((b56).setPair _ _ (Wd16.mod _))) <| fun w58 hn => eoB <| eoV (OutY.ok (dZ hr) hn)
 refine coS <| zQ hn <| coI (zA == 4) (fun h61 => ?_) fun h61 => ?_
 · have g61 : zA = 4 := by simpa using h61
   refine have hr := hr.trans (zif_pos (.inl g61)); coSkip <| eoT <| coJ (zA == 4) (fun h62 => absurd h62 (by first | (simp; omega) | simp [*])) <| fun h62 => ?_
   first | have hr := pZ hr | have hr := qZ hr | have hr := pbZ hr | have hr := qbZ hr | skip
   exact coZ <| zR 3 hn <| zYt (w_step y zA hn.at_) hn hr <| fun s63 z63 w63 hn hr => woE <| eoB <| eoV (OutY.ok hr hn)
 have g61 : ¬ zA = 4 := by simpa using h61
 first | have hr := pZ hr | have hr := qZ hr | have hr := pbZ hr | have hr := qbZ hr | skip
 refine coZ <| zE hn <| coI (zA == 5) (fun h64 => ?_) fun h64 => ?_
 · have g64 : zA = 5 := by simpa using h64
   exact have hr := hr.trans (zif_pos (.inr g64)); coZ <| zR 3 hn <| zYt (w_step y zA hn.at_) hn hr <| fun s65 z65 w65 hn hr => woE <| eoB <| eoV (OutY.ok hr hn)
 have g64 : ¬ zA = 5 := by simpa using h64
 refine have hr := hr.trans (zif_neg (not_or.2 ⟨g61, g64⟩)); zQ hn <| zIf hr (fun g67 hr => ?_) fun g67 hr => ?_
 · refine coS <| coR <| zR 3 hn ?_
   rcases Bool.eq_false_or_eq_true (y == 6) with h70 | h70
   · have g70 : y = 6 := by simpa using h70
     refine tell 131 h70 <| zE hn <| coI (s.plane != 0) (fun h71 => ?_) fun h71 => ?_
     · have g71 : ¬ s.plane = 0 := by simpa using h71
       exact have hr := hr.trans (zif_pos (by simp [g71, g70, g67, g64, g61, g41, g38, g6, g3])); coR <| zR 1 hn <| zX (w_number hn.at_) hn hr <| fun v73 s73 z73 w73 hk73 hn hr => zE hn <| have b75 := hlW_word hn.at_.ms; coR <| zR 2 hn <| zAA (w_hl hn.at_) hn <| fun w76 hn => zR 1 hn <| kE (rnear_any s73.hl v73 (b75) (hk73) _) <| zEs hn (.u_m _ (moveM s73.hl (signedM v73))) (hn.at_.ms.u_m (Wd16.mod _)) <| fun w78 hn => zQs hn (.u_known _ (true)) (hn.at_.ms.u_known) <| fun w80 hn => have b82 := hn.at_.ms.m; zQs hn (((s73.u_m (moveM s73.hl (signedM v73))).u_known (true)).u_wz (((s73.u_m (moveM s73.hl (signedM v73))).u_known (true)).m)) (hn.at_.ms.u_wz (b82)) <| fun w83 hn => coR <| zR 1 hn <| zX (w_number hn.at_) hn hr <| fun v85 s85 z85 w85 hk85 hn hr => zE hn <| coR <| zR 1 hn <| zY (w_states 2 hn.at_) hn hr <| fun s87 z87 w87 hn hr => wT <| have b89 := hn.at_.ms.m; coR <| zR 6 hn <| zY (w_write s87.m (b89) v85 (hk85) hn.at_) hn hr <| fun s90 z90 w90 hn hr => wT <| coRet <| eoTr <| eoBr <| eoVr (OutY.ok (dZ hr) hn)
     have g71 : s.plane = 0 := by simpa using h71
     exact have hr := hr.trans (zif_neg (by simp [g71, g70, g67, g64, g61, g41, g38, g6, g3])); coSkip <| eoT <| coR <| zR 1 hn <| zX (w_number hn.at_) hn hr <| fun v92 s92 z92 w92 hk92 hn hr => zE hn <| coZ <| zR 3 hn <| zYt (w_set y v92 (hk92) hn.at_) hn hr <| fun s93 z93 w93 hn hr => woE <| eoB <| eoV (OutY.ok hr hn)
   have g70 : ¬ y = 6 := by simpa using h70
   exact tell 131 h70 <| zE hn <| coF <| have hr := hr.trans (zif_neg (by simp [g70, g67, g64, g61, g41, g38, g6, g3])); coSkip <| eoT <| coR <| zR 1 hn <| zX (w_number hn.at_) hn hr <| fun v95 s95 z95 w95 hk95 hn hr => zE hn <| coZ <| zR 3 hn <| zYt (w_set y v95 (hk95) hn.at_) hn hr <| fun s96 z96 w96 hn hr => woE <| eoB <| eoV (OutY.ok hr hn)
 exact coZ <| zR 2 hn <| zAA (w_turn y hn.at_) hn <| fun w97 hn => woE <| eoB <| eoV (OutY.ok (dZ hr) hn)
theorem w_plain (n : Int) (c : Int) (hAc : B8 c) {s : Ws} {xs : List Int} {z : Zs} {w : World} {p B : Nat} (h : AtW w p B s xs z) :
    Calls Tryz.prog 54 #[pT p 0, .int .i64 (n), .int .u8 (c)] w (OutY w p B xs ((plainW n c s).runZ xs z)) := by
 have hn := NowW.begin h
 have hr : (plainW n c s).runZ xs z = (plainW n c s).runZ xs z := rfl
 go_enter Tryz.func54, Tryz.ntmps54
 refine coStart <| zQs hn (.u_plane _ (n)) (hn.at_.ms.u_plane) <| fun w2 hn => zQs hn (.u_code _ (c)) (hn.at_.ms.u_code (hAc)) <| fun w4 hn => coR <| zR 1 hn <| kE (rfields_any c (hAc) _) <| zE hn <| zQ hn <| coB <| zQ hn <| zIf hr (fun g9 hr => ?_) fun g9 hr => ?_
 · exact coZ <| zR 5 hn <| zYt (w_low (fy c) (fy_b c (hAc)) (fz c) (fp c) (fq c) hn.at_) hn hr <| fun s10 z10 w10 hn hr => woE <| eoB <| eoV (OutY.ok hr hn)
 refine zQ hn <| zIf hr (fun g12 hr => ?_) fun g12 hr => ?_
 · refine coS <| coR <| zR 3 hn ?_
   rcases Bool.eq_false_or_eq_true ((fy c) == 6) with h15 | h15
   · have g15 : (fy c) = 6 := by simpa using h15
     refine tell 48 h15 <| zE hn <| coI ((fz c) == 6) (fun h16 => ?_) fun h16 => ?_
     · have g16 : (fz c) = 6 := by simpa using h16
       exact have hr := hr.trans (zif_pos (⟨g15, g16⟩)); zQs hn (.u_halted _ (true)) (hn.at_.ms.u_halted) <| fun w18 hn => coRet <| eoTr <| eoBr <| eoVr (OutY.ok (dZ hr) hn)
     have g16 : ¬ (fz c) = 6 := by simpa using h16
     exact have hr := hr.trans (zif_neg (fun h => g16 h.2)); coSkip <| eoT <| coR <| zR 2 hn <| zX (w_get (fz c) hn.at_) hn hr <| fun v20 s20 z20 w20 hk20 hn hr => zE hn <| coZ <| zR 3 hn <| zYt (w_set (fy c) v20 (hk20) hn.at_) hn hr <| fun s21 z21 w21 hn hr => woE <| eoB <| eoV (OutY.ok hr hn)
   have g15 : ¬ (fy c) = 6 := by simpa using h15
   exact tell 48 h15 <| zE hn <| coF <| have hr := hr.trans (zif_neg (fun h => g15 h.1)); coSkip <| eoT <| coR <| zR 2 hn <| zX (w_get (fz c) hn.at_) hn hr <| fun v23 s23 z23 w23 hk23 hn hr => zE hn <| coZ <| zR 3 hn <| zYt (w_set (fy c) v23 (hk23) hn.at_) hn hr <| fun s24 z24 w24 hn hr => woE <| eoB <| eoV (OutY.ok hr hn)
 refine zQ hn <| zIf hr (fun g26 hr => ?_) fun g26 hr => ?_
 · exact coR <| zR 2 hn <| zX (w_get (fz c) hn.at_) hn hr <| fun v28 s28 z28 w28 hk28 hn hr => zE hn <| coZ <| zR 3 hn <| zAA (w_sum (fy c) v28 (hk28) hn.at_) hn <| fun w29 hn => woE <| eoB <| eoV (OutY.ok (dZ hr) hn)
 exact coZ <| zR 5 hn <| zYt (w_high (fy c) (fy_b c (hAc)) (fz c) (fp c) (fq c) hn.at_) hn hr <| fun s30 z30 w30 hn hr => woE <| eoB <| eoV (OutY.ok hr hn)
theorem w_bit (o : Bool) (c : Int) (hAc : B8 c) {s : Ws} {xs : List Int} {z : Zs} {w : World} {p B : Nat} (h : AtW w p B s xs z) :
    Calls Tryz.prog 49 #[pT p 0, .bool (o), .int .u8 (c)] w (OutY w p B xs ((bitW o c s).runZ xs z)) := by
 have hn := NowW.begin h
 have hr : (bitW o c s).runZ xs z = (bitW o c s).runZ xs z := rfl
 go_enter Tryz.func49, Tryz.ntmps49
 refine coStart <| zQs hn (.u_plane _ (0)) (hn.at_.ms.u_plane) <| fun w2 hn => zQs hn (.u_code _ (0)) (hn.at_.ms.u_code (⟨by decide, by decide⟩)) <| fun w4 hn => coR <| zR 1 hn <| kE (rfields_any c (hAc) _) <| zE hn <| zQ hn <| coS <| zQ hn <| coI (o) (fun h10 => ?_) fun h10 => ?_
 · have g10 : o = true := by simpa using h10
   refine have hr := hr.trans (zif_pos g10); coZ <| zE hn <| coR <| zR 2 hn <| zX (w_get 6 hn.at_) hn hr <| fun v12 s12 z12 w12 hk12 hn hr => zE hn <| zQ hn <| coS <| zQ hn <| coT ?_
   first | have hr := pZ hr | have hr := qZ hr | have hr := pbZ hr | have hr := qbZ hr | skip
   refine coR <| zR 1 hn <| zY (w_states 1 hn.at_) hn hr <| fun s17 z17 w17 hn hr => wT <| have b18 := hn.at_.ms.r.wz; coZ <| zR 5 hn <| kE (rhi_any s17.r.wz (b18).1 (b18).2 _) <| zE hn <| coS <| zQ hn <| coB <| zQ hn <| zIf hr (fun g23 hr => ?_) fun g23 hr => ?_
   · refine have b25 := fW_byte hn.at_.ms; coR <| zR 3 hn <| zAA (w_f hn.at_) hn <| fun w26 hn => zBB (rdo_any (fy c) v12 s17.f (hk12) (b25) _ ) hn <| fun w27 hn => zE hn <| have b29 := aW_byte hn.at_.ms; coR <| zR 2 hn <| zAA (w_a hn.at_) hn <| fun w30 hn => zR 1 hn <| zAA (w_put s17.a (b29) (doF (fy c) v12 s17.f) (doF_byte _ _ _ (b25)) hn.at_) hn <| fun w31 hn => wT <| coZ <| zF hn <| eoB <| eoT <| coR <| zR 3 hn <| zY (w_set 6 (doR (fy c) v12 s17.f) (doR_byte _ _ _ (hk12)) hn.at_) hn hr <| fun s33 z33 w33 hn hr => wT <| coR <| zR 2 hn ?_
     rcases Bool.eq_false_or_eq_true (o) with h35 | h35
     · have g35 : o = true := by simpa using h35
       refine tell 88 h35 <| zE hn <| coI ((fz c) != 6) (fun h36 => ?_) fun h36 => ?_
       · have g36 : ¬ (fz c) = 6 := by simpa using h36
         exact have hr := hr.trans (zif_pos (by simp [g36, g35, g23, g10])); coZ <| zR 3 hn <| zYt (w_set (fz c) (doR (fy c) v12 s17.f) (doR_byte _ _ _ (hk12)) hn.at_) hn hr <| fun s37 z37 w37 hn hr => woE <| eoV (OutY.ok hr hn)
       have g36 : (fz c) = 6 := by simpa using h36
       exact have hr := hr.trans (zif_neg (by simp [g36, g35, g23, g10])); coSkip <| eoV (OutY.ok (dZ hr) hn)
     have g35 : ¬ o = true := by simpa using h35
     exact tell 88 h35 <| zE hn <| coF <| have hr := hr.trans (zif_neg (by simp [g35, g23, g10])); coSkip <| eoV (OutY.ok (dZ hr) hn)
   refine zQ hn <| zIf hr (fun g39 hr => ?_) fun g39 hr => ?_
   · exact have b41 := aW_byte hn.at_.ms; coR <| zR 2 hn <| zAA (w_a hn.at_) hn <| fun w42 hn => have b43 := fW_byte hn.at_.ms; zR 4 hn <| zAA (w_f hn.at_) hn <| fun w44 hn => zBB (rbit6_any (fy c) v12 (s17.r.wz / 256) s17.f (hk12) ((b18).hi) (b43) _) hn <| fun w45 hn => zAA (w_put s17.a (b41) (bitF (fy c) v12 (s17.r.wz / 256) s17.f) (bitF_byte _ _ _ _) hn.at_) hn <| fun w46 hn => wT <| coRet <| eoBr <| eoTr <| eoVr (OutY.ok (dZ hr) hn)
   refine zQ hn <| zIf hr (fun g48 hr => ?_) fun g48 hr => ?_
   · refine coZ <| zR 2 hn <| kE (rwith_any v12 (fy c) false (hk12).1 (hk12).2 _) <| zF hn <| eoB <| eoT <| coR <| zR 3 hn <| zY (w_set 6 (withM v12 (fy c) false) (B8.with (hk12) _ _) hn.at_) hn hr <| fun s51 z51 w51 hn hr => wT <| coR <| zR 2 hn ?_
     rcases Bool.eq_false_or_eq_true (o) with h53 | h53
     · have g53 : o = true := by simpa using h53
       refine tell 88 h53 <| zE hn <| coI ((fz c) != 6) (fun h54 => ?_) fun h54 => ?_
       · have g54 : ¬ (fz c) = 6 := by simpa using h54
         exact have hr := hr.trans (zif_pos (by simp [g54, g53, g48, g39, g23, g10])); coZ <| zR 3 hn <| zYt (w_set (fz c) (withM v12 (fy c) false) (B8.with (hk12) _ _) hn.at_) hn hr <| fun s55 z55 w55 hn hr => woE <| eoV (OutY.ok hr hn)
       have g54 : (fz c) = 6 := by simpa using h54
       exact have hr := hr.trans (zif_neg (by simp [g54, g53, g48, g39, g23, g10])); coSkip <| eoV (OutY.ok (dZ hr) hn)
     have g53 : ¬ o = true := by simpa using h53
     exact tell 88 h53 <| zE hn <| coF <| have hr := hr.trans (zif_neg (by simp [g53, g48, g39, g23, g10])); coSkip <| eoV (OutY.ok (dZ hr) hn)
   refine coZ <| zR 2 hn <| kE (rwith_any v12 (fy c) true (hk12).1 (hk12).2 _) <| zF hn <| eoB <| eoT <| coR <| zR 3 hn <| zY (w_set 6 (withM v12 (fy c) true) (B8.with (hk12) _ _) hn.at_) hn hr <| fun s58 z58 w58 hn hr => wT <| coR <| zR 2 hn ?_
   rcases Bool.eq_false_or_eq_true (o) with h60 | h60
   · have g60 : o = true := by simpa using h60
     refine tell 88 h60 <| zE hn <| coI ((fz c) != 6) (fun h61 => ?_) fun h61 => ?_
     · have g61 : ¬ (fz c) = 6 := by simpa using h61
       exact have hr := hr.trans (zif_pos (by simp [g61, g60, g48, g39, g23, g10])); coZ <| zR 3 hn <| zYt (w_set (fz c) (withM v12 (fy c) true) (B8.with (hk12) _ _) hn.at_) hn hr <| fun s62 z62 w62 hn hr => woE <| eoV (OutY.ok hr hn)
     have g61 : (fz c) = 6 := by simpa using h61
     exact have hr := hr.trans (zif_neg (by simp [g61, g60, g48, g39, g23, g10])); coSkip <| eoV (OutY.ok (dZ hr) hn)
   have g60 : ¬ o = true := by simpa using h60
   exact tell 88 h60 <| zE hn <| coF <| have hr := hr.trans (zif_neg (by simp [g60, g48, g39, g23, g10])); coSkip <| eoV (OutY.ok (dZ hr) hn)
 have g10 : ¬ o = true := by simpa using h10
 refine have hr := hr.trans (zif_neg g10); coSkip <| eoT <| coR <| zR 2 hn <| zX (w_get (fz c) hn.at_) hn hr <| fun v64 s64 z64 w64 hk64 hn hr => zE hn <| zQ hn <| coS <| zQ hn <| zIf hr (fun g68 hr => ?_) fun g68 hr => ?_
 · refine coR <| zR 1 hn <| zY (w_states 1 hn.at_) hn hr <| fun s70 z70 w70 hn hr => wT <| have b71 := hn.at_.ms.r.wz; coZ <| zR 5 hn <| kE (rhi_any s70.r.wz (b71).1 (b71).2 _) <| zE hn <| coS <| zQ hn <| coB <| zQ hn <| zIf hr (fun g76 hr => ?_) fun g76 hr => ?_
   · refine have b78 := fW_byte hn.at_.ms; coR <| zR 3 hn <| zAA (w_f hn.at_) hn <| fun w79 hn => zBB (rdo_any (fy c) v64 s70.f (hk64) (b78) _ ) hn <| fun w80 hn => zE hn <| have b82 := aW_byte hn.at_.ms; coR <| zR 2 hn <| zAA (w_a hn.at_) hn <| fun w83 hn => zR 1 hn <| zAA (w_put s70.a (b82) (doF (fy c) v64 s70.f) (doF_byte _ _ _ (b78)) hn.at_) hn <| fun w84 hn => wT <| coZ <| zF hn <| eoB <| eoT <| coR <| zR 3 hn <| zY (w_set (fz c) (doR (fy c) v64 s70.f) (doR_byte _ _ _ (hk64)) hn.at_) hn hr <| fun s86 z86 w86 hn hr => wT <| coR <| zR 2 hn ?_
     rcases Bool.eq_false_or_eq_true (o) with h88 | h88
     · have g88 : o = true := by simpa using h88
       exact tell 88 h88 <| zE hn <| coK ((fz c) != 6) (fun h89 => absurd h89 (by first | (simp; omega) | simp [*])) <| fun h89 => have hr := hr.trans (zif_neg (by simp [g88, g76, g68, g10])); coSkip <| eoV (OutY.ok (dZ hr) hn)
     have g88 : ¬ o = true := by simpa using h88
     exact tell 88 h88 <| zE hn <| coF <| have hr := hr.trans (zif_neg (by simp [g88, g76, g68, g10])); coSkip <| eoV (OutY.ok (dZ hr) hn)
   refine zQ hn <| zIf hr (fun g91 hr => ?_) fun g91 hr => ?_
   · exact have b93 := aW_byte hn.at_.ms; coR <| zR 2 hn <| zAA (w_a hn.at_) hn <| fun w94 hn => have b95 := fW_byte hn.at_.ms; zR 4 hn <| zAA (w_f hn.at_) hn <| fun w96 hn => zBB (rbit6_any (fy c) v64 (s70.r.wz / 256) s70.f (hk64) ((b71).hi) (b95) _) hn <| fun w97 hn => zAA (w_put s70.a (b93) (bitF (fy c) v64 (s70.r.wz / 256) s70.f) (bitF_byte _ _ _ _) hn.at_) hn <| fun w98 hn => wT <| coRet <| eoBr <| eoTr <| eoVr (OutY.ok (dZ hr) hn)
   refine zQ hn <| zIf hr (fun g100 hr => ?_) fun g100 hr => ?_
   · refine coZ <| zR 2 hn <| kE (rwith_any v64 (fy c) false (hk64).1 (hk64).2 _) <| zF hn <| eoB <| eoT <| coR <| zR 3 hn <| zY (w_set (fz c) (withM v64 (fy c) false) (B8.with (hk64) _ _) hn.at_) hn hr <| fun s103 z103 w103 hn hr => wT <| coR <| zR 2 hn ?_
     rcases Bool.eq_false_or_eq_true (o) with h105 | h105
     · have g105 : o = true := by simpa using h105
       exact tell 88 h105 <| zE hn <| coK ((fz c) != 6) (fun h106 => absurd h106 (by first | (simp; omega) | simp [*])) <| fun h106 => have hr := hr.trans (zif_neg (by simp [g105, g100, g91, g76, g68, g10])); coSkip <| eoV (OutY.ok (dZ hr) hn)
     have g105 : ¬ o = true := by simpa using h105
     exact tell 88 h105 <| zE hn <| coF <| have hr := hr.trans (zif_neg (by simp [g105, g100, g91, g76, g68, g10])); coSkip <| eoV (OutY.ok (dZ hr) hn)
   refine coZ <| zR 2 hn <| kE (rwith_any v64 (fy c) true (hk64).1 (hk64).2 _) <| zF hn <| eoB <| eoT <| coR <| zR 3 hn <| zY (w_set (fz c) (withM v64 (fy c) true) (B8.with (hk64) _ _) hn.at_) hn hr <| fun s109 z109 w109 hn hr => wT <| coR <| zR 2 hn ?_
   rcases Bool.eq_false_or_eq_true (o) with h111 | h111
   · have g111 : o = true := by simpa using h111
     exact tell 88 h111 <| zE hn <| coK ((fz c) != 6) (fun h112 => absurd h112 (by first | (simp; omega) | simp [*])) <| fun h112 => have hr := hr.trans (zif_neg (by simp [g111, g100, g91, g76, g68, g10])); coSkip <| eoV (OutY.ok (dZ hr) hn)
   have g111 : ¬ o = true := by simpa using h111
   exact tell 88 h111 <| zE hn <| coF <| have hr := hr.trans (zif_neg (by simp [g111, g100, g91, g76, g68, g10])); coSkip <| eoV (OutY.ok (dZ hr) hn)
 refine coSkip <| eoT <| coS <| zQ hn <| coB <| zQ hn <| zIf hr (fun g116 hr => ?_) fun g116 hr => ?_
 · refine have b118 := fW_byte hn.at_.ms; coR <| zR 3 hn <| zAA (w_f hn.at_) hn <| fun w119 hn => zBB (rdo_any (fy c) v64 s64.f (hk64) (b118) _ ) hn <| fun w120 hn => zE hn <| have b122 := aW_byte hn.at_.ms; coR <| zR 2 hn <| zAA (w_a hn.at_) hn <| fun w123 hn => zR 1 hn <| zAA (w_put s64.a (b122) (doF (fy c) v64 s64.f) (doF_byte _ _ _ (b118)) hn.at_) hn <| fun w124 hn => wT <| coZ <| zF hn <| eoB <| eoT <| coR <| zR 3 hn <| zY (w_set (fz c) (doR (fy c) v64 s64.f) (doR_byte _ _ _ (hk64)) hn.at_) hn hr <| fun s126 z126 w126 hn hr => wT <| coR <| zR 2 hn ?_
   rcases Bool.eq_false_or_eq_true (o) with h128 | h128
   · have g128 : o = true := by simpa using h128
     exact tell 88 h128 <| zE hn <| coJ ((fz c) != 6) (fun h129 => absurd h129 (by first | (simp; omega) | simp [*])) <| fun h129 => have hr := hr.trans (zif_pos (by simp [g128, g116, g68, g10])); coZ <| zR 3 hn <| zYt (w_set (fz c) (doR (fy c) v64 s64.f) (doR_byte _ _ _ (hk64)) hn.at_) hn hr <| fun s130 z130 w130 hn hr => woE <| eoV (OutY.ok hr hn)
   have g128 : ¬ o = true := by simpa using h128
   exact tell 88 h128 <| zE hn <| coF <| have hr := hr.trans (zif_neg (by simp [g128, g116, g68, g10])); coSkip <| eoV (OutY.ok (dZ hr) hn)
 refine zQ hn <| zIf hr (fun g132 hr => ?_) fun g132 hr => ?_
 · exact have b134 := aW_byte hn.at_.ms; coR <| zR 2 hn <| zAA (w_a hn.at_) hn <| fun w135 hn => have b136 := fW_byte hn.at_.ms; zR 4 hn <| zAA (w_f hn.at_) hn <| fun w137 hn => zBB (rbit6_any (fy c) v64 v64 s64.f (hk64) (hk64) (b136) _) hn <| fun w138 hn => zAA (w_put s64.a (b134) (bitF (fy c) v64 v64 s64.f) (bitF_byte _ _ _ _) hn.at_) hn <| fun w139 hn => wT <| coRet <| eoBr <| eoTr <| eoVr (OutY.ok (dZ hr) hn)
 refine zQ hn <| zIf hr (fun g141 hr => ?_) fun g141 hr => ?_
 · refine coZ <| zR 2 hn <| kE (rwith_any v64 (fy c) false (hk64).1 (hk64).2 _) <| zF hn <| eoB <| eoT <| coR <| zR 3 hn <| zY (w_set (fz c) (withM v64 (fy c) false) (B8.with (hk64) _ _) hn.at_) hn hr <| fun s144 z144 w144 hn hr => wT <| coR <| zR 2 hn ?_
   rcases Bool.eq_false_or_eq_true (o) with h146 | h146
   · have g146 : o = true := by simpa using h146
     exact tell 88 h146 <| zE hn <| coJ ((fz c) != 6) (fun h147 => absurd h147 (by first | (simp; omega) | simp [*])) <| fun h147 => have hr := hr.trans (zif_pos (by simp [g146, g141, g132, g116, g68, g10])); coZ <| zR 3 hn <| zYt (w_set (fz c) (withM v64 (fy c) false) (B8.with (hk64) _ _) hn.at_) hn hr <| fun s148 z148 w148 hn hr => woE <| eoV (OutY.ok hr hn)
   have g146 : ¬ o = true := by simpa using h146
   exact tell 88 h146 <| zE hn <| coF <| have hr := hr.trans (zif_neg (by simp [g146, g141, g132, g116, g68, g10])); coSkip <| eoV (OutY.ok (dZ hr) hn)
 refine coZ <| zR 2 hn <| kE (rwith_any v64 (fy c) true (hk64).1 (hk64).2 _) <| zF hn <| eoB <| eoT <| coR <| zR 3 hn <| zY (w_set (fz c) (withM v64 (fy c) true) (B8.with (hk64) _ _) hn.at_) hn hr <| fun s151 z151 w151 hn hr => wT <| coR <| zR 2 hn ?_
 rcases Bool.eq_false_or_eq_true (o) with h153 | h153
 · have g153 : o = true := by simpa using h153
   exact tell 88 h153 <| zE hn <| coJ ((fz c) != 6) (fun h154 => absurd h154 (by first | (simp; omega) | simp [*])) <| fun h154 => have hr := hr.trans (zif_pos (by simp [g153, g141, g132, g116, g68, g10])); coZ <| zR 3 hn <| zYt (w_set (fz c) (withM v64 (fy c) true) (B8.with (hk64) _ _) hn.at_) hn hr <| fun s155 z155 w155 hn hr => woE <| eoV (OutY.ok hr hn)
 have g153 : ¬ o = true := by simpa using h153
 exact tell 88 h153 <| zE hn <| coF <| have hr := hr.trans (zif_neg (by simp [g153, g141, g132, g116, g68, g10])); coSkip <| eoV (OutY.ok (dZ hr) hn)
theorem w_words (pA : Int) (qA : Int) {s : Ws} {xs : List Int} {z : Zs} {w : World} {p B : Nat} (h : AtW w p B s xs z) :
    Calls Tryz.prog 85 #[pT p 0, .int .i64 (pA), .int .i64 (qA)] w (OutY w p B xs ((wordsW pA qA s).runZ xs z)) := by
 have hn := NowW.begin h
 have hr : (wordsW pA qA s).runZ xs z = (wordsW pA qA s).runZ xs z := rfl
 go_enter Tryz.func85, Tryz.ntmps85
 refine coStart <| coR <| zR 1 hn <| zX (w_word hn.at_) hn hr <| fun v2 s2 z2 w2 hk2 hn hr => zE hn <| coS <| zQ hn <| zIf hr (fun g5 hr => ?_) fun g5 hr => ?_
 · exact have b7 := hn.at_.ms.r; coR <| zR 5 hn <| zBB (rpair_any s2.r 0 pA _) hn <| fun w8 hn => zE hn <| coR <| zR 3 hn <| kE (rlo_any (pairG s2.r 0 pA) ((b7).pair _ _).1 ((b7).pair _ _).2 _) <| zY (w_write v2 (hk2) ((pairG s2.r 0 pA) % 256) (((b7).pair _ _).lo8) hn.at_) hn hr <| fun s11 z11 w11 hn hr => wT <| coZ <| zR 4 hn <| kE (rhi_any (pairG s2.r 0 pA) ((b7).pair _ _).1 ((b7).pair _ _).2 _) <| zY (w_write ((v2 + 1) % 65536) (Wd16.mod _) ((pairG s2.r 0 pA) / 256) (((b7).pair _ _).hi) hn.at_) hn hr <| fun s13 z13 w13 hn hr => wT <| coZ <| zFs hn (.u_wz _ ((v2 + 1) % 65536)) (hn.at_.ms.u_wz (Wd16.mod _)) <| fun w14 hn => eoV (OutY.ok (dZ hr) hn)
 exact coR <| zR 2 hn <| zX (w_read v2 (hk2) hn.at_) hn hr <| fun v16 s16 z16 w16 hk16 hn hr => zE hn <| coR <| zR 3 hn <| zX (w_read ((v2 + 1) % 65536) (Wd16.mod _) hn.at_) hn hr <| fun v18 s18 z18 w18 hk18 hn hr => zE hn <| zPz 12 hn <| fun w19 hn => have b20 := hn.at_.ms.r; zD [0, 1, 2, 3, 4, 5, 6, 7] hn <| zDe 8 (rword_any v18 v16 (hk18).1 (hk18).2 (hk16).1 (hk16).2 _) hn <| zDb 9 (rsetPair_any s18.r 0 pA (256 * v18 + v16) _) hn <| fun w22 hn => zD [10, 11] hn <| poE <| zEs hn _ (hn.at_.ms.u_rg ((b20).setPair _ _ (Wd16.mk8 (hk18) (hk16)))) <| fun w23 hn => coZ <| zFs hn (.u_wz _ ((v2 + 1) % 65536)) (hn.at_.ms.u_wz (Wd16.mod _)) <| fun w24 hn => eoV (OutY.ok (dZ hr) hn)
def Ws.hlBy (s : Ws) (d : Int) : Ws := { s with r := { s.r with hl := moveM s.r.hl d } }
def Ws.deBy (s : Ws) (d : Int) : Ws := { s with r := { s.r with de := moveM s.r.de d } }
def Ws.bcDown (s : Ws) : Ws := { s with r := { s.r with bc := (s.r.bc - 1) % 65536 } }
def tailW (y z f : Int) (s : Ws) : Tr Ws :=
  if 5 < y ∧ againM z f = true then (statesW 5 (s.af s.a f)).bind fun s => if z < 2 then .done ((s.pc ((s.r.pc - 2) % 65536)).wz (((s.r.pc - 2) % 65536 + 1) % 65536)) else .done (s.pc ((s.r.pc - 2) % 65536)) else .done (s.af s.a f)
def blockRunW (d y z : Int) (s : Ws) : Tr Ws :=
  if z = 0 then (readW s.r.hl s).bind fun b => (writeW b.2.r.de b.1 b.2).bind fun s => (statesW 2 s).bind fun s =>
    tailW y z (moveF (s.deBy d).bcDown.a b.1 (s.deBy d).bcDown.r.bc (s.deBy d).bcDown.f) ((s.deBy d).bcDown.hlBy d) else
  if z = 1 then (readW s.r.hl s).bind fun b => (statesW 5 b.2).bind fun s =>
    tailW y z (findF (s.wz (moveM s.r.wz d)).bcDown.a b.1 (s.wz (moveM s.r.wz d)).bcDown.r.bc (s.wz (moveM s.r.wz d)).bcDown.f) ((s.wz (moveM s.r.wz d)).bcDown.hlBy d) else
  if z = 2 then (statesW 1 s).bind fun s => (cycW ⟨4, s.r.bc, 0, 4⟩ s).bind fun b => (writeW (b.2.wz (moveM b.2.r.bc d)).less.r.hl b.1 (b.2.wz (moveM b.2.r.bc d)).less).bind fun s =>
    tailW y z (passF b.1 (b.1 + byC ((s.hlBy d).r.bc % 256) d) (b.2.wz (moveM b.2.r.bc d)).left) (s.hlBy d) else
  (statesW 1 s).bind fun s => (readW s.r.hl s).bind fun b => (cycW ⟨5, b.2.less.r.bc, b.1, 4⟩ (b.2.less.wz (moveM b.2.less.r.bc d))).bind fun c =>
    tailW y z (passF b.1 (b.1 + (c.2.hlBy d).r.hl % 256) b.2.left) (c.2.hlBy d)
def blockW (y z : Int) (s : Ws) : Tr Ws := if y % 2 = 1 then blockRunW (-1) y z s else blockRunW 1 y z s
def Ws.modeTo (s : Ws) (m : Int) : Ws := { s with r := { s.r with mode := m } }
def edW (c : Int) (s : Ws) : Tr Ws :=
  if fx c = 2 ∧ fz c < 4 ∧ 3 < fy c then blockW (fy c) (fz c) s else if fx c ≠ 1 then .done s else
  if fz c = 0 then (cycW ⟨4, s.r.bc, 0, 4⟩ s).bind fun b =>
    if fy c = 6 then .done ((b.2.wz ((b.2.r.bc + 1) % 65536)).af (b.2.wz ((b.2.r.bc + 1) % 65536)).a (withM (evenFM b.1) 0 (isM (b.2.wz ((b.2.r.bc + 1) % 65536)).f 0)))
    else setW (fy c) b.1 ((b.2.wz ((b.2.r.bc + 1) % 65536)).af (b.2.wz ((b.2.r.bc + 1) % 65536)).a (withM (evenFM b.1) 0 (isM (b.2.wz ((b.2.r.bc + 1) % 65536)).f 0))) else
  if fz c = 1 then (if fy c = 6 then (cycW ⟨5, s.r.bc, 0, 4⟩ s).bind fun r => .done (r.2.wz ((r.2.r.bc + 1) % 65536)) else (getW (fy c) s).bind fun b => (cycW ⟨5, b.2.r.bc, b.1, 4⟩ b.2).bind fun r => .done (r.2.wz ((r.2.r.bc + 1) % 65536))) else
  if fz c = 2 then (statesW 7 s).bind fun s =>
    if fq c = 1 then .done (((s.wz ((s.r.hl + 1) % 65536)).hlTo (adcW (s.wz ((s.r.hl + 1) % 65536)).r.hl (pairG (s.wz ((s.r.hl + 1) % 65536)).r 0 (fp c)) (isM (s.wz ((s.r.hl + 1) % 65536)).f 0))).af
        ((s.wz ((s.r.hl + 1) % 65536)).hlTo (adcW (s.wz ((s.r.hl + 1) % 65536)).r.hl (pairG (s.wz ((s.r.hl + 1) % 65536)).r 0 (fp c)) (isM (s.wz ((s.r.hl + 1) % 65536)).f 0))).a (adcF (s.wz ((s.r.hl + 1) % 65536)).r.hl (pairG (s.wz ((s.r.hl + 1) % 65536)).r 0 (fp c)) (isM (s.wz ((s.r.hl + 1) % 65536)).f 0)))
    else .done (((s.wz ((s.r.hl + 1) % 65536)).hlTo (sbcW (s.wz ((s.r.hl + 1) % 65536)).r.hl (pairG (s.wz ((s.r.hl + 1) % 65536)).r 0 (fp c)) (isM (s.wz ((s.r.hl + 1) % 65536)).f 0))).af
        ((s.wz ((s.r.hl + 1) % 65536)).hlTo (sbcW (s.wz ((s.r.hl + 1) % 65536)).r.hl (pairG (s.wz ((s.r.hl + 1) % 65536)).r 0 (fp c)) (isM (s.wz ((s.r.hl + 1) % 65536)).f 0))).a (sbcF (s.wz ((s.r.hl + 1) % 65536)).r.hl (pairG (s.wz ((s.r.hl + 1) % 65536)).r 0 (fp c)) (isM (s.wz ((s.r.hl + 1) % 65536)).f 0))) else
  if fz c = 3 then wordsW (fp c) (fq c) s else
  if fz c = 4 then .done (s.af (subR 0 s.a false) (subF 0 s.a false)) else
  if fz c = 5 then (backW s).bind fun s => .done { s with r := { s.r with iff1 := s.r.iff2 } } else
  if fz c = 6 then (if fy c % 4 = 2 then .done (s.modeTo 1) else if fy c % 4 = 3 then .done (s.modeTo 2) else .done (s.modeTo 0)) else oddW (fy c) s
def distW (plane : Int) (s : Ws) : Tr Ws := (numberW (s.at_ plane s.code)).bind fun e => (numberW ((e.2.know (moveM e.2.hl (signedM e.1))).wz (moveM e.2.hl (signedM e.1)))).bind fun c => (statesW 2 c.2).bind fun s => bitW true c.1 s
def restW (plane b : Int) (s : Ws) : Tr Ws :=
  if b = 237 then (fetchW s).bind fun c => edW c.1 (c.2.at_ 0 0) else
  if b = 203 ∧ plane = 0 then (fetchW s).bind fun c => bitW false c.1 c.2 else
  if b = 203 then distW plane s else plainW plane b s
theorem mod2 (y : Int) : y % 2 = 0 ∨ y % 2 = 1 := by omega
theorem bRem2 {x k : Int} (h0 : 0 ≤ x) (h : x % 2 = k) (w : World) : (binOp .rem 3 (.int .i64 x) (.int .i64 2)).run Tryz.prog w = .ok (.int .i64 k) w := by
  have e : x.tmod 2 = k := by rw [Int.tmod_eq_emod_of_nonneg h0]; exact h
  have e2 : IntKind.i64.wrap k = k := by rw [IntKind.wrap_i64]; omega
  simp [go_sem, e, e2]
section
variable {ops : Array Oper} {Q : Exit → Act → World → Prop} {a : Act} {w w0 : World} {o : Oper} {rest : List Oper} {p B : Nat} {s : Ws} {xs : List Int} {z : Zs} {x y : Operand}
@[reducible] def quad : Array Value := #[.int .i64 0, .int .i64 0, .int .i64 1, .int .i64 2]
theorem heQuad (ho : o.op = .buildSlice 80 4 #[(0, .const (.int .i64 0)), (1, .const (.int .i64 0)), (2, .const (.int .i64 1)), (3, .const (.int .i64 2))]) : (execOp a.eval o).run Tryz.prog w = .ok (.value (.slice (some ⟨w.heap.size, 0, none⟩) 4 4)) (w.alloc (.cells quad 3)) := by
  have h : (Instr.buildSlice 80 4 #[(0, .int .i64 0), (1, .int .i64 0), (2, .int .i64 1), (3, .int .i64 2)]).run Tryz.prog w = .ok (.slice (some ⟨w.heap.size, 0, none⟩) 4 4) (w.alloc (.cells quad 3)) := by simp [go_sem]
  unfold execOp
  simp only [ho, List.map_toArray, List.map_cons, List.map_nil, Act.eval, Sem.run_bind, h, Result.andThen_ok, Sem.run_pure]
theorem sQuad (d : Tmp) (hn : NowW w0 p B s xs z w) (hd : o.dst = some d) (hg : o.guard = none) (ho : o.op = .buildSlice 80 4 #[(0, .const (.int .i64 0)), (1, .const (.int .i64 0)), (2, .const (.int .i64 1)), (3, .const (.int .i64 2))])
    (h : ∀ w' M, Row w' M 3 quad → NowW w0 p B s xs z w' → WL Tryz.prog ops Q rest (a.put (some d) (.slice (some ⟨M, 0, none⟩) 4 4)) w') : WL Tryz.prog ops Q (o :: rest) a w :=
  list_make d _ hd (wantedN hg) (heQuad ho) (h _ _ (Row.new w _ quad) (hn.below (Below.alloc (Below.refl _ _) (Nat.le_refl _) _)))
theorem idxQ_0 (M : Nat) (w : World) : (Instr.indexAt 80 (.slice (some ⟨M, 0, none⟩) 4 4) (.int .i64 0)).run Tryz.prog w = .ok (pT M 0) w := by simp [go_sem, Addr.add]
theorem idxQ_1 (M : Nat) (w : World) : (Instr.indexAt 80 (.slice (some ⟨M, 0, none⟩) 4 4) (.int .i64 1)).run Tryz.prog w = .ok (pT M 1) w := by simp [go_sem, Addr.add]
theorem idxQ_2 (M : Nat) (w : World) : (Instr.indexAt 80 (.slice (some ⟨M, 0, none⟩) 4 4) (.int .i64 2)).run Tryz.prog w = .ok (pT M 2) w := by simp [go_sem, Addr.add]
theorem idxQ_3 (M : Nat) (w : World) : (Instr.indexAt 80 (.slice (some ⟨M, 0, none⟩) 4 4) (.int .i64 3)).run Tryz.prog w = .ok (pT M 3) w := by simp [go_sem, Addr.add]
theorem AtW.far {L : Nat} (h : AtW w p B s xs z) (hp : L ≠ p) (hB : B ≤ L) (vs : List Value) (o : Nat) : AtW (w.setCells L o vs) p B s xs z := by
  obtain ⟨⟨A, cap, hc, hr, hby⟩, hl, h8, hm, ht, hg⟩ := h
  have k : ∀ b, b < B → (w.setCells L o vs).heap[b]? = w.heap[b]? := fun b hlt => heap_setCells L b (by omega) _ _ _
  exact ⟨⟨A, cap, hc, hr.setFar (Ne.symm hp) vs o, hby.keep k⟩, hl, h8, hm, ht, hg⟩
theorem NowW.far {L : Nat} (h : NowW w0 p B s xs z w) (hp : L ≠ p) (hB : B ≤ L) (h0 : w0.heap.size ≤ L) (vs : List Value) (o : Nat) : NowW w0 p B s xs z (w.setCells L o vs) :=
  ⟨h.at_.far hp hB vs o, h.bes.setCells (.inr (.inr h0)) _ _⟩
@[reducible] def cells8 (b0 b1 b2 b3 b4 b5 b6 b7 : Bool) : Array Value := #[.bool b0, .bool b1, .bool b2, .bool b3, .bool b4, .bool b5, .bool b6, .bool b7]
theorem info8 : (Tryz.prog.info? 109).map (·.size) = some 8 := by kernel_rfl
theorem alloc8 (w : World) : (Instr.alloc 109 true (.tuple #[])).run Tryz.prog w = .ok (pT w.heap.size 0) (w.alloc (.cells (cells8 false false false false false false false false) 109)) := by
  simp [go_sem]
theorem sAlloc8 (d : Tmp) (hn : NowW w0 p B s xs z w) (hd : o.dst = some d) (hg : o.guard = none) (ho : o.op = .alloc 109)
    (h : ∀ w' L, L ≠ p → B ≤ L → w0.heap.size ≤ L → Row w' L 109 (cells8 false false false false false false false false) → NowW w0 p B s xs z w' → WL Tryz.prog ops Q rest (a.put (some d) (pT L 0)) w') : WL Tryz.prog ops Q (o :: rest) a w := by
  have hlt := hn.at_.lt
  have hlow := hn.at_.low
  refine list_make d (pT w.heap.size 0) hd (wantedN hg) (heAlloc ho (alloc8 _)) ?_
  exact h _ _ (by omega) (by omega) hn.bes.size (Row.new w _ _) (hn.below (Below.alloc (Below.refl _ _) (Nat.le_refl _) _))
theorem sPut8 {L : Nat} {c0 c1 c2 c3 c4 c5 c6 c7 : Bool} (b0 b1 b2 b3 b4 b5 b6 b7 : Bool) (hn : NowW w0 p B s xs z w) (hL : Row w L 109 (cells8 c0 c1 c2 c3 c4 c5 c6 c7)) (hLp : L ≠ p) (hLB : B ≤ L) (hL0 : w0.heap.size ≤ L) (hd : o.dst = none) (hg : o.guard = none) (ho : o.op = .store 109 x y)
    (hx : a.eval x = pT L 0) (hy : a.eval y = .agg (cells8 b0 b1 b2 b3 b4 b5 b6 b7))
    (h : ∀ w', Row w' L 109 (cells8 b0 b1 b2 b3 b4 b5 b6 b7) → NowW w0 p B s xs z w' → WL Tryz.prog ops Q rest (a.put none undef) w') : WL Tryz.prog ops Q (o :: rest) a w :=
  list_do hd (wantedN hg) (heStore ho hx hy (run_storeAt_mid w L 0 _ (cells8 b0 b1 b2 b3 b4 b5 b6 b7) hL.there info8 (by simp [Value.oneCell']))) (h _ (hL.setAll rfl) (hn.far hLp hLB hL0 _ _))
theorem sBit8 {L i : Nat} {cs : Array Value} (v : Bool) (cs' : Array Value) {V : Value} (hn : NowW w0 p B s xs z w) (hL : Row w L 109 cs) (hLp : L ≠ p) (hLB : B ≤ L) (hL0 : w0.heap.size ≤ L) (hd : o.dst = none) (hg : o.guard = none) (ho : o.op = .store 4 x y)
    (hx : a.eval x = pT L i) (hy : a.eval y = .bool v) (hi : cs[i]? = some V) (hcs : cs.setIfInBounds i (.bool v) = cs')
    (h : ∀ w', Row w' L 109 cs' → NowW w0 p B s xs z w' → WL Tryz.prog ops Q rest (a.put none undef) w') : WL Tryz.prog ops Q (o :: rest) a w :=
  list_do hd (wantedN hg) (heStore ho hx hy (stB ((hL.cell i).trans hi) (hL.frozen i))) (h _ (hcs ▸ hL.set i (.bool v)) (hn.far hLp hLB hL0 [.bool v] i))
theorem ld8b {L : Nat} {b0 b1 b2 b3 b4 b5 b6 b7 : Bool} (hL : Row w L 109 (cells8 b0 b1 b2 b3 b4 b5 b6 b7)) : (Instr.loadAt 109 (pT L 0)).run Tryz.prog w = .ok (.agg (cells8 b0 b1 b2 b3 b4 b5 b6 b7)) w :=
  run_loadAt_mid w L 0 109 (cells8 b0 b1 b2 b3 b4 b5 b6 b7).toList _ hL.range Tryz.underlying109 rfl info8
theorem idx8_5 (L : Nat) (w : World) : (Instr.indexAt 109 (pT L 0) (.int .i64 5)).run Tryz.prog w = .ok (pT L 5) w := by simp [go_sem, Addr.add]
theorem idx8_7 (L : Nat) (w : World) : (Instr.indexAt 109 (pT L 0) (.int .i64 7)).run Tryz.prog w = .ok (pT L 7) w := by simp [go_sem, Addr.add]
end
theorem w_odd (y : Int) (hAy : 0 ≤ y ∧ y ≤ 7) {s : Ws} {xs : List Int} {z : Zs} {w : World} {p B : Nat} (h : AtW w p B s xs z) :
    Calls Tryz.prog 88 #[pT p 0, .int .i64 (y)] w (OutY w p B xs ((oddW y s).runZ xs z)) := by
 have hn := NowW.begin h
 have hr : (oddW y s).runZ xs z = (oddW y s).runZ xs z := rfl
 go_enter Tryz.func88, Tryz.ntmps88
 refine wp_seq_k fun K1 hK1 => wp_seq_k fun K2 hK2 => regionL <| oM 10 (.int .i64 (y)) <| oB 11 (egI _ _ _ _ _) (bLtI y 4) ?_
 refine endL ?_
 try simp only [Act.put, sA, sB, sC]
 refine thenN <| hK2 _ _ ?_
 refine wp_cond_split (t := decide (y < 4)) (by kernel_rfl) (fun h3 => ?_) (fun h3 => ?_)
 · have g3 : y < 4 := by simpa using h3
   have hr := hr.trans (zif_pos g3)
   refine regionL <| oM 12 (pT p 0) ?_
   refine sCallY hn rfl (by kernel_rfl) (w_states 1 hn.at_) ?_
   intro s4 z4 w4 hX hn
   have hr := hr.trans (bindZ hX _)
   refine endL ?_
   try simp only [Act.put, sA, sB, sC]
   refine thenN <| hK1 _ _ <| wp_seq_k fun K5 hK5 => regionL <| oM 14 (.int .i64 (y)) ?_
   refine endL ?_
   try simp only [Act.put, sA, sB, sC]
   refine thenN <| hK5 _ _ ?_
   refine wp_block ?_
   refine wp_seq_k fun K6 hK6 => regionL <| oB 16 (egI _ _ _ _ _) (bEqI y 0) <| oA 15 (.bool (y == 0)) ?_
   refine endL ?_
   try simp only [Act.put, sA, sB, sC]
   refine thenN <| hK6 _ _ ?_
   refine wp_cond_split (t := y == 0) (by kernel_rfl) (fun h7 => ?_) (fun h7 => ?_)
   · have g7 : y = 0 := by simpa using h7
     have hr := hr.trans (zif_pos g7)
     exact coStart <| have b8 := aW_byte hn.at_.ms; coZ <| zR 2 hn <| zAA (w_a hn.at_) hn <| fun w9 hn => zFs hn (.u_i _ (s4.a)) (hn.at_.ms.u_i (b8)) <| fun w10 hn => eoB <| eoV (OutY.ok (dZ hr) hn)
   · have g7 : ¬ y = 0 := by simpa using h7
     have hr := hr.trans (zif_neg g7)
     refine wp_seq_k fun K11 hK11 => regionL <| oB 24 (egI _ _ _ _ _) (bEqI y 1) <| oA 23 (.bool (y == 1)) ?_
     refine endL ?_
     try simp only [Act.put, sA, sB, sC]
     refine thenN <| hK11 _ _ ?_
     refine wp_cond_split (t := y == 1) (by kernel_rfl) (fun h12 => ?_) (fun h12 => ?_)
     · have g12 : y = 1 := by simpa using h12
       have hr := hr.trans (zif_pos g12)
       exact coStart <| have b13 := aW_byte hn.at_.ms; coZ <| zR 2 hn <| zAA (w_a hn.at_) hn <| fun w14 hn => zFs hn (.u_r _ (s4.a)) (hn.at_.ms.u_r (b13)) <| fun w15 hn => eoB <| eoV (OutY.ok (dZ hr) hn)
     · have g12 : ¬ y = 1 := by simpa using h12
       have hr := hr.trans (zif_neg g12)
       refine wp_seq_k fun K16 hK16 => wp_seq_k fun K17 hK17 => regionL <| oB 32 (egI _ _ _ _ _) (bEqI y 2) <| oA 31 (.bool (y == 2)) ?_
       refine endL ?_
       try simp only [Act.put, sA, sB, sC]
       refine thenN <| hK17 _ _ ?_
       refine wp_cond_split (t := y == 2) (by kernel_rfl) (fun h18 => ?_) (fun h18 => ?_)
       · have g18 : y = 2 := by simpa using h18
         have hr := hr.trans (zif_neg (by simp [g18, g12, g7, g3]))
         refine wp_skip ?_
         refine thenN <| hK16 _ _ ?_
         refine wp_cond_split (t := y == 2) (by kernel_rfl) (fun h19 => ?_) (fun h19 => ?_)
         rotate_left
         · exact coStart <| absurd h19 (by first | (simp; omega) | simp [*])
         have hr := hr.trans (zif_pos g18)
         refine wp_seq_k fun K20 hK20 => regionL <| oM 34 (pT p 0) <| oN 35 p 0 <| oF 36 (fW0 p) <| oF 37 (fR13 p) ?_
         have b21 := hn.at_.ms.r.i
         refine oL 38 (ld8 (hn.at_.cell 13 (.int .u8 (s4.r.i)) fun _ _ _ => rfl)) <| oA 4 (.int .u8 (s4.r.i)) ?_
         refine endL ?_
         try simp only [Act.put, sA, sB, sC]
         refine thenN <| hK20 _ _ <| wp_seq_k fun K22 hK22 => wp_seq_k fun K23 hK23 => regionL <| oM 39 (.int .i64 (y)) <| oJ 40 (.int .i64 (y)) (.int .i64 (3)) (.bool (false)) (egI _ _ _ _ _) (fun w => by rw [bEqI, show (y == 3) = false from by first | (simp; omega) | simp [*]]) ?_
         refine endL ?_
         try simp only [Act.put, sA, sB, sC]
         refine thenN <| hK23 _ _ ?_
         refine wp_cond_false (by kernel_rfl) ?_
         first | (have hr := hr.trans (zif_pos (by first | exact g18 | exact g12 | exact g7 | exact .inl g18 | exact .inr g18 | exact fun h => g18 h.2 | exact fun h => g18 h.1 | exact ⟨g12, g18⟩ | exact not_or.2 ⟨g12, g18⟩ | (simp [g18, g12, g7, g3]; done) | omega))) | (have hr := hr.trans (zif_neg (by first | exact g18 | exact g12 | exact g7 | exact .inl g18 | exact .inr g18 | exact fun h => g18 h.2 | exact fun h => g18 h.1 | exact ⟨g12, g18⟩ | exact not_or.2 ⟨g12, g18⟩ | (simp [g18, g12, g7, g3]; done) | omega))) | (have hr := hr.trans (zbif_pos (by first | exact g18 | exact g12 | exact g7 | exact .inl g18 | exact .inr g18 | exact fun h => g18 h.2 | exact fun h => g18 h.1 | exact ⟨g12, g18⟩ | exact not_or.2 ⟨g12, g18⟩ | (simp [g18, g12, g7, g3]; done) | omega))) | (have hr := hr.trans (zbif_neg (by first | exact g18 | exact g12 | exact g7 | exact .inl g18 | exact .inr g18 | exact fun h => g18 h.2 | exact fun h => g18 h.1 | exact ⟨g12, g18⟩ | exact not_or.2 ⟨g12, g18⟩ | (simp [g18, g12, g7, g3]; done) | omega))) | skip
         refine wp_skip ?_
         refine thenN <| hK22 _ _ <| wp_seq_k fun K24 hK24 => regionL <| oM 46 (.int .u8 (s4.r.i)) <| oC (.int .u8 (resultM s4.r.i)) (rresult_any s4.r.i (b21).1 (b21).2 _) ?_
         intro w25 hb
         have hn := hn.below hb
         refine oC (.agg #[.bool (isM (resultM s4.r.i) 7), .bool (isM (resultM s4.r.i) 6), .bool (isM (resultM s4.r.i) 5), .bool (isM (resultM s4.r.i) 4), .bool (isM (resultM s4.r.i) 3), .bool (isM (resultM s4.r.i) 2), .bool (isM (resultM s4.r.i) 1), .bool (isM (resultM s4.r.i) 0)]) (rof_any (resultM s4.r.i) (resultM_byte _).1 (resultM_byte _).2 _) ?_
         intro w26 hb
         have hn := hn.below hb
         refine sAlloc8 5 hn rfl rfl rfl ?_
         intro w27 L hLp hLB hL0 hL hn
         refine sPut8 (isM (resultM s4.r.i) 7) (isM (resultM s4.r.i) 6) (isM (resultM s4.r.i) 5) (isM (resultM s4.r.i) 4) (isM (resultM s4.r.i) 3) (isM (resultM s4.r.i) 2) (isM (resultM s4.r.i) 1) (isM (resultM s4.r.i) 0) hn hL hLp hLB hL0 rfl rfl rfl (by kernel_rfl) (by kernel_rfl) ?_
         intro w28 hL hn
         refine endL ?_
         try simp only [Act.put, sA, sB, sC]
         refine thenN <| hK24 _ _ <| wp_seq_k fun K29 hK29 => regionL <| oM 49 (pT p 0) <| oN 50 p 0 <| oF 51 (fW0 p) <| oF 52 (fR16 p) <| oL 53 (ldB (hn.at_.cell 16 (.bool (s4.r.iff2)) fun _ _ _ => rfl)) <| oI 54 (pT L 0) (.int .i64 (5)) (pT L 5) (idx8_5 L _) ?_
         refine sBit8 (i := 5) (s4.r.iff2) (cells8 (isM (resultM s4.r.i) 7) (isM (resultM s4.r.i) 6) (isM (resultM s4.r.i) 5) (isM (resultM s4.r.i) 4) (isM (resultM s4.r.i) 3) s4.r.iff2 (isM (resultM s4.r.i) 1) (isM (resultM s4.r.i) 0)) hn hL hLp hLB hL0 rfl rfl rfl (by kernel_rfl) (by kernel_rfl) rfl rfl ?_
         intro w30 hL hn
         refine endL ?_
         try simp only [Act.put, sA, sB, sC]
         refine thenN <| hK29 _ _ <| wp_seq_k fun K31 hK31 => regionL <| oM 55 (pT p 0) <| oC (.bool (isM s4.f 0)) (w_carry  hn.at_) ?_
         intro w32 hk
         have hL := hL.besides hk.bes hLp hLp
         have hn := hn.after hk
         refine oI 57 (pT L 0) (.int .i64 (7)) (pT L 7) (idx8_7 L _) ?_
         refine sBit8 (i := 7) (isM s4.f 0) (cells8 (isM (resultM s4.r.i) 7) (isM (resultM s4.r.i) 6) (isM (resultM s4.r.i) 5) (isM (resultM s4.r.i) 4) (isM (resultM s4.r.i) 3) s4.r.iff2 (isM (resultM s4.r.i) 1) (isM s4.f 0)) hn hL hLp hLB hL0 rfl rfl rfl (by kernel_rfl) (by kernel_rfl) rfl rfl ?_
         intro w33 hL hn
         refine endL ?_
         try simp only [Act.put, sA, sB, sC]
         refine thenN <| hK31 _ _ <| regionL <| oM 58 (pT p 0) <| oM 59 (.int .u8 (s4.r.i)) <| oL 60 (ld8b hL) <| oC (.int .u8 (mkM (isM (resultM s4.r.i) 7) (isM (resultM s4.r.i) 6) (isM (resultM s4.r.i) 5) (isM (resultM s4.r.i) 4) (isM (resultM s4.r.i) 3) s4.r.iff2 (isM (resultM s4.r.i) 1) (isM s4.f 0))) (rmake_any (isM (resultM s4.r.i) 7) (isM (resultM s4.r.i) 6) (isM (resultM s4.r.i) 5) (isM (resultM s4.r.i) 4) (isM (resultM s4.r.i) 3) s4.r.iff2 (isM (resultM s4.r.i) 1) (isM s4.f 0) _) ?_
         intro w34 hb
         have hL := hL.below hb hL.lt
         have hn := hn.below hb
         refine oC (.tuple #[]) (w_put s4.r.i (b21) (mkM (isM (resultM s4.r.i) 7) (isM (resultM s4.r.i) 6) (isM (resultM s4.r.i) 5) (isM (resultM s4.r.i) 4) (isM (resultM s4.r.i) 3) s4.r.iff2 (isM (resultM s4.r.i) 1) (isM s4.f 0)) (mkM_byte _ _ _ _ _ _ _ _) hn.at_) ?_
         intro w35 hk
         have hL := hL.besides hk.bes hLp hLp
         have hn := hn.after hk
         refine endL ?_
         try simp only [Act.put, sA, sB, sC]
         refine blockN ?_
         refine endV rfl rfl ?_
         exact OutY.ok (hr.trans (doneZ _ _ _)) hn
       · have g18 : ¬ y = 2 := by simpa using h18
         have hr := hr.trans (zif_pos (by omega))
         refine regionL <| oJ 33 (.int .i64 (y)) (.int .i64 (3)) (.bool (true)) (egI _ _ _ _ _) (fun w => by rw [bEqI, show (y == 3) = true from by first | (simp; omega) | simp [*]]) <| oA 31 (.bool (true)) ?_
         refine endL ?_
         try simp only [Act.put, sA, sB, sC]
         refine thenN <| hK16 _ _ ?_
         refine wp_cond_true (by kernel_rfl) ?_
         first | (have hr := hr.trans (zif_pos (by first | exact g18 | exact g12 | exact g7 | exact .inl g18 | exact .inr g18 | exact fun h => g18 h.2 | exact fun h => g18 h.1 | exact ⟨g12, g18⟩ | exact not_or.2 ⟨g12, g18⟩ | (simp [g18, g12, g7, g3]; done) | omega))) | (have hr := hr.trans (zif_neg (by first | exact g18 | exact g12 | exact g7 | exact .inl g18 | exact .inr g18 | exact fun h => g18 h.2 | exact fun h => g18 h.1 | exact ⟨g12, g18⟩ | exact not_or.2 ⟨g12, g18⟩ | (simp [g18, g12, g7, g3]; done) | omega))) | (have hr := hr.trans (zbif_pos (by first | exact g18 | exact g12 | exact g7 | exact .inl g18 | exact .inr g18 | exact fun h => g18 h.2 | exact fun h => g18 h.1 | exact ⟨g12, g18⟩ | exact not_or.2 ⟨g12, g18⟩ | (simp [g18, g12, g7, g3]; done) | omega))) | (have hr := hr.trans (zbif_neg (by first | exact g18 | exact g12 | exact g7 | exact .inl g18 | exact .inr g18 | exact fun h => g18 h.2 | exact fun h => g18 h.1 | exact ⟨g12, g18⟩ | exact not_or.2 ⟨g12, g18⟩ | (simp [g18, g12, g7, g3]; done) | omega))) | skip
         refine wp_seq_k fun K36 hK36 => regionL <| oM 34 (pT p 0) <| oN 35 p 0 <| oF 36 (fW0 p) <| oF 37 (fR13 p) ?_
         have b37 := hn.at_.ms.r.i
         refine oL 38 (ld8 (hn.at_.cell 13 (.int .u8 (s4.r.i)) fun _ _ _ => rfl)) <| oA 4 (.int .u8 (s4.r.i)) ?_
         refine endL ?_
         try simp only [Act.put, sA, sB, sC]
         refine thenN <| hK36 _ _ <| wp_seq_k fun K38 hK38 => wp_seq_k fun K39 hK39 => regionL <| oM 39 (.int .i64 (y)) <| oJ 40 (.int .i64 (y)) (.int .i64 (3)) (.bool (true)) (egI _ _ _ _ _) (fun w => by rw [bEqI, show (y == 3) = true from by first | (simp; omega) | simp [*]]) ?_
         refine endL ?_
         try simp only [Act.put, sA, sB, sC]
         refine thenN <| hK39 _ _ ?_
         refine wp_cond_true (by kernel_rfl) ?_
         first | (have hr := hr.trans (zif_pos (by first | exact g18 | exact g12 | exact g7 | exact .inl g18 | exact .inr g18 | exact fun h => g18 h.2 | exact fun h => g18 h.1 | exact ⟨g12, g18⟩ | exact not_or.2 ⟨g12, g18⟩ | (simp [g18, g12, g7, g3]; done) | omega))) | (have hr := hr.trans (zif_neg (by first | exact g18 | exact g12 | exact g7 | exact .inl g18 | exact .inr g18 | exact fun h => g18 h.2 | exact fun h => g18 h.1 | exact ⟨g12, g18⟩ | exact not_or.2 ⟨g12, g18⟩ | (simp [g18, g12, g7, g3]; done) | omega))) | (have hr := hr.trans (zbif_pos (by first | exact g18 | exact g12 | exact g7 | exact .inl g18 | exact .inr g18 | exact fun h => g18 h.2 | exact fun h => g18 h.1 | exact ⟨g12, g18⟩ | exact not_or.2 ⟨g12, g18⟩ | (simp [g18, g12, g7, g3]; done) | omega))) | (have hr := hr.trans (zbif_neg (by first | exact g18 | exact g12 | exact g7 | exact .inl g18 | exact .inr g18 | exact fun h => g18 h.2 | exact fun h => g18 h.1 | exact ⟨g12, g18⟩ | exact not_or.2 ⟨g12, g18⟩ | (simp [g18, g12, g7, g3]; done) | omega))) | skip
         refine regionL <| oM 41 (pT p 0) <| oN 42 p 0 <| oF 43 (fW0 p) <| oF 44 (fR14 p) ?_
         have b40 := hn.at_.ms.r.r
         refine oL 45 (ld8 (hn.at_.cell 14 (.int .u8 (s4.r.r)) fun _ _ _ => rfl)) <| oA 4 (.int .u8 (s4.r.r)) ?_
         refine endL ?_
         try simp only [Act.put, sA, sB, sC]
         refine thenN <| hK38 _ _ <| wp_seq_k fun K41 hK41 => regionL <| oM 46 (.int .u8 (s4.r.r)) <| oC (.int .u8 (resultM s4.r.r)) (rresult_any s4.r.r (b40).1 (b40).2 _) ?_
         intro w42 hb
         have hn := hn.below hb
         refine oC (.agg #[.bool (isM (resultM s4.r.r) 7), .bool (isM (resultM s4.r.r) 6), .bool (isM (resultM s4.r.r) 5), .bool (isM (resultM s4.r.r) 4), .bool (isM (resultM s4.r.r) 3), .bool (isM (resultM s4.r.r) 2), .bool (isM (resultM s4.r.r) 1), .bool (isM (resultM s4.r.r) 0)]) (rof_any (resultM s4.r.r) (resultM_byte _).1 (resultM_byte _).2 _) ?_
         intro w43 hb
         have hn := hn.below hb
         refine sAlloc8 5 hn rfl rfl rfl ?_
         intro w44 L hLp hLB hL0 hL hn
         refine sPut8 (isM (resultM s4.r.r) 7) (isM (resultM s4.r.r) 6) (isM (resultM s4.r.r) 5) (isM (resultM s4.r.r) 4) (isM (resultM s4.r.r) 3) (isM (resultM s4.r.r) 2) (isM (resultM s4.r.r) 1) (isM (resultM s4.r.r) 0) hn hL hLp hLB hL0 rfl rfl rfl (by kernel_rfl) (by kernel_rfl) ?_
         intro w45 hL hn
         refine endL ?_
         try simp only [Act.put, sA, sB, sC]
         refine thenN <| hK41 _ _ <| wp_seq_k fun K46 hK46 => regionL <| oM 49 (pT p 0) <| oN 50 p 0 <| oF 51 (fW0 p) <| oF 52 (fR16 p) <| oL 53 (ldB (hn.at_.cell 16 (.bool (s4.r.iff2)) fun _ _ _ => rfl)) <| oI 54 (pT L 0) (.int .i64 (5)) (pT L 5) (idx8_5 L _) ?_
         refine sBit8 (i := 5) (s4.r.iff2) (cells8 (isM (resultM s4.r.r) 7) (isM (resultM s4.r.r) 6) (isM (resultM s4.r.r) 5) (isM (resultM s4.r.r) 4) (isM (resultM s4.r.r) 3) s4.r.iff2 (isM (resultM s4.r.r) 1) (isM (resultM s4.r.r) 0)) hn hL hLp hLB hL0 rfl rfl rfl (by kernel_rfl) (by kernel_rfl) rfl rfl ?_
         intro w47 hL hn
         refine endL ?_
         try simp only [Act.put, sA, sB, sC]
         refine thenN <| hK46 _ _ <| wp_seq_k fun K48 hK48 => regionL <| oM 55 (pT p 0) <| oC (.bool (isM s4.f 0)) (w_carry  hn.at_) ?_
         intro w49 hk
         have hL := hL.besides hk.bes hLp hLp
         have hn := hn.after hk
         refine oI 57 (pT L 0) (.int .i64 (7)) (pT L 7) (idx8_7 L _) ?_
         refine sBit8 (i := 7) (isM s4.f 0) (cells8 (isM (resultM s4.r.r) 7) (isM (resultM s4.r.r) 6) (isM (resultM s4.r.r) 5) (isM (resultM s4.r.r) 4) (isM (resultM s4.r.r) 3) s4.r.iff2 (isM (resultM s4.r.r) 1) (isM s4.f 0)) hn hL hLp hLB hL0 rfl rfl rfl (by kernel_rfl) (by kernel_rfl) rfl rfl ?_
         intro w50 hL hn
         refine endL ?_
         try simp only [Act.put, sA, sB, sC]
         refine thenN <| hK48 _ _ <| regionL <| oM 58 (pT p 0) <| oM 59 (.int .u8 (s4.r.r)) <| oL 60 (ld8b hL) <| oC (.int .u8 (mkM (isM (resultM s4.r.r) 7) (isM (resultM s4.r.r) 6) (isM (resultM s4.r.r) 5) (isM (resultM s4.r.r) 4) (isM (resultM s4.r.r) 3) s4.r.iff2 (isM (resultM s4.r.r) 1) (isM s4.f 0))) (rmake_any (isM (resultM s4.r.r) 7) (isM (resultM s4.r.r) 6) (isM (resultM s4.r.r) 5) (isM (resultM s4.r.r) 4) (isM (resultM s4.r.r) 3) s4.r.iff2 (isM (resultM s4.r.r) 1) (isM s4.f 0) _) ?_
         intro w51 hb
         have hL := hL.below hb hL.lt
         have hn := hn.below hb
         refine oC (.tuple #[]) (w_put s4.r.r (b40) (mkM (isM (resultM s4.r.r) 7) (isM (resultM s4.r.r) 6) (isM (resultM s4.r.r) 5) (isM (resultM s4.r.r) 4) (isM (resultM s4.r.r) 3) s4.r.iff2 (isM (resultM s4.r.r) 1) (isM s4.f 0)) (mkM_byte _ _ _ _ _ _ _ _) hn.at_) ?_
         intro w52 hk
         have hL := hL.besides hk.bes hLp hLp
         have hn := hn.after hk
         refine endL ?_
         try simp only [Act.put, sA, sB, sC]
         refine blockN ?_
         refine endV rfl rfl ?_
         exact OutY.ok (hr.trans (doneZ _ _ _)) hn
 · have g3 : ¬ y < 4 := by simpa using h3
   have hr := hr.trans (zif_neg g3)
   refine coStart <| coSkip <| eoTk hK1 <| zQ hn <| coB <| coR <| kBj 16 (.int .i64 (y)) (.int .i64 (0)) (.bool (false)) (egI _ _ _ _ _) (fun w => by rw [bEqI, show (y == 0) = false from by first | (simp; omega) | simp [*]]) <| zE hn <| coF ?_
   first | have hr := pZ hr | have hr := qZ hr | have hr := pbZ hr | have hr := qbZ hr | skip
   refine coR <| kBj 24 (.int .i64 (y)) (.int .i64 (1)) (.bool (false)) (egI _ _ _ _ _) (fun w => by rw [bEqI, show (y == 1) = false from by first | (simp; omega) | simp [*]]) <| zE hn <| coF ?_
   first | have hr := pZ hr | have hr := qZ hr | have hr := pbZ hr | have hr := qbZ hr | skip
   refine coS <| coR <| kBj 32 (.int .i64 (y)) (.int .i64 (2)) (.bool (false)) (egI _ _ _ _ _) (fun w => by rw [bEqI, show (y == 2) = false from by first | (simp; omega) | simp [*]]) <| zE hn <| coF ?_
   first | have hr := pZ hr | have hr := qZ hr | have hr := pbZ hr | have hr := qbZ hr | skip
   refine coZ <| kBj 33 (.int .i64 (y)) (.int .i64 (3)) (.bool (false)) (egI _ _ _ _ _) (fun w => by rw [bEqI, show (y == 3) = false from by first | (simp; omega) | simp [*]]) <| zE hn <| coF ?_
   first | have hr := pZ hr | have hr := qZ hr | have hr := pbZ hr | have hr := qbZ hr | skip
   refine coS <| zQ hn <| zIf hr (fun g60 hr => ?_) fun g60 hr => ?_
   · refine coSkip <| eoT <| coJ (y == 4) (fun h61 => absurd h61 (by first | (simp; omega) | simp [*])) <| fun h61 => ?_
     first | have hr := pZ hr | have hr := qZ hr | have hr := pbZ hr | have hr := qbZ hr | skip
     exact have b63 := hn.at_.ms.r.hl; coR <| zR 6 hn <| zX (w_read s.r.hl (b63) hn.at_) hn hr <| fun v64 s64 z64 w64 hk64 hn hr => zE hn <| coR <| zR 1 hn <| zY (w_states 4 hn.at_) hn hr <| fun s66 z66 w66 hn hr => wT <| coR <| zR 1 hn <| kBj 77 (.int .i64 (y)) (.int .i64 (4)) (.bool (true)) (egI _ _ _ _ _) (fun w => by rw [bEqI, show (y == 4) = true from by first | (simp; omega) | simp [*]]) <| have b68 := aW_byte hn.at_.ms; zR 1 hn <| zAA (w_a hn.at_) hn <| fun w69 hn => have b70 := fW_byte hn.at_.ms; zR 2 hn <| zAA (w_f hn.at_) hn <| fun w71 hn => zBB (rdigit_any true s66.a v64 s66.f (b68) (hk64) (b70) _) hn <| fun w72 hn => zE hn <| have b74 := hn.at_.ms.r.hl; coR <| zR 7 hn <| zY (w_write s66.r.hl (b74) (digB true s66.a v64) (digB_byte _ _ _ (b68) (hk64)) hn.at_) hn hr <| fun s75 z75 w75 hn hr => wT <| coR <| zR 3 hn <| zAA (w_put (digA true s66.a v64) (digA_byte _ _ _ (b68) (hk64)) (evenC (digA true s66.a v64) (isM s66.f 0)) (evenC_byte _ _) hn.at_) hn <| fun w77 hn => wT <| have b78 := hn.at_.ms.r.hl; coZ <| zFs hn (.u_wz _ ((((s75.af (digA true s66.a v64) (evenC (digA true s66.a v64) (isM s66.f 0))).r.hl) + 1) % 65536)) (hn.at_.ms.u_wz (Wd16.mod _)) <| fun w79 hn => eoB <| eoV (OutY.ok (dZ hr) hn)
   refine coZ <| zE hn <| zIf hr (fun g80 hr => ?_) fun g80 hr => ?_
   · exact have b82 := hn.at_.ms.r.hl; coR <| zR 6 hn <| zX (w_read s.r.hl (b82) hn.at_) hn hr <| fun v83 s83 z83 w83 hk83 hn hr => zE hn <| coR <| zR 1 hn <| zY (w_states 4 hn.at_) hn hr <| fun s85 z85 w85 hn hr => wT <| coR <| zR 1 hn <| kBj 77 (.int .i64 (y)) (.int .i64 (4)) (.bool (false)) (egI _ _ _ _ _) (fun w => by rw [bEqI, show (y == 4) = false from by first | (simp; omega) | simp [*]]) <| have b87 := aW_byte hn.at_.ms; zR 1 hn <| zAA (w_a hn.at_) hn <| fun w88 hn => have b89 := fW_byte hn.at_.ms; zR 2 hn <| zAA (w_f hn.at_) hn <| fun w90 hn => zBB (rdigit_any false s85.a v83 s85.f (b87) (hk83) (b89) _) hn <| fun w91 hn => zE hn <| have b93 := hn.at_.ms.r.hl; coR <| zR 7 hn <| zY (w_write s85.r.hl (b93) (digB false s85.a v83) (digB_byte _ _ _ (b87) (hk83)) hn.at_) hn hr <| fun s94 z94 w94 hn hr => wT <| coR <| zR 3 hn <| zAA (w_put (digA false s85.a v83) (digA_byte _ _ _ (b87) (hk83)) (evenC (digA false s85.a v83) (isM s85.f 0)) (evenC_byte _ _) hn.at_) hn <| fun w96 hn => wT <| have b97 := hn.at_.ms.r.hl; coZ <| zFs hn (.u_wz _ ((((s94.af (digA false s85.a v83) (evenC (digA false s85.a v83) (isM s85.f 0))).r.hl) + 1) % 65536)) (hn.at_.ms.u_wz (Wd16.mod _)) <| fun w98 hn => eoB <| eoV (OutY.ok (dZ hr) hn)
   exact coSkip <| eoB <| eoV (OutY.ok (dZ hr) hn)
end Go.Proofs.YtibmpaeaicpbcaaGreatDoor
