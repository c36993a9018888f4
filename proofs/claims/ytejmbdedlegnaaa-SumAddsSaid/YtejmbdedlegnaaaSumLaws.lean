/- Layer 3 (sum): the walks of the five laws. -/
import Derived.Test.YtejmbdedlegnaaaSumRef
namespace Go.Proofs.Ytejmbdedlegnaaa
open Go.RowKit
set_option linter.unusedVariables false
set_option linter.unusedSimpArgs false

theorem sawake_consts : addR 127 1 false = 128 ∧ addF 127 1 false = 148 ∧ subR 0 1 false = 255 ∧ subF 0 1 false = 187 ∧ addR 15 1 false = 16 ∧ incF 15 1 = 17 ∧ subR 16 1 false = 15 ∧ decF 16 0 = 26 ∧ cmpF 5 5 = 66 := by decide +kernel
set_option maxHeartbeats 4000000 in
theorem sawake_any (w : World) :
    Calls Try.prog 7 #[] w fun e w' => e = .returned (.bool true) ∧ Below w.heap.size w w' := by
  obtain ⟨c0, c1, c2, c3, c4, c5, c6, c7, c8⟩ := sawake_consts
  go_enter Try.func7, Try.ntmps7
  go_wp2_with (first
    | (go_at_call 8; refine (add_any _ _ _ ⟨by omega, by omega⟩ ⟨by omega, by omega⟩ _).mono ?_; rintro e w' ⟨rfl, hb⟩; have hsz := hb.size)
    | (go_at_call 10; refine (sub_any _ _ _ ⟨by omega, by omega⟩ ⟨by omega, by omega⟩ _).mono ?_; rintro e w' ⟨rfl, hb⟩; have hsz := hb.size)
    | (go_at_call 16; refine (inc_any _ _ ⟨by omega, by omega⟩ ⟨by omega, by omega⟩ _).mono ?_; rintro e w' ⟨rfl, hb⟩; have hsz := hb.size)
    | (go_at_call 18; refine (dec_any _ _ ⟨by omega, by omega⟩ ⟨by omega, by omega⟩ _).mono ?_; rintro e w' ⟨rfl, hb⟩; have hsz := hb.size)
    | (go_at_call 12; refine (neg_any _ ⟨by omega, by omega⟩ _).mono ?_; rintro e w' ⟨rfl, hb⟩; have hsz := hb.size)
    | (go_at_call 14; refine (cmp_any _ _ ⟨by omega, by omega⟩ ⟨by omega, by omega⟩ _).mono ?_; rintro e w' ⟨rfl, hb⟩; have hsz := hb.size))
  go_ret
  exact ⟨rfl, (by repeat (first | exact Below.refl _ _ | assumption | refine bstep ?_ (by assumption) | refine Below.drew ?_ | refine Below.alloc ?_ (by first | (simp; done) | (simp; omega) | omega) _ | refine Below.setCell ?_ (by first | (simp; done) | (simp; omega) | omega) _))⟩
set_option maxHeartbeats 4000000 in
theorem sumAdds_walk (a b : Int) (c : Bool) (h0 : 0 ≤ a) (h0' : a ≤ 255) (h1 : 0 ≤ b) (h1' : b ≤ 255) (w : World) :
    Calls Try.prog 3 #[.int .u8 a, .int .u8 b, .bool c] w fun e w' => e = .returned (.bool true) ∧ Below w.heap.size w w' := by
  go_enter Try.func3, Try.ntmps3
  go_wp2_with (first
    | (go_at_call 7; refine (sawake_any _).mono ?_; rintro e w' ⟨rfl, hb⟩; have hsz := hb.size)
    | (go_at_call 8; refine (add_any _ _ _ ⟨h0, h0'⟩ ⟨h1, h1'⟩ _).mono ?_; rintro e w' ⟨rfl, hb⟩; have hsz := hb.size)
    | (go_at_call 9; refine (radd_any _ _ _ ⟨h0, h0'⟩ ⟨h1, h1'⟩ _).mono ?_; rintro e w' ⟨rfl, hb⟩; have hsz := hb.size))
  go_ret
  exact ⟨rfl, (by repeat (first | exact Below.refl _ _ | assumption | refine bstep ?_ (by assumption) | refine Below.drew ?_ | refine Below.alloc ?_ (by first | (simp; done) | (simp; omega) | omega) _ | refine Below.setCell ?_ (by first | (simp; done) | (simp; omega) | omega) _))⟩
set_option maxHeartbeats 4000000 in
theorem sumSubs_walk (a b : Int) (c : Bool) (h0 : 0 ≤ a) (h0' : a ≤ 255) (h1 : 0 ≤ b) (h1' : b ≤ 255) (w : World) :
    Calls Try.prog 4 #[.int .u8 a, .int .u8 b, .bool c] w fun e w' => e = .returned (.bool true) ∧ Below w.heap.size w w' := by
  go_enter Try.func4, Try.ntmps4
  go_wp2_with (first
    | (go_at_call 7; refine (sawake_any _).mono ?_; rintro e w' ⟨rfl, hb⟩; have hsz := hb.size)
    | (go_at_call 10; refine (sub_any _ _ _ ⟨h0, h0'⟩ ⟨h1, h1'⟩ _).mono ?_; rintro e w' ⟨rfl, hb⟩; have hsz := hb.size)
    | (go_at_call 11; refine (rsub_any _ _ _ ⟨h0, h0'⟩ ⟨h1, h1'⟩ _).mono ?_; rintro e w' ⟨rfl, hb⟩; have hsz := hb.size)
    | (go_at_call 12; refine (neg_any _ ⟨h0, h0'⟩ _).mono ?_; rintro e w' ⟨rfl, hb⟩; have hsz := hb.size)
    | (go_at_call 13; refine (rneg_any _ ⟨h0, h0'⟩ _).mono ?_; rintro e w' ⟨rfl, hb⟩; have hsz := hb.size)
    | (go_at_call 14; refine (cmp_any _ _ ⟨h0, h0'⟩ ⟨h1, h1'⟩ _).mono ?_; rintro e w' ⟨rfl, hb⟩; have hsz := hb.size)
    | (go_at_call 15; refine (rcmp_any _ _ ⟨h0, h0'⟩ ⟨h1, h1'⟩ _).mono ?_; rintro e w' ⟨rfl, hb⟩; have hsz := hb.size))
  go_ret
  exact ⟨rfl, (by repeat (first | exact Below.refl _ _ | assumption | refine bstep ?_ (by assumption) | refine Below.drew ?_ | refine Below.alloc ?_ (by first | (simp; done) | (simp; omega) | omega) _ | refine Below.setCell ?_ (by first | (simp; done) | (simp; omega) | omega) _))⟩
theorem low_same (x y : Int) (hx : B8 x) (hy : B8 y) (h : isM x 0 = isM y 0) : bits .and .u8 (bits .xor .u8 x y) 1 = 0 := by
  have hz := xor_byte x y hx.1 hx.2 hy.1 hy.2
  have e := and_bit (bits .xor .u8 x y) 0 hz.1 hz.2 (by omega) (by omega)
  have i := isM_xor x y 0 (by omega) hx.1 hx.2 hy.1 hy.2
  rw [show ((0 : Nat) : Int) = 0 from rfl, h] at i
  rw [i] at e
  simpa using e
set_option maxHeartbeats 4000000 in
theorem sumSteps_walk (a f : Int) (h0 : 0 ≤ a) (h0' : a ≤ 255) (h1 : 0 ≤ f) (h1' : f ≤ 255) (w : World) :
    Calls Try.prog 5 #[.int .u8 a, .int .u8 f] w fun e w' => e = .returned (.bool true) ∧ Below w.heap.size w w' := by
  have x1 := low_same (incF a f) f (mkM_byte ..) ⟨h1, h1'⟩ (of_mkM _ _ _ _ _ _ _ _).2.2.2.2.2.2.2
  have x2 := low_same (decF a f) f (mkM_byte ..) ⟨h1, h1'⟩ (of_mkM _ _ _ _ _ _ _ _).2.2.2.2.2.2.2
  go_enter Try.func5, Try.ntmps5
  go_wp2_with (first
    | (go_at_call 7; refine (sawake_any _).mono ?_; rintro e w' ⟨rfl, hb⟩; have hsz := hb.size)
    | (go_at_call 16; refine (inc_any _ _ ⟨h0, h0'⟩ ⟨h1, h1'⟩ _).mono ?_; rintro e w' ⟨rfl, hb⟩; have hsz := hb.size)
    | (go_at_call 17; refine (rinc_any _ _ ⟨h0, h0'⟩ ⟨h1, h1'⟩ _).mono ?_; rintro e w' ⟨rfl, hb⟩; have hsz := hb.size)
    | (go_at_call 18; refine (dec_any _ _ ⟨h0, h0'⟩ ⟨h1, h1'⟩ _).mono ?_; rintro e w' ⟨rfl, hb⟩; have hsz := hb.size)
    | (go_at_call 19; refine (rdec_any _ _ ⟨h0, h0'⟩ ⟨h1, h1'⟩ _).mono ?_; rintro e w' ⟨rfl, hb⟩; have hsz := hb.size))
  go_ret
  exact ⟨rfl, (by repeat (first | exact Below.refl _ _ | assumption | refine bstep ?_ (by assumption) | refine Below.drew ?_ | refine Below.alloc ?_ (by first | (simp; done) | (simp; omega) | omega) _ | refine Below.setCell ?_ (by first | (simp; done) | (simp; omega) | omega) _))⟩
theorem addF_bit0 (a b : Int) (c : Bool) : isM (addF a b c) 0 = decide (255 < a + b + one c) := (of_mkM _ _ _ _ _ _ _ _).2.2.2.2.2.2.2
theorem subF_bit0 (a b : Int) (c : Bool) : isM (subF a b c) 0 = decide (a - b - one c < 0) := (of_mkM _ _ _ _ _ _ _ _).2.2.2.2.2.2.2
theorem addR_swap (a b : Int) (c : Bool) : addR b a c = addR a b c := by unfold addR; rw [Int.add_comm b a]
theorem addF_swap (a b : Int) (c : Bool) : addF b a c = addF a b c := by
  unfold addF
  rw [addR_swap a b c, Int.add_comm b a, Int.add_comm (b % 16) (a % 16), Int.add_comm (signedM b) (signedM a)]
theorem back_add (a b : Int) (c : Bool) (ha : B8 a) (hb : B8 b) : subR (addR a b c) b c = a := by
  obtain ⟨a0, a1⟩ := ha
  unfold addR subR; omega
theorem back_sub (a b : Int) (c : Bool) (ha : B8 a) (hb : B8 b) : addR (subR a b c) b c = a := by
  obtain ⟨a0, a1⟩ := ha
  unfold addR subR; omega
theorem back_carry (a b : Int) (c : Bool) (ha : B8 a) (hb : B8 b) : isM (subF a b c) 0 = isM (addF (subR a b c) b c) 0 := by
  obtain ⟨a0, a1⟩ := ha
  obtain ⟨b0, b1⟩ := hb
  have key := one_bounds c
  rw [addF_bit0, subF_bit0, Bool.eq_iff_iff]
  unfold subR
  simp
  omega
set_option maxHeartbeats 4000000 in
theorem sumBack_walk (a b : Int) (c : Bool) (h0 : 0 ≤ a) (h0' : a ≤ 255) (h1 : 0 ≤ b) (h1' : b ≤ 255) (w : World) :
    Calls Try.prog 6 #[.int .u8 a, .int .u8 b, .bool c] w fun e w' => e = .returned (.bool true) ∧ Below w.heap.size w w' := by
  have x1 := addR_swap a b c
  have x2 := addF_swap a b c
  have x3 := back_add a b c ⟨h0, h0'⟩ ⟨h1, h1'⟩
  have x4 := back_sub a b c ⟨h0, h0'⟩ ⟨h1, h1'⟩
  have x5 := low_same (subF a b c) (addF (subR a b c) b c) (mkM_byte ..) (mkM_byte ..) (back_carry a b c ⟨h0, h0'⟩ ⟨h1, h1'⟩)
  have r1 := addR_byte a b c
  have r2 := subR_byte a b c
  have r3 : B8 a := ⟨h0, h0'⟩
  have r4 : B8 b := ⟨h1, h1'⟩
  go_enter Try.func6, Try.ntmps6
  go_wp2_with (first
    | (go_at_call 7; refine (sawake_any _).mono ?_; rintro e w' ⟨rfl, hb⟩; have hsz := hb.size)
    | (go_at_call 8; refine (add_any _ _ _ (by assumption) (by assumption) _).mono ?_; rintro e w' ⟨rfl, hb⟩; have hsz := hb.size)
    | (go_at_call 10; refine (sub_any _ _ _ (by assumption) (by assumption) _).mono ?_; rintro e w' ⟨rfl, hb⟩; have hsz := hb.size))
  go_ret
  exact ⟨rfl, (by repeat (first | exact Below.refl _ _ | assumption | refine bstep ?_ (by assumption) | refine Below.drew ?_ | refine Below.alloc ?_ (by first | (simp; done) | (simp; omega) | omega) _ | refine Below.setCell ?_ (by first | (simp; done) | (simp; omega) | omega) _))⟩
end Go.Proofs.Ytejmbdedlegnaaa
