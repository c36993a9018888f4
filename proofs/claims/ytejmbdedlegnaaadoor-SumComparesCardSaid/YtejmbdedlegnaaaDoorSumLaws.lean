/- Layer 3 (sum): the walks of the five laws. -/
import Derived.Test.YtejmbdedlegnaaaDoorSumRef
namespace Go.Proofs.YtejmbdedlegnaaaDoor
open Go.RowKit
set_option linter.unusedVariables false
set_option linter.unusedSimpArgs false

theorem sawake_consts : addR 127 1 false = 128 ∧ addF 127 1 false = 148 ∧ subR 0 1 false = 255 ∧ subF 0 1 false = 187 ∧ addR 15 1 false = 16 ∧ incF 15 1 = 17 ∧ subR 16 1 false = 15 ∧ decF 16 0 = 26 ∧ cmpF 5 5 = 66 := by decide +kernel
set_option maxHeartbeats 4000000 in
theorem sawake_any (w : World) :
    Calls Tryd.prog 4 #[] w fun e w' => e = .returned (.bool true) ∧ Below w.heap.size w w' := by
  obtain ⟨c0, c1, c2, c3, c4, c5, c6, c7, c8⟩ := sawake_consts
  go_enter Tryd.func4, Tryd.ntmps4
  go_wp2_with (first
    | (go_at_call 7; refine (add_any _ _ _ ⟨by omega, by omega⟩ ⟨by omega, by omega⟩ _).mono ?_; rintro e w' ⟨rfl, hb⟩; have hsz := hb.size)
    | (go_at_call 8; refine (sub_any _ _ _ ⟨by omega, by omega⟩ ⟨by omega, by omega⟩ _).mono ?_; rintro e w' ⟨rfl, hb⟩; have hsz := hb.size)
    | (go_at_call 9; refine (inc_any _ _ ⟨by omega, by omega⟩ ⟨by omega, by omega⟩ _).mono ?_; rintro e w' ⟨rfl, hb⟩; have hsz := hb.size)
    | (go_at_call 10; refine (dec_any _ _ ⟨by omega, by omega⟩ ⟨by omega, by omega⟩ _).mono ?_; rintro e w' ⟨rfl, hb⟩; have hsz := hb.size)
    | (go_at_call 11; refine (neg_any _ ⟨by omega, by omega⟩ _).mono ?_; rintro e w' ⟨rfl, hb⟩; have hsz := hb.size)
    | (go_at_call 5; refine (cmp_any _ _ ⟨by omega, by omega⟩ ⟨by omega, by omega⟩ _).mono ?_; rintro e w' ⟨rfl, hb⟩; have hsz := hb.size))
  go_ret
  exact ⟨rfl, (by repeat (first | exact Below.refl _ _ | assumption | refine bstep ?_ (by assumption) | refine Below.drew ?_ | refine Below.alloc ?_ (by first | (simp; done) | (simp; omega) | omega) _ | refine Below.setCell ?_ (by first | (simp; done) | (simp; omega) | omega) _))⟩
theorem low_same (x y : Int) (hx : B8 x) (hy : B8 y) (h : isM x 0 = isM y 0) : bits .and .u8 (bits .xor .u8 x y) 1 = 0 := by
  have hz := xor_byte x y hx.1 hx.2 hy.1 hy.2
  have e := and_bit (bits .xor .u8 x y) 0 hz.1 hz.2 (by omega) (by omega)
  have i := isM_xor x y 0 (by omega) hx.1 hx.2 hy.1 hy.2
  rw [show ((0 : Nat) : Int) = 0 from rfl, h] at i
  rw [i] at e
  simpa using e
theorem addF_bit0 (a b : Int) (c : Bool) : isM (addF a b c) 0 = decide (255 < a + b + one c) := (of_mkM _ _ _ _ _ _ _ _).2.2.2.2.2.2.2
theorem subF_bit0 (a b : Int) (c : Bool) : isM (subF a b c) 0 = decide (a - b - one c < 0) := (of_mkM _ _ _ _ _ _ _ _).2.2.2.2.2.2.2
theorem addR_swap (a b : Int) (c : Bool) : addR b a c = addR a b c := by unfold addR; rw [Int.add_comm b a]
theorem addF_swap (a b : Int) (c : Bool) : addF b a c = addF a b c := by
  unfold addF
  rw [addR_swap a b c, Int.add_comm b a, Int.add_comm (b % 16) (a % 16), Int.add_comm (signedM b) (signedM a)]
theorem back_add (a b : Int) (c : Bool) (ha : B8 a) (hb : B8 b) : subR (addR a b c) b c = a := by
  obtain ⟨a0, a1⟩ := ha
  unfold addR subR; omega
theorem back_sub (a b : Int) (c : Bool) (ha : B8 a) (hb : B8 b) : addR (subR a b c) b c = a := by
  obtain ⟨a0, a1⟩ := ha
  unfold addR subR; omega
theorem back_carry (a b : Int) (c : Bool) (ha : B8 a) (hb : B8 b) : isM (subF a b c) 0 = isM (addF (subR a b c) b c) 0 := by
  obtain ⟨a0, a1⟩ := ha
  obtain ⟨b0, b1⟩ := hb
  have key := one_bounds c
  rw [addF_bit0, subF_bit0, Bool.eq_iff_iff]
  unfold subR
  simp
  omega
theorem i8_fin : ∀ x : Fin 256, IntKind.i8.wrap (x.val : Int) = signedM (x.val : Int) := by decide +kernel
theorem i8_all (x : Int) (h : B8 x) : IntKind.i8.wrap x = signedM x := byte_all (P := fun x => IntKind.i8.wrap x = signedM x) i8_fin x h.1 h.2
theorem and2_mk : ∀ x0 x1 x2 x3 x4 x5 x7 : Bool, bits .and .u8 (mkM x0 x1 x2 x3 x4 x5 true x7) 2 = 2 := by decide +kernel
theorem sign_fin : ∀ x : Fin 256, isM (x.val : Int) 7 = decide (128 ≤ (x.val : Int)) := by decide +kernel
theorem sign_all (x : Int) (h : B8 x) : isM x 7 = decide (128 ≤ x) := byte_all (P := fun x => isM x 7 = decide (128 ≤ x)) sign_fin x h.1 h.2
theorem cmp_facts (a b : Int) (ha : B8 a) (hb : B8 b) : testM (cmpF a b) 1 = (a == b) ∧ testM (cmpF a b) 3 = decide (a < b) ∧ (testM (cmpF a b) 7 == testM (cmpF a b) 5) = !decide (signedM a < signedM b) := by
  obtain ⟨a0, a1⟩ := ha
  obtain ⟨b0, b1⟩ := hb
  obtain ⟨e0, e1, e2, e3, e4, e5, e6, e7⟩ : isM (cmpF a b) 7 = _ ∧ isM (cmpF a b) 6 = _ ∧ isM (cmpF a b) 5 = _ ∧ isM (cmpF a b) 4 = _ ∧ isM (cmpF a b) 3 = _ ∧ isM (cmpF a b) 2 = _ ∧ isM (cmpF a b) 1 = _ ∧ isM (cmpF a b) 0 = _ := of_mkM _ _ _ _ _ _ _ _
  have t1 : testM (cmpF a b) 1 = isM (cmpF a b) 6 := rfl
  have t3 : testM (cmpF a b) 3 = isM (cmpF a b) 0 := rfl
  have t5 : testM (cmpF a b) 5 = isM (cmpF a b) 2 := rfl
  have t7 : testM (cmpF a b) 7 = isM (cmpF a b) 7 := rfl
  rw [t1, t3, t5, t7, e1, e7, e0, e5, sign_all _ (subR_byte a b false)]
  have o : one false = 0 := rfl
  unfold subR farM signedM
  rw [o]
  refine ⟨?_, ?_, ?_⟩
  · rw [Bool.eq_iff_iff]; simp; omega
  · rw [Bool.eq_iff_iff]; simp; omega
  · split <;> split <;>
    · by_cases x : 128 ≤ (a - b - 0) % 256
      · rw [decide_eq_true x]
        simp at x
        rw [Bool.eq_iff_iff]; simp; omega
      · rw [decide_eq_false x]
        simp at x
        rw [Bool.eq_iff_iff]; simp; omega
set_option maxHeartbeats 4000000 in
theorem sumCompares_walk (a b : Int) (h0 : 0 ≤ a) (h0' : a ≤ 255) (h1 : 0 ≤ b) (h1' : b ≤ 255) (w : World) (hm : Masks w) :
    Calls Tryd.prog 3 #[.int .u8 a, .int .u8 b] w fun e w' => e = .returned (.bool true) ∧ Below w.heap.size w w' := by
  have r3 : B8 a := ⟨h0, h0'⟩
  have r4 : B8 b := ⟨h1, h1'⟩
  have hm := Lib.hid hm
  have i1 := i8_all a r3
  have i2 := i8_all b r4
  obtain ⟨k1, k2, k3⟩ := cmp_facts a b r3 r4
  have k4 : testM (cmpF a a) 1 = true := by rw [(cmp_facts a a r3 r3).1]; simp
  have k5 : bits .and .u8 (cmpF a b) 2 = 2 := and2_mk ..
  have c1 : B8 (cmpF a b) := mkM_byte ..
  have c2 : B8 (cmpF a a) := mkM_byte ..
  go_enter Tryd.func3, Tryd.ntmps3
  go_wp2_with (first
    | (go_at_call 4; refine (sawake_any _).mono ?_; rintro e w' ⟨rfl, hb⟩; have hsz := hb.size)
    | (go_at_call 5; refine (cmp_any _ _ (by assumption) (by assumption) _).mono ?_; rintro e w' ⟨rfl, hb⟩; have hsz := hb.size)
    | (go_at_call 6; refine (test_any _ _ (B8.lo (by assumption)) (B8.hi (by assumption)) _ (hm.out.below (by repeat (first | exact Below.refl _ _ | assumption | refine bstep ?_ (by assumption) | refine Below.drew ?_ | refine Below.alloc ?_ (by first | (simp; done) | (simp; omega) | omega) _ | refine Below.setCell ?_ (by first | (simp; done) | (simp; omega) | omega) _)))).mono ?_; rintro e w' ⟨rfl, rfl⟩))
  go_ret
  exact ⟨rfl, (by repeat (first | exact Below.refl _ _ | assumption | refine bstep ?_ (by assumption) | refine Below.drew ?_ | refine Below.alloc ?_ (by first | (simp; done) | (simp; omega) | omega) _ | refine Below.setCell ?_ (by first | (simp; done) | (simp; omega) | omega) _))⟩
end Go.Proofs.YtejmbdedlegnaaaDoor
