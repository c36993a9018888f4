/- Layer 3 (sum): contracts of Sub and what stands on it. -/
import Derived.Test.YtedbjockmlhnbaaSumAdd
namespace Go.Proofs.Ytedbjockmlhnbaa
open Go.RowKit
set_option linter.unusedVariables false
set_option linter.unusedSimpArgs false

theorem join_sub_fin : ∀ b0 b1 b2 b3 b4 b5 b7 : Bool, joinUpto [bits .xor .u8 (mkM b0 b1 b2 b3 b4 b5 false b7) 17, 2] 2 = mkM b0 b1 b2 (!b3) b4 b5 true (!b7) := by decide +kernel
theorem subR_add (a b : Int) (c : Bool) : addR a (255 - b) (!c) = subR a b c := by
  unfold addR subR one
  cases c <;> simp <;> omega
theorem sub_math (a b : Int) (c : Bool) (ha : B8 a) (hb : B8 b) : joinUpto [bits .xor .u8 (addF a (255 - b) (!c)) 17, 2] 2 = subF a b c := by
  obtain ⟨a0, a1⟩ := ha
  obtain ⟨b0, b1⟩ := hb
  unfold addF subF
  rw [subR_add, join_sub_fin]
  have key := one_bounds c
  have e : one (!c) = 1 - one c := by cases c <;> rfl
  rw [e]
  have n4 : (!decide (15 < a % 16 + (255 - b) % 16 + (1 - one c))) = decide (a % 16 - b % 16 - one c < 0) := by
    rw [Bool.eq_iff_iff]; simp; omega
  have n8 : (!decide (255 < a + (255 - b) + (1 - one c))) = decide (a - b - one c < 0) := by
    rw [Bool.eq_iff_iff]; simp; omega
  have n7 : farM (signedM a + signedM (255 - b) + (1 - one c)) = farM (signedM a - signedM b - one c) := by
    congr 1
    unfold signedM
    split <;> split <;> split <;> omega
  rw [n4, n8, n7]
theorem not8_fin : ∀ x : Fin 256, bits .xor .u8 IntKind.u8.max (x.val : Int) = 255 - (x.val : Int) := by decide +kernel
theorem not8 (b : Int) (hb : B8 b) : bits .xor .u8 IntKind.u8.max b = 255 - b :=
  byte_all (P := fun b => bits .xor .u8 IntKind.u8.max b = 255 - b) not8_fin b hb.1 hb.2
set_option maxHeartbeats 4000000 in
theorem sub_any (a b : Int) (c : Bool) (ha : B8 a) (hb : B8 b) (w : World) :
    Calls Try.prog 24 #[.int .u8 a, .int .u8 b, .bool c] w fun e w' => e = .returned (two (subR a b c) (subF a b c)) ∧ Below w.heap.size w w' := by
  have hm := Lib.hid (sub_math a b c ha hb)
  have hr := Lib.hid (subR_add a b c)
  have ha := Lib.hid ha
  have hn : Hid (B8 (255 - b)) := Lib.hid ⟨by have := hb.2; omega, by have := hb.1; omega⟩
  have b0 := hb.1
  have b1 := hb.2
  have hx := not8 b hb
  clear hb
  go_enter Try.func24, Try.ntmps24
  go_wp2_with fail
  refine (add_any _ _ _ ha.out hn.out _).mono ?_
  rintro e w' ⟨rfl, hb⟩
  have hsz := hb.size
  go_wp2_with fail
  refine (join_any _ 0 2 2 [bits .xor .u8 (addF a (255 - b) (!c)) 17, 2] _ (by simp) (by omega) (cells2 _ _ _ _ _)).mono ?_
  rintro e w' ⟨rfl, rfl⟩
  go_wp2_with fail
  go_ret2
  exact ⟨by rw [hm.out, hr.out]; rfl, (by repeat (first | exact Below.refl _ _ | assumption | refine bstep ?_ (by assumption) | refine Below.drew ?_ | refine Below.alloc ?_ (by first | (simp; done) | (simp; omega) | omega) _ | refine Below.setCell ?_ (by first | (simp; done) | (simp; omega) | omega) _))⟩
theorem cmp_math (a b : Int) : keepM (subF a b false) b 40 = cmpF a b := by
  unfold keepM subF cmpF
  generalize isM (subR a b false) 7 = x0
  generalize (subR a b false == 0) = x1
  generalize isM (subR a b false) 5 = x2
  generalize decide (a % 16 - b % 16 - one false < 0) = x3
  generalize isM (subR a b false) 3 = x4
  generalize farM (signedM a - signedM b - one false) = x5
  generalize decide (a - b - one false < 0) = x7
  obtain ⟨h0, h1, h2, h3, h4, h5, h6, h7⟩ := of_mkM x0 x1 x2 x3 x4 x5 true x7
  obtain ⟨z0, z1, z2, z3, z4, z5, z6, z7⟩ : isM 40 0 = false ∧ isM 40 1 = false ∧ isM 40 2 = false ∧ isM 40 3 = true ∧ isM 40 4 = false ∧ isM 40 5 = true ∧ isM 40 6 = false ∧ isM 40 7 = false := by decide +kernel
  rw [h0, h1, h2, h3, h4, h5, h6, h7, z0, z1, z2, z3, z4, z5, z6, z7]
  rfl
theorem keep1 (x0 x1 x2 x3 x4 x5 x6 x7 : Bool) (f : Int) : keepM (mkM x0 x1 x2 x3 x4 x5 x6 x7) f 1 = mkM x0 x1 x2 x3 x4 x5 x6 (isM f 0) := by
  unfold keepM
  obtain ⟨h0, h1, h2, h3, h4, h5, h6, h7⟩ := of_mkM x0 x1 x2 x3 x4 x5 x6 x7
  obtain ⟨z0, z1, z2, z3, z4, z5, z6, z7⟩ : isM 1 0 = true ∧ isM 1 1 = false ∧ isM 1 2 = false ∧ isM 1 3 = false ∧ isM 1 4 = false ∧ isM 1 5 = false ∧ isM 1 6 = false ∧ isM 1 7 = false := by decide +kernel
  rw [h0, h1, h2, h3, h4, h5, h6, h7, z0, z1, z2, z3, z4, z5, z6, z7]
  rfl
end Go.Proofs.Ytedbjockmlhnbaa
