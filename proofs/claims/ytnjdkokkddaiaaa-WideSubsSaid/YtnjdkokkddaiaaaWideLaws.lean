/- Layer 4 (wide): the walks of the four laws. -/
import Derived.Test.YtnjdkokkddaiaaaWideRef
namespace Go.Proofs.Ytnjdkokkddaiaaa
open Go.RowKit
set_option linter.unusedVariables false
set_option linter.unusedSimpArgs false

theorem wawake_consts : adcW 4095 1 false = 4096 ∧ addWF 4095 1 0 = 16 ∧ isM 1 0 = true ∧ sbcW 0 0 true = 65535 ∧ sbcF 0 0 true = 187 ∧ isM 0 0 = false ∧ adcW 32767 1 false = 32768 ∧ adcF 32767 1 false = 148 ∧ moveM 1 (-2) = 65535 ∧ moveM 16 (signedM 254) = 14 := by decide +kernel
set_option maxHeartbeats 4000000 in
theorem wawake_any (w : World) :
    Calls Try.prog 7 #[] w fun e w' => e = .returned (.bool true) ∧ Below w.heap.size w w' := by
  obtain ⟨c0, c1, c2, c3, c4, c5, c6, c7, c8, c9⟩ := wawake_consts
  go_enter Try.func7, Try.ntmps7
  go_wp2_with (first
    | (go_at_call 8; refine (wadd_any _ _ _ ⟨by omega, by omega⟩ ⟨by omega, by omega⟩ ⟨by omega, by omega⟩ _).mono ?_; rintro e w' ⟨rfl, hb⟩; have hsz := hb.size)
    | (go_at_call 10; refine (wadc_any _ _ _ ⟨by omega, by omega⟩ ⟨by omega, by omega⟩ ⟨by omega, by omega⟩ _).mono ?_; rintro e w' ⟨rfl, hb⟩; have hsz := hb.size)
    | (go_at_call 12; refine (wsbc_any _ _ _ ⟨by omega, by omega⟩ ⟨by omega, by omega⟩ ⟨by omega, by omega⟩ _).mono ?_; rintro e w' ⟨rfl, hb⟩; have hsz := hb.size)
    | (go_at_call 14; refine (move_any _ _ ⟨by omega, by omega⟩ _).mono ?_; rintro e w' ⟨rfl, rfl⟩)
    | (go_at_call 16; refine (near_any _ _ ⟨by omega, by omega⟩ ⟨by omega, by omega⟩ _).mono ?_; rintro e w' ⟨rfl, rfl⟩))
  go_ret
  exact ⟨rfl, (by repeat (first | exact Below.refl _ _ | assumption | refine bstep ?_ (by assumption) | refine Below.drew ?_ | refine Below.alloc ?_ (by first | (simp; done) | (simp; omega) | omega) _ | refine Below.setCell ?_ (by first | (simp; done) | (simp; omega) | omega) _))⟩
set_option maxHeartbeats 4000000 in
theorem wideAdds_walk (a b f : Int) (h0 : 0 ≤ a) (h0' : a ≤ 65535) (h1 : 0 ≤ b) (h1' : b ≤ 65535) (h2 : 0 ≤ f) (h2' : f ≤ 255) (w : World) :
    Calls Try.prog 3 #[.int .u16 a, .int .u16 b, .int .u8 f] w fun e w' => e = .returned (.bool true) ∧ Below w.heap.size w w' := by
  have r1 : W16 a := ⟨h0, h0'⟩
  have r2 : W16 b := ⟨h1, h1'⟩
  have r3 : B8 f := ⟨h2, h2'⟩
  go_enter Try.func3, Try.ntmps3
  go_wp2_with (first
    | (go_at_call 7; refine (wawake_any _).mono ?_; rintro e w' ⟨rfl, hb⟩; have hsz := hb.size)
    | (go_at_call 8; refine (wadd_any _ _ _ (by assumption) (by assumption) (by assumption) _).mono ?_; rintro e w' ⟨rfl, hb⟩; have hsz := hb.size)
    | (go_at_call 9; refine (rwadd_any _ _ _ (by assumption) (by assumption) (by assumption) _).mono ?_; rintro e w' ⟨rfl, hb⟩; have hsz := hb.size)
    | (go_at_call 10; refine (wadc_any _ _ _ (by assumption) (by assumption) (by assumption) _).mono ?_; rintro e w' ⟨rfl, hb⟩; have hsz := hb.size)
    | (go_at_call 11; refine (rwadc_any _ _ _ (by assumption) (by assumption) (by assumption) _).mono ?_; rintro e w' ⟨rfl, hb⟩; have hsz := hb.size))
  go_ret
  exact ⟨rfl, (by repeat (first | exact Below.refl _ _ | assumption | refine bstep ?_ (by assumption) | refine Below.drew ?_ | refine Below.alloc ?_ (by first | (simp; done) | (simp; omega) | omega) _ | refine Below.setCell ?_ (by first | (simp; done) | (simp; omega) | omega) _))⟩
set_option maxHeartbeats 4000000 in
theorem wideSubs_walk (a y f : Int) (h0 : 0 ≤ a) (h0' : a ≤ 65535) (h2 : 0 ≤ f) (h2' : f ≤ 255) (w : World) :
    Calls Try.prog 4 #[.int .u16 a, .int .i64 y, .int .u8 f] w fun e w' => e = .returned (.bool true) ∧ Below w.heap.size w w' := by
  have r1 : W16 a := ⟨h0, h0'⟩
  have r2 : W16 (y % 65536) := by unfold W16; omega
  have r3 : B8 f := ⟨h2, h2'⟩
  have r4 : B8 (y % 256) := by unfold B8; omega
  go_enter Try.func4, Try.ntmps4
  go_wp2_with (first
    | (go_at_call 7; refine (wawake_any _).mono ?_; rintro e w' ⟨rfl, hb⟩; have hsz := hb.size)
    | (go_at_call 12; refine (wsbc_any _ _ _ (by assumption) (by assumption) (by assumption) _).mono ?_; rintro e w' ⟨rfl, hb⟩; have hsz := hb.size)
    | (go_at_call 13; refine (rwsbc_any _ _ _ (by assumption) (by assumption) (by assumption) _).mono ?_; rintro e w' ⟨rfl, hb⟩; have hsz := hb.size)
    | (go_at_call 14; refine (move_any _ _ (by assumption) _).mono ?_; rintro e w' ⟨rfl, rfl⟩)
    | (go_at_call 15; refine (rmove_any _ _ (by assumption) _).mono ?_; rintro e w' ⟨rfl, rfl⟩)
    | (go_at_call 16; refine (near_any _ _ (by assumption) (by assumption) _).mono ?_; rintro e w' ⟨rfl, rfl⟩)
    | (go_at_call 17; refine (rnear_any _ _ (by assumption) (by assumption) _).mono ?_; rintro e w' ⟨rfl, rfl⟩))
  go_ret
  exact ⟨rfl, (by repeat (first | exact Below.refl _ _ | assumption | refine bstep ?_ (by assumption) | refine Below.drew ?_ | refine Below.alloc ?_ (by first | (simp; done) | (simp; omega) | omega) _ | refine Below.setCell ?_ (by first | (simp; done) | (simp; omega) | omega) _))⟩
theorem masked_same (x y m : Int) (hx : B8 x) (hy : B8 y) (hm : B8 m) (h : ∀ n : Nat, n < 8 → isM m n = true → isM x n = isM y n) : bits .and .u8 (bits .xor .u8 x y) m = 0 := by
  have hz := xor_byte x y hx.1 hx.2 hy.1 hy.2
  have ha := and_byte _ m hz.1 hz.2 hm.1 hm.2
  refine byte_ext _ _ ha.1 ha.2 (by omega) (by omega) fun n hn => ?_
  rw [isM_and _ _ n hn hz.1 hz.2 hm.1 hm.2, isM_xor _ _ n hn hx.1 hx.2 hy.1 hy.2]
  have z : isM 0 (n : Int) = false := nat8 (fun n => isM 0 (n : Int) = false) (by decide) n hn
  rw [z]
  cases k : isM m n
  · simp
  · rw [h n hn k]; simp
theorem one_fin : ∀ x : Fin 256, (bits .and .u8 (x.val : Int) 1 == 1) = isM (x.val : Int) 0 := by decide +kernel
theorem one_all (x : Int) (h : B8 x) : (bits .and .u8 x 1 == 1) = isM x 0 := byte_all (P := fun x => (bits .and .u8 x 1 == 1) = isM x 0) one_fin x h.1 h.2
theorem z_all (x : Int) (h : B8 x) : (bits .and .u8 x 64 == 0) = !isM x 6 := by
  rw [← (mask_all x h.1 h.2).1, bne, Bool.not_not]
theorem noZ (x0 z u x2 x3 x4 x5 x6 x7 : Bool) : bits .and .u8 (bits .xor .u8 (mkM x0 z x2 x3 x4 x5 x6 x7) (mkM x0 u x2 x3 x4 x5 x6 x7)) 191 = 0 := by
  refine masked_same _ _ _ (mkM_byte ..) (mkM_byte ..) ⟨by omega, by omega⟩ fun n hn k => ?_
  rw [isM_mkM _ _ _ _ _ _ _ _ n hn, isM_mkM _ _ _ _ _ _ _ _ n hn]
  have : n ≠ 6 := by rintro rfl; revert k; decide
  match n, hn, this with
  | 0, _, _ => rfl
  | 1, _, _ => rfl
  | 2, _, _ => rfl
  | 3, _, _ => rfl
  | 4, _, _ => rfl
  | 5, _, _ => rfl
  | 7, _, _ => rfl
theorem adc_noZ (a b : Int) (c : Bool) (ha : W16 a) (hb : W16 b) : bits .and .u8 (bits .xor .u8 (adcF a b c) (addF (a / 256) (b / 256) (isM (addF (a % 256) (b % 256) c) 0))) 191 = 0 := by
  rw [← adc_flags a b c ha hb]
  change bits .and .u8 (bits .xor .u8 (keepM (addF (a / 256) (b / 256) (midA a b c)) _ 64) (addF (a / 256) (b / 256) (midA a b c))) 191 = 0
  generalize bits .and .u8 (addF (a / 256) (b / 256) (midA a b c)) (addF (a % 256) (b % 256) c) = y
  unfold addF
  rw [keepZ]
  exact noZ ..
theorem sbc_noZ (a b : Int) (c : Bool) (ha : W16 a) (hb : W16 b) : bits .and .u8 (bits .xor .u8 (sbcF a b c) (subF (a / 256) (b / 256) (isM (subF (a % 256) (b % 256) c) 0))) 191 = 0 := by
  rw [← sbc_flags a b c ha hb]
  change bits .and .u8 (bits .xor .u8 (keepM (subF (a / 256) (b / 256) (midS a b c)) _ 64) (subF (a / 256) (b / 256) (midS a b c))) 191 = 0
  generalize bits .and .u8 (subF (a / 256) (b / 256) (midS a b c)) (subF (a % 256) (b % 256) c) = y
  unfold subF
  rw [keepZ]
  exact noZ ..
set_option maxHeartbeats 4000000 in
theorem wideBytes_walk (a b f : Int) (h0 : 0 ≤ a) (h0' : a ≤ 65535) (h1 : 0 ≤ b) (h1' : b ≤ 65535) (h2 : 0 ≤ f) (h2' : f ≤ 255) (w : World) :
    Calls Try.prog 5 #[.int .u16 a, .int .u16 b, .int .u8 f] w fun e w' => e = .returned (.bool true) ∧ Below w.heap.size w w' := by
  have r1 : W16 a := ⟨h0, h0'⟩
  have r2 : W16 b := ⟨h1, h1'⟩
  have r3 : B8 f := ⟨h2, h2'⟩
  have p1 := r1.low
  have p2 := r1.high
  have p3 := r2.low
  have p4 := r2.high
  have k0 := one_all f r3
  have k1 := one_all (addF (a % 256) (b % 256) (isM f 0)) (mkM_byte ..)
  have k2 := one_all (subF (a % 256) (b % 256) (isM f 0)) (mkM_byte ..)
  have z1 : (bits .and .u8 (adcF a b (isM f 0)) 64 == 0) = !(adcW a b (isM f 0) == 0) := (z_all _ (mkM_byte ..)).trans (congrArg _ (of_mkM _ _ _ _ _ _ _ _).2.1)
  have z2 : (bits .and .u8 (sbcF a b (isM f 0)) 64 == 0) = !(sbcW a b (isM f 0) == 0) := (z_all _ (mkM_byte ..)).trans (congrArg _ (of_mkM _ _ _ _ _ _ _ _).2.1)
  have x1 := adc_noZ a b (isM f 0) r1 r2
  have x2 := sbc_noZ a b (isM f 0) r1 r2
  have w1 : 256 * addR (a / 256) (b / 256) (isM (addF (a % 256) (b % 256) (isM f 0)) 0) + addR (a % 256) (b % 256) (isM f 0) = adcW a b (isM f 0) := adc_word a b (isM f 0) r1 r2
  have w2 : 256 * subR (a / 256) (b / 256) (isM (subF (a % 256) (b % 256) (isM f 0)) 0) + subR (a % 256) (b % 256) (isM f 0) = sbcW a b (isM f 0) := sbc_word a b (isM f 0) r1 r2
  have q1 := addR_byte (a % 256) (b % 256) (isM f 0)
  have q2 := addR_byte (a / 256) (b / 256) (isM (addF (a % 256) (b % 256) (isM f 0)) 0)
  have q3 := subR_byte (a % 256) (b % 256) (isM f 0)
  have q4 := subR_byte (a / 256) (b / 256) (isM (subF (a % 256) (b % 256) (isM f 0)) 0)
  have z3 : (bits .and .u8 (adcF a b (isM f 0)) 64 != 0) = (adcW a b (isM f 0) == 0) := by rw [bne, z1, Bool.not_not]
  have z4 : (bits .and .u8 (sbcF a b (isM f 0)) 64 != 0) = (sbcW a b (isM f 0) == 0) := by rw [bne, z2, Bool.not_not]
  cases y1 : (adcW a b (isM f 0) == 0) <;> cases y2 : (sbcW a b (isM f 0) == 0)
  all_goals
    rw [y1] at z1 z3
    rw [y2] at z2 z4
    simp only [Bool.not_true, Bool.not_false] at z1 z2
    go_enter Try.func5, Try.ntmps5
    go_wp2_with (first
      | (go_at_call 7; refine (wawake_any _).mono ?_; rintro e w' ⟨rfl, hb⟩; have hsz := hb.size)
      | (go_at_call 10; refine (wadc_any _ _ _ (by assumption) (by assumption) (by assumption) _).mono ?_; rintro e w' ⟨rfl, hb⟩; have hsz := hb.size)
      | (go_at_call 12; refine (wsbc_any _ _ _ (by assumption) (by assumption) (by assumption) _).mono ?_; rintro e w' ⟨rfl, hb⟩; have hsz := hb.size)
      | (go_at_call 19; refine (rlo_any _ (W16.lo (by assumption)) (W16.hi (by assumption)) _).mono ?_; rintro e w' ⟨rfl, rfl⟩)
      | (go_at_call 20; refine (rhi_any _ (W16.lo (by assumption)) (W16.hi (by assumption)) _).mono ?_; rintro e w' ⟨rfl, rfl⟩)
      | (go_at_call 21; refine (rword_any _ _ (B8.lo (by assumption)) (B8.hi (by assumption)) (B8.lo (by assumption)) (B8.hi (by assumption)) _).mono ?_; rintro e w' ⟨rfl, rfl⟩)
      | (go_at_call 18; refine (radd_any _ _ _ (by assumption) (by assumption) _).mono ?_; rintro e w' ⟨rfl, hb⟩; have hsz := hb.size)
      | (go_at_call 22; refine (rsub_any _ _ _ (by assumption) (by assumption) _).mono ?_; rintro e w' ⟨rfl, hb⟩; have hsz := hb.size))
    go_ret
    exact ⟨rfl, (by repeat (first | exact Below.refl _ _ | assumption | refine bstep ?_ (by assumption) | refine Below.drew ?_ | refine Below.alloc ?_ (by first | (simp; done) | (simp; omega) | omega) _ | refine Below.setCell ?_ (by first | (simp; done) | (simp; omega) | omega) _))⟩
theorem and2_no : ∀ x0 x1 x2 x3 x4 x5 x7 : Bool, bits .and .u8 (mkM x0 x1 x2 x3 x4 x5 false x7) 2 = 0 := by decide +kernel
theorem add_keeps (a b f : Int) (hf : B8 f) : bits .and .u8 (bits .xor .u8 (addWF a b f) f) 196 = 0 := by
  refine masked_same _ _ _ (mkM_byte ..) hf ⟨by omega, by omega⟩ fun n hn k => ?_
  unfold addWF
  rw [isM_mkM _ _ _ _ _ _ _ _ n hn]
  have : n = 2 ∨ n = 6 ∨ n = 7 := by
    revert k
    exact nat8 (fun n => isM 196 (n : Int) = true → n = 2 ∨ n = 6 ∨ n = 7) (by decide) n hn
  rcases this with rfl | rfl | rfl <;> rfl
set_option maxHeartbeats 4000000 in
theorem wideBack_walk (a b f : Int) (h0 : 0 ≤ a) (h0' : a ≤ 65535) (h1 : 0 ≤ b) (h1' : b ≤ 65535) (h2 : 0 ≤ f) (h2' : f ≤ 255) (w : World) :
    Calls Try.prog 6 #[.int .u16 a, .int .u16 b, .int .u8 f] w fun e w' => e = .returned (.bool true) ∧ Below w.heap.size w w' := by
  have r1 : W16 a := ⟨h0, h0'⟩
  have r2 : W16 b := ⟨h1, h1'⟩
  have r3 : B8 f := ⟨h2, h2'⟩
  have r4 := adcW_word a b false
  have r5 := adcW_word a b (isM f 0)
  have r6 := moveM_word a b
  have e1 : moveM (adcW a b false) (-b) = a := by unfold moveM adcW one; simp; omega
  have e2 : sbcW (adcW a b (isM f 0)) b (isM f 0) = a := by unfold sbcW adcW; omega
  have e3 : moveM (moveM a b) (-b) = a := by unfold moveM; omega
  have e4 : bits .and .u8 (addWF a b f) 2 = 0 := and2_no ..
  have e5 := add_keeps a b f r3
  go_enter Try.func6, Try.ntmps6
  go_wp2_with (first
    | (go_at_call 7; refine (wawake_any _).mono ?_; rintro e w' ⟨rfl, hb⟩; have hsz := hb.size)
    | (go_at_call 8; refine (wadd_any _ _ _ (by assumption) (by assumption) (by assumption) _).mono ?_; rintro e w' ⟨rfl, hb⟩; have hsz := hb.size)
    | (go_at_call 10; refine (wadc_any _ _ _ (by assumption) (by assumption) (by assumption) _).mono ?_; rintro e w' ⟨rfl, hb⟩; have hsz := hb.size)
    | (go_at_call 12; refine (wsbc_any _ _ _ (by assumption) (by assumption) (by assumption) _).mono ?_; rintro e w' ⟨rfl, hb⟩; have hsz := hb.size)
    | (go_at_call 14; refine (move_any _ _ (by assumption) _).mono ?_; rintro e w' ⟨rfl, rfl⟩))
  go_ret
  exact ⟨rfl, (by repeat (first | exact Below.refl _ _ | assumption | refine bstep ?_ (by assumption) | refine Below.drew ?_ | refine Below.alloc ?_ (by first | (simp; done) | (simp; omega) | omega) _ | refine Below.setCell ?_ (by first | (simp; done) | (simp; omega) | omega) _))⟩
end Go.Proofs.Ytnjdkokkddaiaaa
