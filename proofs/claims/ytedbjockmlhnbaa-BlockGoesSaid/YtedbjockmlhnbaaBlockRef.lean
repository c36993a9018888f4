/- Layer 7 (block): contracts of the document's own answers. -/
import Derived.Test.YtedbjockmlhnbaaBlockMath
import Derived.Test.YtedbjockmlhnbaaSumRef
namespace Go.Proofs.Ytedbjockmlhnbaa
open Go.RowKit
set_option linter.unusedVariables false
set_option linter.unusedSimpArgs false
attribute [local go_sem ↓] ix8_0 ix8_1 ix8_2 ix8_3 ix8_4 ix8_5 ix8_6 ix8_7

set_option maxHeartbeats 4000000 in
theorem rmove_any (a b bc f : Int) (ha : B8 a) (hB : B8 b) (hf : B8 f) (h0 : 0 ≤ bc) (h1 : bc ≤ 65535) (w : World) :
    Calls Try.prog 9 #[.int .u8 a, .int .u8 b, .int .u16 bc, .int .u8 f] w fun e w' => e = .returned (.int .u8 (moveF a b bc f)) ∧ Below w.heap.size w w' := by
  have hn := plusM_byte a b
  have hq : (a + b) % 256 = plusM a b := rfl
  have a0 := ha.1; have a1 := ha.2; have b0 := hB.1; have b1 := hB.2
  go_enter Try.func9, Try.ntmps9
  go_wp2_with (first
    | (go_at_call 21; refine (rof_any _ hf.1 hf.2 _).mono ?_; rintro e w' ⟨rfl, hb⟩; have hsz := hb.size)
    | (go_at_call 22; refine (ris_any _ _ (B8.lo (by assumption)) (B8.hi (by assumption)) _).mono ?_; rintro e w' ⟨rfl, rfl⟩)
    | (go_at_call 23; refine (rmake_any _ _ _ _ _ _ _ _ _).mono ?_; rintro e w' ⟨rfl, hb⟩; have hsz := hb.size))
  go_ret
  exact ⟨rfl, (by repeat (first | exact Below.refl _ _ | assumption | refine bstep ?_ (by assumption) | refine Below.drew ?_ | refine Below.alloc ?_ (by first | (simp; done) | (simp; omega) | omega) _ | refine Below.setCell ?_ (by first | (simp; done) | (simp; omega) | omega) _))⟩
set_option maxHeartbeats 4000000 in
theorem rfind_any (a b bc f : Int) (ha : B8 a) (hB : B8 b) (hf : B8 f) (h0 : 0 ≤ bc) (h1 : bc ≤ 65535) (w : World) :
    Calls Try.prog 11 #[.int .u8 a, .int .u8 b, .int .u16 bc, .int .u8 f] w fun e w' => e = .returned (.int .u8 (findF a b bc f)) ∧ Below w.heap.size w w' := by
  have hn := lessM_byte a b
  have hs := Lib.hid (fun w => rsub_any a b false ha hB w)
  have hg := subF_byte a b false
  have hr := subR_byte a b false
  have r0 := hr.1
  have r1 := hr.2
  have hm : Hid (findF a b bc f = mkM (isM (subF a b false) 7) (isM (subF a b false) 6) (isM (lessM a b) 1) (isM (subF a b false) 4) (isM (lessM a b) 3) (bc != 0) true (isM f 0)) := Lib.hid rfl
  cases hc : isM (subF a b false) 4
  · have hl := lessM_no a b hc
    rw [hc] at hm
    generalize hR : subR a b false = R at *
    generalize hG : subF a b false = G at *
    clear hR hG
    subst hl
    go_enter Try.func11, Try.ntmps11
    go_wp2_with (first
      | (go_at_call 25; refine (hs.out _).mono ?_; rintro e w' ⟨rfl, hb⟩; have hsz := hb.size)
      | (go_at_call 21; refine (rof_any _ (B8.lo (by assumption)) (B8.hi (by assumption)) _).mono ?_; rintro e w' ⟨rfl, hb⟩; have hsz := hb.size)
      | (go_at_call 22; refine (ris_any _ _ (B8.lo (by assumption)) (B8.hi (by assumption)) _).mono ?_; rintro e w' ⟨rfl, rfl⟩)
      | (go_at_call 23; refine (rmake_any _ _ _ _ _ _ _ _ _).mono ?_; rintro e w' ⟨rfl, hb⟩; have hsz := hb.size))
    go_ret
    exact ⟨by rw [hm.out]; rfl, (by repeat (first | exact Below.refl _ _ | assumption | refine bstep ?_ (by assumption) | refine Below.drew ?_ | refine Below.alloc ?_ (by first | (simp; done) | (simp; omega) | omega) _ | refine Below.setCell ?_ (by first | (simp; done) | (simp; omega) | omega) _))⟩
  · have hl := lessM_yes a b hc
    rw [hc] at hm
    generalize hR : subR a b false = R at *
    generalize hG : subF a b false = G at *
    clear hR hG
    go_enter Try.func11, Try.ntmps11
    go_wp2_with (first
      | (go_at_call 25; refine (hs.out _).mono ?_; rintro e w' ⟨rfl, hb⟩; have hsz := hb.size)
      | (go_at_call 21; refine (rof_any _ (B8.lo (by assumption)) (B8.hi (by assumption)) _).mono ?_; rintro e w' ⟨rfl, hb⟩; have hsz := hb.size)
      | (go_at_call 22; refine (ris_any _ _ (B8.lo (by assumption)) (B8.hi (by assumption)) _).mono ?_; rintro e w' ⟨rfl, rfl⟩)
      | (go_at_call 23; refine (rmake_any _ _ _ _ _ _ _ _ _).mono ?_; rintro e w' ⟨rfl, hb⟩; have hsz := hb.size))
    go_ret
    exact ⟨by rw [hm.out]; rfl, (by repeat (first | exact Below.refl _ _ | assumption | refine bstep ?_ (by assumption) | refine Below.drew ?_ | refine Below.alloc ?_ (by first | (simp; done) | (simp; omega) | omega) _ | refine Below.setCell ?_ (by first | (simp; done) | (simp; omega) | omega) _))⟩
/-- bits that differ, of the first ones -/
def diffUpto (a b : Int) : Nat → Int
  | 0 => 0
  | k + 1 => withM (diffUpto a b k) k (xorB (isM a k) (isM b k))
theorem diffUpto_byte (a b : Int) : ∀ k, B8 (diffUpto a b k)
  | 0 => B8.zero
  | k + 1 => (diffUpto_byte a b k).with _ _
theorem diffUpto_all (a b : Int) : diffUpto a b 8 = xorR a b := up_mk _ _ _ _ _ _ _ _
set_option maxHeartbeats 4000000 in
theorem counted_any (b left k : Int) (hB : B8 b) (hL : B8 left) (k0 : 0 ≤ k) (k1 : k ≤ 510) (w : World) :
    Calls Try.prog 27 #[.int .u8 b, .int .u8 left, .int .i64 k] w fun e w' => e = .returned (.int .u8 (passF b k left)) ∧ Below w.heap.size w w' := by
  have hr := resultM_byte left
  have hx := diffUpto_all (k % 8) left
  have h8 : B8 (k % 8) := ⟨by omega, by omega⟩
  go_enter Try.func27, Try.ntmps27
  go_wp2_with (first
    | (go_at_call 35; refine (rresult_any _ (B8.lo (by assumption)) (B8.hi (by assumption)) _).mono ?_; rintro e w' ⟨rfl, hb⟩; have hsz := hb.size)
    | (go_at_call 21; refine (rof_any _ (B8.lo (by assumption)) (B8.hi (by assumption)) _).mono ?_; rintro e w' ⟨rfl, hb⟩; have hsz := hb.size))
  obtain ⟨e7, e6, e5, e4, e3, e2, e1, e0⟩ := resultM_bits left
  rw [e7, e6, e5, e4, e3, e2, e1, e0]
  clear e7 e6 e5 e4 e3 e2 e1 e0
  go_loop [8, 9] (fun p i => ∃ n : Nat, n ≤ 8 ∧ i = .int .i64 n ∧ p = .int .u8 (diffUpto (k % 8) left n)) (fun _ i => 8 - (intOf i).toNat)
  case atStart => exact ⟨0, by omega, rfl, rfl⟩
  case round =>
    obtain ⟨n, hn, rfl, rfl⟩ := hrel
    have hp := diffUpto_byte (k % 8) left n
    by_cases hlt : n < 8
    · have HS := Lib.hid (show diffUpto (k % 8) left (n + 1) = withM (diffUpto (k % 8) left n) n (xorB (isM (k % 8) n) (isM left n)) from rfl)
      go_wp2_with (first
        | (go_at_call 22; refine (ris_any _ _ (B8.lo (by assumption)) (B8.hi (by assumption)) _).mono ?_; rintro e w' ⟨rfl, rfl⟩)
        | (go_at_call 31; refine (rwith_any _ _ _ (B8.lo (by assumption)) (B8.hi (by assumption)) _).mono ?_; rintro e w' ⟨rfl, rfl⟩))
      go_round
      case rel => exact ⟨n + 1, by omega, by go_num, by rw [HS.out]; rfl⟩
      case measure => simp [intOf]; omega
    · obtain rfl : n = 8 := by omega
      rw [hx] at hp ⊢
      go_wp2_with (first
        | (go_at_call 40; refine (reven_any _ (B8.lo (by assumption)) (B8.hi (by assumption)) _).mono ?_; rintro e w' ⟨rfl, rfl⟩)
        | (go_at_call 22; refine (ris_any _ _ (B8.lo (by assumption)) (B8.hi (by assumption)) _).mono ?_; rintro e w' ⟨rfl, rfl⟩)
        | (go_at_call 23; refine (rmake_any _ _ _ _ _ _ _ _ _).mono ?_; rintro e w' ⟨rfl, hb⟩; have hsz := hb.size))
      go_ret
      exact ⟨rfl, (by repeat (first | exact Below.refl _ _ | assumption | refine bstep ?_ (by assumption) | refine Below.drew ?_ | refine Below.alloc ?_ (by first | (simp; done) | (simp; omega) | omega) _ | refine Below.setCell ?_ (by first | (simp; done) | (simp; omega) | omega) _))⟩
theorem tmod256 (y : Int) : -255 ≤ y.tmod 256 ∧ y.tmod 256 ≤ 255 ∧ (y.tmod 256) % 256 = y % 256 := by
  rcases Int.le_total 0 y with h | h
  · rw [Int.tmod_eq_emod_of_nonneg h]; omega
  · obtain ⟨z, rfl⟩ : ∃ z, y = -z := ⟨-y, by omega⟩
    rw [Int.neg_tmod, Int.tmod_eq_emod_of_nonneg (by omega)]; omega
set_option maxHeartbeats 4000000 in
theorem rtake_any (b c left s : Int) (hB : B8 b) (hc : B8 c) (hL : B8 left) (w : World) :
    Calls Try.prog 13 #[.int .u8 b, .int .u8 c, .int .u8 left, .int .i64 s] w fun e w' => e = .returned (.int .u8 (passF b (b + byC c s) left)) ∧ Below w.heap.size w w' := by
  have hr := byC_byte c s
  have r0 := hr.1; have r1 := hr.2
  have b0 := hB.1; have b1 := hB.2; have c0 := hc.1; have c1 := hc.2
  obtain ⟨t0, t1, t2⟩ := tmod256 s
  have hq : ∀ x : Int, -255 ≤ x → x ≤ 510 → x % 256 = byC c s → (x.tmod 256 + 256).tmod 256 = byC c s := by
    intro x x0 x1 hx
    obtain ⟨u0, u1, u2⟩ := tmod256 x
    rw [Int.tmod_eq_emod_of_nonneg (by omega)]; omega
  have hu := hq (c + s.tmod 256) (by omega) (by omega) (by unfold byC; omega)
  obtain ⟨v0, v1, -⟩ := tmod256 (c + s.tmod 256)
  clear hq t2
  go_enter Try.func13, Try.ntmps13
  go_wp2_with (first
    | (go_at_call 27; refine (counted_any _ _ _ (by assumption) (by assumption) (by omega) (by omega) _).mono ?_; rintro e w' ⟨rfl, hb⟩; have hsz := hb.size))
  go_ret
  exact ⟨rfl, (by repeat (first | exact Below.refl _ _ | assumption | refine bstep ?_ (by assumption) | refine Below.drew ?_ | refine Below.alloc ?_ (by first | (simp; done) | (simp; omega) | omega) _ | refine Below.setCell ?_ (by first | (simp; done) | (simp; omega) | omega) _))⟩
set_option maxHeartbeats 4000000 in
theorem rgive_any (b l left : Int) (hB : B8 b) (hl : B8 l) (hL : B8 left) (w : World) :
    Calls Try.prog 15 #[.int .u8 b, .int .u8 l, .int .u8 left] w fun e w' => e = .returned (.int .u8 (passF b (b + l) left)) ∧ Below w.heap.size w w' := by
  have b0 := hB.1; have b1 := hB.2; have l0 := hl.1; have l1 := hl.2
  go_enter Try.func15, Try.ntmps15
  go_wp2_with (first
    | (go_at_call 27; refine (counted_any _ _ _ (by assumption) (by assumption) (by omega) (by omega) _).mono ?_; rintro e w' ⟨rfl, hb⟩; have hsz := hb.size))
  go_ret
  exact ⟨rfl, (by repeat (first | exact Below.refl _ _ | assumption | refine bstep ?_ (by assumption) | refine Below.drew ?_ | refine Below.alloc ?_ (by first | (simp; done) | (simp; omega) | omega) _ | refine Below.setCell ?_ (by first | (simp; done) | (simp; omega) | omega) _))⟩
set_option maxHeartbeats 4000000 in
theorem ragain_any (kind f : Int) (hf : B8 f) (w : World) :
    Calls Try.prog 17 #[.int .i64 kind, .int .u8 f] w fun e w' => e = .returned (.bool (againM kind f)) ∧ Below w.heap.size w w' := by
  by_cases hc : kind < 0 ∨ 4 ≤ kind
  · rw [againM_out kind f hc]
    have n0 : (kind == 0) = false := by simp; omega
    have n1 : (kind == 1) = false := by simp; omega
    have n2 : (kind == 2) = false := by simp; omega
    have n3 : (kind == 3) = false := by simp; omega
    clear hc
    go_enter Try.func17, Try.ntmps17
    go_wp2_with (first
      | (go_at_call 21; refine (rof_any _ (B8.lo (by assumption)) (B8.hi (by assumption)) _).mono ?_; rintro e w' ⟨rfl, hb⟩; have hsz := hb.size))
    go_ret
    exact ⟨rfl, (by repeat (first | exact Below.refl _ _ | assumption | refine bstep ?_ (by assumption) | refine Below.drew ?_ | refine Below.alloc ?_ (by first | (simp; done) | (simp; omega) | omega) _ | refine Below.setCell ?_ (by first | (simp; done) | (simp; omega) | omega) _))⟩
  · obtain rfl | rfl | rfl | rfl : kind = 0 ∨ kind = 1 ∨ kind = 2 ∨ kind = 3 := by omega
    all_goals
      clear hc
      cases hp : isM f 2
      all_goals
        go_enter Try.func17, Try.ntmps17
        go_wp2_with (first
          | (go_at_call 21; refine (rof_any _ (B8.lo (by assumption)) (B8.hi (by assumption)) _).mono ?_; rintro e w' ⟨rfl, hb⟩; have hsz := hb.size))
        go_ret
        exact ⟨ret_bool (by simp [againM, hp]), (by repeat (first | exact Below.refl _ _ | assumption | refine bstep ?_ (by assumption) | refine Below.drew ?_ | refine Below.alloc ?_ (by first | (simp; done) | (simp; omega) | omega) _ | refine Below.setCell ?_ (by first | (simp; done) | (simp; omega) | omega) _))⟩
end Go.Proofs.Ytedbjockmlhnbaa
