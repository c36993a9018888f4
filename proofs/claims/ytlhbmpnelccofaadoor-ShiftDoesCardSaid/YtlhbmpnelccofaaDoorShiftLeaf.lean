/- Layer 6 (shift): contracts of Do, Acc, Digit, Bit. -/
import Derived.Test.YtlhbmpnelccofaaDoorShiftMove
namespace Go.Proofs.YtlhbmpnelccofaaDoor
open Go.RowKit
set_option linter.unusedVariables false
set_option linter.unusedSimpArgs false

/-- three bytes as an answer -/
abbrev three (r q f : Int) : Value := .tuple #[.int .u8 r, .int .u8 q, .int .u8 f]
set_option maxHeartbeats 4000000 in
theorem do_any (k b f : Int) (hb : B8 b) (hf : B8 f) (w : World) (hd : Courses w) :
    Calls Tryd.prog 8 #[.int .i64 k, .int .u8 b, .int .u8 f] w fun e w' => e = .returned (two (doR k b f) (doF k b f)) ∧ Below w.heap.size w w' := by
  have hB := hb
  clear hb
  by_cases h : 0 ≤ k ∧ k < 8
  · have er : doR k b f = shM k b f := if_pos h
    have ef : doF k b f = evenC (shM k b f) (soutM k b) := if_pos h
    rw [er, ef, ← even_or]
    have hs := shM_byte k b f hB
    obtain ⟨h0, h1⟩ := h
    clear er ef
    generalize hR : shM k b f = R at hs ⊢
    generalize hO : soutM k b = O at ⊢
    have hR := Lib.hid hR
    have hO := Lib.hid hO
    have hm := fun w hd => move_yes k b f h0 h1 hB hf w hd
    rw [hR.out, hO.out] at hm
    clear h0 h1 hR hO
    go_enter Tryd.func8, Tryd.ntmps8
    go_wp2_with (first
      | (go_at_call 16; refine (hm _ hd).mono ?_; rintro e w' ⟨rfl, hb⟩; have hsz := hb.size)
      | (go_at_call 17; refine (evenF_any _ (B8.lo (by assumption)) (B8.hi (by assumption)) _).mono ?_; rintro e w' ⟨rfl, hb⟩; have hsz := hb.size)
      | (go_at_call 18; refine (scarry_any _ _).mono ?_; rintro e w' ⟨rfl, rfl⟩))
    go_ret2
    exact ⟨rfl, (by repeat (first | exact Below.refl _ _ | assumption | refine bstep ?_ (by assumption) | refine Below.drew ?_ | refine Below.alloc ?_ (by first | (simp; done) | (simp; omega) | omega) _ | refine Below.setCell ?_ (by first | (simp; done) | (simp; omega) | omega) _))⟩
  · have er : doR k b f = b := if_neg h
    have ef : doF k b f = f := if_neg h
    rw [er, ef]
    have h' : k < 0 ∨ 8 ≤ k := by omega
    clear h er ef
    have hm := fun w hd => move_no k b f h' hB hf w hd
    clear h'
    go_enter Tryd.func8, Tryd.ntmps8
    go_wp2_with (first
      | (go_at_call 16; refine (hm _ hd).mono ?_; rintro e w' ⟨rfl, hb⟩; have hsz := hb.size))
    go_ret2
    exact ⟨rfl, (by repeat (first | exact Below.refl _ _ | assumption | refine bstep ?_ (by assumption) | refine Below.drew ?_ | refine Below.alloc ?_ (by first | (simp; done) | (simp; omega) | omega) _ | refine Below.setCell ?_ (by first | (simp; done) | (simp; omega) | omega) _))⟩
set_option maxHeartbeats 4000000 in
theorem acc_any (k b f : Int) (hb : B8 b) (hf : B8 f) (w : World) (hd : Courses w) :
    Calls Tryd.prog 10 #[.int .i64 k, .int .u8 b, .int .u8 f] w fun e w' => e = .returned (two (accR k b f) (accF k b f)) ∧ Below w.heap.size w w' := by
  have hB := hb
  clear hb
  by_cases h : 0 ≤ k ∧ k < 4
  · have er : accR k b f = shM k b f := if_pos h
    have ef : accF k b f = linesM f (shM k b f) false false (soutM k b) := if_pos h
    rw [er, ef, ← lines_or]
    have hs := shM_byte k b f hB
    obtain ⟨h0, h1⟩ := h
    clear er ef
    have hm := fun w hd => move_yes k b f h0 (by omega) hB hf w hd
    generalize shM k b f = R at hs hm ⊢
    generalize soutM k b = O at hm ⊢
    have hq := resultM_byte R
    go_enter Tryd.func10, Tryd.ntmps10
    go_wp2_with (first
      | (go_at_call 16; refine (hm _ hd).mono ?_; rintro e w' ⟨rfl, hb⟩; have hsz := hb.size)
      | (go_at_call 23; refine (result_any _ (B8.lo (by assumption)) (B8.hi (by assumption)) _).mono ?_; rintro e w' ⟨rfl, rfl⟩)
      | (go_at_call 22; refine (keep_any _ _ _ (B8.lo (by assumption)) (B8.hi (by assumption)) (B8.lo (by assumption)) (B8.hi (by assumption)) (by omega) (by omega) _).mono ?_; rintro e w' ⟨rfl, rfl⟩)
      | (go_at_call 18; refine (scarry_any _ _).mono ?_; rintro e w' ⟨rfl, rfl⟩))
    go_ret2
    exact ⟨rfl, (by repeat (first | exact Below.refl _ _ | assumption | refine bstep ?_ (by assumption) | refine Below.drew ?_ | refine Below.alloc ?_ (by first | (simp; done) | (simp; omega) | omega) _ | refine Below.setCell ?_ (by first | (simp; done) | (simp; omega) | omega) _))⟩
  · have er : accR k b f = b := if_neg h
    have ef : accF k b f = f := if_neg h
    rw [er, ef]
    clear er ef
    by_cases h2 : 3 < k
    · clear h
      go_enter Tryd.func10, Tryd.ntmps10
      go_wp2_with fail
      go_ret2
      exact ⟨rfl, (by repeat (first | exact Below.refl _ _ | assumption | refine bstep ?_ (by assumption) | refine Below.drew ?_ | refine Below.alloc ?_ (by first | (simp; done) | (simp; omega) | omega) _ | refine Below.setCell ?_ (by first | (simp; done) | (simp; omega) | omega) _))⟩
    · have h3 : k < 0 := by omega
      have hm := fun w hd => move_no k b f (by omega) hB hf w hd
      clear h
      go_enter Tryd.func10, Tryd.ntmps10
      go_wp2_with (first
        | (go_at_call 16; refine (hm _ hd).mono ?_; rintro e w' ⟨rfl, hb⟩; have hsz := hb.size))
      go_ret2
      exact ⟨rfl, (by repeat (first | exact Below.refl _ _ | assumption | refine bstep ?_ (by assumption) | refine Below.drew ?_ | refine Below.alloc ?_ (by first | (simp; done) | (simp; omega) | omega) _ | refine Below.setCell ?_ (by first | (simp; done) | (simp; omega) | omega) _))⟩
set_option maxHeartbeats 4000000 in
theorem digit_any (right : Bool) (a b f : Int) (ha : B8 a) (hb : B8 b) (hf : B8 f) (w : World) :
    Calls Tryd.prog 12 #[.bool right, .int .u8 a, .int .u8 b, .int .u8 f] w fun e w' => e = .returned (three (digA right a b) (digB right a b) (evenC (digA right a b) (isM f 0))) ∧ Below w.heap.size w w' := by
  have hB := hb
  clear hb
  obtain ⟨la, ua⟩ := low4_all a ha
  obtain ⟨lb, _⟩ := low4_all b hB
  have lf := low_all f hf
  have a0 := ha.1
  have a1 := ha.2
  have b0 := hB.1
  have b1 := hB.2
  cases right
  · have j1 : bits .or .u8 (a / 16 * 16) (b / 16) = digA false a b := join4_all _ _ (by omega) (by omega) (by omega) (by omega)
    have j2 : bits .or .u8 (b % 16 * 16) (a % 16) = digB false a b := join4_all _ _ (by omega) (by omega) (by omega) (by omega)
    have hd := digA_byte false a b ha hB
    rw [← even_or]
    go_enter Tryd.func12, Tryd.ntmps12
    go_wp2_with (first
      | (go_at_call 17; refine (evenF_any _ (B8.lo (by assumption)) (B8.hi (by assumption)) _).mono ?_; rintro e w' ⟨rfl, hb⟩; have hsz := hb.size))
    go_ret3
    exact ⟨rfl, (by repeat (first | exact Below.refl _ _ | assumption | refine bstep ?_ (by assumption) | refine Below.drew ?_ | refine Below.alloc ?_ (by first | (simp; done) | (simp; omega) | omega) _ | refine Below.setCell ?_ (by first | (simp; done) | (simp; omega) | omega) _))⟩
  · have j1 : bits .or .u8 (a / 16 * 16) (b % 16) = digA true a b := join4_all _ _ (by omega) (by omega) (by omega) (by omega)
    have j2 : bits .or .u8 (a % 16 * 16) (b / 16) = digB true a b := join4_all _ _ (by omega) (by omega) (by omega) (by omega)
    have hd := digA_byte true a b ha hB
    rw [← even_or]
    go_enter Tryd.func12, Tryd.ntmps12
    go_wp2_with (first
      | (go_at_call 17; refine (evenF_any _ (B8.lo (by assumption)) (B8.hi (by assumption)) _).mono ?_; rintro e w' ⟨rfl, hb⟩; have hsz := hb.size))
    go_ret3
    exact ⟨rfl, (by repeat (first | exact Below.refl _ _ | assumption | refine bstep ?_ (by assumption) | refine Below.drew ?_ | refine Below.alloc ?_ (by first | (simp; done) | (simp; omega) | omega) _ | refine Below.setCell ?_ (by first | (simp; done) | (simp; omega) | omega) _))⟩
set_option maxHeartbeats 4000000 in
theorem bit6_any (n b lines f : Int) (hb : B8 b) (hl : B8 lines) (hf : B8 f) (w : World) :
    Calls Tryd.prog 14 #[.int .i64 n, .int .u8 b, .int .u8 lines, .int .u8 f] w fun e w' => e = .returned (.int .u8 (bitF n b lines f)) ∧ w = w' := by
  have lf := low_all f hf
  have km := bit_math lines f hf
  rw [lf] at km
  have ho := or_byte 16 (one (isM f 0)) (by omega) (by omega) (one_bounds _).1 (by have := (one_bounds (isM f 0)).2; omega)
  have hq : B8 (bits .or .u8 16 (one (isM f 0))) := ho
  clear ho
  cases hi : isM b n
  · have hm := bit_no n b lines f hi
    go_enter Tryd.func14, Tryd.ntmps14
    go_wp2_with (first
      | (go_at_call 27; refine (is_any _ _ (B8.lo (by assumption)) (B8.hi (by assumption)) _).mono ?_; rintro e w' ⟨rfl, rfl⟩)
      | (go_at_call 22; refine (keep_any _ _ _ (B8.lo (by assumption)) (B8.hi (by assumption)) (B8.lo (by assumption)) (B8.hi (by assumption)) (by omega) (by omega) _).mono ?_; rintro e w' ⟨rfl, rfl⟩))
    go_ret
    exact ⟨rfl, rfl⟩
  · by_cases h7 : n = 7
    · subst h7
      have hm := bit_seven b lines f hi
      go_enter Tryd.func14, Tryd.ntmps14
      go_wp2_with (first
        | (go_at_call 27; refine (is_any _ _ (B8.lo (by assumption)) (B8.hi (by assumption)) _).mono ?_; rintro e w' ⟨rfl, rfl⟩)
        | (go_at_call 22; refine (keep_any _ _ _ (B8.lo (by assumption)) (B8.hi (by assumption)) (B8.lo (by assumption)) (B8.hi (by assumption)) (by omega) (by omega) _).mono ?_; rintro e w' ⟨rfl, rfl⟩))
      go_ret
      exact ⟨rfl, rfl⟩
    · have hm := bit_yes n b lines f hi h7
      have n7 : (n == 7) = false := by simpa using h7
      clear h7
      go_enter Tryd.func14, Tryd.ntmps14
      go_wp2_with (first
        | (go_at_call 27; refine (is_any _ _ (B8.lo (by assumption)) (B8.hi (by assumption)) _).mono ?_; rintro e w' ⟨rfl, rfl⟩)
        | (go_at_call 22; refine (keep_any _ _ _ (B8.lo (by assumption)) (B8.hi (by assumption)) (B8.lo (by assumption)) (B8.hi (by assumption)) (by omega) (by omega) _).mono ?_; rintro e w' ⟨rfl, rfl⟩))
      go_ret
      exact ⟨rfl, rfl⟩
end Go.Proofs.YtlhbmpnelccofaaDoor
