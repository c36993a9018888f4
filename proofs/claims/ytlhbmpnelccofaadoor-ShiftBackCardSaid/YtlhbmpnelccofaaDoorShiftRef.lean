/- Layer 6 (shift): contracts of the document's own answers. -/
import Derived.Test.YtlhbmpnelccofaaDoorShiftLeaf
namespace Go.Proofs.YtlhbmpnelccofaaDoor
open Go.RowKit
set_option linter.unusedVariables false
set_option linter.unusedSimpArgs false
attribute [local go_sem ↓] ix8_0 ix8_1 ix8_2 ix8_3 ix8_4 ix8_5 ix8_6 ix8_7

/-- a byte and a bool as an answer -/
abbrev byteBool (r : Int) (o : Bool) : Value := .tuple #[.int .u8 r, .bool o]
set_option maxHeartbeats 4000000 in
theorem rmoved_left (b : Int) (i : Bool) (hb : B8 b) (w : World) :
    Calls Tryd.prog 32 #[.int .u8 b, .bool true, .bool i] w fun e w' => e = .returned (byteBool (shlM b i) (isM b 7)) ∧ w = w' := by
  have hm := (up_all b hb i).1
  have hm := Lib.hid hm
  have hu : B8 (upTo b) := by unfold upTo; repeat (first | exact B8.zero | apply B8.with)
  go_enter Tryd.func32, Tryd.ntmps32
  go_wp2
  refine wp_loop_rounds 9 ?_
  iterate 9 (rw [rounds_succ]; go_wp2_with (first
    | (go_at_call 25; refine (ris_any _ _ (B8.lo (by assumption)) (B8.hi (by assumption)) _).mono ?_; rintro e w' ⟨rfl, rfl⟩)
    | (go_at_call 20; refine (rwith_any _ _ _ (B8.lo (by repeat (first | exact B8.zero | apply B8.with))) (B8.hi (by repeat (first | exact B8.zero | apply B8.with))) _).mono ?_; rintro e w' ⟨rfl, rfl⟩)))
  go_ret2
  exact ⟨by rw [← hm.out]; rfl, rfl⟩
set_option maxHeartbeats 4000000 in
theorem rmoved_right (b : Int) (i : Bool) (hb : B8 b) (w : World) :
    Calls Tryd.prog 32 #[.int .u8 b, .bool false, .bool i] w fun e w' => e = .returned (byteBool (shrM b i) (isM b 0)) ∧ w = w' := by
  have hm := (up_all b hb i).2
  have hm := Lib.hid hm
  go_enter Tryd.func32, Tryd.ntmps32
  go_wp2
  refine wp_loop_rounds 9 ?_
  iterate 9 (rw [rounds_succ]; go_wp2_with (first
    | (go_at_call 25; refine (ris_any _ _ (B8.lo (by assumption)) (B8.hi (by assumption)) _).mono ?_; rintro e w' ⟨rfl, rfl⟩)
    | (go_at_call 20; refine (rwith_any _ _ _ (B8.lo (by repeat (first | exact B8.zero | apply B8.with))) (B8.hi (by repeat (first | exact B8.zero | apply B8.with))) _).mono ?_; rintro e w' ⟨rfl, rfl⟩)))
  go_ret2
  exact ⟨by rw [← hm.out]; rfl, rfl⟩
set_option maxHeartbeats 4000000 in
theorem rturned_even (k b f : Int) (hk : k = 0 ∨ k = 2 ∨ k = 4 ∨ k = 6) (hb : B8 b) (hf : B8 f) (w : World) :
    Calls Tryd.prog 19 #[.int .i64 k, .int .u8 b, .int .u8 f] w fun e w' => e = .returned (moved (shM k b f) (soutM k b) true) ∧ w = w' := by
  obtain rfl | rfl | rfl | rfl := hk
  all_goals
    go_enter Tryd.func19, Tryd.ntmps19
    go_wp2_with (first
      | (go_at_call 25; refine (ris_any _ _ (B8.lo (by assumption)) (B8.hi (by assumption)) _).mono ?_; rintro e w' ⟨rfl, rfl⟩)
      | (go_at_call 32; refine (rmoved_left _ _ (by assumption) _).mono ?_; rintro e w' ⟨rfl, rfl⟩))
    go_ret3
    exact ⟨rfl, rfl⟩
set_option maxHeartbeats 4000000 in
theorem rturned_odd (k b f : Int) (hk : k = 1 ∨ k = 3 ∨ k = 5 ∨ k = 7) (hb : B8 b) (hf : B8 f) (w : World) :
    Calls Tryd.prog 19 #[.int .i64 k, .int .u8 b, .int .u8 f] w fun e w' => e = .returned (moved (shM k b f) (soutM k b) true) ∧ w = w' := by
  obtain rfl | rfl | rfl | rfl := hk
  all_goals
    go_enter Tryd.func19, Tryd.ntmps19
    go_wp2_with (first
      | (go_at_call 25; refine (ris_any _ _ (B8.lo (by assumption)) (B8.hi (by assumption)) _).mono ?_; rintro e w' ⟨rfl, rfl⟩)
      | (go_at_call 32; refine (rmoved_right _ _ (by assumption) _).mono ?_; rintro e w' ⟨rfl, rfl⟩))
    go_ret3
    exact ⟨rfl, rfl⟩
theorem rturned_yes (k b f : Int) (h0 : 0 ≤ k) (h1 : k < 8) (hb : B8 b) (hf : B8 f) (w : World) :
    Calls Tryd.prog 19 #[.int .i64 k, .int .u8 b, .int .u8 f] w fun e w' => e = .returned (moved (shM k b f) (soutM k b) true) ∧ w = w' := by
  by_cases h : k % 2 = 0
  · exact rturned_even k b f (by omega) hb hf w
  · exact rturned_odd k b f (by omega) hb hf w
set_option maxHeartbeats 4000000 in
theorem rturned_no (k b f : Int) (hk : k < 0 ∨ 8 ≤ k) (hb : B8 b) (hf : B8 f) (w : World) :
    Calls Tryd.prog 19 #[.int .i64 k, .int .u8 b, .int .u8 f] w fun e w' => e = .returned (moved b false false) ∧ w = w' := by
  have n0 : (k == 0) = false := by simp; omega
  have n1 : (k == 1) = false := by simp; omega
  have n2 : (k == 2) = false := by simp; omega
  have n3 : (k == 3) = false := by simp; omega
  have n4 : (k == 4) = false := by simp; omega
  have n5 : (k == 5) = false := by simp; omega
  have n6 : (k == 6) = false := by simp; omega
  have n7 : (k == 7) = false := by simp; omega
  clear hk
  go_enter Tryd.func19, Tryd.ntmps19
  go_wp2
  go_ret3
  exact ⟨rfl, rfl⟩
set_option maxHeartbeats 4000000 in
theorem rdo_any (k b f : Int) (hb : B8 b) (hf : B8 f) (w : World) :
    Calls Tryd.prog 9 #[.int .i64 k, .int .u8 b, .int .u8 f] w fun e w' => e = .returned (two (doR k b f) (doF k b f)) ∧ Below w.heap.size w w' := by
  have hB := hb
  clear hb
  by_cases h : 0 ≤ k ∧ k < 8
  · have er : doR k b f = shM k b f := if_pos h
    have ef : doF k b f = withM (evenFM (shM k b f)) 0 (soutM k b) := if_pos h
    rw [er, ef]
    have hs := shM_byte k b f hB
    obtain ⟨h0, h1⟩ := h
    clear er ef
    have hm := rturned_yes k b f h0 h1 hB hf
    generalize shM k b f = R at hs hm ⊢
    generalize soutM k b = O at hm ⊢
    have he := evenFM_byte R
    clear h0 h1
    go_enter Tryd.func9, Tryd.ntmps9
    go_wp2_with (first
      | (go_at_call 19; refine (hm _).mono ?_; rintro e w' ⟨rfl, rfl⟩)
      | (go_at_call 21; refine (revenF_any _ (B8.lo (by assumption)) (B8.hi (by assumption)) _).mono ?_; rintro e w' ⟨rfl, hb⟩; have hsz := hb.size)
      | (go_at_call 20; refine (rwith_any _ _ _ (B8.lo (by assumption)) (B8.hi (by assumption)) _).mono ?_; rintro e w' ⟨rfl, rfl⟩))
    go_ret2
    exact ⟨rfl, (by repeat (first | exact Below.refl _ _ | assumption | refine bstep ?_ (by assumption) | refine Below.drew ?_ | refine Below.alloc ?_ (by first | (simp; done) | (simp; omega) | omega) _ | refine Below.setCell ?_ (by first | (simp; done) | (simp; omega) | omega) _))⟩
  · have er : doR k b f = b := if_neg h
    have ef : doF k b f = f := if_neg h
    rw [er, ef]
    have hm := rturned_no k b f (by omega) hB hf
    clear h er ef
    go_enter Tryd.func9, Tryd.ntmps9
    go_wp2_with (first
      | (go_at_call 19; refine (hm _).mono ?_; rintro e w' ⟨rfl, rfl⟩))
    go_ret2
    exact ⟨rfl, (by repeat (first | exact Below.refl _ _ | assumption | refine bstep ?_ (by assumption) | refine Below.drew ?_ | refine Below.alloc ?_ (by first | (simp; done) | (simp; omega) | omega) _ | refine Below.setCell ?_ (by first | (simp; done) | (simp; omega) | omega) _))⟩
set_option maxHeartbeats 4000000 in
theorem racc_any (k b f : Int) (hb : B8 b) (hf : B8 f) (w : World) :
    Calls Tryd.prog 11 #[.int .i64 k, .int .u8 b, .int .u8 f] w fun e w' => e = .returned (two (accR k b f) (accF k b f)) ∧ Below w.heap.size w w' := by
  have hB := hb
  clear hb
  by_cases h : 0 ≤ k ∧ k < 4
  · have er : accR k b f = shM k b f := if_pos h
    have ef : accF k b f = linesM f (shM k b f) false false (soutM k b) := if_pos h
    rw [er, ef]
    have hs := shM_byte k b f hB
    obtain ⟨h0, h1⟩ := h
    clear er ef
    have hm := rturned_yes k b f h0 (by omega) hB hf
    generalize shM k b f = R at hs hm ⊢
    generalize soutM k b = O at hm ⊢
    go_enter Tryd.func11, Tryd.ntmps11
    go_wp2_with (first
      | (go_at_call 19; refine (hm _).mono ?_; rintro e w' ⟨rfl, rfl⟩)
      | (go_at_call 24; refine (rof_any _ (B8.lo (by assumption)) (B8.hi (by assumption)) _).mono ?_; rintro e w' ⟨rfl, hb⟩; have hsz := hb.size)
      | (go_at_call 25; refine (ris_any _ _ (B8.lo (by assumption)) (B8.hi (by assumption)) _).mono ?_; rintro e w' ⟨rfl, rfl⟩)
      | (go_at_call 26; refine (rmake_any _ _ _ _ _ _ _ _ _).mono ?_; rintro e w' ⟨rfl, hb⟩; have hsz := hb.size))
    go_ret2
    exact ⟨rfl, (by repeat (first | exact Below.refl _ _ | assumption | refine bstep ?_ (by assumption) | refine Below.drew ?_ | refine Below.alloc ?_ (by first | (simp; done) | (simp; omega) | omega) _ | refine Below.setCell ?_ (by first | (simp; done) | (simp; omega) | omega) _))⟩
  · have er : accR k b f = b := if_neg h
    have ef : accF k b f = f := if_neg h
    rw [er, ef]
    clear er ef
    by_cases h8 : 0 ≤ k ∧ k < 8
    · have hm := rturned_yes k b f h8.1 h8.2 hB hf
      have h3 : 3 < k := by omega
      clear h h8
      go_enter Tryd.func11, Tryd.ntmps11
      go_wp2_with (first
        | (go_at_call 19; refine (hm _).mono ?_; rintro e w' ⟨rfl, rfl⟩))
      go_ret2
      exact ⟨rfl, (by repeat (first | exact Below.refl _ _ | assumption | refine bstep ?_ (by assumption) | refine Below.drew ?_ | refine Below.alloc ?_ (by first | (simp; done) | (simp; omega) | omega) _ | refine Below.setCell ?_ (by first | (simp; done) | (simp; omega) | omega) _))⟩
    · have hm := rturned_no k b f (by omega) hB hf
      clear h h8
      go_enter Tryd.func11, Tryd.ntmps11
      go_wp2_with (first
        | (go_at_call 19; refine (hm _).mono ?_; rintro e w' ⟨rfl, rfl⟩))
      go_ret2
      exact ⟨rfl, (by repeat (first | exact Below.refl _ _ | assumption | refine bstep ?_ (by assumption) | refine Below.drew ?_ | refine Below.alloc ?_ (by first | (simp; done) | (simp; omega) | omega) _ | refine Below.setCell ?_ (by first | (simp; done) | (simp; omega) | omega) _))⟩
set_option maxHeartbeats 4000000 in
theorem rdigit_any (right : Bool) (a b f : Int) (ha : B8 a) (hb : B8 b) (hf : B8 f) (w : World) :
    Calls Tryd.prog 13 #[.bool right, .int .u8 a, .int .u8 b, .int .u8 f] w fun e w' => e = .returned (three (digA right a b) (digB right a b) (evenC (digA right a b) (isM f 0))) ∧ Below w.heap.size w w' := by
  have hB := hb
  clear hb
  have a0 := ha.1
  have a1 := ha.2
  have b0 := hB.1
  have b1 := hB.2
  cases right
  · have hd := digA_byte false a b ha hB
    have he := evenFM_byte (digA false a b)
    go_enter Tryd.func13, Tryd.ntmps13
    go_wp2_with (first
      | (go_at_call 25; refine (ris_any _ _ (B8.lo (by assumption)) (B8.hi (by assumption)) _).mono ?_; rintro e w' ⟨rfl, rfl⟩)
      | (go_at_call 21; refine (revenF_any (digA false a b) (B8.lo (by assumption)) (B8.hi (by assumption)) _).mono ?_; rintro e w' ⟨rfl, hb⟩; have hsz := hb.size)
      | (go_at_call 20; refine (rwith_any _ _ _ (B8.lo (by assumption)) (B8.hi (by assumption)) _).mono ?_; rintro e w' ⟨rfl, rfl⟩))
    go_ret3
    exact ⟨rfl, (by repeat (first | exact Below.refl _ _ | assumption | refine bstep ?_ (by assumption) | refine Below.drew ?_ | refine Below.alloc ?_ (by first | (simp; done) | (simp; omega) | omega) _ | refine Below.setCell ?_ (by first | (simp; done) | (simp; omega) | omega) _))⟩
  · have hd := digA_byte true a b ha hB
    have he := evenFM_byte (digA true a b)
    go_enter Tryd.func13, Tryd.ntmps13
    go_wp2_with (first
      | (go_at_call 25; refine (ris_any _ _ (B8.lo (by assumption)) (B8.hi (by assumption)) _).mono ?_; rintro e w' ⟨rfl, rfl⟩)
      | (go_at_call 21; refine (revenF_any (digA true a b) (B8.lo (by assumption)) (B8.hi (by assumption)) _).mono ?_; rintro e w' ⟨rfl, hb⟩; have hsz := hb.size)
      | (go_at_call 20; refine (rwith_any _ _ _ (B8.lo (by assumption)) (B8.hi (by assumption)) _).mono ?_; rintro e w' ⟨rfl, rfl⟩))
    go_ret3
    exact ⟨rfl, (by repeat (first | exact Below.refl _ _ | assumption | refine bstep ?_ (by assumption) | refine Below.drew ?_ | refine Below.alloc ?_ (by first | (simp; done) | (simp; omega) | omega) _ | refine Below.setCell ?_ (by first | (simp; done) | (simp; omega) | omega) _))⟩
set_option maxHeartbeats 4000000 in
theorem rbit6_any (n b lines f : Int) (hb : B8 b) (hl : B8 lines) (hf : B8 f) (w : World) :
    Calls Tryd.prog 15 #[.int .i64 n, .int .u8 b, .int .u8 lines, .int .u8 f] w fun e w' => e = .returned (.int .u8 (bitF n b lines f)) ∧ Below w.heap.size w w' := by
  have hB := hb
  clear hb
  by_cases h7 : n = 7
  · subst h7
    go_enter Tryd.func15, Tryd.ntmps15
    go_wp2_with (first
      | (go_at_call 24; refine (rof_any _ (B8.lo (by assumption)) (B8.hi (by assumption)) _).mono ?_; rintro e w' ⟨rfl, hb⟩; have hsz := hb.size)
      | (go_at_call 25; refine (ris_any _ _ (B8.lo (by assumption)) (B8.hi (by assumption)) _).mono ?_; rintro e w' ⟨rfl, rfl⟩)
      | (go_at_call 26; refine (rmake_any _ _ _ _ _ _ _ _ _).mono ?_; rintro e w' ⟨rfl, hb⟩; have hsz := hb.size))
    go_ret
    exact ⟨rfl, (by repeat (first | exact Below.refl _ _ | assumption | refine bstep ?_ (by assumption) | refine Below.drew ?_ | refine Below.alloc ?_ (by first | (simp; done) | (simp; omega) | omega) _ | refine Below.setCell ?_ (by first | (simp; done) | (simp; omega) | omega) _))⟩
  · have n7 : (n == 7) = false := by simpa using h7
    have e : bitF n b lines f = mkM false (!isM b n) (isM lines 5) true (isM lines 3) (!isM b n) false (isM f 0) := by unfold bitF; rw [n7]; rfl
    rw [e]
    clear h7 e
    go_enter Tryd.func15, Tryd.ntmps15
    go_wp2_with (first
      | (go_at_call 24; refine (rof_any _ (B8.lo (by assumption)) (B8.hi (by assumption)) _).mono ?_; rintro e w' ⟨rfl, hb⟩; have hsz := hb.size)
      | (go_at_call 25; refine (ris_any _ _ (B8.lo (by assumption)) (B8.hi (by assumption)) _).mono ?_; rintro e w' ⟨rfl, rfl⟩)
      | (go_at_call 26; refine (rmake_any _ _ _ _ _ _ _ _ _).mono ?_; rintro e w' ⟨rfl, hb⟩; have hsz := hb.size))
    go_ret
    exact ⟨rfl, (by repeat (first | exact Below.refl _ _ | assumption | refine bstep ?_ (by assumption) | refine Below.drew ?_ | refine Below.alloc ?_ (by first | (simp; done) | (simp; omega) | omega) _ | refine Below.setCell ?_ (by first | (simp; done) | (simp; omega) | omega) _))⟩
end Go.Proofs.YtlhbmpnelccofaaDoor
