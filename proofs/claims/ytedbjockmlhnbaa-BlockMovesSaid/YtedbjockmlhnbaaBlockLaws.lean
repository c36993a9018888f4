/- Layer 7 (block): the walks of the four laws. -/
import Derived.Test.YtedbjockmlhnbaaBlockLeaf
import Derived.Test.YtedbjockmlhnbaaBlockRef
namespace Go.Proofs.Ytedbjockmlhnbaa
open Go.RowKit
set_option linter.unusedVariables false
set_option linter.unusedSimpArgs false

theorem bawake_consts : moveF 1 1 0 0 = 32 ∧ findF 5 5 1 0 = 70 ∧ byC 255 1 = 0 ∧ passF 128 (128 + 0) 0 = 70 ∧ passF 255 (255 + 1) 1 = 19 ∧ againM 1 4 = true ∧ againM 2 64 = false := by decide +kernel
set_option maxHeartbeats 4000000 in
theorem bawake_any (w : World) :
    Calls Try.prog 7 #[] w fun e w' => e = .returned (.bool true) ∧ Below w.heap.size w w' := by
  obtain ⟨c0, c1, c2, c3, c4, c5, c6⟩ := bawake_consts
  have ht := Lib.hid (fun w => take_any 128 255 0 1 ⟨by omega, by omega⟩ ⟨by omega, by omega⟩ ⟨by omega, by omega⟩ w)
  rw [c2, c3] at ht
  go_enter Try.func7, Try.ntmps7
  go_wp2_with (first
    | (go_at_call 8; refine (move_any _ _ _ _ ⟨by omega, by omega⟩ ⟨by omega, by omega⟩ ⟨by omega, by omega⟩ (by omega) (by omega) _).mono ?_; rintro e w' ⟨rfl, hb⟩; have hsz := hb.size)
    | (go_at_call 10; refine (find_any _ _ _ _ ⟨by omega, by omega⟩ ⟨by omega, by omega⟩ ⟨by omega, by omega⟩ (by omega) (by omega) _).mono ?_; rintro e w' ⟨rfl, hb⟩; have hsz := hb.size)
    | (go_at_call 12; refine (ht.out _).mono ?_; rintro e w' ⟨rfl, hb⟩; have hsz := hb.size)
    | (go_at_call 14; refine (give_any _ _ _ ⟨by omega, by omega⟩ ⟨by omega, by omega⟩ ⟨by omega, by omega⟩ _).mono ?_; rintro e w' ⟨rfl, hb⟩; have hsz := hb.size)
    | (go_at_call 16; refine (again_any _ _ ⟨by omega, by omega⟩ _).mono ?_; rintro e w' ⟨rfl, rfl⟩))
  go_ret
  exact ⟨rfl, (by repeat (first | exact Below.refl _ _ | assumption | refine bstep ?_ (by assumption) | refine Below.drew ?_ | refine Below.alloc ?_ (by first | (simp; done) | (simp; omega) | omega) _ | refine Below.setCell ?_ (by first | (simp; done) | (simp; omega) | omega) _))⟩
/-- the high byte of a word, as the machine makes it -/
theorem high16 (x : Int) (h1 : 0 ≤ x) (h1' : x ≤ 65535) : IntKind.u16.wrap (x.tdiv 256) = x / 256 := by
  rw [Int.tdiv_eq_ediv_of_nonneg h1, wraps16 _ (by omega) (by omega)]
set_option maxHeartbeats 4000000 in
theorem blockMoves_walk (a x f : Int) (h0 : 0 ≤ a) (h0' : a ≤ 255) (h1 : 0 ≤ x) (h1' : x ≤ 65535) (h2 : 0 ≤ f) (h2' : f ≤ 255) (w : World) :
    Calls Try.prog 3 #[.int .u8 a, .int .u16 x, .int .u8 f] w fun e w' => e = .returned (.bool true) ∧ Below w.heap.size w w' := by
  have r1 : B8 a := ⟨h0, h0'⟩
  have r2 : B8 f := ⟨h2, h2'⟩
  have r3 : B8 (x / 256) := ⟨by omega, by omega⟩
  have hd := high16 x h1 h1'
  have hd' : x / 256 % 256 = x / 256 := by omega
  go_enter Try.func3, Try.ntmps3
  go_wp2_with (first
    | (go_at_call 7; refine (bawake_any _).mono ?_; rintro e w' ⟨rfl, hb⟩; have hsz := hb.size)
    | (go_at_call 8; refine (move_any _ _ _ _ (by assumption) (by assumption) (by assumption) (by omega) (by omega) _).mono ?_; rintro e w' ⟨rfl, hb⟩; have hsz := hb.size)
    | (go_at_call 9; refine (rmove_any _ _ _ _ (by assumption) (by assumption) (by assumption) (by omega) (by omega) _).mono ?_; rintro e w' ⟨rfl, hb⟩; have hsz := hb.size)
    | (go_at_call 10; refine (find_any _ _ _ _ (by assumption) (by assumption) (by assumption) (by omega) (by omega) _).mono ?_; rintro e w' ⟨rfl, hb⟩; have hsz := hb.size)
    | (go_at_call 11; refine (rfind_any _ _ _ _ (by assumption) (by assumption) (by assumption) (by omega) (by omega) _).mono ?_; rintro e w' ⟨rfl, hb⟩; have hsz := hb.size))
  go_ret
  exact ⟨rfl, (by repeat (first | exact Below.refl _ _ | assumption | refine bstep ?_ (by assumption) | refine Below.drew ?_ | refine Below.alloc ?_ (by first | (simp; done) | (simp; omega) | omega) _ | refine Below.setCell ?_ (by first | (simp; done) | (simp; omega) | omega) _))⟩
set_option maxHeartbeats 4000000 in
theorem blockTakes_walk (b x s : Int) (h0 : 0 ≤ b) (h0' : b ≤ 255) (h1 : 0 ≤ x) (h1' : x ≤ 65535) (w : World) :
    Calls Try.prog 4 #[.int .u8 b, .int .u16 x, .int .i64 s] w fun e w' => e = .returned (.bool true) ∧ Below w.heap.size w w' := by
  have r1 : B8 b := ⟨h0, h0'⟩
  have r3 : B8 (x / 256) := ⟨by omega, by omega⟩
  have hd := high16 x h1 h1'
  have hd' : x / 256 % 256 = x / 256 := by omega
  have r4 : B8 (x % 256) := ⟨by omega, by omega⟩
  go_enter Try.func4, Try.ntmps4
  go_wp2_with (first
    | (go_at_call 7; refine (bawake_any _).mono ?_; rintro e w' ⟨rfl, hb⟩; have hsz := hb.size)
    | (go_at_call 12; refine (take_any _ _ _ _ (by assumption) (by assumption) (by assumption) _).mono ?_; rintro e w' ⟨rfl, hb⟩; have hsz := hb.size)
    | (go_at_call 13; refine (rtake_any _ _ _ _ (by assumption) (by assumption) (by assumption) _).mono ?_; rintro e w' ⟨rfl, hb⟩; have hsz := hb.size)
    | (go_at_call 14; refine (give_any _ _ _ (by assumption) (by assumption) (by assumption) _).mono ?_; rintro e w' ⟨rfl, hb⟩; have hsz := hb.size)
    | (go_at_call 15; refine (rgive_any _ _ _ (by assumption) (by assumption) (by assumption) _).mono ?_; rintro e w' ⟨rfl, hb⟩; have hsz := hb.size))
  go_ret
  exact ⟨rfl, (by repeat (first | exact Below.refl _ _ | assumption | refine bstep ?_ (by assumption) | refine Below.drew ?_ | refine Below.alloc ?_ (by first | (simp; done) | (simp; omega) | omega) _ | refine Below.setCell ?_ (by first | (simp; done) | (simp; omega) | omega) _))⟩
/-! ### how long blocks go on -/
theorem subR_zero (a b : Int) (ha : B8 a) (hb : B8 b) : (subR a b false == 0) = (a == b) := by
  obtain ⟨a0, a1⟩ := ha
  obtain ⟨b0, b1⟩ := hb
  unfold subR one
  rw [Bool.eq_iff_iff]
  simp
  omega
theorem findF_z (a b bc f : Int) (ha : B8 a) (hb : B8 b) : isM (findF a b bc f) 6 = (a == b) := by
  rw [show isM (findF a b bc f) 6 = isM (subF a b false) 6 from (of_mkM _ _ _ _ _ _ _ _).2.1, show isM (subF a b false) 6 = (subR a b false == 0) from (of_mkM _ _ _ _ _ _ _ _).2.1, subR_zero a b ha hb]
theorem findF_p (a b bc f : Int) : isM (findF a b bc f) 2 = (bc != 0) := (of_mkM _ _ _ _ _ _ _ _).2.2.2.2.2.1
theorem findF_n (a b bc f : Int) : isM (findF a b bc f) 1 = true := (of_mkM _ _ _ _ _ _ _ _).2.2.2.2.2.2.1
theorem findF_c (a b bc f : Int) : isM (findF a b bc f) 0 = isM f 0 := (of_mkM _ _ _ _ _ _ _ _).2.2.2.2.2.2.2
theorem passF_z (b k left : Int) : isM (passF b k left) 6 = (left == 0) := (of_mkM _ _ _ _ _ _ _ _).2.1
theorem moveF_p (a b bc f : Int) : isM (moveF a b bc f) 2 = (bc != 0) := (of_mkM _ _ _ _ _ _ _ _).2.2.2.2.2.1
theorem againM_0 (f : Int) : againM 0 f = isM f 2 := by simp [againM]
theorem againM_1 (f : Int) : againM 1 f = (isM f 2 && !isM f 6) := by simp [againM]
theorem againM_2 (f : Int) : againM 2 f = !isM f 6 := by simp [againM]
set_option maxHeartbeats 4000000 in
theorem blockGoes_walk (kind a x : Int) (h0 : 0 ≤ a) (h0' : a ≤ 255) (h1 : 0 ≤ x) (h1' : x ≤ 65535) (w : World) :
    Calls Try.prog 5 #[.int .i64 kind, .int .u8 a, .int .u16 x] w fun e w' => e = .returned (.bool true) ∧ Below w.heap.size w w' := by
  have r1 : B8 a := ⟨h0, h0'⟩
  have r3 : B8 (x / 256) := ⟨by omega, by omega⟩
  have hd := high16 x h1 h1'
  have hd' : x / 256 % 256 = x / 256 := by omega
  have s1 : againM 1 (findF a (x / 256) (x % 4) 0) = ((x % 4 != 0) && !(a == x / 256)) := by
    rw [againM_1, findF_z a (x / 256) (x % 4) 0 r1 r3, findF_p a (x / 256) (x % 4) 0]
  have s2 : againM 2 (passF a (a + byC 7 1) (x / 256)) = !(x / 256 == 0) := by
    rw [againM_2, passF_z a (a + byC 7 1) (x / 256)]
  have s3 : againM 0 (moveF a (x / 256) (x % 4) 255) = (x % 4 != 0) := by
    rw [againM_0, moveF_p a (x / 256) (x % 4) 255]
  have q1 := findF_byte a (x / 256) (x % 4) 0
  have q2 := passF_byte a (a + byC 7 1) (x / 256)
  have q3 := moveF_byte a (x / 256) (x % 4) 255
  have c1 := Lib.hid (fun w => find_any a (x / 256) (x % 4) 0 r1 r3 B8.zero (by omega) (by omega) w)
  have c2 := Lib.hid (fun w => take_any a 7 (x / 256) 1 r1 ⟨by omega, by omega⟩ r3 w)
  have c3 := Lib.hid (fun w => move_any a (x / 256) (x % 4) 255 r1 r3 ⟨by omega, by omega⟩ (by omega) (by omega) w)
  generalize findF a (x / 256) (x % 4) 0 = F at *
  generalize passF a (a + byC 7 1) (x / 256) = T at *
  generalize moveF a (x / 256) (x % 4) 255 = M at *
  cases e1 : (x % 4 == 0) <;> cases e2 : (a == x / 256) <;> cases e3 : (x / 256 == 0)
  all_goals
    have e1' : (x % 4 != 0) = !(x % 4 == 0) := rfl
    have e2' : (a != x / 256) = !(a == x / 256) := rfl
    have e3' : (x / 256 != 0) = !(x / 256 == 0) := rfl
    rw [e1] at e1'
    rw [e2] at e2'
    rw [e3] at e3'
    rw [e1', e2] at s1
    rw [e3] at s2
    rw [e1'] at s3
    go_enter Try.func5, Try.ntmps5
    go_wp2_with (first
      | (go_at_call 7; refine (bawake_any _).mono ?_; rintro e w' ⟨rfl, hb⟩; have hsz := hb.size)
      | (go_at_call 10; refine (c1.out _).mono ?_; rintro e w' ⟨rfl, hb⟩; have hsz := hb.size)
      | (go_at_call 8; refine (c3.out _).mono ?_; rintro e w' ⟨rfl, hb⟩; have hsz := hb.size)
      | (go_at_call 12; refine (c2.out _).mono ?_; rintro e w' ⟨rfl, hb⟩; have hsz := hb.size)
      | (go_at_call 16; refine (again_any _ _ (by assumption) _).mono ?_; rintro e w' ⟨rfl, rfl⟩)
      | (go_at_call 17; refine (ragain_any _ _ (by assumption) _).mono ?_; rintro e w' ⟨rfl, hb⟩; have hsz := hb.size))
    go_ret
    exact ⟨rfl, (by repeat (first | exact Below.refl _ _ | assumption | refine bstep ?_ (by assumption) | refine Below.drew ?_ | refine Below.alloc ?_ (by first | (simp; done) | (simp; omega) | omega) _ | refine Below.setCell ?_ (by first | (simp; done) | (simp; omega) | omega) _))⟩
/-! ### what moving and looking keep -/
theorem mask18 : ∀ x : Fin 256, bits .and .u8 (x.val : Int) 18 = mkM false false false (isM (x.val : Int) 4) false false (isM (x.val : Int) 1) false := by decide +kernel
theorem mask2 : ∀ x : Fin 256, isM (x.val : Int) 1 = true → bits .and .u8 (x.val : Int) 2 = 2 := by decide +kernel
theorem keeps_193 (x y : Int) (hx : B8 x) (hy : B8 y) (h7 : isM x 7 = isM y 7) (h6 : isM x 6 = isM y 6) (h0 : isM x 0 = isM y 0) : bits .and .u8 (bits .xor .u8 x y) 193 = 0 := by
  have q := xor_byte x y hx.1 hx.2 hy.1 hy.2
  have i7 : isM (bits .xor .u8 x y) 7 = false := by
    rw [show isM (bits .xor .u8 x y) 7 = (isM x 7 ^^ isM y 7) from isM_xor x y 7 (by omega) hx.1 hx.2 hy.1 hy.2, h7]; simp
  have i6 : isM (bits .xor .u8 x y) 6 = false := by
    rw [show isM (bits .xor .u8 x y) 6 = (isM x 6 ^^ isM y 6) from isM_xor x y 6 (by omega) hx.1 hx.2 hy.1 hy.2, h6]; simp
  have i0 : isM (bits .xor .u8 x y) 0 = false := by
    rw [show isM (bits .xor .u8 x y) 0 = (isM x 0 ^^ isM y 0) from isM_xor x y 0 (by omega) hx.1 hx.2 hy.1 hy.2, h0]; simp
  rw [byte_all (P := fun x => bits .and .u8 x 193 = mkM (isM x 7) (isM x 6) false false false false false (isM x 0)) mask193 _ q.1 q.2, i7, i6, i0]
  decide +kernel
theorem keeps_1 (x y : Int) (hx : B8 x) (hy : B8 y) (h0 : isM x 0 = isM y 0) : bits .and .u8 (bits .xor .u8 x y) 1 = 0 := by
  have q := xor_byte x y hx.1 hx.2 hy.1 hy.2
  rw [low_all _ q, show isM (bits .xor .u8 x y) 0 = (isM x 0 ^^ isM y 0) from isM_xor x y 0 (by omega) hx.1 hx.2 hy.1 hy.2, h0]
  cases isM y 0 <;> rfl
theorem none_18 (x : Int) (hx : B8 x) (h4 : isM x 4 = false) (h1 : isM x 1 = false) : bits .and .u8 x 18 = 0 := by
  rw [byte_all (P := fun x => bits .and .u8 x 18 = mkM false false false (isM x 4) false false (isM x 1) false) mask18 x hx.1 hx.2, h4, h1]
  decide +kernel
theorem moveF_bits (a b bc f : Int) : isM (moveF a b bc f) 7 = isM f 7 ∧ isM (moveF a b bc f) 6 = isM f 6 ∧ isM (moveF a b bc f) 4 = false ∧ isM (moveF a b bc f) 1 = false ∧ isM (moveF a b bc f) 0 = isM f 0 := by
  obtain ⟨e7, e6, e5, e4, e3, e2, e1, e0⟩ : isM (moveF a b bc f) 7 = _ ∧ isM (moveF a b bc f) 6 = _ ∧ isM (moveF a b bc f) 5 = _ ∧ isM (moveF a b bc f) 4 = _ ∧ isM (moveF a b bc f) 3 = _ ∧ isM (moveF a b bc f) 2 = _ ∧ isM (moveF a b bc f) 1 = _ ∧ isM (moveF a b bc f) 0 = _ := of_mkM _ _ _ _ _ _ _ _
  exact ⟨e7, e6, e4, e1, e0⟩
set_option maxHeartbeats 4000000 in
theorem blockKept_walk (a x f : Int) (h0 : 0 ≤ a) (h0' : a ≤ 255) (h1 : 0 ≤ x) (h1' : x ≤ 65535) (h2 : 0 ≤ f) (h2' : f ≤ 255) (w : World) :
    Calls Try.prog 6 #[.int .u8 a, .int .u16 x, .int .u8 f] w fun e w' => e = .returned (.bool true) ∧ Below w.heap.size w w' := by
  have r1 : B8 a := ⟨h0, h0'⟩
  have r2 : B8 f := ⟨h2, h2'⟩
  have r3 : B8 (x / 256) := ⟨by omega, by omega⟩
  have hd := high16 x h1 h1'
  have hd' : x / 256 % 256 = x / 256 := by omega
  have qm := moveF_byte a (x / 256) x f
  have qn := findF_byte a (x / 256) x f
  obtain ⟨m7, m6, m4, m1, m0⟩ := moveF_bits a (x / 256) x f
  have k1 := keeps_193 _ f qm r2 m7 m6 m0
  have k2 := none_18 _ qm m4 m1
  have k3 := keeps_1 _ f qn r2 (findF_c a (x / 256) x f)
  have k4 := byte_all (P := fun x => isM x 1 = true → bits .and .u8 x 2 = 2) mask2 _ qn.1 qn.2 (findF_n a (x / 256) x f)
  have k5 := (mask_all _ qn.1 qn.2).1
  have k6 := (mask_all _ qm.1 qm.2).2.2.1
  have k7 := (mask_all _ qn.1 qn.2).2.2.1
  rw [findF_z a (x / 256) x f r1 r3] at k5
  rw [moveF_p] at k6
  rw [findF_p] at k7
  clear m7 m6 m4 m1 m0
  have c1 := Lib.hid (fun w => find_any a (x / 256) x f r1 r3 r2 h1 h1' w)
  have c3 := Lib.hid (fun w => move_any a (x / 256) x f r1 r3 r2 h1 h1' w)
  generalize findF a (x / 256) x f = F at *
  generalize moveF a (x / 256) x f = M at *
  cases e1 : (x == 0) <;> cases e2 : (a == x / 256)
  all_goals
    have e1' : (x != 0) = !(x == 0) := rfl
    rw [e1] at e1'
    rw [e2] at k5
    rw [e1'] at k6 k7
    go_enter Try.func6, Try.ntmps6
    go_wp2_with (first
      | (go_at_call 7; refine (bawake_any _).mono ?_; rintro e w' ⟨rfl, hb⟩; have hsz := hb.size)
      | (go_at_call 10; refine (c1.out _).mono ?_; rintro e w' ⟨rfl, hb⟩; have hsz := hb.size)
      | (go_at_call 8; refine (c3.out _).mono ?_; rintro e w' ⟨rfl, hb⟩; have hsz := hb.size))
    go_ret
    exact ⟨rfl, (by repeat (first | exact Below.refl _ _ | assumption | refine bstep ?_ (by assumption) | refine Below.drew ?_ | refine Below.alloc ?_ (by first | (simp; done) | (simp; omega) | omega) _ | refine Below.setCell ?_ (by first | (simp; done) | (simp; omega) | omega) _))⟩
end Go.Proofs.Ytedbjockmlhnbaa
