/- Layer 6 (shift): the walks of the four laws. -/
import Derived.Test.YtlhbmpnelccofaaDoorShiftRef
namespace Go.Proofs.YtlhbmpnelccofaaDoor
open Go.RowKit
set_option linter.unusedVariables false
set_option linter.unusedSimpArgs false

theorem sawake_consts : doR 0 129 0 = 3 ∧ doF 0 129 0 = 5 ∧ digA false 18 52 = 19 ∧ digB false 18 52 = 66 ∧ evenC 19 (isM 1 0) = 1 ∧ accR 1 1 64 = 128 ∧ accF 1 1 64 = 65 ∧ bitF 7 128 0 1 = 145 := by decide +kernel
set_option maxHeartbeats 4000000 in
theorem sawake_any (w : World) (hd : Courses w) :
    Calls Tryd.prog 7 #[] w fun e w' => e = .returned (.bool true) ∧ Below w.heap.size w w' := by
  obtain ⟨c0, c1, c2, c3, c4, c5, c6, c7⟩ := sawake_consts
  have hd := Lib.hid hd
  go_enter Tryd.func7, Tryd.ntmps7
  go_wp2_with (first
    | (go_at_call 8; refine (do_any _ _ _ ⟨by omega, by omega⟩ ⟨by omega, by omega⟩ _ (hd.out.below (by repeat (first | exact Below.refl _ _ | assumption | refine bstep ?_ (by assumption) | refine Below.drew ?_ | refine Below.alloc ?_ (by first | (simp; done) | (simp; omega) | omega) _ | refine Below.setCell ?_ (by first | (simp; done) | (simp; omega) | omega) _)))).mono ?_; rintro e w' ⟨rfl, hb⟩; have hsz := hb.size)
    | (go_at_call 10; refine (acc_any _ _ _ ⟨by omega, by omega⟩ ⟨by omega, by omega⟩ _ (hd.out.below (by repeat (first | exact Below.refl _ _ | assumption | refine bstep ?_ (by assumption) | refine Below.drew ?_ | refine Below.alloc ?_ (by first | (simp; done) | (simp; omega) | omega) _ | refine Below.setCell ?_ (by first | (simp; done) | (simp; omega) | omega) _)))).mono ?_; rintro e w' ⟨rfl, hb⟩; have hsz := hb.size)
    | (go_at_call 12; refine (digit_any _ _ _ _ ⟨by omega, by omega⟩ ⟨by omega, by omega⟩ ⟨by omega, by omega⟩ _).mono ?_; rintro e w' ⟨rfl, hb⟩; have hsz := hb.size)
    | (go_at_call 14; refine (bit6_any _ _ _ _ ⟨by omega, by omega⟩ ⟨by omega, by omega⟩ ⟨by omega, by omega⟩ _).mono ?_; rintro e w' ⟨rfl, rfl⟩))
  go_ret
  exact ⟨rfl, (by repeat (first | exact Below.refl _ _ | assumption | refine bstep ?_ (by assumption) | refine Below.drew ?_ | refine Below.alloc ?_ (by first | (simp; done) | (simp; omega) | omega) _ | refine Below.setCell ?_ (by first | (simp; done) | (simp; omega) | omega) _))⟩
set_option maxHeartbeats 4000000 in
theorem shiftDoes_walk (k b f : Int) (h0 : 0 ≤ b) (h0' : b ≤ 255) (h1 : 0 ≤ f) (h1' : f ≤ 255) (w : World) (hd : Courses w) :
    Calls Tryd.prog 3 #[.int .i64 k, .int .u8 b, .int .u8 f] w fun e w' => e = .returned (.bool true) ∧ Below w.heap.size w w' := by
  have r1 : B8 b := ⟨h0, h0'⟩
  have r2 : B8 f := ⟨h1, h1'⟩
  have hd := Lib.hid hd
  go_enter Tryd.func3, Tryd.ntmps3
  go_wp2_with (first
    | (go_at_call 7; refine (sawake_any _ hd.out).mono ?_; rintro e w' ⟨rfl, hb⟩; have hsz := hb.size)
    | (go_at_call 8; refine (do_any _ _ _ (by assumption) (by assumption) _ (hd.out.below (by repeat (first | exact Below.refl _ _ | assumption | refine bstep ?_ (by assumption) | refine Below.drew ?_ | refine Below.alloc ?_ (by first | (simp; done) | (simp; omega) | omega) _ | refine Below.setCell ?_ (by first | (simp; done) | (simp; omega) | omega) _)))).mono ?_; rintro e w' ⟨rfl, hb⟩; have hsz := hb.size)
    | (go_at_call 9; refine (rdo_any _ _ _ (by assumption) (by assumption) _).mono ?_; rintro e w' ⟨rfl, hb⟩; have hsz := hb.size)
    | (go_at_call 10; refine (acc_any _ _ _ (by assumption) (by assumption) _ (hd.out.below (by repeat (first | exact Below.refl _ _ | assumption | refine bstep ?_ (by assumption) | refine Below.drew ?_ | refine Below.alloc ?_ (by first | (simp; done) | (simp; omega) | omega) _ | refine Below.setCell ?_ (by first | (simp; done) | (simp; omega) | omega) _)))).mono ?_; rintro e w' ⟨rfl, hb⟩; have hsz := hb.size)
    | (go_at_call 11; refine (racc_any _ _ _ (by assumption) (by assumption) _).mono ?_; rintro e w' ⟨rfl, hb⟩; have hsz := hb.size))
  go_ret
  exact ⟨rfl, (by repeat (first | exact Below.refl _ _ | assumption | refine bstep ?_ (by assumption) | refine Below.drew ?_ | refine Below.alloc ?_ (by first | (simp; done) | (simp; omega) | omega) _ | refine Below.setCell ?_ (by first | (simp; done) | (simp; omega) | omega) _))⟩
set_option maxHeartbeats 4000000 in
theorem shiftDigits_walk (a b n : Int) (h0 : 0 ≤ a) (h0' : a ≤ 255) (h1 : 0 ≤ b) (h1' : b ≤ 255) (w : World) (hd : Courses w) :
    Calls Tryd.prog 4 #[.int .u8 a, .int .u8 b, .int .i64 n] w fun e w' => e = .returned (.bool true) ∧ Below w.heap.size w w' := by
  have r1 : B8 a := ⟨h0, h0'⟩
  have r2 : B8 b := ⟨h1, h1'⟩
  have hw : IntKind.u8.wrap n = n % 256 := IntKind.wrap_u8 n
  have hf : B8 (n % 256) := ⟨by omega, by omega⟩
  have h7 := and7_i64 n
  generalize n % 256 = f at hw hf
  generalize n % 8 = m at h7
  have hd := Lib.hid hd
  go_enter Tryd.func4, Tryd.ntmps4
  go_wp2_with (first
    | (go_at_call 7; refine (sawake_any _ hd.out).mono ?_; rintro e w' ⟨rfl, hb⟩; have hsz := hb.size)
    | (go_at_call 12; refine (digit_any _ _ _ _ (by assumption) (by assumption) (by assumption) _).mono ?_; rintro e w' ⟨rfl, hb⟩; have hsz := hb.size)
    | (go_at_call 13; refine (rdigit_any _ _ _ _ (by assumption) (by assumption) (by assumption) _).mono ?_; rintro e w' ⟨rfl, hb⟩; have hsz := hb.size)
    | (go_at_call 14; refine (bit6_any _ _ _ _ (by assumption) (by assumption) (by assumption) _).mono ?_; rintro e w' ⟨rfl, rfl⟩)
    | (go_at_call 15; refine (rbit6_any _ _ _ _ (by assumption) (by assumption) (by assumption) _).mono ?_; rintro e w' ⟨rfl, hb⟩; have hsz := hb.size))
  go_ret
  exact ⟨rfl, (by repeat (first | exact Below.refl _ _ | assumption | refine bstep ?_ (by assumption) | refine Below.drew ?_ | refine Below.alloc ?_ (by first | (simp; done) | (simp; omega) | omega) _ | refine Below.setCell ?_ (by first | (simp; done) | (simp; omega) | omega) _))⟩
/-! ### what is turned back -/
theorem back_fin : ∀ (x : Fin 256) (c : Bool), shrM (shlM (x.val : Int) c) (isM (x.val : Int) 7) = (x.val : Int) ∧ isM (shlM (x.val : Int) c) 0 = c := by decide +kernel
theorem back_all (b : Int) (h : B8 b) (c : Bool) : shrM (shlM b c) (isM b 7) = b ∧ isM (shlM b c) 0 = c :=
  byte_all (P := fun b => shrM (shlM b c) (isM b 7) = b ∧ isM (shlM b c) 0 = c) (fun x => back_fin x c) b h.1 h.2
theorem with_zero : ∀ (x : Fin 256) (c : Bool), isM (withM (x.val : Int) 0 c) 0 = c := by decide +kernel
theorem evenC_low (r : Int) (c : Bool) : isM (withM (evenFM r) 0 c) 0 = c :=
  byte_all (P := fun x => isM (withM x 0 c) 0 = c) (fun x => with_zero x c) (evenFM r) (evenFM_byte r).1 (evenFM_byte r).2
theorem doF_low (k b f : Int) (h : 0 ≤ k ∧ k < 8) : isM (doF k b f) 0 = soutM k b := by
  unfold doF
  rw [if_pos h, evenC_low]
theorem back_rlc (b f g : Int) (h : B8 b) : doR 1 (doR 0 b f) g = b := by
  show shrM (shlM b (isM b 7)) (isM (shlM b (isM b 7)) 0) = b
  rw [(back_all b h _).2, (back_all b h _).1]
theorem back_rl (b f : Int) (h : B8 b) : doR 3 (doR 2 b f) (doF 2 b f) = b := by
  show shrM (shlM b (isM f 0)) (isM (doF 2 b f) 0) = b
  rw [doF_low 2 b f (by omega)]
  exact (back_all b h _).1
/-- two bytes with the same bits of a mask -/
theorem same_low (x y : Int) (hx : B8 x) (hy : B8 y) (h : isM x 0 = isM y 0) : bits .and .u8 (bits .xor .u8 x y) 1 = 0 := by
  have q := xor_byte x y hx.1 hx.2 hy.1 hy.2
  have i := isM_xor x y 0 (by omega) hx.1 hx.2 hy.1 hy.2
  rw [low_all _ q, show isM (bits .xor .u8 x y) 0 = (isM x 0 ^^ isM y 0) from by simpa using i, h]
  cases isM y 0 <;> rfl
theorem mask196 : ∀ n : Fin 8, isM 196 (n.val : Int) = decide (n.val = 7 ∨ n.val = 6 ∨ n.val = 2) := by decide +kernel
theorem same_196 (x y : Int) (hx : B8 x) (hy : B8 y) (h7 : isM x 7 = isM y 7) (h6 : isM x 6 = isM y 6) (h2 : isM x 2 = isM y 2) : bits .and .u8 (bits .xor .u8 x y) 196 = 0 := by
  have q := xor_byte x y hx.1 hx.2 hy.1 hy.2
  have r := and_byte _ 196 q.1 q.2 (by omega) (by omega)
  refine byte_ext _ 0 r.1 r.2 (by omega) (by omega) fun n hn => ?_
  rw [isM_and _ _ n hn q.1 q.2 (by omega) (by omega), isM_xor x y n hn hx.1 hx.2 hy.1 hy.2]
  refine nat8 (fun n => ((isM x (n : Int) ^^ isM y (n : Int)) && isM 196 (n : Int)) = isM 0 (n : Int)) ?_ n hn
  have m0 := mask196 0; have m1 := mask196 1; have m2 := mask196 2; have m3 := mask196 3; have m4 := mask196 4; have m5 := mask196 5; have m6 := mask196 6; have m7 := mask196 7
  refine ⟨?_, ?_, ?_, ?_, ?_, ?_, ?_, ?_⟩
  · exact (congrArg _ m0).trans (by cases (isM x 0 ^^ isM y 0) <;> decide +kernel)
  · exact (congrArg _ m1).trans (by cases (isM x 1 ^^ isM y 1) <;> decide +kernel)
  · show ((isM x 2 ^^ isM y 2) && _) = _
    rw [h2]; cases isM y 2 <;> decide +kernel
  · exact (congrArg _ m3).trans (by cases (isM x 3 ^^ isM y 3) <;> decide +kernel)
  · exact (congrArg _ m4).trans (by cases (isM x 4 ^^ isM y 4) <;> decide +kernel)
  · exact (congrArg _ m5).trans (by cases (isM x 5 ^^ isM y 5) <;> decide +kernel)
  · show ((isM x 6 ^^ isM y 6) && _) = _
    rw [h6]; cases isM y 6 <;> decide +kernel
  · show ((isM x 7 ^^ isM y 7) && _) = _
    rw [h7]; cases isM y 7 <;> decide +kernel
theorem back_dig (a b : Int) (ha : B8 a) (hb : B8 b) : digA true (digA false a b) (digB false a b) = a ∧ digB true (digA false a b) (digB false a b) = b := by
  have a0 := ha.1; have a1 := ha.2; have b0 := hb.1; have b1 := hb.2
  simp only [digA, digB, if_true, if_false, Bool.false_eq_true]
  omega
theorem accR_2 (b f : Int) : accR 2 b f = doR 2 b f := rfl
theorem accF_2 (b f : Int) : isM (accF 2 b f) 7 = isM f 7 ∧ isM (accF 2 b f) 6 = isM f 6 ∧ isM (accF 2 b f) 2 = isM f 2 ∧ isM (accF 2 b f) 0 = isM b 7 := by
  obtain ⟨e7, e6, e5, e4, e3, e2, e1, e0⟩ : isM (accF 2 b f) 7 = _ ∧ isM (accF 2 b f) 6 = _ ∧ isM (accF 2 b f) 5 = _ ∧ isM (accF 2 b f) 4 = _ ∧ isM (accF 2 b f) 3 = _ ∧ isM (accF 2 b f) 2 = _ ∧ isM (accF 2 b f) 1 = _ ∧ isM (accF 2 b f) 0 = _ := of_mkM _ _ _ _ _ _ _ _
  exact ⟨e7, e6, e2, e0⟩
set_option maxHeartbeats 4000000 in
theorem shiftBack_walk (a b f : Int) (h0 : 0 ≤ a) (h0' : a ≤ 255) (h1 : 0 ≤ b) (h1' : b ≤ 255) (h2 : 0 ≤ f) (h2' : f ≤ 255) (w : World) (hd : Courses w) :
    Calls Tryd.prog 5 #[.int .u8 a, .int .u8 b, .int .u8 f] w fun e w' => e = .returned (.bool true) ∧ Below w.heap.size w w' := by
  have r1 : B8 a := ⟨h0, h0'⟩
  have r2 : B8 b := ⟨h1, h1'⟩
  have r3 : B8 f := ⟨h2, h2'⟩
  have e1 := back_rlc b f (doF 0 b f) r2
  have e2 := back_rl b f r2
  have e3 : bits .and .u8 (bits .xor .u8 (doF 3 (doR 2 b f) (doF 2 b f)) f) 1 = 0 :=
    same_low _ _ (doF_byte 3 _ _ (doF_byte 2 b f r3)) r3 (by rw [doF_low 3 _ _ (by omega)]; exact (back_all b r2 _).2)
  obtain ⟨e4, e5⟩ := back_dig a b r1 r2
  obtain ⟨m7, m6, m2, m0⟩ := accF_2 b f
  have rm := accF_byte 2 b f r3
  have e6 : bits .and .u8 (bits .xor .u8 (accF 2 b f) (doF 2 b f)) 1 = 0 :=
    same_low _ _ rm (doF_byte 2 b f r3) (by rw [m0, doF_low 2 _ _ (by omega)]; rfl)
  have e7 := same_196 _ _ rm r3 m7 m6 m2
  have e8 := accR_2 b f
  have q1 := doR_byte 0 b f r2
  have q2 := doF_byte 0 b f r3
  have q3 := doR_byte 2 b f r2
  have q4 := doF_byte 2 b f r3
  have q5 := digA_byte false a b r1 r2
  have q6 := digB_byte false a b r1 r2
  have q7 := evenC_byte (digA false a b) (isM f 0)
  clear m7 m6 m2 m0
  have hd := Lib.hid hd
  go_enter Tryd.func5, Tryd.ntmps5
  go_wp2_with (first
    | (go_at_call 7; refine (sawake_any _ hd.out).mono ?_; rintro e w' ⟨rfl, hb⟩; have hsz := hb.size)
    | (go_at_call 8; refine (do_any _ _ _ (by assumption) (by assumption) _ (hd.out.below (by repeat (first | exact Below.refl _ _ | assumption | refine bstep ?_ (by assumption) | refine Below.drew ?_ | refine Below.alloc ?_ (by first | (simp; done) | (simp; omega) | omega) _ | refine Below.setCell ?_ (by first | (simp; done) | (simp; omega) | omega) _)))).mono ?_; rintro e w' ⟨rfl, hb⟩; have hsz := hb.size)
    | (go_at_call 10; refine (acc_any _ _ _ (by assumption) (by assumption) _ (hd.out.below (by repeat (first | exact Below.refl _ _ | assumption | refine bstep ?_ (by assumption) | refine Below.drew ?_ | refine Below.alloc ?_ (by first | (simp; done) | (simp; omega) | omega) _ | refine Below.setCell ?_ (by first | (simp; done) | (simp; omega) | omega) _)))).mono ?_; rintro e w' ⟨rfl, hb⟩; have hsz := hb.size)
    | (go_at_call 12; refine (digit_any _ _ _ _ (by assumption) (by assumption) (by assumption) _).mono ?_; rintro e w' ⟨rfl, hb⟩; have hsz := hb.size))
  go_ret
  exact ⟨rfl, (by repeat (first | exact Below.refl _ _ | assumption | refine bstep ?_ (by assumption) | refine Below.drew ?_ | refine Below.alloc ?_ (by first | (simp; done) | (simp; omega) | omega) _ | refine Below.setCell ?_ (by first | (simp; done) | (simp; omega) | omega) _))⟩
/-! ### what is turned round -/
def rlcIt (b : Int) : Nat → Int
  | 0 => b
  | k + 1 => shlM (rlcIt b k) (isM (rlcIt b k) 7)
theorem rlcIt_byte (b : Int) (h : B8 b) : ∀ k, B8 (rlcIt b k)
  | 0 => h
  | k + 1 => by
    have q := rlcIt_byte b h k
    unfold rlcIt shlM
    exact B8.with (turnM_byte _ 1 q.1 q.2) _ _
theorem dig3 (a b : Int) (ha : B8 a) (hb : B8 b) :
    digA true (digA true (digA true a b) (digB true a b)) (digB true (digA true a b) (digB true a b)) = a ∧ digB true (digA true (digA true a b) (digB true a b)) (digB true (digA true a b) (digB true a b)) = b := by
  have a0 := ha.1; have a1 := ha.2; have b0 := hb.1; have b1 := hb.2
  obtain ⟨u, v, hu, hv, rfl⟩ : ∃ u v : Int, (0 ≤ u ∧ u < 16) ∧ (0 ≤ v ∧ v < 16) ∧ a = u * 16 + v := ⟨a / 16, a % 16, by omega, by omega, by omega⟩
  obtain ⟨x, y, hx, hy, rfl⟩ : ∃ x y : Int, (0 ≤ x ∧ x < 16) ∧ (0 ≤ y ∧ y < 16) ∧ b = x * 16 + y := ⟨b / 16, b % 16, by omega, by omega, by omega⟩
  have st : ∀ u v x y : Int, (0 ≤ u ∧ u < 16) → (0 ≤ v ∧ v < 16) → (0 ≤ x ∧ x < 16) → (0 ≤ y ∧ y < 16) → digA true (u * 16 + v) (x * 16 + y) = u * 16 + y ∧ digB true (u * 16 + v) (x * 16 + y) = v * 16 + x := by
    intro u v x y _ _ _ _
    simp only [digA, digB, if_true]
    omega
  rw [(st u v x y hu hv hx hy).1, (st u v x y hu hv hx hy).2, (st u y v x hu hy hv hx).1, (st u y v x hu hy hv hx).2, (st u x y v hu hx hy hv).1, (st u x y v hu hx hy hv).2]
  exact ⟨rfl, rfl⟩
theorem rlc_fin : ∀ x : Fin 256, rlcIt (x.val : Int) 8 = (x.val : Int) := by decide +kernel
theorem rlc_all (b : Int) (h : B8 b) : rlcIt b 8 = b := byte_all (P := fun b => rlcIt b 8 = b) rlc_fin b h.1 h.2
def rrIt (b f : Int) : Nat → Int × Int
  | 0 => (b, f)
  | k + 1 => (doR 3 (rrIt b f k).1 (rrIt b f k).2, doF 3 (rrIt b f k).1 (rrIt b f k).2)
theorem rrIt_byte (b f : Int) (hb : B8 b) (hf : B8 f) : ∀ k, B8 (rrIt b f k).1 ∧ B8 (rrIt b f k).2
  | 0 => ⟨hb, hf⟩
  | k + 1 => ⟨doR_byte 3 _ _ (rrIt_byte b f hb hf k).1, doF_byte 3 _ _ (rrIt_byte b f hb hf k).2⟩
def rrC (b : Int) (c : Bool) : Nat → Int × Bool
  | 0 => (b, c)
  | k + 1 => (shrM (rrC b c k).1 (rrC b c k).2, isM (rrC b c k).1 0)
theorem rrC_all (b f : Int) : ∀ k, (rrIt b f k).1 = (rrC b (isM f 0) k).1 ∧ isM (rrIt b f k).2 0 = (rrC b (isM f 0) k).2
  | 0 => ⟨rfl, rfl⟩
  | k + 1 => by
    obtain ⟨i, j⟩ := rrC_all b f k
    refine ⟨?_, ?_⟩
    · show shrM (rrIt b f k).1 (isM (rrIt b f k).2 0) = shrM (rrC b (isM f 0) k).1 (rrC b (isM f 0) k).2
      rw [i, j]
    · show isM (doF 3 (rrIt b f k).1 (rrIt b f k).2) 0 = isM (rrC b (isM f 0) k).1 0
      rw [doF_low 3 _ _ (by omega), i]; rfl
theorem rr_fin : ∀ (x : Fin 256) (c : Bool), rrC (x.val : Int) c 9 = ((x.val : Int), c) := by decide +kernel
theorem rr_all (b f : Int) (hb : B8 b) (hf : B8 f) : (rrIt b f 9).1 = b ∧ isM (rrIt b f 9).2 0 = isM f 0 := by
  obtain ⟨i, j⟩ := rrC_all b f 9
  have e : rrC b (isM f 0) 9 = (b, isM f 0) := byte_all (P := fun b => rrC b (isM f 0) 9 = (b, isM f 0)) (fun x => rr_fin x _) b hb.1 hb.2
  rw [i, j, e]
  exact ⟨rfl, rfl⟩
set_option maxHeartbeats 4000000 in
theorem shiftRound_walk (a b f : Int) (h0 : 0 ≤ a) (h0' : a ≤ 255) (h1 : 0 ≤ b) (h1' : b ≤ 255) (h2 : 0 ≤ f) (h2' : f ≤ 255) (w : World) (hd : Courses w) :
    Calls Tryd.prog 6 #[.int .u8 a, .int .u8 b, .int .u8 f] w fun e w' => e = .returned (.bool true) ∧ Below w.heap.size w w' := by
  have r1 : B8 a := ⟨h0, h0'⟩
  have r2 : B8 b := ⟨h1, h1'⟩
  have r3 : B8 f := ⟨h2, h2'⟩
  have hd := Lib.hid hd
  go_enter Tryd.func6, Tryd.ntmps6
  go_wp2_with (first
    | (go_at_call 7; refine (sawake_any _ hd.out).mono ?_; rintro e w' ⟨rfl, hb⟩; have hsz := hb.size))
  have hB0 := hb
  clear hb hsz
  go_loopw [8, 9, 10] (fun x g i wr => ∃ (k : Nat) (G : Int), k ≤ 8 ∧ B8 G ∧ x = .int .u8 (rlcIt b k) ∧ g = .int .u8 G ∧ i = .int .i64 k ∧ Below w.heap.size w wr) (fun _ _ i _ => 8 - (intOf i).toNat)
  case atStart => exact ⟨0, f, by omega, r3, rfl, rfl, rfl, (by repeat (first | exact Below.refl _ _ | assumption | refine bstep ?_ (by assumption) | refine Below.drew ?_ | refine Below.alloc ?_ (by first | (simp; done) | (simp; omega) | omega) _ | refine Below.setCell ?_ (by first | (simp; done) | (simp; omega) | omega) _))⟩
  case round =>
    obtain ⟨k, G, hk, hG, rfl, rfl, rfl, hw⟩ := hrel
    clear hB0
    have hx := rlcIt_byte b r2 k
    by_cases hlt : k < 8
    · go_wp2_with (first
        | (go_at_call 8; refine (do_any _ _ _ (by assumption) (by assumption) _ (hd.out.below (by repeat (first | exact Below.refl _ _ | assumption | refine bstep ?_ (by assumption) | refine Below.drew ?_ | refine Below.alloc ?_ (by first | (simp; done) | (simp; omega) | omega) _ | refine Below.setCell ?_ (by first | (simp; done) | (simp; omega) | omega) _)))).mono ?_; rintro e w' ⟨rfl, hb⟩; have hsz := hb.size))
      go_roundw
      case rel => exact ⟨k + 1, doF 0 (rlcIt b k) G, by omega, doF_byte _ _ _ hG, rfl, rfl, by go_num, (by repeat (first | exact Below.refl _ _ | assumption | refine bstep ?_ (by assumption) | refine Below.drew ?_ | refine Below.alloc ?_ (by first | (simp; done) | (simp; omega) | omega) _ | refine Below.setCell ?_ (by first | (simp; done) | (simp; omega) | omega) _))⟩
      case measure => simp [intOf]; omega
    · obtain rfl : k = 8 := by omega
      have e8 := rlc_all b r2
      clear hlt hk hx
      rw [e8]
      clear e8
      simp only [show ((8 : Nat) : Int) = 8 from rfl]
      go_wp2
      go_loopw [11, 12, 13] (fun x g i wr => ∃ k : Nat, k ≤ 9 ∧ x = .int .u8 (rrIt b f k).1 ∧ g = .int .u8 (rrIt b f k).2 ∧ i = .int .i64 k ∧ Below w.heap.size w wr) (fun _ _ i _ => 9 - (intOf i).toNat)
      case atStart => exact ⟨0, by omega, rfl, rfl, rfl, (by repeat (first | exact Below.refl _ _ | assumption | refine bstep ?_ (by assumption) | refine Below.drew ?_ | refine Below.alloc ?_ (by first | (simp; done) | (simp; omega) | omega) _ | refine Below.setCell ?_ (by first | (simp; done) | (simp; omega) | omega) _))⟩
      case round =>
        obtain ⟨k, hk, rfl, rfl, rfl, hv⟩ := hrel
        clear hw
        obtain ⟨p1, p2⟩ := rrIt_byte b f r2 r3 k
        by_cases hlt : k < 9
        · go_wp2_with (first
            | (go_at_call 8; refine (do_any _ _ _ (by assumption) (by assumption) _ (hd.out.below (by repeat (first | exact Below.refl _ _ | assumption | refine bstep ?_ (by assumption) | refine Below.drew ?_ | refine Below.alloc ?_ (by first | (simp; done) | (simp; omega) | omega) _ | refine Below.setCell ?_ (by first | (simp; done) | (simp; omega) | omega) _)))).mono ?_; rintro e w' ⟨rfl, hb⟩; have hsz := hb.size))
          go_roundw
          case rel => exact ⟨k + 1, by omega, rfl, rfl, by go_num, (by repeat (first | exact Below.refl _ _ | assumption | refine bstep ?_ (by assumption) | refine Below.drew ?_ | refine Below.alloc ?_ (by first | (simp; done) | (simp; omega) | omega) _ | refine Below.setCell ?_ (by first | (simp; done) | (simp; omega) | omega) _))⟩
          case measure => simp [intOf]; omega
        · obtain rfl : k = 9 := by omega
          obtain ⟨e9, e0⟩ := rr_all b f r2 r3
          have e1 := same_low _ _ p2 r3 e0
          obtain ⟨t1, t2⟩ := dig3 a b r1 r2
          have s1 := digA_byte true a b r1 r2
          have s2 := digB_byte true a b r1 r2
          have s3 := digA_byte true _ _ s1 s2
          have s4 := digB_byte true _ _ s1 s2
          clear hlt hk e0 p1 p2
          generalize rrIt b f 9 = Y at *
          go_wp2
          refine wp_loop_rounds 4 ?_
          iterate 4 (rw [rounds_succ]; go_wp2_with (first
            | (go_at_call 12; refine (digit_any _ _ _ _ (by assumption) (by assumption) (by assumption) _).mono ?_; rintro e w' ⟨rfl, hb⟩; have hsz := hb.size)))
          go_ret
          exact ⟨rfl, (by repeat (first | exact Below.refl _ _ | assumption | refine bstep ?_ (by assumption) | refine Below.drew ?_ | refine Below.alloc ?_ (by first | (simp; done) | (simp; omega) | omega) _ | refine Below.setCell ?_ (by first | (simp; done) | (simp; omega) | omega) _))⟩
end Go.Proofs.YtlhbmpnelccofaaDoor
