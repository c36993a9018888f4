/- Layer 6 (shift): contracts of carry and move. -/
import Derived.Test.YtlhbmpnelccofaaDoorShiftMap
namespace Go.Proofs.YtlhbmpnelccofaaDoor
open Go.RowKit
set_option linter.unusedVariables false
set_option linter.unusedSimpArgs false

/-- what the package's table holds -/
def Courses (w : World) : Prop := w.cell? ⟨0, 0, none⟩ = some (.int .i64 1) ∧ w.cell? ⟨0, 1, none⟩ = some (.int .i64 7) ∧ w.cell? ⟨0, 2, none⟩ = some (.int .i64 0) ∧ w.cell? ⟨0, 3, none⟩ = some (.int .i64 (-1)) ∧ w.cell? ⟨0, 4, none⟩ = some (.int .i64 0) ∧ w.cell? ⟨0, 5, none⟩ = some (.int .i64 7)
theorem Courses.below {w w' : World} (h : Courses w) (k : Below w.heap.size w w') : Courses w' := by
  obtain ⟨h0, h1, h2, h3, h4, h5⟩ := h
  exact ⟨cell_kept h0 k, cell_kept h1 k, cell_kept h2 k, cell_kept h3 k, cell_kept h4 k, cell_kept h5 k⟩
theorem and1_i64 (y : Int) : bits BinOp.and IntKind.i64 y 1 = y % 2 := by
  have e : (BitVec.ofInt 64 y &&& BitVec.ofInt 64 1).toNat = (y % 2).toNat := by
    rw [BitVec.toNat_and, show (BitVec.ofInt 64 1).toNat = 2 ^ 1 - 1 by decide, Nat.and_two_pow_sub_one_eq_mod, BitVec.toNat_ofInt]
    omega
  show IntKind.i64.wrap ((BitVec.ofInt 64 y &&& BitVec.ofInt 64 1).toNat : Int) = _
  rw [e, IntKind.wrap_i64]
  omega
set_option maxHeartbeats 400000 in
theorem scarry_any (o : Bool) (w : World) :
    Calls Tryd.prog 18 #[.bool o] w fun e w' => e = .returned (.int .u8 (one o)) ∧ w = w' := by
  cases o
  all_goals
    go_enter Tryd.func18, Tryd.ntmps18
    go_wp2
    go_ret
    exact ⟨rfl, rfl⟩
/-- a block of three cells that is new -/
theorem new3 (w : World) (u v x : Value) (t : TypeId) : (w.alloc (.cells #[u, v, x] t)).cell? ⟨w.heap.size, 0, none⟩ = some u ∧ (w.alloc (.cells #[u, v, x] t)).cell? ⟨w.heap.size, 1, none⟩ = some v ∧ (w.alloc (.cells #[u, v, x] t)).cell? ⟨w.heap.size, 2, none⟩ = some x := by
  have e : ∀ o : Obj, (w.alloc o).heap[w.heap.size]? = some o := fun o => by
    show (w.heap.push _)[w.heap.size]? = _
    simp
  refine ⟨?_, ?_, ?_⟩ <;> (simp only [World.cell?, e]; rfl)
/-- three cells of the caller's -/
theorem hold3 {w w' : World} {p q r : Addr} {u v x : Value} (k : Below w.heap.size w w') (h : w.cell? p = some u ∧ w.cell? q = some v ∧ w.cell? r = some x) : w'.cell? p = some u ∧ w'.cell? q = some v ∧ w'.cell? r = some x :=
  ⟨cell_kept h.1 k, cell_kept h.2.1 k, cell_kept h.2.2 k⟩
theorem last3 {p q r : Prop} (h : p ∧ q ∧ r) : r := h.2.2
/-- a byte, and two bools, as an answer -/
abbrev moved (r : Int) (o k : Bool) : Value := .tuple #[.int .u8 r, .bool o, .bool k]
set_option maxHeartbeats 4000000 in
theorem move_0 (b f : Int) (hb : B8 b) (hf : B8 f) (w : World) (hd : Courses w) :
    Calls Tryd.prog 16 #[.int .i64 0, .int .u8 b, .int .u8 f] w fun e w' => e = .returned (moved (shM 0 b f) (soutM 0 b) true) ∧ Below w.heap.size w w' := by
  have hB := hb
  clear hb
  obtain ⟨d0, d1, d2, d3, d4, d5⟩ := hd
  have ka := and1_i64 0
  simp only [show (0 : Int) % 2 = 0 by decide] at ka
  have ht : B8 (turnM b 1) := turnM_byte b 1 hB.1 hB.2
  go_enter Tryd.func16, Tryd.ntmps16
  go_wp2_with (first
    | (go_at_call 27; refine (is_any _ _ (B8.lo (by assumption)) (B8.hi (by assumption)) _).mono ?_; rintro e w' ⟨rfl, rfl⟩)
    | (go_at_call 28; refine (entering_any _ _ _ _).mono ?_; rintro e w' ⟨B, F, O, M, rfl, ⟨⟨c1, c2, c3⟩, hm⟩, hb⟩; have hl := look_0 hm))
  have k0 : w'.cell? ⟨w.heap.size, 0, none⟩ = some (.int .i64 1) := cell_kept (new3 w _ _ _ _).1 hb
  have k2 : w'.cell? ⟨w.heap.size, 2, none⟩ = some (.int .i64 0) := cell_kept (new3 w _ _ _ _).2.2 hb
  have hsz := hb.size
  simp only [World.size_alloc] at hsz
  have hs : w'.cell? ⟨w.heap.size, 0, none⟩ = some (.int .i64 1) ∧ w'.cell? ⟨w.heap.size, 2, none⟩ = some (.int .i64 0) ∧ w'.cell? ⟨O, 0, none⟩ = some (.bool (isM b 7)) := ⟨k0, k2, c3⟩
  have hb0 : Below w.heap.size w w' := (by repeat (first | exact Below.refl _ _ | assumption | refine bstep ?_ (by assumption) | refine Below.drew ?_ | refine Below.alloc ?_ (by first | (simp; done) | (simp; omega) | omega) _ | refine Below.setCell ?_ (by first | (simp; done) | (simp; omega) | omega) _))
  clear hb k0 k2 c1 c2 c3 hl hm d0 d1 d2 d3 d4 d5 ka
  go_region_held3 (fun w' => w'.cell? ⟨w.heap.size, 0, none⟩ = some (.int .i64 1) ∧ w'.cell? ⟨w.heap.size, 2, none⟩ = some (.int .i64 0) ∧ w'.cell? ⟨O, 0, none⟩ = some (.bool (isM b 7))) (first | go_keep | exact hold3 hb (by assumption))
    (first
    | (go_at_call 30; refine (turn_any _ _ (B8.lo (by assumption)) (B8.hi (by assumption)) _).mono ?_; rintro e w' ⟨rfl, hb⟩; have hsz := hb.size)
    | (go_at_call 36; refine (fnOut_any O (isM b 7) _ (last3 (by assumption))).mono ?_; rintro e w' ⟨rfl, rfl⟩)
    | (go_at_call 29; refine (with_any _ _ _ (B8.lo (by assumption)) (B8.hi (by assumption)) _).mono ?_; rintro e w' ⟨rfl, rfl⟩))
  go_wp2_with fail
  go_ret3
  exact ⟨rfl, (by repeat (first | exact Below.refl _ _ | assumption | refine bstep ?_ (by assumption) | refine Below.drew ?_ | refine Below.alloc ?_ (by first | (simp; done) | (simp; omega) | omega) _ | refine Below.setCell ?_ (by first | (simp; done) | (simp; omega) | omega) _))⟩
set_option maxHeartbeats 4000000 in
theorem move_1 (b f : Int) (hb : B8 b) (hf : B8 f) (w : World) (hd : Courses w) :
    Calls Tryd.prog 16 #[.int .i64 1, .int .u8 b, .int .u8 f] w fun e w' => e = .returned (moved (shM 1 b f) (soutM 1 b) true) ∧ Below w.heap.size w w' := by
  have hB := hb
  clear hb
  obtain ⟨d0, d1, d2, d3, d4, d5⟩ := hd
  have ka := and1_i64 1
  simp only [show (1 : Int) % 2 = 1 by decide] at ka
  have ht : B8 (turnM b (-1)) := turnM_byte b (-1) hB.1 hB.2
  go_enter Tryd.func16, Tryd.ntmps16
  go_wp2_with (first
    | (go_at_call 27; refine (is_any _ _ (B8.lo (by assumption)) (B8.hi (by assumption)) _).mono ?_; rintro e w' ⟨rfl, rfl⟩)
    | (go_at_call 28; refine (entering_any _ _ _ _).mono ?_; rintro e w' ⟨B, F, O, M, rfl, ⟨⟨c1, c2, c3⟩, hm⟩, hb⟩; have hl := look_1 hm))
  have k0 : w'.cell? ⟨w.heap.size, 0, none⟩ = some (.int .i64 (-1)) := cell_kept (new3 w _ _ _ _).1 hb
  have k2 : w'.cell? ⟨w.heap.size, 2, none⟩ = some (.int .i64 7) := cell_kept (new3 w _ _ _ _).2.2 hb
  have hsz := hb.size
  simp only [World.size_alloc] at hsz
  have hs : w'.cell? ⟨w.heap.size, 0, none⟩ = some (.int .i64 (-1)) ∧ w'.cell? ⟨w.heap.size, 2, none⟩ = some (.int .i64 7) ∧ w'.cell? ⟨O, 0, none⟩ = some (.bool (isM b 0)) := ⟨k0, k2, c3⟩
  have hb0 : Below w.heap.size w w' := (by repeat (first | exact Below.refl _ _ | assumption | refine bstep ?_ (by assumption) | refine Below.drew ?_ | refine Below.alloc ?_ (by first | (simp; done) | (simp; omega) | omega) _ | refine Below.setCell ?_ (by first | (simp; done) | (simp; omega) | omega) _))
  clear hb k0 k2 c1 c2 c3 hl hm d0 d1 d2 d3 d4 d5 ka
  go_region_held3 (fun w' => w'.cell? ⟨w.heap.size, 0, none⟩ = some (.int .i64 (-1)) ∧ w'.cell? ⟨w.heap.size, 2, none⟩ = some (.int .i64 7) ∧ w'.cell? ⟨O, 0, none⟩ = some (.bool (isM b 0))) (first | go_keep | exact hold3 hb (by assumption))
    (first
    | (go_at_call 30; refine (turn_any _ _ (B8.lo (by assumption)) (B8.hi (by assumption)) _).mono ?_; rintro e w' ⟨rfl, hb⟩; have hsz := hb.size)
    | (go_at_call 36; refine (fnOut_any O (isM b 0) _ (last3 (by assumption))).mono ?_; rintro e w' ⟨rfl, rfl⟩)
    | (go_at_call 29; refine (with_any _ _ _ (B8.lo (by assumption)) (B8.hi (by assumption)) _).mono ?_; rintro e w' ⟨rfl, rfl⟩))
  go_wp2_with fail
  go_ret3
  exact ⟨rfl, (by repeat (first | exact Below.refl _ _ | assumption | refine bstep ?_ (by assumption) | refine Below.drew ?_ | refine Below.alloc ?_ (by first | (simp; done) | (simp; omega) | omega) _ | refine Below.setCell ?_ (by first | (simp; done) | (simp; omega) | omega) _))⟩
set_option maxHeartbeats 4000000 in
theorem move_2 (b f : Int) (hb : B8 b) (hf : B8 f) (w : World) (hd : Courses w) :
    Calls Tryd.prog 16 #[.int .i64 2, .int .u8 b, .int .u8 f] w fun e w' => e = .returned (moved (shM 2 b f) (soutM 2 b) true) ∧ Below w.heap.size w w' := by
  have hB := hb
  clear hb
  obtain ⟨d0, d1, d2, d3, d4, d5⟩ := hd
  have ka := and1_i64 2
  simp only [show (2 : Int) % 2 = 0 by decide] at ka
  have ht : B8 (turnM b 1) := turnM_byte b 1 hB.1 hB.2
  go_enter Tryd.func16, Tryd.ntmps16
  go_wp2_with (first
    | (go_at_call 27; refine (is_any _ _ (B8.lo (by assumption)) (B8.hi (by assumption)) _).mono ?_; rintro e w' ⟨rfl, rfl⟩)
    | (go_at_call 28; refine (entering_any _ _ _ _).mono ?_; rintro e w' ⟨B, F, O, M, rfl, ⟨⟨c1, c2, c3⟩, hm⟩, hb⟩; have hl := look_2 hm))
  have k0 : w'.cell? ⟨w.heap.size, 0, none⟩ = some (.int .i64 1) := cell_kept (new3 w _ _ _ _).1 hb
  have k2 : w'.cell? ⟨w.heap.size, 2, none⟩ = some (.int .i64 0) := cell_kept (new3 w _ _ _ _).2.2 hb
  have hsz := hb.size
  simp only [World.size_alloc] at hsz
  have hs : w'.cell? ⟨w.heap.size, 0, none⟩ = some (.int .i64 1) ∧ w'.cell? ⟨w.heap.size, 2, none⟩ = some (.int .i64 0) ∧ w'.cell? ⟨F, 0, none⟩ = some (.int .u8 f) := ⟨k0, k2, c2⟩
  have hb0 : Below w.heap.size w w' := (by repeat (first | exact Below.refl _ _ | assumption | refine bstep ?_ (by assumption) | refine Below.drew ?_ | refine Below.alloc ?_ (by first | (simp; done) | (simp; omega) | omega) _ | refine Below.setCell ?_ (by first | (simp; done) | (simp; omega) | omega) _))
  clear hb k0 k2 c1 c2 c3 hl hm d0 d1 d2 d3 d4 d5 ka
  go_region_held3 (fun w' => w'.cell? ⟨w.heap.size, 0, none⟩ = some (.int .i64 1) ∧ w'.cell? ⟨w.heap.size, 2, none⟩ = some (.int .i64 0) ∧ w'.cell? ⟨F, 0, none⟩ = some (.int .u8 f)) (first | go_keep | exact hold3 hb (by assumption))
    (first
    | (go_at_call 30; refine (turn_any _ _ (B8.lo (by assumption)) (B8.hi (by assumption)) _).mono ?_; rintro e w' ⟨rfl, hb⟩; have hsz := hb.size)
    | (go_at_call 37; refine (fnCarry_any F f hf _ (last3 (by assumption))).mono ?_; rintro e w' ⟨rfl, rfl⟩)
    | (go_at_call 29; refine (with_any _ _ _ (B8.lo (by assumption)) (B8.hi (by assumption)) _).mono ?_; rintro e w' ⟨rfl, rfl⟩))
  go_wp2_with fail
  go_ret3
  exact ⟨rfl, (by repeat (first | exact Below.refl _ _ | assumption | refine bstep ?_ (by assumption) | refine Below.drew ?_ | refine Below.alloc ?_ (by first | (simp; done) | (simp; omega) | omega) _ | refine Below.setCell ?_ (by first | (simp; done) | (simp; omega) | omega) _))⟩
set_option maxHeartbeats 4000000 in
theorem move_3 (b f : Int) (hb : B8 b) (hf : B8 f) (w : World) (hd : Courses w) :
    Calls Tryd.prog 16 #[.int .i64 3, .int .u8 b, .int .u8 f] w fun e w' => e = .returned (moved (shM 3 b f) (soutM 3 b) true) ∧ Below w.heap.size w w' := by
  have hB := hb
  clear hb
  obtain ⟨d0, d1, d2, d3, d4, d5⟩ := hd
  have ka := and1_i64 3
  simp only [show (3 : Int) % 2 = 1 by decide] at ka
  have ht : B8 (turnM b (-1)) := turnM_byte b (-1) hB.1 hB.2
  go_enter Tryd.func16, Tryd.ntmps16
  go_wp2_with (first
    | (go_at_call 27; refine (is_any _ _ (B8.lo (by assumption)) (B8.hi (by assumption)) _).mono ?_; rintro e w' ⟨rfl, rfl⟩)
    | (go_at_call 28; refine (entering_any _ _ _ _).mono ?_; rintro e w' ⟨B, F, O, M, rfl, ⟨⟨c1, c2, c3⟩, hm⟩, hb⟩; have hl := look_3 hm))
  have k0 : w'.cell? ⟨w.heap.size, 0, none⟩ = some (.int .i64 (-1)) := cell_kept (new3 w _ _ _ _).1 hb
  have k2 : w'.cell? ⟨w.heap.size, 2, none⟩ = some (.int .i64 7) := cell_kept (new3 w _ _ _ _).2.2 hb
  have hsz := hb.size
  simp only [World.size_alloc] at hsz
  have hs : w'.cell? ⟨w.heap.size, 0, none⟩ = some (.int .i64 (-1)) ∧ w'.cell? ⟨w.heap.size, 2, none⟩ = some (.int .i64 7) ∧ w'.cell? ⟨F, 0, none⟩ = some (.int .u8 f) := ⟨k0, k2, c2⟩
  have hb0 : Below w.heap.size w w' := (by repeat (first | exact Below.refl _ _ | assumption | refine bstep ?_ (by assumption) | refine Below.drew ?_ | refine Below.alloc ?_ (by first | (simp; done) | (simp; omega) | omega) _ | refine Below.setCell ?_ (by first | (simp; done) | (simp; omega) | omega) _))
  clear hb k0 k2 c1 c2 c3 hl hm d0 d1 d2 d3 d4 d5 ka
  go_region_held3 (fun w' => w'.cell? ⟨w.heap.size, 0, none⟩ = some (.int .i64 (-1)) ∧ w'.cell? ⟨w.heap.size, 2, none⟩ = some (.int .i64 7) ∧ w'.cell? ⟨F, 0, none⟩ = some (.int .u8 f)) (first | go_keep | exact hold3 hb (by assumption))
    (first
    | (go_at_call 30; refine (turn_any _ _ (B8.lo (by assumption)) (B8.hi (by assumption)) _).mono ?_; rintro e w' ⟨rfl, hb⟩; have hsz := hb.size)
    | (go_at_call 37; refine (fnCarry_any F f hf _ (last3 (by assumption))).mono ?_; rintro e w' ⟨rfl, rfl⟩)
    | (go_at_call 29; refine (with_any _ _ _ (B8.lo (by assumption)) (B8.hi (by assumption)) _).mono ?_; rintro e w' ⟨rfl, rfl⟩))
  go_wp2_with fail
  go_ret3
  exact ⟨rfl, (by repeat (first | exact Below.refl _ _ | assumption | refine bstep ?_ (by assumption) | refine Below.drew ?_ | refine Below.alloc ?_ (by first | (simp; done) | (simp; omega) | omega) _ | refine Below.setCell ?_ (by first | (simp; done) | (simp; omega) | omega) _))⟩
set_option maxHeartbeats 4000000 in
theorem move_4 (b f : Int) (hb : B8 b) (hf : B8 f) (w : World) (hd : Courses w) :
    Calls Tryd.prog 16 #[.int .i64 4, .int .u8 b, .int .u8 f] w fun e w' => e = .returned (moved (shM 4 b f) (soutM 4 b) true) ∧ Below w.heap.size w w' := by
  have hB := hb
  clear hb
  obtain ⟨d0, d1, d2, d3, d4, d5⟩ := hd
  have ka := and1_i64 4
  simp only [show (4 : Int) % 2 = 0 by decide] at ka
  have ht : B8 (turnM b 1) := turnM_byte b 1 hB.1 hB.2
  go_enter Tryd.func16, Tryd.ntmps16
  go_wp2_with (first
    | (go_at_call 27; refine (is_any _ _ (B8.lo (by assumption)) (B8.hi (by assumption)) _).mono ?_; rintro e w' ⟨rfl, rfl⟩)
    | (go_at_call 28; refine (entering_any _ _ _ _).mono ?_; rintro e w' ⟨B, F, O, M, rfl, ⟨⟨c1, c2, c3⟩, hm⟩, hb⟩; have hl := look_4 hm))
  have k0 : w'.cell? ⟨w.heap.size, 0, none⟩ = some (.int .i64 1) := cell_kept (new3 w _ _ _ _).1 hb
  have k2 : w'.cell? ⟨w.heap.size, 2, none⟩ = some (.int .i64 0) := cell_kept (new3 w _ _ _ _).2.2 hb
  have hsz := hb.size
  simp only [World.size_alloc] at hsz
  have hs : w'.cell? ⟨w.heap.size, 0, none⟩ = some (.int .i64 1) ∧ w'.cell? ⟨w.heap.size, 2, none⟩ = some (.int .i64 0) ∧ w'.cell? ⟨O, 0, none⟩ = some (.bool (isM b 7)) := ⟨k0, k2, c3⟩
  have hb0 : Below w.heap.size w w' := (by repeat (first | exact Below.refl _ _ | assumption | refine bstep ?_ (by assumption) | refine Below.drew ?_ | refine Below.alloc ?_ (by first | (simp; done) | (simp; omega) | omega) _ | refine Below.setCell ?_ (by first | (simp; done) | (simp; omega) | omega) _))
  clear hb k0 k2 c1 c2 c3 hl hm d0 d1 d2 d3 d4 d5 ka
  go_region_held3 (fun w' => w'.cell? ⟨w.heap.size, 0, none⟩ = some (.int .i64 1) ∧ w'.cell? ⟨w.heap.size, 2, none⟩ = some (.int .i64 0) ∧ w'.cell? ⟨O, 0, none⟩ = some (.bool (isM b 7))) (first | go_keep | exact hold3 hb (by assumption))
    (first
    | (go_at_call 30; refine (turn_any _ _ (B8.lo (by assumption)) (B8.hi (by assumption)) _).mono ?_; rintro e w' ⟨rfl, hb⟩; have hsz := hb.size)
    | (go_at_call 38; refine (fnZero_any _).mono ?_; rintro e w' ⟨rfl, rfl⟩)
    | (go_at_call 29; refine (with_any _ _ _ (B8.lo (by assumption)) (B8.hi (by assumption)) _).mono ?_; rintro e w' ⟨rfl, rfl⟩))
  go_wp2_with fail
  go_ret3
  exact ⟨rfl, (by repeat (first | exact Below.refl _ _ | assumption | refine bstep ?_ (by assumption) | refine Below.drew ?_ | refine Below.alloc ?_ (by first | (simp; done) | (simp; omega) | omega) _ | refine Below.setCell ?_ (by first | (simp; done) | (simp; omega) | omega) _))⟩
set_option maxHeartbeats 4000000 in
theorem move_5 (b f : Int) (hb : B8 b) (hf : B8 f) (w : World) (hd : Courses w) :
    Calls Tryd.prog 16 #[.int .i64 5, .int .u8 b, .int .u8 f] w fun e w' => e = .returned (moved (shM 5 b f) (soutM 5 b) true) ∧ Below w.heap.size w w' := by
  have hB := hb
  clear hb
  obtain ⟨d0, d1, d2, d3, d4, d5⟩ := hd
  have ka := and1_i64 5
  simp only [show (5 : Int) % 2 = 1 by decide] at ka
  have ht : B8 (turnM b (-1)) := turnM_byte b (-1) hB.1 hB.2
  go_enter Tryd.func16, Tryd.ntmps16
  go_wp2_with (first
    | (go_at_call 27; refine (is_any _ _ (B8.lo (by assumption)) (B8.hi (by assumption)) _).mono ?_; rintro e w' ⟨rfl, rfl⟩)
    | (go_at_call 28; refine (entering_any _ _ _ _).mono ?_; rintro e w' ⟨B, F, O, M, rfl, ⟨⟨c1, c2, c3⟩, hm⟩, hb⟩; have hl := look_5 hm))
  have k0 : w'.cell? ⟨w.heap.size, 0, none⟩ = some (.int .i64 (-1)) := cell_kept (new3 w _ _ _ _).1 hb
  have k2 : w'.cell? ⟨w.heap.size, 2, none⟩ = some (.int .i64 7) := cell_kept (new3 w _ _ _ _).2.2 hb
  have hsz := hb.size
  simp only [World.size_alloc] at hsz
  have hs : w'.cell? ⟨w.heap.size, 0, none⟩ = some (.int .i64 (-1)) ∧ w'.cell? ⟨w.heap.size, 2, none⟩ = some (.int .i64 7) ∧ w'.cell? ⟨B, 0, none⟩ = some (.int .u8 b) := ⟨k0, k2, c1⟩
  have hb0 : Below w.heap.size w w' := (by repeat (first | exact Below.refl _ _ | assumption | refine bstep ?_ (by assumption) | refine Below.drew ?_ | refine Below.alloc ?_ (by first | (simp; done) | (simp; omega) | omega) _ | refine Below.setCell ?_ (by first | (simp; done) | (simp; omega) | omega) _))
  clear hb k0 k2 c1 c2 c3 hl hm d0 d1 d2 d3 d4 d5 ka
  go_region_held3 (fun w' => w'.cell? ⟨w.heap.size, 0, none⟩ = some (.int .i64 (-1)) ∧ w'.cell? ⟨w.heap.size, 2, none⟩ = some (.int .i64 7) ∧ w'.cell? ⟨B, 0, none⟩ = some (.int .u8 b)) (first | go_keep | exact hold3 hb (by assumption))
    (first
    | (go_at_call 30; refine (turn_any _ _ (B8.lo (by assumption)) (B8.hi (by assumption)) _).mono ?_; rintro e w' ⟨rfl, hb⟩; have hsz := hb.size)
    | (go_at_call 39; refine (fnTop_any B b hB _ (last3 (by assumption))).mono ?_; rintro e w' ⟨rfl, rfl⟩)
    | (go_at_call 29; refine (with_any _ _ _ (B8.lo (by assumption)) (B8.hi (by assumption)) _).mono ?_; rintro e w' ⟨rfl, rfl⟩))
  go_wp2_with fail
  go_ret3
  exact ⟨rfl, (by repeat (first | exact Below.refl _ _ | assumption | refine bstep ?_ (by assumption) | refine Below.drew ?_ | refine Below.alloc ?_ (by first | (simp; done) | (simp; omega) | omega) _ | refine Below.setCell ?_ (by first | (simp; done) | (simp; omega) | omega) _))⟩
set_option maxHeartbeats 4000000 in
theorem move_6 (b f : Int) (hb : B8 b) (hf : B8 f) (w : World) (hd : Courses w) :
    Calls Tryd.prog 16 #[.int .i64 6, .int .u8 b, .int .u8 f] w fun e w' => e = .returned (moved (shM 6 b f) (soutM 6 b) true) ∧ Below w.heap.size w w' := by
  have hB := hb
  clear hb
  obtain ⟨d0, d1, d2, d3, d4, d5⟩ := hd
  have ka := and1_i64 6
  simp only [show (6 : Int) % 2 = 0 by decide] at ka
  have ht : B8 (turnM b 1) := turnM_byte b 1 hB.1 hB.2
  go_enter Tryd.func16, Tryd.ntmps16
  go_wp2_with (first
    | (go_at_call 27; refine (is_any _ _ (B8.lo (by assumption)) (B8.hi (by assumption)) _).mono ?_; rintro e w' ⟨rfl, rfl⟩)
    | (go_at_call 28; refine (entering_any _ _ _ _).mono ?_; rintro e w' ⟨B, F, O, M, rfl, ⟨⟨c1, c2, c3⟩, hm⟩, hb⟩; have hl := look_6 hm))
  have k0 : w'.cell? ⟨w.heap.size, 0, none⟩ = some (.int .i64 1) := cell_kept (new3 w _ _ _ _).1 hb
  have k2 : w'.cell? ⟨w.heap.size, 2, none⟩ = some (.int .i64 0) := cell_kept (new3 w _ _ _ _).2.2 hb
  have hsz := hb.size
  simp only [World.size_alloc] at hsz
  have hs : w'.cell? ⟨w.heap.size, 0, none⟩ = some (.int .i64 1) ∧ w'.cell? ⟨w.heap.size, 2, none⟩ = some (.int .i64 0) ∧ w'.cell? ⟨O, 0, none⟩ = some (.bool (isM b 7)) := ⟨k0, k2, c3⟩
  have hb0 : Below w.heap.size w w' := (by repeat (first | exact Below.refl _ _ | assumption | refine bstep ?_ (by assumption) | refine Below.drew ?_ | refine Below.alloc ?_ (by first | (simp; done) | (simp; omega) | omega) _ | refine Below.setCell ?_ (by first | (simp; done) | (simp; omega) | omega) _))
  clear hb k0 k2 c1 c2 c3 hl hm d0 d1 d2 d3 d4 d5 ka
  go_region_held3 (fun w' => w'.cell? ⟨w.heap.size, 0, none⟩ = some (.int .i64 1) ∧ w'.cell? ⟨w.heap.size, 2, none⟩ = some (.int .i64 0) ∧ w'.cell? ⟨O, 0, none⟩ = some (.bool (isM b 7))) (first | go_keep | exact hold3 hb (by assumption))
    (first
    | (go_at_call 30; refine (turn_any _ _ (B8.lo (by assumption)) (B8.hi (by assumption)) _).mono ?_; rintro e w' ⟨rfl, hb⟩; have hsz := hb.size)
    | (go_at_call 40; refine (fnOne_any _).mono ?_; rintro e w' ⟨rfl, rfl⟩)
    | (go_at_call 29; refine (with_any _ _ _ (B8.lo (by assumption)) (B8.hi (by assumption)) _).mono ?_; rintro e w' ⟨rfl, rfl⟩))
  go_wp2_with fail
  go_ret3
  exact ⟨rfl, (by repeat (first | exact Below.refl _ _ | assumption | refine bstep ?_ (by assumption) | refine Below.drew ?_ | refine Below.alloc ?_ (by first | (simp; done) | (simp; omega) | omega) _ | refine Below.setCell ?_ (by first | (simp; done) | (simp; omega) | omega) _))⟩
set_option maxHeartbeats 4000000 in
theorem move_7 (b f : Int) (hb : B8 b) (hf : B8 f) (w : World) (hd : Courses w) :
    Calls Tryd.prog 16 #[.int .i64 7, .int .u8 b, .int .u8 f] w fun e w' => e = .returned (moved (shM 7 b f) (soutM 7 b) true) ∧ Below w.heap.size w w' := by
  have hB := hb
  clear hb
  obtain ⟨d0, d1, d2, d3, d4, d5⟩ := hd
  have ka := and1_i64 7
  simp only [show (7 : Int) % 2 = 1 by decide] at ka
  have ht : B8 (turnM b (-1)) := turnM_byte b (-1) hB.1 hB.2
  go_enter Tryd.func16, Tryd.ntmps16
  go_wp2_with (first
    | (go_at_call 27; refine (is_any _ _ (B8.lo (by assumption)) (B8.hi (by assumption)) _).mono ?_; rintro e w' ⟨rfl, rfl⟩)
    | (go_at_call 28; refine (entering_any _ _ _ _).mono ?_; rintro e w' ⟨B, F, O, M, rfl, ⟨⟨c1, c2, c3⟩, hm⟩, hb⟩; have hl := look_7 hm))
  have k0 : w'.cell? ⟨w.heap.size, 0, none⟩ = some (.int .i64 (-1)) := cell_kept (new3 w _ _ _ _).1 hb
  have k2 : w'.cell? ⟨w.heap.size, 2, none⟩ = some (.int .i64 7) := cell_kept (new3 w _ _ _ _).2.2 hb
  have hsz := hb.size
  simp only [World.size_alloc] at hsz
  have hs : w'.cell? ⟨w.heap.size, 0, none⟩ = some (.int .i64 (-1)) ∧ w'.cell? ⟨w.heap.size, 2, none⟩ = some (.int .i64 7) ∧ w'.cell? ⟨O, 0, none⟩ = some (.bool (isM b 0)) := ⟨k0, k2, c3⟩
  have hb0 : Below w.heap.size w w' := (by repeat (first | exact Below.refl _ _ | assumption | refine bstep ?_ (by assumption) | refine Below.drew ?_ | refine Below.alloc ?_ (by first | (simp; done) | (simp; omega) | omega) _ | refine Below.setCell ?_ (by first | (simp; done) | (simp; omega) | omega) _))
  clear hb k0 k2 c1 c2 c3 hl hm d0 d1 d2 d3 d4 d5 ka
  go_region_held3 (fun w' => w'.cell? ⟨w.heap.size, 0, none⟩ = some (.int .i64 (-1)) ∧ w'.cell? ⟨w.heap.size, 2, none⟩ = some (.int .i64 7) ∧ w'.cell? ⟨O, 0, none⟩ = some (.bool (isM b 0))) (first | go_keep | exact hold3 hb (by assumption))
    (first
    | (go_at_call 30; refine (turn_any _ _ (B8.lo (by assumption)) (B8.hi (by assumption)) _).mono ?_; rintro e w' ⟨rfl, hb⟩; have hsz := hb.size)
    | (go_at_call 38; refine (fnZero_any _).mono ?_; rintro e w' ⟨rfl, rfl⟩)
    | (go_at_call 29; refine (with_any _ _ _ (B8.lo (by assumption)) (B8.hi (by assumption)) _).mono ?_; rintro e w' ⟨rfl, rfl⟩))
  go_wp2_with fail
  go_ret3
  exact ⟨rfl, (by repeat (first | exact Below.refl _ _ | assumption | refine bstep ?_ (by assumption) | refine Below.drew ?_ | refine Below.alloc ?_ (by first | (simp; done) | (simp; omega) | omega) _ | refine Below.setCell ?_ (by first | (simp; done) | (simp; omega) | omega) _))⟩
theorem move_yes (k b f : Int) (h0 : 0 ≤ k) (h1 : k < 8) (hb : B8 b) (hf : B8 f) (w : World) (hd : Courses w) :
    Calls Tryd.prog 16 #[.int .i64 k, .int .u8 b, .int .u8 f] w fun e w' => e = .returned (moved (shM k b f) (soutM k b) true) ∧ Below w.heap.size w w' := by
  obtain rfl | rfl | rfl | rfl | rfl | rfl | rfl | rfl : k = 0 ∨ k = 1 ∨ k = 2 ∨ k = 3 ∨ k = 4 ∨ k = 5 ∨ k = 6 ∨ k = 7 := by omega
  · exact move_0 b f hb hf w hd
  · exact move_1 b f hb hf w hd
  · exact move_2 b f hb hf w hd
  · exact move_3 b f hb hf w hd
  · exact move_4 b f hb hf w hd
  · exact move_5 b f hb hf w hd
  · exact move_6 b f hb hf w hd
  · exact move_7 b f hb hf w hd
set_option maxHeartbeats 4000000 in
theorem move_no (k b f : Int) (hk : k < 0 ∨ 8 ≤ k) (hb : B8 b) (hf : B8 f) (w : World) (hd : Courses w) :
    Calls Tryd.prog 16 #[.int .i64 k, .int .u8 b, .int .u8 f] w fun e w' => e = .returned (moved 0 false false) ∧ Below w.heap.size w w' := by
  have hB := hb
  clear hb
  obtain ⟨d0, d1, d2, d3, d4, d5⟩ := hd
  have ka := and1_i64 k
  have hk := Lib.hid hk
  obtain h2 | h2 : k % 2 = 0 ∨ k % 2 = 1 := by omega
  all_goals
    rw [h2] at ka
    clear h2
    go_enter Tryd.func16, Tryd.ntmps16
    go_wp2_with (first
      | (go_at_call 27; refine (is_any _ _ (B8.lo (by assumption)) (B8.hi (by assumption)) _).mono ?_; rintro e w' ⟨rfl, rfl⟩)
      | (go_at_call 28; refine (entering_any _ _ _ _).mono ?_; rintro e w' ⟨B, F, O, M, rfl, ⟨⟨c1, c2, c3⟩, hm⟩, hb⟩; have hl := look_no hk.out hm))
    go_ret3
    have hsz := hb.size
    simp only [World.size_alloc] at hsz
    exact ⟨rfl, (by repeat (first | exact Below.refl _ _ | assumption | refine bstep ?_ (by assumption) | refine Below.drew ?_ | refine Below.alloc ?_ (by first | (simp; done) | (simp; omega) | omega) _ | refine Below.setCell ?_ (by first | (simp; done) | (simp; omega) | omega) _))⟩
end Go.Proofs.YtlhbmpnelccofaaDoor
