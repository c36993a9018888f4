/- Contracts and facts that the claim's proof wants (several texts in one). -/
import Derived.Deep.RegionHeld3
import Derived.Deep.DeepHandedRow
import Derived.Laws.EntriesVeiled
import Derived.Maps.Own
import Derived.Deep.MidRow
import Derived.Lib.Hide
import Derived.BigQuiet
import Derived.Deep.DeepCutAuto
import Derived.Deep.QuietTactic
import Derived.StillTailTactics
import Derived.Test.YtkgaeamdhhceiaaGreatDoorStG1
namespace Go.Proofs.YtkgaeamdhhceiaaGreatDoor
open Go.RowKit
set_option linter.unusedVariables false
set_option linter.unusedSimpArgs false
set_option maxRecDepth 20000
set_option maxHeartbeats 20000000
section
theorem ins_0 (v0 : Value) (W : World) (b : Nat) (hb : b = W.heap.size) :
    (Instr.mapUpdate 209 (.map (some b)) (.int .i64 0) v0).run Tryz.prog (W.alloc (.map #[] 0)) = .ok () (W.alloc (.map #[⟨.int .i64 0, v0, 0⟩] 1)) :=
  run_insert_top W _ _ _ Tryz.underlying209 Tryz.underlying3 _ _ _ _ b hb rfl
theorem ins_1 (v0 v1 : Value) (W : World) (b : Nat) (hb : b = W.heap.size) :
    (Instr.mapUpdate 209 (.map (some b)) (.int .i64 1) v1).run Tryz.prog (W.alloc (.map #[⟨.int .i64 0, v0, 0⟩] 1)) = .ok () (W.alloc (.map #[⟨.int .i64 0, v0, 0⟩, ⟨.int .i64 1, v1, 1⟩] 2)) :=
  run_insert_top W _ _ _ Tryz.underlying209 Tryz.underlying3 _ _ _ _ b hb rfl
theorem ins_2 (v0 v1 v2 : Value) (W : World) (b : Nat) (hb : b = W.heap.size) :
    (Instr.mapUpdate 209 (.map (some b)) (.int .i64 2) v2).run Tryz.prog (W.alloc (.map #[⟨.int .i64 0, v0, 0⟩, ⟨.int .i64 1, v1, 1⟩] 2)) = .ok () (W.alloc (.map #[⟨.int .i64 0, v0, 0⟩, ⟨.int .i64 1, v1, 1⟩, ⟨.int .i64 2, v2, 2⟩] 3)) :=
  run_insert_top W _ _ _ Tryz.underlying209 Tryz.underlying3 _ _ _ _ b hb rfl
theorem ins_3 (v0 v1 v2 v3 : Value) (W : World) (b : Nat) (hb : b = W.heap.size) :
    (Instr.mapUpdate 209 (.map (some b)) (.int .i64 3) v3).run Tryz.prog (W.alloc (.map #[⟨.int .i64 0, v0, 0⟩, ⟨.int .i64 1, v1, 1⟩, ⟨.int .i64 2, v2, 2⟩] 3)) = .ok () (W.alloc (.map #[⟨.int .i64 0, v0, 0⟩, ⟨.int .i64 1, v1, 1⟩, ⟨.int .i64 2, v2, 2⟩, ⟨.int .i64 3, v3, 3⟩] 4)) :=
  run_insert_top W _ _ _ Tryz.underlying209 Tryz.underlying3 _ _ _ _ b hb rfl
theorem ins_4 (v0 v1 v2 v3 v4 : Value) (W : World) (b : Nat) (hb : b = W.heap.size) :
    (Instr.mapUpdate 209 (.map (some b)) (.int .i64 4) v4).run Tryz.prog (W.alloc (.map #[⟨.int .i64 0, v0, 0⟩, ⟨.int .i64 1, v1, 1⟩, ⟨.int .i64 2, v2, 2⟩, ⟨.int .i64 3, v3, 3⟩] 4)) = .ok () (W.alloc (.map #[⟨.int .i64 0, v0, 0⟩, ⟨.int .i64 1, v1, 1⟩, ⟨.int .i64 2, v2, 2⟩, ⟨.int .i64 3, v3, 3⟩, ⟨.int .i64 4, v4, 4⟩] 5)) :=
  run_insert_top W _ _ _ Tryz.underlying209 Tryz.underlying3 _ _ _ _ b hb rfl
theorem ins_5 (v0 v1 v2 v3 v4 v5 : Value) (W : World) (b : Nat) (hb : b = W.heap.size) :
    (Instr.mapUpdate 209 (.map (some b)) (.int .i64 5) v5).run Tryz.prog (W.alloc (.map #[⟨.int .i64 0, v0, 0⟩, ⟨.int .i64 1, v1, 1⟩, ⟨.int .i64 2, v2, 2⟩, ⟨.int .i64 3, v3, 3⟩, ⟨.int .i64 4, v4, 4⟩] 5)) = .ok () (W.alloc (.map #[⟨.int .i64 0, v0, 0⟩, ⟨.int .i64 1, v1, 1⟩, ⟨.int .i64 2, v2, 2⟩, ⟨.int .i64 3, v3, 3⟩, ⟨.int .i64 4, v4, 4⟩, ⟨.int .i64 5, v5, 5⟩] 6)) :=
  run_insert_top W _ _ _ Tryz.underlying209 Tryz.underlying3 _ _ _ _ b hb rfl
theorem ins_6 (v0 v1 v2 v3 v4 v5 v6 : Value) (W : World) (b : Nat) (hb : b = W.heap.size) :
    (Instr.mapUpdate 209 (.map (some b)) (.int .i64 6) v6).run Tryz.prog (W.alloc (.map #[⟨.int .i64 0, v0, 0⟩, ⟨.int .i64 1, v1, 1⟩, ⟨.int .i64 2, v2, 2⟩, ⟨.int .i64 3, v3, 3⟩, ⟨.int .i64 4, v4, 4⟩, ⟨.int .i64 5, v5, 5⟩] 6)) = .ok () (W.alloc (.map #[⟨.int .i64 0, v0, 0⟩, ⟨.int .i64 1, v1, 1⟩, ⟨.int .i64 2, v2, 2⟩, ⟨.int .i64 3, v3, 3⟩, ⟨.int .i64 4, v4, 4⟩, ⟨.int .i64 5, v5, 5⟩, ⟨.int .i64 6, v6, 6⟩] 7)) :=
  run_insert_top W _ _ _ Tryz.underlying209 Tryz.underlying3 _ _ _ _ b hb rfl
theorem ins_7 (v0 v1 v2 v3 v4 v5 v6 v7 : Value) (W : World) (b : Nat) (hb : b = W.heap.size) :
    (Instr.mapUpdate 209 (.map (some b)) (.int .i64 7) v7).run Tryz.prog (W.alloc (.map #[⟨.int .i64 0, v0, 0⟩, ⟨.int .i64 1, v1, 1⟩, ⟨.int .i64 2, v2, 2⟩, ⟨.int .i64 3, v3, 3⟩, ⟨.int .i64 4, v4, 4⟩, ⟨.int .i64 5, v5, 5⟩, ⟨.int .i64 6, v6, 6⟩] 7)) = .ok () (W.alloc (.map #[⟨.int .i64 0, v0, 0⟩, ⟨.int .i64 1, v1, 1⟩, ⟨.int .i64 2, v2, 2⟩, ⟨.int .i64 3, v3, 3⟩, ⟨.int .i64 4, v4, 4⟩, ⟨.int .i64 5, v5, 5⟩, ⟨.int .i64 6, v6, 6⟩, ⟨.int .i64 7, v7, 7⟩] 8)) :=
  run_insert_top W _ _ _ Tryz.underlying209 Tryz.underlying3 _ _ _ _ b hb rfl
attribute [local go_sem] ins_0 ins_1 ins_2 ins_3 ins_4 ins_5 ins_6 ins_7
abbrev fnOut (O : Nat) : Value := .func (.func 346) #[] #[.pointer (some ⟨O, 0, none⟩)]
abbrev fnCarry (F : Nat) : Value := .func (.func 347) #[] #[.pointer (some ⟨F, 0, none⟩)]
abbrev fnZero : Value := .func (.func 348) #[] #[]
abbrev fnTop (B : Nat) : Value := .func (.func 349) #[] #[.pointer (some ⟨B, 0, none⟩)]
abbrev fnOne : Value := .func (.func 350) #[] #[]
def kindEnts (B F O : Nat) : Array MapEntry := #[⟨.int .i64 0, fnOut O, 0⟩, ⟨.int .i64 1, fnOut O, 1⟩, ⟨.int .i64 2, fnCarry F, 2⟩, ⟨.int .i64 3, fnCarry F, 3⟩, ⟨.int .i64 4, fnZero, 4⟩, ⟨.int .i64 5, fnTop B, 5⟩, ⟨.int .i64 6, fnOne, 6⟩, ⟨.int .i64 7, fnZero, 7⟩]
def Kinds (w : World) (B F O M : Nat) (b f : Int) (o : Bool) : Prop :=
  (w.cell? ⟨B, 0, none⟩ = some (.int .u8 b) ∧ w.cell? ⟨F, 0, none⟩ = some (.int .u8 f) ∧ w.cell? ⟨O, 0, none⟩ = some (.bool o)) ∧ w.heap[M]? = some (.map (kindEnts B F O) 8)
theorem entering_any (b f : Int) (o : Bool) (w : World) :
    Calls Tryz.prog 320 #[.int .u8 b, .int .u8 f, .bool o] w fun e w' => ∃ B F O M, e = .returned (.map (some M)) ∧ Kinds w' B F O M b f o ∧ Below w.heap.size w w' := by
  have hmm := @run_makeMap Tryz.prog
  go_enter Tryz.func320, Tryz.ntmps320
  go_wp2
  go_ret
  have c1 := cell_new w (.int .u8 b) 5
  have c2 := cell_new (w.alloc (.cells #[.int .u8 b] 5)) (.int .u8 f) 5
  have c3 := cell_new ((w.alloc (.cells #[.int .u8 b] 5)).alloc (.cells #[.int .u8 f] 5)) (.bool o) 4
  simp only [World.size_alloc] at c2 c3
  refine ⟨w.heap.size, w.heap.size + 1, w.heap.size + 1 + 1, w.heap.size + 1 + 1 + 1, rfl, ⟨⟨cell_under _ _ (cell_under _ _ (cell_under _ _ c1)), cell_under _ _ (cell_under _ _ c2), cell_under _ _ c3⟩, ?_⟩, (by repeat (first | exact Below.refl _ _ | assumption | refine bstep ?_ (by assumption) | refine Below.drew ?_ | refine Below.alloc ?_ (by first | (simp; done) | (simp; omega) | omega) _ | refine Below.setCell ?_ (by first | (simp; done) | (simp; omega) | omega) _))⟩
  have h := (MapKept.heap_alloc (((w.alloc (.cells #[.int .u8 b] 5)).alloc (.cells #[.int .u8 f] 5)).alloc (.cells #[.bool o] 4)) (.map (kindEnts w.heap.size (w.heap.size + 1) (w.heap.size + 1 + 1)) 8)).1
  simp only [World.size_alloc] at h
  exact h
theorem fnOut_any (O : Nat) (o : Bool) (w : World) (h : w.cell? ⟨O, 0, none⟩ = some (.bool o)) :
    Calls Tryz.prog 346 #[.pointer (some ⟨O, 0, none⟩)] w fun e w' => e = .returned (.bool o) ∧ w = w' := by
  go_enter Tryz.func346, Tryz.ntmps346
  go_wp2
  go_ret
  exact ⟨rfl, rfl⟩
theorem low_bit (f : Int) (h : B8 f) : (bits .and .u8 f 1 != 0) = isM f 0 := by
  rw [low_all f h]
  cases isM f 0 <;> rfl
theorem fnCarry_any (F : Nat) (f : Int) (hf : B8 f) (w : World) (h : w.cell? ⟨F, 0, none⟩ = some (.int .u8 f)) :
    Calls Tryz.prog 347 #[.pointer (some ⟨F, 0, none⟩)] w fun e w' => e = .returned (.bool (isM f 0)) ∧ w = w' := by
  have hl := Lib.hid (low_bit f hf)
  go_enter Tryz.func347, Tryz.ntmps347
  go_wp2
  go_ret
  exact ⟨ret_bool hl.out, rfl⟩
theorem fnZero_any (w : World) :
    Calls Tryz.prog 348 #[] w fun e w' => e = .returned (.bool false) ∧ w = w' := by
  go_enter Tryz.func348, Tryz.ntmps348
  go_wp2
  go_ret
  exact ⟨rfl, rfl⟩
theorem fnTop_any (B : Nat) (b : Int) (hb : B8 b) (w : World) (h : w.cell? ⟨B, 0, none⟩ = some (.int .u8 b)) :
    Calls Tryz.prog 349 #[.pointer (some ⟨B, 0, none⟩)] w fun e w' => e = .returned (.bool (isM b 7)) ∧ w = w' := by
  go_enter Tryz.func349, Tryz.ntmps349
  go_wp2_with (first
    | (go_at_call 274; refine (is_any _ _ (B8.lo (by assumption)) (B8.hi (by assumption)) _).mono ?_; rintro e w' ⟨rfl, rfl⟩))
  go_ret
  exact ⟨rfl, rfl⟩
theorem fnOne_any (w : World) :
    Calls Tryz.prog 350 #[] w fun e w' => e = .returned (.bool true) ∧ w = w' := by
  go_enter Tryz.func350, Tryz.ntmps350
  go_wp2
  go_ret
  exact ⟨rfl, rfl⟩
theorem look_0 {w : World} {B F O M : Nat} (h : w.heap[M]? = some (.map (kindEnts B F O) 8)) : (Instr.lookup 209 (.map (some M)) (.int .i64 0) true).run Tryz.prog w = .ok (.tuple #[fnOut O, .bool true]) w :=
  run_look Tryz.underlying209 Tryz.underlying3 h rfl
theorem look_1 {w : World} {B F O M : Nat} (h : w.heap[M]? = some (.map (kindEnts B F O) 8)) : (Instr.lookup 209 (.map (some M)) (.int .i64 1) true).run Tryz.prog w = .ok (.tuple #[fnOut O, .bool true]) w :=
  run_look Tryz.underlying209 Tryz.underlying3 h rfl
theorem look_2 {w : World} {B F O M : Nat} (h : w.heap[M]? = some (.map (kindEnts B F O) 8)) : (Instr.lookup 209 (.map (some M)) (.int .i64 2) true).run Tryz.prog w = .ok (.tuple #[fnCarry F, .bool true]) w :=
  run_look Tryz.underlying209 Tryz.underlying3 h rfl
theorem look_3 {w : World} {B F O M : Nat} (h : w.heap[M]? = some (.map (kindEnts B F O) 8)) : (Instr.lookup 209 (.map (some M)) (.int .i64 3) true).run Tryz.prog w = .ok (.tuple #[fnCarry F, .bool true]) w :=
  run_look Tryz.underlying209 Tryz.underlying3 h rfl
theorem look_4 {w : World} {B F O M : Nat} (h : w.heap[M]? = some (.map (kindEnts B F O) 8)) : (Instr.lookup 209 (.map (some M)) (.int .i64 4) true).run Tryz.prog w = .ok (.tuple #[fnZero, .bool true]) w :=
  run_look Tryz.underlying209 Tryz.underlying3 h rfl
theorem look_5 {w : World} {B F O M : Nat} (h : w.heap[M]? = some (.map (kindEnts B F O) 8)) : (Instr.lookup 209 (.map (some M)) (.int .i64 5) true).run Tryz.prog w = .ok (.tuple #[fnTop B, .bool true]) w :=
  run_look Tryz.underlying209 Tryz.underlying3 h rfl
theorem look_6 {w : World} {B F O M : Nat} (h : w.heap[M]? = some (.map (kindEnts B F O) 8)) : (Instr.lookup 209 (.map (some M)) (.int .i64 6) true).run Tryz.prog w = .ok (.tuple #[fnOne, .bool true]) w :=
  run_look Tryz.underlying209 Tryz.underlying3 h rfl
theorem look_7 {w : World} {B F O M : Nat} (h : w.heap[M]? = some (.map (kindEnts B F O) 8)) : (Instr.lookup 209 (.map (some M)) (.int .i64 7) true).run Tryz.prog w = .ok (.tuple #[fnZero, .bool true]) w :=
  run_look Tryz.underlying209 Tryz.underlying3 h rfl
theorem look_no {w : World} {B F O M : Nat} {k : Int} (hk : k < 0 ∨ 8 ≤ k) (h : w.heap[M]? = some (.map (kindEnts B F O) 8)) : (Instr.lookup 209 (.map (some M)) (.int .i64 k) true).run Tryz.prog w = .ok (.tuple #[.nilFunc, .bool false]) w :=
  run_look_no Tryz.underlying209 Tryz.underlying3 h (by
    have n0 : (k == 0) = false := by simp; omega
    have n1 : (k == 1) = false := by simp; omega
    have n2 : (k == 2) = false := by simp; omega
    have n3 : (k == 3) = false := by simp; omega
    have n4 : (k == 4) = false := by simp; omega
    have n5 : (k == 5) = false := by simp; omega
    have n6 : (k == 6) = false := by simp; omega
    have n7 : (k == 7) = false := by simp; omega
    simp only [kindEnts, Instr.findNow, Instr.sameNow, if_true, n0, n1, n2, n3, n4, n5, n6, n7]) (by kernel_rfl)
end
def Courses (w : World) : Prop := w.cell? ⟨1, 0, none⟩ = some (.int .i64 1) ∧ w.cell? ⟨1, 1, none⟩ = some (.int .i64 7) ∧ w.cell? ⟨1, 2, none⟩ = some (.int .i64 0) ∧ w.cell? ⟨1, 3, none⟩ = some (.int .i64 (-1)) ∧ w.cell? ⟨1, 4, none⟩ = some (.int .i64 0) ∧ w.cell? ⟨1, 5, none⟩ = some (.int .i64 7)
theorem Courses.below {w w' : World} (h : Courses w) (k : Below w.heap.size w w') : Courses w' := by
  obtain ⟨h0, h1, h2, h3, h4, h5⟩ := h
  exact ⟨cell_kept h0 k, cell_kept h1 k, cell_kept h2 k, cell_kept h3 k, cell_kept h4 k, cell_kept h5 k⟩
theorem and1_i64 (y : Int) : bits BinOp.and IntKind.i64 y 1 = y % 2 := by
  have e : (BitVec.ofInt 64 y &&& BitVec.ofInt 64 1).toNat = (y % 2).toNat := by
    rw [BitVec.toNat_and, show (BitVec.ofInt 64 1).toNat = 2 ^ 1 - 1 by decide, Nat.and_two_pow_sub_one_eq_mod, BitVec.toNat_ofInt]
    omega
  show IntKind.i64.wrap ((BitVec.ofInt 64 y &&& BitVec.ofInt 64 1).toNat : Int) = _
  rw [e, IntKind.wrap_i64]
  omega
theorem scarry_any (o : Bool) (w : World) :
    Calls Tryz.prog 271 #[.bool o] w fun e w' => e = .returned (.int .u8 (one o)) ∧ w = w' := by
  cases o
  all_goals
    go_enter Tryz.func271, Tryz.ntmps271
    go_wp2
    go_ret
    exact ⟨rfl, rfl⟩
theorem new3 (w : World) (u v x : Value) (t : TypeId) : (w.alloc (.cells #[u, v, x] t)).cell? ⟨w.heap.size, 0, none⟩ = some u ∧ (w.alloc (.cells #[u, v, x] t)).cell? ⟨w.heap.size, 1, none⟩ = some v ∧ (w.alloc (.cells #[u, v, x] t)).cell? ⟨w.heap.size, 2, none⟩ = some x := by
  have e : ∀ o : Obj, (w.alloc o).heap[w.heap.size]? = some o := fun o => by
    show (w.heap.push _)[w.heap.size]? = _
    simp
  refine ⟨?_, ?_, ?_⟩ <;> (simp only [World.cell?, e]; rfl)
theorem hold3 {w w' : World} {p q r : Addr} {u v x : Value} (k : Below w.heap.size w w') (h : w.cell? p = some u ∧ w.cell? q = some v ∧ w.cell? r = some x) : w'.cell? p = some u ∧ w'.cell? q = some v ∧ w'.cell? r = some x :=
  ⟨cell_kept h.1 k, cell_kept h.2.1 k, cell_kept h.2.2 k⟩
theorem last3 {p q r : Prop} (h : p ∧ q ∧ r) : r := h.2.2
abbrev moved (r : Int) (o k : Bool) : Value := .tuple #[.int .u8 r, .bool o, .bool k]
theorem move_0 (b f : Int) (hb : B8 b) (hf : B8 f) (w : World) (hd : Courses w) :
    Calls Tryz.prog 269 #[.int .i64 0, .int .u8 b, .int .u8 f] w fun e w' => e = .returned (moved (shM 0 b f) (soutM 0 b) true) ∧ Below w.heap.size w w' := by
  have hB := hb
  clear hb
  obtain ⟨d0, d1, d2, d3, d4, d5⟩ := hd
  have ka := and1_i64 0
  simp only [show (0 : Int) % 2 = 0 by decide] at ka
  have ht : B8 (turnM b 1) := turnM_byte b 1 hB.1 hB.2
  go_enter Tryz.func269, Tryz.ntmps269
  go_wp2_with (first
    | (go_at_call 274; refine (is_any _ _ (B8.lo (by assumption)) (B8.hi (by assumption)) _).mono ?_; rintro e w' ⟨rfl, rfl⟩)
    | (go_at_call 320; refine (entering_any _ _ _ _).mono ?_; rintro e w' ⟨B, F, O, M, rfl, ⟨⟨c1, c2, c3⟩, hm⟩, hb⟩; have hl := look_0 hm))
  have k0 : w'.cell? ⟨w.heap.size, 0, none⟩ = some (.int .i64 1) := cell_kept (new3 w _ _ _ _).1 hb
  have k2 : w'.cell? ⟨w.heap.size, 2, none⟩ = some (.int .i64 0) := cell_kept (new3 w _ _ _ _).2.2 hb
  have hsz := hb.size
  simp only [World.size_alloc] at hsz
  have hs : w'.cell? ⟨w.heap.size, 0, none⟩ = some (.int .i64 1) ∧ w'.cell? ⟨w.heap.size, 2, none⟩ = some (.int .i64 0) ∧ w'.cell? ⟨O, 0, none⟩ = some (.bool (isM b 7)) := ⟨k0, k2, c3⟩
  have hb0 : Below w.heap.size w w' := (by repeat (first | exact Below.refl _ _ | assumption | refine bstep ?_ (by assumption) | refine Below.drew ?_ | refine Below.alloc ?_ (by first | (simp; done) | (simp; omega) | omega) _ | refine Below.setCell ?_ (by first | (simp; done) | (simp; omega) | omega) _))
  clear hb k0 k2 c1 c2 c3 hl hm d0 d1 d2 d3 d4 d5 ka
  go_region_held3 (fun w' => w'.cell? ⟨w.heap.size, 0, none⟩ = some (.int .i64 1) ∧ w'.cell? ⟨w.heap.size, 2, none⟩ = some (.int .i64 0) ∧ w'.cell? ⟨O, 0, none⟩ = some (.bool (isM b 7))) (first | go_keep | exact hold3 hb (by assumption))
    (first
    | (go_at_call 321; refine (turn_any _ _ (B8.lo (by assumption)) (B8.hi (by assumption)) _).mono ?_; rintro e w' ⟨rfl, hb⟩; have hsz := hb.size)
    | (go_at_call 346; refine (fnOut_any O (isM b 7) _ (last3 (by assumption))).mono ?_; rintro e w' ⟨rfl, rfl⟩)
    | (go_at_call 227; refine (with_any _ _ _ (B8.lo (by assumption)) (B8.hi (by assumption)) _).mono ?_; rintro e w' ⟨rfl, rfl⟩))
  go_wp2_with fail
  go_ret3
  exact ⟨rfl, (by repeat (first | exact Below.refl _ _ | assumption | refine bstep ?_ (by assumption) | refine Below.drew ?_ | refine Below.alloc ?_ (by first | (simp; done) | (simp; omega) | omega) _ | refine Below.setCell ?_ (by first | (simp; done) | (simp; omega) | omega) _))⟩
theorem move_1 (b f : Int) (hb : B8 b) (hf : B8 f) (w : World) (hd : Courses w) :
    Calls Tryz.prog 269 #[.int .i64 1, .int .u8 b, .int .u8 f] w fun e w' => e = .returned (moved (shM 1 b f) (soutM 1 b) true) ∧ Below w.heap.size w w' := by
  have hB := hb
  clear hb
  obtain ⟨d0, d1, d2, d3, d4, d5⟩ := hd
  have ka := and1_i64 1
  simp only [show (1 : Int) % 2 = 1 by decide] at ka
  have ht : B8 (turnM b (-1)) := turnM_byte b (-1) hB.1 hB.2
  go_enter Tryz.func269, Tryz.ntmps269
  go_wp2_with (first
    | (go_at_call 274; refine (is_any _ _ (B8.lo (by assumption)) (B8.hi (by assumption)) _).mono ?_; rintro e w' ⟨rfl, rfl⟩)
    | (go_at_call 320; refine (entering_any _ _ _ _).mono ?_; rintro e w' ⟨B, F, O, M, rfl, ⟨⟨c1, c2, c3⟩, hm⟩, hb⟩; have hl := look_1 hm))
  have k0 : w'.cell? ⟨w.heap.size, 0, none⟩ = some (.int .i64 (-1)) := cell_kept (new3 w _ _ _ _).1 hb
  have k2 : w'.cell? ⟨w.heap.size, 2, none⟩ = some (.int .i64 7) := cell_kept (new3 w _ _ _ _).2.2 hb
  have hsz := hb.size
  simp only [World.size_alloc] at hsz
  have hs : w'.cell? ⟨w.heap.size, 0, none⟩ = some (.int .i64 (-1)) ∧ w'.cell? ⟨w.heap.size, 2, none⟩ = some (.int .i64 7) ∧ w'.cell? ⟨O, 0, none⟩ = some (.bool (isM b 0)) := ⟨k0, k2, c3⟩
  have hb0 : Below w.heap.size w w' := (by repeat (first | exact Below.refl _ _ | assumption | refine bstep ?_ (by assumption) | refine Below.drew ?_ | refine Below.alloc ?_ (by first | (simp; done) | (simp; omega) | omega) _ | refine Below.setCell ?_ (by first | (simp; done) | (simp; omega) | omega) _))
  clear hb k0 k2 c1 c2 c3 hl hm d0 d1 d2 d3 d4 d5 ka
  go_region_held3 (fun w' => w'.cell? ⟨w.heap.size, 0, none⟩ = some (.int .i64 (-1)) ∧ w'.cell? ⟨w.heap.size, 2, none⟩ = some (.int .i64 7) ∧ w'.cell? ⟨O, 0, none⟩ = some (.bool (isM b 0))) (first | go_keep | exact hold3 hb (by assumption))
    (first
    | (go_at_call 321; refine (turn_any _ _ (B8.lo (by assumption)) (B8.hi (by assumption)) _).mono ?_; rintro e w' ⟨rfl, hb⟩; have hsz := hb.size)
    | (go_at_call 346; refine (fnOut_any O (isM b 0) _ (last3 (by assumption))).mono ?_; rintro e w' ⟨rfl, rfl⟩)
    | (go_at_call 227; refine (with_any _ _ _ (B8.lo (by assumption)) (B8.hi (by assumption)) _).mono ?_; rintro e w' ⟨rfl, rfl⟩))
  go_wp2_with fail
  go_ret3
  exact ⟨rfl, (by repeat (first | exact Below.refl _ _ | assumption | refine bstep ?_ (by assumption) | refine Below.drew ?_ | refine Below.alloc ?_ (by first | (simp; done) | (simp; omega) | omega) _ | refine Below.setCell ?_ (by first | (simp; done) | (simp; omega) | omega) _))⟩
theorem move_2 (b f : Int) (hb : B8 b) (hf : B8 f) (w : World) (hd : Courses w) :
    Calls Tryz.prog 269 #[.int .i64 2, .int .u8 b, .int .u8 f] w fun e w' => e = .returned (moved (shM 2 b f) (soutM 2 b) true) ∧ Below w.heap.size w w' := by
  have hB := hb
  clear hb
  obtain ⟨d0, d1, d2, d3, d4, d5⟩ := hd
  have ka := and1_i64 2
  simp only [show (2 : Int) % 2 = 0 by decide] at ka
  have ht : B8 (turnM b 1) := turnM_byte b 1 hB.1 hB.2
  go_enter Tryz.func269, Tryz.ntmps269
  go_wp2_with (first
    | (go_at_call 274; refine (is_any _ _ (B8.lo (by assumption)) (B8.hi (by assumption)) _).mono ?_; rintro e w' ⟨rfl, rfl⟩)
    | (go_at_call 320; refine (entering_any _ _ _ _).mono ?_; rintro e w' ⟨B, F, O, M, rfl, ⟨⟨c1, c2, c3⟩, hm⟩, hb⟩; have hl := look_2 hm))
  have k0 : w'.cell? ⟨w.heap.size, 0, none⟩ = some (.int .i64 1) := cell_kept (new3 w _ _ _ _).1 hb
  have k2 : w'.cell? ⟨w.heap.size, 2, none⟩ = some (.int .i64 0) := cell_kept (new3 w _ _ _ _).2.2 hb
  have hsz := hb.size
  simp only [World.size_alloc] at hsz
  have hs : w'.cell? ⟨w.heap.size, 0, none⟩ = some (.int .i64 1) ∧ w'.cell? ⟨w.heap.size, 2, none⟩ = some (.int .i64 0) ∧ w'.cell? ⟨F, 0, none⟩ = some (.int .u8 f) := ⟨k0, k2, c2⟩
  have hb0 : Below w.heap.size w w' := (by repeat (first | exact Below.refl _ _ | assumption | refine bstep ?_ (by assumption) | refine Below.drew ?_ | refine Below.alloc ?_ (by first | (simp; done) | (simp; omega) | omega) _ | refine Below.setCell ?_ (by first | (simp; done) | (simp; omega) | omega) _))
  clear hb k0 k2 c1 c2 c3 hl hm d0 d1 d2 d3 d4 d5 ka
  go_region_held3 (fun w' => w'.cell? ⟨w.heap.size, 0, none⟩ = some (.int .i64 1) ∧ w'.cell? ⟨w.heap.size, 2, none⟩ = some (.int .i64 0) ∧ w'.cell? ⟨F, 0, none⟩ = some (.int .u8 f)) (first | go_keep | exact hold3 hb (by assumption))
    (first
    | (go_at_call 321; refine (turn_any _ _ (B8.lo (by assumption)) (B8.hi (by assumption)) _).mono ?_; rintro e w' ⟨rfl, hb⟩; have hsz := hb.size)
    | (go_at_call 347; refine (fnCarry_any F f hf _ (last3 (by assumption))).mono ?_; rintro e w' ⟨rfl, rfl⟩)
    | (go_at_call 227; refine (with_any _ _ _ (B8.lo (by assumption)) (B8.hi (by assumption)) _).mono ?_; rintro e w' ⟨rfl, rfl⟩))
  go_wp2_with fail
  go_ret3
  exact ⟨rfl, (by repeat (first | exact Below.refl _ _ | assumption | refine bstep ?_ (by assumption) | refine Below.drew ?_ | refine Below.alloc ?_ (by first | (simp; done) | (simp; omega) | omega) _ | refine Below.setCell ?_ (by first | (simp; done) | (simp; omega) | omega) _))⟩
theorem move_3 (b f : Int) (hb : B8 b) (hf : B8 f) (w : World) (hd : Courses w) :
    Calls Tryz.prog 269 #[.int .i64 3, .int .u8 b, .int .u8 f] w fun e w' => e = .returned (moved (shM 3 b f) (soutM 3 b) true) ∧ Below w.heap.size w w' := by
  have hB := hb
  clear hb
  obtain ⟨d0, d1, d2, d3, d4, d5⟩ := hd
  have ka := and1_i64 3
  simp only [show (3 : Int) % 2 = 1 by decide] at ka
  have ht : B8 (turnM b (-1)) := turnM_byte b (-1) hB.1 hB.2
  go_enter Tryz.func269, Tryz.ntmps269
  go_wp2_with (first
    | (go_at_call 274; refine (is_any _ _ (B8.lo (by assumption)) (B8.hi (by assumption)) _).mono ?_; rintro e w' ⟨rfl, rfl⟩)
    | (go_at_call 320; refine (entering_any _ _ _ _).mono ?_; rintro e w' ⟨B, F, O, M, rfl, ⟨⟨c1, c2, c3⟩, hm⟩, hb⟩; have hl := look_3 hm))
  have k0 : w'.cell? ⟨w.heap.size, 0, none⟩ = some (.int .i64 (-1)) := cell_kept (new3 w _ _ _ _).1 hb
  have k2 : w'.cell? ⟨w.heap.size, 2, none⟩ = some (.int .i64 7) := cell_kept (new3 w _ _ _ _).2.2 hb
  have hsz := hb.size
  simp only [World.size_alloc] at hsz
  have hs : w'.cell? ⟨w.heap.size, 0, none⟩ = some (.int .i64 (-1)) ∧ w'.cell? ⟨w.heap.size, 2, none⟩ = some (.int .i64 7) ∧ w'.cell? ⟨F, 0, none⟩ = some (.int .u8 f) := ⟨k0, k2, c2⟩
  have hb0 : Below w.heap.size w w' := (by repeat (first | exact Below.refl _ _ | assumption | refine bstep ?_ (by assumption) | refine Below.drew ?_ | refine Below.alloc ?_ (by first | (simp; done) | (simp; omega) | omega) _ | refine Below.setCell ?_ (by first | (simp; done) | (simp; omega) | omega) _))
  clear hb k0 k2 c1 c2 c3 hl hm d0 d1 d2 d3 d4 d5 ka
  go_region_held3 (fun w' => w'.cell? ⟨w.heap.size, 0, none⟩ = some (.int .i64 (-1)) ∧ w'.cell? ⟨w.heap.size, 2, none⟩ = some (.int .i64 7) ∧ w'.cell? ⟨F, 0, none⟩ = some (.int .u8 f)) (first | go_keep | exact hold3 hb (by assumption))
    (first
    | (go_at_call 321; refine (turn_any _ _ (B8.lo (by assumption)) (B8.hi (by assumption)) _).mono ?_; rintro e w' ⟨rfl, hb⟩; have hsz := hb.size)
    | (go_at_call 347; refine (fnCarry_any F f hf _ (last3 (by assumption))).mono ?_; rintro e w' ⟨rfl, rfl⟩)
    | (go_at_call 227; refine (with_any _ _ _ (B8.lo (by assumption)) (B8.hi (by assumption)) _).mono ?_; rintro e w' ⟨rfl, rfl⟩))
  go_wp2_with fail
  go_ret3
  exact ⟨rfl, (by repeat (first | exact Below.refl _ _ | assumption | refine bstep ?_ (by assumption) | refine Below.drew ?_ | refine Below.alloc ?_ (by first | (simp; done) | (simp; omega) | omega) _ | refine Below.setCell ?_ (by first | (simp; done) | (simp; omega) | omega) _))⟩
theorem move_4 (b f : Int) (hb : B8 b) (hf : B8 f) (w : World) (hd : Courses w) :
    Calls Tryz.prog 269 #[.int .i64 4, .int .u8 b, .int .u8 f] w fun e w' => e = .returned (moved (shM 4 b f) (soutM 4 b) true) ∧ Below w.heap.size w w' := by
  have hB := hb
  clear hb
  obtain ⟨d0, d1, d2, d3, d4, d5⟩ := hd
  have ka := and1_i64 4
  simp only [show (4 : Int) % 2 = 0 by decide] at ka
  have ht : B8 (turnM b 1) := turnM_byte b 1 hB.1 hB.2
  go_enter Tryz.func269, Tryz.ntmps269
  go_wp2_with (first
    | (go_at_call 274; refine (is_any _ _ (B8.lo (by assumption)) (B8.hi (by assumption)) _).mono ?_; rintro e w' ⟨rfl, rfl⟩)
    | (go_at_call 320; refine (entering_any _ _ _ _).mono ?_; rintro e w' ⟨B, F, O, M, rfl, ⟨⟨c1, c2, c3⟩, hm⟩, hb⟩; have hl := look_4 hm))
  have k0 : w'.cell? ⟨w.heap.size, 0, none⟩ = some (.int .i64 1) := cell_kept (new3 w _ _ _ _).1 hb
  have k2 : w'.cell? ⟨w.heap.size, 2, none⟩ = some (.int .i64 0) := cell_kept (new3 w _ _ _ _).2.2 hb
  have hsz := hb.size
  simp only [World.size_alloc] at hsz
  have hs : w'.cell? ⟨w.heap.size, 0, none⟩ = some (.int .i64 1) ∧ w'.cell? ⟨w.heap.size, 2, none⟩ = some (.int .i64 0) ∧ w'.cell? ⟨O, 0, none⟩ = some (.bool (isM b 7)) := ⟨k0, k2, c3⟩
  have hb0 : Below w.heap.size w w' := (by repeat (first | exact Below.refl _ _ | assumption | refine bstep ?_ (by assumption) | refine Below.drew ?_ | refine Below.alloc ?_ (by first | (simp; done) | (simp; omega) | omega) _ | refine Below.setCell ?_ (by first | (simp; done) | (simp; omega) | omega) _))
  clear hb k0 k2 c1 c2 c3 hl hm d0 d1 d2 d3 d4 d5 ka
  go_region_held3 (fun w' => w'.cell? ⟨w.heap.size, 0, none⟩ = some (.int .i64 1) ∧ w'.cell? ⟨w.heap.size, 2, none⟩ = some (.int .i64 0) ∧ w'.cell? ⟨O, 0, none⟩ = some (.bool (isM b 7))) (first | go_keep | exact hold3 hb (by assumption))
    (first
    | (go_at_call 321; refine (turn_any _ _ (B8.lo (by assumption)) (B8.hi (by assumption)) _).mono ?_; rintro e w' ⟨rfl, hb⟩; have hsz := hb.size)
    | (go_at_call 348; refine (fnZero_any _).mono ?_; rintro e w' ⟨rfl, rfl⟩)
    | (go_at_call 227; refine (with_any _ _ _ (B8.lo (by assumption)) (B8.hi (by assumption)) _).mono ?_; rintro e w' ⟨rfl, rfl⟩))
  go_wp2_with fail
  go_ret3
  exact ⟨rfl, (by repeat (first | exact Below.refl _ _ | assumption | refine bstep ?_ (by assumption) | refine Below.drew ?_ | refine Below.alloc ?_ (by first | (simp; done) | (simp; omega) | omega) _ | refine Below.setCell ?_ (by first | (simp; done) | (simp; omega) | omega) _))⟩
theorem move_5 (b f : Int) (hb : B8 b) (hf : B8 f) (w : World) (hd : Courses w) :
    Calls Tryz.prog 269 #[.int .i64 5, .int .u8 b, .int .u8 f] w fun e w' => e = .returned (moved (shM 5 b f) (soutM 5 b) true) ∧ Below w.heap.size w w' := by
  have hB := hb
  clear hb
  obtain ⟨d0, d1, d2, d3, d4, d5⟩ := hd
  have ka := and1_i64 5
  simp only [show (5 : Int) % 2 = 1 by decide] at ka
  have ht : B8 (turnM b (-1)) := turnM_byte b (-1) hB.1 hB.2
  go_enter Tryz.func269, Tryz.ntmps269
  go_wp2_with (first
    | (go_at_call 274; refine (is_any _ _ (B8.lo (by assumption)) (B8.hi (by assumption)) _).mono ?_; rintro e w' ⟨rfl, rfl⟩)
    | (go_at_call 320; refine (entering_any _ _ _ _).mono ?_; rintro e w' ⟨B, F, O, M, rfl, ⟨⟨c1, c2, c3⟩, hm⟩, hb⟩; have hl := look_5 hm))
  have k0 : w'.cell? ⟨w.heap.size, 0, none⟩ = some (.int .i64 (-1)) := cell_kept (new3 w _ _ _ _).1 hb
  have k2 : w'.cell? ⟨w.heap.size, 2, none⟩ = some (.int .i64 7) := cell_kept (new3 w _ _ _ _).2.2 hb
  have hsz := hb.size
  simp only [World.size_alloc] at hsz
  have hs : w'.cell? ⟨w.heap.size, 0, none⟩ = some (.int .i64 (-1)) ∧ w'.cell? ⟨w.heap.size, 2, none⟩ = some (.int .i64 7) ∧ w'.cell? ⟨B, 0, none⟩ = some (.int .u8 b) := ⟨k0, k2, c1⟩
  have hb0 : Below w.heap.size w w' := (by repeat (first | exact Below.refl _ _ | assumption | refine bstep ?_ (by assumption) | refine Below.drew ?_ | refine Below.alloc ?_ (by first | (simp; done) | (simp; omega) | omega) _ | refine Below.setCell ?_ (by first | (simp; done) | (simp; omega) | omega) _))
  clear hb k0 k2 c1 c2 c3 hl hm d0 d1 d2 d3 d4 d5 ka
  go_region_held3 (fun w' => w'.cell? ⟨w.heap.size, 0, none⟩ = some (.int .i64 (-1)) ∧ w'.cell? ⟨w.heap.size, 2, none⟩ = some (.int .i64 7) ∧ w'.cell? ⟨B, 0, none⟩ = some (.int .u8 b)) (first | go_keep | exact hold3 hb (by assumption))
    (first
    | (go_at_call 321; refine (turn_any _ _ (B8.lo (by assumption)) (B8.hi (by assumption)) _).mono ?_; rintro e w' ⟨rfl, hb⟩; have hsz := hb.size)
    | (go_at_call 349; refine (fnTop_any B b hB _ (last3 (by assumption))).mono ?_; rintro e w' ⟨rfl, rfl⟩)
    | (go_at_call 227; refine (with_any _ _ _ (B8.lo (by assumption)) (B8.hi (by assumption)) _).mono ?_; rintro e w' ⟨rfl, rfl⟩))
  go_wp2_with fail
  go_ret3
  exact ⟨rfl, (by repeat (first | exact Below.refl _ _ | assumption | refine bstep ?_ (by assumption) | refine Below.drew ?_ | refine Below.alloc ?_ (by first | (simp; done) | (simp; omega) | omega) _ | refine Below.setCell ?_ (by first | (simp; done) | (simp; omega) | omega) _))⟩
theorem move_6 (b f : Int) (hb : B8 b) (hf : B8 f) (w : World) (hd : Courses w) :
    Calls Tryz.prog 269 #[.int .i64 6, .int .u8 b, .int .u8 f] w fun e w' => e = .returned (moved (shM 6 b f) (soutM 6 b) true) ∧ Below w.heap.size w w' := by
  have hB := hb
  clear hb
  obtain ⟨d0, d1, d2, d3, d4, d5⟩ := hd
  have ka := and1_i64 6
  simp only [show (6 : Int) % 2 = 0 by decide] at ka
  have ht : B8 (turnM b 1) := turnM_byte b 1 hB.1 hB.2
  go_enter Tryz.func269, Tryz.ntmps269
  go_wp2_with (first
    | (go_at_call 274; refine (is_any _ _ (B8.lo (by assumption)) (B8.hi (by assumption)) _).mono ?_; rintro e w' ⟨rfl, rfl⟩)
    | (go_at_call 320; refine (entering_any _ _ _ _).mono ?_; rintro e w' ⟨B, F, O, M, rfl, ⟨⟨c1, c2, c3⟩, hm⟩, hb⟩; have hl := look_6 hm))
  have k0 : w'.cell? ⟨w.heap.size, 0, none⟩ = some (.int .i64 1) := cell_kept (new3 w _ _ _ _).1 hb
  have k2 : w'.cell? ⟨w.heap.size, 2, none⟩ = some (.int .i64 0) := cell_kept (new3 w _ _ _ _).2.2 hb
  have hsz := hb.size
  simp only [World.size_alloc] at hsz
  have hs : w'.cell? ⟨w.heap.size, 0, none⟩ = some (.int .i64 1) ∧ w'.cell? ⟨w.heap.size, 2, none⟩ = some (.int .i64 0) ∧ w'.cell? ⟨O, 0, none⟩ = some (.bool (isM b 7)) := ⟨k0, k2, c3⟩
  have hb0 : Below w.heap.size w w' := (by repeat (first | exact Below.refl _ _ | assumption | refine bstep ?_ (by assumption) | refine Below.drew ?_ | refine Below.alloc ?_ (by first | (simp; done) | (simp; omega) | omega) _ | refine Below.setCell ?_ (by first | (simp; done) | (simp; omega) | omega) _))
  clear hb k0 k2 c1 c2 c3 hl hm d0 d1 d2 d3 d4 d5 ka
  go_region_held3 (fun w' => w'.cell? ⟨w.heap.size, 0, none⟩ = some (.int .i64 1) ∧ w'.cell? ⟨w.heap.size, 2, none⟩ = some (.int .i64 0) ∧ w'.cell? ⟨O, 0, none⟩ = some (.bool (isM b 7))) (first | go_keep | exact hold3 hb (by assumption))
    (first
    | (go_at_call 321; refine (turn_any _ _ (B8.lo (by assumption)) (B8.hi (by assumption)) _).mono ?_; rintro e w' ⟨rfl, hb⟩; have hsz := hb.size)
    | (go_at_call 350; refine (fnOne_any _).mono ?_; rintro e w' ⟨rfl, rfl⟩)
    | (go_at_call 227; refine (with_any _ _ _ (B8.lo (by assumption)) (B8.hi (by assumption)) _).mono ?_; rintro e w' ⟨rfl, rfl⟩))
  go_wp2_with fail
  go_ret3
  exact ⟨rfl, (by repeat (first | exact Below.refl _ _ | assumption | refine bstep ?_ (by assumption) | refine Below.drew ?_ | refine Below.alloc ?_ (by first | (simp; done) | (simp; omega) | omega) _ | refine Below.setCell ?_ (by first | (simp; done) | (simp; omega) | omega) _))⟩
theorem move_7 (b f : Int) (hb : B8 b) (hf : B8 f) (w : World) (hd : Courses w) :
    Calls Tryz.prog 269 #[.int .i64 7, .int .u8 b, .int .u8 f] w fun e w' => e = .returned (moved (shM 7 b f) (soutM 7 b) true) ∧ Below w.heap.size w w' := by
  have hB := hb
  clear hb
  obtain ⟨d0, d1, d2, d3, d4, d5⟩ := hd
  have ka := and1_i64 7
  simp only [show (7 : Int) % 2 = 1 by decide] at ka
  have ht : B8 (turnM b (-1)) := turnM_byte b (-1) hB.1 hB.2
  go_enter Tryz.func269, Tryz.ntmps269
  go_wp2_with (first
    | (go_at_call 274; refine (is_any _ _ (B8.lo (by assumption)) (B8.hi (by assumption)) _).mono ?_; rintro e w' ⟨rfl, rfl⟩)
    | (go_at_call 320; refine (entering_any _ _ _ _).mono ?_; rintro e w' ⟨B, F, O, M, rfl, ⟨⟨c1, c2, c3⟩, hm⟩, hb⟩; have hl := look_7 hm))
  have k0 : w'.cell? ⟨w.heap.size, 0, none⟩ = some (.int .i64 (-1)) := cell_kept (new3 w _ _ _ _).1 hb
  have k2 : w'.cell? ⟨w.heap.size, 2, none⟩ = some (.int .i64 7) := cell_kept (new3 w _ _ _ _).2.2 hb
  have hsz := hb.size
  simp only [World.size_alloc] at hsz
  have hs : w'.cell? ⟨w.heap.size, 0, none⟩ = some (.int .i64 (-1)) ∧ w'.cell? ⟨w.heap.size, 2, none⟩ = some (.int .i64 7) ∧ w'.cell? ⟨O, 0, none⟩ = some (.bool (isM b 0)) := ⟨k0, k2, c3⟩
  have hb0 : Below w.heap.size w w' := (by repeat (first | exact Below.refl _ _ | assumption | refine bstep ?_ (by assumption) | refine Below.drew ?_ | refine Below.alloc ?_ (by first | (simp; done) | (simp; omega) | omega) _ | refine Below.setCell ?_ (by first | (simp; done) | (simp; omega) | omega) _))
  clear hb k0 k2 c1 c2 c3 hl hm d0 d1 d2 d3 d4 d5 ka
  go_region_held3 (fun w' => w'.cell? ⟨w.heap.size, 0, none⟩ = some (.int .i64 (-1)) ∧ w'.cell? ⟨w.heap.size, 2, none⟩ = some (.int .i64 7) ∧ w'.cell? ⟨O, 0, none⟩ = some (.bool (isM b 0))) (first | go_keep | exact hold3 hb (by assumption))
    (first
    | (go_at_call 321; refine (turn_any _ _ (B8.lo (by assumption)) (B8.hi (by assumption)) _).mono ?_; rintro e w' ⟨rfl, hb⟩; have hsz := hb.size)
    | (go_at_call 348; refine (fnZero_any _).mono ?_; rintro e w' ⟨rfl, rfl⟩)
    | (go_at_call 227; refine (with_any _ _ _ (B8.lo (by assumption)) (B8.hi (by assumption)) _).mono ?_; rintro e w' ⟨rfl, rfl⟩))
  go_wp2_with fail
  go_ret3
  exact ⟨rfl, (by repeat (first | exact Below.refl _ _ | assumption | refine bstep ?_ (by assumption) | refine Below.drew ?_ | refine Below.alloc ?_ (by first | (simp; done) | (simp; omega) | omega) _ | refine Below.setCell ?_ (by first | (simp; done) | (simp; omega) | omega) _))⟩
theorem move_yes (k b f : Int) (h0 : 0 ≤ k) (h1 : k < 8) (hb : B8 b) (hf : B8 f) (w : World) (hd : Courses w) :
    Calls Tryz.prog 269 #[.int .i64 k, .int .u8 b, .int .u8 f] w fun e w' => e = .returned (moved (shM k b f) (soutM k b) true) ∧ Below w.heap.size w w' := by
  obtain rfl | rfl | rfl | rfl | rfl | rfl | rfl | rfl : k = 0 ∨ k = 1 ∨ k = 2 ∨ k = 3 ∨ k = 4 ∨ k = 5 ∨ k = 6 ∨ k = 7 := by omega
  · exact move_0 b f hb hf w hd
  · exact move_1 b f hb hf w hd
  · exact move_2 b f hb hf w hd
  · exact move_3 b f hb hf w hd
  · exact move_4 b f hb hf w hd
  · exact move_5 b f hb hf w hd
  · exact move_6 b f hb hf w hd
  · exact move_7 b f hb hf w hd
theorem move_no (k b f : Int) (hk : k < 0 ∨ 8 ≤ k) (hb : B8 b) (hf : B8 f) (w : World) (hd : Courses w) :
    Calls Tryz.prog 269 #[.int .i64 k, .int .u8 b, .int .u8 f] w fun e w' => e = .returned (moved 0 false false) ∧ Below w.heap.size w w' := by
  have hB := hb
  clear hb
  obtain ⟨d0, d1, d2, d3, d4, d5⟩ := hd
  have ka := and1_i64 k
  have hk := Lib.hid hk
  obtain h2 | h2 : k % 2 = 0 ∨ k % 2 = 1 := by omega
  all_goals
    rw [h2] at ka
    clear h2
    go_enter Tryz.func269, Tryz.ntmps269
    go_wp2_with (first
      | (go_at_call 274; refine (is_any _ _ (B8.lo (by assumption)) (B8.hi (by assumption)) _).mono ?_; rintro e w' ⟨rfl, rfl⟩)
      | (go_at_call 320; refine (entering_any _ _ _ _).mono ?_; rintro e w' ⟨B, F, O, M, rfl, ⟨⟨c1, c2, c3⟩, hm⟩, hb⟩; have hl := look_no hk.out hm))
    go_ret3
    have hsz := hb.size
    simp only [World.size_alloc] at hsz
    exact ⟨rfl, (by repeat (first | exact Below.refl _ _ | assumption | refine bstep ?_ (by assumption) | refine Below.drew ?_ | refine Below.alloc ?_ (by first | (simp; done) | (simp; omega) | omega) _ | refine Below.setCell ?_ (by first | (simp; done) | (simp; omega) | omega) _))⟩
@[reducible] def cyC (c : Cy) : Array Value := #[.int .i64 c.kind, .int .u16 c.addr, .int .u8 c.data, .int .i64 c.t]
@[reducible] def cyV (c : Cy) : Value := .agg (cyC c)
def zeroCy : Cy := ⟨0, 0, 0, 0⟩
def zeroRg : Rg := ⟨0, 0, 0, 0, 0, 0, 0, 0, 0, 0, 0, 0, 0, 0, 0, false, false, false, false, 0⟩
def Modes (w : World) : Prop := w.cell? ⟨0, 0, none⟩ = some (.int .i64 0) ∧ w.cell? ⟨0, 1, none⟩ = some (.int .i64 0) ∧ w.cell? ⟨0, 2, none⟩ = some (.int .i64 1) ∧ w.cell? ⟨0, 3, none⟩ = some (.int .i64 2)
structure Tabs (w : World) (B : Nat) : Prop where
  masks : Masks w
  courses : Courses w
  digits : Digits w
  modes : Modes w
  gMasks : 2 < B
  gCourses : 1 < B
  gDigits : 3 < B
  gModes : 0 < B
theorem Tabs.keep {w w' : World} {B : Nat} (h : Tabs w B) (k : ∀ b, b < B → w'.heap[b]? = w.heap[b]?) : Tabs w' B := by
  have c : ∀ g i V, g < B → w.cell? ⟨g, i, none⟩ = some V → w'.cell? ⟨g, i, none⟩ = some V := fun g i V hg hc => (World.cell?_of_block (k g hg)).trans hc
  obtain ⟨m, cs, d, mo, g1, g2, g3, g4⟩ := h
  refine ⟨?_, ?_, ?_, ?_, g1, g2, g3, g4⟩
  · unfold Masks at m ⊢; simp only [c _ _ _ g1 m.1, c _ _ _ g1 m.2.1, c _ _ _ g1 m.2.2.1, c _ _ _ g1 m.2.2.2, and_self]
  · unfold Courses at cs ⊢; simp only [c _ _ _ g2 cs.1, c _ _ _ g2 cs.2.1, c _ _ _ g2 cs.2.2.1, c _ _ _ g2 cs.2.2.2.1, c _ _ _ g2 cs.2.2.2.2.1, c _ _ _ g2 cs.2.2.2.2.2, and_self]
  · unfold Digits at d ⊢; simp only [c _ _ _ g3 d.1, c _ _ _ g3 d.2.1, c _ _ _ g3 d.2.2.1, c _ _ _ g3 d.2.2.2.1, c _ _ _ g3 d.2.2.2.2.1, c _ _ _ g3 d.2.2.2.2.2.1, c _ _ _ g3 d.2.2.2.2.2.2.1, c _ _ _ g3 d.2.2.2.2.2.2.2, and_self]
  · unfold Modes at mo ⊢; simp only [c _ _ _ g4 mo.1, c _ _ _ g4 mo.2.1, c _ _ _ g4 mo.2.2.1, c _ _ _ g4 mo.2.2.2, and_self]
theorem Besides.drew {A S : Nat} {a w : World} (h : Besides A S a w) : Besides A S a w.drew := ⟨h.os, h.tape, h.output, h.size, h.block⟩
theorem Besides.setCells {A S : Nat} {a : World} {b : Nat} (hb : b = A ∨ b = S ∨ a.heap.size ≤ b) : ∀ (vs : List Value) (o : Nat) {w : World}, Besides A S a w → Besides A S a (w.setCells b o vs)
  | [], _, _, h => h
  | v :: r, o, _, h => Besides.setCells hb r (o + 1) (h.setCell (p := ⟨b, o, none⟩) hb v)
theorem Row.drew {w : World} {g : Nat} {t : TypeId} {cs : Array Value} (h : Row w g t cs) : Row w.drew g t cs := h
theorem BytesIn.drew {w : World} {B : Nat} {A : Option Addr} {xs : List Int} (h : BytesIn w B A xs) : BytesIn w.drew B A xs := h
@[reducible] def mC (s : Ms) (A : Option Addr) (n cap : Nat) : Array Value := #[.int .u16 s.r.af, .int .u16 s.r.bc, .int .u16 s.r.de, .int .u16 s.r.hl, .int .u16 s.r.af2, .int .u16 s.r.bc2, .int .u16 s.r.de2, .int .u16 s.r.hl2, .int .u16 s.r.ix, .int .u16 s.r.iy, .int .u16 s.r.sp, .int .u16 s.r.pc, .int .u16 s.r.wz, .int .u8 s.r.i, .int .u8 s.r.r, .bool s.r.iff1, .bool s.r.iff2, .bool s.r.halted, .bool s.r.late, .int .i64 s.r.mode, .slice A n cap, .int .i64 s.plane, .int .i64 s.x, .int .i64 s.y, .int .i64 s.z, .int .i64 s.p, .int .i64 s.q, .int .u16 s.spot, .bool s.near]
structure AtN (w : World) (p B : Nat) (s : Ms) (xs : List Int) : Prop where
  row : ∃ A cap, xs.length ≤ cap ∧ Row w p 111 (mC s A xs.length cap) ∧ BytesIn w B A xs
  low : B ≤ p
  bytes : Bytes8 xs
  ms : MsB s
  tabs : Tabs w B
theorem AtN.lt {w : World} {p B : Nat} {s : Ms} {xs : List Int} (h : AtN w p B s xs) : p < w.heap.size := by
  obtain ⟨A, cap, hc, hr, hb⟩ := h.row
  exact hr.lt
theorem AtN.below {w w' : World} {p B : Nat} {s : Ms} {xs : List Int} (h : AtN w p B s xs) (k : Below w.heap.size w w') : AtN w' p B s xs := by
  have hp := h.lt
  obtain ⟨⟨A, cap, hc, hr, hb⟩, hl, h8, hm, ht⟩ := h
  exact ⟨⟨A, cap, hc, hr.below k hp, hb.keep fun b hlt => k.block b (by omega)⟩, hl, h8, hm, ht.keep fun b hlt => k.block b (by omega)⟩
theorem AtN.drew {w : World} {p B : Nat} {s : Ms} {xs : List Int} (h : AtN w p B s xs) : AtN w.drew p B s xs := by
  obtain ⟨⟨A, cap, hc, hr, hb⟩, hl, h8, hm, ht⟩ := h
  exact ⟨⟨A, cap, hc, hr, hb⟩, hl, h8, hm, ht.keep fun _ _ => rfl⟩
theorem AtN.cell {w : World} {p B : Nat} {s : Ms} {xs : List Int} (h : AtN w p B s xs) (i : Nat) (V : Value) (hV : ∀ A n cap, (mC s A n cap)[i]? = some V) : w.cell? ⟨p, i, none⟩ = some V := by
  obtain ⟨A, cap, hc, hr, hb⟩ := h.row
  rw [hr.cell i]
  exact hV ..
theorem AtN.frozen {w : World} {p B : Nat} {s : Ms} {xs : List Int} (h : AtN w p B s xs) (i : Nat) : w.frozen? ⟨p, i, none⟩ = false := by
  obtain ⟨A, cap, hc, hr, hb⟩ := h.row
  exact hr.frozen i
theorem AtN.regs {w : World} {p B : Nat} {s : Ms} {xs : List Int} (h : AtN w p B s xs) : w.rangeAt p 0 (regsC s.r).toList := by
  obtain ⟨A, cap, hc, hr, hb⟩ := h.row
  intro j v hv
  rw [Nat.zero_add, hr.cell j]
  have hj : j < 20 := (List.getElem?_eq_some_iff.1 hv).1
  revert hv
  match j, hj with

  | 0, _ => exact id
  | 1, _ => exact id
  | 2, _ => exact id
  | 3, _ => exact id
  | 4, _ => exact id
  | 5, _ => exact id
  | 6, _ => exact id
  | 7, _ => exact id
  | 8, _ => exact id
  | 9, _ => exact id
  | 10, _ => exact id
  | 11, _ => exact id
  | 12, _ => exact id
  | 13, _ => exact id
  | 14, _ => exact id
  | 15, _ => exact id
  | 16, _ => exact id
  | 17, _ => exact id
  | 18, _ => exact id
  | 19, _ => exact id
  | n + 20, h => omega
theorem AtN.set {w : World} {p B : Nat} {s : Ms} {xs : List Int} (h : AtN w p B s xs) (i : Nat) (v : Value) (s' : Ms) (hs : ∀ A n cap, (mC s A n cap).setIfInBounds i v = mC s' A n cap) (hb : MsB s') : AtN (w.setCell ⟨p, i, none⟩ v) p B s' xs := by
  have hp := h.lt
  obtain ⟨⟨A, cap, hc, hr, hby⟩, hl, h8, hm, ht⟩ := h
  have k : ∀ b, b < B → (w.setCell ⟨p, i, none⟩ v).heap[b]? = w.heap[b]? := fun b hlt => Below.heap_setCell w _ v b (by show b ≠ p; omega)
  refine ⟨⟨A, cap, hc, ?_, hby.keep k⟩, hl, h8, hb, ht.keep k⟩
  have := hr.set i v
  rwa [hs] at this
theorem heap_setCells (b : Nat) (c : Nat) (hb : c ≠ b) : ∀ (vs : List Value) (o : Nat) (w : World), (w.setCells b o vs).heap[c]? = w.heap[c]?
  | [], _, _ => rfl
  | v :: r, o, w => (heap_setCells b c hb r (o + 1) _).trans (Below.heap_setCell w ⟨b, o, none⟩ v c hb)
structure NowN (w0 : World) (p B : Nat) (s : Ms) (xs : List Int) (w : World) : Prop where
  at_ : AtN w p B s xs
  bes : Besides p p w0 w
theorem NowN.begin {w : World} {p B : Nat} {s : Ms} {xs : List Int} (h : AtN w p B s xs) : NowN w p B s xs w := ⟨h, .refl ..⟩
theorem NowN.below {w0 w w' : World} {p B : Nat} {s : Ms} {xs : List Int} (h : NowN w0 p B s xs w) (k : Below w.heap.size w w') : NowN w0 p B s xs w' := ⟨h.at_.below k, h.bes.trans (.of_below k)⟩
theorem NowN.drew {w0 w : World} {p B : Nat} {s : Ms} {xs : List Int} (h : NowN w0 p B s xs w) : NowN w0 p B s xs w.drew := ⟨h.at_.drew, h.bes.drew⟩
theorem NowN.set {w0 w : World} {p B : Nat} {s : Ms} {xs : List Int} (h : NowN w0 p B s xs w) (i : Nat) (v : Value) (s' : Ms) (hs : ∀ A n cap, (mC s A n cap).setIfInBounds i v = mC s' A n cap) (hb : MsB s') : NowN w0 p B s' xs (w.setCell ⟨p, i, none⟩ v) :=
  ⟨h.at_.set i v s' hs hb, h.bes.setCell (.inl rfl) v⟩
def kB : IntKind → Int → Prop
  | .u8, v => B8 v
  | .u16, v => Wd16 v
  | _, _ => True
def CyW (c : Cy) : Prop := Wd16 c.addr ∧ B8 c.data
structure BesC (p : Nat) (c : Cy) (w w' : World) : Prop where
  bes : Besides p p w w'
  cyw : CyW c
theorem BesC.after {p : Nat} {c : Cy} {a b d : World} (k : BesC p c b d) (h : Besides p p a b) : BesC p c a d := ⟨h.trans k.bes, k.cyw⟩
def OutI (w0 : World) (p B : Nat) (k : IntKind) : Except Cy ((Int × Ms) × List Int) → Ending → World → Prop
  | .ok ((v, s), ys), e, w' => e = .returned (.int k v) ∧ kB k v ∧ NowN w0 p B s ys w'
  | .error c, e, w' => e = .panicked [{ v := .iface 54 (cyV c), recovered := false }] ∧ BesC p c w0 w'
def OutV (w0 : World) (p B : Nat) : Except Cy (Ms × List Int) → Ending → World → Prop
  | .ok (s, ys), e, w' => e = .returned (.tuple #[]) ∧ NowN w0 p B s ys w'
  | .error c, e, w' => e = .panicked [{ v := .iface 54 (cyV c), recovered := false }] ∧ BesC p c w0 w'
theorem OutI.ok {w0 w : World} {p B : Nat} {k : IntKind} {X : Except Cy ((Int × Ms) × List Int)} {v : Int} {s : Ms} {ys : List Int} (h : X = .ok ((v, s), ys)) (hk : kB k v) (hn : NowN w0 p B s ys w) : OutI w0 p B k X (.returned (.int k v)) w := by
  subst h
  exact ⟨rfl, hk, hn⟩
theorem OutI.err {w0 w : World} {p B : Nat} {k : IntKind} {X : Except Cy ((Int × Ms) × List Int)} {c : Cy} (h : X = .error c) (hb : BesC p c w0 w) : OutI w0 p B k X (.panicked [{ v := .iface 54 (cyV c), recovered := false }]) w := by
  subst h
  exact ⟨rfl, hb⟩
theorem OutV.ok {w0 w : World} {p B : Nat} {X : Except Cy (Ms × List Int)} {s : Ms} {ys : List Int} (h : X = .ok (s, ys)) (hn : NowN w0 p B s ys w) : OutV w0 p B X (.returned (.tuple #[])) w := by
  subst h
  exact ⟨rfl, hn⟩
theorem OutV.err {w0 w : World} {p B : Nat} {X : Except Cy (Ms × List Int)} {c : Cy} (h : X = .error c) (hb : BesC p c w0 w) : OutV w0 p B X (.panicked [{ v := .iface 54 (cyV c), recovered := false }]) w := by
  subst h
  exact ⟨rfl, hb⟩
theorem NowN.after {w0 w w' : World} {p B : Nat} {s s' : Ms} {xs xs' : List Int} (h : NowN w0 p B s xs w) (k : NowN w p B s' xs' w') : NowN w0 p B s' xs' w' := ⟨k.at_, h.bes.trans k.bes⟩
section
variable {ops : Array Oper} {Q : Exit → Act → World → Prop} {a : Act} {w w0 : World} {o : Oper} {rest : List Oper} {p B : Nat} {s0 : Ms} {xs0 : List Int}
theorem sCallI {k : IntKind} {X : Except Cy ((Int × Ms) × List Int)} {g : FuncId} {args : Array Value} (hn : NowN w0 p B s0 xs0 w) (hg : o.guard = none) (he : (execOp a.eval o).run Tryz.prog w = .ok (.enter g args) w) (hc : Calls Tryz.prog g args w (OutI w p B k X))
    (hP : ∀ c w', X = .error c → BesC p c w0 w' → Q (.panic [{ v := .iface 54 (cyV c), recovered := false }]) a w')
    (hK : ∀ v s ys w', X = .ok ((v, s), ys) → kB k v → NowN w0 p B s ys w' → WL Tryz.prog ops Q rest (a.put o.dst (.int k v)) w') : WL Tryz.prog ops Q (o :: rest) a w :=
  list_call (wantedN hg) he hc fun e w' ho => by
    rcases X with c | ⟨⟨v, s⟩, ys⟩
    · obtain ⟨rfl, hb⟩ := ho
      exact hP c w' rfl (hb.after hn.bes)
    · obtain ⟨rfl, hk, hN⟩ := ho
      exact hK v s ys w' rfl hk (hn.after hN)
theorem sCallV {X : Except Cy (Ms × List Int)} {g : FuncId} {args : Array Value} (hn : NowN w0 p B s0 xs0 w) (hg : o.guard = none) (he : (execOp a.eval o).run Tryz.prog w = .ok (.enter g args) w) (hc : Calls Tryz.prog g args w (OutV w p B X))
    (hP : ∀ c w', X = .error c → BesC p c w0 w' → Q (.panic [{ v := .iface 54 (cyV c), recovered := false }]) a w')
    (hK : ∀ s ys w', X = .ok (s, ys) → NowN w0 p B s ys w' → WL Tryz.prog ops Q rest (a.put o.dst (.tuple #[])) w') : WL Tryz.prog ops Q (o :: rest) a w :=
  list_call (wantedN hg) he hc fun e w' ho => by
    rcases X with c | ⟨s, ys⟩
    · obtain ⟨rfl, hb⟩ := ho
      exact hP c w' rfl (hb.after hn.bes)
    · obtain ⟨rfl, hN⟩ := ho
      exact hK s ys w' rfl (hn.after hN)
end
def Ms.u_af (s : Ms) (v : Int) : Ms := { s with r := { s.r with af := v } }
theorem MsB.u_af {s : Ms} (h : MsB s) {v : Int} (hv : Wd16 v) : MsB (s.u_af v) := ⟨⟨hv, h.r.bc, h.r.de, h.r.hl, h.r.af2, h.r.bc2, h.r.de2, h.r.hl2, h.r.ix, h.r.iy, h.r.sp, h.r.pc, h.r.wz, h.r.i, h.r.r, h.r.mode⟩, h.plane, h.x, h.y, h.z, h.p, h.q, h.spot⟩
def Ms.u_bc (s : Ms) (v : Int) : Ms := { s with r := { s.r with bc := v } }
theorem MsB.u_bc {s : Ms} (h : MsB s) {v : Int} (hv : Wd16 v) : MsB (s.u_bc v) := ⟨⟨h.r.af, hv, h.r.de, h.r.hl, h.r.af2, h.r.bc2, h.r.de2, h.r.hl2, h.r.ix, h.r.iy, h.r.sp, h.r.pc, h.r.wz, h.r.i, h.r.r, h.r.mode⟩, h.plane, h.x, h.y, h.z, h.p, h.q, h.spot⟩
def Ms.u_de (s : Ms) (v : Int) : Ms := { s with r := { s.r with de := v } }
theorem mu_de (s : Ms) (v : Int) (A : Option Addr) (n cap : Nat) : (mC s A n cap).setIfInBounds 2 (.int .u16 v) = mC (s.u_de v) A n cap := rfl
theorem MsB.u_de {s : Ms} (h : MsB s) {v : Int} (hv : Wd16 v) : MsB (s.u_de v) := ⟨⟨h.r.af, h.r.bc, hv, h.r.hl, h.r.af2, h.r.bc2, h.r.de2, h.r.hl2, h.r.ix, h.r.iy, h.r.sp, h.r.pc, h.r.wz, h.r.i, h.r.r, h.r.mode⟩, h.plane, h.x, h.y, h.z, h.p, h.q, h.spot⟩
def Ms.u_hl (s : Ms) (v : Int) : Ms := { s with r := { s.r with hl := v } }
theorem mu_hl (s : Ms) (v : Int) (A : Option Addr) (n cap : Nat) : (mC s A n cap).setIfInBounds 3 (.int .u16 v) = mC (s.u_hl v) A n cap := rfl
theorem MsB.u_hl {s : Ms} (h : MsB s) {v : Int} (hv : Wd16 v) : MsB (s.u_hl v) := ⟨⟨h.r.af, h.r.bc, h.r.de, hv, h.r.af2, h.r.bc2, h.r.de2, h.r.hl2, h.r.ix, h.r.iy, h.r.sp, h.r.pc, h.r.wz, h.r.i, h.r.r, h.r.mode⟩, h.plane, h.x, h.y, h.z, h.p, h.q, h.spot⟩
def Ms.u_sp (s : Ms) (v : Int) : Ms := { s with r := { s.r with sp := v } }
theorem MsB.u_sp {s : Ms} (h : MsB s) {v : Int} (hv : Wd16 v) : MsB (s.u_sp v) := ⟨⟨h.r.af, h.r.bc, h.r.de, h.r.hl, h.r.af2, h.r.bc2, h.r.de2, h.r.hl2, h.r.ix, h.r.iy, hv, h.r.pc, h.r.wz, h.r.i, h.r.r, h.r.mode⟩, h.plane, h.x, h.y, h.z, h.p, h.q, h.spot⟩
def Ms.u_pc (s : Ms) (v : Int) : Ms := { s with r := { s.r with pc := v } }
theorem MsB.u_pc {s : Ms} (h : MsB s) {v : Int} (hv : Wd16 v) : MsB (s.u_pc v) := ⟨⟨h.r.af, h.r.bc, h.r.de, h.r.hl, h.r.af2, h.r.bc2, h.r.de2, h.r.hl2, h.r.ix, h.r.iy, h.r.sp, hv, h.r.wz, h.r.i, h.r.r, h.r.mode⟩, h.plane, h.x, h.y, h.z, h.p, h.q, h.spot⟩
def Ms.u_wz (s : Ms) (v : Int) : Ms := { s with r := { s.r with wz := v } }
theorem mu_wz (s : Ms) (v : Int) (A : Option Addr) (n cap : Nat) : (mC s A n cap).setIfInBounds 12 (.int .u16 v) = mC (s.u_wz v) A n cap := rfl
theorem MsB.u_wz {s : Ms} (h : MsB s) {v : Int} (hv : Wd16 v) : MsB (s.u_wz v) := ⟨⟨h.r.af, h.r.bc, h.r.de, h.r.hl, h.r.af2, h.r.bc2, h.r.de2, h.r.hl2, h.r.ix, h.r.iy, h.r.sp, h.r.pc, hv, h.r.i, h.r.r, h.r.mode⟩, h.plane, h.x, h.y, h.z, h.p, h.q, h.spot⟩
def Ms.u_i (s : Ms) (v : Int) : Ms := { s with r := { s.r with i := v } }
theorem MsB.u_i {s : Ms} (h : MsB s) {v : Int} (hv : B8 v) : MsB (s.u_i v) := ⟨⟨h.r.af, h.r.bc, h.r.de, h.r.hl, h.r.af2, h.r.bc2, h.r.de2, h.r.hl2, h.r.ix, h.r.iy, h.r.sp, h.r.pc, h.r.wz, hv, h.r.r, h.r.mode⟩, h.plane, h.x, h.y, h.z, h.p, h.q, h.spot⟩
def Ms.u_r (s : Ms) (v : Int) : Ms := { s with r := { s.r with r := v } }
theorem MsB.u_r {s : Ms} (h : MsB s) {v : Int} (hv : B8 v) : MsB (s.u_r v) := ⟨⟨h.r.af, h.r.bc, h.r.de, h.r.hl, h.r.af2, h.r.bc2, h.r.de2, h.r.hl2, h.r.ix, h.r.iy, h.r.sp, h.r.pc, h.r.wz, h.r.i, hv, h.r.mode⟩, h.plane, h.x, h.y, h.z, h.p, h.q, h.spot⟩
def Ms.u_iff1 (s : Ms) (v : Bool) : Ms := { s with r := { s.r with iff1 := v } }
theorem MsB.u_iff1 {s : Ms} (h : MsB s) {v : Bool} : MsB (s.u_iff1 v) := ⟨⟨h.r.af, h.r.bc, h.r.de, h.r.hl, h.r.af2, h.r.bc2, h.r.de2, h.r.hl2, h.r.ix, h.r.iy, h.r.sp, h.r.pc, h.r.wz, h.r.i, h.r.r, h.r.mode⟩, h.plane, h.x, h.y, h.z, h.p, h.q, h.spot⟩
def Ms.u_iff2 (s : Ms) (v : Bool) : Ms := { s with r := { s.r with iff2 := v } }
theorem MsB.u_iff2 {s : Ms} (h : MsB s) {v : Bool} : MsB (s.u_iff2 v) := ⟨⟨h.r.af, h.r.bc, h.r.de, h.r.hl, h.r.af2, h.r.bc2, h.r.de2, h.r.hl2, h.r.ix, h.r.iy, h.r.sp, h.r.pc, h.r.wz, h.r.i, h.r.r, h.r.mode⟩, h.plane, h.x, h.y, h.z, h.p, h.q, h.spot⟩
def Ms.u_halted (s : Ms) (v : Bool) : Ms := { s with r := { s.r with halted := v } }
theorem MsB.u_halted {s : Ms} (h : MsB s) {v : Bool} : MsB (s.u_halted v) := ⟨⟨h.r.af, h.r.bc, h.r.de, h.r.hl, h.r.af2, h.r.bc2, h.r.de2, h.r.hl2, h.r.ix, h.r.iy, h.r.sp, h.r.pc, h.r.wz, h.r.i, h.r.r, h.r.mode⟩, h.plane, h.x, h.y, h.z, h.p, h.q, h.spot⟩
def Ms.u_late (s : Ms) (v : Bool) : Ms := { s with r := { s.r with late := v } }
theorem mu_late (s : Ms) (v : Bool) (A : Option Addr) (n cap : Nat) : (mC s A n cap).setIfInBounds 18 (.bool v) = mC (s.u_late v) A n cap := rfl
theorem MsB.u_late {s : Ms} (h : MsB s) {v : Bool} : MsB (s.u_late v) := ⟨⟨h.r.af, h.r.bc, h.r.de, h.r.hl, h.r.af2, h.r.bc2, h.r.de2, h.r.hl2, h.r.ix, h.r.iy, h.r.sp, h.r.pc, h.r.wz, h.r.i, h.r.r, h.r.mode⟩, h.plane, h.x, h.y, h.z, h.p, h.q, h.spot⟩
def Ms.u_mode (s : Ms) (v : Int) : Ms := { s with r := { s.r with mode := v } }
theorem mu_mode (s : Ms) (v : Int) (A : Option Addr) (n cap : Nat) : (mC s A n cap).setIfInBounds 19 (.int .i64 v) = mC (s.u_mode v) A n cap := rfl
theorem MsB.u_mode {s : Ms} (h : MsB s) {v : Int} (hv : -9223372036854775808 ≤ v ∧ v ≤ 9223372036854775807) : MsB (s.u_mode v) := ⟨⟨h.r.af, h.r.bc, h.r.de, h.r.hl, h.r.af2, h.r.bc2, h.r.de2, h.r.hl2, h.r.ix, h.r.iy, h.r.sp, h.r.pc, h.r.wz, h.r.i, h.r.r, hv⟩, h.plane, h.x, h.y, h.z, h.p, h.q, h.spot⟩
def Ms.u_rg (s : Ms) (g : Rg) : Ms := { s with r := g }
theorem MsB.u_rg {s : Ms} (h : MsB s) {g : Rg} (hg : RgB g) : MsB (s.u_rg g) := ⟨hg, h.plane, h.x, h.y, h.z, h.p, h.q, h.spot⟩
def Ms.u_plane (s : Ms) (v : Int) : Ms := { s with plane := v }
theorem mu_plane (s : Ms) (v : Int) (A : Option Addr) (n cap : Nat) : (mC s A n cap).setIfInBounds 21 (.int .i64 v) = mC (s.u_plane v) A n cap := rfl
theorem MsB.u_plane {s : Ms} (h : MsB s) {v : Int} (hv : v = 0 ∨ v = 3 ∨ v = 4) : MsB (s.u_plane v) := ⟨h.r, hv, h.x, h.y, h.z, h.p, h.q, h.spot⟩
def Ms.u_x (s : Ms) (v : Int) : Ms := { s with x := v }
theorem MsB.u_x {s : Ms} (h : MsB s) {v : Int} (hv : 0 ≤ v ∧ v ≤ 3) : MsB (s.u_x v) := ⟨h.r, h.plane, hv, h.y, h.z, h.p, h.q, h.spot⟩
def Ms.u_y (s : Ms) (v : Int) : Ms := { s with y := v }
theorem MsB.u_y {s : Ms} (h : MsB s) {v : Int} (hv : 0 ≤ v ∧ v ≤ 7) : MsB (s.u_y v) := ⟨h.r, h.plane, h.x, hv, h.z, h.p, h.q, h.spot⟩
def Ms.u_z (s : Ms) (v : Int) : Ms := { s with z := v }
theorem MsB.u_z {s : Ms} (h : MsB s) {v : Int} (hv : 0 ≤ v ∧ v ≤ 7) : MsB (s.u_z v) := ⟨h.r, h.plane, h.x, h.y, hv, h.p, h.q, h.spot⟩
def Ms.u_p (s : Ms) (v : Int) : Ms := { s with p := v }
theorem MsB.u_p {s : Ms} (h : MsB s) {v : Int} (hv : 0 ≤ v ∧ v ≤ 3) : MsB (s.u_p v) := ⟨h.r, h.plane, h.x, h.y, h.z, hv, h.q, h.spot⟩
def Ms.u_q (s : Ms) (v : Int) : Ms := { s with q := v }
theorem MsB.u_q {s : Ms} (h : MsB s) {v : Int} (hv : 0 ≤ v ∧ v ≤ 1) : MsB (s.u_q v) := ⟨h.r, h.plane, h.x, h.y, h.z, h.p, hv, h.spot⟩
def Ms.u_spot (s : Ms) (v : Int) : Ms := { s with spot := v }
theorem mu_spot (s : Ms) (v : Int) (A : Option Addr) (n cap : Nat) : (mC s A n cap).setIfInBounds 27 (.int .u16 v) = mC (s.u_spot v) A n cap := rfl
theorem MsB.u_spot {s : Ms} (h : MsB s) {v : Int} (hv : Wd16 v) : MsB (s.u_spot v) := ⟨h.r, h.plane, h.x, h.y, h.z, h.p, h.q, hv⟩
def Ms.u_near (s : Ms) (v : Bool) : Ms := { s with near := v }
theorem MsB.u_near {s : Ms} (h : MsB s) {v : Bool} : MsB (s.u_near v) := ⟨h.r, h.plane, h.x, h.y, h.z, h.p, h.q, h.spot⟩
theorem fR3 (b : Nat) (w : World) : (Instr.fieldAt 24 (.pointer (some ⟨b, 0, none⟩)) 3).run Tryz.prog w = .ok (.pointer (some ⟨b, 3, none⟩)) w := by simp [go_sem]
theorem fR12 (b : Nat) (w : World) : (Instr.fieldAt 24 (.pointer (some ⟨b, 0, none⟩)) 12).run Tryz.prog w = .ok (.pointer (some ⟨b, 12, none⟩)) w := by simp [go_sem]
theorem fR17 (b : Nat) (w : World) : (Instr.fieldAt 24 (.pointer (some ⟨b, 0, none⟩)) 17).run Tryz.prog w = .ok (.pointer (some ⟨b, 17, none⟩)) w := by simp [go_sem]
theorem fR18 (b : Nat) (w : World) : (Instr.fieldAt 24 (.pointer (some ⟨b, 0, none⟩)) 18).run Tryz.prog w = .ok (.pointer (some ⟨b, 18, none⟩)) w := by simp [go_sem]
theorem fR19 (b : Nat) (w : World) : (Instr.fieldAt 24 (.pointer (some ⟨b, 0, none⟩)) 19).run Tryz.prog w = .ok (.pointer (some ⟨b, 19, none⟩)) w := by simp [go_sem]
theorem fM0 (b : Nat) (w : World) : (Instr.fieldAt 111 (.pointer (some ⟨b, 0, none⟩)) 0).run Tryz.prog w = .ok (.pointer (some ⟨b, 0, none⟩)) w := by simp [go_sem]
theorem fM1 (b : Nat) (w : World) : (Instr.fieldAt 111 (.pointer (some ⟨b, 0, none⟩)) 1).run Tryz.prog w = .ok (.pointer (some ⟨b, 20, none⟩)) w := by simp [go_sem]
theorem fM2 (b : Nat) (w : World) : (Instr.fieldAt 111 (.pointer (some ⟨b, 0, none⟩)) 2).run Tryz.prog w = .ok (.pointer (some ⟨b, 21, none⟩)) w := by simp [go_sem]
theorem fM3 (b : Nat) (w : World) : (Instr.fieldAt 111 (.pointer (some ⟨b, 0, none⟩)) 3).run Tryz.prog w = .ok (.pointer (some ⟨b, 22, none⟩)) w := by simp [go_sem]
theorem fM4 (b : Nat) (w : World) : (Instr.fieldAt 111 (.pointer (some ⟨b, 0, none⟩)) 4).run Tryz.prog w = .ok (.pointer (some ⟨b, 23, none⟩)) w := by simp [go_sem]
theorem fM5 (b : Nat) (w : World) : (Instr.fieldAt 111 (.pointer (some ⟨b, 0, none⟩)) 5).run Tryz.prog w = .ok (.pointer (some ⟨b, 24, none⟩)) w := by simp [go_sem]
theorem fM7 (b : Nat) (w : World) : (Instr.fieldAt 111 (.pointer (some ⟨b, 0, none⟩)) 7).run Tryz.prog w = .ok (.pointer (some ⟨b, 26, none⟩)) w := by simp [go_sem]
theorem fM8 (b : Nat) (w : World) : (Instr.fieldAt 111 (.pointer (some ⟨b, 0, none⟩)) 8).run Tryz.prog w = .ok (.pointer (some ⟨b, 27, none⟩)) w := by simp [go_sem]
abbrev Slots := List (Nat × Value)
def lkO (base : List Value) (t : Nat) : Slots → Value
  | [] => base.getD t undef
  | e :: r => bif Nat.beq e.1 t then e.2 else lkO base t r
def ovO (base : List Value) : Slots → List Value
  | [] => base
  | e :: r => (ovO base r).set e.1 e.2
def actO (base : List Value) (l : Slots) : Act := ⟨(ovO base l).toArray, []⟩
def inO (n : Nat) : Slots → Prop
  | [] => True
  | e :: r => e.1 < n ∧ inO n r
def evO (base : List Value) (l : Slots) : Operand → Value
  | .tmp t => lkO base t l
  | .const v => v
  | .global g => .pointer (some ⟨g, 0, none⟩)
  | .func f => .func (.func f) #[] #[]
def putO (d : Option Nat) (v : Value) (l : Slots) : Slots := match d with | some d => (d, v) :: l | none => l
def dstO (d : Option Nat) (n : Nat) : Bool := match d with | some d => Nat.blt d n | none => true
theorem ovO_length (base : List Value) : ∀ l, (ovO base l).length = base.length
  | [] => rfl
  | e :: r => by rw [ovO, List.length_set]; exact ovO_length base r
theorem lkO_eq {base : List Value} (t : Nat) : ∀ {l : Slots}, inO base.length l → (ovO base l).getD t undef = lkO base t l
  | [], _ => rfl
  | e :: r, h => by
    rw [ovO, lkO]
    by_cases he : e.1 = t
    · subst he
      rw [show Nat.beq e.1 e.1 = true from Nat.beq_refl _, cond_true, List.getD_eq_getElem?_getD, List.getElem?_set_self (by rw [ovO_length]; exact h.1)]
      rfl
    · rw [show Nat.beq e.1 t = false from Bool.eq_false_iff.2 fun h => he (Nat.eq_of_beq_eq_true h), cond_false, List.getD_eq_getElem?_getD, List.getElem?_set_ne he, ← List.getD_eq_getElem?_getD]
      exact lkO_eq t h.2
theorem evO_eq {base : List Value} {l : Slots} (h : inO base.length l) : (actO base l).eval = evO base l := by
  funext x
  cases x with
  | tmp t =>
    show (ovO base l).toArray.getD t undef = lkO base t l
    rw [← lkO_eq t h]
    simp [Array.getD_eq_getD_getElem?, List.getD_eq_getElem?_getD]
  | _ => rfl
theorem put_actO (base : List Value) (l : Slots) (d : Option Nat) (v : Value) : (actO base l).put d v = actO base (putO d v l) := by
  cases d with
  | none => rfl
  | some d => simp [Act.put, actO, putO, ovO]
theorem inO_put {n : Nat} {d : Option Nat} {v : Value} {l : Slots} (hd : dstO d n = true) (h : inO n l) : inO n (putO d v l) := by
  cases d with
  | none => exact h
  | some d => exact ⟨by simpa [dstO, Nat.blt_eq] using hd, h⟩
structure WO (P : Program) (ops : Array Oper) (Q : Exit → Act → World → Prop) (base : List Value) (rest : List Oper) (l : Slots) (w : World) : Prop where
  h : inO base.length l → WL P ops Q rest (actO base l) w
structure CO (P : Program) (c : Code) (Q : Exit → Act → World → Prop) (base : List Value) (l : Slots) (w : World) : Prop where
  h : inO base.length l → c.wp P Q (actO base l) w
structure EO (Q : Exit → Act → World → Prop) (e : Exit) (base : List Value) (l : Slots) (w : World) : Prop where
  h : inO base.length l → Q e (actO base l) w
abbrev Cells := List (Option Value)
structure Ev where
  ok : Bool
  l : Slots
  cs : Cells
  fs : List ((World → Result Next) × (World → Result Next))
  bs : List (Nat × Nat)
structure Ev1 where
  l : Slots
  cs : Cells
  fs : List ((World → Result Next) × (World → Result Next))
  bs : List (Nat × Nat)
def ovL : Cells → Nat → List Value → Cells
  | cs, _, [] => cs
  | cs, k, v :: r => ovL (cs.set k (some v)) (k + 1) r
def allK : Nat → Cells → Option (List Value)
  | 0, _ => some []
  | n + 1, some v :: r => match allK n r with | some vs => some (v :: vs) | none => none
  | _ + 1, _ => none
structure Kn (cs : Cells) (full : Array Value) : Prop where
  size : full.size = cs.length
  at_ : ∀ (k : Nat) (v : Value), cs[k]? = some (some v) → full[k]? = some v
def Same (cs : Cells) (full : Array Value) (cs' : Cells) (full' : Array Value) : Prop := ∀ k : Nat, cs'[k]? = some none → cs[k]? = some none ∧ full'[k]? = full[k]?
theorem Same.refl (cs : Cells) (full : Array Value) : Same cs full cs full := fun _ h => ⟨h, rfl⟩
theorem Same.trans {a b c : Cells} {x y z : Array Value} (h : Same a x b y) (k : Same b y c z) : Same a x c z := fun i hi => ⟨(h i (k i hi).1).1, (k i hi).2.trans (h i (k i hi).1).2⟩
theorem Kn.set {cs : Cells} {full : Array Value} (h : Kn cs full) (k : Nat) (v : Value) : Kn (cs.set k (some v)) (full.setIfInBounds k v) ∧ Same cs full (cs.set k (some v)) (full.setIfInBounds k v) := by
  have hs := h.size
  refine ⟨⟨by simp [hs], fun i u hu => ?_⟩, fun i hi => ?_⟩
  · by_cases e : k = i
    · subst e
      have hlt : k < cs.length := by simpa using (List.getElem?_eq_some_iff.1 hu).1
      rw [List.getElem?_set_self hlt] at hu
      injection hu with hu; injection hu with hu; subst hu
      simp [hs, hlt]
    · rw [List.getElem?_set_ne e] at hu
      rw [Array.getElem?_setIfInBounds_ne e]
      exact h.at_ i u hu
  · by_cases e : k = i
    · subst e
      have hlt : k < cs.length := by simpa using (List.getElem?_eq_some_iff.1 hi).1
      rw [List.getElem?_set_self hlt] at hi
      cases hi
    · rw [List.getElem?_set_ne e] at hi
      exact ⟨hi, Array.getElem?_setIfInBounds_ne e⟩
theorem Kn.over : ∀ (vs : List Value) (cs : Cells) (full : Array Value) (k : Nat), Kn cs full → Kn (ovL cs k vs) (ovr full k vs) ∧ Same cs full (ovL cs k vs) (ovr full k vs)
  | [], _, _, _, h => ⟨h, .refl _ _⟩
  | v :: r, cs, full, k, h => by
    have h1 := h.set k v
    have h2 := Kn.over r _ _ (k + 1) h1.1
    exact ⟨h2.1, h1.2.trans h2.2⟩
theorem allK_at : ∀ (n : Nat) (cs : Cells) (vs : List Value), allK n cs = some vs → vs.length = n ∧ ∀ (j : Nat) (v : Value), vs[j]? = some v → cs[j]? = some (some v)
  | 0, cs, vs, h => by
    injection h with h; subst h
    exact ⟨rfl, fun j v hv => by simp at hv⟩
  | n + 1, [], vs, h => by cases h
  | n + 1, none :: r, vs, h => by cases h
  | n + 1, some u :: r, vs, h => by
    simp only [allK] at h
    split at h
    · rename_i us hus
      injection h with h; subst h
      have ih := allK_at n r us hus
      refine ⟨by simp [ih.1], fun j v hv => ?_⟩
      cases j with
      | zero => simpa using hv
      | succ j => exact ih.2 j v (by simpa using hv)
    · cases h
def rowT (P : Program) (t : TypeId) : Option Nat := match P.underlying t with
  | some d => bif d.isRow then (match (P.info? t).map (·.size) with | some (m + 1) => some (m + 1) | _ => none) else some 0
  | none => none
def wantO (ops : Array Oper) (n : Nat) (base : List Value) (l : Slots) (o : Oper) : Option Bool :=
  match o.guard with
  | none => some true
  | some (j, b) => match ops[j]? with
    | some q => match q.dst with
      | some d => bif Nat.blt d n then (match lkO base d l with | .bool c => some (some c == some b) | _ => some false) else none
      | none => some false
    | none => some false
def ev1 (P : Program) (W : World) (b n : Nat) (base : List Value) (l : Slots) (cs : Cells) (o : Oper) : Option Ev1 :=
  match o.dst, o.op with
  | some d, .move x => bif Nat.blt d n then some ⟨(d, evO base l x) :: l, cs, [], []⟩ else none
  | some d, .assign x => bif Nat.blt d n then some ⟨(d, evO base l x) :: l, cs, [], []⟩ else none
  | some d, .load t x => match evO base l x, rowT P t with
    | .pointer (some ⟨c, k, none⟩), some 0 => match cs[k]? with
      | some (some v) => bif Nat.blt d n then some ⟨(d, v) :: l, cs, [], [(c, b)]⟩ else none
      | _ => none
    | .pointer (some ⟨c, k, none⟩), some (m + 1) => match allK (m + 1) (cs.drop k) with
      | some vs => bif Nat.blt d n then some ⟨(d, .agg vs.toArray) :: l, cs, [], [(c, b)]⟩ else none
      | none => none
    | _, _ => none
  | none, .store t x y => match evO base l x, (P.info? t).map (·.size) with
    | .pointer (some ⟨c, k, none⟩), some 1 => bif (evO base l y).oneCell' && Nat.blt k cs.length then some ⟨l, cs.set k (some (evO base l y)), [], [(c, b)]⟩ else none
    | .pointer (some ⟨c, k, none⟩), some m => match evO base l y with
      | .agg vs => bif (Nat.beq vs.size m && vs.all (·.oneCell')) && Nat.ble (k + vs.size) cs.length then some ⟨l, ovL cs k vs.toList, [], [(c, b)]⟩ else none
      | _ => none
    | _, _ => none
  | some d, op => match (execOp (evO base l) o).run P W with
    | .ok (.value v) _ => bif Nat.blt d n then some ⟨(d, v) :: l, cs, [(fun w => (execOp (evO base l) o).run P w, fun w => .ok (.value v) w)], []⟩ else none
    | _ => none
  | _, _ => none
def evs (P : Program) (ops : Array Oper) (W : World) (b n : Nat) (base : List Value) : List Oper → Slots → Cells → List ((World → Result Next) × (World → Result Next)) → List (Nat × Nat) → Ev
  | [], l, cs, fs, bs => ⟨true, l, cs, fs, bs⟩
  | o :: r, l, cs, fs, bs => match wantO ops n base l o with
    | some true => match ev1 P W b n base l cs o with
      | some e => evs P ops W b n base r e.l e.cs (e.fs ++ fs) (e.bs ++ bs)
      | none => ⟨false, l, cs, fs, bs⟩
    | some false => match o.dst with
      | some d => bif Nat.blt d n then evs P ops W b n base r ((d, undef) :: l) cs fs bs else ⟨false, l, cs, fs, bs⟩
      | none => ⟨false, l, cs, fs, bs⟩
    | none => ⟨false, l, cs, fs, bs⟩
theorem loadOne {P : Program} {w : World} {ad : Addr} {V : Value} {t : TypeId} {d : TypeDesc} (hu : P.underlying t = some d) (hd : d.isRow = false) (hc : w.cell? ad = some V) : (Instr.loadAt t (.pointer (some ad))).run P w = .ok V w := by
  have hagg : (isAgg t).run P w = .ok false w := by
    unfold isAgg
    rw [Sem.run_bind, run_underlying hu w]
    cases d <;> simp_all [TypeDesc.isRow]
  simp [Instr.loadAt, Instr.sureAddr, loadVar, Sem.run_bind, hagg, hc]
theorem storeOne {P : Program} {w : World} {ad : Addr} {V v : Value} {t : TypeId} (hi : (P.info? t).map (·.size) = some 1) (hc : w.cell? ad = some V) (hz : w.frozen? ad = false) (hv : v.oneCell' = true) : (Instr.storeAt t (.pointer (some ad)) v).run P w = .ok () (w.setCell ad v) := by
  cases hq : P.info? t with
  | none => simp [hq] at hi
  | some i =>
    have hs : i.size = 1 := by simpa [hq] using hi
    have hcs : v.cells = #[v] := by cases v <;> simp_all [Value.cells, Value.oneCell']
    simp [Instr.storeAt, Instr.sureAddr, storeVar, sizeOf, typeInfo, hq, hs, hcs, storeCells, Sem.run_bind, run_store, hv, hc, hz, Addr.add]
theorem exMove {P : Program} {ρ : Operand → Value} {o : Oper} {x : Operand} (ho : o.op = .move x ∨ o.op = .assign x) (w : World) : (execOp ρ o).run P w = .ok (.value (ρ x)) w := by
  unfold execOp
  rcases ho with ho | ho <;> simp only [ho, Sem.run_pure]
theorem size_setCells (b : Nat) : ∀ (vs : List Value) (o : Nat) (w : World), (w.setCells b o vs).heap.size = w.heap.size
  | [], _, _ => rfl
  | v :: r, o, w => (size_setCells b r (o + 1) _).trans (by simp [World.setCell])
theorem setsB (b : Nat) {w0 : World} : ∀ (vs : List Value) (o : Nat) {w : World}, Besides b b w0 w → Besides b b w0 (w.setCells b o vs)
  | [], _, _, h => h
  | v :: r, o, _, h => setsB b r (o + 1) (h.setCell (p := ⟨b, o, none⟩) (.inl rfl) v)
section
variable {P : Program} {ops : Array Oper} {Q : Exit → Act → World → Prop} {base : List Value} {rest : List Oper} {l : Slots} {w : World} {o : Oper} {b : Nat} {ty : TypeId} {cs : Cells}
theorem wantO_sound {c : Bool} (h : wantO ops base.length base l o = some c) (hi : inO base.length l) : Region.wanted o (yielded ops (actO base l).tmps) = c := by
  unfold wantO at h
  unfold Region.wanted
  split at h
  · rename_i hg
    injection h with h
    simp only [hg, h]
  · rename_i j b hg
    simp only [hg]
    unfold yielded
    split at h
    · rename_i q hq
      simp only [hq, Option.bind_some]
      split at h
      · rename_i d hd
        simp only [hd, Option.bind_some]
        cases hn : Nat.blt d base.length <;> rw [hn] at h
        · cases h
        · have hlt : d < base.length := by simpa [Nat.blt_eq] using hn
          have hv : (actO base l).tmps[d]? = some (lkO base d l) := by
            rw [← lkO_eq d hi]
            show (ovO base l).toArray[d]? = _
            rw [List.getElem?_toArray, List.getD_eq_getElem?_getD, List.getElem?_eq_getElem (by rw [ovO_length]; exact hlt)]
            rfl
          rw [hv]
          simp only [cond_true] at h
          split at h
          · rename_i x hx
            injection h with h
            simp only [hx, h]
          · rename_i hx
            injection h with h
            subst h
            cases hl : lkO base d l <;> simp_all
      · rename_i hd
        injection h with h
        simp [hd, ← h]
    · rename_i hq
      injection h with h
      simp [hq, ← h]
theorem step1 {d : Nat} {V : Value} (hd : o.dst = some d) (hw : wantO ops base.length base l o = some true) (hn : Nat.blt d base.length = true) (he : (execOp (evO base l) o).run P w = .ok (.value V) w)
    (h : WO P ops Q base rest ((d, V) :: l) w) : WO P ops Q base (o :: rest) l w :=
  ⟨fun hi => list_take d V hd (wantO_sound hw hi) (by rw [evO_eq hi]; exact he) (by rw [put_actO]; exact h.h ⟨by simpa [Nat.blt_eq] using hn, hi⟩)⟩
def noSt (o : Oper) : Bool := match o.op with | .store .. => false | _ => true
theorem ev1_val {W : World} {e : Ev1} (he : ev1 P W b base.length base l cs o = some e) (hs : noSt o = true) (hf : ∀ x ∈ e.fs, x.1 = x.2) (hb : ∀ x ∈ e.bs, x.1 = x.2) :
    ∃ d v, o.dst = some d ∧ Nat.blt d base.length = true ∧ e.l = (d, v) :: l ∧ e.cs = cs ∧ ∀ w full, Row w b ty full → Kn cs full → (execOp (evO base l) o).run P w = .ok (.value v) w := by
  unfold ev1 at he
  split at he
  · rename_i d x hd ho
    cases hn : Nat.blt d base.length <;> rw [hn] at he
    · cases he
    · injection he with he; subst he
      exact ⟨d, _, hd, hn, rfl, rfl, fun w _ _ _ => exMove (.inl ho) w⟩
  · rename_i d x hd ho
    cases hn : Nat.blt d base.length <;> rw [hn] at he
    · cases he
    · injection he with he; subst he
      exact ⟨d, _, hd, hn, rfl, rfl, fun w _ _ _ => exMove (.inr ho) w⟩
  · rename_i d t x hd ho
    split at he
    · rename_i c k hx ht
      split at he
      · rename_i v hv
        cases hn : Nat.blt d base.length <;> rw [hn] at he
        · cases he
        · injection he with he; subst he
          obtain rfl : c = b := hb (c, b) (by simp)
          obtain ⟨D, hu, hD⟩ : ∃ D, P.underlying t = some D ∧ D.isRow = false := by
            unfold rowT at ht
            cases hu : P.underlying t with
            | none => simp [hu] at ht
            | some D =>
              refine ⟨D, rfl, ?_⟩
              cases hD : D.isRow with
              | false => rfl
              | true =>
                simp only [hu, hD, cond_true] at ht
                split at ht <;> simp at ht
          refine ⟨d, v, hd, hn, rfl, rfl, fun w full hr hk => ?_⟩
          unfold execOp
          simp only [ho, hx, Sem.run_bind, Sem.run_pure, loadOne hu hD ((hr.cell k).trans (hk.at_ k v hv)), Result.andThen_ok]
      · cases he
    · rename_i c k m hx ht
      split at he
      · rename_i vs hvs
        cases hn : Nat.blt d base.length <;> rw [hn] at he
        · cases he
        · injection he with he; subst he
          obtain rfl : c = b := hb (c, b) (by simp)
          obtain ⟨hlen, hat⟩ := allK_at _ _ _ hvs
          obtain ⟨D, hu, hD, hs⟩ : ∃ D, P.underlying t = some D ∧ D.isRow = true ∧ (P.info? t).map (·.size) = some (m + 1) := by
            unfold rowT at ht
            cases hu : P.underlying t with
            | none => simp [hu] at ht
            | some D =>
              cases hD : D.isRow with
              | false => simp [hu, hD] at ht
              | true =>
                simp only [hu, hD, cond_true] at ht
                split at ht
                · rename_i j hj
                  injection ht with ht
                  exact ⟨D, rfl, hD, hj.trans (congrArg some ht)⟩
                · cases ht
          refine ⟨d, _, hd, hn, rfl, rfl, fun w full hr hk => ?_⟩
          have hl := run_loadAt_mid (P := P) w c k t vs D (fun j v hv => by
            rw [hr.cell (k + j)]
            have := hat j v hv
            rw [List.getElem?_drop] at this
            exact hk.at_ _ _ this) hu hD (by rw [hs, hlen])
          unfold execOp
          simp only [ho, hx, Sem.run_bind, Sem.run_pure, hl, Result.andThen_ok]
      · cases he
    · cases he
  · rename_i t x y hd ho
    simp [noSt, ho] at hs
  · rename_i d hd n1 n2 n3
    split at he
    · rename_i v w1 hv
      cases hn : Nat.blt d base.length <;> rw [hn] at he
      · cases he
      · injection he with he; subst he
        exact ⟨d, v, hd, hn, rfl, rfl, fun w _ _ _ => congrFun (hf _ List.mem_cons_self) w⟩
    · cases he
  · cases he
theorem ev1_sound {W : World} {e : Ev1} {full : Array Value} (hg : wantO ops base.length base l o = some true) (he : ev1 P W b base.length base l cs o = some e) (hf : ∀ x ∈ e.fs, x.1 = x.2) (hb : ∀ x ∈ e.bs, x.1 = x.2) (hr : Row w b ty full) (hK : Kn cs full)
    (h : ∀ w' full', (noSt o = true → w' = w) → w'.heap.size = w.heap.size → Row w' b ty full' → Kn e.cs full' → Same cs full e.cs full' → Besides b b w w' → WO P ops Q base rest e.l w') : WO P ops Q base (o :: rest) l w := by
  cases hs : noSt o with
  | true =>
    obtain ⟨d, v, hd, hn, el, ec, hv⟩ := ev1_val (ty := ty) he hs hf hb
    have := h w full (fun _ => rfl) rfl hr (by rw [ec]; exact hK) (by rw [ec]; exact .refl _ _) (.refl ..)
    rw [el] at this
    exact step1 hd hg hn (hv w full hr hK) this
  | false =>
    have ho : ∃ t x y, o.op = .store t x y := by
      unfold noSt at hs
      split at hs
      · rename_i t x y ho; exact ⟨t, x, y, ho⟩
      · cases hs
    obtain ⟨t, x, y, ho⟩ := ho
    unfold ev1 at he
    rw [ho] at he
    cases hd : o.dst with
    | some d =>
      rw [hd] at he
      dsimp only at he
      split at he
      · rename_i v w1 hv
        cases hn : Nat.blt d base.length <;> rw [hn] at he
        · cases he
        · injection he with he; subst he
          exact step1 hd hg hn (congrFun (hf _ List.mem_cons_self) w) (h w full (fun e => absurd (hs.symm.trans e) (by decide)) rfl hr hK (.refl _ _) (.refl ..))
      · cases he
    | none =>
    rw [hd] at he
    dsimp only at he
    split at he
    · rename_i c k hx hi
      cases hn : ((evO base l y).oneCell' && Nat.blt k cs.length) <;> rw [hn] at he
      · cases he
      · injection he with he; subst he
        simp only [Bool.and_eq_true, Nat.blt_eq] at hn
        obtain rfl : c = b := hb (c, b) (by simp)
        have h2 := hK.set k (evO base l y)
        have hk := h (w.setCell ⟨c, k, none⟩ (evO base l y)) _ (fun e => absurd (hs.symm.trans e) (by decide)) (by simp [World.setCell]) (hr.set k _) h2.1 h2.2 ((Besides.refl c c w).setCell (.inl rfl) _)
        refine ⟨fun hin => list_do hd (wantO_sound hg hin) (w' := w.setCell ⟨c, k, none⟩ (evO base l y)) ?_ (by rw [put_actO]; exact hk.h hin)⟩
        rw [evO_eq hin]
        unfold execOp
        have hsz := hK.size
        have hcell : w.cell? ⟨c, k, none⟩ = some (full[k]'(by omega)) := by rw [hr.cell k]; simp [hsz, hn.2]
        simp only [ho, hx, Sem.run_bind, Sem.run_pure, storeOne hi hcell (hr.frozen k) hn.1, Result.andThen_ok]
    · rename_i c k m hm hx hi
      split at he
      · rename_i vs hy
        cases hn : ((Nat.beq vs.size m && vs.all (·.oneCell')) && Nat.ble (k + vs.size) cs.length) <;> rw [hn] at he
        · cases he
        · injection he with he; subst he
          simp only [Bool.and_eq_true] at hn
          obtain ⟨⟨hn1, hn2⟩, hn3⟩ := hn
          obtain rfl : c = b := hb (c, b) (by simp)
          have hle : k + vs.size ≤ cs.length := by simpa using hn3
          have hsz : vs.size = m := Nat.eq_of_beq_eq_true hn1
          have hfs := hK.size
          have h2 := Kn.over vs.toList cs full k hK
          have hk := h (w.setCells c k vs.toList) _ (fun e => absurd (hs.symm.trans e) (by decide)) (size_setCells _ _ _ _) (Row.setOver (w := w) vs.toList k hr) h2.1 h2.2 (setsB c vs.toList k (.refl ..))
          refine ⟨fun hin => list_do hd (wantO_sound hg hin) (w' := w.setCells c k vs.toList) ?_ (by rw [put_actO]; exact hk.h hin)⟩
          rw [evO_eq hin]
          unfold execOp
          have hl := run_storeAt_mid (P := P) w c k t vs (fun j hj => ⟨by rw [hr.cell]; simp; omega, hr.frozen _⟩) (by rw [hi, hsz]) hn2
          simp only [ho, hx, hy, Sem.run_bind, Sem.run_pure, hl, Result.andThen_ok]
      · cases he
    · cases he
theorem evs_mem {W : World} : ∀ (os : List Oper) (l : Slots) (cs : Cells) (fs bs), (evs P ops W b base.length base os l cs fs bs).ok = true →
    (∀ x ∈ fs, x ∈ (evs P ops W b base.length base os l cs fs bs).fs) ∧ (∀ x ∈ bs, x ∈ (evs P ops W b base.length base os l cs fs bs).bs)
  | [], _, _, _, _, _ => ⟨fun _ h => h, fun _ h => h⟩
  | o :: r, l, cs, fs, bs, hok => by
    unfold evs at hok ⊢
    split at hok
    · split at hok
      · rename_i e he
        have ih := evs_mem r e.l e.cs (e.fs ++ fs) (e.bs ++ bs) hok
        exact ⟨fun x hx => ih.1 x (List.mem_append_right _ hx), fun x hx => ih.2 x (List.mem_append_right _ hx)⟩
      · cases hok
    · split at hok
      · rename_i d hd
        cases hn : Nat.blt d base.length <;> rw [hn] at hok
        · cases hok
        · exact evs_mem r _ cs fs bs hok
      · cases hok
    · cases hok
theorem evs_sound {W : World} : ∀ (os : List Oper) (l : Slots) (cs : Cells) (fs bs) (w : World) (full : Array Value), (evs P ops W b base.length base os l cs fs bs).ok = true →
    (∀ x ∈ (evs P ops W b base.length base os l cs fs bs).fs, x.1 = x.2) → (∀ x ∈ (evs P ops W b base.length base os l cs fs bs).bs, x.1 = x.2) → Row w b ty full → Kn cs full →
    (∀ w' full', (os.all noSt = true → w' = w) → Row w' b ty full' → Kn (evs P ops W b base.length base os l cs fs bs).cs full' → Same cs full (evs P ops W b base.length base os l cs fs bs).cs full' → Besides b b w w' → WO P ops Q base rest (evs P ops W b base.length base os l cs fs bs).l w') →
    WO P ops Q base (os ++ rest) l w
  | [], _, _, _, _, w, full, _, _, _, hr, hK, h => h w full (fun _ => rfl) hr hK (.refl _ _) (.refl ..)
  | o :: r, l, cs, fs, bs, w, full, hok, hf, hb, hr, hK, h => by
    unfold evs at hok hf hb h
    split at hok
    case h_2 hw =>
      simp only [hw] at hf hb h
      split at hok
      · rename_i d hd
        simp only [hd] at hf hb h
        cases hn : Nat.blt d base.length <;> rw [hn] at hok
        · cases hok
        · simp only [hn, cond_true] at hf hb h
          have := evs_sound r _ cs fs bs w full hok hf hb hr hK fun w' full' ha => h w' full' fun hx => ha (by simp only [List.all_cons, Bool.and_eq_true] at hx; exact hx.2)
          exact ⟨fun hi => list_skip d hd (wantO_sound hw hi) (by rw [put_actO]; exact this.h ⟨by simpa [Nat.blt_eq] using hn, hi⟩)⟩
      · cases hok
    case h_3 => cases hok
    case h_1 hw =>
    simp only [hw] at hf hb h
    split at hok
    · rename_i e he
      simp only [he] at hf hb h
      have hm := evs_mem r e.l e.cs (e.fs ++ fs) (e.bs ++ bs) hok
      refine ev1_sound hw he (fun x hx => hf x (hm.1 x (List.mem_append_left _ hx))) (fun x hx => hb x (hm.2 x (List.mem_append_left _ hx))) hr hK fun w1 full1 h1 _ hr1 hK1 hs1 hb1 => ?_
      refine evs_sound r e.l e.cs (e.fs ++ fs) (e.bs ++ bs) w1 full1 hok hf hb hr1 hK1 fun w2 full2 h2 hr2 hK2 hs2 hb2 => h w2 full2 (fun ha => ?_) hr2 hK2 (hs1.trans hs2) (hb1.trans hb2)
      simp only [List.all_cons, Bool.and_eq_true] at ha
      rw [h2 ha.2, h1 ha.1]
    · cases hok
theorem pairs_eq {α : Type} : ∀ {l : List (α × α)}, l.map (·.1) = l.map (·.2) → ∀ x ∈ l, x.1 = x.2
  | y :: r, h, x, hx => by
    simp only [List.map_cons, List.cons.injEq] at h
    rcases List.mem_cons.1 hx with e | e
    · subst e; exact h.1
    · exact pairs_eq h.2 x e
def okE (E : Ev) (cs : Cells) : Prop := (E.ok, E.cs, E.fs.map (·.1), E.bs.map (·.1)) = (true, cs, E.fs.map (·.2), E.bs.map (·.2))
theorem evs_run {W : World} (n : Nat) {cs' : Cells} {full : Array Value} (hr : Row w b ty full) (hK : Kn cs full) (hk : okE (evs P ops W b base.length base (rest.take n) l cs [] []) cs')
    (h : ∀ w' full', ((rest.take n).all noSt = true → w' = w) → Row w' b ty full' → Kn cs' full' → Same cs full cs' full' → Besides b b w w' → WO P ops Q base (rest.drop n) (evs P ops W b base.length base (rest.take n) l cs [] []).l w') : WO P ops Q base rest l w := by
  simp only [okE, Prod.mk.injEq] at hk
  obtain ⟨h1, h2, h3, h4⟩ := hk
  have := evs_sound (ops := ops) (Q := Q) (rest := rest.drop n) (ty := ty) (rest.take n) l cs [] [] w full h1 (pairs_eq h3) (pairs_eq h4) hr hK (fun w' f a b c d => h w' f a b (by rw [← h2]; exact c) (by rw [← h2]; exact d))
  rwa [List.take_append_drop] at this
theorem evs_all {W : World} {cs' : Cells} {full : Array Value} (hr : Row w b ty full) (hK : Kn cs full) (hk : okE (evs P ops W b base.length base rest l cs [] []) cs')
    (h : ∀ w' full', (rest.all noSt = true → w' = w) → Row w' b ty full' → Kn cs' full' → Same cs full cs' full' → Besides b b w w' → WO P ops Q base [] (evs P ops W b base.length base rest l cs [] []).l w') : WO P ops Q base rest l w := by
  simp only [okE, Prod.mk.injEq] at hk
  obtain ⟨h1, h2, h3, h4⟩ := hk
  have := evs_sound (ops := ops) (Q := Q) (rest := []) (ty := ty) rest l cs [] [] w full h1 (pairs_eq h3) (pairs_eq h4) hr hK (fun w' f a b c d => h w' f a b (by rw [← h2]; exact c) (by rw [← h2]; exact d))
  rwa [List.append_nil] at this
theorem coStart {c : Code} (h : CO P c Q base [] w) : c.wp P Q { tmps := base.toArray, defers := [] } w := h.h trivial
theorem coR {id : Nat} {l0 : List Oper} {y : Code} (h : WO P l0.toArray (Exit.then (y.wp P Q) Q) base l0 l w) : CO P (.seq (.region id l0.toArray false) y) Q base l w := ⟨fun hi => wp_seq (regionL (h.h hi))⟩
theorem coZ {id : Nat} {l0 : List Oper} (h : WO P l0.toArray Q base l0 l w) : CO P (.region id l0.toArray false) Q base l w := ⟨fun hi => regionL (h.h hi)⟩
theorem coS {x y : Code} (h : CO P x (Exit.then (y.wp P Q) Q) base l w) : CO P (.seq x y) Q base l w := ⟨fun hi => wp_seq (h.h hi)⟩
theorem woE (h : EO Q .normal base l w) : WO P ops Q base [] l w := ⟨fun hi => endL (h.h hi)⟩
theorem coSkip (h : EO Q .normal base l w) : CO P .skip Q base l w := ⟨fun hi => wp_skip (h.h hi)⟩
theorem coRet (h : EO Q .ret base l w) : CO P .ret Q base l w := ⟨fun hi => wp_ret (h.h hi)⟩
theorem coX {id : Nat} (h : EO Q (.exit id) base l w) : CO P (.exit id) Q base l w := ⟨fun hi => wp_exit (h.h hi)⟩
theorem coB {id : Nat} {c : Code} (h : CO P c (Exit.inBlock id Q) base l w) : CO P (.block id c) Q base l w := ⟨fun hi => wp_block (h.h hi)⟩
theorem coI (t : Bool) {c : Operand} {x y : Code} (ht : t = true → CO P x Q base l w) (hf : t = false → CO P y Q base l w) (hc : evO base l c = .bool t := by kernel_rfl) : CO P (.cond c x y) Q base l w :=
  ⟨fun hi => wp_cond_split (by rw [evO_eq hi]; exact hc) (fun e => (ht e).h hi) fun e => (hf e).h hi⟩
theorem coT {c : Operand} {x y : Code} (ht : CO P x Q base l w) (hc : evO base l c = .bool true := by kernel_rfl) : CO P (.cond c x y) Q base l w := ⟨fun hi => wp_cond_true (by rw [evO_eq hi]; exact hc) (ht.h hi)⟩
theorem coF {c : Operand} {x y : Code} (ht : CO P y Q base l w) (hc : evO base l c = .bool false := by kernel_rfl) : CO P (.cond c x y) Q base l w := ⟨fun hi => wp_cond_false (by rw [evO_eq hi]; exact hc) (ht.h hi)⟩
theorem coJ (t : Bool) {c : Operand} {x y : Code} (hf : t = false → False) (ht : t = true → CO P x Q base l w) (hc : evO base l c = .bool t := by kernel_rfl) : CO P (.cond c x y) Q base l w := coI t ht (fun e => (hf e).elim) hc
theorem coK (t : Bool) {c : Operand} {x y : Code} (ht : t = true → False) (hf : t = false → CO P y Q base l w) (hc : evO base l c = .bool t := by kernel_rfl) : CO P (.cond c x y) Q base l w := coI t (fun e => (ht e).elim) hf hc
theorem eoT {y : Code} (h : CO P y Q base l w) : EO (Exit.then (y.wp P Q) Q) .normal base l w := ⟨fun hi => h.h hi⟩
theorem eoTr {N : Act → World → Prop} (h : EO Q .ret base l w) : EO (Exit.then N Q) .ret base l w := ⟨fun hi => h.h hi⟩
theorem eoTx {N : Act → World → Prop} {i : Nat} (h : EO Q (.exit i) base l w) : EO (Exit.then N Q) (.exit i) base l w := ⟨fun hi => h.h hi⟩
theorem eoB {i : Nat} (h : EO Q .normal base l w) : EO (Exit.inBlock i Q) .normal base l w := ⟨fun hi => h.h hi⟩
theorem eoBr {i : Nat} (h : EO Q .ret base l w) : EO (Exit.inBlock i Q) .ret base l w := ⟨fun hi => h.h hi⟩
theorem eoBx {i : Nat} (h : EO Q .normal base l w) : EO (Exit.inBlock i Q) (.exit i) base l w := ⟨fun hi => by simp only [Exit.inBlock, if_true]; exact h.h hi⟩
theorem eoV {fn : Func} {R : Ending → World → Prop} (hR : R (.returned (.tuple #[])) w) (h : fn.results = #[] := by exact rfl) : EO (bodyPost P fn R) .normal base l w := ⟨fun hi => bodyPost_end (results_none h _ _ _) rfl hR⟩
theorem eoVr {fn : Func} {R : Ending → World → Prop} (hR : R (.returned (.tuple #[])) w) (h : fn.results = #[] := by exact rfl) : EO (bodyPost P fn R) .ret base l w := ⟨fun hi => bodyPost_ret (results_none h _ _ _) rfl hR⟩
theorem eoIr {fn : Func} {R : Ending → World → Prop} {t : Tmp} (V : Value) (hR : R (.returned V) w) (h : fn.results = #[.tmp t] := by exact rfl) (hv : lkO base t l = V := by kernel_rfl) : EO (bodyPost P fn R) .ret base l w :=
  ⟨fun hi => bodyPost_ret (by rw [results_tmp h, show (actO base l).tmps.getD t undef = V from (congrFun (evO_eq hi) (.tmp t)).trans hv]) rfl hR⟩
theorem woCall {g : FuncId} {args : Array Value} {R : Ending → World → Prop} (hg : wantO ops base.length base l o = some true) (he : (execOp (evO base l) o).run P w = .ok (.enter g args) w) (hd : dstO o.dst base.length = true) (hc : Calls P g args w R)
    (h : ∀ e w', R e w' → match e with
      | .returned v => WO P ops Q base rest (putO o.dst v l) w'
      | .panicked c => EO Q (.panic c) base l w'
      | .outgrown => False) : WO P ops Q base (o :: rest) l w :=
  ⟨fun hi => list_call (wantO_sound hg hi) (by rw [evO_eq hi]; exact he) hc fun e w' hR => by
    have := h e w' hR
    cases e with
    | returned v => dsimp only; rw [put_actO]; exact this.h (inO_put hd hi)
    | panicked c => exact this.h hi
    | outgrown => exact this⟩
theorem kO {V : Value} {g : FuncId} {args : Array Value} {N : World → Prop} (hc : Calls P g args w fun e w' => e = .returned V ∧ N w') (h : ∀ w', N w' → WO P ops Q base rest (putO o.dst V l) w')
    (hg : wantO ops base.length base l o = some true := by kernel_rfl) (he : (execOp (evO base l) o).run P w = .ok (.enter g args) w := by kernel_rfl) (hd : dstO o.dst base.length = true := by kernel_rfl) : WO P ops Q base (o :: rest) l w :=
  woCall hg he hd hc fun e w' ⟨h1, h2⟩ => by subst h1; exact h w' h2
theorem kE {V : Value} {g : FuncId} {args : Array Value} (hc : Calls P g args w fun e w' => e = .returned V ∧ w = w') (h : WO P ops Q base rest (putO o.dst V l) w)
    (hg : wantO ops base.length base l o = some true := by kernel_rfl) (he : (execOp (evO base l) o).run P w = .ok (.enter g args) w := by kernel_rfl) (hd : dstO o.dst base.length = true := by kernel_rfl) : WO P ops Q base (o :: rest) l w :=
  kO hc (fun w' e => by rw [← e]; exact h) hg he hd
theorem w1 (d : Nat) (V : Value) (he : (execOp (evO base l) o).run P w = .ok (.value V) w) (h : WO P ops Q base rest ((d, V) :: l) w) (hd : o.dst = some d := by exact rfl) (hg : wantO ops base.length base l o = some true := by kernel_rfl) (hn : Nat.blt d base.length = true := by kernel_rfl) : WO P ops Q base (o :: rest) l w :=
  step1 hd hg hn he h
theorem exBin {ρ : Operand → Value} {x y : Operand} {V W R : Value} {op : BinOp} {t r : TypeId} (ho : o.op = .binOp op t x y r) (hx : ρ x = V) (hy : ρ y = W) (hg : ∀ w, (eqGuard op t x y V W).run P w = .ok () w) (hb : ∀ w, (binOp op t V W).run P w = .ok R w) (w : World) : (execOp ρ o).run P w = .ok (.value R) w := by
  unfold execOp
  simp only [ho, hx, hy, Sem.run_bind, Sem.run_pure, hg, hb, Result.andThen_ok]
theorem kBin (d : Nat) {x y : Operand} {V W R : Value} {op : BinOp} {t r : TypeId} (hgd : ∀ w, (eqGuard op t x y V W).run P w = .ok () w) (hb : ∀ w, (binOp op t V W).run P w = .ok R w) (h : WO P ops Q base rest ((d, R) :: l) w)
    (ho : o.op = .binOp op t x y r := by exact rfl) (hx : evO base l x = V := by kernel_rfl) (hy : evO base l y = W := by kernel_rfl) (hd : o.dst = some d := by exact rfl) (hg : wantO ops base.length base l o = some true := by kernel_rfl) (hn : Nat.blt d base.length = true := by kernel_rfl) : WO P ops Q base (o :: rest) l w :=
  step1 hd hg hn (exBin ho hx hy hgd hb w) h
theorem kBj (d : Nat) {x y : Operand} (V W R : Value) {op : BinOp} {t r : TypeId} (hgd : ∀ w, (eqGuard op t x y V W).run P w = .ok () w) (hb : ∀ w, (binOp op t V W).run P w = .ok R w) (h : WO P ops Q base rest ((d, R) :: l) w)
    (ho : o.op = .binOp op t x y r := by exact rfl) (hx : evO base l x = V := by kernel_rfl) (hy : evO base l y = W := by kernel_rfl) (hd : o.dst = some d := by exact rfl) (hg : wantO ops base.length base l o = some true := by kernel_rfl) (hn : Nat.blt d base.length = true := by kernel_rfl) : WO P ops Q base (o :: rest) l w :=
  step1 hd hg hn (exBin ho hx hy hgd hb w) h
theorem tell (d : Nat) {c b : Bool} (e : c = b) (h : WO P ops Q base rest ((d, .bool b) :: l) w) (hv : lkO base d l = .bool c := by kernel_rfl) (hn : Nat.blt d base.length = true := by kernel_rfl) : WO P ops Q base rest l w :=
  ⟨fun hi => by
    have hlt : d < base.length := by simpa [Nat.blt_eq] using hn
    have := h.h ⟨hlt, hi⟩
    have e2 : actO base ((d, .bool b) :: l) = actO base l := by
      have e3 : (ovO base l).set d (.bool b) = ovO base l := by
        rw [← e, ← hv, ← lkO_eq d hi, List.getD_eq_getElem?_getD, List.getElem?_eq_getElem (by rw [ovO_length]; exact hlt)]
        exact List.set_getElem_self _
      show (⟨((ovO base l).set d (.bool b)).toArray, []⟩ : Act) = ⟨(ovO base l).toArray, []⟩
      rw [e3]
    rwa [e2] at this⟩
theorem wT {y : Code} (h : CO P y Q base l w) : WO P ops (Exit.then (y.wp P Q) Q) base [] l w := woE (eoT h)
structure PO (P : Program) (ops : Array Oper) (Q : Exit → Act → World → Prop) (S : World → Prop) (n : Nat) (base : List Value) (f : Nat) (listed : Array Bool) (l : Slots) (w : World) : Prop where
  h : inO base.length l → partT P ops Q S n f listed (actO base l) w
variable {S : World → Prop}
theorem coP (n : Nat) {id : Nat} {y : Code} (hS : S w.drew) (h : PO P ops (Exit.then (y.wp P Q) Q) S n base n (Array.replicate ops.size false) l w.drew)
    (hB : partB ops n = true := by kernel_rfl) (hm : P.follows .mixedOrders = true := by kernel_rfl) : CO P (.seq (.region id ops true) y) Q base l w :=
  ⟨fun hi => wp_seq (part_start n S hm hB hS fun w' e _ => by subst e; exact h.h hi)⟩
theorem coPz (n : Nat) {id : Nat} (hS : S w.drew) (h : PO P ops Q S n base n (Array.replicate ops.size false) l w.drew)
    (hB : partB ops n = true := by kernel_rfl) (hm : P.follows .mixedOrders = true := by kernel_rfl) : CO P (.region id ops true) Q base l w :=
  ⟨fun hi => part_start n S hm hB hS fun w' e _ => by subst e; exact h.h hi⟩
def atO (ops : Array Oper) : List Nat → List Oper
  | [] => []
  | i :: r => match ops[i]? with | some o => o :: atO ops r | none => []
def ordB (ops : Array Oper) (n : Nat) : List Nat → Array Bool → Bool
  | [], _ => true
  | i :: r, listed => (ops[i]?).isSome && (decide (i < n) && (Region.free .any ops listed i && ((Region.ready .any ops listed).contains i && ordB ops n r (listed.setIfInBounds i true))))
def setO : List Nat → Array Bool → Array Bool
  | [], listed => listed
  | i :: r, listed => setO r (listed.setIfInBounds i true)
theorem part_run {W : World} {n : Nat} (hB : partB ops n = true) (hQ : ∀ d v c a w, Q (.panic c) (a.put d v) w → Q (.panic c) a w) (hRow : ∀ w, S w → ∃ full, Row w b ty full ∧ Kn cs full) :
    ∀ (is : List Nat) (f : Nat) (listed : Array Bool) (l : Slots) (fs bs) (w : World), (evs P ops W b base.length base (atO ops is) l cs fs bs).ok = true →
    (∀ x ∈ (evs P ops W b base.length base (atO ops is) l cs fs bs).fs, x.1 = x.2) → (∀ x ∈ (evs P ops W b base.length base (atO ops is) l cs fs bs).bs, x.1 = x.2) →
    (atO ops is).all noSt = true → ordB ops n is listed = true → S w →
    PO P ops Q S n base f (setO is listed) (evs P ops W b base.length base (atO ops is) l cs fs bs).l w → PO P ops Q S n base (f + is.length) listed l w
  | [], f, listed, l, fs, bs, w, _, _, _, _, _, _, h => h
  | i :: r, f, listed, l, fs, bs, w, hok, hf, hb, ha, ho, hS, h => by
    simp only [ordB, Bool.and_eq_true] at ho
    obtain ⟨h1, h2, h3, h4, h5⟩ := ho
    obtain ⟨o, hoi⟩ := Option.isSome_iff_exists.1 h1
    have hat : atO ops (i :: r) = o :: atO ops r := by rw [atO, hoi]
    rw [hat] at hok hf hb ha h
    simp only [List.all_cons, Bool.and_eq_true] at ha
    unfold evs at hok hf hb h
    split at hok
    case h_2 hw =>
      simp only [hw] at hf hb h
      split at hok
      · rename_i d hd
        simp only [hd] at hf hb h
        cases hn : Nat.blt d base.length <;> rw [hn] at hok
        · cases hok
        · simp only [hn, cond_true] at hf hb h
          have := part_run hB hQ hRow r f (listed.setIfInBounds i true) _ fs bs w hok hf hb ha.2 h5 hS h
          refine ⟨fun hi => part_skip d hd hoi hB h2 h3 h4 (by rw [hd]; exact hQ (some d) undef) (wantO_sound hw hi) hS ?_⟩
          rw [put_actO]
          exact this.h ⟨by simpa [Nat.blt_eq] using hn, hi⟩
      · cases hok
    case h_3 => cases hok
    case h_1 hw =>
    simp only [hw] at hf hb h
    split at hok
    · rename_i e he
      simp only [he] at hf hb h
      have hm := evs_mem (atO ops r) e.l e.cs (e.fs ++ fs) (e.bs ++ bs) hok
      obtain ⟨d, v, hd, hn, el, ec, hv⟩ := ev1_val (ty := ty) he ha.1 (fun x hx => hf x (hm.1 x (List.mem_append_left _ hx))) (fun x hx => hb x (hm.2 x (List.mem_append_left _ hx)))
      rw [ec] at hok hf hb h
      have := part_run hB hQ hRow r f (listed.setIfInBounds i true) e.l (e.fs ++ fs) (e.bs ++ bs) w hok hf hb ha.2 h5 hS h
      rw [el] at this
      refine ⟨fun hi => part_take d v hd hoi hB h2 h3 h4 (by rw [hd]; exact hQ (some d) v) (wantO_sound hw hi) (fun w' hs => ?_) hS ?_⟩
      · obtain ⟨full, hr, hk⟩ := hRow w' hs
        rw [evO_eq hi]
        exact hv w' full hr hk
      · rw [put_actO]
        exact this.h ⟨by simpa [Nat.blt_eq] using hn, hi⟩
    · cases hok
theorem poCall {n i f : Nat} {listed : Array Bool} {g : FuncId} {args : Array Value} {R : Ending → World → Prop} (ho : ops[i]? = some o) (hr : Region.ready .any ops listed = [i]) (hin : decide (i < n) = true)
    (hw : wantO ops base.length base l o = some true) (he : (execOp (evO base l) o).run P w = .ok (.enter g args) w) (hd : dstO o.dst base.length = true) (hc : Calls P g args w R)
    (h : ∀ e w', R e w' → match e with
      | .returned v => S w' ∧ PO P ops Q S n base f (listed.setIfInBounds i true) (putO o.dst v l) w'
      | .panicked c => EO Q (.panic c) base l w'
      | .outgrown => False) : PO P ops Q S n base (f + 1) listed l w :=
  ⟨fun hi => part_call ho hr hin (wantO_sound hw hi) (by rw [evO_eq hi]; exact he) hc fun e w' hR => by
    have := h e w' hR
    cases e with
    | returned v => dsimp only; rw [put_actO]; exact ⟨this.1, this.2.h (inO_put hd hi)⟩
    | panicked c => exact this.h hi
    | outgrown => exact this⟩
theorem poE {n : Nat} {listed : Array Bool} (h : WO P ops Q base (ops.toList.drop n) l w) (hB : Region.seqB .any ops (ops.size - n) n listed = true := by kernel_rfl) : PO P ops Q S n base 0 listed l w := ⟨fun hi => part_end hB (h.h hi)⟩
theorem tellA {d : Nat} {c b : Bool} (e : c = b) (hv : lkO base d l = .bool c) (hn : Nat.blt d base.length = true) (hi : inO base.length l) : actO base ((d, .bool b) :: l) = actO base l := by
  have hlt : d < base.length := by simpa [Nat.blt_eq] using hn
  have e3 : (ovO base l).set d (.bool b) = ovO base l := by
    rw [← e, ← hv, ← lkO_eq d hi, List.getD_eq_getElem?_getD, List.getElem?_eq_getElem (by rw [ovO_length]; exact hlt)]
    exact List.set_getElem_self _
  show (⟨((ovO base l).set d (.bool b)).toArray, []⟩ : Act) = ⟨(ovO base l).toArray, []⟩
  rw [e3]
theorem tellP {n f : Nat} {listed : Array Bool} (d : Nat) {c b : Bool} (e : c = b) (h : PO P ops Q S n base f listed ((d, .bool b) :: l) w) (hv : lkO base d l = .bool c := by kernel_rfl) (hn : Nat.blt d base.length = true := by kernel_rfl) : PO P ops Q S n base f listed l w :=
  ⟨fun hi => by
    have := h.h ⟨by simpa [Nat.blt_eq] using hn, hi⟩
    rwa [tellA e hv hn hi] at this⟩
end
structure RowK where
  b : Nat
  t : TypeId
  cs : Cells
def RowsAt (w : World) (rs : List RowK) : Prop := ∀ (i : Nat) (r : RowK), rs[i]? = some r → ∃ full, Row w r.b r.t full ∧ Kn r.cs full
def Dis (rs : List RowK) : Prop := ∀ (i j : Nat) (r q : RowK), rs[i]? = some r → rs[j]? = some q → i ≠ j → r.b ≠ q.b
structure Touch (L : List Nat) (w w' : World) : Prop where
  os : w'.os = w.os
  tape : w'.tape = w.tape
  output : w'.output = w.output
  size : w.heap.size ≤ w'.heap.size
  block : ∀ b, b < w.heap.size → b ∉ L → w'.heap[b]? = w.heap[b]?
theorem Touch.refl (L : List Nat) (w : World) : Touch L w w := ⟨rfl, rfl, rfl, Nat.le_refl _, fun _ _ _ => rfl⟩
theorem Touch.trans {L : List Nat} {a b c : World} (h : Touch L a b) (k : Touch L b c) : Touch L a c :=
  ⟨k.os.trans h.os, k.tape.trans h.tape, k.output.trans h.output, Nat.le_trans h.size k.size, fun i hi n => (k.block i (Nat.lt_of_lt_of_le hi h.size) n).trans (h.block i hi n)⟩
theorem Touch.below {w w' : World} (h : Touch [] w w') : Below w.heap.size w w' := ⟨h.os, h.tape, h.output, h.size, fun b hb => h.block b hb (by simp)⟩
theorem Touch.of_below {L : List Nat} {w w' : World} (h : Below w.heap.size w w') : Touch L w w' := ⟨h.os, h.tape, h.output, h.size, fun b hb _ => h.block b hb⟩
structure Many (w0 : World) (L : List Nat) (rs : List RowK) (w : World) : Prop where
  rows : RowsAt w rs
  dis : Dis rs
  own : ∀ (i : Nat) (r : RowK), rs[i]? = some r → r.b ∈ L ∨ w0.heap.size ≤ r.b
  touch : Touch L w0 w
theorem Many.begin (w : World) : Many w [] [] w := ⟨fun i r h => by simp at h, fun i j r q h => by simp at h, fun i r h => by simp at h, .refl ..⟩
theorem Many.below {w0 w w' : World} {L : List Nat} {rs : List RowK} (h : Many w0 L rs w) (k : Below w.heap.size w w') : Many w0 L rs w' :=
  ⟨fun i r hr => by obtain ⟨full, h1, h2⟩ := h.rows i r hr; exact ⟨full, h1.below k h1.lt, h2⟩, h.dis, h.own, h.touch.trans (.of_below k)⟩
theorem Many.alloc {w0 w : World} {L : List Nat} {rs : List RowK} (h : Many w0 L rs w) (t : TypeId) (cells : Array Value) : Many w0 L (rs ++ [⟨w.heap.size, t, cells.toList.map some⟩]) (w.alloc (.cells cells t)) := by
  have lt : ∀ (i : Nat) (r : RowK), rs[i]? = some r → r.b < w.heap.size := fun i r hr => by obtain ⟨full, h1, _⟩ := h.rows i r hr; exact h1.lt
  have at_ : ∀ (i : Nat) (r : RowK), (rs ++ [⟨w.heap.size, t, cells.toList.map some⟩])[i]? = some r → rs[i]? = some r ∨ (i = rs.length ∧ r = ⟨w.heap.size, t, cells.toList.map some⟩) := fun i r hr => by
    by_cases hi : i < rs.length
    · rw [List.getElem?_append_left hi] at hr; exact .inl hr
    · rw [List.getElem?_append_right (by omega)] at hr
      cases hk : i - rs.length with
      | zero => rw [hk] at hr; injection hr with hr; exact .inr ⟨by omega, hr.symm⟩
      | succ n => rw [hk] at hr; cases hr
  refine ⟨fun i r hr => ?_, fun i j r q hr hq hij => ?_, fun i r hr => ?_, h.touch.trans (.of_below (Below.alloc (Below.refl _ _) (Nat.le_refl _) _))⟩
  · rcases at_ i r hr with h1 | ⟨_, rfl⟩
    · obtain ⟨full, h1, h2⟩ := h.rows i r h1
      exact ⟨full, h1.alloc _, h2⟩
    · exact ⟨cells, Row.new w t cells, by simp, fun k v hv => by
        have : cells.toList[k]? = some v := by
          rw [List.getElem?_map] at hv
          cases hl : cells.toList[k]? with
          | none => rw [hl] at hv; cases hv
          | some u => rw [hl] at hv; injection hv with hv
        simpa using this⟩
  · rcases at_ i r hr with h1 | ⟨e1, rfl⟩ <;> rcases at_ j q hq with h2 | ⟨e2, rfl⟩
    · exact h.dis i j r q h1 h2 hij
    · exact Nat.ne_of_lt (lt i r h1)
    · exact (Nat.ne_of_lt (lt j q h2)).symm
    · omega
  · rcases at_ i r hr with h1 | ⟨_, rfl⟩
    · exact h.own i r h1
    · exact .inr h.touch.size
theorem Many.turn {w0 w w' : World} {L : List Nat} {rs : List RowK} {i : Nat} {r : RowK} {cs : Cells} {full : Array Value} (h : Many w0 L rs w) (hr : rs[i]? = some r) (hrow : Row w' r.b r.t full) (hk : Kn cs full) (hb : Besides r.b r.b w w') : Many w0 L (rs.set i ⟨r.b, r.t, cs⟩) w' := by
  have hi : i < rs.length := (List.getElem?_eq_some_iff.1 hr).1
  have at_ : ∀ (j : Nat) (q : RowK), (rs.set i ⟨r.b, r.t, cs⟩)[j]? = some q → (i = j ∧ q = ⟨r.b, r.t, cs⟩) ∨ (i ≠ j ∧ rs[j]? = some q) := fun j q hq => by
    by_cases e : i = j
    · subst e
      rw [List.getElem?_set_self hi] at hq
      injection hq with hq
      exact .inl ⟨rfl, hq.symm⟩
    · rw [List.getElem?_set_ne e] at hq
      exact .inr ⟨e, hq⟩
  refine ⟨fun j q hq => ?_, fun j k q s hq hs hjk => ?_, fun j q hq => ?_, ⟨hb.os.trans h.touch.os, hb.tape.trans h.touch.tape, hb.output.trans h.touch.output, Nat.le_trans h.touch.size hb.size, fun c hc hn => ?_⟩⟩
  · rcases at_ j q hq with ⟨e, rfl⟩ | ⟨e, h1⟩
    · exact ⟨full, hrow, hk⟩
    · obtain ⟨f2, h2, h3⟩ := h.rows j q h1
      have hne := h.dis i j r q hr h1 e
      exact ⟨f2, h2.of (hb.block q.b h2.lt (Ne.symm hne) (Ne.symm hne)), h3⟩
  · rcases at_ j q hq with ⟨e1, rfl⟩ | ⟨e1, h1⟩ <;> rcases at_ k s hs with ⟨e2, rfl⟩ | ⟨e2, h2⟩
    · omega
    · exact h.dis i k r s hr h2 e2
    · exact h.dis j i q r h1 hr (Ne.symm e1)
    · exact h.dis j k q s h1 h2 hjk
  · rcases at_ j q hq with ⟨e, rfl⟩ | ⟨e, h1⟩
    · exact h.own i r hr
    · exact h.own j q h1
  · have hne : c ≠ r.b := by
      rcases h.own i r hr with e | e
      · exact fun x => hn (x ▸ e)
      · omega
    exact (hb.block c (Nat.lt_of_lt_of_le hc h.touch.size) hne hne).trans (h.touch.block c hc hn)
def newOf (P : Program) (ρ : Operand → Value) : Op → Option ((Nat → Value) × TypeId × Array Value)
  | .alloc t => match P.info? t with
    | some i => match i.zero with | some z => some (fun h => .pointer (some ⟨h, 0, none⟩), t, z.cells) | none => none
    | none => none
  | .box t x => some (fun h => .pointer (some ⟨h, 0, none⟩), t, (ρ x).cells)
  | .buildSlice t len parts => match P.underlying t with
    | some (.slice e) => some (fun h => .slice (some ⟨h, 0, none⟩) len len, e, (parts.toList.map fun q => ρ q.2).toArray)
    | _ => none
  | _ => none
def memO : Op → Bool
  | .load .. | .store .. => true
  | _ => false
structure EvM1 where
  hs : List Nat
  l : Slots
  rs : List RowK
  k : Nat
  fs : List ((World → Result Next) × (World → Result Next))
  bs : List (Nat × Nat)
def evP (P : Program) (W : World) (n : Nat) (base : List Value) (l : Slots) (o : Oper) : Option (Slots × List ((World → Result Next) × (World → Result Next))) :=
  match o.dst, o.op with
  | some d, .move x => bif Nat.blt d n then some ((d, evO base l x) :: l, []) else none
  | some d, .assign x => bif Nat.blt d n then some ((d, evO base l x) :: l, []) else none
  | some d, op => match (execOp (evO base l) o).run P W with
    | .ok (.value v) _ => bif Nat.blt d n then some ((d, v) :: l, [(fun w => (execOp (evO base l) o).run P w, fun w => .ok (.value v) w)]) else none
    | _ => none
  | _, _ => none
def em1 (P : Program) (W : World) (h0 n : Nat) (base : List Value) (l : Slots) (rs : List RowK) (k : Nat) (hs : List Nat) (o : Oper) : Option EvM1 :=
  match newOf P (evO base l) o.op, o.dst with
  | some (mk, t, cells), some d => bif Nat.blt d n then some ⟨hs, (d, mk (h0 + k)) :: l, rs ++ [⟨h0 + k, t, cells.toList.map some⟩], k + 1, [(fun w => (execOp (evO base l) o).run P w, fun w => .ok (.value (mk w.heap.size)) (w.alloc (.cells cells t)))], []⟩ else none
  | some _, none => none
  | none, _ => match memO o.op, hs with
    | true, i :: r => match rs[i]? with
      | some q => match ev1 P W q.b n base l q.cs o with
        | some e => some ⟨r, e.l, rs.set i ⟨q.b, q.t, e.cs⟩, k, e.fs, e.bs⟩
        | none => none
      | none => none
    | true, [] => none
    | false, _ => match evP P W n base l o with
      | some (l', fs) => some ⟨hs, l', rs, k, fs, []⟩
      | none => none
structure EvM where
  ok : Bool
  l : Slots
  rs : List RowK
  k : Nat
  fs : List ((World → Result Next) × (World → Result Next))
  bs : List (Nat × Nat)
def evm (P : Program) (ops : Array Oper) (W : World) (h0 n : Nat) (base : List Value) : List Oper → List Nat → Slots → List RowK → Nat → List ((World → Result Next) × (World → Result Next)) → List (Nat × Nat) → EvM
  | [], _, l, rs, k, fs, bs => ⟨true, l, rs, k, fs, bs⟩
  | o :: r, hs, l, rs, k, fs, bs => match wantO ops n base l o with
    | some true => match em1 P W h0 n base l rs k hs o with
      | some e => evm P ops W h0 n base r e.hs e.l e.rs e.k (e.fs ++ fs) (e.bs ++ bs)
      | none => ⟨false, l, rs, k, fs, bs⟩
    | some false => match o.dst with
      | some d => bif Nat.blt d n then evm P ops W h0 n base r hs ((d, undef) :: l) rs k fs bs else ⟨false, l, rs, k, fs, bs⟩
      | none => ⟨false, l, rs, k, fs, bs⟩
    | none => ⟨false, l, rs, k, fs, bs⟩
section
variable {P : Program} {ops : Array Oper} {Q : Exit → Act → World → Prop} {base : List Value} {rest : List Oper} {l : Slots} {w w0 : World} {o : Oper} {rs : List RowK} {k h0 : Nat} {hs : List Nat} {L : List Nat}
theorem em1_sound {W : World} {e : EvM1} (hg : wantO ops base.length base l o = some true) (he : em1 P W h0 base.length base l rs k hs o = some e) (hf : ∀ x ∈ e.fs, x.1 = x.2) (hb : ∀ x ∈ e.bs, x.1 = x.2) (hm : Many w0 L rs w) (hz : w.heap.size = h0 + k)
    (h : ∀ w', Many w0 L e.rs w' → w'.heap.size = h0 + e.k → WO P ops Q base rest e.l w') : WO P ops Q base (o :: rest) l w := by
  unfold em1 at he
  split at he
  · rename_i mk t cells d hn hd
    cases hlt : Nat.blt d base.length <;> rw [hlt] at he
    · cases he
    · injection he with he; subst he
      have hrun := congrFun (hf _ List.mem_cons_self) w
      have hk := h (w.alloc (.cells cells t)) (by have := hm.alloc t cells; rw [hz] at this; exact this) (by show _ = h0 + (k + 1); rw [World.size_alloc, hz]; omega)
      refine ⟨fun hi => list_make d (mk w.heap.size) hd (wantO_sound hg hi) (w' := w.alloc (.cells cells t)) (by rw [evO_eq hi]; exact hrun) ?_⟩
      rw [put_actO, hz]
      exact hk.h ⟨by simpa [Nat.blt_eq] using hlt, hi⟩
  · cases he
  · split at he
    · rename_i i r hmo
      split at he
      · rename_i q hq
        split at he
        · rename_i e1 he1
          injection he with he; subst he
          obtain ⟨full, hr, hK⟩ := hm.rows i q hq
          exact ev1_sound hg he1 hf hb hr hK fun w' full' _ hs' hr' hK' _ hbe => h w' (hm.turn hq hr' hK' hbe) (hs'.trans hz)
        · cases he
      · cases he
    · cases he
    · rename_i hmo
      split at he
      · rename_i l' fs hp
        injection he with he; subst he
        have hk := h w hm hz
        unfold evP at hp
        split at hp
        · rename_i d x hd ho
          cases hlt : Nat.blt d base.length <;> rw [hlt] at hp
          · cases hp
          · injection hp with hp; injection hp with h1 h2; subst h1
            exact step1 hd hg hlt (exMove (.inl ho) w) hk
        · rename_i d x hd ho
          cases hlt : Nat.blt d base.length <;> rw [hlt] at hp
          · cases hp
          · injection hp with hp; injection hp with h1 h2; subst h1
            exact step1 hd hg hlt (exMove (.inr ho) w) hk
        · rename_i d hd n1 n2
          split at hp
          · rename_i v w1 hv
            cases hlt : Nat.blt d base.length <;> rw [hlt] at hp
            · cases hp
            · injection hp with hp; injection hp with h1 h2; subst h1; subst h2
              exact step1 hd hg hlt (congrFun (hf _ List.mem_cons_self) w) hk
          · cases hp
        · cases hp
      · cases he
theorem evm_mem {W : World} : ∀ (os : List Oper) (hs : List Nat) (l : Slots) (rs : List RowK) (k : Nat) (fs bs), (evm P ops W h0 base.length base os hs l rs k fs bs).ok = true →
    (∀ x ∈ fs, x ∈ (evm P ops W h0 base.length base os hs l rs k fs bs).fs) ∧ (∀ x ∈ bs, x ∈ (evm P ops W h0 base.length base os hs l rs k fs bs).bs)
  | [], _, _, _, _, _, _, _ => ⟨fun _ h => h, fun _ h => h⟩
  | o :: r, hs, l, rs, k, fs, bs, hok => by
    unfold evm at hok ⊢
    split at hok
    · split at hok
      · rename_i e he
        have ih := evm_mem r e.hs e.l e.rs e.k (e.fs ++ fs) (e.bs ++ bs) hok
        exact ⟨fun x hx => ih.1 x (List.mem_append_right _ hx), fun x hx => ih.2 x (List.mem_append_right _ hx)⟩
      · cases hok
    · split at hok
      · rename_i d hd
        cases hn : Nat.blt d base.length <;> rw [hn] at hok
        · cases hok
        · exact evm_mem r hs _ rs k fs bs hok
      · cases hok
    · cases hok
theorem evm_sound {W : World} : ∀ (os : List Oper) (hs : List Nat) (l : Slots) (rs : List RowK) (k : Nat) (fs bs) (w : World), (evm P ops W h0 base.length base os hs l rs k fs bs).ok = true →
    (∀ x ∈ (evm P ops W h0 base.length base os hs l rs k fs bs).fs, x.1 = x.2) → (∀ x ∈ (evm P ops W h0 base.length base os hs l rs k fs bs).bs, x.1 = x.2) → Many w0 L rs w → w.heap.size = h0 + k →
    (∀ w', Many w0 L (evm P ops W h0 base.length base os hs l rs k fs bs).rs w' → WO P ops Q base rest (evm P ops W h0 base.length base os hs l rs k fs bs).l w') → WO P ops Q base (os ++ rest) l w
  | [], _, _, _, _, _, _, w, _, _, _, hm, _, h => h w hm
  | o :: r, hs, l, rs, k, fs, bs, w, hok, hf, hb, hm, hz, h => by
    unfold evm at hok hf hb h
    split at hok
    case h_2 hw =>
      simp only [hw] at hf hb h
      split at hok
      · rename_i d hd
        simp only [hd] at hf hb h
        cases hn : Nat.blt d base.length <;> rw [hn] at hok
        · cases hok
        · simp only [hn, cond_true] at hf hb h
          have := evm_sound r hs _ rs k fs bs w hok hf hb hm hz h
          exact ⟨fun hi => list_skip d hd (wantO_sound hw hi) (by rw [put_actO]; exact this.h ⟨by simpa [Nat.blt_eq] using hn, hi⟩)⟩
      · cases hok
    case h_3 => cases hok
    case h_1 hw =>
    simp only [hw] at hf hb h
    split at hok
    · rename_i e he
      simp only [he] at hf hb h
      have hmm := evm_mem r e.hs e.l e.rs e.k (e.fs ++ fs) (e.bs ++ bs) hok
      exact em1_sound hw he (fun x hx => hf x (hmm.1 x (List.mem_append_left _ hx))) (fun x hx => hb x (hmm.2 x (List.mem_append_left _ hx))) hm hz fun w1 hm1 hz1 => evm_sound r e.hs e.l e.rs e.k (e.fs ++ fs) (e.bs ++ bs) w1 hok hf hb hm1 hz1 h
    · cases hok
def okMn (E : EvM) : Prop := (E.ok, E.fs.map (·.1), E.bs.map (·.1)) = (true, E.fs.map (·.2), E.bs.map (·.2))
abbrev eM (P : Program) (ops : Array Oper) (w : World) (base : List Value) (os : List Oper) (hs : List Nat) (l : Slots) (rs : List RowK) : EvM := evm P ops w w.heap.size base.length base os hs l rs 0 [] []
theorem qR (n : Nat) (hs : List Nat) (hm : Many w0 L rs w) (h : ∀ w', Many w0 L (eM P ops w base (rest.take n) hs l rs).rs w' → WO P ops Q base (rest.drop n) (eM P ops w base (rest.take n) hs l rs).l w')
    (hk : okMn (eM P ops w base (rest.take n) hs l rs) := by unfold okMn; kernel_rfl) : WO P ops Q base rest l w := by
  simp only [okMn, Prod.mk.injEq] at hk
  obtain ⟨h1, h3, h4⟩ := hk
  have := evm_sound (ops := ops) (Q := Q) (rest := rest.drop n) (rest.take n) hs l rs 0 [] [] w h1 (pairs_eq h3) (pairs_eq h4) hm rfl h
  rwa [List.take_append_drop] at this
theorem qF (hs : List Nat) (hm : Many w0 L rs w) (h : ∀ w', Many w0 L (eM P ops w base rest hs l rs).rs w' → EO Q .normal base (eM P ops w base rest hs l rs).l w')
    (hk : okMn (eM P ops w base rest hs l rs) := by unfold okMn; kernel_rfl) : WO P ops Q base rest l w := by
  simp only [okMn, Prod.mk.injEq] at hk
  obtain ⟨h1, h3, h4⟩ := hk
  have := evm_sound (ops := ops) (Q := Q) (rest := []) rest hs l rs 0 [] [] w h1 (pairs_eq h3) (pairs_eq h4) hm rfl fun w' k => woE (h w' k)
  rwa [List.append_nil] at this
theorem qE {y : Code} (hs : List Nat) (hm : Many w0 L rs w) (h : ∀ w', Many w0 L (eM P ops w base rest hs l rs).rs w' → CO P y Q base (eM P ops w base rest hs l rs).l w')
    (hk : okMn (eM P ops w base rest hs l rs) := by unfold okMn; kernel_rfl) : WO P ops (Exit.then (y.wp P Q) Q) base rest l w := qF hs hm (fun w' k => eoT (h w' k)) hk
theorem qQ {y : Code} {id : Nat} (hs : List Nat) (hm : Many w0 L rs w) (h : ∀ w', Many w0 L (eM P rest.toArray w base rest hs l rs).rs w' → CO P y Q base (eM P rest.toArray w base rest hs l rs).l w')
    (hk : okMn (eM P rest.toArray w base rest hs l rs) := by unfold okMn; kernel_rfl) : CO P (.seq (.region id rest.toArray false) y) Q base l w := coR (qE hs hm h hk)
theorem eoC {fn : Func} {R : Ending → World → Prop} {s : Tmp} {t : TypeId} (i : Nat) (vs : List Value) (hm : Many w0 L rs w) (hR : R (.returned (.agg vs.toArray)) w) (hres : fn.results = #[.cell s t] := by exact rfl) (hrow : (P.underlying t).map (·.isRow) = some true := by kernel_rfl)
    (hi : (P.info? t).map (·.size) = some vs.length := by kernel_rfl)
    (hv : (rs[i]?).map (fun r => (Value.pointer (some ⟨r.b, 0, none⟩), r.cs)) = some (lkO base s l, vs.map some) := by kernel_rfl) : EO (bodyPost P fn R) .ret base l w := by
  cases hr : rs[i]? with
  | none => rw [hr] at hv; cases hv
  | some r =>
    rw [hr] at hv
    injection hv with hv; injection hv with hv hc
    obtain ⟨full, h1, h2⟩ := hm.rows i r hr
    have hfull : full = vs.toArray := by
      apply Array.ext_getElem?
      intro k
      by_cases hk : k < vs.length
      · have : r.cs[k]? = some (some vs[k]) := by rw [hc, List.getElem?_map, List.getElem?_eq_getElem hk]; rfl
        rw [h2.at_ k _ this]
        simp [hk]
      · have hs := h2.size
        rw [hc, List.length_map] at hs
        rw [Array.getElem?_eq_none (by omega)]
        simp [hk]
    subst hfull
    obtain ⟨d, hu, hd⟩ : ∃ d, P.underlying t = some d ∧ d.isRow = true := by
      cases hp : P.underlying t with
      | none => rw [hp] at hrow; cases hrow
      | some d => rw [hp] at hrow; injection hrow with hrow; exact ⟨d, rfl, hrow⟩
    exact ⟨fun hin => bodyPost_ret (results_row hres ((congrFun (evO_eq hin) (.tmp s)).trans hv.symm) h1 d hu hd (by rw [hi]; simp)) rfl hR⟩
theorem Many.drew (h : Many w0 L rs w) : Many w0 L rs w.drew := h.below (Below.refl ..).drew
theorem qP (n : Nat) {id : Nat} {y : Code} (hm : Many w0 L rs w) (h : ∀ w', Many w0 L rs w' → PO P ops (Exit.then (y.wp P Q) Q) (Many w0 L rs) n base n (Array.replicate ops.size false) l w')
    (hB : partB ops n = true := by kernel_rfl) (hx : P.follows .mixedOrders = true := by kernel_rfl) : CO P (.seq (.region id ops true) y) Q base l w := coP n hm.drew (h _ hm.drew) hB hx
abbrev rowAt (rs : List RowK) (i : Nat) : RowK := (rs[i]?).getD ⟨0, 0, []⟩
theorem qD {n f : Nat} {listed : Array Bool} (i : Nat) (is : List Nat) (hm : Many w0 L rs w) (h : PO P ops Q (Many w0 L rs) n base (f - is.length) (setO is listed) (evs P ops w (rowAt rs i).b base.length base (atO ops is) l (rowAt rs i).cs [] []).l w)
    (hq : (rs[i]?).isSome = true := by kernel_rfl) (hk : okE (evs P ops w (rowAt rs i).b base.length base (atO ops is) l (rowAt rs i).cs [] []) (rowAt rs i).cs := by unfold okE; kernel_rfl) (ha : ((atO ops is).all noSt && (ordB ops n is listed && (partB ops n && Nat.ble is.length f))) = true := by kernel_rfl)
    (hQ : ∀ d v c a w, Q (.panic c) (a.put d v) w → Q (.panic c) a w := by intro d _ _ _ _ h; cases d <;> exact h) : PO P ops Q (Many w0 L rs) n base f listed l w := by
  simp only [Bool.and_eq_true] at ha
  obtain ⟨a1, a2, a3, a4⟩ := ha
  simp only [okE, Prod.mk.injEq] at hk
  obtain ⟨h1, _, h3, h4⟩ := hk
  have hle : is.length ≤ f := by simpa using a4
  obtain ⟨q, hq⟩ := Option.isSome_iff_exists.1 hq
  have e : rowAt rs i = q := by unfold rowAt; rw [hq]; rfl
  have := part_run (cs := (rowAt rs i).cs) (ty := q.t) (base := base) (W := w) a3 hQ (fun w' hs => by rw [e]; exact hs.rows i q hq) is (f - is.length) listed l [] [] w h1 (pairs_eq h3) (pairs_eq h4) a1 a2 hm h
  rwa [Nat.sub_add_cancel hle] at this
theorem qDc {n f : Nat} {listed : Array Bool} {V : Value} {g : FuncId} {args : Array Value} (i : Nat) (hc : Calls P g args w fun e w' => e = .returned V ∧ Below w.heap.size w w') (hm : Many w0 L rs w) (h : ∀ w', Many w0 L rs w' → PO P ops Q (Many w0 L rs) n base (f - 1) (listed.setIfInBounds i true) (putO o.dst V l) w')
    (ho : ops[i]? = some o := by exact rfl) (hr : (Region.ready .any ops listed, decide (i < n), Nat.blt 0 f, wantO ops base.length base l o, dstO o.dst base.length) = ([i], true, true, some true, true) := by kernel_rfl)
    (he : (execOp (evO base l) o).run P w = .ok (.enter g args) w := by kernel_rfl) : PO P ops Q (Many w0 L rs) n base f listed l w := by
  simp only [Prod.mk.injEq] at hr
  obtain ⟨h1, h2, h3, h4, h5⟩ := hr
  have hf : f = (f - 1) + 1 := by have : 0 < f := by simpa [Nat.blt_eq] using h3
                                  omega
  rw [hf]
  exact poCall ho h1 h2 h4 he h5 hc fun e w' ⟨e1, e2⟩ => by subst e1; exact ⟨hm.below e2, h w' (hm.below e2)⟩
theorem qDe {n f : Nat} {listed : Array Bool} {V : Value} {g : FuncId} {args : Array Value} (i : Nat) (hc : Calls P g args w fun e w' => e = .returned V ∧ w = w') (hm : Many w0 L rs w) (h : ∀ w', Many w0 L rs w' → PO P ops Q (Many w0 L rs) n base (f - 1) (listed.setIfInBounds i true) (putO o.dst V l) w')
    (ho : ops[i]? = some o := by exact rfl) (hr : (Region.ready .any ops listed, decide (i < n), Nat.blt 0 f, wantO ops base.length base l o, dstO o.dst base.length) = ([i], true, true, some true, true) := by kernel_rfl)
    (he : (execOp (evO base l) o).run P w = .ok (.enter g args) w := by kernel_rfl) : PO P ops Q (Many w0 L rs) n base f listed l w :=
  qDc i (hc.mono fun e w' k => ⟨k.1, k.2 ▸ Below.refl ..⟩) hm h ho hr he
theorem qC {V : Value} {g : FuncId} {args : Array Value} (hc : Calls P g args w fun e w' => e = .returned V ∧ Below w.heap.size w w') (hm : Many w0 L rs w) (h : ∀ w', Many w0 L rs w' → WO P ops Q base rest (putO o.dst V l) w')
    (hg : wantO ops base.length base l o = some true := by kernel_rfl) (he : (execOp (evO base l) o).run P w = .ok (.enter g args) w := by kernel_rfl) (hd : dstO o.dst base.length = true := by kernel_rfl) : WO P ops Q base (o :: rest) l w :=
  kO hc (fun w' e => h w' (hm.below e)) hg he hd
theorem qCe {V : Value} {g : FuncId} {args : Array Value} (hc : Calls P g args w fun e w' => e = .returned V ∧ w = w') (h : WO P ops Q base rest (putO o.dst V l) w)
    (hg : wantO ops base.length base l o = some true := by kernel_rfl) (he : (execOp (evO base l) o).run P w = .ok (.enter g args) w := by kernel_rfl) (hd : dstO o.dst base.length = true := by kernel_rfl) : WO P ops Q base (o :: rest) l w := kE hc h hg he hd
end
section
theorem fbc_any (b : Nat) (w : World) : Calls Tryz.prog 354 #[.pointer (some ⟨b, 0, none⟩)] w fun e w' => e = .returned (.pointer (some ⟨b, 1, none⟩)) ∧ w = w' := by
  go_enter Tryz.func354, Tryz.ntmps354
  go_wp2
  go_ret
  exact ⟨rfl, rfl⟩
theorem fde_any (b : Nat) (w : World) : Calls Tryz.prog 355 #[.pointer (some ⟨b, 0, none⟩)] w fun e w' => e = .returned (.pointer (some ⟨b, 2, none⟩)) ∧ w = w' := by
  go_enter Tryz.func355, Tryz.ntmps355
  go_wp2
  go_ret
  exact ⟨rfl, rfl⟩
theorem fhl_any (b : Nat) (w : World) : Calls Tryz.prog 365 #[.pointer (some ⟨b, 0, none⟩)] w fun e w' => e = .returned (.pointer (some ⟨b, 3, none⟩)) ∧ w = w' := by
  go_enter Tryz.func365, Tryz.ntmps365
  go_wp2
  go_ret
  exact ⟨rfl, rfl⟩
theorem fix_any (b : Nat) (w : World) : Calls Tryz.prog 363 #[.pointer (some ⟨b, 0, none⟩)] w fun e w' => e = .returned (.pointer (some ⟨b, 8, none⟩)) ∧ w = w' := by
  go_enter Tryz.func363, Tryz.ntmps363
  go_wp2
  go_ret
  exact ⟨rfl, rfl⟩
theorem fiy_any (b : Nat) (w : World) : Calls Tryz.prog 364 #[.pointer (some ⟨b, 0, none⟩)] w fun e w' => e = .returned (.pointer (some ⟨b, 9, none⟩)) ∧ w = w' := by
  go_enter Tryz.func364, Tryz.ntmps364
  go_wp2
  go_ret
  exact ⟨rfl, rfl⟩
theorem fsp_any (b : Nat) (w : World) : Calls Tryz.prog 357 #[.pointer (some ⟨b, 0, none⟩)] w fun e w' => e = .returned (.pointer (some ⟨b, 10, none⟩)) ∧ w = w' := by
  go_enter Tryz.func357, Tryz.ntmps357
  go_wp2
  go_ret
  exact ⟨rfl, rfl⟩
theorem faf_any (b : Nat) (w : World) : Calls Tryz.prog 358 #[.pointer (some ⟨b, 0, none⟩)] w fun e w' => e = .returned (.pointer (some ⟨b, 0, none⟩)) ∧ w = w' := by
  go_enter Tryz.func358, Tryz.ntmps358
  go_wp2
  go_ret
  exact ⟨rfl, rfl⟩
abbrev vBC : Value := .func (.func 354) #[] #[]
abbrev vDE : Value := .func (.func 355) #[] #[]
abbrev vSP : Value := .func (.func 357) #[] #[]
abbrev vAF : Value := .func (.func 358) #[] #[]
def thirdF (plane : Int) : FuncId := if plane = 3 then 363 else if plane = 4 then 364 else 365
abbrev thirdV (plane : Int) : Value := .func (.func (thirdF plane)) #[] #[]
theorem third_any (p : Int) (w : World) : Calls Tryz.prog 356 #[.int .i64 p] w fun e w' => e = .returned (thirdV p) ∧ w = w' := by
  unfold thirdV thirdF
  by_cases h3 : p = 3
  · subst h3
    go_enter Tryz.func356, Tryz.ntmps356
    go_wp2
    go_ret
    exact ⟨rfl, rfl⟩
  by_cases h4 : p = 4
  · subst h4
    go_enter Tryz.func356, Tryz.ntmps356
    go_wp2
    go_ret
    exact ⟨rfl, rfl⟩
  rw [if_neg h3, if_neg h4]
  have e3 : (p == 3) = false := by simpa using h3
  have e4 : (p == 4) = false := by simpa using h4
  go_enter Tryz.func356, Tryz.ntmps356
  go_wp2
  go_ret
  exact ⟨rfl, rfl⟩
theorem inp_0 (v0 : Value) (W : World) (b : Nat) (hb : b = W.heap.size) :
    (Instr.mapUpdate 221 (.map (some b)) (.int .i64 0) v0).run Tryz.prog (W.alloc (.map #[] 0)) = .ok () (W.alloc (.map #[⟨.int .i64 0, v0, 0⟩] 1)) :=
  run_insert_top W _ _ _ Tryz.underlying221 Tryz.underlying3 _ _ _ _ b hb rfl
theorem inp_1 (v0 v1 : Value) (W : World) (b : Nat) (hb : b = W.heap.size) :
    (Instr.mapUpdate 221 (.map (some b)) (.int .i64 1) v1).run Tryz.prog (W.alloc (.map #[⟨.int .i64 0, v0, 0⟩] 1)) = .ok () (W.alloc (.map #[⟨.int .i64 0, v0, 0⟩, ⟨.int .i64 1, v1, 1⟩] 2)) :=
  run_insert_top W _ _ _ Tryz.underlying221 Tryz.underlying3 _ _ _ _ b hb rfl
theorem inp_2 (v0 v1 v2 : Value) (W : World) (b : Nat) (hb : b = W.heap.size) :
    (Instr.mapUpdate 221 (.map (some b)) (.int .i64 2) v2).run Tryz.prog (W.alloc (.map #[⟨.int .i64 0, v0, 0⟩, ⟨.int .i64 1, v1, 1⟩] 2)) = .ok () (W.alloc (.map #[⟨.int .i64 0, v0, 0⟩, ⟨.int .i64 1, v1, 1⟩, ⟨.int .i64 2, v2, 2⟩] 3)) :=
  run_insert_top W _ _ _ Tryz.underlying221 Tryz.underlying3 _ _ _ _ b hb rfl
theorem inp_3 (v0 v1 v2 v3 : Value) (W : World) (b : Nat) (hb : b = W.heap.size) :
    (Instr.mapUpdate 221 (.map (some b)) (.int .i64 3) v3).run Tryz.prog (W.alloc (.map #[⟨.int .i64 0, v0, 0⟩, ⟨.int .i64 1, v1, 1⟩, ⟨.int .i64 2, v2, 2⟩] 3)) = .ok () (W.alloc (.map #[⟨.int .i64 0, v0, 0⟩, ⟨.int .i64 1, v1, 1⟩, ⟨.int .i64 2, v2, 2⟩, ⟨.int .i64 3, v3, 3⟩] 4)) :=
  run_insert_top W _ _ _ Tryz.underlying221 Tryz.underlying3 _ _ _ _ b hb rfl
attribute [local go_sem] inp_0 inp_1 inp_2 inp_3
def pairEnts (p : Int) : Array MapEntry := #[⟨.int .i64 0, vBC, 0⟩, ⟨.int .i64 1, vDE, 1⟩, ⟨.int .i64 2, thirdV p, 2⟩, ⟨.int .i64 3, vSP, 3⟩]
theorem pairs_any (p : Int) (w : World) : Calls Tryz.prog 335 #[.int .i64 p] w fun e w' => e = .returned (.map (some w.heap.size)) ∧ w' = w.alloc (.map (pairEnts p) 4) := by
  have hmm := @run_makeMap Tryz.prog
  have ht := Lib.hid (fun w => third_any p w)
  go_enter Tryz.func335, Tryz.ntmps335
  go_wp2_with (first
    | (go_at_call 356; refine (ht.out _).mono ?_; rintro e w' ⟨rfl, rfl⟩))
  go_ret
  exact ⟨rfl, rfl⟩
theorem inh_0 (v0 : Value) (W : World) (b : Nat) (hb : b = W.heap.size) :
    (Instr.mapUpdate 231 (.map (some b)) (.int .i64 0) v0).run Tryz.prog (W.alloc (.map #[] 0)) = .ok () (W.alloc (.map #[⟨.int .i64 0, v0, 0⟩] 1)) :=
  run_insert_top W _ _ _ Tryz.underlying231 Tryz.underlying3 _ _ _ _ b hb rfl
theorem inh_1 (v0 v1 : Value) (W : World) (b : Nat) (hb : b = W.heap.size) :
    (Instr.mapUpdate 231 (.map (some b)) (.int .i64 1) v1).run Tryz.prog (W.alloc (.map #[⟨.int .i64 0, v0, 0⟩] 1)) = .ok () (W.alloc (.map #[⟨.int .i64 0, v0, 0⟩, ⟨.int .i64 1, v1, 1⟩] 2)) :=
  run_insert_top W _ _ _ Tryz.underlying231 Tryz.underlying3 _ _ _ _ b hb rfl
theorem inh_2 (v0 v1 v2 : Value) (W : World) (b : Nat) (hb : b = W.heap.size) :
    (Instr.mapUpdate 231 (.map (some b)) (.int .i64 2) v2).run Tryz.prog (W.alloc (.map #[⟨.int .i64 0, v0, 0⟩, ⟨.int .i64 1, v1, 1⟩] 2)) = .ok () (W.alloc (.map #[⟨.int .i64 0, v0, 0⟩, ⟨.int .i64 1, v1, 1⟩, ⟨.int .i64 2, v2, 2⟩] 3)) :=
  run_insert_top W _ _ _ Tryz.underlying231 Tryz.underlying3 _ _ _ _ b hb rfl
theorem inh_3 (v0 v1 v2 v3 : Value) (W : World) (b : Nat) (hb : b = W.heap.size) :
    (Instr.mapUpdate 231 (.map (some b)) (.int .i64 3) v3).run Tryz.prog (W.alloc (.map #[⟨.int .i64 0, v0, 0⟩, ⟨.int .i64 1, v1, 1⟩, ⟨.int .i64 2, v2, 2⟩] 3)) = .ok () (W.alloc (.map #[⟨.int .i64 0, v0, 0⟩, ⟨.int .i64 1, v1, 1⟩, ⟨.int .i64 2, v2, 2⟩, ⟨.int .i64 3, v3, 3⟩] 4)) :=
  run_insert_top W _ _ _ Tryz.underlying231 Tryz.underlying3 _ _ _ _ b hb rfl
theorem inh_4 (v0 v1 v2 v3 v4 : Value) (W : World) (b : Nat) (hb : b = W.heap.size) :
    (Instr.mapUpdate 231 (.map (some b)) (.int .i64 4) v4).run Tryz.prog (W.alloc (.map #[⟨.int .i64 0, v0, 0⟩, ⟨.int .i64 1, v1, 1⟩, ⟨.int .i64 2, v2, 2⟩, ⟨.int .i64 3, v3, 3⟩] 4)) = .ok () (W.alloc (.map #[⟨.int .i64 0, v0, 0⟩, ⟨.int .i64 1, v1, 1⟩, ⟨.int .i64 2, v2, 2⟩, ⟨.int .i64 3, v3, 3⟩, ⟨.int .i64 4, v4, 4⟩] 5)) :=
  run_insert_top W _ _ _ Tryz.underlying231 Tryz.underlying3 _ _ _ _ b hb rfl
theorem inh_5 (v0 v1 v2 v3 v4 v5 : Value) (W : World) (b : Nat) (hb : b = W.heap.size) :
    (Instr.mapUpdate 231 (.map (some b)) (.int .i64 5) v5).run Tryz.prog (W.alloc (.map #[⟨.int .i64 0, v0, 0⟩, ⟨.int .i64 1, v1, 1⟩, ⟨.int .i64 2, v2, 2⟩, ⟨.int .i64 3, v3, 3⟩, ⟨.int .i64 4, v4, 4⟩] 5)) = .ok () (W.alloc (.map #[⟨.int .i64 0, v0, 0⟩, ⟨.int .i64 1, v1, 1⟩, ⟨.int .i64 2, v2, 2⟩, ⟨.int .i64 3, v3, 3⟩, ⟨.int .i64 4, v4, 4⟩, ⟨.int .i64 5, v5, 5⟩] 6)) :=
  run_insert_top W _ _ _ Tryz.underlying231 Tryz.underlying3 _ _ _ _ b hb rfl
theorem inh_6 (v0 v1 v2 v3 v4 v5 v6 : Value) (W : World) (b : Nat) (hb : b = W.heap.size) :
    (Instr.mapUpdate 231 (.map (some b)) (.int .i64 7) v6).run Tryz.prog (W.alloc (.map #[⟨.int .i64 0, v0, 0⟩, ⟨.int .i64 1, v1, 1⟩, ⟨.int .i64 2, v2, 2⟩, ⟨.int .i64 3, v3, 3⟩, ⟨.int .i64 4, v4, 4⟩, ⟨.int .i64 5, v5, 5⟩] 6)) = .ok () (W.alloc (.map #[⟨.int .i64 0, v0, 0⟩, ⟨.int .i64 1, v1, 1⟩, ⟨.int .i64 2, v2, 2⟩, ⟨.int .i64 3, v3, 3⟩, ⟨.int .i64 4, v4, 4⟩, ⟨.int .i64 5, v5, 5⟩, ⟨.int .i64 7, v6, 6⟩] 7)) :=
  run_insert_top W _ _ _ Tryz.underlying231 Tryz.underlying3 _ _ _ _ b hb rfl
attribute [local go_sem] inh_0 inh_1 inh_2 inh_3 inh_4 inh_5 inh_6
abbrev halfV (v : Value) (high : Bool) : Value := .agg #[v, .bool high]
def halfEnts (p : Int) : Array MapEntry := #[⟨.int .i64 0, halfV vBC true, 0⟩, ⟨.int .i64 1, halfV vBC false, 1⟩, ⟨.int .i64 2, halfV vDE true, 2⟩, ⟨.int .i64 3, halfV vDE false, 3⟩, ⟨.int .i64 4, halfV (thirdV p) true, 4⟩, ⟨.int .i64 5, halfV (thirdV p) false, 5⟩, ⟨.int .i64 7, halfV vAF true, 6⟩]
theorem halves_any (p : Int) (w : World) : Calls Tryz.prog 340 #[.int .i64 p] w fun e w' => e = .returned (.map (some w.heap.size)) ∧ w' = w.alloc (.map (halfEnts p) 7) := by
  have hmm := @run_makeMap Tryz.prog
  have ht := Lib.hid (fun w => third_any p w)
  go_enter Tryz.func340, Tryz.ntmps340
  go_wp2_with (first
    | (go_at_call 356; refine (ht.out _).mono ?_; rintro e w' ⟨rfl, rfl⟩))
  go_ret
  exact ⟨rfl, rfl⟩
theorem lkp_0 {w : World} {M : Nat} {p : Int} (h : w.heap[M]? = some (.map (pairEnts p) 4)) : (Instr.lookup 221 (.map (some M)) (.int .i64 0) true).run Tryz.prog w = .ok (.tuple #[vBC, .bool true]) w :=
  run_look Tryz.underlying221 Tryz.underlying3 h rfl
theorem lkp_1 {w : World} {M : Nat} {p : Int} (h : w.heap[M]? = some (.map (pairEnts p) 4)) : (Instr.lookup 221 (.map (some M)) (.int .i64 1) true).run Tryz.prog w = .ok (.tuple #[vDE, .bool true]) w :=
  run_look Tryz.underlying221 Tryz.underlying3 h rfl
theorem lkp_2 {w : World} {M : Nat} {p : Int} {F : FuncId} (hF : thirdF p = F) (h : w.heap[M]? = some (.map (pairEnts p) 4)) : (Instr.lookup 221 (.map (some M)) (.int .i64 2) true).run Tryz.prog w = .ok (.tuple #[.func (.func F) #[] #[], .bool true]) w :=
  hF ▸ run_look Tryz.underlying221 Tryz.underlying3 h rfl
theorem lkp_3 {w : World} {M : Nat} {p : Int} (h : w.heap[M]? = some (.map (pairEnts p) 4)) : (Instr.lookup 221 (.map (some M)) (.int .i64 3) true).run Tryz.prog w = .ok (.tuple #[vSP, .bool true]) w :=
  run_look Tryz.underlying221 Tryz.underlying3 h rfl
theorem lkp_no {w : World} {M : Nat} {p k : Int} (hk : k < 0 ∨ 3 < k) (h : w.heap[M]? = some (.map (pairEnts p) 4)) : (Instr.lookup 221 (.map (some M)) (.int .i64 k) true).run Tryz.prog w = .ok (.tuple #[.nilFunc, .bool false]) w :=
  run_look_no Tryz.underlying221 Tryz.underlying3 h (by
    have n0 : (k == 0) = false := by simp; omega
    have n1 : (k == 1) = false := by simp; omega
    have n2 : (k == 2) = false := by simp; omega
    have n3 : (k == 3) = false := by simp; omega
    simp only [pairEnts, Instr.findNow, Instr.sameNow, if_true, n0, n1, n2, n3]) (by kernel_rfl)
theorem lkh_0 {w : World} {M : Nat} {p : Int} (h : w.heap[M]? = some (.map (halfEnts p) 7)) : (Instr.lookup 231 (.map (some M)) (.int .i64 0) true).run Tryz.prog w = .ok (.tuple #[halfV vBC true, .bool true]) w :=
  run_look Tryz.underlying231 Tryz.underlying3 h rfl
theorem lkh_1 {w : World} {M : Nat} {p : Int} (h : w.heap[M]? = some (.map (halfEnts p) 7)) : (Instr.lookup 231 (.map (some M)) (.int .i64 1) true).run Tryz.prog w = .ok (.tuple #[halfV vBC false, .bool true]) w :=
  run_look Tryz.underlying231 Tryz.underlying3 h rfl
theorem lkh_2 {w : World} {M : Nat} {p : Int} (h : w.heap[M]? = some (.map (halfEnts p) 7)) : (Instr.lookup 231 (.map (some M)) (.int .i64 2) true).run Tryz.prog w = .ok (.tuple #[halfV vDE true, .bool true]) w :=
  run_look Tryz.underlying231 Tryz.underlying3 h rfl
theorem lkh_3 {w : World} {M : Nat} {p : Int} (h : w.heap[M]? = some (.map (halfEnts p) 7)) : (Instr.lookup 231 (.map (some M)) (.int .i64 3) true).run Tryz.prog w = .ok (.tuple #[halfV vDE false, .bool true]) w :=
  run_look Tryz.underlying231 Tryz.underlying3 h rfl
theorem lkh_4 {w : World} {M : Nat} {p : Int} {F : FuncId} (hF : thirdF p = F) (h : w.heap[M]? = some (.map (halfEnts p) 7)) : (Instr.lookup 231 (.map (some M)) (.int .i64 4) true).run Tryz.prog w = .ok (.tuple #[halfV (.func (.func F) #[] #[]) true, .bool true]) w :=
  hF ▸ run_look Tryz.underlying231 Tryz.underlying3 h rfl
theorem lkh_5 {w : World} {M : Nat} {p : Int} {F : FuncId} (hF : thirdF p = F) (h : w.heap[M]? = some (.map (halfEnts p) 7)) : (Instr.lookup 231 (.map (some M)) (.int .i64 5) true).run Tryz.prog w = .ok (.tuple #[halfV (.func (.func F) #[] #[]) false, .bool true]) w :=
  hF ▸ run_look Tryz.underlying231 Tryz.underlying3 h rfl
theorem lkh_7 {w : World} {M : Nat} {p : Int} (h : w.heap[M]? = some (.map (halfEnts p) 7)) : (Instr.lookup 231 (.map (some M)) (.int .i64 7) true).run Tryz.prog w = .ok (.tuple #[halfV vAF true, .bool true]) w :=
  run_look Tryz.underlying231 Tryz.underlying3 h rfl
theorem lkh_no {w : World} {M : Nat} {p k : Int} (hk : k < 0 ∨ k = 6 ∨ 7 < k) (h : w.heap[M]? = some (.map (halfEnts p) 7)) : (Instr.lookup 231 (.map (some M)) (.int .i64 k) true).run Tryz.prog w = .ok (.tuple #[halfV .nilFunc false, .bool false]) w :=
  run_look_no Tryz.underlying231 Tryz.underlying3 h (by
    have n0 : (k == 0) = false := by simp; omega
    have n1 : (k == 1) = false := by simp; omega
    have n2 : (k == 2) = false := by simp; omega
    have n3 : (k == 3) = false := by simp; omega
    have n4 : (k == 4) = false := by simp; omega
    have n5 : (k == 5) = false := by simp; omega
    have n7 : (k == 7) = false := by simp; omega
    simp only [halfEnts, Instr.findNow, Instr.sameNow, if_true, n0, n1, n2, n3, n4, n5, n7]) (by kernel_rfl)
end
theorem info24 : (Tryz.prog.info? 24).map (·.size) = some 20 := by kernel_rfl
theorem info42 : (Tryz.prog.info? 223).map (·.size) = some 20 := by kernel_rfl
theorem get_hi (p : Int) (k : Int) (F o : Nat) (hlk : ∀ {w : World} {M : Nat}, w.heap[M]? = some (.map (halfEnts p) 7) → (Instr.lookup 231 (.map (some M)) (.int .i64 k) true).run Tryz.prog w = .ok (.tuple #[halfV (.func (.func F) #[] #[]) true, .bool true]) w) (hF : ∀ (b : Nat) (w : World), Calls Tryz.prog F #[.pointer (some ⟨b, 0, none⟩)] w fun e w' => e = .returned (.pointer (some ⟨b, o, none⟩)) ∧ w = w') (hcall : ∀ (args : Array Value) (w : World), (callFunc F args).run Tryz.prog w = .ok (.enter F args) w) (cs : Array Value) (hs : cs.size = 20) (ho : cs.toList.all (·.oneCell') = true) (x : Int) (hx : Wd16 x) (hc : cs[o]? = some (.int .u16 x)) (w : World) :
    Calls Tryz.prog 310 #[.agg cs, .int .i64 p, .int .i64 k] w fun e w' => e = .returned (.int .u8 (x / 256)) ∧ Below w.heap.size w w' := by
  have kh := Lib.hid (fun w => halves_any p w)
  have kb := Lib.hid (hi_any x hx.1 hx.2)
  have hl := hlk (World.alloc_heap_new (w.alloc (.cells cs 24)) (.map (halfEnts p) 7))
  have r0 := (Row.new w 24 cs).alloc (.map (halfEnts p) 7)
  have HB0 : Below w.heap.size w ((w.alloc (.cells cs 24)).alloc (.map (halfEnts p) 7)) := (by repeat (first | exact Below.refl _ _ | assumption | refine bstep ?_ (by assumption) | refine Below.drew ?_ | refine Below.alloc ?_ (by first | (simp; done) | (simp; omega) | omega) _ | refine Below.setCell ?_ (by first | (simp; done) | (simp; omega) | omega) _))
  have i24 : Hid ((Tryz.prog.info? 24).map (·.size) = some cs.size) := Lib.hid (by rw [hs]; exact info24)
  have i42 : Hid ((Tryz.prog.info? 223).map (·.size) = some cs.size) := Lib.hid (by rw [hs]; exact info42)
  have ho' := Lib.hid ho
  have hs' := Lib.hid hs
  clear hs ho hx
  go_enter Tryz.func310, Tryz.ntmps310
  go_wp2_with fail
  refine (kh.out _).mono ?_
  rintro e w2 ⟨rfl, rfl⟩
  generalize (w.alloc (.cells cs 24)).alloc (.map (halfEnts p) 7) = W at *
  generalize (w.alloc (.cells cs 24)).heap.size = M at *
  have HB := Lib.hid HB0
  have hg := HB0.size
  clear HB0
  have hW : w.heap.size < W.heap.size := r0.lt
  go_upto_region 5 with (first
    | (refine wpList_load_row rfl 24 _ rfl _ _ _ rfl (r0.alloc _) _ Tryz.underlying24 rfl i24.out ?_)
    | (refine wpList_store_top rfl 223 _ _ rfl _ _ _ _ cs rfl rfl (by simp) (by rw [hs'.out]; exact Eq.refl 20) i42.out ho'.out ?_))
  have r1 := (Row.new W 229 #[.func (.func F) #[] #[], .bool true]).alloc (.cells cs 223)
  have r2 := Row.new (W.alloc (.cells #[.func (.func F) #[] #[], .bool true] 229)) 223 cs
  have HB2 := Lib.hid ((HB.out.alloc HB.out.size (.cells #[.func (.func F) #[] #[], .bool true] 229)).alloc (by simp; omega) (.cells cs 223))
  rw [show (W.alloc (.cells #[.func (.func F) #[] #[], .bool true] 229)).heap.size = W.heap.size + 1 by simp] at r2
  have l0 := r1.cell 0
  have l1 := r1.cell 1
  have c1 := (r2.cell o).trans hc
  clear r1 r2 hl r0 hc
  generalize (W.alloc (.cells #[.func (.func F) #[] #[], .bool true] 229)).alloc (.cells cs 223) = W2 at *
  go_wp2_with (first
    | (go_at_call 192; refine (kb.out _).mono ?_; rintro e w' ⟨rfl, rfl⟩)
    | (refine (hF _ _).mono ?_; rintro e w' ⟨rfl, rfl⟩))
  go_ret
  exact ⟨rfl, HB2.out⟩
theorem get_0bc (p : Int) (cs : Array Value) (hs : cs.size = 20) (ho : cs.toList.all (·.oneCell') = true) (x : Int) (hx : Wd16 x) (hc : cs[1]? = some (.int .u16 x)) (w : World) :
    Calls Tryz.prog 310 #[.agg cs, .int .i64 p, .int .i64 0] w fun e w' => e = .returned (.int .u8 (x / 256)) ∧ Below w.heap.size w w' :=
  get_hi p 0 _ 1 lkh_0 (fun b w => fbc_any b w) (fun _ _ => by kernel_rfl) cs hs ho x hx hc w
theorem get_lo (p : Int) (k : Int) (F o : Nat) (hlk : ∀ {w : World} {M : Nat}, w.heap[M]? = some (.map (halfEnts p) 7) → (Instr.lookup 231 (.map (some M)) (.int .i64 k) true).run Tryz.prog w = .ok (.tuple #[halfV (.func (.func F) #[] #[]) false, .bool true]) w) (hF : ∀ (b : Nat) (w : World), Calls Tryz.prog F #[.pointer (some ⟨b, 0, none⟩)] w fun e w' => e = .returned (.pointer (some ⟨b, o, none⟩)) ∧ w = w') (hcall : ∀ (args : Array Value) (w : World), (callFunc F args).run Tryz.prog w = .ok (.enter F args) w) (cs : Array Value) (hs : cs.size = 20) (ho : cs.toList.all (·.oneCell') = true) (x : Int) (hx : Wd16 x) (hc : cs[o]? = some (.int .u16 x)) (w : World) :
    Calls Tryz.prog 310 #[.agg cs, .int .i64 p, .int .i64 k] w fun e w' => e = .returned (.int .u8 (x % 256)) ∧ Below w.heap.size w w' := by
  have kh := Lib.hid (fun w => halves_any p w)
  have kb := Lib.hid (lo_any x hx.1 hx.2)
  have hl := hlk (World.alloc_heap_new (w.alloc (.cells cs 24)) (.map (halfEnts p) 7))
  have r0 := (Row.new w 24 cs).alloc (.map (halfEnts p) 7)
  have HB0 : Below w.heap.size w ((w.alloc (.cells cs 24)).alloc (.map (halfEnts p) 7)) := (by repeat (first | exact Below.refl _ _ | assumption | refine bstep ?_ (by assumption) | refine Below.drew ?_ | refine Below.alloc ?_ (by first | (simp; done) | (simp; omega) | omega) _ | refine Below.setCell ?_ (by first | (simp; done) | (simp; omega) | omega) _))
  have i24 : Hid ((Tryz.prog.info? 24).map (·.size) = some cs.size) := Lib.hid (by rw [hs]; exact info24)
  have i42 : Hid ((Tryz.prog.info? 223).map (·.size) = some cs.size) := Lib.hid (by rw [hs]; exact info42)
  have ho' := Lib.hid ho
  have hs' := Lib.hid hs
  clear hs ho hx
  go_enter Tryz.func310, Tryz.ntmps310
  go_wp2_with fail
  refine (kh.out _).mono ?_
  rintro e w2 ⟨rfl, rfl⟩
  generalize (w.alloc (.cells cs 24)).alloc (.map (halfEnts p) 7) = W at *
  generalize (w.alloc (.cells cs 24)).heap.size = M at *
  have HB := Lib.hid HB0
  have hg := HB0.size
  clear HB0
  have hW : w.heap.size < W.heap.size := r0.lt
  go_upto_region 5 with (first
    | (refine wpList_load_row rfl 24 _ rfl _ _ _ rfl (r0.alloc _) _ Tryz.underlying24 rfl i24.out ?_)
    | (refine wpList_store_top rfl 223 _ _ rfl _ _ _ _ cs rfl rfl (by simp) (by rw [hs'.out]; exact Eq.refl 20) i42.out ho'.out ?_))
  have r1 := (Row.new W 229 #[.func (.func F) #[] #[], .bool false]).alloc (.cells cs 223)
  have r2 := Row.new (W.alloc (.cells #[.func (.func F) #[] #[], .bool false] 229)) 223 cs
  have HB2 := Lib.hid ((HB.out.alloc HB.out.size (.cells #[.func (.func F) #[] #[], .bool false] 229)).alloc (by simp; omega) (.cells cs 223))
  rw [show (W.alloc (.cells #[.func (.func F) #[] #[], .bool false] 229)).heap.size = W.heap.size + 1 by simp] at r2
  have l0 := r1.cell 0
  have l1 := r1.cell 1
  have c1 := (r2.cell o).trans hc
  clear r1 r2 hl r0 hc
  generalize (W.alloc (.cells #[.func (.func F) #[] #[], .bool false] 229)).alloc (.cells cs 223) = W2 at *
  go_wp2_with (first
    | (go_at_call 193; refine (kb.out _).mono ?_; rintro e w' ⟨rfl, rfl⟩)
    | (refine (hF _ _).mono ?_; rintro e w' ⟨rfl, rfl⟩))
  go_ret
  exact ⟨rfl, HB2.out⟩
theorem get_1bc (p : Int) (cs : Array Value) (hs : cs.size = 20) (ho : cs.toList.all (·.oneCell') = true) (x : Int) (hx : Wd16 x) (hc : cs[1]? = some (.int .u16 x)) (w : World) :
    Calls Tryz.prog 310 #[.agg cs, .int .i64 p, .int .i64 1] w fun e w' => e = .returned (.int .u8 (x % 256)) ∧ Below w.heap.size w w' :=
  get_lo p 1 _ 1 lkh_1 (fun b w => fbc_any b w) (fun _ _ => by kernel_rfl) cs hs ho x hx hc w
theorem get_2de (p : Int) (cs : Array Value) (hs : cs.size = 20) (ho : cs.toList.all (·.oneCell') = true) (x : Int) (hx : Wd16 x) (hc : cs[2]? = some (.int .u16 x)) (w : World) :
    Calls Tryz.prog 310 #[.agg cs, .int .i64 p, .int .i64 2] w fun e w' => e = .returned (.int .u8 (x / 256)) ∧ Below w.heap.size w w' :=
  get_hi p 2 _ 2 lkh_2 (fun b w => fde_any b w) (fun _ _ => by kernel_rfl) cs hs ho x hx hc w
theorem get_3de (p : Int) (cs : Array Value) (hs : cs.size = 20) (ho : cs.toList.all (·.oneCell') = true) (x : Int) (hx : Wd16 x) (hc : cs[2]? = some (.int .u16 x)) (w : World) :
    Calls Tryz.prog 310 #[.agg cs, .int .i64 p, .int .i64 3] w fun e w' => e = .returned (.int .u8 (x % 256)) ∧ Below w.heap.size w w' :=
  get_lo p 3 _ 2 lkh_3 (fun b w => fde_any b w) (fun _ _ => by kernel_rfl) cs hs ho x hx hc w
theorem get_4ix (p : Int) (cs : Array Value) (hs : cs.size = 20) (ho : cs.toList.all (·.oneCell') = true) (hF : thirdF p = 363) (x : Int) (hx : Wd16 x) (hc : cs[8]? = some (.int .u16 x)) (w : World) :
    Calls Tryz.prog 310 #[.agg cs, .int .i64 p, .int .i64 4] w fun e w' => e = .returned (.int .u8 (x / 256)) ∧ Below w.heap.size w w' :=
  get_hi p 4 _ 8 (lkh_4 hF) (fun b w => fix_any b w) (fun _ _ => by kernel_rfl) cs hs ho x hx hc w
theorem get_4iy (p : Int) (cs : Array Value) (hs : cs.size = 20) (ho : cs.toList.all (·.oneCell') = true) (hF : thirdF p = 364) (x : Int) (hx : Wd16 x) (hc : cs[9]? = some (.int .u16 x)) (w : World) :
    Calls Tryz.prog 310 #[.agg cs, .int .i64 p, .int .i64 4] w fun e w' => e = .returned (.int .u8 (x / 256)) ∧ Below w.heap.size w w' :=
  get_hi p 4 _ 9 (lkh_4 hF) (fun b w => fiy_any b w) (fun _ _ => by kernel_rfl) cs hs ho x hx hc w
theorem get_4hl (p : Int) (cs : Array Value) (hs : cs.size = 20) (ho : cs.toList.all (·.oneCell') = true) (hF : thirdF p = 365) (x : Int) (hx : Wd16 x) (hc : cs[3]? = some (.int .u16 x)) (w : World) :
    Calls Tryz.prog 310 #[.agg cs, .int .i64 p, .int .i64 4] w fun e w' => e = .returned (.int .u8 (x / 256)) ∧ Below w.heap.size w w' :=
  get_hi p 4 _ 3 (lkh_4 hF) (fun b w => fhl_any b w) (fun _ _ => by kernel_rfl) cs hs ho x hx hc w
theorem get_5ix (p : Int) (cs : Array Value) (hs : cs.size = 20) (ho : cs.toList.all (·.oneCell') = true) (hF : thirdF p = 363) (x : Int) (hx : Wd16 x) (hc : cs[8]? = some (.int .u16 x)) (w : World) :
    Calls Tryz.prog 310 #[.agg cs, .int .i64 p, .int .i64 5] w fun e w' => e = .returned (.int .u8 (x % 256)) ∧ Below w.heap.size w w' :=
  get_lo p 5 _ 8 (lkh_5 hF) (fun b w => fix_any b w) (fun _ _ => by kernel_rfl) cs hs ho x hx hc w
theorem get_5iy (p : Int) (cs : Array Value) (hs : cs.size = 20) (ho : cs.toList.all (·.oneCell') = true) (hF : thirdF p = 364) (x : Int) (hx : Wd16 x) (hc : cs[9]? = some (.int .u16 x)) (w : World) :
    Calls Tryz.prog 310 #[.agg cs, .int .i64 p, .int .i64 5] w fun e w' => e = .returned (.int .u8 (x % 256)) ∧ Below w.heap.size w w' :=
  get_lo p 5 _ 9 (lkh_5 hF) (fun b w => fiy_any b w) (fun _ _ => by kernel_rfl) cs hs ho x hx hc w
theorem get_5hl (p : Int) (cs : Array Value) (hs : cs.size = 20) (ho : cs.toList.all (·.oneCell') = true) (hF : thirdF p = 365) (x : Int) (hx : Wd16 x) (hc : cs[3]? = some (.int .u16 x)) (w : World) :
    Calls Tryz.prog 310 #[.agg cs, .int .i64 p, .int .i64 5] w fun e w' => e = .returned (.int .u8 (x % 256)) ∧ Below w.heap.size w w' :=
  get_lo p 5 _ 3 (lkh_5 hF) (fun b w => fhl_any b w) (fun _ _ => by kernel_rfl) cs hs ho x hx hc w
theorem get_7af (p : Int) (cs : Array Value) (hs : cs.size = 20) (ho : cs.toList.all (·.oneCell') = true) (x : Int) (hx : Wd16 x) (hc : cs[0]? = some (.int .u16 x)) (w : World) :
    Calls Tryz.prog 310 #[.agg cs, .int .i64 p, .int .i64 7] w fun e w' => e = .returned (.int .u8 (x / 256)) ∧ Below w.heap.size w w' :=
  get_hi p 7 _ 0 lkh_7 (fun b w => faf_any b w) (fun _ _ => by kernel_rfl) cs hs ho x hx hc w
theorem get_no (p k : Int) (hk : k < 0 ∨ k = 6 ∨ 7 < k) (cs : Array Value) (w : World) :
    Calls Tryz.prog 310 #[.agg cs, .int .i64 p, .int .i64 k] w fun e w' => e = .returned (.int .u8 0) ∧ Below w.heap.size w w' := by
  have kh := Lib.hid (fun w => halves_any p w)
  have hl := lkh_no (p := p) hk (World.alloc_heap_new (w.alloc (.cells cs 24)) (.map (halfEnts p) 7))
  have HB0 : Below w.heap.size w ((w.alloc (.cells cs 24)).alloc (.map (halfEnts p) 7)) := (by repeat (first | exact Below.refl _ _ | assumption | refine bstep ?_ (by assumption) | refine Below.drew ?_ | refine Below.alloc ?_ (by first | (simp; done) | (simp; omega) | omega) _ | refine Below.setCell ?_ (by first | (simp; done) | (simp; omega) | omega) _))
  clear hk
  go_enter Tryz.func310, Tryz.ntmps310
  go_wp2_with fail
  refine (kh.out _).mono ?_
  rintro e w2 ⟨rfl, rfl⟩
  generalize (w.alloc (.cells cs 24)).alloc (.map (halfEnts p) 7) = W at *
  generalize (w.alloc (.cells cs 24)).heap.size = M at *
  have HB := Lib.hid HB0
  clear HB0
  go_wp2
  go_ret
  exact ⟨rfl, HB.out.alloc HB.out.size _⟩
theorem regsC_one (g : Rg) : (regsC g).toList.all (·.oneCell') = true := rfl
theorem thirdF_dd {p : Int} (h : p = 3) : thirdF p = 363 := by unfold thirdF; rw [if_pos h]
theorem thirdF_fd {p : Int} (h : p ≠ 3) (h4 : p = 4) : thirdF p = 364 := by unfold thirdF; rw [if_neg h, if_pos h4]
theorem thirdF_hl {p : Int} (h : p ≠ 3) (h4 : p ≠ 4) : thirdF p = 365 := by unfold thirdF; rw [if_neg h, if_neg h4]
theorem pairG_2 (g : Rg) (p : Int) : pairG g p 2 = if p = 3 then g.ix else if p = 4 then g.iy else g.hl := rfl
theorem get_any (g : Rg) (hg : RgB g) (p k : Int) (w : World) :
    Calls Tryz.prog 310 #[regsV g, .int .i64 p, .int .i64 k] w fun e w' => e = .returned (.int .u8 (getG g p k)) ∧ Below w.heap.size w w' := by
  by_cases hn : k < 0 ∨ k = 6 ∨ 7 < k
  · rw [getG_no g p k hn]
    exact get_no p k hn _ w
  have h1 := regsC_one g
  obtain rfl | rfl | rfl | rfl | rfl | rfl | rfl : k = 0 ∨ k = 1 ∨ k = 2 ∨ k = 3 ∨ k = 4 ∨ k = 5 ∨ k = 7 := by omega
  · exact get_0bc p _ rfl h1 g.bc hg.bc rfl w
  · exact get_1bc p _ rfl h1 g.bc hg.bc rfl w
  · exact get_2de p _ rfl h1 g.de hg.de rfl w
  · exact get_3de p _ rfl h1 g.de hg.de rfl w
  · show Calls _ _ _ _ fun e w' => e = .returned (.int .u8 (pairG g p 2 / 256)) ∧ _
    rw [pairG_2]
    by_cases h3 : p = 3
    · rw [if_pos h3]
      exact get_4ix p _ rfl h1 (thirdF_dd h3) g.ix hg.ix rfl w
    by_cases h4 : p = 4
    · rw [if_neg h3, if_pos h4]
      exact get_4iy p _ rfl h1 (thirdF_fd h3 h4) g.iy hg.iy rfl w
    · rw [if_neg h3, if_neg h4]
      exact get_4hl p _ rfl h1 (thirdF_hl h3 h4) g.hl hg.hl rfl w
  · show Calls _ _ _ _ fun e w' => e = .returned (.int .u8 (pairG g p 2 % 256)) ∧ _
    rw [pairG_2]
    by_cases h3 : p = 3
    · rw [if_pos h3]
      exact get_5ix p _ rfl h1 (thirdF_dd h3) g.ix hg.ix rfl w
    by_cases h4 : p = 4
    · rw [if_neg h3, if_pos h4]
      exact get_5iy p _ rfl h1 (thirdF_fd h3 h4) g.iy hg.iy rfl w
    · rw [if_neg h3, if_neg h4]
      exact get_5hl p _ rfl h1 (thirdF_hl h3 h4) g.hl hg.hl rfl w
  · exact get_7af p _ rfl h1 g.af hg.af rfl w
theorem pair_at (p : Int) (k : Int) (F o : Nat) (hlk : ∀ {w : World} {M : Nat}, w.heap[M]? = some (.map (pairEnts p) 4) → (Instr.lookup 221 (.map (some M)) (.int .i64 k) true).run Tryz.prog w = .ok (.tuple #[.func (.func F) #[] #[], .bool true]) w) (hF : ∀ (b : Nat) (w : World), Calls Tryz.prog F #[.pointer (some ⟨b, 0, none⟩)] w fun e w' => e = .returned (.pointer (some ⟨b, o, none⟩)) ∧ w = w') (hcall : ∀ (args : Array Value) (w : World), (callFunc F args).run Tryz.prog w = .ok (.enter F args) w) (cs : Array Value) (hs : cs.size = 20) (ho : cs.toList.all (·.oneCell') = true) (x : Int) (hc : cs[o]? = some (.int .u16 x)) (w : World) :
    Calls Tryz.prog 296 #[.agg cs, .int .i64 p, .int .i64 k] w fun e w' => e = .returned (.int .u16 x) ∧ Below w.heap.size w w' := by
  have kh := Lib.hid (fun w => pairs_any p w)
  have hl := hlk (World.alloc_heap_new (w.alloc (.cells cs 24)) (.map (pairEnts p) 4))
  have r0 := (Row.new w 24 cs).alloc (.map (pairEnts p) 4)
  have HB0 : Below w.heap.size w ((w.alloc (.cells cs 24)).alloc (.map (pairEnts p) 4)) := (by repeat (first | exact Below.refl _ _ | assumption | refine bstep ?_ (by assumption) | refine Below.drew ?_ | refine Below.alloc ?_ (by first | (simp; done) | (simp; omega) | omega) _ | refine Below.setCell ?_ (by first | (simp; done) | (simp; omega) | omega) _))
  have i24 : Hid ((Tryz.prog.info? 24).map (·.size) = some cs.size) := Lib.hid (by rw [hs]; exact info24)
  have i42 : Hid ((Tryz.prog.info? 223).map (·.size) = some cs.size) := Lib.hid (by rw [hs]; exact info42)
  have ho' := Lib.hid ho
  have hs' := Lib.hid hs
  clear hs ho
  go_enter Tryz.func296, Tryz.ntmps296
  go_wp2_with fail
  refine (kh.out _).mono ?_
  rintro e w2 ⟨rfl, rfl⟩
  generalize (w.alloc (.cells cs 24)).alloc (.map (pairEnts p) 4) = W at *
  generalize (w.alloc (.cells cs 24)).heap.size = M at *
  have HB := Lib.hid HB0
  have hg := HB0.size
  clear HB0
  have hW : w.heap.size < W.heap.size := r0.lt
  go_upto_region 5 with (first
    | (refine wpList_load_row rfl 24 _ rfl _ _ _ rfl r0 _ Tryz.underlying24 rfl i24.out ?_)
    | (refine wpList_store_top rfl 223 _ _ rfl _ _ _ _ cs rfl rfl (by simp) (by rw [hs'.out]; exact Eq.refl 20) i42.out ho'.out ?_))
  have r2 := Row.new W 223 cs
  have HB2 := Lib.hid (HB.out.alloc HB.out.size (.cells cs 223))
  have c1 := (r2.cell o).trans hc
  clear r2 hl r0 hc
  generalize W.alloc (.cells cs 223) = W2 at *
  go_wp2_with (refine (hF _ _).mono ?_; rintro e w' ⟨rfl, rfl⟩)
  go_ret
  exact ⟨rfl, HB2.out⟩
theorem pair_0bc (p : Int) (cs : Array Value) (hs : cs.size = 20) (ho : cs.toList.all (·.oneCell') = true) (x : Int) (hc : cs[1]? = some (.int .u16 x)) (w : World) :
    Calls Tryz.prog 296 #[.agg cs, .int .i64 p, .int .i64 0] w fun e w' => e = .returned (.int .u16 x) ∧ Below w.heap.size w w' :=
  pair_at p 0 _ 1 lkp_0 (fun b w => fbc_any b w) (fun _ _ => by kernel_rfl) cs hs ho x hc w
theorem pair_1de (p : Int) (cs : Array Value) (hs : cs.size = 20) (ho : cs.toList.all (·.oneCell') = true) (x : Int) (hc : cs[2]? = some (.int .u16 x)) (w : World) :
    Calls Tryz.prog 296 #[.agg cs, .int .i64 p, .int .i64 1] w fun e w' => e = .returned (.int .u16 x) ∧ Below w.heap.size w w' :=
  pair_at p 1 _ 2 lkp_1 (fun b w => fde_any b w) (fun _ _ => by kernel_rfl) cs hs ho x hc w
theorem pair_2ix (p : Int) (cs : Array Value) (hs : cs.size = 20) (ho : cs.toList.all (·.oneCell') = true) (hF : thirdF p = 363) (x : Int) (hc : cs[8]? = some (.int .u16 x)) (w : World) :
    Calls Tryz.prog 296 #[.agg cs, .int .i64 p, .int .i64 2] w fun e w' => e = .returned (.int .u16 x) ∧ Below w.heap.size w w' :=
  pair_at p 2 _ 8 (lkp_2 hF) (fun b w => fix_any b w) (fun _ _ => by kernel_rfl) cs hs ho x hc w
theorem pair_2iy (p : Int) (cs : Array Value) (hs : cs.size = 20) (ho : cs.toList.all (·.oneCell') = true) (hF : thirdF p = 364) (x : Int) (hc : cs[9]? = some (.int .u16 x)) (w : World) :
    Calls Tryz.prog 296 #[.agg cs, .int .i64 p, .int .i64 2] w fun e w' => e = .returned (.int .u16 x) ∧ Below w.heap.size w w' :=
  pair_at p 2 _ 9 (lkp_2 hF) (fun b w => fiy_any b w) (fun _ _ => by kernel_rfl) cs hs ho x hc w
theorem pair_2hl (p : Int) (cs : Array Value) (hs : cs.size = 20) (ho : cs.toList.all (·.oneCell') = true) (hF : thirdF p = 365) (x : Int) (hc : cs[3]? = some (.int .u16 x)) (w : World) :
    Calls Tryz.prog 296 #[.agg cs, .int .i64 p, .int .i64 2] w fun e w' => e = .returned (.int .u16 x) ∧ Below w.heap.size w w' :=
  pair_at p 2 _ 3 (lkp_2 hF) (fun b w => fhl_any b w) (fun _ _ => by kernel_rfl) cs hs ho x hc w
theorem pair_3sp (p : Int) (cs : Array Value) (hs : cs.size = 20) (ho : cs.toList.all (·.oneCell') = true) (x : Int) (hc : cs[10]? = some (.int .u16 x)) (w : World) :
    Calls Tryz.prog 296 #[.agg cs, .int .i64 p, .int .i64 3] w fun e w' => e = .returned (.int .u16 x) ∧ Below w.heap.size w w' :=
  pair_at p 3 _ 10 lkp_3 (fun b w => fsp_any b w) (fun _ _ => by kernel_rfl) cs hs ho x hc w
theorem pair_no (p k : Int) (hk : k < 0 ∨ 3 < k) (cs : Array Value) (w : World) :
    Calls Tryz.prog 296 #[.agg cs, .int .i64 p, .int .i64 k] w fun e w' => e = .returned (.int .u16 0) ∧ Below w.heap.size w w' := by
  have kh := Lib.hid (fun w => pairs_any p w)
  have hl := lkp_no (p := p) hk (World.alloc_heap_new (w.alloc (.cells cs 24)) (.map (pairEnts p) 4))
  have HB0 : Below w.heap.size w ((w.alloc (.cells cs 24)).alloc (.map (pairEnts p) 4)) := (by repeat (first | exact Below.refl _ _ | assumption | refine bstep ?_ (by assumption) | refine Below.drew ?_ | refine Below.alloc ?_ (by first | (simp; done) | (simp; omega) | omega) _ | refine Below.setCell ?_ (by first | (simp; done) | (simp; omega) | omega) _))
  clear hk
  go_enter Tryz.func296, Tryz.ntmps296
  go_wp2_with fail
  refine (kh.out _).mono ?_
  rintro e w2 ⟨rfl, rfl⟩
  generalize (w.alloc (.cells cs 24)).alloc (.map (pairEnts p) 4) = W at *
  generalize (w.alloc (.cells cs 24)).heap.size = M at *
  have HB := Lib.hid HB0
  clear HB0
  go_wp2
  go_ret
  exact ⟨rfl, HB.out⟩
theorem pairG_no (g : Rg) (p k : Int) (h : k < 0 ∨ 3 < k) : pairG g p k = 0 := by
  unfold pairG
  rw [if_neg (by omega), if_neg (by omega), if_neg (by omega), if_neg (by omega)]
theorem pair_any (g : Rg) (p k : Int) (w : World) :
    Calls Tryz.prog 296 #[regsV g, .int .i64 p, .int .i64 k] w fun e w' => e = .returned (.int .u16 (pairG g p k)) ∧ Below w.heap.size w w' := by
  by_cases hn : k < 0 ∨ 3 < k
  · rw [pairG_no g p k hn]
    exact pair_no p k hn _ w
  have h1 := regsC_one g
  obtain rfl | rfl | rfl | rfl : k = 0 ∨ k = 1 ∨ k = 2 ∨ k = 3 := by omega
  · exact pair_0bc p _ rfl h1 g.bc rfl w
  · exact pair_1de p _ rfl h1 g.de rfl w
  · rw [pairG_2]
    by_cases h3 : p = 3
    · rw [if_pos h3]
      exact pair_2ix p _ rfl h1 (thirdF_dd h3) g.ix rfl w
    by_cases h4 : p = 4
    · rw [if_neg h3, if_pos h4]
      exact pair_2iy p _ rfl h1 (thirdF_fd h3 h4) g.iy rfl w
    · rw [if_neg h3, if_neg h4]
      exact pair_2hl p _ rfl h1 (thirdF_hl h3 h4) g.hl rfl w
  · exact pair_3sp p _ rfl h1 g.sp rfl w
theorem and127_fin : ∀ x : Fin 256, bits .and .u8 (x.val : Int) 127 = (x.val : Int) % 128 ∧ bits .andNot .u8 (x.val : Int) 127 = (x.val : Int) / 128 * 128 := by decide +kernel
theorem or128_fin : ∀ h : Fin 2, ∀ l : Fin 128, bits .or .u8 ((h.val : Int) * 128) (l.val : Int) = (h.val : Int) * 128 + (l.val : Int) := by decide +kernel
theorem tick_eq (r n : Int) (hr : B8 r) : bits BinOp.or IntKind.u8 (bits BinOp.andNot IntKind.u8 r 127) (bits BinOp.and IntKind.u8 ((r + n) % 256) 127) = tickR r n := by
  have h1 := (byte_all (P := fun x => bits .and .u8 x 127 = x % 128 ∧ bits .andNot .u8 x 127 = x / 128 * 128) and127_fin r hr.1 hr.2).2
  have h2 := (byte_all (P := fun x => bits .and .u8 x 127 = x % 128 ∧ bits .andNot .u8 x 127 = x / 128 * 128) and127_fin ((r + n) % 256) (by omega) (by omega)).1
  obtain ⟨r0, r1⟩ := hr
  have h3 := or128_fin ⟨(r / 128).toNat, by omega⟩ ⟨((r + n) % 128).toNat, by omega⟩
  rw [show ((⟨(r / 128).toNat, by omega⟩ : Fin 2).val : Int) = r / 128 by show ((r / 128).toNat : Int) = _; omega, show ((⟨((r + n) % 128).toNat, by omega⟩ : Fin 128).val : Int) = (r + n) % 128 by show (((r + n) % 128).toNat : Int) = _; omega] at h3
  rw [h1, h2, show (r + n) % 256 % 128 = (r + n) % 128 by omega, h3]
  rfl
theorem tick_any (g : Rg) (n : Int) (hr : B8 g.r) (w : World) :
    Calls Tryz.prog 80 #[regsV g, .int .i64 n] w fun e w' => e = .returned (regsV (tickG g n)) ∧ Below w.heap.size w w' := by
  go_enter Tryz.func80, Tryz.ntmps80
  refine coStart <| qQ [] (Many.begin w) fun w hm => qQ [0, 0, 0] hm fun w hm => qQ [0, 1] hm fun w hm => coRet <| eoC 1 (regsC { g with r := bits BinOp.or IntKind.u8 (bits BinOp.andNot IntKind.u8 g.r 127) (bits BinOp.and IntKind.u8 ((g.r + n % 256) % 256) 127) }).toList hm ⟨?_, hm.touch.below⟩
  exact congrArg (fun x => Ending.returned (regsV { g with r := x })) (by rw [Int.add_emod_emod]; exact tick_eq g.r n hr)
theorem swap_any (g : Rg) (w : World) :
    Calls Tryz.prog 297 #[regsV g] w fun e w' => e = .returned (regsV (swapG g)) ∧ Below w.heap.size w w' := by
  go_enter Tryz.func297, Tryz.ntmps297
  refine coStart <| qQ [] (Many.begin w) fun w hm => qQ [0, 0, 0, 0] hm fun w hm => qQ [0, 1] hm fun w hm => coRet <| eoC 1 (regsC (swapG g)).toList hm ⟨rfl, hm.touch.below⟩
theorem exx_any (g : Rg) (w : World) :
    Calls Tryz.prog 316 #[regsV g] w fun e w' => e = .returned (regsV (exxG g)) ∧ Below w.heap.size w w' := by
  go_enter Tryz.func316, Tryz.ntmps316
  refine coStart <| qQ [] (Many.begin w) fun w hm => qQ [0, 0, 0, 0] hm fun w hm => qQ [0, 0, 0, 0] hm fun w hm => qQ [0, 0, 0, 0] hm fun w hm => qQ [0, 1] hm fun w hm => coRet <| eoC 1 (regsC (exxG g)).toList hm ⟨rfl, hm.touch.below⟩
theorem setPair_at (g g' : Rg) (p k v : Int) (F : FuncId) (o : Nat) (x : Int)
    (hlk : ∀ {w : World} {M : Nat}, w.heap[M]? = some (.map (pairEnts p) 4) → (Instr.lookup 221 (.map (some M)) (.int .i64 k) true).run Tryz.prog w = .ok (.tuple #[.func (.func F) #[] #[], .bool true]) w)
    (hF : ∀ (b : Nat) (w : World), Calls Tryz.prog F #[.pointer (some ⟨b, 0, none⟩)] w fun e w' => e = .returned (.pointer (some ⟨b, o, none⟩)) ∧ w = w') (hold : (regsC g)[o]? = some (.int .u16 x)) (hnew : (regsC g).setIfInBounds o (.int .u16 v) = regsC g') (hcall : ∀ (args : Array Value) (w : World), (callFunc F args).run Tryz.prog w = .ok (.enter F args) w) (w : World) :
    Calls Tryz.prog 328 #[regsV g, .int .i64 p, .int .i64 k, .int .u16 v] w fun e w' => e = .returned (regsV g') ∧ Below w.heap.size w w' := by
  have kh := Lib.hid (fun w => pairs_any p w)
  obtain ⟨cs, hcs⟩ : ∃ cs, cs = (regsC g) := ⟨_, rfl⟩
  have HE := Lib.hid hcs
  show Calls _ _ #[.agg (regsC g), .int .i64 p, .int .i64 k, .int .u16 v] _ _
  rw [← hcs]
  clear hcs
  go_enter Tryz.func328, Tryz.ntmps328
  go_upto_region 1 with (fail)
  have rA := (Row.new w 24 cs).alloc (.cells zL 24)
  have rZ := Row.new (w.alloc (.cells cs 24)) 24 zL
  rw [show (w.alloc (.cells cs 24)).heap.size = w.heap.size + 1 by simp] at rZ
  have rZ := Lib.hid rZ
  have HB := Lib.hid (((Below.refl w.heap.size w).alloc (Nat.le_refl _) (.cells cs 24)).alloc (by simp) (.cells zL 24))
  have HW := Lib.hid (show ((w.alloc (.cells cs 24)).alloc (.cells zL 24)).heap.size = w.heap.size + 2 by simp)
  generalize (w.alloc (.cells cs 24)).alloc (.cells zL 24) = W0 at *
  rw [HE.out] at rA
  have rA := Lib.hid rA
  have hltA := rA.out.lt
  have hltZ := rZ.out.lt
  go_wp2_with fail
  refine (kh.out _).mono ?_
  rintro e w2 ⟨rfl, rfl⟩
  have hlk := hlk (World.alloc_heap_new W0 (.map (pairEnts p) 4))
  have qA := Lib.hid (rA.out.alloc (.map (pairEnts p) 4))
  have qZ := Lib.hid (rZ.out.alloc (.map (pairEnts p) 4))
  have HB' := Lib.hid (HB.out.alloc HB.out.size (.map (pairEnts p) 4))
  have HW' := Lib.hid (show (W0.alloc (.map (pairEnts p) 4)).heap.size = w.heap.size + 3 by rw [World.size_alloc, HW.out])
  clear HB HW rA rZ
  have HB := HB'
  have HW := HW'
  have rA := qA
  have rZ := qZ
  clear HB' HW' qA qZ
  generalize W0.alloc (.map (pairEnts p) 4) = W1 at *
  generalize W0.heap.size = M at *
  obtain ⟨es, hes⟩ : ∃ es, es = (regsC g) := ⟨_, rfl⟩
  have HS := Lib.hid hes
  have hA := rA.out
  rw [← hes] at hA
  have hA := Lib.hid hA
  have iR : Hid ((Tryz.prog.info? 24).map (·.size) = some es.size) := Lib.hid (by rw [hes]; exact info24)
  have iE : Hid ((Tryz.prog.info? 223).map (·.size) = some es.size) := Lib.hid (by rw [hes]; exact info42)
  have oE : Hid (es.toList.all (·.oneCell') = true) := Lib.hid (by rw [hes]; rfl)
  have sE : Hid (es.size = 20) := Lib.hid (by rw [hes]; rfl)
  clear hes rA
  go_upto_region 5 with (first
    | (refine wpList_load_row rfl 24 _ rfl _ _ _ rfl hA.out _ Tryz.underlying24 rfl iR.out ?_)
    | (refine wpList_store_top rfl 223 _ _ rfl _ _ _ _ es rfl rfl (by simp) (by rw [sE.out]; exact Eq.refl 20) iE.out oE.out ?_))
  have rF := Row.new W1 223 es
  have qA := hA.out.alloc (.cells es 223)
  have qZ := rZ.out.alloc (.cells es 223)
  have HB' := Lib.hid (HB.out.alloc HB.out.size (.cells es 223))
  have HW' := Lib.hid (show (W1.alloc (.cells es 223)).heap.size = w.heap.size + 4 by rw [World.size_alloc, HW.out])
  rw [HW.out] at rF
  rw [HW.out]
  clear HB HW hA rZ hlk
  have HB := HB'
  have HW := HW'
  clear HB' HW'
  generalize W1.alloc (.cells es 223) = W2 at *
  rw [HS.out] at rF qA
  have rF := Lib.hid rF
  have rA := Lib.hid qA
  have rZ := Lib.hid qZ
  clear qA qZ
  have hltF := rF.out.lt
  have lF1 : W2.cell? ⟨w.heap.size + 3, o, none⟩ = some (.int .u16 x) := (rF.out.cell o).trans hold
  have fF1 := rF.out.frozen o
  have qA0 : Row (W2.setCell ⟨w.heap.size + 3, o, none⟩ (.int .u16 v)) (w.heap.size) 24 (regsC g) := rA.out.far (p := ⟨w.heap.size + 3, o, none⟩) (by simp) (.int .u16 v)
  have qZ0 : Row (W2.setCell ⟨w.heap.size + 3, o, none⟩ (.int .u16 v)) (w.heap.size + 1) 24 zL := rZ.out.far (p := ⟨w.heap.size + 3, o, none⟩) (by simp) (.int .u16 v)
  have qF0 : Row (W2.setCell ⟨w.heap.size + 3, o, none⟩ (.int .u16 v)) (w.heap.size + 3) 223 (regsC g') := hnew ▸ rF.out.set o (.int .u16 v)
  have qA := qA0
  have qZ := qZ0
  have qF := qF0
  clear qA0 qZ0 qF0
  have HB' := Lib.hid (HB.out.setCell (p := ⟨w.heap.size + 3, o, none⟩) (by first | exact Nat.le_refl _ | exact Nat.le_add_right _ _) (.int .u16 v))
  go_upto_region 6 with (refine (hF _ _).mono ?_; rintro e w' ⟨rfl, rfl⟩)
  clear lF1 fF1 rA rZ rF HB
  have rA := Lib.hid qA
  have rZ := Lib.hid qZ
  have rF := Lib.hid qF
  clear qA qZ qF
  have HB := HB'
  clear HB'
  generalize W2.setCell ⟨w.heap.size + 3, o, none⟩ (.int .u16 v) = W3 at *
  obtain ⟨ds, hds⟩ : ∃ ds, ds = (regsC g') := ⟨_, rfl⟩
  have i24 : Hid ((Tryz.prog.info? 24).map (·.size) = some ds.size) := Lib.hid (by rw [hds]; exact info24)
  have one : Hid (ds.toList.all (·.oneCell') = true) := Lib.hid (by rw [hds]; rfl)
  have hsz : Hid (ds.size = 20) := Lib.hid (by rw [hds]; rfl)
  have HD := Lib.hid hds
  have hR := rF.out
  rw [← hds] at hR
  clear hds
  apply wp_region_lit
  have i42 : Hid ((Tryz.prog.info? 223).map (·.size) = some ds.size) := Lib.hid (by rw [hsz.out]; exact info42)
  refine wpList_load_row rfl 223 _ rfl _ _ _ rfl hR _ Tryz.underlying223 rfl i42.out ?_
  refine wpList_store_row rfl 24 _ _ rfl (w.heap.size + 1) _ _ ds rfl rfl rZ.out (by rw [hsz.out]; exact Eq.refl 20) i24.out one.out ?_
  have rE := rZ.out.setAll (vs := ds) (by rw [hsz.out]; exact Eq.refl 20)
  have HE9 := Lib.hid (Below.setCellsAll HB.out (b := w.heap.size + 1) (Nat.le_add_right _ _) ds.toList 0)
  generalize W3.setCells (w.heap.size + 1) 0 ds.toList = W9 at *
  apply wpList_nil
  rename_i hret
  refine hret _ _ (wp_ret ?_)
  try simp only [Exit.inBlock, Exit.then]
  refine bodyPost_ret (results_row rfl rfl rE _ Tryz.underlying24 rfl i24.out) rfl ?_
  exact ⟨(congrArg (fun q => Ending.returned (Value.agg q)) HD.out).trans rfl, HE9.out⟩
theorem setPair_0bc (g : Rg) (p v : Int) (w : World) :
    Calls Tryz.prog 328 #[regsV g, .int .i64 p, .int .i64 0, .int .u16 v] w fun e w' => e = .returned (regsV ({ g with bc := v })) ∧ Below w.heap.size w w' :=
  setPair_at g _ p 0 v _ 1 g.bc lkp_0 (fun b w => fbc_any b w) rfl rfl (fun _ _ => by kernel_rfl) w
theorem setPair_1de (g : Rg) (p v : Int) (w : World) :
    Calls Tryz.prog 328 #[regsV g, .int .i64 p, .int .i64 1, .int .u16 v] w fun e w' => e = .returned (regsV ({ g with de := v })) ∧ Below w.heap.size w w' :=
  setPair_at g _ p 1 v _ 2 g.de lkp_1 (fun b w => fde_any b w) rfl rfl (fun _ _ => by kernel_rfl) w
theorem setPair_2ix (g : Rg) (p v : Int) (hF : thirdF p = 363) (w : World) :
    Calls Tryz.prog 328 #[regsV g, .int .i64 p, .int .i64 2, .int .u16 v] w fun e w' => e = .returned (regsV ({ g with ix := v })) ∧ Below w.heap.size w w' :=
  setPair_at g _ p 2 v _ 8 g.ix (lkp_2 hF) (fun b w => fix_any b w) rfl rfl (fun _ _ => by kernel_rfl) w
theorem setPair_2iy (g : Rg) (p v : Int) (hF : thirdF p = 364) (w : World) :
    Calls Tryz.prog 328 #[regsV g, .int .i64 p, .int .i64 2, .int .u16 v] w fun e w' => e = .returned (regsV ({ g with iy := v })) ∧ Below w.heap.size w w' :=
  setPair_at g _ p 2 v _ 9 g.iy (lkp_2 hF) (fun b w => fiy_any b w) rfl rfl (fun _ _ => by kernel_rfl) w
theorem setPair_2hl (g : Rg) (p v : Int) (hF : thirdF p = 365) (w : World) :
    Calls Tryz.prog 328 #[regsV g, .int .i64 p, .int .i64 2, .int .u16 v] w fun e w' => e = .returned (regsV ({ g with hl := v })) ∧ Below w.heap.size w w' :=
  setPair_at g _ p 2 v _ 3 g.hl (lkp_2 hF) (fun b w => fhl_any b w) rfl rfl (fun _ _ => by kernel_rfl) w
theorem setPair_3sp (g : Rg) (p v : Int) (w : World) :
    Calls Tryz.prog 328 #[regsV g, .int .i64 p, .int .i64 3, .int .u16 v] w fun e w' => e = .returned (regsV ({ g with sp := v })) ∧ Below w.heap.size w w' :=
  setPair_at g _ p 3 v _ 10 g.sp lkp_3 (fun b w => fsp_any b w) rfl rfl (fun _ _ => by kernel_rfl) w
theorem setPair_no (g : Rg) (p k v : Int) (hk : k < 0 ∨ 3 < k) (w : World) :
    Calls Tryz.prog 328 #[regsV g, .int .i64 p, .int .i64 k, .int .u16 v] w fun e w' => e = .returned (regsV (g)) ∧ Below w.heap.size w w' := by
  obtain ⟨af, bc, de, hl, af2, bc2, de2, hl2, ix, iy, sp, pc, wz, i, r, iff1, iff2, halted, late, mode⟩ := g
  have kh := Lib.hid (fun w => pairs_any p w)
  have hk := Lib.hid hk
  obtain ⟨cs, hcs⟩ : ∃ cs, cs = (#[.int .u16 af, .int .u16 bc, .int .u16 de, .int .u16 hl, .int .u16 af2, .int .u16 bc2, .int .u16 de2, .int .u16 hl2, .int .u16 ix, .int .u16 iy, .int .u16 sp, .int .u16 pc, .int .u16 wz, .int .u8 i, .int .u8 r, .bool iff1, .bool iff2, .bool halted, .bool late, .int .i64 mode] : Array Value) := ⟨_, rfl⟩
  have HE := Lib.hid hcs
  show Calls _ _ #[.agg (#[.int .u16 af, .int .u16 bc, .int .u16 de, .int .u16 hl, .int .u16 af2, .int .u16 bc2, .int .u16 de2, .int .u16 hl2, .int .u16 ix, .int .u16 iy, .int .u16 sp, .int .u16 pc, .int .u16 wz, .int .u8 i, .int .u8 r, .bool iff1, .bool iff2, .bool halted, .bool late, .int .i64 mode] : Array Value), .int .i64 p, .int .i64 k, .int .u16 v] _ _
  rw [← hcs]
  clear hcs
  go_enter Tryz.func328, Tryz.ntmps328
  go_upto_region 1 with (fail)
  have rA := (Row.new w 24 cs).alloc (.cells zL 24)
  have rZ := Row.new (w.alloc (.cells cs 24)) 24 zL
  rw [show (w.alloc (.cells cs 24)).heap.size = w.heap.size + 1 by simp] at rZ
  have rZ := Lib.hid rZ
  have HB := Lib.hid (((Below.refl w.heap.size w).alloc (Nat.le_refl _) (.cells cs 24)).alloc (by simp) (.cells zL 24))
  have HW := Lib.hid (show ((w.alloc (.cells cs 24)).alloc (.cells zL 24)).heap.size = w.heap.size + 2 by simp)
  generalize (w.alloc (.cells cs 24)).alloc (.cells zL 24) = W0 at *
  rw [HE.out] at rA
  have rA := Lib.hid rA
  have hltA := rA.out.lt
  have hltZ := rZ.out.lt
  go_wp2_with fail
  refine (kh.out _).mono ?_
  rintro e w2 ⟨rfl, rfl⟩
  have hlk := lkp_no (p := p) hk.out (World.alloc_heap_new W0 (.map (pairEnts p) 4))
  have qA := Lib.hid (rA.out.alloc (.map (pairEnts p) 4))
  have qZ := Lib.hid (rZ.out.alloc (.map (pairEnts p) 4))
  have HB' := Lib.hid (HB.out.alloc HB.out.size (.map (pairEnts p) 4))
  have HW' := Lib.hid (show (W0.alloc (.map (pairEnts p) 4)).heap.size = w.heap.size + 3 by rw [World.size_alloc, HW.out])
  clear HB HW rA rZ
  have HB := HB'
  have HW := HW'
  have rA := qA
  have rZ := qZ
  clear HB' HW' qA qZ
  generalize W0.alloc (.map (pairEnts p) 4) = W1 at *
  generalize W0.heap.size = M at *
  go_upto_region 3 with (fail)
  obtain ⟨ds, hds⟩ : ∃ ds, ds = (#[.int .u16 af, .int .u16 bc, .int .u16 de, .int .u16 hl, .int .u16 af2, .int .u16 bc2, .int .u16 de2, .int .u16 hl2, .int .u16 ix, .int .u16 iy, .int .u16 sp, .int .u16 pc, .int .u16 wz, .int .u8 i, .int .u8 r, .bool iff1, .bool iff2, .bool halted, .bool late, .int .i64 mode] : Array Value) := ⟨_, rfl⟩
  have i24 : Hid ((Tryz.prog.info? 24).map (·.size) = some ds.size) := Lib.hid (by rw [hds]; exact info24)
  have one : Hid (ds.toList.all (·.oneCell') = true) := Lib.hid (by rw [hds]; rfl)
  have hsz : Hid (ds.size = 20) := Lib.hid (by rw [hds]; rfl)
  have HD := Lib.hid hds
  have hR := rA.out
  rw [← hds] at hR
  clear hds
  apply wp_region_lit
  refine wpList_load_row rfl 24 _ rfl _ _ _ rfl hR _ Tryz.underlying24 rfl i24.out ?_
  refine wpList_store_row rfl 24 _ _ rfl (w.heap.size + 1) _ _ ds rfl rfl rZ.out (by rw [hsz.out]; exact Eq.refl 20) i24.out one.out ?_
  have rE := rZ.out.setAll (vs := ds) (by rw [hsz.out]; exact Eq.refl 20)
  have HE9 := Lib.hid (Below.setCellsAll HB.out (b := w.heap.size + 1) (Nat.le_add_right _ _) ds.toList 0)
  generalize W1.setCells (w.heap.size + 1) 0 ds.toList = W9 at *
  apply wpList_nil
  rename_i hret
  refine hret _ _ (wp_ret ?_)
  try simp only [Exit.inBlock, Exit.then]
  refine bodyPost_ret (results_row rfl rfl rE _ Tryz.underlying24 rfl i24.out) rfl ?_
  exact ⟨(congrArg (fun q => Ending.returned (Value.agg q)) HD.out).trans rfl, HE9.out⟩
theorem setPairG_no (g : Rg) (p k v : Int) (h : k < 0 ∨ 3 < k) : setPairG g p k v = g := by
  unfold setPairG
  rw [if_neg (by omega), if_neg (by omega), if_neg (by omega), if_neg (by omega)]
theorem setPairG_2 (g : Rg) (p v : Int) : setPairG g p 2 v = if p = 3 then { g with ix := v } else if p = 4 then { g with iy := v } else { g with hl := v } := rfl
theorem setPair_any (g : Rg) (p k v : Int) (w : World) :
    Calls Tryz.prog 328 #[regsV g, .int .i64 p, .int .i64 k, .int .u16 v] w fun e w' => e = .returned (regsV (setPairG g p k v)) ∧ Below w.heap.size w w' := by
  by_cases hn : k < 0 ∨ 3 < k
  · rw [setPairG_no g p k v hn]
    exact setPair_no g p k v hn w
  obtain rfl | rfl | rfl | rfl : k = 0 ∨ k = 1 ∨ k = 2 ∨ k = 3 := by omega
  · exact setPair_0bc g p v w
  · exact setPair_1de g p v w
  · rw [setPairG_2]
    by_cases h3 : p = 3
    · rw [if_pos h3]
      exact setPair_2ix g p v (thirdF_dd h3) w
    by_cases h4 : p = 4
    · rw [if_neg h3, if_pos h4]
      exact setPair_2iy g p v (thirdF_fd h3 h4) w
    · rw [if_neg h3, if_neg h4]
      exact setPair_2hl g p v (thirdF_hl h3 h4) w
  · exact setPair_3sp g p v w
theorem setter_hi (q : Option Addr) (w : World) : Calls Tryz.prog 341 #[.pointer q, .bool true] w fun e w' => e = .returned (.func (.func 359) #[] #[.pointer (some ⟨w.heap.size, 0, none⟩)]) ∧ w' = w.alloc (.cells #[.pointer q] 224) := by
  go_enter Tryz.func341, Tryz.ntmps341
  go_wp2
  go_ret
  exact ⟨rfl, rfl⟩
theorem setter_lo (q : Option Addr) (w : World) : Calls Tryz.prog 341 #[.pointer q, .bool false] w fun e w' => e = .returned (.func (.func 360) #[] #[.pointer (some ⟨w.heap.size, 0, none⟩)]) ∧ w' = w.alloc (.cells #[.pointer q] 224) := by
  go_enter Tryz.func341, Tryz.ntmps341
  go_wp2
  go_ret
  exact ⟨rfl, rfl⟩
theorem setHi_any (B b o : Nat) (x v : Int) (hx : Wd16 x) (hv : B8 v) (w : World) (h0 : w.cell? ⟨B, 0, none⟩ = some (.pointer (some ⟨b, o, none⟩))) (h1 : w.cell? ⟨b, o, none⟩ = some (.int .u16 x)) (h2 : w.frozen? ⟨b, o, none⟩ = false) :
    Calls Tryz.prog 359 #[.int .u8 v, .pointer (some ⟨B, 0, none⟩)] w fun e w' => e = .returned (.tuple #[]) ∧ w' = (w.setCell ⟨b, o, none⟩ (.int .u16 (256 * v + x % 256))).drew := by
  have k1 := Lib.hid (fun w => lo_any x hx.1 hx.2 w)
  have k2 := Lib.hid (fun w => word_any v (x % 256) hv.1 hv.2 (by omega) (by omega) w)
  clear hx hv
  go_enter Tryz.func359, Tryz.ntmps359
  go_still_tail 8, (by kernel_rfl)
  still_call ((k1.out _).mono fun e w' h => ⟨h.1, h.2.symm⟩)
  repeat still_step
  still_call ((k2.out _).mono fun e w' h => ⟨h.1, h.2.symm⟩)
  repeat still_step
  refine wpStill_nil ?_
  change wpList _ _ _ _ _ w.drew
  go_wp2
  go_end0
  exact ⟨rfl, rfl⟩
theorem setLo_any (B b o : Nat) (x v : Int) (hx : Wd16 x) (hv : B8 v) (w : World) (h0 : w.cell? ⟨B, 0, none⟩ = some (.pointer (some ⟨b, o, none⟩))) (h1 : w.cell? ⟨b, o, none⟩ = some (.int .u16 x)) (h2 : w.frozen? ⟨b, o, none⟩ = false) :
    Calls Tryz.prog 360 #[.int .u8 v, .pointer (some ⟨B, 0, none⟩)] w fun e w' => e = .returned (.tuple #[]) ∧ w' = (w.setCell ⟨b, o, none⟩ (.int .u16 (256 * (x / 256) + v))).drew := by
  have k1 := Lib.hid (fun w => hi_any x hx.1 hx.2 w)
  have k2 := Lib.hid (fun w => word_any (x / 256) v (by have := hx.1; omega) (by have := hx.2; omega) hv.1 hv.2 w)
  clear hx hv
  go_enter Tryz.func360, Tryz.ntmps360
  go_still_tail 8, (by kernel_rfl)
  still_call ((k1.out _).mono fun e w' h => ⟨h.1, h.2.symm⟩)
  repeat still_step
  still_call ((k2.out _).mono fun e w' h => ⟨h.1, h.2.symm⟩)
  repeat still_step
  refine wpStill_nil ?_
  change wpList _ _ _ _ _ w.drew
  go_wp2
  go_end0
  exact ⟨rfl, rfl⟩
theorem set_hi (g g' : Rg) (p k v : Int) (F : FuncId) (o : Nat) (x : Int)
    (hlk : ∀ {w : World} {M : Nat}, w.heap[M]? = some (.map (halfEnts p) 7) → (Instr.lookup 231 (.map (some M)) (.int .i64 k) true).run Tryz.prog w = .ok (.tuple #[halfV (.func (.func F) #[] #[]) true, .bool true]) w)
    (hF : ∀ (b : Nat) (w : World), Calls Tryz.prog F #[.pointer (some ⟨b, 0, none⟩)] w fun e w' => e = .returned (.pointer (some ⟨b, o, none⟩)) ∧ w = w') (hold : (regsC g)[o]? = some (.int .u16 x)) (hnew : (regsC g).setIfInBounds o (.int .u16 (256 * v + x % 256)) = regsC g') (hx : Wd16 x) (hv : B8 v) (hcall : ∀ (args : Array Value) (w : World), (callFunc F args).run Tryz.prog w = .ok (.enter F args) w) (w : World) :
    Calls Tryz.prog 309 #[regsV g, .int .i64 p, .int .i64 k, .int .u8 v] w fun e w' => e = .returned (regsV g') ∧ Below w.heap.size w w' := by
  have kh := Lib.hid (fun w => halves_any p w)
  have kx := Lib.hid hx
  have kv := Lib.hid hv
  clear hx hv
  obtain ⟨cs, hcs⟩ : ∃ cs, cs = (regsC g) := ⟨_, rfl⟩
  have HE := Lib.hid hcs
  show Calls _ _ #[.agg (regsC g), .int .i64 p, .int .i64 k, .int .u8 v] _ _
  rw [← hcs]
  clear hcs
  go_enter Tryz.func309, Tryz.ntmps309
  go_upto_region 1 with (fail)
  have rA := (Row.new w 24 cs).alloc (.cells zL 24)
  have rZ := Row.new (w.alloc (.cells cs 24)) 24 zL
  rw [show (w.alloc (.cells cs 24)).heap.size = w.heap.size + 1 by simp] at rZ
  have rZ := Lib.hid rZ
  have HB := Lib.hid (((Below.refl w.heap.size w).alloc (Nat.le_refl _) (.cells cs 24)).alloc (by simp) (.cells zL 24))
  have HW := Lib.hid (show ((w.alloc (.cells cs 24)).alloc (.cells zL 24)).heap.size = w.heap.size + 2 by simp)
  generalize (w.alloc (.cells cs 24)).alloc (.cells zL 24) = W0 at *
  rw [HE.out] at rA
  have rA := Lib.hid rA
  have hltA := rA.out.lt
  have hltZ := rZ.out.lt
  go_wp2_with fail
  refine (kh.out _).mono ?_
  rintro e w2 ⟨rfl, rfl⟩
  have hlk := hlk (World.alloc_heap_new W0 (.map (halfEnts p) 7))
  have qA := Lib.hid (rA.out.alloc (.map (halfEnts p) 7))
  have qZ := Lib.hid (rZ.out.alloc (.map (halfEnts p) 7))
  have HB' := Lib.hid (HB.out.alloc HB.out.size (.map (halfEnts p) 7))
  have HW' := Lib.hid (show (W0.alloc (.map (halfEnts p) 7)).heap.size = w.heap.size + 3 by rw [World.size_alloc, HW.out])
  clear HB HW rA rZ
  have HB := HB'
  have HW := HW'
  have rA := qA
  have rZ := qZ
  clear HB' HW' qA qZ
  generalize W0.alloc (.map (halfEnts p) 7) = W1 at *
  generalize W0.heap.size = M at *
  go_upto_region 2 with (fail)
  have rH := Row.new W1 229 (#[(.func (.func F) #[] #[]), .bool true] : Array Value)
  rw [HW.out] at rH
  rw [HW.out]
  have rH := Lib.hid rH
  have qA := Lib.hid (rA.out.alloc (.cells (#[(.func (.func F) #[] #[]), .bool true] : Array Value) 229))
  have qZ := Lib.hid (rZ.out.alloc (.cells (#[(.func (.func F) #[] #[]), .bool true] : Array Value) 229))
  have HB' := Lib.hid (HB.out.alloc HB.out.size (.cells (#[(.func (.func F) #[] #[]), .bool true] : Array Value) 229))
  have HW' := Lib.hid (show (W1.alloc (.cells (#[(.func (.func F) #[] #[]), .bool true] : Array Value) 229)).heap.size = w.heap.size + 4 by rw [World.size_alloc, HW.out])
  clear HB HW rA rZ
  have HB := HB'
  have HW := HW'
  have rA := qA
  have rZ := qZ
  clear HB' HW' qA qZ
  generalize W1.alloc (.cells (#[(.func (.func F) #[] #[]), .bool true] : Array Value) 229) = W2 at *
  obtain ⟨es, hes⟩ : ∃ es, es = (regsC g) := ⟨_, rfl⟩
  have HS := Lib.hid hes
  have hA := rA.out
  rw [← hes] at hA
  have hA := Lib.hid hA
  have iR : Hid ((Tryz.prog.info? 24).map (·.size) = some es.size) := Lib.hid (by rw [hes]; exact info24)
  have iE : Hid ((Tryz.prog.info? 223).map (·.size) = some es.size) := Lib.hid (by rw [hes]; exact info42)
  have oE : Hid (es.toList.all (·.oneCell') = true) := Lib.hid (by rw [hes]; rfl)
  have sE : Hid (es.size = 20) := Lib.hid (by rw [hes]; rfl)
  clear hes rA
  go_upto_region 5 with (first
    | (refine wpList_load_row rfl 24 _ rfl _ _ _ rfl hA.out _ Tryz.underlying24 rfl iR.out ?_)
    | (refine wpList_store_top rfl 223 _ _ rfl _ _ _ _ es rfl rfl (by simp) (by rw [sE.out]; exact Eq.refl 20) iE.out oE.out ?_))
  have rF := Row.new W2 223 es
  have qA := hA.out.alloc (.cells es 223)
  have qZ := rZ.out.alloc (.cells es 223)
  have qH := rH.out.alloc (.cells es 223)
  have HB' := Lib.hid (HB.out.alloc HB.out.size (.cells es 223))
  have HW' := Lib.hid (show (W2.alloc (.cells es 223)).heap.size = w.heap.size + 5 by rw [World.size_alloc, HW.out])
  rw [HW.out] at rF
  rw [HW.out]
  clear HB HW hA rZ rH hlk
  have HB := HB'
  have HW := HW'
  clear HB' HW'
  generalize W2.alloc (.cells es 223) = W3 at *
  rw [HS.out] at rF qA
  have rF := Lib.hid rF
  have rA := Lib.hid qA
  have rZ := Lib.hid qZ
  have rH := Lib.hid qH
  clear qA qZ qH
  have hltF := rF.out.lt
  have l0 := rH.out.cell 0
  have l1 := rH.out.cell 1
  go_upto_region 5 with (fail)
  have q0 := Row.new W3.drew 224 #[.pointer (some ⟨w.heap.size + 4, o, none⟩)]
  have qF : Row (W3.drew.alloc (.cells #[.pointer (some ⟨w.heap.size + 4, o, none⟩)] 224)) (w.heap.size + 4) 223 (regsC g) := Row.alloc (w := W3.drew) rF.out (.cells #[.pointer (some ⟨w.heap.size + 4, o, none⟩)] 224)
  have qZ : Row (W3.drew.alloc (.cells #[.pointer (some ⟨w.heap.size + 4, o, none⟩)] 224)) (w.heap.size + 1) 24 zL := Row.alloc (w := W3.drew) rZ.out (.cells #[.pointer (some ⟨w.heap.size + 4, o, none⟩)] 224)
  have h0 := q0.cell 0
  have h1 : (W3.drew.alloc (.cells #[.pointer (some ⟨w.heap.size + 4, o, none⟩)] 224)).cell? ⟨w.heap.size + 4, o, none⟩ = some (.int .u16 x) := (qF.cell o).trans hold
  have h2 := qF.frozen o
  have kk := Lib.hid (setHi_any W3.drew.heap.size (w.heap.size + 4) o x v kx.out kv.out (W3.drew.alloc (.cells #[.pointer (some ⟨w.heap.size + 4, o, none⟩)] 224)) h0 h1 h2)
  have uF : Row ((W3.setCell ⟨w.heap.size + 4, o, none⟩ (.int .u16 (256 * v + x % 256))).alloc (.cells #[.pointer (some ⟨w.heap.size + 4, o, none⟩)] 224)).drew.drew (w.heap.size + 4) 223 (regsC g') := hnew ▸ Row.alloc (w := W3.setCell ⟨w.heap.size + 4, o, none⟩ (.int .u16 (256 * v + x % 256))) (rF.out.set o (.int .u16 (256 * v + x % 256))) (.cells #[.pointer (some ⟨w.heap.size + 4, o, none⟩)] 224)
  have uF := Lib.hid uF
  have uZ : Row ((W3.setCell ⟨w.heap.size + 4, o, none⟩ (.int .u16 (256 * v + x % 256))).alloc (.cells #[.pointer (some ⟨w.heap.size + 4, o, none⟩)] 224)).drew.drew (w.heap.size + 1) 24 zL := Row.alloc (w := W3.setCell ⟨w.heap.size + 4, o, none⟩ (.int .u16 (256 * v + x % 256))) (rZ.out.far (p := ⟨w.heap.size + 4, o, none⟩) (by simp) (.int .u16 (256 * v + x % 256))) (.cells #[.pointer (some ⟨w.heap.size + 4, o, none⟩)] 224)
  have uZ := Lib.hid uZ
  have HB1 := HB.out.setCell (p := ⟨w.heap.size + 4, o, none⟩) (Nat.le_add_right _ _) (.int .u16 (256 * v + x % 256))
  have HB' : Hid (Below w.heap.size w ((W3.setCell ⟨w.heap.size + 4, o, none⟩ (.int .u16 (256 * v + x % 256))).alloc (.cells #[.pointer (some ⟨w.heap.size + 4, o, none⟩)] 224)).drew.drew) := Lib.hid ((HB1.alloc HB1.size (.cells #[.pointer (some ⟨w.heap.size + 4, o, none⟩)] 224)).drew.drew)
  clear HB1
  clear q0 h0 h1 h2 qF qZ rF rZ rA rH HB HW
  go_region_with (first
    | (go_at_call 341; refine (setter_hi _ _).mono ?_; rintro e w' ⟨rfl, rfl⟩)
    | (go_at_call 359; refine kk.out.mono ?_; rintro e w' ⟨rfl, rfl⟩)
    | (refine (hF _ _).mono ?_; rintro e w' ⟨rfl, rfl⟩))
  all_goals clear kk
  all_goals
    have rF := uF
    have rZ := uZ
    have HB := HB'
    clear uF uZ HB' l0 l1
    generalize ((W3.setCell ⟨w.heap.size + 4, o, none⟩ (.int .u16 (256 * v + x % 256))).alloc (.cells #[.pointer (some ⟨w.heap.size + 4, o, none⟩)] 224)).drew.drew = W9' at *
    go_upto_region 6 with (fail)
    obtain ⟨ds, hds⟩ : ∃ ds, ds = regsC g' := ⟨_, rfl⟩
    have i24 : Hid ((Tryz.prog.info? 24).map (·.size) = some ds.size) := Lib.hid (by rw [hds]; exact info24)
    have one : Hid (ds.toList.all (·.oneCell') = true) := Lib.hid (by rw [hds]; rfl)
    have hsz : Hid (ds.size = 20) := Lib.hid (by rw [hds]; rfl)
    have HD := Lib.hid hds
    have hR := rF.out
    rw [← hds] at hR
    clear hds
    apply wp_region_lit
    have i42 : Hid ((Tryz.prog.info? 223).map (·.size) = some ds.size) := Lib.hid (by rw [hsz.out]; exact info42)
    refine wpList_load_row rfl 223 _ rfl _ _ _ rfl hR _ Tryz.underlying223 rfl i42.out ?_
    refine wpList_store_row rfl 24 _ _ rfl (w.heap.size + 1) _ _ ds rfl rfl rZ.out (by rw [hsz.out]; exact Eq.refl 20) i24.out one.out ?_
    have rE := rZ.out.setAll (vs := ds) (by rw [hsz.out]; exact Eq.refl 20)
    have HE9 := Lib.hid (Below.setCellsAll HB.out (b := w.heap.size + 1) (Nat.le_add_right _ _) ds.toList 0)
    generalize W9'.setCells (w.heap.size + 1) 0 ds.toList = W9 at *
    apply wpList_nil
    rename_i hret
    refine hret _ _ (wp_ret ?_)
    try simp only [Exit.inBlock, Exit.then]
    refine bodyPost_ret (results_row rfl rfl rE _ Tryz.underlying24 rfl i24.out) rfl ?_
    exact ⟨(congrArg (fun q => Ending.returned (Value.agg q)) HD.out).trans rfl, HE9.out⟩
theorem set_lo (g g' : Rg) (p k v : Int) (F : FuncId) (o : Nat) (x : Int)
    (hlk : ∀ {w : World} {M : Nat}, w.heap[M]? = some (.map (halfEnts p) 7) → (Instr.lookup 231 (.map (some M)) (.int .i64 k) true).run Tryz.prog w = .ok (.tuple #[halfV (.func (.func F) #[] #[]) false, .bool true]) w)
    (hF : ∀ (b : Nat) (w : World), Calls Tryz.prog F #[.pointer (some ⟨b, 0, none⟩)] w fun e w' => e = .returned (.pointer (some ⟨b, o, none⟩)) ∧ w = w') (hold : (regsC g)[o]? = some (.int .u16 x)) (hnew : (regsC g).setIfInBounds o (.int .u16 (256 * (x / 256) + v)) = regsC g') (hx : Wd16 x) (hv : B8 v) (hcall : ∀ (args : Array Value) (w : World), (callFunc F args).run Tryz.prog w = .ok (.enter F args) w) (w : World) :
    Calls Tryz.prog 309 #[regsV g, .int .i64 p, .int .i64 k, .int .u8 v] w fun e w' => e = .returned (regsV g') ∧ Below w.heap.size w w' := by
  have kh := Lib.hid (fun w => halves_any p w)
  have kx := Lib.hid hx
  have kv := Lib.hid hv
  clear hx hv
  obtain ⟨cs, hcs⟩ : ∃ cs, cs = (regsC g) := ⟨_, rfl⟩
  have HE := Lib.hid hcs
  show Calls _ _ #[.agg (regsC g), .int .i64 p, .int .i64 k, .int .u8 v] _ _
  rw [← hcs]
  clear hcs
  go_enter Tryz.func309, Tryz.ntmps309
  go_upto_region 1 with (fail)
  have rA := (Row.new w 24 cs).alloc (.cells zL 24)
  have rZ := Row.new (w.alloc (.cells cs 24)) 24 zL
  rw [show (w.alloc (.cells cs 24)).heap.size = w.heap.size + 1 by simp] at rZ
  have rZ := Lib.hid rZ
  have HB := Lib.hid (((Below.refl w.heap.size w).alloc (Nat.le_refl _) (.cells cs 24)).alloc (by simp) (.cells zL 24))
  have HW := Lib.hid (show ((w.alloc (.cells cs 24)).alloc (.cells zL 24)).heap.size = w.heap.size + 2 by simp)
  generalize (w.alloc (.cells cs 24)).alloc (.cells zL 24) = W0 at *
  rw [HE.out] at rA
  have rA := Lib.hid rA
  have hltA := rA.out.lt
  have hltZ := rZ.out.lt
  go_wp2_with fail
  refine (kh.out _).mono ?_
  rintro e w2 ⟨rfl, rfl⟩
  have hlk := hlk (World.alloc_heap_new W0 (.map (halfEnts p) 7))
  have qA := Lib.hid (rA.out.alloc (.map (halfEnts p) 7))
  have qZ := Lib.hid (rZ.out.alloc (.map (halfEnts p) 7))
  have HB' := Lib.hid (HB.out.alloc HB.out.size (.map (halfEnts p) 7))
  have HW' := Lib.hid (show (W0.alloc (.map (halfEnts p) 7)).heap.size = w.heap.size + 3 by rw [World.size_alloc, HW.out])
  clear HB HW rA rZ
  have HB := HB'
  have HW := HW'
  have rA := qA
  have rZ := qZ
  clear HB' HW' qA qZ
  generalize W0.alloc (.map (halfEnts p) 7) = W1 at *
  generalize W0.heap.size = M at *
  go_upto_region 2 with (fail)
  have rH := Row.new W1 229 (#[(.func (.func F) #[] #[]), .bool false] : Array Value)
  rw [HW.out] at rH
  rw [HW.out]
  have rH := Lib.hid rH
  have qA := Lib.hid (rA.out.alloc (.cells (#[(.func (.func F) #[] #[]), .bool false] : Array Value) 229))
  have qZ := Lib.hid (rZ.out.alloc (.cells (#[(.func (.func F) #[] #[]), .bool false] : Array Value) 229))
  have HB' := Lib.hid (HB.out.alloc HB.out.size (.cells (#[(.func (.func F) #[] #[]), .bool false] : Array Value) 229))
  have HW' := Lib.hid (show (W1.alloc (.cells (#[(.func (.func F) #[] #[]), .bool false] : Array Value) 229)).heap.size = w.heap.size + 4 by rw [World.size_alloc, HW.out])
  clear HB HW rA rZ
  have HB := HB'
  have HW := HW'
  have rA := qA
  have rZ := qZ
  clear HB' HW' qA qZ
  generalize W1.alloc (.cells (#[(.func (.func F) #[] #[]), .bool false] : Array Value) 229) = W2 at *
  obtain ⟨es, hes⟩ : ∃ es, es = (regsC g) := ⟨_, rfl⟩
  have HS := Lib.hid hes
  have hA := rA.out
  rw [← hes] at hA
  have hA := Lib.hid hA
  have iR : Hid ((Tryz.prog.info? 24).map (·.size) = some es.size) := Lib.hid (by rw [hes]; exact info24)
  have iE : Hid ((Tryz.prog.info? 223).map (·.size) = some es.size) := Lib.hid (by rw [hes]; exact info42)
  have oE : Hid (es.toList.all (·.oneCell') = true) := Lib.hid (by rw [hes]; rfl)
  have sE : Hid (es.size = 20) := Lib.hid (by rw [hes]; rfl)
  clear hes rA
  go_upto_region 5 with (first
    | (refine wpList_load_row rfl 24 _ rfl _ _ _ rfl hA.out _ Tryz.underlying24 rfl iR.out ?_)
    | (refine wpList_store_top rfl 223 _ _ rfl _ _ _ _ es rfl rfl (by simp) (by rw [sE.out]; exact Eq.refl 20) iE.out oE.out ?_))
  have rF := Row.new W2 223 es
  have qA := hA.out.alloc (.cells es 223)
  have qZ := rZ.out.alloc (.cells es 223)
  have qH := rH.out.alloc (.cells es 223)
  have HB' := Lib.hid (HB.out.alloc HB.out.size (.cells es 223))
  have HW' := Lib.hid (show (W2.alloc (.cells es 223)).heap.size = w.heap.size + 5 by rw [World.size_alloc, HW.out])
  rw [HW.out] at rF
  rw [HW.out]
  clear HB HW hA rZ rH hlk
  have HB := HB'
  have HW := HW'
  clear HB' HW'
  generalize W2.alloc (.cells es 223) = W3 at *
  rw [HS.out] at rF qA
  have rF := Lib.hid rF
  have rA := Lib.hid qA
  have rZ := Lib.hid qZ
  have rH := Lib.hid qH
  clear qA qZ qH
  have hltF := rF.out.lt
  have l0 := rH.out.cell 0
  have l1 := rH.out.cell 1
  go_upto_region 5 with (fail)
  have q0 := Row.new W3.drew 224 #[.pointer (some ⟨w.heap.size + 4, o, none⟩)]
  have qF : Row (W3.drew.alloc (.cells #[.pointer (some ⟨w.heap.size + 4, o, none⟩)] 224)) (w.heap.size + 4) 223 (regsC g) := Row.alloc (w := W3.drew) rF.out (.cells #[.pointer (some ⟨w.heap.size + 4, o, none⟩)] 224)
  have qZ : Row (W3.drew.alloc (.cells #[.pointer (some ⟨w.heap.size + 4, o, none⟩)] 224)) (w.heap.size + 1) 24 zL := Row.alloc (w := W3.drew) rZ.out (.cells #[.pointer (some ⟨w.heap.size + 4, o, none⟩)] 224)
  have h0 := q0.cell 0
  have h1 : (W3.drew.alloc (.cells #[.pointer (some ⟨w.heap.size + 4, o, none⟩)] 224)).cell? ⟨w.heap.size + 4, o, none⟩ = some (.int .u16 x) := (qF.cell o).trans hold
  have h2 := qF.frozen o
  have kk := Lib.hid (setLo_any W3.drew.heap.size (w.heap.size + 4) o x v kx.out kv.out (W3.drew.alloc (.cells #[.pointer (some ⟨w.heap.size + 4, o, none⟩)] 224)) h0 h1 h2)
  have uF : Row ((W3.setCell ⟨w.heap.size + 4, o, none⟩ (.int .u16 (256 * (x / 256) + v))).alloc (.cells #[.pointer (some ⟨w.heap.size + 4, o, none⟩)] 224)).drew.drew (w.heap.size + 4) 223 (regsC g') := hnew ▸ Row.alloc (w := W3.setCell ⟨w.heap.size + 4, o, none⟩ (.int .u16 (256 * (x / 256) + v))) (rF.out.set o (.int .u16 (256 * (x / 256) + v))) (.cells #[.pointer (some ⟨w.heap.size + 4, o, none⟩)] 224)
  have uF := Lib.hid uF
  have uZ : Row ((W3.setCell ⟨w.heap.size + 4, o, none⟩ (.int .u16 (256 * (x / 256) + v))).alloc (.cells #[.pointer (some ⟨w.heap.size + 4, o, none⟩)] 224)).drew.drew (w.heap.size + 1) 24 zL := Row.alloc (w := W3.setCell ⟨w.heap.size + 4, o, none⟩ (.int .u16 (256 * (x / 256) + v))) (rZ.out.far (p := ⟨w.heap.size + 4, o, none⟩) (by simp) (.int .u16 (256 * (x / 256) + v))) (.cells #[.pointer (some ⟨w.heap.size + 4, o, none⟩)] 224)
  have uZ := Lib.hid uZ
  have HB1 := HB.out.setCell (p := ⟨w.heap.size + 4, o, none⟩) (Nat.le_add_right _ _) (.int .u16 (256 * (x / 256) + v))
  have HB' : Hid (Below w.heap.size w ((W3.setCell ⟨w.heap.size + 4, o, none⟩ (.int .u16 (256 * (x / 256) + v))).alloc (.cells #[.pointer (some ⟨w.heap.size + 4, o, none⟩)] 224)).drew.drew) := Lib.hid ((HB1.alloc HB1.size (.cells #[.pointer (some ⟨w.heap.size + 4, o, none⟩)] 224)).drew.drew)
  clear HB1
  clear q0 h0 h1 h2 qF qZ rF rZ rA rH HB HW
  go_region_with (first
    | (go_at_call 341; refine (setter_lo _ _).mono ?_; rintro e w' ⟨rfl, rfl⟩)
    | (go_at_call 360; refine kk.out.mono ?_; rintro e w' ⟨rfl, rfl⟩)
    | (refine (hF _ _).mono ?_; rintro e w' ⟨rfl, rfl⟩))
  all_goals clear kk
  all_goals
    have rF := uF
    have rZ := uZ
    have HB := HB'
    clear uF uZ HB' l0 l1
    generalize ((W3.setCell ⟨w.heap.size + 4, o, none⟩ (.int .u16 (256 * (x / 256) + v))).alloc (.cells #[.pointer (some ⟨w.heap.size + 4, o, none⟩)] 224)).drew.drew = W9' at *
    go_upto_region 6 with (fail)
    obtain ⟨ds, hds⟩ : ∃ ds, ds = regsC g' := ⟨_, rfl⟩
    have i24 : Hid ((Tryz.prog.info? 24).map (·.size) = some ds.size) := Lib.hid (by rw [hds]; exact info24)
    have one : Hid (ds.toList.all (·.oneCell') = true) := Lib.hid (by rw [hds]; rfl)
    have hsz : Hid (ds.size = 20) := Lib.hid (by rw [hds]; rfl)
    have HD := Lib.hid hds
    have hR := rF.out
    rw [← hds] at hR
    clear hds
    apply wp_region_lit
    have i42 : Hid ((Tryz.prog.info? 223).map (·.size) = some ds.size) := Lib.hid (by rw [hsz.out]; exact info42)
    refine wpList_load_row rfl 223 _ rfl _ _ _ rfl hR _ Tryz.underlying223 rfl i42.out ?_
    refine wpList_store_row rfl 24 _ _ rfl (w.heap.size + 1) _ _ ds rfl rfl rZ.out (by rw [hsz.out]; exact Eq.refl 20) i24.out one.out ?_
    have rE := rZ.out.setAll (vs := ds) (by rw [hsz.out]; exact Eq.refl 20)
    have HE9 := Lib.hid (Below.setCellsAll HB.out (b := w.heap.size + 1) (Nat.le_add_right _ _) ds.toList 0)
    generalize W9'.setCells (w.heap.size + 1) 0 ds.toList = W9 at *
    apply wpList_nil
    rename_i hret
    refine hret _ _ (wp_ret ?_)
    try simp only [Exit.inBlock, Exit.then]
    refine bodyPost_ret (results_row rfl rfl rE _ Tryz.underlying24 rfl i24.out) rfl ?_
    exact ⟨(congrArg (fun q => Ending.returned (Value.agg q)) HD.out).trans rfl, HE9.out⟩
end Go.Proofs.YtkgaeamdhhceiaaGreatDoor
