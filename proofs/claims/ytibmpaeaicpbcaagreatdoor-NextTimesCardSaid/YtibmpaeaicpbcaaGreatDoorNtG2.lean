/- Contracts and facts that the claim's proof wants (several texts in one). -/
import Derived.Deep.RegionHeld3
import Derived.Deep.DeepHandedRow
import Derived.Laws.EntriesVeiled
import Derived.Maps.Own
import Derived.Lib.Hide
import Derived.BigQuiet
import Derived.Deep.DeepCutAuto
import Derived.Deep.QuietTactic
import Derived.StillTailTactics
import Derived.Test.YtibmpaeaicpbcaaGreatDoorNtG1
namespace Go.Proofs.YtibmpaeaicpbcaaGreatDoor
open Go.RowKit
set_option linter.unusedVariables false
set_option linter.unusedSimpArgs false
section
theorem ins_0 (v0 : Value) (W : World) (b : Nat) (hb : b = W.heap.size) :
    (Instr.mapUpdate 139 (.map (some b)) (.int .i64 0) v0).run Tryz.prog (W.alloc (.map #[] 0)) = .ok () (W.alloc (.map #[⟨.int .i64 0, v0, 0⟩] 1)) :=
  run_insert_top W _ _ _ Tryz.underlying139 Tryz.underlying3 _ _ _ _ b hb rfl
theorem ins_1 (v0 v1 : Value) (W : World) (b : Nat) (hb : b = W.heap.size) :
    (Instr.mapUpdate 139 (.map (some b)) (.int .i64 1) v1).run Tryz.prog (W.alloc (.map #[⟨.int .i64 0, v0, 0⟩] 1)) = .ok () (W.alloc (.map #[⟨.int .i64 0, v0, 0⟩, ⟨.int .i64 1, v1, 1⟩] 2)) :=
  run_insert_top W _ _ _ Tryz.underlying139 Tryz.underlying3 _ _ _ _ b hb rfl
theorem ins_2 (v0 v1 v2 : Value) (W : World) (b : Nat) (hb : b = W.heap.size) :
    (Instr.mapUpdate 139 (.map (some b)) (.int .i64 2) v2).run Tryz.prog (W.alloc (.map #[⟨.int .i64 0, v0, 0⟩, ⟨.int .i64 1, v1, 1⟩] 2)) = .ok () (W.alloc (.map #[⟨.int .i64 0, v0, 0⟩, ⟨.int .i64 1, v1, 1⟩, ⟨.int .i64 2, v2, 2⟩] 3)) :=
  run_insert_top W _ _ _ Tryz.underlying139 Tryz.underlying3 _ _ _ _ b hb rfl
theorem ins_3 (v0 v1 v2 v3 : Value) (W : World) (b : Nat) (hb : b = W.heap.size) :
    (Instr.mapUpdate 139 (.map (some b)) (.int .i64 3) v3).run Tryz.prog (W.alloc (.map #[⟨.int .i64 0, v0, 0⟩, ⟨.int .i64 1, v1, 1⟩, ⟨.int .i64 2, v2, 2⟩] 3)) = .ok () (W.alloc (.map #[⟨.int .i64 0, v0, 0⟩, ⟨.int .i64 1, v1, 1⟩, ⟨.int .i64 2, v2, 2⟩, ⟨.int .i64 3, v3, 3⟩] 4)) :=
  run_insert_top W _ _ _ Tryz.underlying139 Tryz.underlying3 _ _ _ _ b hb rfl
theorem ins_4 (v0 v1 v2 v3 v4 : Value) (W : World) (b : Nat) (hb : b = W.heap.size) :
    (Instr.mapUpdate 139 (.map (some b)) (.int .i64 4) v4).run Tryz.prog (W.alloc (.map #[⟨.int .i64 0, v0, 0⟩, ⟨.int .i64 1, v1, 1⟩, ⟨.int .i64 2, v2, 2⟩, ⟨.int .i64 3, v3, 3⟩] 4)) = .ok () (W.alloc (.map #[⟨.int .i64 0, v0, 0⟩, ⟨.int .i64 1, v1, 1⟩, ⟨.int .i64 2, v2, 2⟩, ⟨.int .i64 3, v3, 3⟩, ⟨.int .i64 4, v4, 4⟩] 5)) :=
  run_insert_top W _ _ _ Tryz.underlying139 Tryz.underlying3 _ _ _ _ b hb rfl
theorem ins_5 (v0 v1 v2 v3 v4 v5 : Value) (W : World) (b : Nat) (hb : b = W.heap.size) :
    (Instr.mapUpdate 139 (.map (some b)) (.int .i64 5) v5).run Tryz.prog (W.alloc (.map #[⟨.int .i64 0, v0, 0⟩, ⟨.int .i64 1, v1, 1⟩, ⟨.int .i64 2, v2, 2⟩, ⟨.int .i64 3, v3, 3⟩, ⟨.int .i64 4, v4, 4⟩] 5)) = .ok () (W.alloc (.map #[⟨.int .i64 0, v0, 0⟩, ⟨.int .i64 1, v1, 1⟩, ⟨.int .i64 2, v2, 2⟩, ⟨.int .i64 3, v3, 3⟩, ⟨.int .i64 4, v4, 4⟩, ⟨.int .i64 5, v5, 5⟩] 6)) :=
  run_insert_top W _ _ _ Tryz.underlying139 Tryz.underlying3 _ _ _ _ b hb rfl
theorem ins_6 (v0 v1 v2 v3 v4 v5 v6 : Value) (W : World) (b : Nat) (hb : b = W.heap.size) :
    (Instr.mapUpdate 139 (.map (some b)) (.int .i64 6) v6).run Tryz.prog (W.alloc (.map #[⟨.int .i64 0, v0, 0⟩, ⟨.int .i64 1, v1, 1⟩, ⟨.int .i64 2, v2, 2⟩, ⟨.int .i64 3, v3, 3⟩, ⟨.int .i64 4, v4, 4⟩, ⟨.int .i64 5, v5, 5⟩] 6)) = .ok () (W.alloc (.map #[⟨.int .i64 0, v0, 0⟩, ⟨.int .i64 1, v1, 1⟩, ⟨.int .i64 2, v2, 2⟩, ⟨.int .i64 3, v3, 3⟩, ⟨.int .i64 4, v4, 4⟩, ⟨.int .i64 5, v5, 5⟩, ⟨.int .i64 6, v6, 6⟩] 7)) :=
  run_insert_top W _ _ _ Tryz.underlying139 Tryz.underlying3 _ _ _ _ b hb rfl
theorem ins_7 (v0 v1 v2 v3 v4 v5 v6 v7 : Value) (W : World) (b : Nat) (hb : b = W.heap.size) :
    (Instr.mapUpdate 139 (.map (some b)) (.int .i64 7) v7).run Tryz.prog (W.alloc (.map #[⟨.int .i64 0, v0, 0⟩, ⟨.int .i64 1, v1, 1⟩, ⟨.int .i64 2, v2, 2⟩, ⟨.int .i64 3, v3, 3⟩, ⟨.int .i64 4, v4, 4⟩, ⟨.int .i64 5, v5, 5⟩, ⟨.int .i64 6, v6, 6⟩] 7)) = .ok () (W.alloc (.map #[⟨.int .i64 0, v0, 0⟩, ⟨.int .i64 1, v1, 1⟩, ⟨.int .i64 2, v2, 2⟩, ⟨.int .i64 3, v3, 3⟩, ⟨.int .i64 4, v4, 4⟩, ⟨.int .i64 5, v5, 5⟩, ⟨.int .i64 6, v6, 6⟩, ⟨.int .i64 7, v7, 7⟩] 8)) :=
  run_insert_top W _ _ _ Tryz.underlying139 Tryz.underlying3 _ _ _ _ b hb rfl
attribute [local go_sem] ins_0 ins_1 ins_2 ins_3 ins_4 ins_5 ins_6 ins_7
abbrev fnOut (O : Nat) : Value := .func (.func 289) #[] #[.pointer (some ⟨O, 0, none⟩)]
abbrev fnCarry (F : Nat) : Value := .func (.func 290) #[] #[.pointer (some ⟨F, 0, none⟩)]
abbrev fnZero : Value := .func (.func 291) #[] #[]
abbrev fnTop (B : Nat) : Value := .func (.func 292) #[] #[.pointer (some ⟨B, 0, none⟩)]
abbrev fnOne : Value := .func (.func 293) #[] #[]
def kindEnts (B F O : Nat) : Array MapEntry := #[⟨.int .i64 0, fnOut O, 0⟩, ⟨.int .i64 1, fnOut O, 1⟩, ⟨.int .i64 2, fnCarry F, 2⟩, ⟨.int .i64 3, fnCarry F, 3⟩, ⟨.int .i64 4, fnZero, 4⟩, ⟨.int .i64 5, fnTop B, 5⟩, ⟨.int .i64 6, fnOne, 6⟩, ⟨.int .i64 7, fnZero, 7⟩]
def Kinds (w : World) (B F O M : Nat) (b f : Int) (o : Bool) : Prop :=
  (w.cell? ⟨B, 0, none⟩ = some (.int .u8 b) ∧ w.cell? ⟨F, 0, none⟩ = some (.int .u8 f) ∧ w.cell? ⟨O, 0, none⟩ = some (.bool o)) ∧ w.heap[M]? = some (.map (kindEnts B F O) 8)
set_option maxHeartbeats 4000000 in
theorem entering_any (b f : Int) (o : Bool) (w : World) :
    Calls Tryz.prog 262 #[.int .u8 b, .int .u8 f, .bool o] w fun e w' => ∃ B F O M, e = .returned (.map (some M)) ∧ Kinds w' B F O M b f o ∧ Below w.heap.size w w' := by
  have hmm := @run_makeMap Tryz.prog
  go_enter Tryz.func262, Tryz.ntmps262
  go_wp2
  go_ret
  have c1 := cell_new w (.int .u8 b) 5
  have c2 := cell_new (w.alloc (.cells #[.int .u8 b] 5)) (.int .u8 f) 5
  have c3 := cell_new ((w.alloc (.cells #[.int .u8 b] 5)).alloc (.cells #[.int .u8 f] 5)) (.bool o) 4
  simp only [World.size_alloc] at c2 c3
  refine ⟨w.heap.size, w.heap.size + 1, w.heap.size + 1 + 1, w.heap.size + 1 + 1 + 1, rfl, ⟨⟨cell_under _ _ (cell_under _ _ (cell_under _ _ c1)), cell_under _ _ (cell_under _ _ c2), cell_under _ _ c3⟩, ?_⟩, (by repeat (first | exact Below.refl _ _ | assumption | refine bstep ?_ (by assumption) | refine Below.drew ?_ | refine Below.alloc ?_ (by first | (simp; done) | (simp; omega) | omega) _ | refine Below.setCell ?_ (by first | (simp; done) | (simp; omega) | omega) _))⟩
  have h := (MapKept.heap_alloc (((w.alloc (.cells #[.int .u8 b] 5)).alloc (.cells #[.int .u8 f] 5)).alloc (.cells #[.bool o] 4)) (.map (kindEnts w.heap.size (w.heap.size + 1) (w.heap.size + 1 + 1)) 8)).1
  simp only [World.size_alloc] at h
  exact h
theorem fnOut_any (O : Nat) (o : Bool) (w : World) (h : w.cell? ⟨O, 0, none⟩ = some (.bool o)) :
    Calls Tryz.prog 289 #[.pointer (some ⟨O, 0, none⟩)] w fun e w' => e = .returned (.bool o) ∧ w = w' := by
  go_enter Tryz.func289, Tryz.ntmps289
  go_wp2
  go_ret
  exact ⟨rfl, rfl⟩
theorem low_bit (f : Int) (h : B8 f) : (bits .and .u8 f 1 != 0) = isM f 0 := by
  rw [low_all f h]
  cases isM f 0 <;> rfl
theorem fnCarry_any (F : Nat) (f : Int) (hf : B8 f) (w : World) (h : w.cell? ⟨F, 0, none⟩ = some (.int .u8 f)) :
    Calls Tryz.prog 290 #[.pointer (some ⟨F, 0, none⟩)] w fun e w' => e = .returned (.bool (isM f 0)) ∧ w = w' := by
  have hl := Lib.hid (low_bit f hf)
  go_enter Tryz.func290, Tryz.ntmps290
  go_wp2
  go_ret
  exact ⟨ret_bool hl.out, rfl⟩
theorem fnZero_any (w : World) :
    Calls Tryz.prog 291 #[] w fun e w' => e = .returned (.bool false) ∧ w = w' := by
  go_enter Tryz.func291, Tryz.ntmps291
  go_wp2
  go_ret
  exact ⟨rfl, rfl⟩
theorem fnTop_any (B : Nat) (b : Int) (hb : B8 b) (w : World) (h : w.cell? ⟨B, 0, none⟩ = some (.int .u8 b)) :
    Calls Tryz.prog 292 #[.pointer (some ⟨B, 0, none⟩)] w fun e w' => e = .returned (.bool (isM b 7)) ∧ w = w' := by
  go_enter Tryz.func292, Tryz.ntmps292
  go_wp2_with (first
    | (go_at_call 199; refine (is_any _ _ (B8.lo (by assumption)) (B8.hi (by assumption)) _).mono ?_; rintro e w' ⟨rfl, rfl⟩))
  go_ret
  exact ⟨rfl, rfl⟩
theorem fnOne_any (w : World) :
    Calls Tryz.prog 293 #[] w fun e w' => e = .returned (.bool true) ∧ w = w' := by
  go_enter Tryz.func293, Tryz.ntmps293
  go_wp2
  go_ret
  exact ⟨rfl, rfl⟩
theorem look_0 {w : World} {B F O M : Nat} (h : w.heap[M]? = some (.map (kindEnts B F O) 8)) : (Instr.lookup 139 (.map (some M)) (.int .i64 0) true).run Tryz.prog w = .ok (.tuple #[fnOut O, .bool true]) w :=
  run_look Tryz.underlying139 Tryz.underlying3 h rfl
theorem look_1 {w : World} {B F O M : Nat} (h : w.heap[M]? = some (.map (kindEnts B F O) 8)) : (Instr.lookup 139 (.map (some M)) (.int .i64 1) true).run Tryz.prog w = .ok (.tuple #[fnOut O, .bool true]) w :=
  run_look Tryz.underlying139 Tryz.underlying3 h rfl
theorem look_2 {w : World} {B F O M : Nat} (h : w.heap[M]? = some (.map (kindEnts B F O) 8)) : (Instr.lookup 139 (.map (some M)) (.int .i64 2) true).run Tryz.prog w = .ok (.tuple #[fnCarry F, .bool true]) w :=
  run_look Tryz.underlying139 Tryz.underlying3 h rfl
theorem look_3 {w : World} {B F O M : Nat} (h : w.heap[M]? = some (.map (kindEnts B F O) 8)) : (Instr.lookup 139 (.map (some M)) (.int .i64 3) true).run Tryz.prog w = .ok (.tuple #[fnCarry F, .bool true]) w :=
  run_look Tryz.underlying139 Tryz.underlying3 h rfl
theorem look_4 {w : World} {B F O M : Nat} (h : w.heap[M]? = some (.map (kindEnts B F O) 8)) : (Instr.lookup 139 (.map (some M)) (.int .i64 4) true).run Tryz.prog w = .ok (.tuple #[fnZero, .bool true]) w :=
  run_look Tryz.underlying139 Tryz.underlying3 h rfl
theorem look_5 {w : World} {B F O M : Nat} (h : w.heap[M]? = some (.map (kindEnts B F O) 8)) : (Instr.lookup 139 (.map (some M)) (.int .i64 5) true).run Tryz.prog w = .ok (.tuple #[fnTop B, .bool true]) w :=
  run_look Tryz.underlying139 Tryz.underlying3 h rfl
theorem look_6 {w : World} {B F O M : Nat} (h : w.heap[M]? = some (.map (kindEnts B F O) 8)) : (Instr.lookup 139 (.map (some M)) (.int .i64 6) true).run Tryz.prog w = .ok (.tuple #[fnOne, .bool true]) w :=
  run_look Tryz.underlying139 Tryz.underlying3 h rfl
theorem look_7 {w : World} {B F O M : Nat} (h : w.heap[M]? = some (.map (kindEnts B F O) 8)) : (Instr.lookup 139 (.map (some M)) (.int .i64 7) true).run Tryz.prog w = .ok (.tuple #[fnZero, .bool true]) w :=
  run_look Tryz.underlying139 Tryz.underlying3 h rfl
theorem look_no {w : World} {B F O M : Nat} {k : Int} (hk : k < 0 ∨ 8 ≤ k) (h : w.heap[M]? = some (.map (kindEnts B F O) 8)) : (Instr.lookup 139 (.map (some M)) (.int .i64 k) true).run Tryz.prog w = .ok (.tuple #[.nilFunc, .bool false]) w :=
  run_look_no Tryz.underlying139 Tryz.underlying3 h (by
    have n0 : (k == 0) = false := by simp; omega
    have n1 : (k == 1) = false := by simp; omega
    have n2 : (k == 2) = false := by simp; omega
    have n3 : (k == 3) = false := by simp; omega
    have n4 : (k == 4) = false := by simp; omega
    have n5 : (k == 5) = false := by simp; omega
    have n6 : (k == 6) = false := by simp; omega
    have n7 : (k == 7) = false := by simp; omega
    simp only [kindEnts, Instr.findNow, Instr.sameNow, if_true, n0, n1, n2, n3, n4, n5, n6, n7]) (by kernel_rfl)
end
def Courses (w : World) : Prop := w.cell? ⟨1, 0, none⟩ = some (.int .i64 1) ∧ w.cell? ⟨1, 1, none⟩ = some (.int .i64 7) ∧ w.cell? ⟨1, 2, none⟩ = some (.int .i64 0) ∧ w.cell? ⟨1, 3, none⟩ = some (.int .i64 (-1)) ∧ w.cell? ⟨1, 4, none⟩ = some (.int .i64 0) ∧ w.cell? ⟨1, 5, none⟩ = some (.int .i64 7)
theorem Courses.below {w w' : World} (h : Courses w) (k : Below w.heap.size w w') : Courses w' := by
  obtain ⟨h0, h1, h2, h3, h4, h5⟩ := h
  exact ⟨cell_kept h0 k, cell_kept h1 k, cell_kept h2 k, cell_kept h3 k, cell_kept h4 k, cell_kept h5 k⟩
theorem and1_i64 (y : Int) : bits BinOp.and IntKind.i64 y 1 = y % 2 := by
  have e : (BitVec.ofInt 64 y &&& BitVec.ofInt 64 1).toNat = (y % 2).toNat := by
    rw [BitVec.toNat_and, show (BitVec.ofInt 64 1).toNat = 2 ^ 1 - 1 by decide, Nat.and_two_pow_sub_one_eq_mod, BitVec.toNat_ofInt]
    omega
  show IntKind.i64.wrap ((BitVec.ofInt 64 y &&& BitVec.ofInt 64 1).toNat : Int) = _
  rw [e, IntKind.wrap_i64]
  omega
set_option maxHeartbeats 400000 in
theorem scarry_any (o : Bool) (w : World) :
    Calls Tryz.prog 195 #[.bool o] w fun e w' => e = .returned (.int .u8 (one o)) ∧ w = w' := by
  cases o
  all_goals
    go_enter Tryz.func195, Tryz.ntmps195
    go_wp2
    go_ret
    exact ⟨rfl, rfl⟩
theorem new3 (w : World) (u v x : Value) (t : TypeId) : (w.alloc (.cells #[u, v, x] t)).cell? ⟨w.heap.size, 0, none⟩ = some u ∧ (w.alloc (.cells #[u, v, x] t)).cell? ⟨w.heap.size, 1, none⟩ = some v ∧ (w.alloc (.cells #[u, v, x] t)).cell? ⟨w.heap.size, 2, none⟩ = some x := by
  have e : ∀ o : Obj, (w.alloc o).heap[w.heap.size]? = some o := fun o => by
    show (w.heap.push _)[w.heap.size]? = _
    simp
  refine ⟨?_, ?_, ?_⟩ <;> (simp only [World.cell?, e]; rfl)
theorem hold3 {w w' : World} {p q r : Addr} {u v x : Value} (k : Below w.heap.size w w') (h : w.cell? p = some u ∧ w.cell? q = some v ∧ w.cell? r = some x) : w'.cell? p = some u ∧ w'.cell? q = some v ∧ w'.cell? r = some x :=
  ⟨cell_kept h.1 k, cell_kept h.2.1 k, cell_kept h.2.2 k⟩
theorem last3 {p q r : Prop} (h : p ∧ q ∧ r) : r := h.2.2
abbrev moved (r : Int) (o k : Bool) : Value := .tuple #[.int .u8 r, .bool o, .bool k]
set_option maxHeartbeats 4000000 in
theorem move_0 (b f : Int) (hb : B8 b) (hf : B8 f) (w : World) (hd : Courses w) :
    Calls Tryz.prog 193 #[.int .i64 0, .int .u8 b, .int .u8 f] w fun e w' => e = .returned (moved (shM 0 b f) (soutM 0 b) true) ∧ Below w.heap.size w w' := by
  have hB := hb
  clear hb
  obtain ⟨d0, d1, d2, d3, d4, d5⟩ := hd
  have ka := and1_i64 0
  simp only [show (0 : Int) % 2 = 0 by decide] at ka
  have ht : B8 (turnM b 1) := turnM_byte b 1 hB.1 hB.2
  go_enter Tryz.func193, Tryz.ntmps193
  go_wp2_with (first
    | (go_at_call 199; refine (is_any _ _ (B8.lo (by assumption)) (B8.hi (by assumption)) _).mono ?_; rintro e w' ⟨rfl, rfl⟩)
    | (go_at_call 262; refine (entering_any _ _ _ _).mono ?_; rintro e w' ⟨B, F, O, M, rfl, ⟨⟨c1, c2, c3⟩, hm⟩, hb⟩; have hl := look_0 hm))
  have k0 : w'.cell? ⟨w.heap.size, 0, none⟩ = some (.int .i64 1) := cell_kept (new3 w _ _ _ _).1 hb
  have k2 : w'.cell? ⟨w.heap.size, 2, none⟩ = some (.int .i64 0) := cell_kept (new3 w _ _ _ _).2.2 hb
  have hsz := hb.size
  simp only [World.size_alloc] at hsz
  have hs : w'.cell? ⟨w.heap.size, 0, none⟩ = some (.int .i64 1) ∧ w'.cell? ⟨w.heap.size, 2, none⟩ = some (.int .i64 0) ∧ w'.cell? ⟨O, 0, none⟩ = some (.bool (isM b 7)) := ⟨k0, k2, c3⟩
  have hb0 : Below w.heap.size w w' := (by repeat (first | exact Below.refl _ _ | assumption | refine bstep ?_ (by assumption) | refine Below.drew ?_ | refine Below.alloc ?_ (by first | (simp; done) | (simp; omega) | omega) _ | refine Below.setCell ?_ (by first | (simp; done) | (simp; omega) | omega) _))
  clear hb k0 k2 c1 c2 c3 hl hm d0 d1 d2 d3 d4 d5 ka
  go_region_held3 (fun w' => w'.cell? ⟨w.heap.size, 0, none⟩ = some (.int .i64 1) ∧ w'.cell? ⟨w.heap.size, 2, none⟩ = some (.int .i64 0) ∧ w'.cell? ⟨O, 0, none⟩ = some (.bool (isM b 7))) (first | go_keep | exact hold3 hb (by assumption))
    (first
    | (go_at_call 263; refine (turn_any _ _ (B8.lo (by assumption)) (B8.hi (by assumption)) _).mono ?_; rintro e w' ⟨rfl, hb⟩; have hsz := hb.size)
    | (go_at_call 289; refine (fnOut_any O (isM b 7) _ (last3 (by assumption))).mono ?_; rintro e w' ⟨rfl, rfl⟩)
    | (go_at_call 108; refine (with_any _ _ _ (B8.lo (by assumption)) (B8.hi (by assumption)) _).mono ?_; rintro e w' ⟨rfl, rfl⟩))
  go_wp2_with fail
  go_ret3
  exact ⟨rfl, (by repeat (first | exact Below.refl _ _ | assumption | refine bstep ?_ (by assumption) | refine Below.drew ?_ | refine Below.alloc ?_ (by first | (simp; done) | (simp; omega) | omega) _ | refine Below.setCell ?_ (by first | (simp; done) | (simp; omega) | omega) _))⟩
set_option maxHeartbeats 4000000 in
theorem move_1 (b f : Int) (hb : B8 b) (hf : B8 f) (w : World) (hd : Courses w) :
    Calls Tryz.prog 193 #[.int .i64 1, .int .u8 b, .int .u8 f] w fun e w' => e = .returned (moved (shM 1 b f) (soutM 1 b) true) ∧ Below w.heap.size w w' := by
  have hB := hb
  clear hb
  obtain ⟨d0, d1, d2, d3, d4, d5⟩ := hd
  have ka := and1_i64 1
  simp only [show (1 : Int) % 2 = 1 by decide] at ka
  have ht : B8 (turnM b (-1)) := turnM_byte b (-1) hB.1 hB.2
  go_enter Tryz.func193, Tryz.ntmps193
  go_wp2_with (first
    | (go_at_call 199; refine (is_any _ _ (B8.lo (by assumption)) (B8.hi (by assumption)) _).mono ?_; rintro e w' ⟨rfl, rfl⟩)
    | (go_at_call 262; refine (entering_any _ _ _ _).mono ?_; rintro e w' ⟨B, F, O, M, rfl, ⟨⟨c1, c2, c3⟩, hm⟩, hb⟩; have hl := look_1 hm))
  have k0 : w'.cell? ⟨w.heap.size, 0, none⟩ = some (.int .i64 (-1)) := cell_kept (new3 w _ _ _ _).1 hb
  have k2 : w'.cell? ⟨w.heap.size, 2, none⟩ = some (.int .i64 7) := cell_kept (new3 w _ _ _ _).2.2 hb
  have hsz := hb.size
  simp only [World.size_alloc] at hsz
  have hs : w'.cell? ⟨w.heap.size, 0, none⟩ = some (.int .i64 (-1)) ∧ w'.cell? ⟨w.heap.size, 2, none⟩ = some (.int .i64 7) ∧ w'.cell? ⟨O, 0, none⟩ = some (.bool (isM b 0)) := ⟨k0, k2, c3⟩
  have hb0 : Below w.heap.size w w' := (by repeat (first | exact Below.refl _ _ | assumption | refine bstep ?_ (by assumption) | refine Below.drew ?_ | refine Below.alloc ?_ (by first | (simp; done) | (simp; omega) | omega) _ | refine Below.setCell ?_ (by first | (simp; done) | (simp; omega) | omega) _))
  clear hb k0 k2 c1 c2 c3 hl hm d0 d1 d2 d3 d4 d5 ka
  go_region_held3 (fun w' => w'.cell? ⟨w.heap.size, 0, none⟩ = some (.int .i64 (-1)) ∧ w'.cell? ⟨w.heap.size, 2, none⟩ = some (.int .i64 7) ∧ w'.cell? ⟨O, 0, none⟩ = some (.bool (isM b 0))) (first | go_keep | exact hold3 hb (by assumption))
    (first
    | (go_at_call 263; refine (turn_any _ _ (B8.lo (by assumption)) (B8.hi (by assumption)) _).mono ?_; rintro e w' ⟨rfl, hb⟩; have hsz := hb.size)
    | (go_at_call 289; refine (fnOut_any O (isM b 0) _ (last3 (by assumption))).mono ?_; rintro e w' ⟨rfl, rfl⟩)
    | (go_at_call 108; refine (with_any _ _ _ (B8.lo (by assumption)) (B8.hi (by assumption)) _).mono ?_; rintro e w' ⟨rfl, rfl⟩))
  go_wp2_with fail
  go_ret3
  exact ⟨rfl, (by repeat (first | exact Below.refl _ _ | assumption | refine bstep ?_ (by assumption) | refine Below.drew ?_ | refine Below.alloc ?_ (by first | (simp; done) | (simp; omega) | omega) _ | refine Below.setCell ?_ (by first | (simp; done) | (simp; omega) | omega) _))⟩
set_option maxHeartbeats 4000000 in
theorem move_2 (b f : Int) (hb : B8 b) (hf : B8 f) (w : World) (hd : Courses w) :
    Calls Tryz.prog 193 #[.int .i64 2, .int .u8 b, .int .u8 f] w fun e w' => e = .returned (moved (shM 2 b f) (soutM 2 b) true) ∧ Below w.heap.size w w' := by
  have hB := hb
  clear hb
  obtain ⟨d0, d1, d2, d3, d4, d5⟩ := hd
  have ka := and1_i64 2
  simp only [show (2 : Int) % 2 = 0 by decide] at ka
  have ht : B8 (turnM b 1) := turnM_byte b 1 hB.1 hB.2
  go_enter Tryz.func193, Tryz.ntmps193
  go_wp2_with (first
    | (go_at_call 199; refine (is_any _ _ (B8.lo (by assumption)) (B8.hi (by assumption)) _).mono ?_; rintro e w' ⟨rfl, rfl⟩)
    | (go_at_call 262; refine (entering_any _ _ _ _).mono ?_; rintro e w' ⟨B, F, O, M, rfl, ⟨⟨c1, c2, c3⟩, hm⟩, hb⟩; have hl := look_2 hm))
  have k0 : w'.cell? ⟨w.heap.size, 0, none⟩ = some (.int .i64 1) := cell_kept (new3 w _ _ _ _).1 hb
  have k2 : w'.cell? ⟨w.heap.size, 2, none⟩ = some (.int .i64 0) := cell_kept (new3 w _ _ _ _).2.2 hb
  have hsz := hb.size
  simp only [World.size_alloc] at hsz
  have hs : w'.cell? ⟨w.heap.size, 0, none⟩ = some (.int .i64 1) ∧ w'.cell? ⟨w.heap.size, 2, none⟩ = some (.int .i64 0) ∧ w'.cell? ⟨F, 0, none⟩ = some (.int .u8 f) := ⟨k0, k2, c2⟩
  have hb0 : Below w.heap.size w w' := (by repeat (first | exact Below.refl _ _ | assumption | refine bstep ?_ (by assumption) | refine Below.drew ?_ | refine Below.alloc ?_ (by first | (simp; done) | (simp; omega) | omega) _ | refine Below.setCell ?_ (by first | (simp; done) | (simp; omega) | omega) _))
  clear hb k0 k2 c1 c2 c3 hl hm d0 d1 d2 d3 d4 d5 ka
  go_region_held3 (fun w' => w'.cell? ⟨w.heap.size, 0, none⟩ = some (.int .i64 1) ∧ w'.cell? ⟨w.heap.size, 2, none⟩ = some (.int .i64 0) ∧ w'.cell? ⟨F, 0, none⟩ = some (.int .u8 f)) (first | go_keep | exact hold3 hb (by assumption))
    (first
    | (go_at_call 263; refine (turn_any _ _ (B8.lo (by assumption)) (B8.hi (by assumption)) _).mono ?_; rintro e w' ⟨rfl, hb⟩; have hsz := hb.size)
    | (go_at_call 290; refine (fnCarry_any F f hf _ (last3 (by assumption))).mono ?_; rintro e w' ⟨rfl, rfl⟩)
    | (go_at_call 108; refine (with_any _ _ _ (B8.lo (by assumption)) (B8.hi (by assumption)) _).mono ?_; rintro e w' ⟨rfl, rfl⟩))
  go_wp2_with fail
  go_ret3
  exact ⟨rfl, (by repeat (first | exact Below.refl _ _ | assumption | refine bstep ?_ (by assumption) | refine Below.drew ?_ | refine Below.alloc ?_ (by first | (simp; done) | (simp; omega) | omega) _ | refine Below.setCell ?_ (by first | (simp; done) | (simp; omega) | omega) _))⟩
set_option maxHeartbeats 4000000 in
theorem move_3 (b f : Int) (hb : B8 b) (hf : B8 f) (w : World) (hd : Courses w) :
    Calls Tryz.prog 193 #[.int .i64 3, .int .u8 b, .int .u8 f] w fun e w' => e = .returned (moved (shM 3 b f) (soutM 3 b) true) ∧ Below w.heap.size w w' := by
  have hB := hb
  clear hb
  obtain ⟨d0, d1, d2, d3, d4, d5⟩ := hd
  have ka := and1_i64 3
  simp only [show (3 : Int) % 2 = 1 by decide] at ka
  have ht : B8 (turnM b (-1)) := turnM_byte b (-1) hB.1 hB.2
  go_enter Tryz.func193, Tryz.ntmps193
  go_wp2_with (first
    | (go_at_call 199; refine (is_any _ _ (B8.lo (by assumption)) (B8.hi (by assumption)) _).mono ?_; rintro e w' ⟨rfl, rfl⟩)
    | (go_at_call 262; refine (entering_any _ _ _ _).mono ?_; rintro e w' ⟨B, F, O, M, rfl, ⟨⟨c1, c2, c3⟩, hm⟩, hb⟩; have hl := look_3 hm))
  have k0 : w'.cell? ⟨w.heap.size, 0, none⟩ = some (.int .i64 (-1)) := cell_kept (new3 w _ _ _ _).1 hb
  have k2 : w'.cell? ⟨w.heap.size, 2, none⟩ = some (.int .i64 7) := cell_kept (new3 w _ _ _ _).2.2 hb
  have hsz := hb.size
  simp only [World.size_alloc] at hsz
  have hs : w'.cell? ⟨w.heap.size, 0, none⟩ = some (.int .i64 (-1)) ∧ w'.cell? ⟨w.heap.size, 2, none⟩ = some (.int .i64 7) ∧ w'.cell? ⟨F, 0, none⟩ = some (.int .u8 f) := ⟨k0, k2, c2⟩
  have hb0 : Below w.heap.size w w' := (by repeat (first | exact Below.refl _ _ | assumption | refine bstep ?_ (by assumption) | refine Below.drew ?_ | refine Below.alloc ?_ (by first | (simp; done) | (simp; omega) | omega) _ | refine Below.setCell ?_ (by first | (simp; done) | (simp; omega) | omega) _))
  clear hb k0 k2 c1 c2 c3 hl hm d0 d1 d2 d3 d4 d5 ka
  go_region_held3 (fun w' => w'.cell? ⟨w.heap.size, 0, none⟩ = some (.int .i64 (-1)) ∧ w'.cell? ⟨w.heap.size, 2, none⟩ = some (.int .i64 7) ∧ w'.cell? ⟨F, 0, none⟩ = some (.int .u8 f)) (first | go_keep | exact hold3 hb (by assumption))
    (first
    | (go_at_call 263; refine (turn_any _ _ (B8.lo (by assumption)) (B8.hi (by assumption)) _).mono ?_; rintro e w' ⟨rfl, hb⟩; have hsz := hb.size)
    | (go_at_call 290; refine (fnCarry_any F f hf _ (last3 (by assumption))).mono ?_; rintro e w' ⟨rfl, rfl⟩)
    | (go_at_call 108; refine (with_any _ _ _ (B8.lo (by assumption)) (B8.hi (by assumption)) _).mono ?_; rintro e w' ⟨rfl, rfl⟩))
  go_wp2_with fail
  go_ret3
  exact ⟨rfl, (by repeat (first | exact Below.refl _ _ | assumption | refine bstep ?_ (by assumption) | refine Below.drew ?_ | refine Below.alloc ?_ (by first | (simp; done) | (simp; omega) | omega) _ | refine Below.setCell ?_ (by first | (simp; done) | (simp; omega) | omega) _))⟩
set_option maxHeartbeats 4000000 in
theorem move_4 (b f : Int) (hb : B8 b) (hf : B8 f) (w : World) (hd : Courses w) :
    Calls Tryz.prog 193 #[.int .i64 4, .int .u8 b, .int .u8 f] w fun e w' => e = .returned (moved (shM 4 b f) (soutM 4 b) true) ∧ Below w.heap.size w w' := by
  have hB := hb
  clear hb
  obtain ⟨d0, d1, d2, d3, d4, d5⟩ := hd
  have ka := and1_i64 4
  simp only [show (4 : Int) % 2 = 0 by decide] at ka
  have ht : B8 (turnM b 1) := turnM_byte b 1 hB.1 hB.2
  go_enter Tryz.func193, Tryz.ntmps193
  go_wp2_with (first
    | (go_at_call 199; refine (is_any _ _ (B8.lo (by assumption)) (B8.hi (by assumption)) _).mono ?_; rintro e w' ⟨rfl, rfl⟩)
    | (go_at_call 262; refine (entering_any _ _ _ _).mono ?_; rintro e w' ⟨B, F, O, M, rfl, ⟨⟨c1, c2, c3⟩, hm⟩, hb⟩; have hl := look_4 hm))
  have k0 : w'.cell? ⟨w.heap.size, 0, none⟩ = some (.int .i64 1) := cell_kept (new3 w _ _ _ _).1 hb
  have k2 : w'.cell? ⟨w.heap.size, 2, none⟩ = some (.int .i64 0) := cell_kept (new3 w _ _ _ _).2.2 hb
  have hsz := hb.size
  simp only [World.size_alloc] at hsz
  have hs : w'.cell? ⟨w.heap.size, 0, none⟩ = some (.int .i64 1) ∧ w'.cell? ⟨w.heap.size, 2, none⟩ = some (.int .i64 0) ∧ w'.cell? ⟨O, 0, none⟩ = some (.bool (isM b 7)) := ⟨k0, k2, c3⟩
  have hb0 : Below w.heap.size w w' := (by repeat (first | exact Below.refl _ _ | assumption | refine bstep ?_ (by assumption) | refine Below.drew ?_ | refine Below.alloc ?_ (by first | (simp; done) | (simp; omega) | omega) _ | refine Below.setCell ?_ (by first | (simp; done) | (simp; omega) | omega) _))
  clear hb k0 k2 c1 c2 c3 hl hm d0 d1 d2 d3 d4 d5 ka
  go_region_held3 (fun w' => w'.cell? ⟨w.heap.size, 0, none⟩ = some (.int .i64 1) ∧ w'.cell? ⟨w.heap.size, 2, none⟩ = some (.int .i64 0) ∧ w'.cell? ⟨O, 0, none⟩ = some (.bool (isM b 7))) (first | go_keep | exact hold3 hb (by assumption))
    (first
    | (go_at_call 263; refine (turn_any _ _ (B8.lo (by assumption)) (B8.hi (by assumption)) _).mono ?_; rintro e w' ⟨rfl, hb⟩; have hsz := hb.size)
    | (go_at_call 291; refine (fnZero_any _).mono ?_; rintro e w' ⟨rfl, rfl⟩)
    | (go_at_call 108; refine (with_any _ _ _ (B8.lo (by assumption)) (B8.hi (by assumption)) _).mono ?_; rintro e w' ⟨rfl, rfl⟩))
  go_wp2_with fail
  go_ret3
  exact ⟨rfl, (by repeat (first | exact Below.refl _ _ | assumption | refine bstep ?_ (by assumption) | refine Below.drew ?_ | refine Below.alloc ?_ (by first | (simp; done) | (simp; omega) | omega) _ | refine Below.setCell ?_ (by first | (simp; done) | (simp; omega) | omega) _))⟩
set_option maxHeartbeats 4000000 in
theorem move_5 (b f : Int) (hb : B8 b) (hf : B8 f) (w : World) (hd : Courses w) :
    Calls Tryz.prog 193 #[.int .i64 5, .int .u8 b, .int .u8 f] w fun e w' => e = .returned (moved (shM 5 b f) (soutM 5 b) true) ∧ Below w.heap.size w w' := by
  have hB := hb
  clear hb
  obtain ⟨d0, d1, d2, d3, d4, d5⟩ := hd
  have ka := and1_i64 5
  simp only [show (5 : Int) % 2 = 1 by decide] at ka
  have ht : B8 (turnM b (-1)) := turnM_byte b (-1) hB.1 hB.2
  go_enter Tryz.func193, Tryz.ntmps193
  go_wp2_with (first
    | (go_at_call 199; refine (is_any _ _ (B8.lo (by assumption)) (B8.hi (by assumption)) _).mono ?_; rintro e w' ⟨rfl, rfl⟩)
    | (go_at_call 262; refine (entering_any _ _ _ _).mono ?_; rintro e w' ⟨B, F, O, M, rfl, ⟨⟨c1, c2, c3⟩, hm⟩, hb⟩; have hl := look_5 hm))
  have k0 : w'.cell? ⟨w.heap.size, 0, none⟩ = some (.int .i64 (-1)) := cell_kept (new3 w _ _ _ _).1 hb
  have k2 : w'.cell? ⟨w.heap.size, 2, none⟩ = some (.int .i64 7) := cell_kept (new3 w _ _ _ _).2.2 hb
  have hsz := hb.size
  simp only [World.size_alloc] at hsz
  have hs : w'.cell? ⟨w.heap.size, 0, none⟩ = some (.int .i64 (-1)) ∧ w'.cell? ⟨w.heap.size, 2, none⟩ = some (.int .i64 7) ∧ w'.cell? ⟨B, 0, none⟩ = some (.int .u8 b) := ⟨k0, k2, c1⟩
  have hb0 : Below w.heap.size w w' := (by repeat (first | exact Below.refl _ _ | assumption | refine bstep ?_ (by assumption) | refine Below.drew ?_ | refine Below.alloc ?_ (by first | (simp; done) | (simp; omega) | omega) _ | refine Below.setCell ?_ (by first | (simp; done) | (simp; omega) | omega) _))
  clear hb k0 k2 c1 c2 c3 hl hm d0 d1 d2 d3 d4 d5 ka
  go_region_held3 (fun w' => w'.cell? ⟨w.heap.size, 0, none⟩ = some (.int .i64 (-1)) ∧ w'.cell? ⟨w.heap.size, 2, none⟩ = some (.int .i64 7) ∧ w'.cell? ⟨B, 0, none⟩ = some (.int .u8 b)) (first | go_keep | exact hold3 hb (by assumption))
    (first
    | (go_at_call 263; refine (turn_any _ _ (B8.lo (by assumption)) (B8.hi (by assumption)) _).mono ?_; rintro e w' ⟨rfl, hb⟩; have hsz := hb.size)
    | (go_at_call 292; refine (fnTop_any B b hB _ (last3 (by assumption))).mono ?_; rintro e w' ⟨rfl, rfl⟩)
    | (go_at_call 108; refine (with_any _ _ _ (B8.lo (by assumption)) (B8.hi (by assumption)) _).mono ?_; rintro e w' ⟨rfl, rfl⟩))
  go_wp2_with fail
  go_ret3
  exact ⟨rfl, (by repeat (first | exact Below.refl _ _ | assumption | refine bstep ?_ (by assumption) | refine Below.drew ?_ | refine Below.alloc ?_ (by first | (simp; done) | (simp; omega) | omega) _ | refine Below.setCell ?_ (by first | (simp; done) | (simp; omega) | omega) _))⟩
set_option maxHeartbeats 4000000 in
theorem move_6 (b f : Int) (hb : B8 b) (hf : B8 f) (w : World) (hd : Courses w) :
    Calls Tryz.prog 193 #[.int .i64 6, .int .u8 b, .int .u8 f] w fun e w' => e = .returned (moved (shM 6 b f) (soutM 6 b) true) ∧ Below w.heap.size w w' := by
  have hB := hb
  clear hb
  obtain ⟨d0, d1, d2, d3, d4, d5⟩ := hd
  have ka := and1_i64 6
  simp only [show (6 : Int) % 2 = 0 by decide] at ka
  have ht : B8 (turnM b 1) := turnM_byte b 1 hB.1 hB.2
  go_enter Tryz.func193, Tryz.ntmps193
  go_wp2_with (first
    | (go_at_call 199; refine (is_any _ _ (B8.lo (by assumption)) (B8.hi (by assumption)) _).mono ?_; rintro e w' ⟨rfl, rfl⟩)
    | (go_at_call 262; refine (entering_any _ _ _ _).mono ?_; rintro e w' ⟨B, F, O, M, rfl, ⟨⟨c1, c2, c3⟩, hm⟩, hb⟩; have hl := look_6 hm))
  have k0 : w'.cell? ⟨w.heap.size, 0, none⟩ = some (.int .i64 1) := cell_kept (new3 w _ _ _ _).1 hb
  have k2 : w'.cell? ⟨w.heap.size, 2, none⟩ = some (.int .i64 0) := cell_kept (new3 w _ _ _ _).2.2 hb
  have hsz := hb.size
  simp only [World.size_alloc] at hsz
  have hs : w'.cell? ⟨w.heap.size, 0, none⟩ = some (.int .i64 1) ∧ w'.cell? ⟨w.heap.size, 2, none⟩ = some (.int .i64 0) ∧ w'.cell? ⟨O, 0, none⟩ = some (.bool (isM b 7)) := ⟨k0, k2, c3⟩
  have hb0 : Below w.heap.size w w' := (by repeat (first | exact Below.refl _ _ | assumption | refine bstep ?_ (by assumption) | refine Below.drew ?_ | refine Below.alloc ?_ (by first | (simp; done) | (simp; omega) | omega) _ | refine Below.setCell ?_ (by first | (simp; done) | (simp; omega) | omega) _))
  clear hb k0 k2 c1 c2 c3 hl hm d0 d1 d2 d3 d4 d5 ka
  go_region_held3 (fun w' => w'.cell? ⟨w.heap.size, 0, none⟩ = some (.int .i64 1) ∧ w'.cell? ⟨w.heap.size, 2, none⟩ = some (.int .i64 0) ∧ w'.cell? ⟨O, 0, none⟩ = some (.bool (isM b 7))) (first | go_keep | exact hold3 hb (by assumption))
    (first
    | (go_at_call 263; refine (turn_any _ _ (B8.lo (by assumption)) (B8.hi (by assumption)) _).mono ?_; rintro e w' ⟨rfl, hb⟩; have hsz := hb.size)
    | (go_at_call 293; refine (fnOne_any _).mono ?_; rintro e w' ⟨rfl, rfl⟩)
    | (go_at_call 108; refine (with_any _ _ _ (B8.lo (by assumption)) (B8.hi (by assumption)) _).mono ?_; rintro e w' ⟨rfl, rfl⟩))
  go_wp2_with fail
  go_ret3
  exact ⟨rfl, (by repeat (first | exact Below.refl _ _ | assumption | refine bstep ?_ (by assumption) | refine Below.drew ?_ | refine Below.alloc ?_ (by first | (simp; done) | (simp; omega) | omega) _ | refine Below.setCell ?_ (by first | (simp; done) | (simp; omega) | omega) _))⟩
set_option maxHeartbeats 4000000 in
theorem move_7 (b f : Int) (hb : B8 b) (hf : B8 f) (w : World) (hd : Courses w) :
    Calls Tryz.prog 193 #[.int .i64 7, .int .u8 b, .int .u8 f] w fun e w' => e = .returned (moved (shM 7 b f) (soutM 7 b) true) ∧ Below w.heap.size w w' := by
  have hB := hb
  clear hb
  obtain ⟨d0, d1, d2, d3, d4, d5⟩ := hd
  have ka := and1_i64 7
  simp only [show (7 : Int) % 2 = 1 by decide] at ka
  have ht : B8 (turnM b (-1)) := turnM_byte b (-1) hB.1 hB.2
  go_enter Tryz.func193, Tryz.ntmps193
  go_wp2_with (first
    | (go_at_call 199; refine (is_any _ _ (B8.lo (by assumption)) (B8.hi (by assumption)) _).mono ?_; rintro e w' ⟨rfl, rfl⟩)
    | (go_at_call 262; refine (entering_any _ _ _ _).mono ?_; rintro e w' ⟨B, F, O, M, rfl, ⟨⟨c1, c2, c3⟩, hm⟩, hb⟩; have hl := look_7 hm))
  have k0 : w'.cell? ⟨w.heap.size, 0, none⟩ = some (.int .i64 (-1)) := cell_kept (new3 w _ _ _ _).1 hb
  have k2 : w'.cell? ⟨w.heap.size, 2, none⟩ = some (.int .i64 7) := cell_kept (new3 w _ _ _ _).2.2 hb
  have hsz := hb.size
  simp only [World.size_alloc] at hsz
  have hs : w'.cell? ⟨w.heap.size, 0, none⟩ = some (.int .i64 (-1)) ∧ w'.cell? ⟨w.heap.size, 2, none⟩ = some (.int .i64 7) ∧ w'.cell? ⟨O, 0, none⟩ = some (.bool (isM b 0)) := ⟨k0, k2, c3⟩
  have hb0 : Below w.heap.size w w' := (by repeat (first | exact Below.refl _ _ | assumption | refine bstep ?_ (by assumption) | refine Below.drew ?_ | refine Below.alloc ?_ (by first | (simp; done) | (simp; omega) | omega) _ | refine Below.setCell ?_ (by first | (simp; done) | (simp; omega) | omega) _))
  clear hb k0 k2 c1 c2 c3 hl hm d0 d1 d2 d3 d4 d5 ka
  go_region_held3 (fun w' => w'.cell? ⟨w.heap.size, 0, none⟩ = some (.int .i64 (-1)) ∧ w'.cell? ⟨w.heap.size, 2, none⟩ = some (.int .i64 7) ∧ w'.cell? ⟨O, 0, none⟩ = some (.bool (isM b 0))) (first | go_keep | exact hold3 hb (by assumption))
    (first
    | (go_at_call 263; refine (turn_any _ _ (B8.lo (by assumption)) (B8.hi (by assumption)) _).mono ?_; rintro e w' ⟨rfl, hb⟩; have hsz := hb.size)
    | (go_at_call 291; refine (fnZero_any _).mono ?_; rintro e w' ⟨rfl, rfl⟩)
    | (go_at_call 108; refine (with_any _ _ _ (B8.lo (by assumption)) (B8.hi (by assumption)) _).mono ?_; rintro e w' ⟨rfl, rfl⟩))
  go_wp2_with fail
  go_ret3
  exact ⟨rfl, (by repeat (first | exact Below.refl _ _ | assumption | refine bstep ?_ (by assumption) | refine Below.drew ?_ | refine Below.alloc ?_ (by first | (simp; done) | (simp; omega) | omega) _ | refine Below.setCell ?_ (by first | (simp; done) | (simp; omega) | omega) _))⟩
theorem move_yes (k b f : Int) (h0 : 0 ≤ k) (h1 : k < 8) (hb : B8 b) (hf : B8 f) (w : World) (hd : Courses w) :
    Calls Tryz.prog 193 #[.int .i64 k, .int .u8 b, .int .u8 f] w fun e w' => e = .returned (moved (shM k b f) (soutM k b) true) ∧ Below w.heap.size w w' := by
  obtain rfl | rfl | rfl | rfl | rfl | rfl | rfl | rfl : k = 0 ∨ k = 1 ∨ k = 2 ∨ k = 3 ∨ k = 4 ∨ k = 5 ∨ k = 6 ∨ k = 7 := by omega
  · exact move_0 b f hb hf w hd
  · exact move_1 b f hb hf w hd
  · exact move_2 b f hb hf w hd
  · exact move_3 b f hb hf w hd
  · exact move_4 b f hb hf w hd
  · exact move_5 b f hb hf w hd
  · exact move_6 b f hb hf w hd
  · exact move_7 b f hb hf w hd
set_option maxHeartbeats 4000000 in
theorem move_no (k b f : Int) (hk : k < 0 ∨ 8 ≤ k) (hb : B8 b) (hf : B8 f) (w : World) (hd : Courses w) :
    Calls Tryz.prog 193 #[.int .i64 k, .int .u8 b, .int .u8 f] w fun e w' => e = .returned (moved 0 false false) ∧ Below w.heap.size w w' := by
  have hB := hb
  clear hb
  obtain ⟨d0, d1, d2, d3, d4, d5⟩ := hd
  have ka := and1_i64 k
  have hk := Lib.hid hk
  obtain h2 | h2 : k % 2 = 0 ∨ k % 2 = 1 := by omega
  all_goals
    rw [h2] at ka
    clear h2
    go_enter Tryz.func193, Tryz.ntmps193
    go_wp2_with (first
      | (go_at_call 199; refine (is_any _ _ (B8.lo (by assumption)) (B8.hi (by assumption)) _).mono ?_; rintro e w' ⟨rfl, rfl⟩)
      | (go_at_call 262; refine (entering_any _ _ _ _).mono ?_; rintro e w' ⟨B, F, O, M, rfl, ⟨⟨c1, c2, c3⟩, hm⟩, hb⟩; have hl := look_no hk.out hm))
    go_ret3
    have hsz := hb.size
    simp only [World.size_alloc] at hsz
    exact ⟨rfl, (by repeat (first | exact Below.refl _ _ | assumption | refine bstep ?_ (by assumption) | refine Below.drew ?_ | refine Below.alloc ?_ (by first | (simp; done) | (simp; omega) | omega) _ | refine Below.setCell ?_ (by first | (simp; done) | (simp; omega) | omega) _))⟩
@[reducible] def cyC (c : Cy) : Array Value := #[.int .i64 c.kind, .int .u16 c.addr, .int .u8 c.data, .int .i64 c.t]
@[reducible] def cyV (c : Cy) : Value := .agg (cyC c)
def zeroCy : Cy := ⟨0, 0, 0, 0⟩
def zeroRg : Rg := ⟨0, 0, 0, 0, 0, 0, 0, 0, 0, 0, 0, 0, 0, 0, 0, false, false, false, false, 0⟩
def Modes (w : World) : Prop := w.cell? ⟨0, 0, none⟩ = some (.int .i64 0) ∧ w.cell? ⟨0, 1, none⟩ = some (.int .i64 0) ∧ w.cell? ⟨0, 2, none⟩ = some (.int .i64 1) ∧ w.cell? ⟨0, 3, none⟩ = some (.int .i64 2)
structure Tabs (w : World) (B : Nat) : Prop where
  masks : Masks w
  courses : Courses w
  digits : Digits w
  modes : Modes w
  gMasks : 2 < B
  gCourses : 1 < B
  gDigits : 3 < B
  gModes : 0 < B
theorem Tabs.keep {w w' : World} {B : Nat} (h : Tabs w B) (k : ∀ b, b < B → w'.heap[b]? = w.heap[b]?) : Tabs w' B := by
  have c : ∀ g i V, g < B → w.cell? ⟨g, i, none⟩ = some V → w'.cell? ⟨g, i, none⟩ = some V := fun g i V hg hc => (World.cell?_of_block (k g hg)).trans hc
  obtain ⟨m, cs, d, mo, g1, g2, g3, g4⟩ := h
  refine ⟨?_, ?_, ?_, ?_, g1, g2, g3, g4⟩
  · unfold Masks at m ⊢; simp only [c _ _ _ g1 m.1, c _ _ _ g1 m.2.1, c _ _ _ g1 m.2.2.1, c _ _ _ g1 m.2.2.2, and_self]
  · unfold Courses at cs ⊢; simp only [c _ _ _ g2 cs.1, c _ _ _ g2 cs.2.1, c _ _ _ g2 cs.2.2.1, c _ _ _ g2 cs.2.2.2.1, c _ _ _ g2 cs.2.2.2.2.1, c _ _ _ g2 cs.2.2.2.2.2, and_self]
  · unfold Digits at d ⊢; simp only [c _ _ _ g3 d.1, c _ _ _ g3 d.2.1, c _ _ _ g3 d.2.2.1, c _ _ _ g3 d.2.2.2.1, c _ _ _ g3 d.2.2.2.2.1, c _ _ _ g3 d.2.2.2.2.2.1, c _ _ _ g3 d.2.2.2.2.2.2.1, c _ _ _ g3 d.2.2.2.2.2.2.2, and_self]
  · unfold Modes at mo ⊢; simp only [c _ _ _ g4 mo.1, c _ _ _ g4 mo.2.1, c _ _ _ g4 mo.2.2.1, c _ _ _ g4 mo.2.2.2, and_self]
theorem Besides.drew {A S : Nat} {a w : World} (h : Besides A S a w) : Besides A S a w.drew := ⟨h.os, h.tape, h.output, h.size, h.block⟩
theorem Besides.setCells {A S : Nat} {a : World} {b : Nat} (hb : b = A ∨ b = S ∨ a.heap.size ≤ b) : ∀ (vs : List Value) (o : Nat) {w : World}, Besides A S a w → Besides A S a (w.setCells b o vs)
  | [], _, _, h => h
  | v :: r, o, _, h => Besides.setCells hb r (o + 1) (h.setCell (p := ⟨b, o, none⟩) hb v)
theorem Row.drew {w : World} {g : Nat} {t : TypeId} {cs : Array Value} (h : Row w g t cs) : Row w.drew g t cs := h
theorem BytesIn.drew {w : World} {B : Nat} {A : Option Addr} {xs : List Int} (h : BytesIn w B A xs) : BytesIn w.drew B A xs := h
@[reducible] def mC (s : Ms) (A : Option Addr) (n cap : Nat) : Array Value := #[.int .u16 s.r.af, .int .u16 s.r.bc, .int .u16 s.r.de, .int .u16 s.r.hl, .int .u16 s.r.af2, .int .u16 s.r.bc2, .int .u16 s.r.de2, .int .u16 s.r.hl2, .int .u16 s.r.ix, .int .u16 s.r.iy, .int .u16 s.r.sp, .int .u16 s.r.pc, .int .u16 s.r.wz, .int .u8 s.r.i, .int .u8 s.r.r, .bool s.r.iff1, .bool s.r.iff2, .bool s.r.halted, .bool s.r.late, .int .i64 s.r.mode, .slice A n cap, .int .i64 s.plane, .int .i64 s.x, .int .i64 s.y, .int .i64 s.z, .int .i64 s.p, .int .i64 s.q, .int .u16 s.spot, .bool s.near]
structure AtN (w : World) (p B : Nat) (s : Ms) (xs : List Int) : Prop where
  row : ∃ A cap, xs.length ≤ cap ∧ Row w p 46 (mC s A xs.length cap) ∧ BytesIn w B A xs
  low : B ≤ p
  bytes : Bytes8 xs
  ms : MsB s
  tabs : Tabs w B
theorem AtN.lt {w : World} {p B : Nat} {s : Ms} {xs : List Int} (h : AtN w p B s xs) : p < w.heap.size := by
  obtain ⟨A, cap, hc, hr, hb⟩ := h.row
  exact hr.lt
theorem AtN.below {w w' : World} {p B : Nat} {s : Ms} {xs : List Int} (h : AtN w p B s xs) (k : Below w.heap.size w w') : AtN w' p B s xs := by
  have hp := h.lt
  obtain ⟨⟨A, cap, hc, hr, hb⟩, hl, h8, hm, ht⟩ := h
  exact ⟨⟨A, cap, hc, hr.below k hp, hb.keep fun b hlt => k.block b (by omega)⟩, hl, h8, hm, ht.keep fun b hlt => k.block b (by omega)⟩
theorem AtN.drew {w : World} {p B : Nat} {s : Ms} {xs : List Int} (h : AtN w p B s xs) : AtN w.drew p B s xs := by
  obtain ⟨⟨A, cap, hc, hr, hb⟩, hl, h8, hm, ht⟩ := h
  exact ⟨⟨A, cap, hc, hr, hb⟩, hl, h8, hm, ht.keep fun _ _ => rfl⟩
theorem AtN.cell {w : World} {p B : Nat} {s : Ms} {xs : List Int} (h : AtN w p B s xs) (i : Nat) (V : Value) (hV : ∀ A n cap, (mC s A n cap)[i]? = some V) : w.cell? ⟨p, i, none⟩ = some V := by
  obtain ⟨A, cap, hc, hr, hb⟩ := h.row
  rw [hr.cell i]
  exact hV ..
theorem AtN.frozen {w : World} {p B : Nat} {s : Ms} {xs : List Int} (h : AtN w p B s xs) (i : Nat) : w.frozen? ⟨p, i, none⟩ = false := by
  obtain ⟨A, cap, hc, hr, hb⟩ := h.row
  exact hr.frozen i
theorem AtN.regs {w : World} {p B : Nat} {s : Ms} {xs : List Int} (h : AtN w p B s xs) : w.rangeAt p 0 (regsC s.r).toList := by
  obtain ⟨A, cap, hc, hr, hb⟩ := h.row
  intro j v hv
  rw [Nat.zero_add, hr.cell j]
  have hj : j < 20 := (List.getElem?_eq_some_iff.1 hv).1
  revert hv
  match j, hj with

  | 0, _ => exact id
  | 1, _ => exact id
  | 2, _ => exact id
  | 3, _ => exact id
  | 4, _ => exact id
  | 5, _ => exact id
  | 6, _ => exact id
  | 7, _ => exact id
  | 8, _ => exact id
  | 9, _ => exact id
  | 10, _ => exact id
  | 11, _ => exact id
  | 12, _ => exact id
  | 13, _ => exact id
  | 14, _ => exact id
  | 15, _ => exact id
  | 16, _ => exact id
  | 17, _ => exact id
  | 18, _ => exact id
  | 19, _ => exact id
  | n + 20, h => omega
theorem AtN.set {w : World} {p B : Nat} {s : Ms} {xs : List Int} (h : AtN w p B s xs) (i : Nat) (v : Value) (s' : Ms) (hs : ∀ A n cap, (mC s A n cap).setIfInBounds i v = mC s' A n cap) (hb : MsB s') : AtN (w.setCell ⟨p, i, none⟩ v) p B s' xs := by
  have hp := h.lt
  obtain ⟨⟨A, cap, hc, hr, hby⟩, hl, h8, hm, ht⟩ := h
  have k : ∀ b, b < B → (w.setCell ⟨p, i, none⟩ v).heap[b]? = w.heap[b]? := fun b hlt => Below.heap_setCell w _ v b (by show b ≠ p; omega)
  refine ⟨⟨A, cap, hc, ?_, hby.keep k⟩, hl, h8, hb, ht.keep k⟩
  have := hr.set i v
  rwa [hs] at this
theorem heap_setCells (b : Nat) (c : Nat) (hb : c ≠ b) : ∀ (vs : List Value) (o : Nat) (w : World), (w.setCells b o vs).heap[c]? = w.heap[c]?
  | [], _, _ => rfl
  | v :: r, o, w => (heap_setCells b c hb r (o + 1) _).trans (Below.heap_setCell w ⟨b, o, none⟩ v c hb)
structure NowN (w0 : World) (p B : Nat) (s : Ms) (xs : List Int) (w : World) : Prop where
  at_ : AtN w p B s xs
  bes : Besides p p w0 w
theorem NowN.begin {w : World} {p B : Nat} {s : Ms} {xs : List Int} (h : AtN w p B s xs) : NowN w p B s xs w := ⟨h, .refl ..⟩
theorem NowN.below {w0 w w' : World} {p B : Nat} {s : Ms} {xs : List Int} (h : NowN w0 p B s xs w) (k : Below w.heap.size w w') : NowN w0 p B s xs w' := ⟨h.at_.below k, h.bes.trans (.of_below k)⟩
theorem NowN.drew {w0 w : World} {p B : Nat} {s : Ms} {xs : List Int} (h : NowN w0 p B s xs w) : NowN w0 p B s xs w.drew := ⟨h.at_.drew, h.bes.drew⟩
theorem NowN.set {w0 w : World} {p B : Nat} {s : Ms} {xs : List Int} (h : NowN w0 p B s xs w) (i : Nat) (v : Value) (s' : Ms) (hs : ∀ A n cap, (mC s A n cap).setIfInBounds i v = mC s' A n cap) (hb : MsB s') : NowN w0 p B s' xs (w.setCell ⟨p, i, none⟩ v) :=
  ⟨h.at_.set i v s' hs hb, h.bes.setCell (.inl rfl) v⟩
def kB : IntKind → Int → Prop
  | .u8, v => B8 v
  | .u16, v => Wd16 v
  | _, _ => True
def OutI (w0 : World) (p B : Nat) (k : IntKind) : Except Cy ((Int × Ms) × List Int) → Ending → World → Prop
  | .ok ((v, s), ys), e, w' => e = .returned (.int k v) ∧ kB k v ∧ NowN w0 p B s ys w'
  | .error c, e, w' => e = .panicked [{ v := .iface 28 (cyV c), recovered := false }] ∧ Besides p p w0 w'
def OutV (w0 : World) (p B : Nat) : Except Cy (Ms × List Int) → Ending → World → Prop
  | .ok (s, ys), e, w' => e = .returned (.tuple #[]) ∧ NowN w0 p B s ys w'
  | .error c, e, w' => e = .panicked [{ v := .iface 28 (cyV c), recovered := false }] ∧ Besides p p w0 w'
theorem OutI.ok {w0 w : World} {p B : Nat} {k : IntKind} {X : Except Cy ((Int × Ms) × List Int)} {v : Int} {s : Ms} {ys : List Int} (h : X = .ok ((v, s), ys)) (hk : kB k v) (hn : NowN w0 p B s ys w) : OutI w0 p B k X (.returned (.int k v)) w := by
  subst h
  exact ⟨rfl, hk, hn⟩
theorem OutI.err {w0 w : World} {p B : Nat} {k : IntKind} {X : Except Cy ((Int × Ms) × List Int)} {c : Cy} (h : X = .error c) (hb : Besides p p w0 w) : OutI w0 p B k X (.panicked [{ v := .iface 28 (cyV c), recovered := false }]) w := by
  subst h
  exact ⟨rfl, hb⟩
theorem OutV.ok {w0 w : World} {p B : Nat} {X : Except Cy (Ms × List Int)} {s : Ms} {ys : List Int} (h : X = .ok (s, ys)) (hn : NowN w0 p B s ys w) : OutV w0 p B X (.returned (.tuple #[])) w := by
  subst h
  exact ⟨rfl, hn⟩
theorem OutV.err {w0 w : World} {p B : Nat} {X : Except Cy (Ms × List Int)} {c : Cy} (h : X = .error c) (hb : Besides p p w0 w) : OutV w0 p B X (.panicked [{ v := .iface 28 (cyV c), recovered := false }]) w := by
  subst h
  exact ⟨rfl, hb⟩
theorem NowN.after {w0 w w' : World} {p B : Nat} {s s' : Ms} {xs xs' : List Int} (h : NowN w0 p B s xs w) (k : NowN w p B s' xs' w') : NowN w0 p B s' xs' w' := ⟨k.at_, h.bes.trans k.bes⟩
section
variable {ops : Array Oper} {Q : Exit → Act → World → Prop} {a : Act} {w w0 : World} {o : Oper} {rest : List Oper} {p B : Nat} {s0 : Ms} {xs0 : List Int}
theorem sCallI {k : IntKind} {X : Except Cy ((Int × Ms) × List Int)} {g : FuncId} {args : Array Value} (hn : NowN w0 p B s0 xs0 w) (hg : o.guard = none) (he : (execOp a.eval o).run Tryz.prog w = .ok (.enter g args) w) (hc : Calls Tryz.prog g args w (OutI w p B k X))
    (hP : ∀ c w', X = .error c → Besides p p w0 w' → Q (.panic [{ v := .iface 28 (cyV c), recovered := false }]) a w')
    (hK : ∀ v s ys w', X = .ok ((v, s), ys) → kB k v → NowN w0 p B s ys w' → WL Tryz.prog ops Q rest (a.put o.dst (.int k v)) w') : WL Tryz.prog ops Q (o :: rest) a w :=
  list_call (wantedN hg) he hc fun e w' ho => by
    rcases X with c | ⟨⟨v, s⟩, ys⟩
    · obtain ⟨rfl, hb⟩ := ho
      exact hP c w' rfl (hn.bes.trans hb)
    · obtain ⟨rfl, hk, hN⟩ := ho
      exact hK v s ys w' rfl hk (hn.after hN)
theorem sCallV {X : Except Cy (Ms × List Int)} {g : FuncId} {args : Array Value} (hn : NowN w0 p B s0 xs0 w) (hg : o.guard = none) (he : (execOp a.eval o).run Tryz.prog w = .ok (.enter g args) w) (hc : Calls Tryz.prog g args w (OutV w p B X))
    (hP : ∀ c w', X = .error c → Besides p p w0 w' → Q (.panic [{ v := .iface 28 (cyV c), recovered := false }]) a w')
    (hK : ∀ s ys w', X = .ok (s, ys) → NowN w0 p B s ys w' → WL Tryz.prog ops Q rest (a.put o.dst (.tuple #[])) w') : WL Tryz.prog ops Q (o :: rest) a w :=
  list_call (wantedN hg) he hc fun e w' ho => by
    rcases X with c | ⟨s, ys⟩
    · obtain ⟨rfl, hb⟩ := ho
      exact hP c w' rfl (hn.bes.trans hb)
    · obtain ⟨rfl, hN⟩ := ho
      exact hK s ys w' rfl (hn.after hN)
end
def Ms.u_af (s : Ms) (v : Int) : Ms := { s with r := { s.r with af := v } }
theorem MsB.u_af {s : Ms} (h : MsB s) {v : Int} (hv : Wd16 v) : MsB (s.u_af v) := ⟨⟨hv, h.r.bc, h.r.de, h.r.hl, h.r.af2, h.r.bc2, h.r.de2, h.r.hl2, h.r.ix, h.r.iy, h.r.sp, h.r.pc, h.r.wz, h.r.i, h.r.r, h.r.mode⟩, h.plane, h.x, h.y, h.z, h.p, h.q, h.spot⟩
def Ms.u_bc (s : Ms) (v : Int) : Ms := { s with r := { s.r with bc := v } }
theorem MsB.u_bc {s : Ms} (h : MsB s) {v : Int} (hv : Wd16 v) : MsB (s.u_bc v) := ⟨⟨h.r.af, hv, h.r.de, h.r.hl, h.r.af2, h.r.bc2, h.r.de2, h.r.hl2, h.r.ix, h.r.iy, h.r.sp, h.r.pc, h.r.wz, h.r.i, h.r.r, h.r.mode⟩, h.plane, h.x, h.y, h.z, h.p, h.q, h.spot⟩
def Ms.u_de (s : Ms) (v : Int) : Ms := { s with r := { s.r with de := v } }
theorem mu_de (s : Ms) (v : Int) (A : Option Addr) (n cap : Nat) : (mC s A n cap).setIfInBounds 2 (.int .u16 v) = mC (s.u_de v) A n cap := rfl
theorem MsB.u_de {s : Ms} (h : MsB s) {v : Int} (hv : Wd16 v) : MsB (s.u_de v) := ⟨⟨h.r.af, h.r.bc, hv, h.r.hl, h.r.af2, h.r.bc2, h.r.de2, h.r.hl2, h.r.ix, h.r.iy, h.r.sp, h.r.pc, h.r.wz, h.r.i, h.r.r, h.r.mode⟩, h.plane, h.x, h.y, h.z, h.p, h.q, h.spot⟩
def Ms.u_hl (s : Ms) (v : Int) : Ms := { s with r := { s.r with hl := v } }
theorem mu_hl (s : Ms) (v : Int) (A : Option Addr) (n cap : Nat) : (mC s A n cap).setIfInBounds 3 (.int .u16 v) = mC (s.u_hl v) A n cap := rfl
theorem MsB.u_hl {s : Ms} (h : MsB s) {v : Int} (hv : Wd16 v) : MsB (s.u_hl v) := ⟨⟨h.r.af, h.r.bc, h.r.de, hv, h.r.af2, h.r.bc2, h.r.de2, h.r.hl2, h.r.ix, h.r.iy, h.r.sp, h.r.pc, h.r.wz, h.r.i, h.r.r, h.r.mode⟩, h.plane, h.x, h.y, h.z, h.p, h.q, h.spot⟩
def Ms.u_sp (s : Ms) (v : Int) : Ms := { s with r := { s.r with sp := v } }
theorem MsB.u_sp {s : Ms} (h : MsB s) {v : Int} (hv : Wd16 v) : MsB (s.u_sp v) := ⟨⟨h.r.af, h.r.bc, h.r.de, h.r.hl, h.r.af2, h.r.bc2, h.r.de2, h.r.hl2, h.r.ix, h.r.iy, hv, h.r.pc, h.r.wz, h.r.i, h.r.r, h.r.mode⟩, h.plane, h.x, h.y, h.z, h.p, h.q, h.spot⟩
def Ms.u_pc (s : Ms) (v : Int) : Ms := { s with r := { s.r with pc := v } }
theorem MsB.u_pc {s : Ms} (h : MsB s) {v : Int} (hv : Wd16 v) : MsB (s.u_pc v) := ⟨⟨h.r.af, h.r.bc, h.r.de, h.r.hl, h.r.af2, h.r.bc2, h.r.de2, h.r.hl2, h.r.ix, h.r.iy, h.r.sp, hv, h.r.wz, h.r.i, h.r.r, h.r.mode⟩, h.plane, h.x, h.y, h.z, h.p, h.q, h.spot⟩
def Ms.u_wz (s : Ms) (v : Int) : Ms := { s with r := { s.r with wz := v } }
theorem mu_wz (s : Ms) (v : Int) (A : Option Addr) (n cap : Nat) : (mC s A n cap).setIfInBounds 12 (.int .u16 v) = mC (s.u_wz v) A n cap := rfl
theorem MsB.u_wz {s : Ms} (h : MsB s) {v : Int} (hv : Wd16 v) : MsB (s.u_wz v) := ⟨⟨h.r.af, h.r.bc, h.r.de, h.r.hl, h.r.af2, h.r.bc2, h.r.de2, h.r.hl2, h.r.ix, h.r.iy, h.r.sp, h.r.pc, hv, h.r.i, h.r.r, h.r.mode⟩, h.plane, h.x, h.y, h.z, h.p, h.q, h.spot⟩
def Ms.u_i (s : Ms) (v : Int) : Ms := { s with r := { s.r with i := v } }
theorem MsB.u_i {s : Ms} (h : MsB s) {v : Int} (hv : B8 v) : MsB (s.u_i v) := ⟨⟨h.r.af, h.r.bc, h.r.de, h.r.hl, h.r.af2, h.r.bc2, h.r.de2, h.r.hl2, h.r.ix, h.r.iy, h.r.sp, h.r.pc, h.r.wz, hv, h.r.r, h.r.mode⟩, h.plane, h.x, h.y, h.z, h.p, h.q, h.spot⟩
def Ms.u_r (s : Ms) (v : Int) : Ms := { s with r := { s.r with r := v } }
theorem MsB.u_r {s : Ms} (h : MsB s) {v : Int} (hv : B8 v) : MsB (s.u_r v) := ⟨⟨h.r.af, h.r.bc, h.r.de, h.r.hl, h.r.af2, h.r.bc2, h.r.de2, h.r.hl2, h.r.ix, h.r.iy, h.r.sp, h.r.pc, h.r.wz, h.r.i, hv, h.r.mode⟩, h.plane, h.x, h.y, h.z, h.p, h.q, h.spot⟩
def Ms.u_iff1 (s : Ms) (v : Bool) : Ms := { s with r := { s.r with iff1 := v } }
theorem MsB.u_iff1 {s : Ms} (h : MsB s) {v : Bool} : MsB (s.u_iff1 v) := ⟨⟨h.r.af, h.r.bc, h.r.de, h.r.hl, h.r.af2, h.r.bc2, h.r.de2, h.r.hl2, h.r.ix, h.r.iy, h.r.sp, h.r.pc, h.r.wz, h.r.i, h.r.r, h.r.mode⟩, h.plane, h.x, h.y, h.z, h.p, h.q, h.spot⟩
def Ms.u_iff2 (s : Ms) (v : Bool) : Ms := { s with r := { s.r with iff2 := v } }
theorem MsB.u_iff2 {s : Ms} (h : MsB s) {v : Bool} : MsB (s.u_iff2 v) := ⟨⟨h.r.af, h.r.bc, h.r.de, h.r.hl, h.r.af2, h.r.bc2, h.r.de2, h.r.hl2, h.r.ix, h.r.iy, h.r.sp, h.r.pc, h.r.wz, h.r.i, h.r.r, h.r.mode⟩, h.plane, h.x, h.y, h.z, h.p, h.q, h.spot⟩
def Ms.u_halted (s : Ms) (v : Bool) : Ms := { s with r := { s.r with halted := v } }
theorem MsB.u_halted {s : Ms} (h : MsB s) {v : Bool} : MsB (s.u_halted v) := ⟨⟨h.r.af, h.r.bc, h.r.de, h.r.hl, h.r.af2, h.r.bc2, h.r.de2, h.r.hl2, h.r.ix, h.r.iy, h.r.sp, h.r.pc, h.r.wz, h.r.i, h.r.r, h.r.mode⟩, h.plane, h.x, h.y, h.z, h.p, h.q, h.spot⟩
def Ms.u_late (s : Ms) (v : Bool) : Ms := { s with r := { s.r with late := v } }
theorem mu_late (s : Ms) (v : Bool) (A : Option Addr) (n cap : Nat) : (mC s A n cap).setIfInBounds 18 (.bool v) = mC (s.u_late v) A n cap := rfl
theorem MsB.u_late {s : Ms} (h : MsB s) {v : Bool} : MsB (s.u_late v) := ⟨⟨h.r.af, h.r.bc, h.r.de, h.r.hl, h.r.af2, h.r.bc2, h.r.de2, h.r.hl2, h.r.ix, h.r.iy, h.r.sp, h.r.pc, h.r.wz, h.r.i, h.r.r, h.r.mode⟩, h.plane, h.x, h.y, h.z, h.p, h.q, h.spot⟩
def Ms.u_mode (s : Ms) (v : Int) : Ms := { s with r := { s.r with mode := v } }
theorem mu_mode (s : Ms) (v : Int) (A : Option Addr) (n cap : Nat) : (mC s A n cap).setIfInBounds 19 (.int .i64 v) = mC (s.u_mode v) A n cap := rfl
theorem MsB.u_mode {s : Ms} (h : MsB s) {v : Int} (hv : -9223372036854775808 ≤ v ∧ v ≤ 9223372036854775807) : MsB (s.u_mode v) := ⟨⟨h.r.af, h.r.bc, h.r.de, h.r.hl, h.r.af2, h.r.bc2, h.r.de2, h.r.hl2, h.r.ix, h.r.iy, h.r.sp, h.r.pc, h.r.wz, h.r.i, h.r.r, hv⟩, h.plane, h.x, h.y, h.z, h.p, h.q, h.spot⟩
def Ms.u_rg (s : Ms) (g : Rg) : Ms := { s with r := g }
theorem MsB.u_rg {s : Ms} (h : MsB s) {g : Rg} (hg : RgB g) : MsB (s.u_rg g) := ⟨hg, h.plane, h.x, h.y, h.z, h.p, h.q, h.spot⟩
def Ms.u_plane (s : Ms) (v : Int) : Ms := { s with plane := v }
theorem mu_plane (s : Ms) (v : Int) (A : Option Addr) (n cap : Nat) : (mC s A n cap).setIfInBounds 21 (.int .i64 v) = mC (s.u_plane v) A n cap := rfl
theorem MsB.u_plane {s : Ms} (h : MsB s) {v : Int} (hv : v = 0 ∨ v = 3 ∨ v = 4) : MsB (s.u_plane v) := ⟨h.r, hv, h.x, h.y, h.z, h.p, h.q, h.spot⟩
def Ms.u_x (s : Ms) (v : Int) : Ms := { s with x := v }
theorem MsB.u_x {s : Ms} (h : MsB s) {v : Int} (hv : 0 ≤ v ∧ v ≤ 3) : MsB (s.u_x v) := ⟨h.r, h.plane, hv, h.y, h.z, h.p, h.q, h.spot⟩
def Ms.u_y (s : Ms) (v : Int) : Ms := { s with y := v }
theorem MsB.u_y {s : Ms} (h : MsB s) {v : Int} (hv : 0 ≤ v ∧ v ≤ 7) : MsB (s.u_y v) := ⟨h.r, h.plane, h.x, hv, h.z, h.p, h.q, h.spot⟩
def Ms.u_z (s : Ms) (v : Int) : Ms := { s with z := v }
theorem MsB.u_z {s : Ms} (h : MsB s) {v : Int} (hv : 0 ≤ v ∧ v ≤ 7) : MsB (s.u_z v) := ⟨h.r, h.plane, h.x, h.y, hv, h.p, h.q, h.spot⟩
def Ms.u_p (s : Ms) (v : Int) : Ms := { s with p := v }
theorem MsB.u_p {s : Ms} (h : MsB s) {v : Int} (hv : 0 ≤ v ∧ v ≤ 3) : MsB (s.u_p v) := ⟨h.r, h.plane, h.x, h.y, h.z, hv, h.q, h.spot⟩
def Ms.u_q (s : Ms) (v : Int) : Ms := { s with q := v }
theorem MsB.u_q {s : Ms} (h : MsB s) {v : Int} (hv : 0 ≤ v ∧ v ≤ 1) : MsB (s.u_q v) := ⟨h.r, h.plane, h.x, h.y, h.z, h.p, hv, h.spot⟩
def Ms.u_spot (s : Ms) (v : Int) : Ms := { s with spot := v }
theorem mu_spot (s : Ms) (v : Int) (A : Option Addr) (n cap : Nat) : (mC s A n cap).setIfInBounds 27 (.int .u16 v) = mC (s.u_spot v) A n cap := rfl
theorem MsB.u_spot {s : Ms} (h : MsB s) {v : Int} (hv : Wd16 v) : MsB (s.u_spot v) := ⟨h.r, h.plane, h.x, h.y, h.z, h.p, h.q, hv⟩
def Ms.u_near (s : Ms) (v : Bool) : Ms := { s with near := v }
theorem MsB.u_near {s : Ms} (h : MsB s) {v : Bool} : MsB (s.u_near v) := ⟨h.r, h.plane, h.x, h.y, h.z, h.p, h.q, h.spot⟩
theorem fR0 (b : Nat) (w : World) : (Instr.fieldAt 24 (.pointer (some ⟨b, 0, none⟩)) 0).run Tryz.prog w = .ok (.pointer (some ⟨b, 0, none⟩)) w := by simp [go_sem]
theorem fR3 (b : Nat) (w : World) : (Instr.fieldAt 24 (.pointer (some ⟨b, 0, none⟩)) 3).run Tryz.prog w = .ok (.pointer (some ⟨b, 3, none⟩)) w := by simp [go_sem]
theorem fR12 (b : Nat) (w : World) : (Instr.fieldAt 24 (.pointer (some ⟨b, 0, none⟩)) 12).run Tryz.prog w = .ok (.pointer (some ⟨b, 12, none⟩)) w := by simp [go_sem]
theorem fR17 (b : Nat) (w : World) : (Instr.fieldAt 24 (.pointer (some ⟨b, 0, none⟩)) 17).run Tryz.prog w = .ok (.pointer (some ⟨b, 17, none⟩)) w := by simp [go_sem]
theorem fR18 (b : Nat) (w : World) : (Instr.fieldAt 24 (.pointer (some ⟨b, 0, none⟩)) 18).run Tryz.prog w = .ok (.pointer (some ⟨b, 18, none⟩)) w := by simp [go_sem]
theorem fR19 (b : Nat) (w : World) : (Instr.fieldAt 24 (.pointer (some ⟨b, 0, none⟩)) 19).run Tryz.prog w = .ok (.pointer (some ⟨b, 19, none⟩)) w := by simp [go_sem]
theorem fM0 (b : Nat) (w : World) : (Instr.fieldAt 46 (.pointer (some ⟨b, 0, none⟩)) 0).run Tryz.prog w = .ok (.pointer (some ⟨b, 0, none⟩)) w := by simp [go_sem]
theorem fM1 (b : Nat) (w : World) : (Instr.fieldAt 46 (.pointer (some ⟨b, 0, none⟩)) 1).run Tryz.prog w = .ok (.pointer (some ⟨b, 20, none⟩)) w := by simp [go_sem]
theorem fM2 (b : Nat) (w : World) : (Instr.fieldAt 46 (.pointer (some ⟨b, 0, none⟩)) 2).run Tryz.prog w = .ok (.pointer (some ⟨b, 21, none⟩)) w := by simp [go_sem]
theorem fM3 (b : Nat) (w : World) : (Instr.fieldAt 46 (.pointer (some ⟨b, 0, none⟩)) 3).run Tryz.prog w = .ok (.pointer (some ⟨b, 22, none⟩)) w := by simp [go_sem]
theorem fM4 (b : Nat) (w : World) : (Instr.fieldAt 46 (.pointer (some ⟨b, 0, none⟩)) 4).run Tryz.prog w = .ok (.pointer (some ⟨b, 23, none⟩)) w := by simp [go_sem]
theorem fM5 (b : Nat) (w : World) : (Instr.fieldAt 46 (.pointer (some ⟨b, 0, none⟩)) 5).run Tryz.prog w = .ok (.pointer (some ⟨b, 24, none⟩)) w := by simp [go_sem]
theorem fM7 (b : Nat) (w : World) : (Instr.fieldAt 46 (.pointer (some ⟨b, 0, none⟩)) 7).run Tryz.prog w = .ok (.pointer (some ⟨b, 26, none⟩)) w := by simp [go_sem]
theorem fM8 (b : Nat) (w : World) : (Instr.fieldAt 46 (.pointer (some ⟨b, 0, none⟩)) 8).run Tryz.prog w = .ok (.pointer (some ⟨b, 27, none⟩)) w := by simp [go_sem]
section
theorem fbc_any (b : Nat) (w : World) : Calls Tryz.prog 297 #[.pointer (some ⟨b, 0, none⟩)] w fun e w' => e = .returned (.pointer (some ⟨b, 1, none⟩)) ∧ w = w' := by
  go_enter Tryz.func297, Tryz.ntmps297
  go_wp2
  go_ret
  exact ⟨rfl, rfl⟩
theorem fde_any (b : Nat) (w : World) : Calls Tryz.prog 298 #[.pointer (some ⟨b, 0, none⟩)] w fun e w' => e = .returned (.pointer (some ⟨b, 2, none⟩)) ∧ w = w' := by
  go_enter Tryz.func298, Tryz.ntmps298
  go_wp2
  go_ret
  exact ⟨rfl, rfl⟩
theorem fhl_any (b : Nat) (w : World) : Calls Tryz.prog 308 #[.pointer (some ⟨b, 0, none⟩)] w fun e w' => e = .returned (.pointer (some ⟨b, 3, none⟩)) ∧ w = w' := by
  go_enter Tryz.func308, Tryz.ntmps308
  go_wp2
  go_ret
  exact ⟨rfl, rfl⟩
theorem fix_any (b : Nat) (w : World) : Calls Tryz.prog 306 #[.pointer (some ⟨b, 0, none⟩)] w fun e w' => e = .returned (.pointer (some ⟨b, 8, none⟩)) ∧ w = w' := by
  go_enter Tryz.func306, Tryz.ntmps306
  go_wp2
  go_ret
  exact ⟨rfl, rfl⟩
theorem fiy_any (b : Nat) (w : World) : Calls Tryz.prog 307 #[.pointer (some ⟨b, 0, none⟩)] w fun e w' => e = .returned (.pointer (some ⟨b, 9, none⟩)) ∧ w = w' := by
  go_enter Tryz.func307, Tryz.ntmps307
  go_wp2
  go_ret
  exact ⟨rfl, rfl⟩
theorem fsp_any (b : Nat) (w : World) : Calls Tryz.prog 300 #[.pointer (some ⟨b, 0, none⟩)] w fun e w' => e = .returned (.pointer (some ⟨b, 10, none⟩)) ∧ w = w' := by
  go_enter Tryz.func300, Tryz.ntmps300
  go_wp2
  go_ret
  exact ⟨rfl, rfl⟩
theorem faf_any (b : Nat) (w : World) : Calls Tryz.prog 301 #[.pointer (some ⟨b, 0, none⟩)] w fun e w' => e = .returned (.pointer (some ⟨b, 0, none⟩)) ∧ w = w' := by
  go_enter Tryz.func301, Tryz.ntmps301
  go_wp2
  go_ret
  exact ⟨rfl, rfl⟩
abbrev vBC : Value := .func (.func 297) #[] #[]
abbrev vDE : Value := .func (.func 298) #[] #[]
abbrev vSP : Value := .func (.func 300) #[] #[]
abbrev vAF : Value := .func (.func 301) #[] #[]
def thirdF (plane : Int) : FuncId := if plane = 3 then 306 else if plane = 4 then 307 else 308
abbrev thirdV (plane : Int) : Value := .func (.func (thirdF plane)) #[] #[]
theorem third_any (p : Int) (w : World) : Calls Tryz.prog 299 #[.int .i64 p] w fun e w' => e = .returned (thirdV p) ∧ w = w' := by
  unfold thirdV thirdF
  by_cases h3 : p = 3
  · subst h3
    go_enter Tryz.func299, Tryz.ntmps299
    go_wp2
    go_ret
    exact ⟨rfl, rfl⟩
  by_cases h4 : p = 4
  · subst h4
    go_enter Tryz.func299, Tryz.ntmps299
    go_wp2
    go_ret
    exact ⟨rfl, rfl⟩
  rw [if_neg h3, if_neg h4]
  have e3 : (p == 3) = false := by simpa using h3
  have e4 : (p == 4) = false := by simpa using h4
  go_enter Tryz.func299, Tryz.ntmps299
  go_wp2
  go_ret
  exact ⟨rfl, rfl⟩
theorem inp_0 (v0 : Value) (W : World) (b : Nat) (hb : b = W.heap.size) :
    (Instr.mapUpdate 151 (.map (some b)) (.int .i64 0) v0).run Tryz.prog (W.alloc (.map #[] 0)) = .ok () (W.alloc (.map #[⟨.int .i64 0, v0, 0⟩] 1)) :=
  run_insert_top W _ _ _ Tryz.underlying151 Tryz.underlying3 _ _ _ _ b hb rfl
theorem inp_1 (v0 v1 : Value) (W : World) (b : Nat) (hb : b = W.heap.size) :
    (Instr.mapUpdate 151 (.map (some b)) (.int .i64 1) v1).run Tryz.prog (W.alloc (.map #[⟨.int .i64 0, v0, 0⟩] 1)) = .ok () (W.alloc (.map #[⟨.int .i64 0, v0, 0⟩, ⟨.int .i64 1, v1, 1⟩] 2)) :=
  run_insert_top W _ _ _ Tryz.underlying151 Tryz.underlying3 _ _ _ _ b hb rfl
theorem inp_2 (v0 v1 v2 : Value) (W : World) (b : Nat) (hb : b = W.heap.size) :
    (Instr.mapUpdate 151 (.map (some b)) (.int .i64 2) v2).run Tryz.prog (W.alloc (.map #[⟨.int .i64 0, v0, 0⟩, ⟨.int .i64 1, v1, 1⟩] 2)) = .ok () (W.alloc (.map #[⟨.int .i64 0, v0, 0⟩, ⟨.int .i64 1, v1, 1⟩, ⟨.int .i64 2, v2, 2⟩] 3)) :=
  run_insert_top W _ _ _ Tryz.underlying151 Tryz.underlying3 _ _ _ _ b hb rfl
theorem inp_3 (v0 v1 v2 v3 : Value) (W : World) (b : Nat) (hb : b = W.heap.size) :
    (Instr.mapUpdate 151 (.map (some b)) (.int .i64 3) v3).run Tryz.prog (W.alloc (.map #[⟨.int .i64 0, v0, 0⟩, ⟨.int .i64 1, v1, 1⟩, ⟨.int .i64 2, v2, 2⟩] 3)) = .ok () (W.alloc (.map #[⟨.int .i64 0, v0, 0⟩, ⟨.int .i64 1, v1, 1⟩, ⟨.int .i64 2, v2, 2⟩, ⟨.int .i64 3, v3, 3⟩] 4)) :=
  run_insert_top W _ _ _ Tryz.underlying151 Tryz.underlying3 _ _ _ _ b hb rfl
attribute [local go_sem] inp_0 inp_1 inp_2 inp_3
def pairEnts (p : Int) : Array MapEntry := #[⟨.int .i64 0, vBC, 0⟩, ⟨.int .i64 1, vDE, 1⟩, ⟨.int .i64 2, thirdV p, 2⟩, ⟨.int .i64 3, vSP, 3⟩]
set_option maxHeartbeats 2000000 in
theorem pairs_any (p : Int) (w : World) : Calls Tryz.prog 277 #[.int .i64 p] w fun e w' => e = .returned (.map (some w.heap.size)) ∧ w' = w.alloc (.map (pairEnts p) 4) := by
  have hmm := @run_makeMap Tryz.prog
  have ht := Lib.hid (fun w => third_any p w)
  go_enter Tryz.func277, Tryz.ntmps277
  go_wp2_with (first
    | (go_at_call 299; refine (ht.out _).mono ?_; rintro e w' ⟨rfl, rfl⟩))
  go_ret
  exact ⟨rfl, rfl⟩
theorem inh_0 (v0 : Value) (W : World) (b : Nat) (hb : b = W.heap.size) :
    (Instr.mapUpdate 161 (.map (some b)) (.int .i64 0) v0).run Tryz.prog (W.alloc (.map #[] 0)) = .ok () (W.alloc (.map #[⟨.int .i64 0, v0, 0⟩] 1)) :=
  run_insert_top W _ _ _ Tryz.underlying161 Tryz.underlying3 _ _ _ _ b hb rfl
theorem inh_1 (v0 v1 : Value) (W : World) (b : Nat) (hb : b = W.heap.size) :
    (Instr.mapUpdate 161 (.map (some b)) (.int .i64 1) v1).run Tryz.prog (W.alloc (.map #[⟨.int .i64 0, v0, 0⟩] 1)) = .ok () (W.alloc (.map #[⟨.int .i64 0, v0, 0⟩, ⟨.int .i64 1, v1, 1⟩] 2)) :=
  run_insert_top W _ _ _ Tryz.underlying161 Tryz.underlying3 _ _ _ _ b hb rfl
theorem inh_2 (v0 v1 v2 : Value) (W : World) (b : Nat) (hb : b = W.heap.size) :
    (Instr.mapUpdate 161 (.map (some b)) (.int .i64 2) v2).run Tryz.prog (W.alloc (.map #[⟨.int .i64 0, v0, 0⟩, ⟨.int .i64 1, v1, 1⟩] 2)) = .ok () (W.alloc (.map #[⟨.int .i64 0, v0, 0⟩, ⟨.int .i64 1, v1, 1⟩, ⟨.int .i64 2, v2, 2⟩] 3)) :=
  run_insert_top W _ _ _ Tryz.underlying161 Tryz.underlying3 _ _ _ _ b hb rfl
theorem inh_3 (v0 v1 v2 v3 : Value) (W : World) (b : Nat) (hb : b = W.heap.size) :
    (Instr.mapUpdate 161 (.map (some b)) (.int .i64 3) v3).run Tryz.prog (W.alloc (.map #[⟨.int .i64 0, v0, 0⟩, ⟨.int .i64 1, v1, 1⟩, ⟨.int .i64 2, v2, 2⟩] 3)) = .ok () (W.alloc (.map #[⟨.int .i64 0, v0, 0⟩, ⟨.int .i64 1, v1, 1⟩, ⟨.int .i64 2, v2, 2⟩, ⟨.int .i64 3, v3, 3⟩] 4)) :=
  run_insert_top W _ _ _ Tryz.underlying161 Tryz.underlying3 _ _ _ _ b hb rfl
theorem inh_4 (v0 v1 v2 v3 v4 : Value) (W : World) (b : Nat) (hb : b = W.heap.size) :
    (Instr.mapUpdate 161 (.map (some b)) (.int .i64 4) v4).run Tryz.prog (W.alloc (.map #[⟨.int .i64 0, v0, 0⟩, ⟨.int .i64 1, v1, 1⟩, ⟨.int .i64 2, v2, 2⟩, ⟨.int .i64 3, v3, 3⟩] 4)) = .ok () (W.alloc (.map #[⟨.int .i64 0, v0, 0⟩, ⟨.int .i64 1, v1, 1⟩, ⟨.int .i64 2, v2, 2⟩, ⟨.int .i64 3, v3, 3⟩, ⟨.int .i64 4, v4, 4⟩] 5)) :=
  run_insert_top W _ _ _ Tryz.underlying161 Tryz.underlying3 _ _ _ _ b hb rfl
theorem inh_5 (v0 v1 v2 v3 v4 v5 : Value) (W : World) (b : Nat) (hb : b = W.heap.size) :
    (Instr.mapUpdate 161 (.map (some b)) (.int .i64 5) v5).run Tryz.prog (W.alloc (.map #[⟨.int .i64 0, v0, 0⟩, ⟨.int .i64 1, v1, 1⟩, ⟨.int .i64 2, v2, 2⟩, ⟨.int .i64 3, v3, 3⟩, ⟨.int .i64 4, v4, 4⟩] 5)) = .ok () (W.alloc (.map #[⟨.int .i64 0, v0, 0⟩, ⟨.int .i64 1, v1, 1⟩, ⟨.int .i64 2, v2, 2⟩, ⟨.int .i64 3, v3, 3⟩, ⟨.int .i64 4, v4, 4⟩, ⟨.int .i64 5, v5, 5⟩] 6)) :=
  run_insert_top W _ _ _ Tryz.underlying161 Tryz.underlying3 _ _ _ _ b hb rfl
theorem inh_6 (v0 v1 v2 v3 v4 v5 v6 : Value) (W : World) (b : Nat) (hb : b = W.heap.size) :
    (Instr.mapUpdate 161 (.map (some b)) (.int .i64 7) v6).run Tryz.prog (W.alloc (.map #[⟨.int .i64 0, v0, 0⟩, ⟨.int .i64 1, v1, 1⟩, ⟨.int .i64 2, v2, 2⟩, ⟨.int .i64 3, v3, 3⟩, ⟨.int .i64 4, v4, 4⟩, ⟨.int .i64 5, v5, 5⟩] 6)) = .ok () (W.alloc (.map #[⟨.int .i64 0, v0, 0⟩, ⟨.int .i64 1, v1, 1⟩, ⟨.int .i64 2, v2, 2⟩, ⟨.int .i64 3, v3, 3⟩, ⟨.int .i64 4, v4, 4⟩, ⟨.int .i64 5, v5, 5⟩, ⟨.int .i64 7, v6, 6⟩] 7)) :=
  run_insert_top W _ _ _ Tryz.underlying161 Tryz.underlying3 _ _ _ _ b hb rfl
attribute [local go_sem] inh_0 inh_1 inh_2 inh_3 inh_4 inh_5 inh_6
abbrev halfV (v : Value) (high : Bool) : Value := .agg #[v, .bool high]
def halfEnts (p : Int) : Array MapEntry := #[⟨.int .i64 0, halfV vBC true, 0⟩, ⟨.int .i64 1, halfV vBC false, 1⟩, ⟨.int .i64 2, halfV vDE true, 2⟩, ⟨.int .i64 3, halfV vDE false, 3⟩, ⟨.int .i64 4, halfV (thirdV p) true, 4⟩, ⟨.int .i64 5, halfV (thirdV p) false, 5⟩, ⟨.int .i64 7, halfV vAF true, 6⟩]
set_option maxHeartbeats 2000000 in
theorem halves_any (p : Int) (w : World) : Calls Tryz.prog 282 #[.int .i64 p] w fun e w' => e = .returned (.map (some w.heap.size)) ∧ w' = w.alloc (.map (halfEnts p) 7) := by
  have hmm := @run_makeMap Tryz.prog
  have ht := Lib.hid (fun w => third_any p w)
  go_enter Tryz.func282, Tryz.ntmps282
  go_wp2_with (first
    | (go_at_call 299; refine (ht.out _).mono ?_; rintro e w' ⟨rfl, rfl⟩))
  go_ret
  exact ⟨rfl, rfl⟩
theorem lkp_0 {w : World} {M : Nat} {p : Int} (h : w.heap[M]? = some (.map (pairEnts p) 4)) : (Instr.lookup 151 (.map (some M)) (.int .i64 0) true).run Tryz.prog w = .ok (.tuple #[vBC, .bool true]) w :=
  run_look Tryz.underlying151 Tryz.underlying3 h rfl
theorem lkp_1 {w : World} {M : Nat} {p : Int} (h : w.heap[M]? = some (.map (pairEnts p) 4)) : (Instr.lookup 151 (.map (some M)) (.int .i64 1) true).run Tryz.prog w = .ok (.tuple #[vDE, .bool true]) w :=
  run_look Tryz.underlying151 Tryz.underlying3 h rfl
theorem lkp_2 {w : World} {M : Nat} {p : Int} {F : FuncId} (hF : thirdF p = F) (h : w.heap[M]? = some (.map (pairEnts p) 4)) : (Instr.lookup 151 (.map (some M)) (.int .i64 2) true).run Tryz.prog w = .ok (.tuple #[.func (.func F) #[] #[], .bool true]) w :=
  hF ▸ run_look Tryz.underlying151 Tryz.underlying3 h rfl
theorem lkp_3 {w : World} {M : Nat} {p : Int} (h : w.heap[M]? = some (.map (pairEnts p) 4)) : (Instr.lookup 151 (.map (some M)) (.int .i64 3) true).run Tryz.prog w = .ok (.tuple #[vSP, .bool true]) w :=
  run_look Tryz.underlying151 Tryz.underlying3 h rfl
theorem lkp_no {w : World} {M : Nat} {p k : Int} (hk : k < 0 ∨ 3 < k) (h : w.heap[M]? = some (.map (pairEnts p) 4)) : (Instr.lookup 151 (.map (some M)) (.int .i64 k) true).run Tryz.prog w = .ok (.tuple #[.nilFunc, .bool false]) w :=
  run_look_no Tryz.underlying151 Tryz.underlying3 h (by
    have n0 : (k == 0) = false := by simp; omega
    have n1 : (k == 1) = false := by simp; omega
    have n2 : (k == 2) = false := by simp; omega
    have n3 : (k == 3) = false := by simp; omega
    simp only [pairEnts, Instr.findNow, Instr.sameNow, if_true, n0, n1, n2, n3]) (by kernel_rfl)
theorem lkh_0 {w : World} {M : Nat} {p : Int} (h : w.heap[M]? = some (.map (halfEnts p) 7)) : (Instr.lookup 161 (.map (some M)) (.int .i64 0) true).run Tryz.prog w = .ok (.tuple #[halfV vBC true, .bool true]) w :=
  run_look Tryz.underlying161 Tryz.underlying3 h rfl
theorem lkh_1 {w : World} {M : Nat} {p : Int} (h : w.heap[M]? = some (.map (halfEnts p) 7)) : (Instr.lookup 161 (.map (some M)) (.int .i64 1) true).run Tryz.prog w = .ok (.tuple #[halfV vBC false, .bool true]) w :=
  run_look Tryz.underlying161 Tryz.underlying3 h rfl
theorem lkh_2 {w : World} {M : Nat} {p : Int} (h : w.heap[M]? = some (.map (halfEnts p) 7)) : (Instr.lookup 161 (.map (some M)) (.int .i64 2) true).run Tryz.prog w = .ok (.tuple #[halfV vDE true, .bool true]) w :=
  run_look Tryz.underlying161 Tryz.underlying3 h rfl
theorem lkh_3 {w : World} {M : Nat} {p : Int} (h : w.heap[M]? = some (.map (halfEnts p) 7)) : (Instr.lookup 161 (.map (some M)) (.int .i64 3) true).run Tryz.prog w = .ok (.tuple #[halfV vDE false, .bool true]) w :=
  run_look Tryz.underlying161 Tryz.underlying3 h rfl
theorem lkh_4 {w : World} {M : Nat} {p : Int} {F : FuncId} (hF : thirdF p = F) (h : w.heap[M]? = some (.map (halfEnts p) 7)) : (Instr.lookup 161 (.map (some M)) (.int .i64 4) true).run Tryz.prog w = .ok (.tuple #[halfV (.func (.func F) #[] #[]) true, .bool true]) w :=
  hF ▸ run_look Tryz.underlying161 Tryz.underlying3 h rfl
theorem lkh_5 {w : World} {M : Nat} {p : Int} {F : FuncId} (hF : thirdF p = F) (h : w.heap[M]? = some (.map (halfEnts p) 7)) : (Instr.lookup 161 (.map (some M)) (.int .i64 5) true).run Tryz.prog w = .ok (.tuple #[halfV (.func (.func F) #[] #[]) false, .bool true]) w :=
  hF ▸ run_look Tryz.underlying161 Tryz.underlying3 h rfl
theorem lkh_7 {w : World} {M : Nat} {p : Int} (h : w.heap[M]? = some (.map (halfEnts p) 7)) : (Instr.lookup 161 (.map (some M)) (.int .i64 7) true).run Tryz.prog w = .ok (.tuple #[halfV vAF true, .bool true]) w :=
  run_look Tryz.underlying161 Tryz.underlying3 h rfl
theorem lkh_no {w : World} {M : Nat} {p k : Int} (hk : k < 0 ∨ k = 6 ∨ 7 < k) (h : w.heap[M]? = some (.map (halfEnts p) 7)) : (Instr.lookup 161 (.map (some M)) (.int .i64 k) true).run Tryz.prog w = .ok (.tuple #[halfV .nilFunc false, .bool false]) w :=
  run_look_no Tryz.underlying161 Tryz.underlying3 h (by
    have n0 : (k == 0) = false := by simp; omega
    have n1 : (k == 1) = false := by simp; omega
    have n2 : (k == 2) = false := by simp; omega
    have n3 : (k == 3) = false := by simp; omega
    have n4 : (k == 4) = false := by simp; omega
    have n5 : (k == 5) = false := by simp; omega
    have n7 : (k == 7) = false := by simp; omega
    simp only [halfEnts, Instr.findNow, Instr.sameNow, if_true, n0, n1, n2, n3, n4, n5, n7]) (by kernel_rfl)
end
theorem info24 : (Tryz.prog.info? 24).map (·.size) = some 20 := by kernel_rfl
theorem info42 : (Tryz.prog.info? 153).map (·.size) = some 20 := by kernel_rfl
set_option maxRecDepth 20000 in
set_option maxHeartbeats 4000000 in
theorem get_hi (p : Int) (k : Int) (F o : Nat) (hlk : ∀ {w : World} {M : Nat}, w.heap[M]? = some (.map (halfEnts p) 7) → (Instr.lookup 161 (.map (some M)) (.int .i64 k) true).run Tryz.prog w = .ok (.tuple #[halfV (.func (.func F) #[] #[]) true, .bool true]) w) (hF : ∀ (b : Nat) (w : World), Calls Tryz.prog F #[.pointer (some ⟨b, 0, none⟩)] w fun e w' => e = .returned (.pointer (some ⟨b, o, none⟩)) ∧ w = w') (hcall : ∀ (args : Array Value) (w : World), (callFunc F args).run Tryz.prog w = .ok (.enter F args) w) (cs : Array Value) (hs : cs.size = 20) (ho : cs.toList.all (·.oneCell') = true) (x : Int) (hx : Wd16 x) (hc : cs[o]? = some (.int .u16 x)) (w : World) :
    Calls Tryz.prog 235 #[.agg cs, .int .i64 p, .int .i64 k] w fun e w' => e = .returned (.int .u8 (x / 256)) ∧ Below w.heap.size w w' := by
  have kh := Lib.hid (fun w => halves_any p w)
  have kb := Lib.hid (hi_any x hx.1 hx.2)
  have hl := hlk (World.alloc_heap_new (w.alloc (.cells cs 24)) (.map (halfEnts p) 7))
  have r0 := (Row.new w 24 cs).alloc (.map (halfEnts p) 7)
  have HB0 : Below w.heap.size w ((w.alloc (.cells cs 24)).alloc (.map (halfEnts p) 7)) := (by repeat (first | exact Below.refl _ _ | assumption | refine bstep ?_ (by assumption) | refine Below.drew ?_ | refine Below.alloc ?_ (by first | (simp; done) | (simp; omega) | omega) _ | refine Below.setCell ?_ (by first | (simp; done) | (simp; omega) | omega) _))
  have i24 : Hid ((Tryz.prog.info? 24).map (·.size) = some cs.size) := Lib.hid (by rw [hs]; exact info24)
  have i42 : Hid ((Tryz.prog.info? 153).map (·.size) = some cs.size) := Lib.hid (by rw [hs]; exact info42)
  have ho' := Lib.hid ho
  have hs' := Lib.hid hs
  clear hs ho hx
  go_enter Tryz.func235, Tryz.ntmps235
  go_wp2_with fail
  refine (kh.out _).mono ?_
  rintro e w2 ⟨rfl, rfl⟩
  generalize (w.alloc (.cells cs 24)).alloc (.map (halfEnts p) 7) = W at *
  generalize (w.alloc (.cells cs 24)).heap.size = M at *
  have HB := Lib.hid HB0
  have hg := HB0.size
  clear HB0
  have hW : w.heap.size < W.heap.size := r0.lt
  go_upto_region 5 with (first
    | (refine wpList_load_row rfl 24 _ rfl _ _ _ rfl (r0.alloc _) _ Tryz.underlying24 rfl i24.out ?_)
    | (refine wpList_store_top rfl 153 _ _ rfl _ _ _ _ cs rfl rfl (by simp) (by rw [hs'.out]; exact Eq.refl 20) i42.out ho'.out ?_))
  have r1 := (Row.new W 159 #[.func (.func F) #[] #[], .bool true]).alloc (.cells cs 153)
  have r2 := Row.new (W.alloc (.cells #[.func (.func F) #[] #[], .bool true] 159)) 153 cs
  have HB2 := Lib.hid ((HB.out.alloc HB.out.size (.cells #[.func (.func F) #[] #[], .bool true] 159)).alloc (by simp; omega) (.cells cs 153))
  rw [show (W.alloc (.cells #[.func (.func F) #[] #[], .bool true] 159)).heap.size = W.heap.size + 1 by simp] at r2
  have l0 := r1.cell 0
  have l1 := r1.cell 1
  have c1 := (r2.cell o).trans hc
  clear r1 r2 hl r0 hc
  generalize (W.alloc (.cells #[.func (.func F) #[] #[], .bool true] 159)).alloc (.cells cs 153) = W2 at *
  go_wp2_with (first
    | (go_at_call 106; refine (kb.out _).mono ?_; rintro e w' ⟨rfl, rfl⟩)
    | (refine (hF _ _).mono ?_; rintro e w' ⟨rfl, rfl⟩))
  go_ret
  exact ⟨rfl, HB2.out⟩
theorem get_0bc (p : Int) (cs : Array Value) (hs : cs.size = 20) (ho : cs.toList.all (·.oneCell') = true) (x : Int) (hx : Wd16 x) (hc : cs[1]? = some (.int .u16 x)) (w : World) :
    Calls Tryz.prog 235 #[.agg cs, .int .i64 p, .int .i64 0] w fun e w' => e = .returned (.int .u8 (x / 256)) ∧ Below w.heap.size w w' :=
  get_hi p 0 _ 1 lkh_0 (fun b w => fbc_any b w) (fun _ _ => by kernel_rfl) cs hs ho x hx hc w
set_option maxRecDepth 20000 in
set_option maxHeartbeats 4000000 in
theorem get_lo (p : Int) (k : Int) (F o : Nat) (hlk : ∀ {w : World} {M : Nat}, w.heap[M]? = some (.map (halfEnts p) 7) → (Instr.lookup 161 (.map (some M)) (.int .i64 k) true).run Tryz.prog w = .ok (.tuple #[halfV (.func (.func F) #[] #[]) false, .bool true]) w) (hF : ∀ (b : Nat) (w : World), Calls Tryz.prog F #[.pointer (some ⟨b, 0, none⟩)] w fun e w' => e = .returned (.pointer (some ⟨b, o, none⟩)) ∧ w = w') (hcall : ∀ (args : Array Value) (w : World), (callFunc F args).run Tryz.prog w = .ok (.enter F args) w) (cs : Array Value) (hs : cs.size = 20) (ho : cs.toList.all (·.oneCell') = true) (x : Int) (hx : Wd16 x) (hc : cs[o]? = some (.int .u16 x)) (w : World) :
    Calls Tryz.prog 235 #[.agg cs, .int .i64 p, .int .i64 k] w fun e w' => e = .returned (.int .u8 (x % 256)) ∧ Below w.heap.size w w' := by
  have kh := Lib.hid (fun w => halves_any p w)
  have kb := Lib.hid (lo_any x hx.1 hx.2)
  have hl := hlk (World.alloc_heap_new (w.alloc (.cells cs 24)) (.map (halfEnts p) 7))
  have r0 := (Row.new w 24 cs).alloc (.map (halfEnts p) 7)
  have HB0 : Below w.heap.size w ((w.alloc (.cells cs 24)).alloc (.map (halfEnts p) 7)) := (by repeat (first | exact Below.refl _ _ | assumption | refine bstep ?_ (by assumption) | refine Below.drew ?_ | refine Below.alloc ?_ (by first | (simp; done) | (simp; omega) | omega) _ | refine Below.setCell ?_ (by first | (simp; done) | (simp; omega) | omega) _))
  have i24 : Hid ((Tryz.prog.info? 24).map (·.size) = some cs.size) := Lib.hid (by rw [hs]; exact info24)
  have i42 : Hid ((Tryz.prog.info? 153).map (·.size) = some cs.size) := Lib.hid (by rw [hs]; exact info42)
  have ho' := Lib.hid ho
  have hs' := Lib.hid hs
  clear hs ho hx
  go_enter Tryz.func235, Tryz.ntmps235
  go_wp2_with fail
  refine (kh.out _).mono ?_
  rintro e w2 ⟨rfl, rfl⟩
  generalize (w.alloc (.cells cs 24)).alloc (.map (halfEnts p) 7) = W at *
  generalize (w.alloc (.cells cs 24)).heap.size = M at *
  have HB := Lib.hid HB0
  have hg := HB0.size
  clear HB0
  have hW : w.heap.size < W.heap.size := r0.lt
  go_upto_region 5 with (first
    | (refine wpList_load_row rfl 24 _ rfl _ _ _ rfl (r0.alloc _) _ Tryz.underlying24 rfl i24.out ?_)
    | (refine wpList_store_top rfl 153 _ _ rfl _ _ _ _ cs rfl rfl (by simp) (by rw [hs'.out]; exact Eq.refl 20) i42.out ho'.out ?_))
  have r1 := (Row.new W 159 #[.func (.func F) #[] #[], .bool false]).alloc (.cells cs 153)
  have r2 := Row.new (W.alloc (.cells #[.func (.func F) #[] #[], .bool false] 159)) 153 cs
  have HB2 := Lib.hid ((HB.out.alloc HB.out.size (.cells #[.func (.func F) #[] #[], .bool false] 159)).alloc (by simp; omega) (.cells cs 153))
  rw [show (W.alloc (.cells #[.func (.func F) #[] #[], .bool false] 159)).heap.size = W.heap.size + 1 by simp] at r2
  have l0 := r1.cell 0
  have l1 := r1.cell 1
  have c1 := (r2.cell o).trans hc
  clear r1 r2 hl r0 hc
  generalize (W.alloc (.cells #[.func (.func F) #[] #[], .bool false] 159)).alloc (.cells cs 153) = W2 at *
  go_wp2_with (first
    | (go_at_call 196; refine (kb.out _).mono ?_; rintro e w' ⟨rfl, rfl⟩)
    | (refine (hF _ _).mono ?_; rintro e w' ⟨rfl, rfl⟩))
  go_ret
  exact ⟨rfl, HB2.out⟩
theorem get_1bc (p : Int) (cs : Array Value) (hs : cs.size = 20) (ho : cs.toList.all (·.oneCell') = true) (x : Int) (hx : Wd16 x) (hc : cs[1]? = some (.int .u16 x)) (w : World) :
    Calls Tryz.prog 235 #[.agg cs, .int .i64 p, .int .i64 1] w fun e w' => e = .returned (.int .u8 (x % 256)) ∧ Below w.heap.size w w' :=
  get_lo p 1 _ 1 lkh_1 (fun b w => fbc_any b w) (fun _ _ => by kernel_rfl) cs hs ho x hx hc w
theorem get_2de (p : Int) (cs : Array Value) (hs : cs.size = 20) (ho : cs.toList.all (·.oneCell') = true) (x : Int) (hx : Wd16 x) (hc : cs[2]? = some (.int .u16 x)) (w : World) :
    Calls Tryz.prog 235 #[.agg cs, .int .i64 p, .int .i64 2] w fun e w' => e = .returned (.int .u8 (x / 256)) ∧ Below w.heap.size w w' :=
  get_hi p 2 _ 2 lkh_2 (fun b w => fde_any b w) (fun _ _ => by kernel_rfl) cs hs ho x hx hc w
theorem get_3de (p : Int) (cs : Array Value) (hs : cs.size = 20) (ho : cs.toList.all (·.oneCell') = true) (x : Int) (hx : Wd16 x) (hc : cs[2]? = some (.int .u16 x)) (w : World) :
    Calls Tryz.prog 235 #[.agg cs, .int .i64 p, .int .i64 3] w fun e w' => e = .returned (.int .u8 (x % 256)) ∧ Below w.heap.size w w' :=
  get_lo p 3 _ 2 lkh_3 (fun b w => fde_any b w) (fun _ _ => by kernel_rfl) cs hs ho x hx hc w
theorem get_4ix (p : Int) (cs : Array Value) (hs : cs.size = 20) (ho : cs.toList.all (·.oneCell') = true) (hF : thirdF p = 306) (x : Int) (hx : Wd16 x) (hc : cs[8]? = some (.int .u16 x)) (w : World) :
    Calls Tryz.prog 235 #[.agg cs, .int .i64 p, .int .i64 4] w fun e w' => e = .returned (.int .u8 (x / 256)) ∧ Below w.heap.size w w' :=
  get_hi p 4 _ 8 (lkh_4 hF) (fun b w => fix_any b w) (fun _ _ => by kernel_rfl) cs hs ho x hx hc w
theorem get_4iy (p : Int) (cs : Array Value) (hs : cs.size = 20) (ho : cs.toList.all (·.oneCell') = true) (hF : thirdF p = 307) (x : Int) (hx : Wd16 x) (hc : cs[9]? = some (.int .u16 x)) (w : World) :
    Calls Tryz.prog 235 #[.agg cs, .int .i64 p, .int .i64 4] w fun e w' => e = .returned (.int .u8 (x / 256)) ∧ Below w.heap.size w w' :=
  get_hi p 4 _ 9 (lkh_4 hF) (fun b w => fiy_any b w) (fun _ _ => by kernel_rfl) cs hs ho x hx hc w
theorem get_4hl (p : Int) (cs : Array Value) (hs : cs.size = 20) (ho : cs.toList.all (·.oneCell') = true) (hF : thirdF p = 308) (x : Int) (hx : Wd16 x) (hc : cs[3]? = some (.int .u16 x)) (w : World) :
    Calls Tryz.prog 235 #[.agg cs, .int .i64 p, .int .i64 4] w fun e w' => e = .returned (.int .u8 (x / 256)) ∧ Below w.heap.size w w' :=
  get_hi p 4 _ 3 (lkh_4 hF) (fun b w => fhl_any b w) (fun _ _ => by kernel_rfl) cs hs ho x hx hc w
theorem get_5ix (p : Int) (cs : Array Value) (hs : cs.size = 20) (ho : cs.toList.all (·.oneCell') = true) (hF : thirdF p = 306) (x : Int) (hx : Wd16 x) (hc : cs[8]? = some (.int .u16 x)) (w : World) :
    Calls Tryz.prog 235 #[.agg cs, .int .i64 p, .int .i64 5] w fun e w' => e = .returned (.int .u8 (x % 256)) ∧ Below w.heap.size w w' :=
  get_lo p 5 _ 8 (lkh_5 hF) (fun b w => fix_any b w) (fun _ _ => by kernel_rfl) cs hs ho x hx hc w
theorem get_5iy (p : Int) (cs : Array Value) (hs : cs.size = 20) (ho : cs.toList.all (·.oneCell') = true) (hF : thirdF p = 307) (x : Int) (hx : Wd16 x) (hc : cs[9]? = some (.int .u16 x)) (w : World) :
    Calls Tryz.prog 235 #[.agg cs, .int .i64 p, .int .i64 5] w fun e w' => e = .returned (.int .u8 (x % 256)) ∧ Below w.heap.size w w' :=
  get_lo p 5 _ 9 (lkh_5 hF) (fun b w => fiy_any b w) (fun _ _ => by kernel_rfl) cs hs ho x hx hc w
theorem get_5hl (p : Int) (cs : Array Value) (hs : cs.size = 20) (ho : cs.toList.all (·.oneCell') = true) (hF : thirdF p = 308) (x : Int) (hx : Wd16 x) (hc : cs[3]? = some (.int .u16 x)) (w : World) :
    Calls Tryz.prog 235 #[.agg cs, .int .i64 p, .int .i64 5] w fun e w' => e = .returned (.int .u8 (x % 256)) ∧ Below w.heap.size w w' :=
  get_lo p 5 _ 3 (lkh_5 hF) (fun b w => fhl_any b w) (fun _ _ => by kernel_rfl) cs hs ho x hx hc w
theorem get_7af (p : Int) (cs : Array Value) (hs : cs.size = 20) (ho : cs.toList.all (·.oneCell') = true) (x : Int) (hx : Wd16 x) (hc : cs[0]? = some (.int .u16 x)) (w : World) :
    Calls Tryz.prog 235 #[.agg cs, .int .i64 p, .int .i64 7] w fun e w' => e = .returned (.int .u8 (x / 256)) ∧ Below w.heap.size w w' :=
  get_hi p 7 _ 0 lkh_7 (fun b w => faf_any b w) (fun _ _ => by kernel_rfl) cs hs ho x hx hc w
set_option maxRecDepth 20000 in
set_option maxHeartbeats 4000000 in
theorem get_no (p k : Int) (hk : k < 0 ∨ k = 6 ∨ 7 < k) (cs : Array Value) (w : World) :
    Calls Tryz.prog 235 #[.agg cs, .int .i64 p, .int .i64 k] w fun e w' => e = .returned (.int .u8 0) ∧ Below w.heap.size w w' := by
  have kh := Lib.hid (fun w => halves_any p w)
  have hl := lkh_no (p := p) hk (World.alloc_heap_new (w.alloc (.cells cs 24)) (.map (halfEnts p) 7))
  have HB0 : Below w.heap.size w ((w.alloc (.cells cs 24)).alloc (.map (halfEnts p) 7)) := (by repeat (first | exact Below.refl _ _ | assumption | refine bstep ?_ (by assumption) | refine Below.drew ?_ | refine Below.alloc ?_ (by first | (simp; done) | (simp; omega) | omega) _ | refine Below.setCell ?_ (by first | (simp; done) | (simp; omega) | omega) _))
  clear hk
  go_enter Tryz.func235, Tryz.ntmps235
  go_wp2_with fail
  refine (kh.out _).mono ?_
  rintro e w2 ⟨rfl, rfl⟩
  generalize (w.alloc (.cells cs 24)).alloc (.map (halfEnts p) 7) = W at *
  generalize (w.alloc (.cells cs 24)).heap.size = M at *
  have HB := Lib.hid HB0
  clear HB0
  go_wp2
  go_ret
  exact ⟨rfl, HB.out.alloc HB.out.size _⟩
theorem regsC_one (g : Rg) : (regsC g).toList.all (·.oneCell') = true := rfl
theorem thirdF_dd {p : Int} (h : p = 3) : thirdF p = 306 := by unfold thirdF; rw [if_pos h]
theorem thirdF_fd {p : Int} (h : p ≠ 3) (h4 : p = 4) : thirdF p = 307 := by unfold thirdF; rw [if_neg h, if_pos h4]
theorem thirdF_hl {p : Int} (h : p ≠ 3) (h4 : p ≠ 4) : thirdF p = 308 := by unfold thirdF; rw [if_neg h, if_neg h4]
theorem pairG_2 (g : Rg) (p : Int) : pairG g p 2 = if p = 3 then g.ix else if p = 4 then g.iy else g.hl := rfl
theorem get_any (g : Rg) (hg : RgB g) (p k : Int) (w : World) :
    Calls Tryz.prog 235 #[regsV g, .int .i64 p, .int .i64 k] w fun e w' => e = .returned (.int .u8 (getG g p k)) ∧ Below w.heap.size w w' := by
  by_cases hn : k < 0 ∨ k = 6 ∨ 7 < k
  · rw [getG_no g p k hn]
    exact get_no p k hn _ w
  have h1 := regsC_one g
  obtain rfl | rfl | rfl | rfl | rfl | rfl | rfl : k = 0 ∨ k = 1 ∨ k = 2 ∨ k = 3 ∨ k = 4 ∨ k = 5 ∨ k = 7 := by omega
  · exact get_0bc p _ rfl h1 g.bc hg.bc rfl w
  · exact get_1bc p _ rfl h1 g.bc hg.bc rfl w
  · exact get_2de p _ rfl h1 g.de hg.de rfl w
  · exact get_3de p _ rfl h1 g.de hg.de rfl w
  · show Calls _ _ _ _ fun e w' => e = .returned (.int .u8 (pairG g p 2 / 256)) ∧ _
    rw [pairG_2]
    by_cases h3 : p = 3
    · rw [if_pos h3]
      exact get_4ix p _ rfl h1 (thirdF_dd h3) g.ix hg.ix rfl w
    by_cases h4 : p = 4
    · rw [if_neg h3, if_pos h4]
      exact get_4iy p _ rfl h1 (thirdF_fd h3 h4) g.iy hg.iy rfl w
    · rw [if_neg h3, if_neg h4]
      exact get_4hl p _ rfl h1 (thirdF_hl h3 h4) g.hl hg.hl rfl w
  · show Calls _ _ _ _ fun e w' => e = .returned (.int .u8 (pairG g p 2 % 256)) ∧ _
    rw [pairG_2]
    by_cases h3 : p = 3
    · rw [if_pos h3]
      exact get_5ix p _ rfl h1 (thirdF_dd h3) g.ix hg.ix rfl w
    by_cases h4 : p = 4
    · rw [if_neg h3, if_pos h4]
      exact get_5iy p _ rfl h1 (thirdF_fd h3 h4) g.iy hg.iy rfl w
    · rw [if_neg h3, if_neg h4]
      exact get_5hl p _ rfl h1 (thirdF_hl h3 h4) g.hl hg.hl rfl w
  · exact get_7af p _ rfl h1 g.af hg.af rfl w
set_option maxRecDepth 20000 in
set_option maxHeartbeats 4000000 in
theorem pair_at (p : Int) (k : Int) (F o : Nat) (hlk : ∀ {w : World} {M : Nat}, w.heap[M]? = some (.map (pairEnts p) 4) → (Instr.lookup 151 (.map (some M)) (.int .i64 k) true).run Tryz.prog w = .ok (.tuple #[.func (.func F) #[] #[], .bool true]) w) (hF : ∀ (b : Nat) (w : World), Calls Tryz.prog F #[.pointer (some ⟨b, 0, none⟩)] w fun e w' => e = .returned (.pointer (some ⟨b, o, none⟩)) ∧ w = w') (hcall : ∀ (args : Array Value) (w : World), (callFunc F args).run Tryz.prog w = .ok (.enter F args) w) (cs : Array Value) (hs : cs.size = 20) (ho : cs.toList.all (·.oneCell') = true) (x : Int) (hc : cs[o]? = some (.int .u16 x)) (w : World) :
    Calls Tryz.prog 221 #[.agg cs, .int .i64 p, .int .i64 k] w fun e w' => e = .returned (.int .u16 x) ∧ Below w.heap.size w w' := by
  have kh := Lib.hid (fun w => pairs_any p w)
  have hl := hlk (World.alloc_heap_new (w.alloc (.cells cs 24)) (.map (pairEnts p) 4))
  have r0 := (Row.new w 24 cs).alloc (.map (pairEnts p) 4)
  have HB0 : Below w.heap.size w ((w.alloc (.cells cs 24)).alloc (.map (pairEnts p) 4)) := (by repeat (first | exact Below.refl _ _ | assumption | refine bstep ?_ (by assumption) | refine Below.drew ?_ | refine Below.alloc ?_ (by first | (simp; done) | (simp; omega) | omega) _ | refine Below.setCell ?_ (by first | (simp; done) | (simp; omega) | omega) _))
  have i24 : Hid ((Tryz.prog.info? 24).map (·.size) = some cs.size) := Lib.hid (by rw [hs]; exact info24)
  have i42 : Hid ((Tryz.prog.info? 153).map (·.size) = some cs.size) := Lib.hid (by rw [hs]; exact info42)
  have ho' := Lib.hid ho
  have hs' := Lib.hid hs
  clear hs ho
  go_enter Tryz.func221, Tryz.ntmps221
  go_wp2_with fail
  refine (kh.out _).mono ?_
  rintro e w2 ⟨rfl, rfl⟩
  generalize (w.alloc (.cells cs 24)).alloc (.map (pairEnts p) 4) = W at *
  generalize (w.alloc (.cells cs 24)).heap.size = M at *
  have HB := Lib.hid HB0
  have hg := HB0.size
  clear HB0
  have hW : w.heap.size < W.heap.size := r0.lt
  go_upto_region 5 with (first
    | (refine wpList_load_row rfl 24 _ rfl _ _ _ rfl r0 _ Tryz.underlying24 rfl i24.out ?_)
    | (refine wpList_store_top rfl 153 _ _ rfl _ _ _ _ cs rfl rfl (by simp) (by rw [hs'.out]; exact Eq.refl 20) i42.out ho'.out ?_))
  have r2 := Row.new W 153 cs
  have HB2 := Lib.hid (HB.out.alloc HB.out.size (.cells cs 153))
  have c1 := (r2.cell o).trans hc
  clear r2 hl r0 hc
  generalize W.alloc (.cells cs 153) = W2 at *
  go_wp2_with (refine (hF _ _).mono ?_; rintro e w' ⟨rfl, rfl⟩)
  go_ret
  exact ⟨rfl, HB2.out⟩
theorem pair_0bc (p : Int) (cs : Array Value) (hs : cs.size = 20) (ho : cs.toList.all (·.oneCell') = true) (x : Int) (hc : cs[1]? = some (.int .u16 x)) (w : World) :
    Calls Tryz.prog 221 #[.agg cs, .int .i64 p, .int .i64 0] w fun e w' => e = .returned (.int .u16 x) ∧ Below w.heap.size w w' :=
  pair_at p 0 _ 1 lkp_0 (fun b w => fbc_any b w) (fun _ _ => by kernel_rfl) cs hs ho x hc w
theorem pair_1de (p : Int) (cs : Array Value) (hs : cs.size = 20) (ho : cs.toList.all (·.oneCell') = true) (x : Int) (hc : cs[2]? = some (.int .u16 x)) (w : World) :
    Calls Tryz.prog 221 #[.agg cs, .int .i64 p, .int .i64 1] w fun e w' => e = .returned (.int .u16 x) ∧ Below w.heap.size w w' :=
  pair_at p 1 _ 2 lkp_1 (fun b w => fde_any b w) (fun _ _ => by kernel_rfl) cs hs ho x hc w
theorem pair_2ix (p : Int) (cs : Array Value) (hs : cs.size = 20) (ho : cs.toList.all (·.oneCell') = true) (hF : thirdF p = 306) (x : Int) (hc : cs[8]? = some (.int .u16 x)) (w : World) :
    Calls Tryz.prog 221 #[.agg cs, .int .i64 p, .int .i64 2] w fun e w' => e = .returned (.int .u16 x) ∧ Below w.heap.size w w' :=
  pair_at p 2 _ 8 (lkp_2 hF) (fun b w => fix_any b w) (fun _ _ => by kernel_rfl) cs hs ho x hc w
theorem pair_2iy (p : Int) (cs : Array Value) (hs : cs.size = 20) (ho : cs.toList.all (·.oneCell') = true) (hF : thirdF p = 307) (x : Int) (hc : cs[9]? = some (.int .u16 x)) (w : World) :
    Calls Tryz.prog 221 #[.agg cs, .int .i64 p, .int .i64 2] w fun e w' => e = .returned (.int .u16 x) ∧ Below w.heap.size w w' :=
  pair_at p 2 _ 9 (lkp_2 hF) (fun b w => fiy_any b w) (fun _ _ => by kernel_rfl) cs hs ho x hc w
theorem pair_2hl (p : Int) (cs : Array Value) (hs : cs.size = 20) (ho : cs.toList.all (·.oneCell') = true) (hF : thirdF p = 308) (x : Int) (hc : cs[3]? = some (.int .u16 x)) (w : World) :
    Calls Tryz.prog 221 #[.agg cs, .int .i64 p, .int .i64 2] w fun e w' => e = .returned (.int .u16 x) ∧ Below w.heap.size w w' :=
  pair_at p 2 _ 3 (lkp_2 hF) (fun b w => fhl_any b w) (fun _ _ => by kernel_rfl) cs hs ho x hc w
theorem pair_3sp (p : Int) (cs : Array Value) (hs : cs.size = 20) (ho : cs.toList.all (·.oneCell') = true) (x : Int) (hc : cs[10]? = some (.int .u16 x)) (w : World) :
    Calls Tryz.prog 221 #[.agg cs, .int .i64 p, .int .i64 3] w fun e w' => e = .returned (.int .u16 x) ∧ Below w.heap.size w w' :=
  pair_at p 3 _ 10 lkp_3 (fun b w => fsp_any b w) (fun _ _ => by kernel_rfl) cs hs ho x hc w
set_option maxRecDepth 20000 in
set_option maxHeartbeats 4000000 in
theorem pair_no (p k : Int) (hk : k < 0 ∨ 3 < k) (cs : Array Value) (w : World) :
    Calls Tryz.prog 221 #[.agg cs, .int .i64 p, .int .i64 k] w fun e w' => e = .returned (.int .u16 0) ∧ Below w.heap.size w w' := by
  have kh := Lib.hid (fun w => pairs_any p w)
  have hl := lkp_no (p := p) hk (World.alloc_heap_new (w.alloc (.cells cs 24)) (.map (pairEnts p) 4))
  have HB0 : Below w.heap.size w ((w.alloc (.cells cs 24)).alloc (.map (pairEnts p) 4)) := (by repeat (first | exact Below.refl _ _ | assumption | refine bstep ?_ (by assumption) | refine Below.drew ?_ | refine Below.alloc ?_ (by first | (simp; done) | (simp; omega) | omega) _ | refine Below.setCell ?_ (by first | (simp; done) | (simp; omega) | omega) _))
  clear hk
  go_enter Tryz.func221, Tryz.ntmps221
  go_wp2_with fail
  refine (kh.out _).mono ?_
  rintro e w2 ⟨rfl, rfl⟩
  generalize (w.alloc (.cells cs 24)).alloc (.map (pairEnts p) 4) = W at *
  generalize (w.alloc (.cells cs 24)).heap.size = M at *
  have HB := Lib.hid HB0
  clear HB0
  go_wp2
  go_ret
  exact ⟨rfl, HB.out⟩
theorem pairG_no (g : Rg) (p k : Int) (h : k < 0 ∨ 3 < k) : pairG g p k = 0 := by
  unfold pairG
  rw [if_neg (by omega), if_neg (by omega), if_neg (by omega), if_neg (by omega)]
theorem pair_any (g : Rg) (p k : Int) (w : World) :
    Calls Tryz.prog 221 #[regsV g, .int .i64 p, .int .i64 k] w fun e w' => e = .returned (.int .u16 (pairG g p k)) ∧ Below w.heap.size w w' := by
  by_cases hn : k < 0 ∨ 3 < k
  · rw [pairG_no g p k hn]
    exact pair_no p k hn _ w
  have h1 := regsC_one g
  obtain rfl | rfl | rfl | rfl : k = 0 ∨ k = 1 ∨ k = 2 ∨ k = 3 := by omega
  · exact pair_0bc p _ rfl h1 g.bc rfl w
  · exact pair_1de p _ rfl h1 g.de rfl w
  · rw [pairG_2]
    by_cases h3 : p = 3
    · rw [if_pos h3]
      exact pair_2ix p _ rfl h1 (thirdF_dd h3) g.ix rfl w
    by_cases h4 : p = 4
    · rw [if_neg h3, if_pos h4]
      exact pair_2iy p _ rfl h1 (thirdF_fd h3 h4) g.iy rfl w
    · rw [if_neg h3, if_neg h4]
      exact pair_2hl p _ rfl h1 (thirdF_hl h3 h4) g.hl rfl w
  · exact pair_3sp p _ rfl h1 g.sp rfl w
theorem and127_fin : ∀ x : Fin 256, bits .and .u8 (x.val : Int) 127 = (x.val : Int) % 128 ∧ bits .andNot .u8 (x.val : Int) 127 = (x.val : Int) / 128 * 128 := by decide +kernel
theorem or128_fin : ∀ h : Fin 2, ∀ l : Fin 128, bits .or .u8 ((h.val : Int) * 128) (l.val : Int) = (h.val : Int) * 128 + (l.val : Int) := by decide +kernel
theorem tick_eq (r n : Int) (hr : B8 r) : bits BinOp.or IntKind.u8 (bits BinOp.andNot IntKind.u8 r 127) (bits BinOp.and IntKind.u8 ((r + n) % 256) 127) = tickR r n := by
  have h1 := (byte_all (P := fun x => bits .and .u8 x 127 = x % 128 ∧ bits .andNot .u8 x 127 = x / 128 * 128) and127_fin r hr.1 hr.2).2
  have h2 := (byte_all (P := fun x => bits .and .u8 x 127 = x % 128 ∧ bits .andNot .u8 x 127 = x / 128 * 128) and127_fin ((r + n) % 256) (by omega) (by omega)).1
  obtain ⟨r0, r1⟩ := hr
  have h3 := or128_fin ⟨(r / 128).toNat, by omega⟩ ⟨((r + n) % 128).toNat, by omega⟩
  rw [show ((⟨(r / 128).toNat, by omega⟩ : Fin 2).val : Int) = r / 128 by show ((r / 128).toNat : Int) = _; omega, show ((⟨((r + n) % 128).toNat, by omega⟩ : Fin 128).val : Int) = (r + n) % 128 by show (((r + n) % 128).toNat : Int) = _; omega] at h3
  rw [h1, h2, show (r + n) % 256 % 128 = (r + n) % 128 by omega, h3]
  rfl
set_option maxRecDepth 20000 in
set_option maxHeartbeats 4000000 in
theorem tick_any (g : Rg) (n : Int) (hr : B8 g.r) (w : World) :
    Calls Tryz.prog 43 #[regsV g, .int .i64 n] w fun e w' => e = .returned (regsV (tickG g n)) ∧ Below w.heap.size w w' := by
  obtain ⟨af, bc, de, hl, af2, bc2, de2, hl2, ix, iy, sp, pc, wz, i, r, iff1, iff2, halted, late, mode⟩ := g
  have hr : B8 r := hr
  have HT := Lib.hid (tick_eq r n hr)
  clear hr
  obtain ⟨cs, hcs⟩ : ∃ cs, cs = (#[.int .u16 af, .int .u16 bc, .int .u16 de, .int .u16 hl, .int .u16 af2, .int .u16 bc2, .int .u16 de2, .int .u16 hl2, .int .u16 ix, .int .u16 iy, .int .u16 sp, .int .u16 pc, .int .u16 wz, .int .u8 i, .int .u8 r, .bool iff1, .bool iff2, .bool halted, .bool late, .int .i64 mode] : Array Value) := ⟨_, rfl⟩
  have HE := Lib.hid hcs
  show Calls _ _ #[.agg (#[.int .u16 af, .int .u16 bc, .int .u16 de, .int .u16 hl, .int .u16 af2, .int .u16 bc2, .int .u16 de2, .int .u16 hl2, .int .u16 ix, .int .u16 iy, .int .u16 sp, .int .u16 pc, .int .u16 wz, .int .u8 i, .int .u8 r, .bool iff1, .bool iff2, .bool halted, .bool late, .int .i64 mode] : Array Value), .int .i64 n] _ _
  rw [← hcs]
  clear hcs
  go_enter Tryz.func43, Tryz.ntmps43
  go_upto_region 1 with (fail)
  have rA := (Row.new w 24 cs).alloc (.cells zL 24)
  have rZ := Row.new (w.alloc (.cells cs 24)) 24 zL
  rw [show (w.alloc (.cells cs 24)).heap.size = w.heap.size + 1 by simp] at rZ
  have rZ := Lib.hid rZ
  have HB := Lib.hid (((Below.refl w.heap.size w).alloc (Nat.le_refl _) (.cells cs 24)).alloc (by simp) (.cells zL 24))
  have HW := Lib.hid (show ((w.alloc (.cells cs 24)).alloc (.cells zL 24)).heap.size = w.heap.size + 2 by simp)
  generalize (w.alloc (.cells cs 24)).alloc (.cells zL 24) = W0 at *
  rw [HE.out] at rA
  have rA := Lib.hid rA
  have hltA := rA.out.lt
  have hltZ := rZ.out.lt
  have lA14 : W0.cell? ⟨w.heap.size, 14, none⟩ = some (.int .u8 r) := rA.out.cell 14
  have fA14 := rA.out.frozen 14
  have qA0 : Row (W0.setCell ⟨w.heap.size, 14, none⟩ (.int .u8 (tickR r n))) (w.heap.size) 24 (#[.int .u16 af, .int .u16 bc, .int .u16 de, .int .u16 hl, .int .u16 af2, .int .u16 bc2, .int .u16 de2, .int .u16 hl2, .int .u16 ix, .int .u16 iy, .int .u16 sp, .int .u16 pc, .int .u16 wz, .int .u8 i, .int .u8 (tickR r n), .bool iff1, .bool iff2, .bool halted, .bool late, .int .i64 mode] : Array Value) := rA.out.set 14 (.int .u8 (tickR r n))
  have qZ0 : Row (W0.setCell ⟨w.heap.size, 14, none⟩ (.int .u8 (tickR r n))) (w.heap.size + 1) 24 zL := rZ.out.far (p := ⟨w.heap.size, 14, none⟩) (by simp) (.int .u8 (tickR r n))
  have qA := qA0
  have qZ := qZ0
  clear qA0 qZ0
  have HB' := Lib.hid (HB.out.setCell (p := ⟨w.heap.size, 14, none⟩) (by first | exact Nat.le_refl _ | exact Nat.le_add_right _ _) (.int .u8 (tickR r n)))
  go_upto_region 2 with (fail)
  rw [HT.out]
  clear lA14 fA14 rA rZ HB
  have rA := Lib.hid qA
  have rZ := Lib.hid qZ
  clear qA qZ
  have HB := HB'
  clear HB'
  generalize W0.setCell ⟨w.heap.size, 14, none⟩ (.int .u8 (tickR r n)) = W1 at *
  obtain ⟨ds, hds⟩ : ∃ ds, ds = (#[.int .u16 af, .int .u16 bc, .int .u16 de, .int .u16 hl, .int .u16 af2, .int .u16 bc2, .int .u16 de2, .int .u16 hl2, .int .u16 ix, .int .u16 iy, .int .u16 sp, .int .u16 pc, .int .u16 wz, .int .u8 i, .int .u8 (tickR r n), .bool iff1, .bool iff2, .bool halted, .bool late, .int .i64 mode] : Array Value) := ⟨_, rfl⟩
  have i24 : Hid ((Tryz.prog.info? 24).map (·.size) = some ds.size) := Lib.hid (by rw [hds]; exact info24)
  have one : Hid (ds.toList.all (·.oneCell') = true) := Lib.hid (by rw [hds]; rfl)
  have hsz : Hid (ds.size = 20) := Lib.hid (by rw [hds]; rfl)
  have HD := Lib.hid hds
  have hR := rA.out
  rw [← hds] at hR
  clear hds
  apply wp_region_lit
  refine wpList_load_row rfl 24 _ rfl _ _ _ rfl hR _ Tryz.underlying24 rfl i24.out ?_
  refine wpList_store_row rfl 24 _ _ rfl (w.heap.size + 1) _ _ ds rfl rfl rZ.out (by rw [hsz.out]; exact Eq.refl 20) i24.out one.out ?_
  have rE := rZ.out.setAll (vs := ds) (by rw [hsz.out]; exact Eq.refl 20)
  have HE9 := Lib.hid (Below.setCellsAll HB.out (b := w.heap.size + 1) (Nat.le_add_right _ _) ds.toList 0)
  generalize W1.setCells (w.heap.size + 1) 0 ds.toList = W9 at *
  apply wpList_nil
  rename_i hret
  refine hret _ _ (wp_ret ?_)
  try simp only [Exit.inBlock, Exit.then]
  refine bodyPost_ret (results_row rfl rfl rE _ Tryz.underlying24 rfl i24.out) rfl ?_
  exact ⟨(congrArg (fun q => Ending.returned (Value.agg q)) HD.out).trans rfl, HE9.out⟩
set_option maxRecDepth 20000 in
set_option maxHeartbeats 4000000 in
theorem swap_any (g : Rg) (w : World) :
    Calls Tryz.prog 222 #[regsV g] w fun e w' => e = .returned (regsV (swapG g)) ∧ Below w.heap.size w w' := by
  obtain ⟨cs, hcs⟩ : ∃ cs, cs = (regsC g) := ⟨_, rfl⟩
  have HE := Lib.hid hcs
  show Calls _ _ #[.agg (regsC g)] _ _
  rw [← hcs]
  clear hcs
  go_enter Tryz.func222, Tryz.ntmps222
  go_upto_region 1 with (fail)
  have rA := (Row.new w 24 cs).alloc (.cells zL 24)
  have rZ := Row.new (w.alloc (.cells cs 24)) 24 zL
  rw [show (w.alloc (.cells cs 24)).heap.size = w.heap.size + 1 by simp] at rZ
  have rZ := Lib.hid rZ
  have HB := Lib.hid (((Below.refl w.heap.size w).alloc (Nat.le_refl _) (.cells cs 24)).alloc (by simp) (.cells zL 24))
  have HW := Lib.hid (show ((w.alloc (.cells cs 24)).alloc (.cells zL 24)).heap.size = w.heap.size + 2 by simp)
  generalize (w.alloc (.cells cs 24)).alloc (.cells zL 24) = W0 at *
  rw [HE.out] at rA
  have rA := Lib.hid rA
  have hltA := rA.out.lt
  have hltZ := rZ.out.lt
  have lA4 : W0.cell? ⟨w.heap.size, 4, none⟩ = some (.int .u16 g.af2) := rA.out.cell 4
  have lA0 : W0.cell? ⟨w.heap.size, 0, none⟩ = some (.int .u16 g.af) := rA.out.cell 0
  have fA0 := rA.out.frozen 0
  have fA4 := rA.out.frozen 4
  have qA0 : Row (W0.setCell ⟨w.heap.size, 0, none⟩ (.int .u16 g.af2)) (w.heap.size) 24 (regsC { g with af := g.af2 }) := rA.out.set 0 (.int .u16 g.af2)
  have qZ0 : Row (W0.setCell ⟨w.heap.size, 0, none⟩ (.int .u16 g.af2)) (w.heap.size + 1) 24 zL := rZ.out.far (p := ⟨w.heap.size, 0, none⟩) (by simp) (.int .u16 g.af2)
  have qA1 : Row ((W0.setCell ⟨w.heap.size, 0, none⟩ (.int .u16 g.af2)).setCell ⟨w.heap.size, 4, none⟩ (.int .u16 g.af)) (w.heap.size) 24 (regsC { g with af := g.af2, af2 := g.af }) := qA0.set 4 (.int .u16 g.af)
  have qZ1 : Row ((W0.setCell ⟨w.heap.size, 0, none⟩ (.int .u16 g.af2)).setCell ⟨w.heap.size, 4, none⟩ (.int .u16 g.af)) (w.heap.size + 1) 24 zL := qZ0.far (p := ⟨w.heap.size, 4, none⟩) (by simp) (.int .u16 g.af)
  have qA := qA1
  have qZ := qZ1
  clear qA0 qZ0 qA1 qZ1
  have HB' := Lib.hid ((HB.out.setCell (p := ⟨w.heap.size, 0, none⟩) (by first | exact Nat.le_refl _ | exact Nat.le_add_right _ _) (.int .u16 g.af2)).setCell (p := ⟨w.heap.size, 4, none⟩) (by first | exact Nat.le_refl _ | exact Nat.le_add_right _ _) (.int .u16 g.af))
  go_upto_region 2 with (fail)
  clear lA4 lA0 fA0 fA4 rA rZ HB
  have rA := Lib.hid qA
  have rZ := Lib.hid qZ
  clear qA qZ
  have HB := HB'
  clear HB'
  generalize (W0.setCell ⟨w.heap.size, 0, none⟩ (.int .u16 g.af2)).setCell ⟨w.heap.size, 4, none⟩ (.int .u16 g.af) = W1 at *
  obtain ⟨ds, hds⟩ : ∃ ds, ds = (regsC { g with af := g.af2, af2 := g.af }) := ⟨_, rfl⟩
  have i24 : Hid ((Tryz.prog.info? 24).map (·.size) = some ds.size) := Lib.hid (by rw [hds]; exact info24)
  have one : Hid (ds.toList.all (·.oneCell') = true) := Lib.hid (by rw [hds]; rfl)
  have hsz : Hid (ds.size = 20) := Lib.hid (by rw [hds]; rfl)
  have HD := Lib.hid hds
  have hR := rA.out
  rw [← hds] at hR
  clear hds
  apply wp_region_lit
  refine wpList_load_row rfl 24 _ rfl _ _ _ rfl hR _ Tryz.underlying24 rfl i24.out ?_
  refine wpList_store_row rfl 24 _ _ rfl (w.heap.size + 1) _ _ ds rfl rfl rZ.out (by rw [hsz.out]; exact Eq.refl 20) i24.out one.out ?_
  have rE := rZ.out.setAll (vs := ds) (by rw [hsz.out]; exact Eq.refl 20)
  have HE9 := Lib.hid (Below.setCellsAll HB.out (b := w.heap.size + 1) (Nat.le_add_right _ _) ds.toList 0)
  generalize W1.setCells (w.heap.size + 1) 0 ds.toList = W9 at *
  apply wpList_nil
  rename_i hret
  refine hret _ _ (wp_ret ?_)
  try simp only [Exit.inBlock, Exit.then]
  refine bodyPost_ret (results_row rfl rfl rE _ Tryz.underlying24 rfl i24.out) rfl ?_
  exact ⟨(congrArg (fun q => Ending.returned (Value.agg q)) HD.out).trans rfl, HE9.out⟩
set_option maxRecDepth 20000 in
set_option maxHeartbeats 4000000 in
theorem exx_any (g : Rg) (w : World) :
    Calls Tryz.prog 241 #[regsV g] w fun e w' => e = .returned (regsV (exxG g)) ∧ Below w.heap.size w w' := by
  obtain ⟨cs, hcs⟩ : ∃ cs, cs = (regsC g) := ⟨_, rfl⟩
  have HE := Lib.hid hcs
  show Calls _ _ #[.agg (regsC g)] _ _
  rw [← hcs]
  clear hcs
  go_enter Tryz.func241, Tryz.ntmps241
  go_upto_region 1 with (fail)
  have rA := (Row.new w 24 cs).alloc (.cells zL 24)
  have rZ := Row.new (w.alloc (.cells cs 24)) 24 zL
  rw [show (w.alloc (.cells cs 24)).heap.size = w.heap.size + 1 by simp] at rZ
  have rZ := Lib.hid rZ
  have HB := Lib.hid (((Below.refl w.heap.size w).alloc (Nat.le_refl _) (.cells cs 24)).alloc (by simp) (.cells zL 24))
  have HW := Lib.hid (show ((w.alloc (.cells cs 24)).alloc (.cells zL 24)).heap.size = w.heap.size + 2 by simp)
  generalize (w.alloc (.cells cs 24)).alloc (.cells zL 24) = W0 at *
  rw [HE.out] at rA
  have rA := Lib.hid rA
  have hltA := rA.out.lt
  have hltZ := rZ.out.lt
  have lA5 : W0.cell? ⟨w.heap.size, 5, none⟩ = some (.int .u16 g.bc2) := rA.out.cell 5
  have lA1 : W0.cell? ⟨w.heap.size, 1, none⟩ = some (.int .u16 g.bc) := rA.out.cell 1
  have fA1 := rA.out.frozen 1
  have fA5 := rA.out.frozen 5
  have qA0 : Row (W0.setCell ⟨w.heap.size, 1, none⟩ (.int .u16 g.bc2)) (w.heap.size) 24 (regsC { g with bc := g.bc2 }) := rA.out.set 1 (.int .u16 g.bc2)
  have qZ0 : Row (W0.setCell ⟨w.heap.size, 1, none⟩ (.int .u16 g.bc2)) (w.heap.size + 1) 24 zL := rZ.out.far (p := ⟨w.heap.size, 1, none⟩) (by simp) (.int .u16 g.bc2)
  have qA1 : Row ((W0.setCell ⟨w.heap.size, 1, none⟩ (.int .u16 g.bc2)).setCell ⟨w.heap.size, 5, none⟩ (.int .u16 g.bc)) (w.heap.size) 24 (regsC { g with bc := g.bc2, bc2 := g.bc }) := qA0.set 5 (.int .u16 g.bc)
  have qZ1 : Row ((W0.setCell ⟨w.heap.size, 1, none⟩ (.int .u16 g.bc2)).setCell ⟨w.heap.size, 5, none⟩ (.int .u16 g.bc)) (w.heap.size + 1) 24 zL := qZ0.far (p := ⟨w.heap.size, 5, none⟩) (by simp) (.int .u16 g.bc)
  have qA := qA1
  have qZ := qZ1
  clear qA0 qZ0 qA1 qZ1
  have HB' := Lib.hid ((HB.out.setCell (p := ⟨w.heap.size, 1, none⟩) (by first | exact Nat.le_refl _ | exact Nat.le_add_right _ _) (.int .u16 g.bc2)).setCell (p := ⟨w.heap.size, 5, none⟩) (by first | exact Nat.le_refl _ | exact Nat.le_add_right _ _) (.int .u16 g.bc))
  go_upto_region 2 with (fail)
  clear lA5 lA1 fA1 fA5 rA rZ HB
  have rA := Lib.hid qA
  have rZ := Lib.hid qZ
  clear qA qZ
  have HB := HB'
  clear HB'
  generalize (W0.setCell ⟨w.heap.size, 1, none⟩ (.int .u16 g.bc2)).setCell ⟨w.heap.size, 5, none⟩ (.int .u16 g.bc) = W1 at *
  have lA6 : W1.cell? ⟨w.heap.size, 6, none⟩ = some (.int .u16 g.de2) := rA.out.cell 6
  have lA2 : W1.cell? ⟨w.heap.size, 2, none⟩ = some (.int .u16 g.de) := rA.out.cell 2
  have fA2 := rA.out.frozen 2
  have fA6 := rA.out.frozen 6
  have qA0 : Row (W1.setCell ⟨w.heap.size, 2, none⟩ (.int .u16 g.de2)) (w.heap.size) 24 (regsC { g with bc := g.bc2, de := g.de2, bc2 := g.bc }) := rA.out.set 2 (.int .u16 g.de2)
  have qZ0 : Row (W1.setCell ⟨w.heap.size, 2, none⟩ (.int .u16 g.de2)) (w.heap.size + 1) 24 zL := rZ.out.far (p := ⟨w.heap.size, 2, none⟩) (by simp) (.int .u16 g.de2)
  have qA1 : Row ((W1.setCell ⟨w.heap.size, 2, none⟩ (.int .u16 g.de2)).setCell ⟨w.heap.size, 6, none⟩ (.int .u16 g.de)) (w.heap.size) 24 (regsC { g with bc := g.bc2, de := g.de2, bc2 := g.bc, de2 := g.de }) := qA0.set 6 (.int .u16 g.de)
  have qZ1 : Row ((W1.setCell ⟨w.heap.size, 2, none⟩ (.int .u16 g.de2)).setCell ⟨w.heap.size, 6, none⟩ (.int .u16 g.de)) (w.heap.size + 1) 24 zL := qZ0.far (p := ⟨w.heap.size, 6, none⟩) (by simp) (.int .u16 g.de)
  have qA := qA1
  have qZ := qZ1
  clear qA0 qZ0 qA1 qZ1
  have HB' := Lib.hid ((HB.out.setCell (p := ⟨w.heap.size, 2, none⟩) (by first | exact Nat.le_refl _ | exact Nat.le_add_right _ _) (.int .u16 g.de2)).setCell (p := ⟨w.heap.size, 6, none⟩) (by first | exact Nat.le_refl _ | exact Nat.le_add_right _ _) (.int .u16 g.de))
  go_upto_region 3 with (fail)
  clear lA6 lA2 fA2 fA6 rA rZ HB
  have rA := Lib.hid qA
  have rZ := Lib.hid qZ
  clear qA qZ
  have HB := HB'
  clear HB'
  generalize (W1.setCell ⟨w.heap.size, 2, none⟩ (.int .u16 g.de2)).setCell ⟨w.heap.size, 6, none⟩ (.int .u16 g.de) = W2 at *
  have lA7 : W2.cell? ⟨w.heap.size, 7, none⟩ = some (.int .u16 g.hl2) := rA.out.cell 7
  have lA3 : W2.cell? ⟨w.heap.size, 3, none⟩ = some (.int .u16 g.hl) := rA.out.cell 3
  have fA3 := rA.out.frozen 3
  have fA7 := rA.out.frozen 7
  have qA0 : Row (W2.setCell ⟨w.heap.size, 3, none⟩ (.int .u16 g.hl2)) (w.heap.size) 24 (regsC { g with bc := g.bc2, de := g.de2, hl := g.hl2, bc2 := g.bc, de2 := g.de }) := rA.out.set 3 (.int .u16 g.hl2)
  have qZ0 : Row (W2.setCell ⟨w.heap.size, 3, none⟩ (.int .u16 g.hl2)) (w.heap.size + 1) 24 zL := rZ.out.far (p := ⟨w.heap.size, 3, none⟩) (by simp) (.int .u16 g.hl2)
  have qA1 : Row ((W2.setCell ⟨w.heap.size, 3, none⟩ (.int .u16 g.hl2)).setCell ⟨w.heap.size, 7, none⟩ (.int .u16 g.hl)) (w.heap.size) 24 (regsC { g with bc := g.bc2, de := g.de2, hl := g.hl2, bc2 := g.bc, de2 := g.de, hl2 := g.hl }) := qA0.set 7 (.int .u16 g.hl)
  have qZ1 : Row ((W2.setCell ⟨w.heap.size, 3, none⟩ (.int .u16 g.hl2)).setCell ⟨w.heap.size, 7, none⟩ (.int .u16 g.hl)) (w.heap.size + 1) 24 zL := qZ0.far (p := ⟨w.heap.size, 7, none⟩) (by simp) (.int .u16 g.hl)
  have qA := qA1
  have qZ := qZ1
  clear qA0 qZ0 qA1 qZ1
  have HB' := Lib.hid ((HB.out.setCell (p := ⟨w.heap.size, 3, none⟩) (by first | exact Nat.le_refl _ | exact Nat.le_add_right _ _) (.int .u16 g.hl2)).setCell (p := ⟨w.heap.size, 7, none⟩) (by first | exact Nat.le_refl _ | exact Nat.le_add_right _ _) (.int .u16 g.hl))
  go_upto_region 4 with (fail)
  clear lA7 lA3 fA3 fA7 rA rZ HB
  have rA := Lib.hid qA
  have rZ := Lib.hid qZ
  clear qA qZ
  have HB := HB'
  clear HB'
  generalize (W2.setCell ⟨w.heap.size, 3, none⟩ (.int .u16 g.hl2)).setCell ⟨w.heap.size, 7, none⟩ (.int .u16 g.hl) = W3 at *
  obtain ⟨ds, hds⟩ : ∃ ds, ds = (regsC { g with bc := g.bc2, de := g.de2, hl := g.hl2, bc2 := g.bc, de2 := g.de, hl2 := g.hl }) := ⟨_, rfl⟩
  have i24 : Hid ((Tryz.prog.info? 24).map (·.size) = some ds.size) := Lib.hid (by rw [hds]; exact info24)
  have one : Hid (ds.toList.all (·.oneCell') = true) := Lib.hid (by rw [hds]; rfl)
  have hsz : Hid (ds.size = 20) := Lib.hid (by rw [hds]; rfl)
  have HD := Lib.hid hds
  have hR := rA.out
  rw [← hds] at hR
  clear hds
  apply wp_region_lit
  refine wpList_load_row rfl 24 _ rfl _ _ _ rfl hR _ Tryz.underlying24 rfl i24.out ?_
  refine wpList_store_row rfl 24 _ _ rfl (w.heap.size + 1) _ _ ds rfl rfl rZ.out (by rw [hsz.out]; exact Eq.refl 20) i24.out one.out ?_
  have rE := rZ.out.setAll (vs := ds) (by rw [hsz.out]; exact Eq.refl 20)
  have HE9 := Lib.hid (Below.setCellsAll HB.out (b := w.heap.size + 1) (Nat.le_add_right _ _) ds.toList 0)
  generalize W3.setCells (w.heap.size + 1) 0 ds.toList = W9 at *
  apply wpList_nil
  rename_i hret
  refine hret _ _ (wp_ret ?_)
  try simp only [Exit.inBlock, Exit.then]
  refine bodyPost_ret (results_row rfl rfl rE _ Tryz.underlying24 rfl i24.out) rfl ?_
  exact ⟨(congrArg (fun q => Ending.returned (Value.agg q)) HD.out).trans rfl, HE9.out⟩
set_option maxRecDepth 20000 in
set_option maxHeartbeats 4000000 in
theorem setPair_at (g g' : Rg) (p k v : Int) (F : FuncId) (o : Nat) (x : Int)
    (hlk : ∀ {w : World} {M : Nat}, w.heap[M]? = some (.map (pairEnts p) 4) → (Instr.lookup 151 (.map (some M)) (.int .i64 k) true).run Tryz.prog w = .ok (.tuple #[.func (.func F) #[] #[], .bool true]) w)
    (hF : ∀ (b : Nat) (w : World), Calls Tryz.prog F #[.pointer (some ⟨b, 0, none⟩)] w fun e w' => e = .returned (.pointer (some ⟨b, o, none⟩)) ∧ w = w') (hold : (regsC g)[o]? = some (.int .u16 x)) (hnew : (regsC g).setIfInBounds o (.int .u16 v) = regsC g') (hcall : ∀ (args : Array Value) (w : World), (callFunc F args).run Tryz.prog w = .ok (.enter F args) w) (w : World) :
    Calls Tryz.prog 270 #[regsV g, .int .i64 p, .int .i64 k, .int .u16 v] w fun e w' => e = .returned (regsV g') ∧ Below w.heap.size w w' := by
  have kh := Lib.hid (fun w => pairs_any p w)
  obtain ⟨cs, hcs⟩ : ∃ cs, cs = (regsC g) := ⟨_, rfl⟩
  have HE := Lib.hid hcs
  show Calls _ _ #[.agg (regsC g), .int .i64 p, .int .i64 k, .int .u16 v] _ _
  rw [← hcs]
  clear hcs
  go_enter Tryz.func270, Tryz.ntmps270
  go_upto_region 1 with (fail)
  have rA := (Row.new w 24 cs).alloc (.cells zL 24)
  have rZ := Row.new (w.alloc (.cells cs 24)) 24 zL
  rw [show (w.alloc (.cells cs 24)).heap.size = w.heap.size + 1 by simp] at rZ
  have rZ := Lib.hid rZ
  have HB := Lib.hid (((Below.refl w.heap.size w).alloc (Nat.le_refl _) (.cells cs 24)).alloc (by simp) (.cells zL 24))
  have HW := Lib.hid (show ((w.alloc (.cells cs 24)).alloc (.cells zL 24)).heap.size = w.heap.size + 2 by simp)
  generalize (w.alloc (.cells cs 24)).alloc (.cells zL 24) = W0 at *
  rw [HE.out] at rA
  have rA := Lib.hid rA
  have hltA := rA.out.lt
  have hltZ := rZ.out.lt
  go_wp2_with fail
  refine (kh.out _).mono ?_
  rintro e w2 ⟨rfl, rfl⟩
  have hlk := hlk (World.alloc_heap_new W0 (.map (pairEnts p) 4))
  have qA := Lib.hid (rA.out.alloc (.map (pairEnts p) 4))
  have qZ := Lib.hid (rZ.out.alloc (.map (pairEnts p) 4))
  have HB' := Lib.hid (HB.out.alloc HB.out.size (.map (pairEnts p) 4))
  have HW' := Lib.hid (show (W0.alloc (.map (pairEnts p) 4)).heap.size = w.heap.size + 3 by rw [World.size_alloc, HW.out])
  clear HB HW rA rZ
  have HB := HB'
  have HW := HW'
  have rA := qA
  have rZ := qZ
  clear HB' HW' qA qZ
  generalize W0.alloc (.map (pairEnts p) 4) = W1 at *
  generalize W0.heap.size = M at *
  obtain ⟨es, hes⟩ : ∃ es, es = (regsC g) := ⟨_, rfl⟩
  have HS := Lib.hid hes
  have hA := rA.out
  rw [← hes] at hA
  have hA := Lib.hid hA
  have iR : Hid ((Tryz.prog.info? 24).map (·.size) = some es.size) := Lib.hid (by rw [hes]; exact info24)
  have iE : Hid ((Tryz.prog.info? 153).map (·.size) = some es.size) := Lib.hid (by rw [hes]; exact info42)
  have oE : Hid (es.toList.all (·.oneCell') = true) := Lib.hid (by rw [hes]; rfl)
  have sE : Hid (es.size = 20) := Lib.hid (by rw [hes]; rfl)
  clear hes rA
  go_upto_region 5 with (first
    | (refine wpList_load_row rfl 24 _ rfl _ _ _ rfl hA.out _ Tryz.underlying24 rfl iR.out ?_)
    | (refine wpList_store_top rfl 153 _ _ rfl _ _ _ _ es rfl rfl (by simp) (by rw [sE.out]; exact Eq.refl 20) iE.out oE.out ?_))
  have rF := Row.new W1 153 es
  have qA := hA.out.alloc (.cells es 153)
  have qZ := rZ.out.alloc (.cells es 153)
  have HB' := Lib.hid (HB.out.alloc HB.out.size (.cells es 153))
  have HW' := Lib.hid (show (W1.alloc (.cells es 153)).heap.size = w.heap.size + 4 by rw [World.size_alloc, HW.out])
  rw [HW.out] at rF
  rw [HW.out]
  clear HB HW hA rZ hlk
  have HB := HB'
  have HW := HW'
  clear HB' HW'
  generalize W1.alloc (.cells es 153) = W2 at *
  rw [HS.out] at rF qA
  have rF := Lib.hid rF
  have rA := Lib.hid qA
  have rZ := Lib.hid qZ
  clear qA qZ
  have hltF := rF.out.lt
  have lF1 : W2.cell? ⟨w.heap.size + 3, o, none⟩ = some (.int .u16 x) := (rF.out.cell o).trans hold
  have fF1 := rF.out.frozen o
  have qA0 : Row (W2.setCell ⟨w.heap.size + 3, o, none⟩ (.int .u16 v)) (w.heap.size) 24 (regsC g) := rA.out.far (p := ⟨w.heap.size + 3, o, none⟩) (by simp) (.int .u16 v)
  have qZ0 : Row (W2.setCell ⟨w.heap.size + 3, o, none⟩ (.int .u16 v)) (w.heap.size + 1) 24 zL := rZ.out.far (p := ⟨w.heap.size + 3, o, none⟩) (by simp) (.int .u16 v)
  have qF0 : Row (W2.setCell ⟨w.heap.size + 3, o, none⟩ (.int .u16 v)) (w.heap.size + 3) 153 (regsC g') := hnew ▸ rF.out.set o (.int .u16 v)
  have qA := qA0
  have qZ := qZ0
  have qF := qF0
  clear qA0 qZ0 qF0
  have HB' := Lib.hid (HB.out.setCell (p := ⟨w.heap.size + 3, o, none⟩) (by first | exact Nat.le_refl _ | exact Nat.le_add_right _ _) (.int .u16 v))
  go_upto_region 6 with (refine (hF _ _).mono ?_; rintro e w' ⟨rfl, rfl⟩)
  clear lF1 fF1 rA rZ rF HB
  have rA := Lib.hid qA
  have rZ := Lib.hid qZ
  have rF := Lib.hid qF
  clear qA qZ qF
  have HB := HB'
  clear HB'
  generalize W2.setCell ⟨w.heap.size + 3, o, none⟩ (.int .u16 v) = W3 at *
  obtain ⟨ds, hds⟩ : ∃ ds, ds = (regsC g') := ⟨_, rfl⟩
  have i24 : Hid ((Tryz.prog.info? 24).map (·.size) = some ds.size) := Lib.hid (by rw [hds]; exact info24)
  have one : Hid (ds.toList.all (·.oneCell') = true) := Lib.hid (by rw [hds]; rfl)
  have hsz : Hid (ds.size = 20) := Lib.hid (by rw [hds]; rfl)
  have HD := Lib.hid hds
  have hR := rF.out
  rw [← hds] at hR
  clear hds
  apply wp_region_lit
  have i42 : Hid ((Tryz.prog.info? 153).map (·.size) = some ds.size) := Lib.hid (by rw [hsz.out]; exact info42)
  refine wpList_load_row rfl 153 _ rfl _ _ _ rfl hR _ Tryz.underlying153 rfl i42.out ?_
  refine wpList_store_row rfl 24 _ _ rfl (w.heap.size + 1) _ _ ds rfl rfl rZ.out (by rw [hsz.out]; exact Eq.refl 20) i24.out one.out ?_
  have rE := rZ.out.setAll (vs := ds) (by rw [hsz.out]; exact Eq.refl 20)
  have HE9 := Lib.hid (Below.setCellsAll HB.out (b := w.heap.size + 1) (Nat.le_add_right _ _) ds.toList 0)
  generalize W3.setCells (w.heap.size + 1) 0 ds.toList = W9 at *
  apply wpList_nil
  rename_i hret
  refine hret _ _ (wp_ret ?_)
  try simp only [Exit.inBlock, Exit.then]
  refine bodyPost_ret (results_row rfl rfl rE _ Tryz.underlying24 rfl i24.out) rfl ?_
  exact ⟨(congrArg (fun q => Ending.returned (Value.agg q)) HD.out).trans rfl, HE9.out⟩
theorem setPair_0bc (g : Rg) (p v : Int) (w : World) :
    Calls Tryz.prog 270 #[regsV g, .int .i64 p, .int .i64 0, .int .u16 v] w fun e w' => e = .returned (regsV ({ g with bc := v })) ∧ Below w.heap.size w w' :=
  setPair_at g _ p 0 v _ 1 g.bc lkp_0 (fun b w => fbc_any b w) rfl rfl (fun _ _ => by kernel_rfl) w
theorem setPair_1de (g : Rg) (p v : Int) (w : World) :
    Calls Tryz.prog 270 #[regsV g, .int .i64 p, .int .i64 1, .int .u16 v] w fun e w' => e = .returned (regsV ({ g with de := v })) ∧ Below w.heap.size w w' :=
  setPair_at g _ p 1 v _ 2 g.de lkp_1 (fun b w => fde_any b w) rfl rfl (fun _ _ => by kernel_rfl) w
theorem setPair_2ix (g : Rg) (p v : Int) (hF : thirdF p = 306) (w : World) :
    Calls Tryz.prog 270 #[regsV g, .int .i64 p, .int .i64 2, .int .u16 v] w fun e w' => e = .returned (regsV ({ g with ix := v })) ∧ Below w.heap.size w w' :=
  setPair_at g _ p 2 v _ 8 g.ix (lkp_2 hF) (fun b w => fix_any b w) rfl rfl (fun _ _ => by kernel_rfl) w
theorem setPair_2iy (g : Rg) (p v : Int) (hF : thirdF p = 307) (w : World) :
    Calls Tryz.prog 270 #[regsV g, .int .i64 p, .int .i64 2, .int .u16 v] w fun e w' => e = .returned (regsV ({ g with iy := v })) ∧ Below w.heap.size w w' :=
  setPair_at g _ p 2 v _ 9 g.iy (lkp_2 hF) (fun b w => fiy_any b w) rfl rfl (fun _ _ => by kernel_rfl) w
theorem setPair_2hl (g : Rg) (p v : Int) (hF : thirdF p = 308) (w : World) :
    Calls Tryz.prog 270 #[regsV g, .int .i64 p, .int .i64 2, .int .u16 v] w fun e w' => e = .returned (regsV ({ g with hl := v })) ∧ Below w.heap.size w w' :=
  setPair_at g _ p 2 v _ 3 g.hl (lkp_2 hF) (fun b w => fhl_any b w) rfl rfl (fun _ _ => by kernel_rfl) w
theorem setPair_3sp (g : Rg) (p v : Int) (w : World) :
    Calls Tryz.prog 270 #[regsV g, .int .i64 p, .int .i64 3, .int .u16 v] w fun e w' => e = .returned (regsV ({ g with sp := v })) ∧ Below w.heap.size w w' :=
  setPair_at g _ p 3 v _ 10 g.sp lkp_3 (fun b w => fsp_any b w) rfl rfl (fun _ _ => by kernel_rfl) w
set_option maxRecDepth 20000 in
set_option maxHeartbeats 4000000 in
theorem setPair_no (g : Rg) (p k v : Int) (hk : k < 0 ∨ 3 < k) (w : World) :
    Calls Tryz.prog 270 #[regsV g, .int .i64 p, .int .i64 k, .int .u16 v] w fun e w' => e = .returned (regsV (g)) ∧ Below w.heap.size w w' := by
  obtain ⟨af, bc, de, hl, af2, bc2, de2, hl2, ix, iy, sp, pc, wz, i, r, iff1, iff2, halted, late, mode⟩ := g
  have kh := Lib.hid (fun w => pairs_any p w)
  have hk := Lib.hid hk
  obtain ⟨cs, hcs⟩ : ∃ cs, cs = (#[.int .u16 af, .int .u16 bc, .int .u16 de, .int .u16 hl, .int .u16 af2, .int .u16 bc2, .int .u16 de2, .int .u16 hl2, .int .u16 ix, .int .u16 iy, .int .u16 sp, .int .u16 pc, .int .u16 wz, .int .u8 i, .int .u8 r, .bool iff1, .bool iff2, .bool halted, .bool late, .int .i64 mode] : Array Value) := ⟨_, rfl⟩
  have HE := Lib.hid hcs
  show Calls _ _ #[.agg (#[.int .u16 af, .int .u16 bc, .int .u16 de, .int .u16 hl, .int .u16 af2, .int .u16 bc2, .int .u16 de2, .int .u16 hl2, .int .u16 ix, .int .u16 iy, .int .u16 sp, .int .u16 pc, .int .u16 wz, .int .u8 i, .int .u8 r, .bool iff1, .bool iff2, .bool halted, .bool late, .int .i64 mode] : Array Value), .int .i64 p, .int .i64 k, .int .u16 v] _ _
  rw [← hcs]
  clear hcs
  go_enter Tryz.func270, Tryz.ntmps270
  go_upto_region 1 with (fail)
  have rA := (Row.new w 24 cs).alloc (.cells zL 24)
  have rZ := Row.new (w.alloc (.cells cs 24)) 24 zL
  rw [show (w.alloc (.cells cs 24)).heap.size = w.heap.size + 1 by simp] at rZ
  have rZ := Lib.hid rZ
  have HB := Lib.hid (((Below.refl w.heap.size w).alloc (Nat.le_refl _) (.cells cs 24)).alloc (by simp) (.cells zL 24))
  have HW := Lib.hid (show ((w.alloc (.cells cs 24)).alloc (.cells zL 24)).heap.size = w.heap.size + 2 by simp)
  generalize (w.alloc (.cells cs 24)).alloc (.cells zL 24) = W0 at *
  rw [HE.out] at rA
  have rA := Lib.hid rA
  have hltA := rA.out.lt
  have hltZ := rZ.out.lt
  go_wp2_with fail
  refine (kh.out _).mono ?_
  rintro e w2 ⟨rfl, rfl⟩
  have hlk := lkp_no (p := p) hk.out (World.alloc_heap_new W0 (.map (pairEnts p) 4))
  have qA := Lib.hid (rA.out.alloc (.map (pairEnts p) 4))
  have qZ := Lib.hid (rZ.out.alloc (.map (pairEnts p) 4))
  have HB' := Lib.hid (HB.out.alloc HB.out.size (.map (pairEnts p) 4))
  have HW' := Lib.hid (show (W0.alloc (.map (pairEnts p) 4)).heap.size = w.heap.size + 3 by rw [World.size_alloc, HW.out])
  clear HB HW rA rZ
  have HB := HB'
  have HW := HW'
  have rA := qA
  have rZ := qZ
  clear HB' HW' qA qZ
  generalize W0.alloc (.map (pairEnts p) 4) = W1 at *
  generalize W0.heap.size = M at *
  go_upto_region 3 with (fail)
  obtain ⟨ds, hds⟩ : ∃ ds, ds = (#[.int .u16 af, .int .u16 bc, .int .u16 de, .int .u16 hl, .int .u16 af2, .int .u16 bc2, .int .u16 de2, .int .u16 hl2, .int .u16 ix, .int .u16 iy, .int .u16 sp, .int .u16 pc, .int .u16 wz, .int .u8 i, .int .u8 r, .bool iff1, .bool iff2, .bool halted, .bool late, .int .i64 mode] : Array Value) := ⟨_, rfl⟩
  have i24 : Hid ((Tryz.prog.info? 24).map (·.size) = some ds.size) := Lib.hid (by rw [hds]; exact info24)
  have one : Hid (ds.toList.all (·.oneCell') = true) := Lib.hid (by rw [hds]; rfl)
  have hsz : Hid (ds.size = 20) := Lib.hid (by rw [hds]; rfl)
  have HD := Lib.hid hds
  have hR := rA.out
  rw [← hds] at hR
  clear hds
  apply wp_region_lit
  refine wpList_load_row rfl 24 _ rfl _ _ _ rfl hR _ Tryz.underlying24 rfl i24.out ?_
  refine wpList_store_row rfl 24 _ _ rfl (w.heap.size + 1) _ _ ds rfl rfl rZ.out (by rw [hsz.out]; exact Eq.refl 20) i24.out one.out ?_
  have rE := rZ.out.setAll (vs := ds) (by rw [hsz.out]; exact Eq.refl 20)
  have HE9 := Lib.hid (Below.setCellsAll HB.out (b := w.heap.size + 1) (Nat.le_add_right _ _) ds.toList 0)
  generalize W1.setCells (w.heap.size + 1) 0 ds.toList = W9 at *
  apply wpList_nil
  rename_i hret
  refine hret _ _ (wp_ret ?_)
  try simp only [Exit.inBlock, Exit.then]
  refine bodyPost_ret (results_row rfl rfl rE _ Tryz.underlying24 rfl i24.out) rfl ?_
  exact ⟨(congrArg (fun q => Ending.returned (Value.agg q)) HD.out).trans rfl, HE9.out⟩
theorem setPairG_no (g : Rg) (p k v : Int) (h : k < 0 ∨ 3 < k) : setPairG g p k v = g := by
  unfold setPairG
  rw [if_neg (by omega), if_neg (by omega), if_neg (by omega), if_neg (by omega)]
theorem setPairG_2 (g : Rg) (p v : Int) : setPairG g p 2 v = if p = 3 then { g with ix := v } else if p = 4 then { g with iy := v } else { g with hl := v } := rfl
theorem setPair_any (g : Rg) (p k v : Int) (w : World) :
    Calls Tryz.prog 270 #[regsV g, .int .i64 p, .int .i64 k, .int .u16 v] w fun e w' => e = .returned (regsV (setPairG g p k v)) ∧ Below w.heap.size w w' := by
  by_cases hn : k < 0 ∨ 3 < k
  · rw [setPairG_no g p k v hn]
    exact setPair_no g p k v hn w
  obtain rfl | rfl | rfl | rfl : k = 0 ∨ k = 1 ∨ k = 2 ∨ k = 3 := by omega
  · exact setPair_0bc g p v w
  · exact setPair_1de g p v w
  · rw [setPairG_2]
    by_cases h3 : p = 3
    · rw [if_pos h3]
      exact setPair_2ix g p v (thirdF_dd h3) w
    by_cases h4 : p = 4
    · rw [if_neg h3, if_pos h4]
      exact setPair_2iy g p v (thirdF_fd h3 h4) w
    · rw [if_neg h3, if_neg h4]
      exact setPair_2hl g p v (thirdF_hl h3 h4) w
  · exact setPair_3sp g p v w
set_option maxRecDepth 20000 in
set_option maxHeartbeats 4000000 in
theorem setter_hi (q : Option Addr) (w : World) : Calls Tryz.prog 283 #[.pointer q, .bool true] w fun e w' => e = .returned (.func (.func 302) #[] #[.pointer (some ⟨w.heap.size, 0, none⟩)]) ∧ w' = w.alloc (.cells #[.pointer q] 154) := by
  go_enter Tryz.func283, Tryz.ntmps283
  go_wp2
  go_ret
  exact ⟨rfl, rfl⟩
set_option maxRecDepth 20000 in
set_option maxHeartbeats 4000000 in
theorem setter_lo (q : Option Addr) (w : World) : Calls Tryz.prog 283 #[.pointer q, .bool false] w fun e w' => e = .returned (.func (.func 303) #[] #[.pointer (some ⟨w.heap.size, 0, none⟩)]) ∧ w' = w.alloc (.cells #[.pointer q] 154) := by
  go_enter Tryz.func283, Tryz.ntmps283
  go_wp2
  go_ret
  exact ⟨rfl, rfl⟩
set_option maxRecDepth 20000 in
set_option maxHeartbeats 4000000 in
theorem setHi_any (B b o : Nat) (x v : Int) (hx : Wd16 x) (hv : B8 v) (w : World) (h0 : w.cell? ⟨B, 0, none⟩ = some (.pointer (some ⟨b, o, none⟩))) (h1 : w.cell? ⟨b, o, none⟩ = some (.int .u16 x)) (h2 : w.frozen? ⟨b, o, none⟩ = false) :
    Calls Tryz.prog 302 #[.int .u8 v, .pointer (some ⟨B, 0, none⟩)] w fun e w' => e = .returned (.tuple #[]) ∧ w' = (w.setCell ⟨b, o, none⟩ (.int .u16 (256 * v + x % 256))).drew := by
  have k1 := Lib.hid (fun w => lo_any x hx.1 hx.2 w)
  have k2 := Lib.hid (fun w => word_any v (x % 256) hv.1 hv.2 (by omega) (by omega) w)
  clear hx hv
  go_enter Tryz.func302, Tryz.ntmps302
  go_still_tail 8, (by kernel_rfl)
  still_call ((k1.out _).mono fun e w' h => ⟨h.1, h.2.symm⟩)
  repeat still_step
  still_call ((k2.out _).mono fun e w' h => ⟨h.1, h.2.symm⟩)
  repeat still_step
  refine wpStill_nil ?_
  change wpList _ _ _ _ _ w.drew
  go_wp2
  go_end0
  exact ⟨rfl, rfl⟩
set_option maxRecDepth 20000 in
set_option maxHeartbeats 4000000 in
theorem setLo_any (B b o : Nat) (x v : Int) (hx : Wd16 x) (hv : B8 v) (w : World) (h0 : w.cell? ⟨B, 0, none⟩ = some (.pointer (some ⟨b, o, none⟩))) (h1 : w.cell? ⟨b, o, none⟩ = some (.int .u16 x)) (h2 : w.frozen? ⟨b, o, none⟩ = false) :
    Calls Tryz.prog 303 #[.int .u8 v, .pointer (some ⟨B, 0, none⟩)] w fun e w' => e = .returned (.tuple #[]) ∧ w' = (w.setCell ⟨b, o, none⟩ (.int .u16 (256 * (x / 256) + v))).drew := by
  have k1 := Lib.hid (fun w => hi_any x hx.1 hx.2 w)
  have k2 := Lib.hid (fun w => word_any (x / 256) v (by have := hx.1; omega) (by have := hx.2; omega) hv.1 hv.2 w)
  clear hx hv
  go_enter Tryz.func303, Tryz.ntmps303
  go_still_tail 8, (by kernel_rfl)
  still_call ((k1.out _).mono fun e w' h => ⟨h.1, h.2.symm⟩)
  repeat still_step
  still_call ((k2.out _).mono fun e w' h => ⟨h.1, h.2.symm⟩)
  repeat still_step
  refine wpStill_nil ?_
  change wpList _ _ _ _ _ w.drew
  go_wp2
  go_end0
  exact ⟨rfl, rfl⟩
set_option maxRecDepth 20000 in
set_option maxHeartbeats 4000000 in
theorem set_hi (g g' : Rg) (p k v : Int) (F : FuncId) (o : Nat) (x : Int)
    (hlk : ∀ {w : World} {M : Nat}, w.heap[M]? = some (.map (halfEnts p) 7) → (Instr.lookup 161 (.map (some M)) (.int .i64 k) true).run Tryz.prog w = .ok (.tuple #[halfV (.func (.func F) #[] #[]) true, .bool true]) w)
    (hF : ∀ (b : Nat) (w : World), Calls Tryz.prog F #[.pointer (some ⟨b, 0, none⟩)] w fun e w' => e = .returned (.pointer (some ⟨b, o, none⟩)) ∧ w = w') (hold : (regsC g)[o]? = some (.int .u16 x)) (hnew : (regsC g).setIfInBounds o (.int .u16 (256 * v + x % 256)) = regsC g') (hx : Wd16 x) (hv : B8 v) (hcall : ∀ (args : Array Value) (w : World), (callFunc F args).run Tryz.prog w = .ok (.enter F args) w) (w : World) :
    Calls Tryz.prog 234 #[regsV g, .int .i64 p, .int .i64 k, .int .u8 v] w fun e w' => e = .returned (regsV g') ∧ Below w.heap.size w w' := by
  have kh := Lib.hid (fun w => halves_any p w)
  have kx := Lib.hid hx
  have kv := Lib.hid hv
  clear hx hv
  obtain ⟨cs, hcs⟩ : ∃ cs, cs = (regsC g) := ⟨_, rfl⟩
  have HE := Lib.hid hcs
  show Calls _ _ #[.agg (regsC g), .int .i64 p, .int .i64 k, .int .u8 v] _ _
  rw [← hcs]
  clear hcs
  go_enter Tryz.func234, Tryz.ntmps234
  go_upto_region 1 with (fail)
  have rA := (Row.new w 24 cs).alloc (.cells zL 24)
  have rZ := Row.new (w.alloc (.cells cs 24)) 24 zL
  rw [show (w.alloc (.cells cs 24)).heap.size = w.heap.size + 1 by simp] at rZ
  have rZ := Lib.hid rZ
  have HB := Lib.hid (((Below.refl w.heap.size w).alloc (Nat.le_refl _) (.cells cs 24)).alloc (by simp) (.cells zL 24))
  have HW := Lib.hid (show ((w.alloc (.cells cs 24)).alloc (.cells zL 24)).heap.size = w.heap.size + 2 by simp)
  generalize (w.alloc (.cells cs 24)).alloc (.cells zL 24) = W0 at *
  rw [HE.out] at rA
  have rA := Lib.hid rA
  have hltA := rA.out.lt
  have hltZ := rZ.out.lt
  go_wp2_with fail
  refine (kh.out _).mono ?_
  rintro e w2 ⟨rfl, rfl⟩
  have hlk := hlk (World.alloc_heap_new W0 (.map (halfEnts p) 7))
  have qA := Lib.hid (rA.out.alloc (.map (halfEnts p) 7))
  have qZ := Lib.hid (rZ.out.alloc (.map (halfEnts p) 7))
  have HB' := Lib.hid (HB.out.alloc HB.out.size (.map (halfEnts p) 7))
  have HW' := Lib.hid (show (W0.alloc (.map (halfEnts p) 7)).heap.size = w.heap.size + 3 by rw [World.size_alloc, HW.out])
  clear HB HW rA rZ
  have HB := HB'
  have HW := HW'
  have rA := qA
  have rZ := qZ
  clear HB' HW' qA qZ
  generalize W0.alloc (.map (halfEnts p) 7) = W1 at *
  generalize W0.heap.size = M at *
  go_upto_region 2 with (fail)
  have rH := Row.new W1 159 (#[(.func (.func F) #[] #[]), .bool true] : Array Value)
  rw [HW.out] at rH
  rw [HW.out]
  have rH := Lib.hid rH
  have qA := Lib.hid (rA.out.alloc (.cells (#[(.func (.func F) #[] #[]), .bool true] : Array Value) 159))
  have qZ := Lib.hid (rZ.out.alloc (.cells (#[(.func (.func F) #[] #[]), .bool true] : Array Value) 159))
  have HB' := Lib.hid (HB.out.alloc HB.out.size (.cells (#[(.func (.func F) #[] #[]), .bool true] : Array Value) 159))
  have HW' := Lib.hid (show (W1.alloc (.cells (#[(.func (.func F) #[] #[]), .bool true] : Array Value) 159)).heap.size = w.heap.size + 4 by rw [World.size_alloc, HW.out])
  clear HB HW rA rZ
  have HB := HB'
  have HW := HW'
  have rA := qA
  have rZ := qZ
  clear HB' HW' qA qZ
  generalize W1.alloc (.cells (#[(.func (.func F) #[] #[]), .bool true] : Array Value) 159) = W2 at *
  obtain ⟨es, hes⟩ : ∃ es, es = (regsC g) := ⟨_, rfl⟩
  have HS := Lib.hid hes
  have hA := rA.out
  rw [← hes] at hA
  have hA := Lib.hid hA
  have iR : Hid ((Tryz.prog.info? 24).map (·.size) = some es.size) := Lib.hid (by rw [hes]; exact info24)
  have iE : Hid ((Tryz.prog.info? 153).map (·.size) = some es.size) := Lib.hid (by rw [hes]; exact info42)
  have oE : Hid (es.toList.all (·.oneCell') = true) := Lib.hid (by rw [hes]; rfl)
  have sE : Hid (es.size = 20) := Lib.hid (by rw [hes]; rfl)
  clear hes rA
  go_upto_region 5 with (first
    | (refine wpList_load_row rfl 24 _ rfl _ _ _ rfl hA.out _ Tryz.underlying24 rfl iR.out ?_)
    | (refine wpList_store_top rfl 153 _ _ rfl _ _ _ _ es rfl rfl (by simp) (by rw [sE.out]; exact Eq.refl 20) iE.out oE.out ?_))
  have rF := Row.new W2 153 es
  have qA := hA.out.alloc (.cells es 153)
  have qZ := rZ.out.alloc (.cells es 153)
  have qH := rH.out.alloc (.cells es 153)
  have HB' := Lib.hid (HB.out.alloc HB.out.size (.cells es 153))
  have HW' := Lib.hid (show (W2.alloc (.cells es 153)).heap.size = w.heap.size + 5 by rw [World.size_alloc, HW.out])
  rw [HW.out] at rF
  rw [HW.out]
  clear HB HW hA rZ rH hlk
  have HB := HB'
  have HW := HW'
  clear HB' HW'
  generalize W2.alloc (.cells es 153) = W3 at *
  rw [HS.out] at rF qA
  have rF := Lib.hid rF
  have rA := Lib.hid qA
  have rZ := Lib.hid qZ
  have rH := Lib.hid qH
  clear qA qZ qH
  have hltF := rF.out.lt
  have l0 := rH.out.cell 0
  have l1 := rH.out.cell 1
  go_upto_region 5 with (fail)
  have q0 := Row.new W3.drew 154 #[.pointer (some ⟨w.heap.size + 4, o, none⟩)]
  have qF : Row (W3.drew.alloc (.cells #[.pointer (some ⟨w.heap.size + 4, o, none⟩)] 154)) (w.heap.size + 4) 153 (regsC g) := Row.alloc (w := W3.drew) rF.out (.cells #[.pointer (some ⟨w.heap.size + 4, o, none⟩)] 154)
  have qZ : Row (W3.drew.alloc (.cells #[.pointer (some ⟨w.heap.size + 4, o, none⟩)] 154)) (w.heap.size + 1) 24 zL := Row.alloc (w := W3.drew) rZ.out (.cells #[.pointer (some ⟨w.heap.size + 4, o, none⟩)] 154)
  have h0 := q0.cell 0
  have h1 : (W3.drew.alloc (.cells #[.pointer (some ⟨w.heap.size + 4, o, none⟩)] 154)).cell? ⟨w.heap.size + 4, o, none⟩ = some (.int .u16 x) := (qF.cell o).trans hold
  have h2 := qF.frozen o
  have kk := Lib.hid (setHi_any W3.drew.heap.size (w.heap.size + 4) o x v kx.out kv.out (W3.drew.alloc (.cells #[.pointer (some ⟨w.heap.size + 4, o, none⟩)] 154)) h0 h1 h2)
  have uF : Row ((W3.setCell ⟨w.heap.size + 4, o, none⟩ (.int .u16 (256 * v + x % 256))).alloc (.cells #[.pointer (some ⟨w.heap.size + 4, o, none⟩)] 154)).drew.drew (w.heap.size + 4) 153 (regsC g') := hnew ▸ Row.alloc (w := W3.setCell ⟨w.heap.size + 4, o, none⟩ (.int .u16 (256 * v + x % 256))) (rF.out.set o (.int .u16 (256 * v + x % 256))) (.cells #[.pointer (some ⟨w.heap.size + 4, o, none⟩)] 154)
  have uF := Lib.hid uF
  have uZ : Row ((W3.setCell ⟨w.heap.size + 4, o, none⟩ (.int .u16 (256 * v + x % 256))).alloc (.cells #[.pointer (some ⟨w.heap.size + 4, o, none⟩)] 154)).drew.drew (w.heap.size + 1) 24 zL := Row.alloc (w := W3.setCell ⟨w.heap.size + 4, o, none⟩ (.int .u16 (256 * v + x % 256))) (rZ.out.far (p := ⟨w.heap.size + 4, o, none⟩) (by simp) (.int .u16 (256 * v + x % 256))) (.cells #[.pointer (some ⟨w.heap.size + 4, o, none⟩)] 154)
  have uZ := Lib.hid uZ
  have HB1 := HB.out.setCell (p := ⟨w.heap.size + 4, o, none⟩) (Nat.le_add_right _ _) (.int .u16 (256 * v + x % 256))
  have HB' : Hid (Below w.heap.size w ((W3.setCell ⟨w.heap.size + 4, o, none⟩ (.int .u16 (256 * v + x % 256))).alloc (.cells #[.pointer (some ⟨w.heap.size + 4, o, none⟩)] 154)).drew.drew) := Lib.hid ((HB1.alloc HB1.size (.cells #[.pointer (some ⟨w.heap.size + 4, o, none⟩)] 154)).drew.drew)
  clear HB1
  clear q0 h0 h1 h2 qF qZ rF rZ rA rH HB HW
  go_region_with (first
    | (go_at_call 283; refine (setter_hi _ _).mono ?_; rintro e w' ⟨rfl, rfl⟩)
    | (go_at_call 302; refine kk.out.mono ?_; rintro e w' ⟨rfl, rfl⟩)
    | (refine (hF _ _).mono ?_; rintro e w' ⟨rfl, rfl⟩))
  all_goals clear kk
  all_goals
    have rF := uF
    have rZ := uZ
    have HB := HB'
    clear uF uZ HB' l0 l1
    generalize ((W3.setCell ⟨w.heap.size + 4, o, none⟩ (.int .u16 (256 * v + x % 256))).alloc (.cells #[.pointer (some ⟨w.heap.size + 4, o, none⟩)] 154)).drew.drew = W9' at *
    go_upto_region 6 with (fail)
    obtain ⟨ds, hds⟩ : ∃ ds, ds = regsC g' := ⟨_, rfl⟩
    have i24 : Hid ((Tryz.prog.info? 24).map (·.size) = some ds.size) := Lib.hid (by rw [hds]; exact info24)
    have one : Hid (ds.toList.all (·.oneCell') = true) := Lib.hid (by rw [hds]; rfl)
    have hsz : Hid (ds.size = 20) := Lib.hid (by rw [hds]; rfl)
    have HD := Lib.hid hds
    have hR := rF.out
    rw [← hds] at hR
    clear hds
    apply wp_region_lit
    have i42 : Hid ((Tryz.prog.info? 153).map (·.size) = some ds.size) := Lib.hid (by rw [hsz.out]; exact info42)
    refine wpList_load_row rfl 153 _ rfl _ _ _ rfl hR _ Tryz.underlying153 rfl i42.out ?_
    refine wpList_store_row rfl 24 _ _ rfl (w.heap.size + 1) _ _ ds rfl rfl rZ.out (by rw [hsz.out]; exact Eq.refl 20) i24.out one.out ?_
    have rE := rZ.out.setAll (vs := ds) (by rw [hsz.out]; exact Eq.refl 20)
    have HE9 := Lib.hid (Below.setCellsAll HB.out (b := w.heap.size + 1) (Nat.le_add_right _ _) ds.toList 0)
    generalize W9'.setCells (w.heap.size + 1) 0 ds.toList = W9 at *
    apply wpList_nil
    rename_i hret
    refine hret _ _ (wp_ret ?_)
    try simp only [Exit.inBlock, Exit.then]
    refine bodyPost_ret (results_row rfl rfl rE _ Tryz.underlying24 rfl i24.out) rfl ?_
    exact ⟨(congrArg (fun q => Ending.returned (Value.agg q)) HD.out).trans rfl, HE9.out⟩
set_option maxRecDepth 20000 in
set_option maxHeartbeats 4000000 in
theorem set_lo (g g' : Rg) (p k v : Int) (F : FuncId) (o : Nat) (x : Int)
    (hlk : ∀ {w : World} {M : Nat}, w.heap[M]? = some (.map (halfEnts p) 7) → (Instr.lookup 161 (.map (some M)) (.int .i64 k) true).run Tryz.prog w = .ok (.tuple #[halfV (.func (.func F) #[] #[]) false, .bool true]) w)
    (hF : ∀ (b : Nat) (w : World), Calls Tryz.prog F #[.pointer (some ⟨b, 0, none⟩)] w fun e w' => e = .returned (.pointer (some ⟨b, o, none⟩)) ∧ w = w') (hold : (regsC g)[o]? = some (.int .u16 x)) (hnew : (regsC g).setIfInBounds o (.int .u16 (256 * (x / 256) + v)) = regsC g') (hx : Wd16 x) (hv : B8 v) (hcall : ∀ (args : Array Value) (w : World), (callFunc F args).run Tryz.prog w = .ok (.enter F args) w) (w : World) :
    Calls Tryz.prog 234 #[regsV g, .int .i64 p, .int .i64 k, .int .u8 v] w fun e w' => e = .returned (regsV g') ∧ Below w.heap.size w w' := by
  have kh := Lib.hid (fun w => halves_any p w)
  have kx := Lib.hid hx
  have kv := Lib.hid hv
  clear hx hv
  obtain ⟨cs, hcs⟩ : ∃ cs, cs = (regsC g) := ⟨_, rfl⟩
  have HE := Lib.hid hcs
  show Calls _ _ #[.agg (regsC g), .int .i64 p, .int .i64 k, .int .u8 v] _ _
  rw [← hcs]
  clear hcs
  go_enter Tryz.func234, Tryz.ntmps234
  go_upto_region 1 with (fail)
  have rA := (Row.new w 24 cs).alloc (.cells zL 24)
  have rZ := Row.new (w.alloc (.cells cs 24)) 24 zL
  rw [show (w.alloc (.cells cs 24)).heap.size = w.heap.size + 1 by simp] at rZ
  have rZ := Lib.hid rZ
  have HB := Lib.hid (((Below.refl w.heap.size w).alloc (Nat.le_refl _) (.cells cs 24)).alloc (by simp) (.cells zL 24))
  have HW := Lib.hid (show ((w.alloc (.cells cs 24)).alloc (.cells zL 24)).heap.size = w.heap.size + 2 by simp)
  generalize (w.alloc (.cells cs 24)).alloc (.cells zL 24) = W0 at *
  rw [HE.out] at rA
  have rA := Lib.hid rA
  have hltA := rA.out.lt
  have hltZ := rZ.out.lt
  go_wp2_with fail
  refine (kh.out _).mono ?_
  rintro e w2 ⟨rfl, rfl⟩
  have hlk := hlk (World.alloc_heap_new W0 (.map (halfEnts p) 7))
  have qA := Lib.hid (rA.out.alloc (.map (halfEnts p) 7))
  have qZ := Lib.hid (rZ.out.alloc (.map (halfEnts p) 7))
  have HB' := Lib.hid (HB.out.alloc HB.out.size (.map (halfEnts p) 7))
  have HW' := Lib.hid (show (W0.alloc (.map (halfEnts p) 7)).heap.size = w.heap.size + 3 by rw [World.size_alloc, HW.out])
  clear HB HW rA rZ
  have HB := HB'
  have HW := HW'
  have rA := qA
  have rZ := qZ
  clear HB' HW' qA qZ
  generalize W0.alloc (.map (halfEnts p) 7) = W1 at *
  generalize W0.heap.size = M at *
  go_upto_region 2 with (fail)
  have rH := Row.new W1 159 (#[(.func (.func F) #[] #[]), .bool false] : Array Value)
  rw [HW.out] at rH
  rw [HW.out]
  have rH := Lib.hid rH
  have qA := Lib.hid (rA.out.alloc (.cells (#[(.func (.func F) #[] #[]), .bool false] : Array Value) 159))
  have qZ := Lib.hid (rZ.out.alloc (.cells (#[(.func (.func F) #[] #[]), .bool false] : Array Value) 159))
  have HB' := Lib.hid (HB.out.alloc HB.out.size (.cells (#[(.func (.func F) #[] #[]), .bool false] : Array Value) 159))
  have HW' := Lib.hid (show (W1.alloc (.cells (#[(.func (.func F) #[] #[]), .bool false] : Array Value) 159)).heap.size = w.heap.size + 4 by rw [World.size_alloc, HW.out])
  clear HB HW rA rZ
  have HB := HB'
  have HW := HW'
  have rA := qA
  have rZ := qZ
  clear HB' HW' qA qZ
  generalize W1.alloc (.cells (#[(.func (.func F) #[] #[]), .bool false] : Array Value) 159) = W2 at *
  obtain ⟨es, hes⟩ : ∃ es, es = (regsC g) := ⟨_, rfl⟩
  have HS := Lib.hid hes
  have hA := rA.out
  rw [← hes] at hA
  have hA := Lib.hid hA
  have iR : Hid ((Tryz.prog.info? 24).map (·.size) = some es.size) := Lib.hid (by rw [hes]; exact info24)
  have iE : Hid ((Tryz.prog.info? 153).map (·.size) = some es.size) := Lib.hid (by rw [hes]; exact info42)
  have oE : Hid (es.toList.all (·.oneCell') = true) := Lib.hid (by rw [hes]; rfl)
  have sE : Hid (es.size = 20) := Lib.hid (by rw [hes]; rfl)
  clear hes rA
  go_upto_region 5 with (first
    | (refine wpList_load_row rfl 24 _ rfl _ _ _ rfl hA.out _ Tryz.underlying24 rfl iR.out ?_)
    | (refine wpList_store_top rfl 153 _ _ rfl _ _ _ _ es rfl rfl (by simp) (by rw [sE.out]; exact Eq.refl 20) iE.out oE.out ?_))
  have rF := Row.new W2 153 es
  have qA := hA.out.alloc (.cells es 153)
  have qZ := rZ.out.alloc (.cells es 153)
  have qH := rH.out.alloc (.cells es 153)
  have HB' := Lib.hid (HB.out.alloc HB.out.size (.cells es 153))
  have HW' := Lib.hid (show (W2.alloc (.cells es 153)).heap.size = w.heap.size + 5 by rw [World.size_alloc, HW.out])
  rw [HW.out] at rF
  rw [HW.out]
  clear HB HW hA rZ rH hlk
  have HB := HB'
  have HW := HW'
  clear HB' HW'
  generalize W2.alloc (.cells es 153) = W3 at *
  rw [HS.out] at rF qA
  have rF := Lib.hid rF
  have rA := Lib.hid qA
  have rZ := Lib.hid qZ
  have rH := Lib.hid qH
  clear qA qZ qH
  have hltF := rF.out.lt
  have l0 := rH.out.cell 0
  have l1 := rH.out.cell 1
  go_upto_region 5 with (fail)
  have q0 := Row.new W3.drew 154 #[.pointer (some ⟨w.heap.size + 4, o, none⟩)]
  have qF : Row (W3.drew.alloc (.cells #[.pointer (some ⟨w.heap.size + 4, o, none⟩)] 154)) (w.heap.size + 4) 153 (regsC g) := Row.alloc (w := W3.drew) rF.out (.cells #[.pointer (some ⟨w.heap.size + 4, o, none⟩)] 154)
  have qZ : Row (W3.drew.alloc (.cells #[.pointer (some ⟨w.heap.size + 4, o, none⟩)] 154)) (w.heap.size + 1) 24 zL := Row.alloc (w := W3.drew) rZ.out (.cells #[.pointer (some ⟨w.heap.size + 4, o, none⟩)] 154)
  have h0 := q0.cell 0
  have h1 : (W3.drew.alloc (.cells #[.pointer (some ⟨w.heap.size + 4, o, none⟩)] 154)).cell? ⟨w.heap.size + 4, o, none⟩ = some (.int .u16 x) := (qF.cell o).trans hold
  have h2 := qF.frozen o
  have kk := Lib.hid (setLo_any W3.drew.heap.size (w.heap.size + 4) o x v kx.out kv.out (W3.drew.alloc (.cells #[.pointer (some ⟨w.heap.size + 4, o, none⟩)] 154)) h0 h1 h2)
  have uF : Row ((W3.setCell ⟨w.heap.size + 4, o, none⟩ (.int .u16 (256 * (x / 256) + v))).alloc (.cells #[.pointer (some ⟨w.heap.size + 4, o, none⟩)] 154)).drew.drew (w.heap.size + 4) 153 (regsC g') := hnew ▸ Row.alloc (w := W3.setCell ⟨w.heap.size + 4, o, none⟩ (.int .u16 (256 * (x / 256) + v))) (rF.out.set o (.int .u16 (256 * (x / 256) + v))) (.cells #[.pointer (some ⟨w.heap.size + 4, o, none⟩)] 154)
  have uF := Lib.hid uF
  have uZ : Row ((W3.setCell ⟨w.heap.size + 4, o, none⟩ (.int .u16 (256 * (x / 256) + v))).alloc (.cells #[.pointer (some ⟨w.heap.size + 4, o, none⟩)] 154)).drew.drew (w.heap.size + 1) 24 zL := Row.alloc (w := W3.setCell ⟨w.heap.size + 4, o, none⟩ (.int .u16 (256 * (x / 256) + v))) (rZ.out.far (p := ⟨w.heap.size + 4, o, none⟩) (by simp) (.int .u16 (256 * (x / 256) + v))) (.cells #[.pointer (some ⟨w.heap.size + 4, o, none⟩)] 154)
  have uZ := Lib.hid uZ
  have HB1 := HB.out.setCell (p := ⟨w.heap.size + 4, o, none⟩) (Nat.le_add_right _ _) (.int .u16 (256 * (x / 256) + v))
  have HB' : Hid (Below w.heap.size w ((W3.setCell ⟨w.heap.size + 4, o, none⟩ (.int .u16 (256 * (x / 256) + v))).alloc (.cells #[.pointer (some ⟨w.heap.size + 4, o, none⟩)] 154)).drew.drew) := Lib.hid ((HB1.alloc HB1.size (.cells #[.pointer (some ⟨w.heap.size + 4, o, none⟩)] 154)).drew.drew)
  clear HB1
  clear q0 h0 h1 h2 qF qZ rF rZ rA rH HB HW
  go_region_with (first
    | (go_at_call 283; refine (setter_lo _ _).mono ?_; rintro e w' ⟨rfl, rfl⟩)
    | (go_at_call 303; refine kk.out.mono ?_; rintro e w' ⟨rfl, rfl⟩)
    | (refine (hF _ _).mono ?_; rintro e w' ⟨rfl, rfl⟩))
  all_goals clear kk
  all_goals
    have rF := uF
    have rZ := uZ
    have HB := HB'
    clear uF uZ HB' l0 l1
    generalize ((W3.setCell ⟨w.heap.size + 4, o, none⟩ (.int .u16 (256 * (x / 256) + v))).alloc (.cells #[.pointer (some ⟨w.heap.size + 4, o, none⟩)] 154)).drew.drew = W9' at *
    go_upto_region 6 with (fail)
    obtain ⟨ds, hds⟩ : ∃ ds, ds = regsC g' := ⟨_, rfl⟩
    have i24 : Hid ((Tryz.prog.info? 24).map (·.size) = some ds.size) := Lib.hid (by rw [hds]; exact info24)
    have one : Hid (ds.toList.all (·.oneCell') = true) := Lib.hid (by rw [hds]; rfl)
    have hsz : Hid (ds.size = 20) := Lib.hid (by rw [hds]; rfl)
    have HD := Lib.hid hds
    have hR := rF.out
    rw [← hds] at hR
    clear hds
    apply wp_region_lit
    have i42 : Hid ((Tryz.prog.info? 153).map (·.size) = some ds.size) := Lib.hid (by rw [hsz.out]; exact info42)
    refine wpList_load_row rfl 153 _ rfl _ _ _ rfl hR _ Tryz.underlying153 rfl i42.out ?_
    refine wpList_store_row rfl 24 _ _ rfl (w.heap.size + 1) _ _ ds rfl rfl rZ.out (by rw [hsz.out]; exact Eq.refl 20) i24.out one.out ?_
    have rE := rZ.out.setAll (vs := ds) (by rw [hsz.out]; exact Eq.refl 20)
    have HE9 := Lib.hid (Below.setCellsAll HB.out (b := w.heap.size + 1) (Nat.le_add_right _ _) ds.toList 0)
    generalize W9'.setCells (w.heap.size + 1) 0 ds.toList = W9 at *
    apply wpList_nil
    rename_i hret
    refine hret _ _ (wp_ret ?_)
    try simp only [Exit.inBlock, Exit.then]
    refine bodyPost_ret (results_row rfl rfl rE _ Tryz.underlying24 rfl i24.out) rfl ?_
    exact ⟨(congrArg (fun q => Ending.returned (Value.agg q)) HD.out).trans rfl, HE9.out⟩
theorem set_0bc (g : Rg) (p v : Int) (hx : Wd16 g.bc) (hv : B8 v) (w : World) :
    Calls Tryz.prog 234 #[regsV g, .int .i64 p, .int .i64 0, .int .u8 v] w fun e w' => e = .returned (regsV ({ g with bc := 256 * v + g.bc % 256 })) ∧ Below w.heap.size w w' :=
  set_hi g _ p 0 v _ 1 g.bc lkh_0 (fun b w => fbc_any b w) rfl rfl hx hv (fun _ _ => by kernel_rfl) w
theorem set_1bc (g : Rg) (p v : Int) (hx : Wd16 g.bc) (hv : B8 v) (w : World) :
    Calls Tryz.prog 234 #[regsV g, .int .i64 p, .int .i64 1, .int .u8 v] w fun e w' => e = .returned (regsV ({ g with bc := 256 * (g.bc / 256) + v })) ∧ Below w.heap.size w w' :=
  set_lo g _ p 1 v _ 1 g.bc lkh_1 (fun b w => fbc_any b w) rfl rfl hx hv (fun _ _ => by kernel_rfl) w
theorem set_2de (g : Rg) (p v : Int) (hx : Wd16 g.de) (hv : B8 v) (w : World) :
    Calls Tryz.prog 234 #[regsV g, .int .i64 p, .int .i64 2, .int .u8 v] w fun e w' => e = .returned (regsV ({ g with de := 256 * v + g.de % 256 })) ∧ Below w.heap.size w w' :=
  set_hi g _ p 2 v _ 2 g.de lkh_2 (fun b w => fde_any b w) rfl rfl hx hv (fun _ _ => by kernel_rfl) w
theorem set_3de (g : Rg) (p v : Int) (hx : Wd16 g.de) (hv : B8 v) (w : World) :
    Calls Tryz.prog 234 #[regsV g, .int .i64 p, .int .i64 3, .int .u8 v] w fun e w' => e = .returned (regsV ({ g with de := 256 * (g.de / 256) + v })) ∧ Below w.heap.size w w' :=
  set_lo g _ p 3 v _ 2 g.de lkh_3 (fun b w => fde_any b w) rfl rfl hx hv (fun _ _ => by kernel_rfl) w
theorem set_4ix (g : Rg) (p v : Int) (hF : thirdF p = 306) (hx : Wd16 g.ix) (hv : B8 v) (w : World) :
    Calls Tryz.prog 234 #[regsV g, .int .i64 p, .int .i64 4, .int .u8 v] w fun e w' => e = .returned (regsV ({ g with ix := 256 * v + g.ix % 256 })) ∧ Below w.heap.size w w' :=
  set_hi g _ p 4 v _ 8 g.ix (lkh_4 hF) (fun b w => fix_any b w) rfl rfl hx hv (fun _ _ => by kernel_rfl) w
theorem set_4iy (g : Rg) (p v : Int) (hF : thirdF p = 307) (hx : Wd16 g.iy) (hv : B8 v) (w : World) :
    Calls Tryz.prog 234 #[regsV g, .int .i64 p, .int .i64 4, .int .u8 v] w fun e w' => e = .returned (regsV ({ g with iy := 256 * v + g.iy % 256 })) ∧ Below w.heap.size w w' :=
  set_hi g _ p 4 v _ 9 g.iy (lkh_4 hF) (fun b w => fiy_any b w) rfl rfl hx hv (fun _ _ => by kernel_rfl) w
theorem set_4hl (g : Rg) (p v : Int) (hF : thirdF p = 308) (hx : Wd16 g.hl) (hv : B8 v) (w : World) :
    Calls Tryz.prog 234 #[regsV g, .int .i64 p, .int .i64 4, .int .u8 v] w fun e w' => e = .returned (regsV ({ g with hl := 256 * v + g.hl % 256 })) ∧ Below w.heap.size w w' :=
  set_hi g _ p 4 v _ 3 g.hl (lkh_4 hF) (fun b w => fhl_any b w) rfl rfl hx hv (fun _ _ => by kernel_rfl) w
theorem set_5ix (g : Rg) (p v : Int) (hF : thirdF p = 306) (hx : Wd16 g.ix) (hv : B8 v) (w : World) :
    Calls Tryz.prog 234 #[regsV g, .int .i64 p, .int .i64 5, .int .u8 v] w fun e w' => e = .returned (regsV ({ g with ix := 256 * (g.ix / 256) + v })) ∧ Below w.heap.size w w' :=
  set_lo g _ p 5 v _ 8 g.ix (lkh_5 hF) (fun b w => fix_any b w) rfl rfl hx hv (fun _ _ => by kernel_rfl) w
theorem set_5iy (g : Rg) (p v : Int) (hF : thirdF p = 307) (hx : Wd16 g.iy) (hv : B8 v) (w : World) :
    Calls Tryz.prog 234 #[regsV g, .int .i64 p, .int .i64 5, .int .u8 v] w fun e w' => e = .returned (regsV ({ g with iy := 256 * (g.iy / 256) + v })) ∧ Below w.heap.size w w' :=
  set_lo g _ p 5 v _ 9 g.iy (lkh_5 hF) (fun b w => fiy_any b w) rfl rfl hx hv (fun _ _ => by kernel_rfl) w
theorem set_5hl (g : Rg) (p v : Int) (hF : thirdF p = 308) (hx : Wd16 g.hl) (hv : B8 v) (w : World) :
    Calls Tryz.prog 234 #[regsV g, .int .i64 p, .int .i64 5, .int .u8 v] w fun e w' => e = .returned (regsV ({ g with hl := 256 * (g.hl / 256) + v })) ∧ Below w.heap.size w w' :=
  set_lo g _ p 5 v _ 3 g.hl (lkh_5 hF) (fun b w => fhl_any b w) rfl rfl hx hv (fun _ _ => by kernel_rfl) w
theorem set_7af (g : Rg) (p v : Int) (hx : Wd16 g.af) (hv : B8 v) (w : World) :
    Calls Tryz.prog 234 #[regsV g, .int .i64 p, .int .i64 7, .int .u8 v] w fun e w' => e = .returned (regsV ({ g with af := 256 * v + g.af % 256 })) ∧ Below w.heap.size w w' :=
  set_hi g _ p 7 v _ 0 g.af lkh_7 (fun b w => faf_any b w) rfl rfl hx hv (fun _ _ => by kernel_rfl) w
set_option maxRecDepth 20000 in
set_option maxHeartbeats 4000000 in
theorem set_no (g : Rg) (p k v : Int) (hk : k < 0 ∨ k = 6 ∨ 7 < k) (w : World) :
    Calls Tryz.prog 234 #[regsV g, .int .i64 p, .int .i64 k, .int .u8 v] w fun e w' => e = .returned (regsV (g)) ∧ Below w.heap.size w w' := by
  obtain ⟨af, bc, de, hl, af2, bc2, de2, hl2, ix, iy, sp, pc, wz, i, r, iff1, iff2, halted, late, mode⟩ := g
  have kh := Lib.hid (fun w => halves_any p w)
  have hk := Lib.hid hk
  obtain ⟨cs, hcs⟩ : ∃ cs, cs = (#[.int .u16 af, .int .u16 bc, .int .u16 de, .int .u16 hl, .int .u16 af2, .int .u16 bc2, .int .u16 de2, .int .u16 hl2, .int .u16 ix, .int .u16 iy, .int .u16 sp, .int .u16 pc, .int .u16 wz, .int .u8 i, .int .u8 r, .bool iff1, .bool iff2, .bool halted, .bool late, .int .i64 mode] : Array Value) := ⟨_, rfl⟩
  have HE := Lib.hid hcs
  show Calls _ _ #[.agg (#[.int .u16 af, .int .u16 bc, .int .u16 de, .int .u16 hl, .int .u16 af2, .int .u16 bc2, .int .u16 de2, .int .u16 hl2, .int .u16 ix, .int .u16 iy, .int .u16 sp, .int .u16 pc, .int .u16 wz, .int .u8 i, .int .u8 r, .bool iff1, .bool iff2, .bool halted, .bool late, .int .i64 mode] : Array Value), .int .i64 p, .int .i64 k, .int .u8 v] _ _
  rw [← hcs]
  clear hcs
  go_enter Tryz.func234, Tryz.ntmps234
  go_upto_region 1 with (fail)
  have rA := (Row.new w 24 cs).alloc (.cells zL 24)
  have rZ := Row.new (w.alloc (.cells cs 24)) 24 zL
  rw [show (w.alloc (.cells cs 24)).heap.size = w.heap.size + 1 by simp] at rZ
  have rZ := Lib.hid rZ
  have HB := Lib.hid (((Below.refl w.heap.size w).alloc (Nat.le_refl _) (.cells cs 24)).alloc (by simp) (.cells zL 24))
  have HW := Lib.hid (show ((w.alloc (.cells cs 24)).alloc (.cells zL 24)).heap.size = w.heap.size + 2 by simp)
  generalize (w.alloc (.cells cs 24)).alloc (.cells zL 24) = W0 at *
  rw [HE.out] at rA
  have rA := Lib.hid rA
  have hltA := rA.out.lt
  have hltZ := rZ.out.lt
  go_wp2_with fail
  refine (kh.out _).mono ?_
  rintro e w2 ⟨rfl, rfl⟩
  have hlk := lkh_no (p := p) hk.out (World.alloc_heap_new W0 (.map (halfEnts p) 7))
  have qA := Lib.hid (rA.out.alloc (.map (halfEnts p) 7))
  have qZ := Lib.hid (rZ.out.alloc (.map (halfEnts p) 7))
  have HB' := Lib.hid (HB.out.alloc HB.out.size (.map (halfEnts p) 7))
  have HW' := Lib.hid (show (W0.alloc (.map (halfEnts p) 7)).heap.size = w.heap.size + 3 by rw [World.size_alloc, HW.out])
  clear HB HW rA rZ
  have HB := HB'
  have HW := HW'
  have rA := qA
  have rZ := qZ
  clear HB' HW' qA qZ
  generalize W0.alloc (.map (halfEnts p) 7) = W1 at *
  generalize W0.heap.size = M at *
  go_upto_region 2 with (fail)
  have rH := Row.new W1 159 (#[.nilFunc, .bool false] : Array Value)
  rw [HW.out] at rH
  rw [HW.out]
  have rH := Lib.hid rH
  have qA := Lib.hid (rA.out.alloc (.cells (#[.nilFunc, .bool false] : Array Value) 159))
  have qZ := Lib.hid (rZ.out.alloc (.cells (#[.nilFunc, .bool false] : Array Value) 159))
  have HB' := Lib.hid (HB.out.alloc HB.out.size (.cells (#[.nilFunc, .bool false] : Array Value) 159))
  have HW' := Lib.hid (show (W1.alloc (.cells (#[.nilFunc, .bool false] : Array Value) 159)).heap.size = w.heap.size + 4 by rw [World.size_alloc, HW.out])
  clear HB HW rA rZ
  have HB := HB'
  have HW := HW'
  have rA := qA
  have rZ := qZ
  clear HB' HW' qA qZ
  generalize W1.alloc (.cells (#[.nilFunc, .bool false] : Array Value) 159) = W2 at *
  go_upto_region 3 with (fail)
  obtain ⟨ds, hds⟩ : ∃ ds, ds = (#[.int .u16 af, .int .u16 bc, .int .u16 de, .int .u16 hl, .int .u16 af2, .int .u16 bc2, .int .u16 de2, .int .u16 hl2, .int .u16 ix, .int .u16 iy, .int .u16 sp, .int .u16 pc, .int .u16 wz, .int .u8 i, .int .u8 r, .bool iff1, .bool iff2, .bool halted, .bool late, .int .i64 mode] : Array Value) := ⟨_, rfl⟩
  have i24 : Hid ((Tryz.prog.info? 24).map (·.size) = some ds.size) := Lib.hid (by rw [hds]; exact info24)
  have one : Hid (ds.toList.all (·.oneCell') = true) := Lib.hid (by rw [hds]; rfl)
  have hsz : Hid (ds.size = 20) := Lib.hid (by rw [hds]; rfl)
  have HD := Lib.hid hds
  have hR := rA.out
  rw [← hds] at hR
  clear hds
  apply wp_region_lit
  refine wpList_load_row rfl 24 _ rfl _ _ _ rfl hR _ Tryz.underlying24 rfl i24.out ?_
  refine wpList_store_row rfl 24 _ _ rfl (w.heap.size + 1) _ _ ds rfl rfl rZ.out (by rw [hsz.out]; exact Eq.refl 20) i24.out one.out ?_
  have rE := rZ.out.setAll (vs := ds) (by rw [hsz.out]; exact Eq.refl 20)
  have HE9 := Lib.hid (Below.setCellsAll HB.out (b := w.heap.size + 1) (Nat.le_add_right _ _) ds.toList 0)
  generalize W2.setCells (w.heap.size + 1) 0 ds.toList = W9 at *
  apply wpList_nil
  rename_i hret
  refine hret _ _ (wp_ret ?_)
  try simp only [Exit.inBlock, Exit.then]
  refine bodyPost_ret (results_row rfl rfl rE _ Tryz.underlying24 rfl i24.out) rfl ?_
  exact ⟨(congrArg (fun q => Ending.returned (Value.agg q)) HD.out).trans rfl, HE9.out⟩
theorem set_any (g : Rg) (hg : RgB g) (p k v : Int) (hv : B8 v) (w : World) :
    Calls Tryz.prog 234 #[regsV g, .int .i64 p, .int .i64 k, .int .u8 v] w fun e w' => e = .returned (regsV (setG g p k v)) ∧ Below w.heap.size w w' := by
  by_cases hn : k < 0 ∨ k = 6 ∨ 7 < k
  · rw [setG_no g p k v hn]
    exact set_no g p k v hn w
  obtain rfl | rfl | rfl | rfl | rfl | rfl | rfl : k = 0 ∨ k = 1 ∨ k = 2 ∨ k = 3 ∨ k = 4 ∨ k = 5 ∨ k = 7 := by omega
  · exact set_0bc g p v hg.bc hv w
  · exact set_1bc g p v hg.bc hv w
  · exact set_2de g p v hg.de hv w
  · exact set_3de g p v hg.de hv w
  · show Calls _ _ _ _ fun e w' => e = .returned (regsV (setPairG g p 2 (256 * v + pairG g p 2 % 256))) ∧ _
    rw [setPairG_2, pairG_2]
    by_cases h3 : p = 3
    · rw [if_pos h3, if_pos h3]
      exact set_4ix g p v (thirdF_dd h3) hg.ix hv w
    by_cases h4 : p = 4
    · rw [if_neg h3, if_pos h4, if_neg h3, if_pos h4]
      exact set_4iy g p v (thirdF_fd h3 h4) hg.iy hv w
    · rw [if_neg h3, if_neg h4, if_neg h3, if_neg h4]
      exact set_4hl g p v (thirdF_hl h3 h4) hg.hl hv w
  · show Calls _ _ _ _ fun e w' => e = .returned (regsV (setPairG g p 2 (256 * (pairG g p 2 / 256) + v))) ∧ _
    rw [setPairG_2, pairG_2]
    by_cases h3 : p = 3
    · rw [if_pos h3, if_pos h3]
      exact set_5ix g p v (thirdF_dd h3) hg.ix hv w
    by_cases h4 : p = 4
    · rw [if_neg h3, if_pos h4, if_neg h3, if_pos h4]
      exact set_5iy g p v (thirdF_fd h3 h4) hg.iy hv w
    · rw [if_neg h3, if_neg h4, if_neg h3, if_neg h4]
      exact set_5hl g p v (thirdF_hl h3 h4) hg.hl hv w
  · exact set_7af g p v hg.af hv w
theorem join_sub_fin : ∀ b0 b1 b2 b3 b4 b5 b7 : Bool, joinUpto [bits .xor .u8 (mkM b0 b1 b2 b3 b4 b5 false b7) 17, 2] 2 = mkM b0 b1 b2 (!b3) b4 b5 true (!b7) := by decide +kernel
theorem subR_add (a b : Int) (c : Bool) : addR a (255 - b) (!c) = subR a b c := by
  unfold addR subR one
  cases c <;> simp <;> omega
theorem sub_math (a b : Int) (c : Bool) (ha : B8 a) (hb : B8 b) : joinUpto [bits .xor .u8 (addF a (255 - b) (!c)) 17, 2] 2 = subF a b c := by
  obtain ⟨a0, a1⟩ := ha
  obtain ⟨b0, b1⟩ := hb
  unfold addF subF
  rw [subR_add, join_sub_fin]
  have key := one_bounds c
  have e : one (!c) = 1 - one c := by cases c <;> rfl
  rw [e]
  have n4 : (!decide (15 < a % 16 + (255 - b) % 16 + (1 - one c))) = decide (a % 16 - b % 16 - one c < 0) := by
    rw [Bool.eq_iff_iff]; simp; omega
  have n8 : (!decide (255 < a + (255 - b) + (1 - one c))) = decide (a - b - one c < 0) := by
    rw [Bool.eq_iff_iff]; simp; omega
  have n7 : farM (signedM a + signedM (255 - b) + (1 - one c)) = farM (signedM a - signedM b - one c) := by
    congr 1
    unfold signedM
    split <;> split <;> split <;> omega
  rw [n4, n8, n7]
theorem not8_fin : ∀ x : Fin 256, bits .xor .u8 IntKind.u8.max (x.val : Int) = 255 - (x.val : Int) := by decide +kernel
theorem not8 (b : Int) (hb : B8 b) : bits .xor .u8 IntKind.u8.max b = 255 - b :=
  byte_all (P := fun b => bits .xor .u8 IntKind.u8.max b = 255 - b) not8_fin b hb.1 hb.2
set_option maxHeartbeats 4000000 in
theorem sub_any (a b : Int) (c : Bool) (ha : B8 a) (hb : B8 b) (w : World) :
    Calls Tryz.prog 210 #[.int .u8 a, .int .u8 b, .bool c] w fun e w' => e = .returned (two (subR a b c) (subF a b c)) ∧ Below w.heap.size w w' := by
  have hm := Lib.hid (sub_math a b c ha hb)
  have hr := Lib.hid (subR_add a b c)
  have ha := Lib.hid ha
  have hn : Hid (B8 (255 - b)) := Lib.hid ⟨by have := hb.2; omega, by have := hb.1; omega⟩
  have b0 := hb.1
  have b1 := hb.2
  have hx := not8 b hb
  clear hb
  go_enter Tryz.func210, Tryz.ntmps210
  go_wp2_with fail
  refine (add_any _ _ _ ha.out hn.out _).mono ?_
  rintro e w' ⟨rfl, hb⟩
  have hsz := hb.size
  go_wp2_with fail
  refine (join_any _ 0 2 2 [bits .xor .u8 (addF a (255 - b) (!c)) 17, 2] _ (by simp) (by omega) (cells2 _ _ _ _ _)).mono ?_
  rintro e w' ⟨rfl, rfl⟩
  go_wp2_with fail
  go_ret2
  exact ⟨by rw [hm.out, hr.out]; rfl, (by repeat (first | exact Below.refl _ _ | assumption | refine bstep ?_ (by assumption) | refine Below.drew ?_ | refine Below.alloc ?_ (by first | (simp; done) | (simp; omega) | omega) _ | refine Below.setCell ?_ (by first | (simp; done) | (simp; omega) | omega) _))⟩
theorem cmp_math (a b : Int) : keepM (subF a b false) b 40 = cmpF a b := by
  unfold keepM subF cmpF
  generalize isM (subR a b false) 7 = x0
  generalize (subR a b false == 0) = x1
  generalize isM (subR a b false) 5 = x2
  generalize decide (a % 16 - b % 16 - one false < 0) = x3
  generalize isM (subR a b false) 3 = x4
  generalize farM (signedM a - signedM b - one false) = x5
  generalize decide (a - b - one false < 0) = x7
  obtain ⟨h0, h1, h2, h3, h4, h5, h6, h7⟩ := of_mkM x0 x1 x2 x3 x4 x5 true x7
  obtain ⟨z0, z1, z2, z3, z4, z5, z6, z7⟩ : isM 40 0 = false ∧ isM 40 1 = false ∧ isM 40 2 = false ∧ isM 40 3 = true ∧ isM 40 4 = false ∧ isM 40 5 = true ∧ isM 40 6 = false ∧ isM 40 7 = false := by decide +kernel
  rw [h0, h1, h2, h3, h4, h5, h6, h7, z0, z1, z2, z3, z4, z5, z6, z7]
  rfl
theorem keep1 (x0 x1 x2 x3 x4 x5 x6 x7 : Bool) (f : Int) : keepM (mkM x0 x1 x2 x3 x4 x5 x6 x7) f 1 = mkM x0 x1 x2 x3 x4 x5 x6 (isM f 0) := by
  unfold keepM
  obtain ⟨h0, h1, h2, h3, h4, h5, h6, h7⟩ := of_mkM x0 x1 x2 x3 x4 x5 x6 x7
  obtain ⟨z0, z1, z2, z3, z4, z5, z6, z7⟩ : isM 1 0 = true ∧ isM 1 1 = false ∧ isM 1 2 = false ∧ isM 1 3 = false ∧ isM 1 4 = false ∧ isM 1 5 = false ∧ isM 1 6 = false ∧ isM 1 7 = false := by decide +kernel
  rw [h0, h1, h2, h3, h4, h5, h6, h7, z0, z1, z2, z3, z4, z5, z6, z7]
  rfl
set_option maxHeartbeats 4000000 in
theorem cmp_any (a b : Int) (ha : B8 a) (hb : B8 b) (w : World) :
    Calls Tryz.prog 239 #[.int .u8 a, .int .u8 b] w fun e w' => e = .returned (.int .u8 (cmpF a b)) ∧ Below w.heap.size w w' := by
  have hm := Lib.hid (cmp_math a b)
  have hf := Lib.hid (subF_byte a b false)
  have ha := Lib.hid ha
  have hB := Lib.hid hb
  clear hb
  go_enter Tryz.func239, Tryz.ntmps239
  go_wp2_with (first
    | (go_at_call 210; refine (sub_any _ _ _ ha.out hB.out _).mono ?_; rintro e w' ⟨rfl, hb⟩; have hsz := hb.size)
    | (go_at_call 198; refine (keep_any _ _ _ hf.out.1 hf.out.2 hB.out.1 hB.out.2 (by omega) (by omega) _).mono ?_; rintro e w' ⟨rfl, rfl⟩))
  go_ret
  exact ⟨by rw [hm.out]; rfl, (by repeat (first | exact Below.refl _ _ | assumption | refine bstep ?_ (by assumption) | refine Below.drew ?_ | refine Below.alloc ?_ (by first | (simp; done) | (simp; omega) | omega) _ | refine Below.setCell ?_ (by first | (simp; done) | (simp; omega) | omega) _))⟩
set_option maxHeartbeats 4000000 in
theorem inc_any (a f : Int) (ha : B8 a) (hf : B8 f) (w : World) :
    Calls Tryz.prog 134 #[.int .u8 a, .int .u8 f] w fun e w' => e = .returned (two (addR a 1 false) (incF a f)) ∧ Below w.heap.size w w' := by
  have hm : Hid (keepM (addF a 1 false) f 1 = incF a f) := Lib.hid (keep1 _ _ _ _ _ _ _ _ f)
  have hg := Lib.hid (addF_byte a 1 false)
  have ha := Lib.hid ha
  have hf := Lib.hid hf
  go_enter Tryz.func134, Tryz.ntmps134
  go_wp2_with (first
    | (go_at_call 228; refine (add_any _ _ _ ha.out ⟨by omega, by omega⟩ _).mono ?_; rintro e w' ⟨rfl, hb⟩; have hsz := hb.size)
    | (go_at_call 198; refine (keep_any _ _ _ hg.out.1 hg.out.2 hf.out.1 hf.out.2 (by omega) (by omega) _).mono ?_; rintro e w' ⟨rfl, rfl⟩))
  go_ret2
  exact ⟨by rw [hm.out]; rfl, (by repeat (first | exact Below.refl _ _ | assumption | refine bstep ?_ (by assumption) | refine Below.drew ?_ | refine Below.alloc ?_ (by first | (simp; done) | (simp; omega) | omega) _ | refine Below.setCell ?_ (by first | (simp; done) | (simp; omega) | omega) _))⟩
set_option maxHeartbeats 4000000 in
theorem dec_any (a f : Int) (ha : B8 a) (hf : B8 f) (w : World) :
    Calls Tryz.prog 135 #[.int .u8 a, .int .u8 f] w fun e w' => e = .returned (two (subR a 1 false) (decF a f)) ∧ Below w.heap.size w w' := by
  have hm : Hid (keepM (subF a 1 false) f 1 = decF a f) := Lib.hid (keep1 _ _ _ _ _ _ _ _ f)
  have hg := Lib.hid (subF_byte a 1 false)
  have ha := Lib.hid ha
  have hf := Lib.hid hf
  go_enter Tryz.func135, Tryz.ntmps135
  go_wp2_with (first
    | (go_at_call 210; refine (sub_any _ _ _ ha.out ⟨by omega, by omega⟩ _).mono ?_; rintro e w' ⟨rfl, hb⟩; have hsz := hb.size)
    | (go_at_call 198; refine (keep_any _ _ _ hg.out.1 hg.out.2 hf.out.1 hf.out.2 (by omega) (by omega) _).mono ?_; rintro e w' ⟨rfl, rfl⟩))
  go_ret2
  exact ⟨by rw [hm.out]; rfl, (by repeat (first | exact Below.refl _ _ | assumption | refine bstep ?_ (by assumption) | refine Below.drew ?_ | refine Below.alloc ?_ (by first | (simp; done) | (simp; omega) | omega) _ | refine Below.setCell ?_ (by first | (simp; done) | (simp; omega) | omega) _))⟩
set_option maxHeartbeats 4000000 in
theorem neg_any (a : Int) (ha : B8 a) (w : World) :
    Calls Tryz.prog 113 #[.int .u8 a] w fun e w' => e = .returned (two (subR 0 a false) (subF 0 a false)) ∧ Below w.heap.size w w' := by
  have ha := Lib.hid ha
  go_enter Tryz.func113, Tryz.ntmps113
  go_wp2_with (first
    | (go_at_call 210; refine (sub_any _ _ _ ⟨by omega, by omega⟩ ha.out _).mono ?_; rintro e w' ⟨rfl, hb⟩; have hsz := hb.size))
  go_ret2
  exact ⟨rfl, (by repeat (first | exact Below.refl _ _ | assumption | refine bstep ?_ (by assumption) | refine Below.drew ?_ | refine Below.alloc ?_ (by first | (simp; done) | (simp; omega) | omega) _ | refine Below.setCell ?_ (by first | (simp; done) | (simp; omega) | omega) _))⟩
abbrev wtwo (r f : Int) : Value := .tuple #[.int .u16 r, .int .u8 f]
set_option maxHeartbeats 400000 in
theorem wcarry_any (f : Int) (hf : B8 f) (w : World) :
    Calls Tryz.prog 268 #[.int .u8 f] w fun e w' => e = .returned (.bool (isM f 0)) ∧ w = w' := by
  have k := Lib.hid (mask_all f hf.1 hf.2).2.1
  have f0 := hf.1
  have f1 := hf.2
  go_enter Tryz.func268, Tryz.ntmps268
  go_wp2
  go_ret
  exact ⟨ret_bool k.out, rfl⟩
set_option maxHeartbeats 4000000 in
theorem secondAdd_any (a b low : Int) (ha : B8 a) (hb : B8 b) (hl : B8 low) (O L : Nat) (w : World) (hO : w.cell? ⟨O, 0, none⟩ = some (.func (.func 228) #[] #[])) (hL : w.cell? ⟨L, 0, none⟩ = some (.int .u8 low)) :
    Calls Tryz.prog 305 #[.int .u8 a, .int .u8 b, .pointer (some ⟨O, 0, none⟩), .pointer (some ⟨L, 0, none⟩)] w fun e w' =>
      e = .returned (two (addR a b (isM low 0)) (keepM (addF a b (isM low 0)) (bits .and .u8 (addF a b (isM low 0)) low) 64)) ∧ Below w.heap.size w w' := by
  have hB := hb
  clear hb
  have hf := addF_byte a b (isM low 0)
  have hg : B8 (bits .and .u8 (addF a b (isM low 0)) low) := and_byte _ _ hf.1 hf.2 hl.1 hl.2
  go_enter Tryz.func305, Tryz.ntmps305
  go_wp2_with fail
  go_region_held3 (fun w' => w'.cell? ⟨O, 0, none⟩ = some (.func (.func 228) #[] #[]) ∧ w'.cell? ⟨L, 0, none⟩ = some (.int .u8 low)) (first | go_keep | exact keep2 hb (by assumption))
    (first
    | (go_at_call 268; refine (wcarry_any _ (by assumption) _).mono ?_; rintro e w' ⟨rfl, rfl⟩)
    | (go_at_call 228; refine (add_any _ _ _ (by assumption) (by assumption) _).mono ?_; rintro e w' ⟨rfl, hb⟩; have hsz := hb.size))
  rename_i hh
  obtain ⟨h1, h2⟩ := hh
  have f0 := hf.1
  have f1 := hf.2
  have l0 := hl.1
  have l1 := hl.2
  go_wp2_with (first
    | (go_at_call 198; refine (keep_any _ _ _ (B8.lo (by assumption)) (B8.hi (by assumption)) (B8.lo (by assumption)) (B8.hi (by assumption)) (by omega) (by omega) _).mono ?_; rintro e w' ⟨rfl, rfl⟩))
  go_ret2
  exact ⟨rfl, (by repeat (first | exact Below.refl _ _ | assumption | refine bstep ?_ (by assumption) | refine Below.drew ?_ | refine Below.alloc ?_ (by first | (simp; done) | (simp; omega) | omega) _ | refine Below.setCell ?_ (by first | (simp; done) | (simp; omega) | omega) _))⟩
set_option maxHeartbeats 4000000 in
theorem firstAdd_any (a b : Int) (c : Bool) (ha : B8 a) (hb : B8 b) (w : World) :
    Calls Tryz.prog 295 #[.agg #[.func (.func 228) #[] #[]], .int .u8 a, .int .u8 b, .bool c] w fun e w' => ∃ O L,
      e = .returned (.tuple #[.int .u8 (addR a b c), .func (.func 305) #[] #[.pointer (some ⟨O, 0, none⟩), .pointer (some ⟨L, 0, none⟩)]]) ∧
      (w'.cell? ⟨O, 0, none⟩ = some (.func (.func 228) #[] #[]) ∧ w'.cell? ⟨L, 0, none⟩ = some (.int .u8 (addF a b c))) ∧ Below w.heap.size w w' := by
  have hB := hb
  clear hb
  go_enter Tryz.func295, Tryz.ntmps295
  go_wp2_with (first
    | (go_at_call 228; refine (add_any _ _ _ (by assumption) (by assumption) _).mono ?_; rintro e w' ⟨rfl, hb⟩; have hsz := hb.size))
  go_ret2
  refine ⟨w.heap.size, w'.heap.size, rfl, ⟨cell_kept (cell_new w _ _) (Below.trans hb (Below.alloc (Below.refl _ _) hsz _)), cell_new _ _ _⟩, ?_⟩
  (try simp only [World.size_alloc] at hsz)
  exact (by repeat (first | exact Below.refl _ _ | assumption | refine bstep ?_ (by assumption) | refine Below.drew ?_ | refine Below.alloc ?_ (by first | (simp; done) | (simp; omega) | omega) _ | refine Below.setCell ?_ (by first | (simp; done) | (simp; omega) | omega) _))
set_option maxHeartbeats 4000000 in
theorem wordsAdd_any (a b : Int) (c : Bool) (ha : W16 a) (hb : W16 b) (w : World) :
    Calls Tryz.prog 267 #[.agg #[.func (.func 228) #[] #[]], .int .u16 a, .int .u16 b, .bool c] w fun e w' =>
      e = .returned (wtwo (adcW a b c) (adcF a b c)) ∧ Below w.heap.size w w' := by
  have hB := hb
  clear hb
  have al := ha.low
  have ah := ha.high
  have bl := hB.low
  have bh := hB.high
  have lf := addF_byte (a % 256) (b % 256) c
  have rl := addR_byte (a % 256) (b % 256) c
  have rh := addR_byte (a / 256) (b / 256) (isM (addF (a % 256) (b % 256) c) 0)
  have hw := Lib.hid (adc_word a b c ha hB)
  have hf := Lib.hid (adc_flags a b c ha hB)
  go_enter Tryz.func267, Tryz.ntmps267
  go_wp2_with fail
  go_region_held3 (fun w' => w'.cell? ⟨w.heap.size, 0, none⟩ = some (.func (.func 228) #[] #[])) (first | go_keep | exact cell_kept (by assumption) hb)
    (first
    | (go_at_call 196; refine (lo_any _ (W16.lo (by assumption)) (W16.hi (by assumption)) _).mono ?_; rintro e w' ⟨rfl, rfl⟩)
    | (go_at_call 295; refine (firstAdd_any _ _ _ (by assumption) (by assumption) _).mono ?_; rintro e w' ⟨O, L, rfl, hcell, hb⟩; have hsz := hb.size))
  rename_i hh
  clear hh
  obtain ⟨h1, h2⟩ := hcell
  go_wp2_with (first
    | (go_at_call 106; refine (hi_any _ (W16.lo (by assumption)) (W16.hi (by assumption)) _).mono ?_; rintro e w' ⟨rfl, rfl⟩)
    | (go_at_call 115; refine (word_any _ _ (B8.lo (by assumption)) (B8.hi (by assumption)) (B8.lo (by assumption)) (B8.hi (by assumption)) _).mono ?_; rintro e w' ⟨rfl, rfl⟩)
    | (go_at_call 305; refine (secondAdd_any _ _ (addF (a % 256) (b % 256) c) (by assumption) (by assumption) lf _ _ _ h1 h2).mono ?_; rintro e w2 ⟨rfl, hb2⟩; have hsz2 := hb2.size))
  go_ret2
  refine ⟨by rw [← hw.out, ← hf.out]; rfl, ?_⟩
  (try simp only [World.size_alloc] at hsz)
  exact (by repeat (first | exact Below.refl _ _ | assumption | refine bstep ?_ (by assumption) | refine Below.drew ?_ | refine Below.alloc ?_ (by first | (simp; done) | (simp; omega) | omega) _ | refine Below.setCell ?_ (by first | (simp; done) | (simp; omega) | omega) _))
set_option maxHeartbeats 4000000 in
theorem secondSub_any (a b low : Int) (ha : B8 a) (hb : B8 b) (hl : B8 low) (O L : Nat) (w : World) (hO : w.cell? ⟨O, 0, none⟩ = some (.func (.func 210) #[] #[])) (hL : w.cell? ⟨L, 0, none⟩ = some (.int .u8 low)) :
    Calls Tryz.prog 305 #[.int .u8 a, .int .u8 b, .pointer (some ⟨O, 0, none⟩), .pointer (some ⟨L, 0, none⟩)] w fun e w' =>
      e = .returned (two (subR a b (isM low 0)) (keepM (subF a b (isM low 0)) (bits .and .u8 (subF a b (isM low 0)) low) 64)) ∧ Below w.heap.size w w' := by
  have hB := hb
  clear hb
  have hf := subF_byte a b (isM low 0)
  have hg : B8 (bits .and .u8 (subF a b (isM low 0)) low) := and_byte _ _ hf.1 hf.2 hl.1 hl.2
  go_enter Tryz.func305, Tryz.ntmps305
  go_wp2_with fail
  go_region_held3 (fun w' => w'.cell? ⟨O, 0, none⟩ = some (.func (.func 210) #[] #[]) ∧ w'.cell? ⟨L, 0, none⟩ = some (.int .u8 low)) (first | go_keep | exact keep2 hb (by assumption))
    (first
    | (go_at_call 268; refine (wcarry_any _ (by assumption) _).mono ?_; rintro e w' ⟨rfl, rfl⟩)
    | (go_at_call 210; refine (sub_any _ _ _ (by assumption) (by assumption) _).mono ?_; rintro e w' ⟨rfl, hb⟩; have hsz := hb.size))
  rename_i hh
  obtain ⟨h1, h2⟩ := hh
  have f0 := hf.1
  have f1 := hf.2
  have l0 := hl.1
  have l1 := hl.2
  go_wp2_with (first
    | (go_at_call 198; refine (keep_any _ _ _ (B8.lo (by assumption)) (B8.hi (by assumption)) (B8.lo (by assumption)) (B8.hi (by assumption)) (by omega) (by omega) _).mono ?_; rintro e w' ⟨rfl, rfl⟩))
  go_ret2
  exact ⟨rfl, (by repeat (first | exact Below.refl _ _ | assumption | refine bstep ?_ (by assumption) | refine Below.drew ?_ | refine Below.alloc ?_ (by first | (simp; done) | (simp; omega) | omega) _ | refine Below.setCell ?_ (by first | (simp; done) | (simp; omega) | omega) _))⟩
set_option maxHeartbeats 4000000 in
theorem firstSub_any (a b : Int) (c : Bool) (ha : B8 a) (hb : B8 b) (w : World) :
    Calls Tryz.prog 295 #[.agg #[.func (.func 210) #[] #[]], .int .u8 a, .int .u8 b, .bool c] w fun e w' => ∃ O L,
      e = .returned (.tuple #[.int .u8 (subR a b c), .func (.func 305) #[] #[.pointer (some ⟨O, 0, none⟩), .pointer (some ⟨L, 0, none⟩)]]) ∧
      (w'.cell? ⟨O, 0, none⟩ = some (.func (.func 210) #[] #[]) ∧ w'.cell? ⟨L, 0, none⟩ = some (.int .u8 (subF a b c))) ∧ Below w.heap.size w w' := by
  have hB := hb
  clear hb
  go_enter Tryz.func295, Tryz.ntmps295
  go_wp2_with (first
    | (go_at_call 210; refine (sub_any _ _ _ (by assumption) (by assumption) _).mono ?_; rintro e w' ⟨rfl, hb⟩; have hsz := hb.size))
  go_ret2
  refine ⟨w.heap.size, w'.heap.size, rfl, ⟨cell_kept (cell_new w _ _) (Below.trans hb (Below.alloc (Below.refl _ _) hsz _)), cell_new _ _ _⟩, ?_⟩
  (try simp only [World.size_alloc] at hsz)
  exact (by repeat (first | exact Below.refl _ _ | assumption | refine bstep ?_ (by assumption) | refine Below.drew ?_ | refine Below.alloc ?_ (by first | (simp; done) | (simp; omega) | omega) _ | refine Below.setCell ?_ (by first | (simp; done) | (simp; omega) | omega) _))
set_option maxHeartbeats 4000000 in
theorem wordsSub_any (a b : Int) (c : Bool) (ha : W16 a) (hb : W16 b) (w : World) :
    Calls Tryz.prog 267 #[.agg #[.func (.func 210) #[] #[]], .int .u16 a, .int .u16 b, .bool c] w fun e w' =>
      e = .returned (wtwo (sbcW a b c) (sbcF a b c)) ∧ Below w.heap.size w w' := by
  have hB := hb
  clear hb
  have al := ha.low
  have ah := ha.high
  have bl := hB.low
  have bh := hB.high
  have lf := subF_byte (a % 256) (b % 256) c
  have rl := subR_byte (a % 256) (b % 256) c
  have rh := subR_byte (a / 256) (b / 256) (isM (subF (a % 256) (b % 256) c) 0)
  have hw := Lib.hid (sbc_word a b c ha hB)
  have hf := Lib.hid (sbc_flags a b c ha hB)
  go_enter Tryz.func267, Tryz.ntmps267
  go_wp2_with fail
  go_region_held3 (fun w' => w'.cell? ⟨w.heap.size, 0, none⟩ = some (.func (.func 210) #[] #[])) (first | go_keep | exact cell_kept (by assumption) hb)
    (first
    | (go_at_call 196; refine (lo_any _ (W16.lo (by assumption)) (W16.hi (by assumption)) _).mono ?_; rintro e w' ⟨rfl, rfl⟩)
    | (go_at_call 295; refine (firstSub_any _ _ _ (by assumption) (by assumption) _).mono ?_; rintro e w' ⟨O, L, rfl, hcell, hb⟩; have hsz := hb.size))
  rename_i hh
  clear hh
  obtain ⟨h1, h2⟩ := hcell
  go_wp2_with (first
    | (go_at_call 106; refine (hi_any _ (W16.lo (by assumption)) (W16.hi (by assumption)) _).mono ?_; rintro e w' ⟨rfl, rfl⟩)
    | (go_at_call 115; refine (word_any _ _ (B8.lo (by assumption)) (B8.hi (by assumption)) (B8.lo (by assumption)) (B8.hi (by assumption)) _).mono ?_; rintro e w' ⟨rfl, rfl⟩)
    | (go_at_call 305; refine (secondSub_any _ _ (subF (a % 256) (b % 256) c) (by assumption) (by assumption) lf _ _ _ h1 h2).mono ?_; rintro e w2 ⟨rfl, hb2⟩; have hsz2 := hb2.size))
  go_ret2
  refine ⟨by rw [← hw.out, ← hf.out]; rfl, ?_⟩
  (try simp only [World.size_alloc] at hsz)
  exact (by repeat (first | exact Below.refl _ _ | assumption | refine bstep ?_ (by assumption) | refine Below.drew ?_ | refine Below.alloc ?_ (by first | (simp; done) | (simp; omega) | omega) _ | refine Below.setCell ?_ (by first | (simp; done) | (simp; omega) | omega) _))
set_option maxHeartbeats 400000 in
theorem adding_any (w : World) :
    Calls Tryz.prog 269 #[] w fun e w' => e = .returned (.agg #[.func (.func 228) #[] #[]]) ∧ Below w.heap.size w w' := by
  go_enter Tryz.func269, Tryz.ntmps269
  go_wp2
  refine bodyPost_ret (v := .agg #[.func (.func 228) #[] #[]]) (by simp [results, Tryz.f269, go_sem]) rfl ?_
  exact ⟨rfl, (by repeat (first | exact Below.refl _ _ | assumption | refine bstep ?_ (by assumption) | refine Below.drew ?_ | refine Below.alloc ?_ (by first | (simp; done) | (simp; omega) | omega) _ | refine Below.setCell ?_ (by first | (simp; done) | (simp; omega) | omega) _))⟩
set_option maxHeartbeats 400000 in
theorem subtracting_any (w : World) :
    Calls Tryz.prog 266 #[] w fun e w' => e = .returned (.agg #[.func (.func 210) #[] #[]]) ∧ Below w.heap.size w w' := by
  go_enter Tryz.func266, Tryz.ntmps266
  go_wp2
  refine bodyPost_ret (v := .agg #[.func (.func 210) #[] #[]]) (by simp [results, Tryz.f266, go_sem]) rfl ?_
  exact ⟨rfl, (by repeat (first | exact Below.refl _ _ | assumption | refine bstep ?_ (by assumption) | refine Below.drew ?_ | refine Below.alloc ?_ (by first | (simp; done) | (simp; omega) | omega) _ | refine Below.setCell ?_ (by first | (simp; done) | (simp; omega) | omega) _))⟩
set_option maxHeartbeats 4000000 in
theorem wadd_any (a b f : Int) (ha : W16 a) (hb : W16 b) (hf : B8 f) (w : World) :
    Calls Tryz.prog 224 #[.int .u16 a, .int .u16 b, .int .u8 f] w fun e w' => e = .returned (wtwo (adcW a b false) (addWF a b f)) ∧ Below w.heap.size w w' := by
  have hB := hb
  clear hb
  have hm := Lib.hid (add_flags a b f)
  have hg := adcF_byte a b false
  go_enter Tryz.func224, Tryz.ntmps224
  go_wp2_with (first
    | (go_at_call 269; refine (adding_any _).mono ?_; rintro e w' ⟨rfl, hb⟩; have hsz := hb.size)
    | (go_at_call 267; refine (wordsAdd_any _ _ _ (by assumption) (by assumption) _).mono ?_; rintro e w' ⟨rfl, hb⟩; have hsz := hb.size)
    | (go_at_call 198; refine (keep_any _ _ _ (B8.lo (by assumption)) (B8.hi (by assumption)) (B8.lo (by assumption)) (B8.hi (by assumption)) (by omega) (by omega) _).mono ?_; rintro e w' ⟨rfl, rfl⟩))
  go_ret2
  exact ⟨by rw [← hm.out]; rfl, (by repeat (first | exact Below.refl _ _ | assumption | refine bstep ?_ (by assumption) | refine Below.drew ?_ | refine Below.alloc ?_ (by first | (simp; done) | (simp; omega) | omega) _ | refine Below.setCell ?_ (by first | (simp; done) | (simp; omega) | omega) _))⟩
set_option maxHeartbeats 4000000 in
theorem wadc_any (a b f : Int) (ha : W16 a) (hb : W16 b) (hf : B8 f) (w : World) :
    Calls Tryz.prog 206 #[.int .u16 a, .int .u16 b, .int .u8 f] w fun e w' => e = .returned (wtwo (adcW a b (isM f 0)) (adcF a b (isM f 0))) ∧ Below w.heap.size w w' := by
  have hB := hb
  clear hb
  go_enter Tryz.func206, Tryz.ntmps206
  go_wp2_with (first
    | (go_at_call 269; refine (adding_any _).mono ?_; rintro e w' ⟨rfl, hb⟩; have hsz := hb.size)
    | (go_at_call 268; refine (wcarry_any _ (by assumption) _).mono ?_; rintro e w' ⟨rfl, rfl⟩)
    | (go_at_call 267; refine (wordsAdd_any _ _ _ (by assumption) (by assumption) _).mono ?_; rintro e w' ⟨rfl, hb⟩; have hsz := hb.size))
  go_ret2
  exact ⟨rfl, (by repeat (first | exact Below.refl _ _ | assumption | refine bstep ?_ (by assumption) | refine Below.drew ?_ | refine Below.alloc ?_ (by first | (simp; done) | (simp; omega) | omega) _ | refine Below.setCell ?_ (by first | (simp; done) | (simp; omega) | omega) _))⟩
set_option maxHeartbeats 4000000 in
theorem wsbc_any (a b f : Int) (ha : W16 a) (hb : W16 b) (hf : B8 f) (w : World) :
    Calls Tryz.prog 204 #[.int .u16 a, .int .u16 b, .int .u8 f] w fun e w' => e = .returned (wtwo (sbcW a b (isM f 0)) (sbcF a b (isM f 0))) ∧ Below w.heap.size w w' := by
  have hB := hb
  clear hb
  go_enter Tryz.func204, Tryz.ntmps204
  go_wp2_with (first
    | (go_at_call 266; refine (subtracting_any _).mono ?_; rintro e w' ⟨rfl, hb⟩; have hsz := hb.size)
    | (go_at_call 268; refine (wcarry_any _ (by assumption) _).mono ?_; rintro e w' ⟨rfl, rfl⟩)
    | (go_at_call 267; refine (wordsSub_any _ _ _ (by assumption) (by assumption) _).mono ?_; rintro e w' ⟨rfl, hb⟩; have hsz := hb.size))
  go_ret2
  exact ⟨rfl, (by repeat (first | exact Below.refl _ _ | assumption | refine bstep ?_ (by assumption) | refine Below.drew ?_ | refine Below.alloc ?_ (by first | (simp; done) | (simp; omega) | omega) _ | refine Below.setCell ?_ (by first | (simp; done) | (simp; omega) | omega) _))⟩
set_option maxHeartbeats 400000 in
theorem wmove_any (x y : Int) (hx : W16 x) (w : World) :
    Calls Tryz.prog 214 #[.int .u16 x, .int .i64 y] w fun e w' => e = .returned (.int .u16 (moveM x y)) ∧ w = w' := by
  have x0 := hx.1
  have x1 := hx.2
  go_enter Tryz.func214, Tryz.ntmps214
  go_wp2
  go_ret
  exact ⟨ret_int (by simp only [IntKind.wrap_u16]; unfold moveM; omega), rfl⟩
set_option maxHeartbeats 400000 in
theorem near_any (x y : Int) (hx : W16 x) (hy : B8 y) (w : World) :
    Calls Tryz.prog 127 #[.int .u16 x, .int .u8 y] w fun e w' => e = .returned (.int .u16 (moveM x (signedM y))) ∧ w = w' := by
  go_enter Tryz.func127, Tryz.ntmps127
  go_wp2_with (first
    | (go_at_call 220; refine (signed_any _ (B8.lo (by assumption)) (B8.hi (by assumption)) _).mono ?_; rintro e w' ⟨rfl, rfl⟩)
    | (go_at_call 214; refine (wmove_any _ _ (by assumption) _).mono ?_; rintro e w' ⟨rfl, rfl⟩))
  go_ret
  exact ⟨rfl, rfl⟩
abbrev three (r q f : Int) : Value := .tuple #[.int .u8 r, .int .u8 q, .int .u8 f]
set_option maxHeartbeats 4000000 in
theorem do_any (k b f : Int) (hb : B8 b) (hf : B8 f) (w : World) (hd : Courses w) :
    Calls Tryz.prog 100 #[.int .i64 k, .int .u8 b, .int .u8 f] w fun e w' => e = .returned (two (doR k b f) (doF k b f)) ∧ Below w.heap.size w w' := by
  have hB := hb
  clear hb
  by_cases h : 0 ≤ k ∧ k < 8
  · have er : doR k b f = shM k b f := if_pos h
    have ef : doF k b f = evenC (shM k b f) (soutM k b) := if_pos h
    rw [er, ef, ← even_or]
    have hs := shM_byte k b f hB
    obtain ⟨h0, h1⟩ := h
    clear er ef
    generalize hR : shM k b f = R at hs ⊢
    generalize hO : soutM k b = O at ⊢
    have hR := Lib.hid hR
    have hO := Lib.hid hO
    have hm := fun w hd => move_yes k b f h0 h1 hB hf w hd
    rw [hR.out, hO.out] at hm
    clear h0 h1 hR hO
    go_enter Tryz.func100, Tryz.ntmps100
    go_wp2_with (first
      | (go_at_call 193; refine (hm _ hd).mono ?_; rintro e w' ⟨rfl, hb⟩; have hsz := hb.size)
      | (go_at_call 194; refine (evenF_any _ (B8.lo (by assumption)) (B8.hi (by assumption)) _).mono ?_; rintro e w' ⟨rfl, hb⟩; have hsz := hb.size)
      | (go_at_call 195; refine (scarry_any _ _).mono ?_; rintro e w' ⟨rfl, rfl⟩))
    go_ret2
    exact ⟨rfl, (by repeat (first | exact Below.refl _ _ | assumption | refine bstep ?_ (by assumption) | refine Below.drew ?_ | refine Below.alloc ?_ (by first | (simp; done) | (simp; omega) | omega) _ | refine Below.setCell ?_ (by first | (simp; done) | (simp; omega) | omega) _))⟩
  · have er : doR k b f = b := if_neg h
    have ef : doF k b f = f := if_neg h
    rw [er, ef]
    have h' : k < 0 ∨ 8 ≤ k := by omega
    clear h er ef
    have hm := fun w hd => move_no k b f h' hB hf w hd
    clear h'
    go_enter Tryz.func100, Tryz.ntmps100
    go_wp2_with (first
      | (go_at_call 193; refine (hm _ hd).mono ?_; rintro e w' ⟨rfl, hb⟩; have hsz := hb.size))
    go_ret2
    exact ⟨rfl, (by repeat (first | exact Below.refl _ _ | assumption | refine bstep ?_ (by assumption) | refine Below.drew ?_ | refine Below.alloc ?_ (by first | (simp; done) | (simp; omega) | omega) _ | refine Below.setCell ?_ (by first | (simp; done) | (simp; omega) | omega) _))⟩
set_option maxHeartbeats 4000000 in
theorem acc_any (k b f : Int) (hb : B8 b) (hf : B8 f) (w : World) (hd : Courses w) :
    Calls Tryz.prog 233 #[.int .i64 k, .int .u8 b, .int .u8 f] w fun e w' => e = .returned (two (accR k b f) (accF k b f)) ∧ Below w.heap.size w w' := by
  have hB := hb
  clear hb
  by_cases h : 0 ≤ k ∧ k < 4
  · have er : accR k b f = shM k b f := if_pos h
    have ef : accF k b f = linesM f (shM k b f) false false (soutM k b) := if_pos h
    rw [er, ef, ← lines_or]
    have hs := shM_byte k b f hB
    obtain ⟨h0, h1⟩ := h
    clear er ef
    have hm := fun w hd => move_yes k b f h0 (by omega) hB hf w hd
    generalize shM k b f = R at hs hm ⊢
    generalize soutM k b = O at hm ⊢
    have hq := resultM_byte R
    go_enter Tryz.func233, Tryz.ntmps233
    go_wp2_with (first
      | (go_at_call 193; refine (hm _ hd).mono ?_; rintro e w' ⟨rfl, hb⟩; have hsz := hb.size)
      | (go_at_call 264; refine (result_any _ (B8.lo (by assumption)) (B8.hi (by assumption)) _).mono ?_; rintro e w' ⟨rfl, rfl⟩)
      | (go_at_call 198; refine (keep_any _ _ _ (B8.lo (by assumption)) (B8.hi (by assumption)) (B8.lo (by assumption)) (B8.hi (by assumption)) (by omega) (by omega) _).mono ?_; rintro e w' ⟨rfl, rfl⟩)
      | (go_at_call 195; refine (scarry_any _ _).mono ?_; rintro e w' ⟨rfl, rfl⟩))
    go_ret2
    exact ⟨rfl, (by repeat (first | exact Below.refl _ _ | assumption | refine bstep ?_ (by assumption) | refine Below.drew ?_ | refine Below.alloc ?_ (by first | (simp; done) | (simp; omega) | omega) _ | refine Below.setCell ?_ (by first | (simp; done) | (simp; omega) | omega) _))⟩
  · have er : accR k b f = b := if_neg h
    have ef : accF k b f = f := if_neg h
    rw [er, ef]
    clear er ef
    by_cases h2 : 3 < k
    · clear h
      go_enter Tryz.func233, Tryz.ntmps233
      go_wp2_with fail
      go_ret2
      exact ⟨rfl, (by repeat (first | exact Below.refl _ _ | assumption | refine bstep ?_ (by assumption) | refine Below.drew ?_ | refine Below.alloc ?_ (by first | (simp; done) | (simp; omega) | omega) _ | refine Below.setCell ?_ (by first | (simp; done) | (simp; omega) | omega) _))⟩
    · have h3 : k < 0 := by omega
      have hm := fun w hd => move_no k b f (by omega) hB hf w hd
      clear h
      go_enter Tryz.func233, Tryz.ntmps233
      go_wp2_with (first
        | (go_at_call 193; refine (hm _ hd).mono ?_; rintro e w' ⟨rfl, hb⟩; have hsz := hb.size))
      go_ret2
      exact ⟨rfl, (by repeat (first | exact Below.refl _ _ | assumption | refine bstep ?_ (by assumption) | refine Below.drew ?_ | refine Below.alloc ?_ (by first | (simp; done) | (simp; omega) | omega) _ | refine Below.setCell ?_ (by first | (simp; done) | (simp; omega) | omega) _))⟩
set_option maxHeartbeats 4000000 in
theorem digit_any (right : Bool) (a b f : Int) (ha : B8 a) (hb : B8 b) (hf : B8 f) (w : World) :
    Calls Tryz.prog 272 #[.bool right, .int .u8 a, .int .u8 b, .int .u8 f] w fun e w' => e = .returned (three (digA right a b) (digB right a b) (evenC (digA right a b) (isM f 0))) ∧ Below w.heap.size w w' := by
  have hB := hb
  clear hb
  obtain ⟨la, ua⟩ := low4_all a ha
  obtain ⟨lb, _⟩ := low4_all b hB
  have lf := low_all f hf
  have a0 := ha.1
  have a1 := ha.2
  have b0 := hB.1
  have b1 := hB.2
  cases right
  · have j1 : bits .or .u8 (a / 16 * 16) (b / 16) = digA false a b := join4_all _ _ (by omega) (by omega) (by omega) (by omega)
    have j2 : bits .or .u8 (b % 16 * 16) (a % 16) = digB false a b := join4_all _ _ (by omega) (by omega) (by omega) (by omega)
    have hd := digA_byte false a b ha hB
    rw [← even_or]
    go_enter Tryz.func272, Tryz.ntmps272
    go_wp2_with (first
      | (go_at_call 194; refine (evenF_any _ (B8.lo (by assumption)) (B8.hi (by assumption)) _).mono ?_; rintro e w' ⟨rfl, hb⟩; have hsz := hb.size))
    go_ret3
    exact ⟨rfl, (by repeat (first | exact Below.refl _ _ | assumption | refine bstep ?_ (by assumption) | refine Below.drew ?_ | refine Below.alloc ?_ (by first | (simp; done) | (simp; omega) | omega) _ | refine Below.setCell ?_ (by first | (simp; done) | (simp; omega) | omega) _))⟩
  · have j1 : bits .or .u8 (a / 16 * 16) (b % 16) = digA true a b := join4_all _ _ (by omega) (by omega) (by omega) (by omega)
    have j2 : bits .or .u8 (a % 16 * 16) (b / 16) = digB true a b := join4_all _ _ (by omega) (by omega) (by omega) (by omega)
    have hd := digA_byte true a b ha hB
    rw [← even_or]
    go_enter Tryz.func272, Tryz.ntmps272
    go_wp2_with (first
      | (go_at_call 194; refine (evenF_any _ (B8.lo (by assumption)) (B8.hi (by assumption)) _).mono ?_; rintro e w' ⟨rfl, hb⟩; have hsz := hb.size))
    go_ret3
    exact ⟨rfl, (by repeat (first | exact Below.refl _ _ | assumption | refine bstep ?_ (by assumption) | refine Below.drew ?_ | refine Below.alloc ?_ (by first | (simp; done) | (simp; omega) | omega) _ | refine Below.setCell ?_ (by first | (simp; done) | (simp; omega) | omega) _))⟩
set_option maxHeartbeats 4000000 in
theorem bit6_any (n b lines f : Int) (hb : B8 b) (hl : B8 lines) (hf : B8 f) (w : World) :
    Calls Tryz.prog 107 #[.int .i64 n, .int .u8 b, .int .u8 lines, .int .u8 f] w fun e w' => e = .returned (.int .u8 (bitF n b lines f)) ∧ w = w' := by
  have lf := low_all f hf
  have km := bit_math lines f hf
  rw [lf] at km
  have ho := or_byte 16 (one (isM f 0)) (by omega) (by omega) (one_bounds _).1 (by have := (one_bounds (isM f 0)).2; omega)
  have hq : B8 (bits .or .u8 16 (one (isM f 0))) := ho
  clear ho
  cases hi : isM b n
  · have hm := bit_no n b lines f hi
    go_enter Tryz.func107, Tryz.ntmps107
    go_wp2_with (first
      | (go_at_call 199; refine (is_any _ _ (B8.lo (by assumption)) (B8.hi (by assumption)) _).mono ?_; rintro e w' ⟨rfl, rfl⟩)
      | (go_at_call 198; refine (keep_any _ _ _ (B8.lo (by assumption)) (B8.hi (by assumption)) (B8.lo (by assumption)) (B8.hi (by assumption)) (by omega) (by omega) _).mono ?_; rintro e w' ⟨rfl, rfl⟩))
    go_ret
    exact ⟨rfl, rfl⟩
  · by_cases h7 : n = 7
    · subst h7
      have hm := bit_seven b lines f hi
      go_enter Tryz.func107, Tryz.ntmps107
      go_wp2_with (first
        | (go_at_call 199; refine (is_any _ _ (B8.lo (by assumption)) (B8.hi (by assumption)) _).mono ?_; rintro e w' ⟨rfl, rfl⟩)
        | (go_at_call 198; refine (keep_any _ _ _ (B8.lo (by assumption)) (B8.hi (by assumption)) (B8.lo (by assumption)) (B8.hi (by assumption)) (by omega) (by omega) _).mono ?_; rintro e w' ⟨rfl, rfl⟩))
      go_ret
      exact ⟨rfl, rfl⟩
    · have hm := bit_yes n b lines f hi h7
      have n7 : (n == 7) = false := by simpa using h7
      clear h7
      go_enter Tryz.func107, Tryz.ntmps107
      go_wp2_with (first
        | (go_at_call 199; refine (is_any _ _ (B8.lo (by assumption)) (B8.hi (by assumption)) _).mono ?_; rintro e w' ⟨rfl, rfl⟩)
        | (go_at_call 198; refine (keep_any _ _ _ (B8.lo (by assumption)) (B8.hi (by assumption)) (B8.lo (by assumption)) (B8.hi (by assumption)) (by omega) (by omega) _).mono ?_; rintro e w' ⟨rfl, rfl⟩))
      go_ret
      exact ⟨rfl, rfl⟩
end Go.Proofs.YtibmpaeaicpbcaaGreatDoor
