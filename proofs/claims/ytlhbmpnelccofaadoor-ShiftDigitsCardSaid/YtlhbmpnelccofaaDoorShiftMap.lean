/- Layer 6 (shift): a map of functions that a call makes by a literal with whole numbers as keys; entering and its closures: contracts. -/
import Derived.Test.YtlhbmpnelccofaaDoorShiftMath
import Derived.Test.YtlhbmpnelccofaaDoorBox
import Derived.Deep.RegionHeld3
import Derived.Deep.DeepHandedRow
import Derived.Laws.EntriesVeiled
import Derived.Maps.Own
namespace Go.Proofs.YtlhbmpnelccofaaDoor
open Go.RowKit
set_option linter.unusedVariables false
set_option linter.unusedSimpArgs false

theorem setBlock_top (W : World) (o o' : Obj) : ({ W.alloc o with heap := (W.alloc o).heap.setIfInBounds W.heap.size o' } : World) = W.alloc o' := by
  have e : (W.heap.push o).setIfInBounds W.heap.size o' = W.heap.push o' := by
    apply Array.ext
    · simp
    · intro i h1 h2
      simp at h1 h2
      by_cases hi : i = W.heap.size
      · subst hi; simp
      · rw [Array.getElem_setIfInBounds, Array.getElem_push_lt (by omega), Array.getElem_push_lt (by omega), if_neg (by omega)]
        simpa using h1
  show ({ W with heap := (W.heap.push o).setIfInBounds W.heap.size o' } : World) = { W with heap := W.heap.push o' }
  rw [e]
/-- a literal's entry is laid into the map that is the newest block -/
theorem run_insert_top {P : Program} (W : World) (t kt et : TypeId) (ht : P.underlying t = some (.map kt et)) (hk : P.underlying kt = some (.int .i64)) (es : List MapEntry) (clock : Nat) (n : Int) (val : Value) (b : Nat)
    (hb : b = W.heap.size) (hnew : Instr.findNow (.int .i64) (.int .i64 n) es 0 = some none) :
    (Instr.mapUpdate t (.map (some b)) (.int .i64 n) val).run P (W.alloc (.map es.toArray clock)) = .ok () (W.alloc (.map (es ++ [({ key := .int .i64 n, val := val, born := clock } : MapEntry)]).toArray (clock + 1))) := by
  subst hb
  have hb := (MapKept.heap_alloc W (.map es.toArray clock)).1
  simp [Instr.mapUpdate, run_underlying ht, MapKept.run_getObj_map hb, MapKept.run_checkKey hk (k := .int .i64 n) (by simp [MapKept.IsKey]) false 9999, MapKept.run_findKey hk hnew, MapKept.run_setObj_map _ hb, Result.andThen]
  exact setBlock_top W _ _
/-- 'v, ok := m[k]' of whole numbers: a key that is there, and one that is not -/
theorem run_look {P : Program} {W : World} {t kt et : TypeId} (ht : P.underlying t = some (.map kt et)) (hk : P.underlying kt = some (.int .i64)) {es : Array MapEntry} {clock M : Nat} (hb : W.heap[M]? = some (.map es clock)) {n : Int} {j : Nat} {v : Value}
    (hf : Instr.findNow (.int .i64) (.int .i64 n) es.toList 0 = some (some (j, v))) : (Instr.lookup t (.map (some M)) (.int .i64 n) true).run P W = .ok (.tuple #[v, .bool true]) W := by
  simp [Instr.lookup, run_underlying ht, MapKept.run_getObj_map hb, MapKept.run_checkKey hk (k := .int .i64 n) (by simp [MapKept.IsKey]) _ 9999, MapKept.run_findKey hk hf, Result.andThen]
theorem run_look_no {P : Program} {W : World} {t kt et : TypeId} (ht : P.underlying t = some (.map kt et)) (hk : P.underlying kt = some (.int .i64)) {es : Array MapEntry} {clock M : Nat} (hb : W.heap[M]? = some (.map es clock)) {n : Int} {z : Value}
    (hf : Instr.findNow (.int .i64) (.int .i64 n) es.toList 0 = some none) (hz : (zeroValue et).run P W = .ok z W) : (Instr.lookup t (.map (some M)) (.int .i64 n) true).run P W = .ok (.tuple #[z, .bool false]) W := by
  simp [Instr.lookup, run_underlying ht, MapKept.run_getObj_map hb, MapKept.run_checkKey hk (k := .int .i64 n) (by simp [MapKept.IsKey]) _ 9999, MapKept.run_findKey hk hf, hz, Result.andThen]
theorem ins_0 (v0 : Value) (W : World) (b : Nat) (hb : b = W.heap.size) :
    (Instr.mapUpdate 46 (.map (some b)) (.int .i64 0) v0).run Tryd.prog (W.alloc (.map #[] 0)) = .ok () (W.alloc (.map #[⟨.int .i64 0, v0, 0⟩] 1)) :=
  run_insert_top W _ _ _ Tryd.underlying46 Tryd.underlying3 _ _ _ _ b hb rfl
theorem ins_1 (v0 v1 : Value) (W : World) (b : Nat) (hb : b = W.heap.size) :
    (Instr.mapUpdate 46 (.map (some b)) (.int .i64 1) v1).run Tryd.prog (W.alloc (.map #[⟨.int .i64 0, v0, 0⟩] 1)) = .ok () (W.alloc (.map #[⟨.int .i64 0, v0, 0⟩, ⟨.int .i64 1, v1, 1⟩] 2)) :=
  run_insert_top W _ _ _ Tryd.underlying46 Tryd.underlying3 _ _ _ _ b hb rfl
theorem ins_2 (v0 v1 v2 : Value) (W : World) (b : Nat) (hb : b = W.heap.size) :
    (Instr.mapUpdate 46 (.map (some b)) (.int .i64 2) v2).run Tryd.prog (W.alloc (.map #[⟨.int .i64 0, v0, 0⟩, ⟨.int .i64 1, v1, 1⟩] 2)) = .ok () (W.alloc (.map #[⟨.int .i64 0, v0, 0⟩, ⟨.int .i64 1, v1, 1⟩, ⟨.int .i64 2, v2, 2⟩] 3)) :=
  run_insert_top W _ _ _ Tryd.underlying46 Tryd.underlying3 _ _ _ _ b hb rfl
theorem ins_3 (v0 v1 v2 v3 : Value) (W : World) (b : Nat) (hb : b = W.heap.size) :
    (Instr.mapUpdate 46 (.map (some b)) (.int .i64 3) v3).run Tryd.prog (W.alloc (.map #[⟨.int .i64 0, v0, 0⟩, ⟨.int .i64 1, v1, 1⟩, ⟨.int .i64 2, v2, 2⟩] 3)) = .ok () (W.alloc (.map #[⟨.int .i64 0, v0, 0⟩, ⟨.int .i64 1, v1, 1⟩, ⟨.int .i64 2, v2, 2⟩, ⟨.int .i64 3, v3, 3⟩] 4)) :=
  run_insert_top W _ _ _ Tryd.underlying46 Tryd.underlying3 _ _ _ _ b hb rfl
theorem ins_4 (v0 v1 v2 v3 v4 : Value) (W : World) (b : Nat) (hb : b = W.heap.size) :
    (Instr.mapUpdate 46 (.map (some b)) (.int .i64 4) v4).run Tryd.prog (W.alloc (.map #[⟨.int .i64 0, v0, 0⟩, ⟨.int .i64 1, v1, 1⟩, ⟨.int .i64 2, v2, 2⟩, ⟨.int .i64 3, v3, 3⟩] 4)) = .ok () (W.alloc (.map #[⟨.int .i64 0, v0, 0⟩, ⟨.int .i64 1, v1, 1⟩, ⟨.int .i64 2, v2, 2⟩, ⟨.int .i64 3, v3, 3⟩, ⟨.int .i64 4, v4, 4⟩] 5)) :=
  run_insert_top W _ _ _ Tryd.underlying46 Tryd.underlying3 _ _ _ _ b hb rfl
theorem ins_5 (v0 v1 v2 v3 v4 v5 : Value) (W : World) (b : Nat) (hb : b = W.heap.size) :
    (Instr.mapUpdate 46 (.map (some b)) (.int .i64 5) v5).run Tryd.prog (W.alloc (.map #[⟨.int .i64 0, v0, 0⟩, ⟨.int .i64 1, v1, 1⟩, ⟨.int .i64 2, v2, 2⟩, ⟨.int .i64 3, v3, 3⟩, ⟨.int .i64 4, v4, 4⟩] 5)) = .ok () (W.alloc (.map #[⟨.int .i64 0, v0, 0⟩, ⟨.int .i64 1, v1, 1⟩, ⟨.int .i64 2, v2, 2⟩, ⟨.int .i64 3, v3, 3⟩, ⟨.int .i64 4, v4, 4⟩, ⟨.int .i64 5, v5, 5⟩] 6)) :=
  run_insert_top W _ _ _ Tryd.underlying46 Tryd.underlying3 _ _ _ _ b hb rfl
theorem ins_6 (v0 v1 v2 v3 v4 v5 v6 : Value) (W : World) (b : Nat) (hb : b = W.heap.size) :
    (Instr.mapUpdate 46 (.map (some b)) (.int .i64 6) v6).run Tryd.prog (W.alloc (.map #[⟨.int .i64 0, v0, 0⟩, ⟨.int .i64 1, v1, 1⟩, ⟨.int .i64 2, v2, 2⟩, ⟨.int .i64 3, v3, 3⟩, ⟨.int .i64 4, v4, 4⟩, ⟨.int .i64 5, v5, 5⟩] 6)) = .ok () (W.alloc (.map #[⟨.int .i64 0, v0, 0⟩, ⟨.int .i64 1, v1, 1⟩, ⟨.int .i64 2, v2, 2⟩, ⟨.int .i64 3, v3, 3⟩, ⟨.int .i64 4, v4, 4⟩, ⟨.int .i64 5, v5, 5⟩, ⟨.int .i64 6, v6, 6⟩] 7)) :=
  run_insert_top W _ _ _ Tryd.underlying46 Tryd.underlying3 _ _ _ _ b hb rfl
theorem ins_7 (v0 v1 v2 v3 v4 v5 v6 v7 : Value) (W : World) (b : Nat) (hb : b = W.heap.size) :
    (Instr.mapUpdate 46 (.map (some b)) (.int .i64 7) v7).run Tryd.prog (W.alloc (.map #[⟨.int .i64 0, v0, 0⟩, ⟨.int .i64 1, v1, 1⟩, ⟨.int .i64 2, v2, 2⟩, ⟨.int .i64 3, v3, 3⟩, ⟨.int .i64 4, v4, 4⟩, ⟨.int .i64 5, v5, 5⟩, ⟨.int .i64 6, v6, 6⟩] 7)) = .ok () (W.alloc (.map #[⟨.int .i64 0, v0, 0⟩, ⟨.int .i64 1, v1, 1⟩, ⟨.int .i64 2, v2, 2⟩, ⟨.int .i64 3, v3, 3⟩, ⟨.int .i64 4, v4, 4⟩, ⟨.int .i64 5, v5, 5⟩, ⟨.int .i64 6, v6, 6⟩, ⟨.int .i64 7, v7, 7⟩] 8)) :=
  run_insert_top W _ _ _ Tryd.underlying46 Tryd.underlying3 _ _ _ _ b hb rfl
attribute [local go_sem] ins_0 ins_1 ins_2 ins_3 ins_4 ins_5 ins_6 ins_7
/-- the closures, over their boxes -/
abbrev fnOut (O : Nat) : Value := .func (.func 36) #[] #[.pointer (some ⟨O, 0, none⟩)]
abbrev fnCarry (F : Nat) : Value := .func (.func 37) #[] #[.pointer (some ⟨F, 0, none⟩)]
abbrev fnZero : Value := .func (.func 38) #[] #[]
abbrev fnTop (B : Nat) : Value := .func (.func 39) #[] #[.pointer (some ⟨B, 0, none⟩)]
abbrev fnOne : Value := .func (.func 40) #[] #[]
/-- what the map of the kinds holds -/
def kindEnts (B F O : Nat) : Array MapEntry := #[⟨.int .i64 0, fnOut O, 0⟩, ⟨.int .i64 1, fnOut O, 1⟩, ⟨.int .i64 2, fnCarry F, 2⟩, ⟨.int .i64 3, fnCarry F, 3⟩, ⟨.int .i64 4, fnZero, 4⟩, ⟨.int .i64 5, fnTop B, 5⟩, ⟨.int .i64 6, fnOne, 6⟩, ⟨.int .i64 7, fnZero, 7⟩]
/-- the boxes and the map, as a call of entering leaves them -/
def Kinds (w : World) (B F O M : Nat) (b f : Int) (o : Bool) : Prop :=
  (w.cell? ⟨B, 0, none⟩ = some (.int .u8 b) ∧ w.cell? ⟨F, 0, none⟩ = some (.int .u8 f) ∧ w.cell? ⟨O, 0, none⟩ = some (.bool o)) ∧ w.heap[M]? = some (.map (kindEnts B F O) 8)
set_option maxHeartbeats 4000000 in
theorem entering_any (b f : Int) (o : Bool) (w : World) :
    Calls Tryd.prog 28 #[.int .u8 b, .int .u8 f, .bool o] w fun e w' => ∃ B F O M, e = .returned (.map (some M)) ∧ Kinds w' B F O M b f o ∧ Below w.heap.size w w' := by
  have hmm := @run_makeMap Tryd.prog
  go_enter Tryd.func28, Tryd.ntmps28
  go_wp2
  go_ret
  have c1 := cell_new w (.int .u8 b) 5
  have c2 := cell_new (w.alloc (.cells #[.int .u8 b] 5)) (.int .u8 f) 5
  have c3 := cell_new ((w.alloc (.cells #[.int .u8 b] 5)).alloc (.cells #[.int .u8 f] 5)) (.bool o) 4
  simp only [World.size_alloc] at c2 c3
  refine ⟨w.heap.size, w.heap.size + 1, w.heap.size + 1 + 1, w.heap.size + 1 + 1 + 1, rfl, ⟨⟨cell_under _ _ (cell_under _ _ (cell_under _ _ c1)), cell_under _ _ (cell_under _ _ c2), cell_under _ _ c3⟩, ?_⟩, (by repeat (first | exact Below.refl _ _ | assumption | refine bstep ?_ (by assumption) | refine Below.drew ?_ | refine Below.alloc ?_ (by first | (simp; done) | (simp; omega) | omega) _ | refine Below.setCell ?_ (by first | (simp; done) | (simp; omega) | omega) _))⟩
  have h := (MapKept.heap_alloc (((w.alloc (.cells #[.int .u8 b] 5)).alloc (.cells #[.int .u8 f] 5)).alloc (.cells #[.bool o] 4)) (.map (kindEnts w.heap.size (w.heap.size + 1) (w.heap.size + 1 + 1)) 8)).1
  simp only [World.size_alloc] at h
  exact h
theorem fnOut_any (O : Nat) (o : Bool) (w : World) (h : w.cell? ⟨O, 0, none⟩ = some (.bool o)) :
    Calls Tryd.prog 36 #[.pointer (some ⟨O, 0, none⟩)] w fun e w' => e = .returned (.bool o) ∧ w = w' := by
  go_enter Tryd.func36, Tryd.ntmps36
  go_wp2
  go_ret
  exact ⟨rfl, rfl⟩
theorem low_bit (f : Int) (h : B8 f) : (bits .and .u8 f 1 != 0) = isM f 0 := by
  rw [low_all f h]
  cases isM f 0 <;> rfl
theorem fnCarry_any (F : Nat) (f : Int) (hf : B8 f) (w : World) (h : w.cell? ⟨F, 0, none⟩ = some (.int .u8 f)) :
    Calls Tryd.prog 37 #[.pointer (some ⟨F, 0, none⟩)] w fun e w' => e = .returned (.bool (isM f 0)) ∧ w = w' := by
  have hl := Lib.hid (low_bit f hf)
  go_enter Tryd.func37, Tryd.ntmps37
  go_wp2
  go_ret
  exact ⟨ret_bool hl.out, rfl⟩
theorem fnZero_any (w : World) :
    Calls Tryd.prog 38 #[] w fun e w' => e = .returned (.bool false) ∧ w = w' := by
  go_enter Tryd.func38, Tryd.ntmps38
  go_wp2
  go_ret
  exact ⟨rfl, rfl⟩
theorem fnTop_any (B : Nat) (b : Int) (hb : B8 b) (w : World) (h : w.cell? ⟨B, 0, none⟩ = some (.int .u8 b)) :
    Calls Tryd.prog 39 #[.pointer (some ⟨B, 0, none⟩)] w fun e w' => e = .returned (.bool (isM b 7)) ∧ w = w' := by
  go_enter Tryd.func39, Tryd.ntmps39
  go_wp2_with (first
    | (go_at_call 27; refine (is_any _ _ (B8.lo (by assumption)) (B8.hi (by assumption)) _).mono ?_; rintro e w' ⟨rfl, rfl⟩))
  go_ret
  exact ⟨rfl, rfl⟩
theorem fnOne_any (w : World) :
    Calls Tryd.prog 40 #[] w fun e w' => e = .returned (.bool true) ∧ w = w' := by
  go_enter Tryd.func40, Tryd.ntmps40
  go_wp2
  go_ret
  exact ⟨rfl, rfl⟩
theorem look_0 {w : World} {B F O M : Nat} (h : w.heap[M]? = some (.map (kindEnts B F O) 8)) : (Instr.lookup 46 (.map (some M)) (.int .i64 0) true).run Tryd.prog w = .ok (.tuple #[fnOut O, .bool true]) w :=
  run_look Tryd.underlying46 Tryd.underlying3 h rfl
theorem look_1 {w : World} {B F O M : Nat} (h : w.heap[M]? = some (.map (kindEnts B F O) 8)) : (Instr.lookup 46 (.map (some M)) (.int .i64 1) true).run Tryd.prog w = .ok (.tuple #[fnOut O, .bool true]) w :=
  run_look Tryd.underlying46 Tryd.underlying3 h rfl
theorem look_2 {w : World} {B F O M : Nat} (h : w.heap[M]? = some (.map (kindEnts B F O) 8)) : (Instr.lookup 46 (.map (some M)) (.int .i64 2) true).run Tryd.prog w = .ok (.tuple #[fnCarry F, .bool true]) w :=
  run_look Tryd.underlying46 Tryd.underlying3 h rfl
theorem look_3 {w : World} {B F O M : Nat} (h : w.heap[M]? = some (.map (kindEnts B F O) 8)) : (Instr.lookup 46 (.map (some M)) (.int .i64 3) true).run Tryd.prog w = .ok (.tuple #[fnCarry F, .bool true]) w :=
  run_look Tryd.underlying46 Tryd.underlying3 h rfl
theorem look_4 {w : World} {B F O M : Nat} (h : w.heap[M]? = some (.map (kindEnts B F O) 8)) : (Instr.lookup 46 (.map (some M)) (.int .i64 4) true).run Tryd.prog w = .ok (.tuple #[fnZero, .bool true]) w :=
  run_look Tryd.underlying46 Tryd.underlying3 h rfl
theorem look_5 {w : World} {B F O M : Nat} (h : w.heap[M]? = some (.map (kindEnts B F O) 8)) : (Instr.lookup 46 (.map (some M)) (.int .i64 5) true).run Tryd.prog w = .ok (.tuple #[fnTop B, .bool true]) w :=
  run_look Tryd.underlying46 Tryd.underlying3 h rfl
theorem look_6 {w : World} {B F O M : Nat} (h : w.heap[M]? = some (.map (kindEnts B F O) 8)) : (Instr.lookup 46 (.map (some M)) (.int .i64 6) true).run Tryd.prog w = .ok (.tuple #[fnOne, .bool true]) w :=
  run_look Tryd.underlying46 Tryd.underlying3 h rfl
theorem look_7 {w : World} {B F O M : Nat} (h : w.heap[M]? = some (.map (kindEnts B F O) 8)) : (Instr.lookup 46 (.map (some M)) (.int .i64 7) true).run Tryd.prog w = .ok (.tuple #[fnZero, .bool true]) w :=
  run_look Tryd.underlying46 Tryd.underlying3 h rfl
theorem look_no {w : World} {B F O M : Nat} {k : Int} (hk : k < 0 ∨ 8 ≤ k) (h : w.heap[M]? = some (.map (kindEnts B F O) 8)) : (Instr.lookup 46 (.map (some M)) (.int .i64 k) true).run Tryd.prog w = .ok (.tuple #[.nilFunc, .bool false]) w :=
  run_look_no Tryd.underlying46 Tryd.underlying3 h (by
    have n0 : (k == 0) = false := by simp; omega
    have n1 : (k == 1) = false := by simp; omega
    have n2 : (k == 2) = false := by simp; omega
    have n3 : (k == 3) = false := by simp; omega
    have n4 : (k == 4) = false := by simp; omega
    have n5 : (k == 5) = false := by simp; omega
    have n6 : (k == 6) = false := by simp; omega
    have n7 : (k == 7) = false := by simp; omega
    simp only [kindEnts, Instr.findNow, Instr.sameNow, if_true, n0, n1, n2, n3, n4, n5, n6, n7]) (by kernel_rfl)
end Go.Proofs.YtlhbmpnelccofaaDoor
