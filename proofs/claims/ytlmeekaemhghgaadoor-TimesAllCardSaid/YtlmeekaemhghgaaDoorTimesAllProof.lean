/- The statement 'TimesAll': for every input the law returns true, and each argument reads behind the call as it read before. The package's tables read as the program's text lays them (the card's tie). -/
import Derived.Test.YtlmeekaemhghgaaDoorRows
import Derived.Test.YtlmeekaemhghgaaDoorTimesAllWalk
import Derived.WalkKit
import Derived.ProofKit
import Derived.OpenShut
import Derived.Below
import Derived.ChangeMaps5
import Derived.Carry
import Derived.Test.YtlmeekaemhghgaaDoorOpen
import Derived.Test.YtlmeekaemhghgaaDoorOpenMore
import Derived.Test.YtlmeekaemhghgaaDoorCards
import Derived.Test.YtlmeekaemhghgaaDoorTie
import Derived.Deep.DeepHandedRow
import Derived.Test.YtlmeekaemhghgaaDoorLaid
namespace Go.Proofs.YtlmeekaemhghgaaDoor.timesAllLaw
open Go.ChangeShapes Go.WideShapes Go.ChangeAt Go.RowKit
set_option linter.unusedVariables false
theorem own : ownKnob Tryd.prog.godebug = none := by kernel_rfl
theorem laidOut : laidOutB Tryd.prog = true := by kernel_rfl
theorem times_rows_g : Tryd.prog.globalNamed "charabanc/times.rows" = some 2 := by kernel_rfl
theorem times_rows_t : (Tryd.prog.globals[2]?).map (·.type) = some 59 := by kernel_rfl
theorem times_rows_f : flat Tryd.prog 9 59 (Rows.laid_charabanc_times_rows : DataW Unit) = some [.int .u8 4, .int .u8 10, .int .u8 7, .int .u8 6, .int .u8 4, .int .u8 4, .int .u8 7, .int .u8 4, .int .u8 4, .int .u8 11, .int .u8 7, .int .u8 6, .int .u8 4, .int .u8 4, .int .u8 7, .int .u8 4, .int .u8 8, .int .u8 10, .int .u8 7, .int .u8 6, .int .u8 4, .int .u8 4, .int .u8 7, .int .u8 4, .int .u8 12, .int .u8 11, .int .u8 7, .int .u8 6, .int .u8 4, .int .u8 4, .int .u8 7, .int .u8 4, .int .u8 7, .int .u8 10, .int .u8 16, .int .u8 6, .int .u8 4, .int .u8 4, .int .u8 7, .int .u8 4, .int .u8 7, .int .u8 11, .int .u8 16, .int .u8 6, .int .u8 4, .int .u8 4, .int .u8 7, .int .u8 4, .int .u8 7, .int .u8 10, .int .u8 13, .int .u8 6, .int .u8 11, .int .u8 11, .int .u8 10, .int .u8 4, .int .u8 7, .int .u8 11, .int .u8 13, .int .u8 6, .int .u8 4, .int .u8 4, .int .u8 7, .int .u8 4, .int .u8 4, .int .u8 4, .int .u8 4, .int .u8 4, .int .u8 4, .int .u8 4, .int .u8 7, .int .u8 4, .int .u8 4, .int .u8 4, .int .u8 4, .int .u8 4, .int .u8 4, .int .u8 4, .int .u8 7, .int .u8 4, .int .u8 7, .int .u8 7, .int .u8 7, .int .u8 7, .int .u8 7, .int .u8 7, .int .u8 4, .int .u8 7, .int .u8 4, .int .u8 4, .int .u8 4, .int .u8 4, .int .u8 4, .int .u8 4, .int .u8 7, .int .u8 4, .int .u8 5, .int .u8 10, .int .u8 10, .int .u8 10, .int .u8 10, .int .u8 11, .int .u8 7, .int .u8 11, .int .u8 5, .int .u8 10, .int .u8 10, .int .u8 4, .int .u8 10, .int .u8 17, .int .u8 7, .int .u8 11, .int .u8 5, .int .u8 10, .int .u8 10, .int .u8 11, .int .u8 10, .int .u8 11, .int .u8 7, .int .u8 11, .int .u8 5, .int .u8 4, .int .u8 10, .int .u8 11, .int .u8 10, .int .u8 4, .int .u8 7, .int .u8 11, .int .u8 5, .int .u8 10, .int .u8 10, .int .u8 19, .int .u8 10, .int .u8 11, .int .u8 7, .int .u8 11, .int .u8 5, .int .u8 4, .int .u8 10, .int .u8 4, .int .u8 10, .int .u8 4, .int .u8 7, .int .u8 11, .int .u8 5, .int .u8 10, .int .u8 10, .int .u8 4, .int .u8 10, .int .u8 11, .int .u8 7, .int .u8 11, .int .u8 5, .int .u8 6, .int .u8 10, .int .u8 4, .int .u8 10, .int .u8 4, .int .u8 7, .int .u8 11] := by kernel_rfl
theorem times_rows_var {W : World} (h : laidMetH Tryd.prog Rows.timesAllRow.laid W) : W.var? Tryd.prog "charabanc/times.rows" = some [(.int .u8 4 : Value), (.int .u8 10 : Value), (.int .u8 7 : Value), (.int .u8 6 : Value), (.int .u8 4 : Value), (.int .u8 4 : Value), (.int .u8 7 : Value), (.int .u8 4 : Value), (.int .u8 4 : Value), (.int .u8 11 : Value), (.int .u8 7 : Value), (.int .u8 6 : Value), (.int .u8 4 : Value), (.int .u8 4 : Value), (.int .u8 7 : Value), (.int .u8 4 : Value), (.int .u8 8 : Value), (.int .u8 10 : Value), (.int .u8 7 : Value), (.int .u8 6 : Value), (.int .u8 4 : Value), (.int .u8 4 : Value), (.int .u8 7 : Value), (.int .u8 4 : Value), (.int .u8 12 : Value), (.int .u8 11 : Value), (.int .u8 7 : Value), (.int .u8 6 : Value), (.int .u8 4 : Value), (.int .u8 4 : Value), (.int .u8 7 : Value), (.int .u8 4 : Value), (.int .u8 7 : Value), (.int .u8 10 : Value), (.int .u8 16 : Value), (.int .u8 6 : Value), (.int .u8 4 : Value), (.int .u8 4 : Value), (.int .u8 7 : Value), (.int .u8 4 : Value), (.int .u8 7 : Value), (.int .u8 11 : Value), (.int .u8 16 : Value), (.int .u8 6 : Value), (.int .u8 4 : Value), (.int .u8 4 : Value), (.int .u8 7 : Value), (.int .u8 4 : Value), (.int .u8 7 : Value), (.int .u8 10 : Value), (.int .u8 13 : Value), (.int .u8 6 : Value), (.int .u8 11 : Value), (.int .u8 11 : Value), (.int .u8 10 : Value), (.int .u8 4 : Value), (.int .u8 7 : Value), (.int .u8 11 : Value), (.int .u8 13 : Value), (.int .u8 6 : Value), (.int .u8 4 : Value), (.int .u8 4 : Value), (.int .u8 7 : Value), (.int .u8 4 : Value), (.int .u8 4 : Value), (.int .u8 4 : Value), (.int .u8 4 : Value), (.int .u8 4 : Value), (.int .u8 4 : Value), (.int .u8 4 : Value), (.int .u8 7 : Value), (.int .u8 4 : Value), (.int .u8 4 : Value), (.int .u8 4 : Value), (.int .u8 4 : Value), (.int .u8 4 : Value), (.int .u8 4 : Value), (.int .u8 4 : Value), (.int .u8 7 : Value), (.int .u8 4 : Value), (.int .u8 7 : Value), (.int .u8 7 : Value), (.int .u8 7 : Value), (.int .u8 7 : Value), (.int .u8 7 : Value), (.int .u8 7 : Value), (.int .u8 4 : Value), (.int .u8 7 : Value), (.int .u8 4 : Value), (.int .u8 4 : Value), (.int .u8 4 : Value), (.int .u8 4 : Value), (.int .u8 4 : Value), (.int .u8 4 : Value), (.int .u8 7 : Value), (.int .u8 4 : Value), (.int .u8 5 : Value), (.int .u8 10 : Value), (.int .u8 10 : Value), (.int .u8 10 : Value), (.int .u8 10 : Value), (.int .u8 11 : Value), (.int .u8 7 : Value), (.int .u8 11 : Value), (.int .u8 5 : Value), (.int .u8 10 : Value), (.int .u8 10 : Value), (.int .u8 4 : Value), (.int .u8 10 : Value), (.int .u8 17 : Value), (.int .u8 7 : Value), (.int .u8 11 : Value), (.int .u8 5 : Value), (.int .u8 10 : Value), (.int .u8 10 : Value), (.int .u8 11 : Value), (.int .u8 10 : Value), (.int .u8 11 : Value), (.int .u8 7 : Value), (.int .u8 11 : Value), (.int .u8 5 : Value), (.int .u8 4 : Value), (.int .u8 10 : Value), (.int .u8 11 : Value), (.int .u8 10 : Value), (.int .u8 4 : Value), (.int .u8 7 : Value), (.int .u8 11 : Value), (.int .u8 5 : Value), (.int .u8 10 : Value), (.int .u8 10 : Value), (.int .u8 19 : Value), (.int .u8 10 : Value), (.int .u8 11 : Value), (.int .u8 7 : Value), (.int .u8 11 : Value), (.int .u8 5 : Value), (.int .u8 4 : Value), (.int .u8 10 : Value), (.int .u8 4 : Value), (.int .u8 10 : Value), (.int .u8 4 : Value), (.int .u8 7 : Value), (.int .u8 11 : Value), (.int .u8 5 : Value), (.int .u8 10 : Value), (.int .u8 10 : Value), (.int .u8 4 : Value), (.int .u8 10 : Value), (.int .u8 11 : Value), (.int .u8 7 : Value), (.int .u8 11 : Value), (.int .u8 5 : Value), (.int .u8 6 : Value), (.int .u8 10 : Value), (.int .u8 4 : Value), (.int .u8 10 : Value), (.int .u8 4 : Value), (.int .u8 7 : Value), (.int .u8 11 : Value)].toArray :=
  laid_var 0 rfl times_rows_g times_rows_t times_rows_f h
theorem times_rowOf_g : Tryd.prog.globalNamed "charabanc/times.rowOf" = some 3 := by kernel_rfl
theorem times_rowOf_t : (Tryd.prog.globals[3]?).map (·.type) = some 58 := by kernel_rfl
theorem times_rowOf_f : flat Tryd.prog 9 58 (Rows.laid_charabanc_times_rowOf : DataW Unit) = some [.int .u8 0, .int .u8 1, .int .u8 2, .int .u8 3, .int .u8 4, .int .u8 4, .int .u8 4, .int .u8 5, .int .u8 4, .int .u8 4, .int .u8 4, .int .u8 4, .int .u8 6, .int .u8 7, .int .u8 8, .int .u8 9] := by kernel_rfl
theorem times_rowOf_var {W : World} (h : laidMetH Tryd.prog Rows.timesAllRow.laid W) : W.var? Tryd.prog "charabanc/times.rowOf" = some [(.int .u8 0 : Value), (.int .u8 1 : Value), (.int .u8 2 : Value), (.int .u8 3 : Value), (.int .u8 4 : Value), (.int .u8 4 : Value), (.int .u8 4 : Value), (.int .u8 5 : Value), (.int .u8 4 : Value), (.int .u8 4 : Value), (.int .u8 4 : Value), (.int .u8 4 : Value), (.int .u8 6 : Value), (.int .u8 7 : Value), (.int .u8 8 : Value), (.int .u8 9 : Value)].toArray :=
  laid_var 1 rfl times_rowOf_g times_rowOf_t times_rowOf_f h
theorem times_single_g : Tryd.prog.globalNamed "charabanc/times.single" = some 0 := by kernel_rfl
theorem times_single_t : (Tryd.prog.globals[0]?).map (·.type) = some 51 := by kernel_rfl
theorem times_single_f : flat Tryd.prog 9 51 (Rows.laid_charabanc_times_single : DataW Unit) = some [.int .u8 12, .int .u8 12, .int .u8 15, .int .u8 20, .int .u8 8, .int .u8 14, .int .u8 8] := by kernel_rfl
theorem times_single_var {W : World} (h : laidMetH Tryd.prog Rows.timesAllRow.laid W) : W.var? Tryd.prog "charabanc/times.single" = some [(.int .u8 12 : Value), (.int .u8 12 : Value), (.int .u8 15 : Value), (.int .u8 20 : Value), (.int .u8 8 : Value), (.int .u8 14 : Value), (.int .u8 8 : Value)].toArray :=
  laid_var 2 rfl times_single_g times_single_t times_single_f h
theorem times_special_g : Tryd.prog.globalNamed "charabanc/times.special" = some 1 := by kernel_rfl
theorem times_special_t : (Tryd.prog.globals[1]?).map (·.type) = some 52 := by kernel_rfl
theorem times_special_f : flat Tryd.prog 9 52 (Rows.laid_charabanc_times_special : DataW Unit) = some [.int .u8 9, .int .u8 9, .int .u8 9, .int .u8 9, .int .u8 18, .int .u8 18, .int .u8 8, .int .u8 8] := by kernel_rfl
theorem times_special_var {W : World} (h : laidMetH Tryd.prog Rows.timesAllRow.laid W) : W.var? Tryd.prog "charabanc/times.special" = some [(.int .u8 9 : Value), (.int .u8 9 : Value), (.int .u8 9 : Value), (.int .u8 9 : Value), (.int .u8 18 : Value), (.int .u8 18 : Value), (.int .u8 8 : Value), (.int .u8 8 : Value)].toArray :=
  laid_var 3 rfl times_special_g times_special_t times_special_f h
theorem timesTabsAt {W : World} (h : laidMetH Tryd.prog Rows.timesAllRow.laid W) : TimesTabs W :=
  ⟨times_rows_var h, times_rowOf_var h, times_single_var h, times_special_var h⟩
set_option maxRecDepth 100000 in
theorem contract (H : Type) (enc : TypeId × Value → H) (W : World) (base : Nat) (args : Array Value) (ds gs : List (DataW H)) (before : List MemPlace)
    (hval : ∀ (j : Nat) t v, Tryd.f4.params[j]? = some t → args[j]? = some v → Value.okWide Tryd.prog W .any base t v)
    (hW : DataW.Whole enc Tryd.prog Tryd.f4.params.toList Rows.timesAllSpec.vars false W args.toList ds gs before) (hL : laidMetH Tryd.prog Rows.timesAllRow.laid W) :
    Calls Tryd.prog 4 args W fun e W' => ∃ v, e = .returned v ∧ Rows.timesAllSpec.post enc Tryd.prog Tryd.f4 false true false false W args v W' := by
  have hW' := hW
  obtain ⟨p, q, hA0, hV, rfl, hfz, hnd⟩ := hW
  have hA : DataW.TrodAll enc Tryd.prog W 0 (fun _ => true) true Tryd.f4.params.toList args.toList ds p := hA0
  rw [Tryd.params4] at hA hval
  obtain ⟨v0, vs0, d0, ds0, p0, q0, hargs, rfl, rfl, h0, r0⟩ := trodAll_cons hA
  obtain ⟨v1, vs1, d1, ds1, p1, q1, rfl, rfl, rfl, h1, r1⟩ := trodAll_cons r0
  obtain ⟨rfl, rfl, rfl⟩ := trodAll_nil r1
  obtain rfl : args = #[v0, v1] := by cases args; simp_all
  obtain ⟨rfl, rfl⟩ := trodVars_none hV
  have k0 := h0
  have lt0 : ∀ x ∈ p0, x.block < W.heap.size := by obtain ⟨m, hm⟩ := k0; exact DataW.trod_lt m _ _ _ hm
  obtain ⟨A0, c0, x0, rfl, hl0, hm0, hx0, hb0, hn0⟩ := open_bytes Tryd.underlying29 Tryd.underlying5 (by kernel_rfl) (hval 0 29 v0 rfl rfl) h0
  obtain ⟨a1, rfl, rfl, rfl, w1⟩ := open_int Tryd.underlying3 (hval 1 3 v1 rfl rfl) h1
  clear hA0
  refine (timesAll_walk A0 c0 x0 a1  W hl0 hm0 hx0 hb0 hn0 (timesTabsAt hL)).mono fun e W' ⟨he, bel⟩ => ?_
  subst he
  exact ⟨_, rfl, _, _, _, [], _, [], hW', trodAll_mk1 (shut_bool Tryd.underlying4 _), (trodAll_cons_mk (Below.trod laidOut (by kernel_rfl) (of_decide_eq_true (by kernel_rfl)) k0 bel lt0) (trodAll_cons_mk (shut_int Tryd.underlying3 w1) trodAll_mk0)), rfl, bel.frame _, fun h => by cases h⟩
def layIn (cs : Array Value) : Obj → Obj
  | .cells _ t frozen => .cells cs t frozen
  | o => o
/-- A world for the witness: the settled one, the tables holding what their initialisers lay. -/
noncomputable def laidWorld (os : Os) : World :=
  { World.holding Tryd.prog os ⟨#[], #[], []⟩ with heap := ([(2, #[.int .u8 4, .int .u8 10, .int .u8 7, .int .u8 6, .int .u8 4, .int .u8 4, .int .u8 7, .int .u8 4, .int .u8 4, .int .u8 11, .int .u8 7, .int .u8 6, .int .u8 4, .int .u8 4, .int .u8 7, .int .u8 4, .int .u8 8, .int .u8 10, .int .u8 7, .int .u8 6, .int .u8 4, .int .u8 4, .int .u8 7, .int .u8 4, .int .u8 12, .int .u8 11, .int .u8 7, .int .u8 6, .int .u8 4, .int .u8 4, .int .u8 7, .int .u8 4, .int .u8 7, .int .u8 10, .int .u8 16, .int .u8 6, .int .u8 4, .int .u8 4, .int .u8 7, .int .u8 4, .int .u8 7, .int .u8 11, .int .u8 16, .int .u8 6, .int .u8 4, .int .u8 4, .int .u8 7, .int .u8 4, .int .u8 7, .int .u8 10, .int .u8 13, .int .u8 6, .int .u8 11, .int .u8 11, .int .u8 10, .int .u8 4, .int .u8 7, .int .u8 11, .int .u8 13, .int .u8 6, .int .u8 4, .int .u8 4, .int .u8 7, .int .u8 4, .int .u8 4, .int .u8 4, .int .u8 4, .int .u8 4, .int .u8 4, .int .u8 4, .int .u8 7, .int .u8 4, .int .u8 4, .int .u8 4, .int .u8 4, .int .u8 4, .int .u8 4, .int .u8 4, .int .u8 7, .int .u8 4, .int .u8 7, .int .u8 7, .int .u8 7, .int .u8 7, .int .u8 7, .int .u8 7, .int .u8 4, .int .u8 7, .int .u8 4, .int .u8 4, .int .u8 4, .int .u8 4, .int .u8 4, .int .u8 4, .int .u8 7, .int .u8 4, .int .u8 5, .int .u8 10, .int .u8 10, .int .u8 10, .int .u8 10, .int .u8 11, .int .u8 7, .int .u8 11, .int .u8 5, .int .u8 10, .int .u8 10, .int .u8 4, .int .u8 10, .int .u8 17, .int .u8 7, .int .u8 11, .int .u8 5, .int .u8 10, .int .u8 10, .int .u8 11, .int .u8 10, .int .u8 11, .int .u8 7, .int .u8 11, .int .u8 5, .int .u8 4, .int .u8 10, .int .u8 11, .int .u8 10, .int .u8 4, .int .u8 7, .int .u8 11, .int .u8 5, .int .u8 10, .int .u8 10, .int .u8 19, .int .u8 10, .int .u8 11, .int .u8 7, .int .u8 11, .int .u8 5, .int .u8 4, .int .u8 10, .int .u8 4, .int .u8 10, .int .u8 4, .int .u8 7, .int .u8 11, .int .u8 5, .int .u8 10, .int .u8 10, .int .u8 4, .int .u8 10, .int .u8 11, .int .u8 7, .int .u8 11, .int .u8 5, .int .u8 6, .int .u8 10, .int .u8 4, .int .u8 10, .int .u8 4, .int .u8 7, .int .u8 11]),
    (3, #[.int .u8 0, .int .u8 1, .int .u8 2, .int .u8 3, .int .u8 4, .int .u8 4, .int .u8 4, .int .u8 5, .int .u8 4, .int .u8 4, .int .u8 4, .int .u8 4, .int .u8 6, .int .u8 7, .int .u8 8, .int .u8 9]),
    (0, #[.int .u8 12, .int .u8 12, .int .u8 15, .int .u8 20, .int .u8 8, .int .u8 14, .int .u8 8]),
    (1, #[.int .u8 9, .int .u8 9, .int .u8 9, .int .u8 9, .int .u8 18, .int .u8 18, .int .u8 8, .int .u8 8])] : List (Nat × Array Value)).foldl (fun h p => h.modify p.1 (layIn p.2)) (World.holding Tryd.prog os ⟨#[], #[], []⟩).heap }
theorem laid_met (os : Os) : laidMet Tryd.prog Rows.timesAllRow.laid ((laidWorld os).forCall (fun _ _ => 0) ⟨#[], #[.slice none 0 0, .int .i64 0], []⟩).memory :=
  laidMet_of_run' 8 (by kernel_rfl) (by kernel_rfl)
theorem reads (os : Os) {H : Type} (enc : TypeId × Value → H) : ∃ places, DataW.whole enc Tryd.prog ((laidWorld os).forCall (fun _ _ => 0) ⟨#[], #[.slice none 0 0, .int .i64 0], []⟩).memory Tryd.f4.params.toList Rows.timesAllSpec.vars false (#[.slice none 0 0, .int .i64 0] : Array Value).toList 8 = some ([.nil, .lit (.int .i64 0)], [], places) :=
  ⟨[], by kernel_rfl⟩
set_option maxRecDepth 100000 in
theorem lifted (os : Os) (started : os.Started) (H : Type) (enc : TypeId × Value → H) (F : Stop.Interp) :
    ReturnsInHanded {} Tryd.checked os 4 .any ((OpenSpec.ofChange Rows.timesAllSpec).preRow enc Tryd.prog Tryd.f4 Rows.timesAllRow.domain false Rows.timesAllRow.laid) (((OpenSpec.ofChange Rows.timesAllSpec).at F).post enc Tryd.prog Tryd.f4 false true false false) := by
  obtain ⟨places, hx⟩ := reads os enc
  refine returnsInHanded_of_row (C := Tryd.checked) (s := OpenSpec.ofChange Rows.timesAllSpec) own started (by kernel_rfl) Tryd.func4
    (witness_row_at (enc := enc) (C := Tryd.checked) false (laidWorld os) #[.slice none 0 0, .int .i64 0] rfl (by kernel_rfl) (by kernel_rfl) (by kernel_rfl)
      (OpenSpec.preRow_of_cond 8 hx (by kernel_rfl) (fun k hk => by cases hk) (by kernel_rfl) (laid_met os))) ?_
  intro W base args ds gs before hval hW _ _ _ hL _ _
  exact contract H enc W base args ds gs before hval hW hL
theorem said : Rows.TimesAllSaid :=
  OpenClaim.holds_of_cond 4 Tryd.f4 rfl rfl rfl rfl rfl rfl rfl ⟨rfl, rfl, rfl, rfl, rfl⟩ rfl rfl rfl rfl rfl (by kernel_rfl) Tryd.func4 (by kernel_rfl)
    (of_decide_eq_true (by kernel_rfl)) (by unfold Func.isWrapper; first | (rw [if_pos (by decide +kernel)]; kernel_rfl) | (rw [if_neg (by decide +kernel)]; exact ⟨rfl, rfl⟩))
    (fun os started H enc _ F => by rw [OpenClaim.pre_eq_preRow]; exact lifted os started H enc F)
theorem plain (f : FuncId) (fn : Func) (hf : Tryd.pinned.checked.prog.funcNamed "charabanc/charabanclaw10.TimesAll" = some f) (hfn : Tryd.pinned.checked.prog.funcs[f]? = some fn) :
    false = Tryd.pinned.checked.prog.looks [] ∧ ∀ (j : Nat) t, fn.params[j]? = some t → Tryd.pinned.checked.prog.wantsStandIn t = false := by
  obtain rfl : f = 4 := Option.some.inj ((show Tryd.prog.funcNamed "charabanc/charabanclaw10.TimesAll" = some 4 by kernel_rfl).symm.trans hf) |>.symm
  obtain rfl : fn = Tryd.f4 := (Option.some.inj (Tryd.func4.symm.trans hfn)).symm
  refine ⟨by kernel_rfl, fun j t ht => ?_⟩
  rw [Tryd.params4] at ht
  have hmem := Array.mem_of_getElem? ht
  have key : ∀ t ∈ (#[29, 3] : Array TypeId), Tryd.prog.wantsStandIn t = false := by
    intro t ht
    simp only [List.mem_toArray, List.mem_cons, List.not_mem_nil, or_false] at ht
    rcases ht with rfl | rfl <;> kernel_rfl
  exact key t hmem
theorem proved : Rows.TimesAllCardSaid :=
  Claim7.holds_tied_plain_at .later [] _ _ _ _ said (fun _ h => by cases h) (by kernel_rfl) (fun _ h => by cases h) timesAll_row_tie rfl ⟨rfl, rfl⟩ (by kernel_rfl) rfl plain (by kernel_rfl)
#print axioms proved
end Go.Proofs.YtlmeekaemhghgaaDoor.timesAllLaw
