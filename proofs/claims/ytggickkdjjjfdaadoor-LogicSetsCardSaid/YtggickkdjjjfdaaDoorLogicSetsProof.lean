/- The statement 'LogicSets': for every input the law returns true, and each argument reads behind the call as it read before. The package's tables read as the program's text lays them (the card's tie). -/
import Derived.Test.YtggickkdjjjfdaaDoorRows
import Derived.Test.YtggickkdjjjfdaaDoorLogicLaws
import Derived.WalkKit
import Derived.ProofKit
import Derived.OpenShut
import Derived.Below
import Derived.ChangeMaps5
import Derived.Carry
import Derived.Test.YtggickkdjjjfdaaDoorOpen
import Derived.Test.YtggickkdjjjfdaaDoorCards
import Derived.Test.YtggickkdjjjfdaaDoorTie
import Derived.Deep.DeepHandedRow
import Derived.Test.YtggickkdjjjfdaaDoorLaid
namespace Go.Proofs.YtggickkdjjjfdaaDoor.logicSetsLaw
open Go.ChangeShapes Go.WideShapes Go.ChangeAt Go.RowKit
set_option linter.unusedVariables false
theorem own : ownKnob Tryd.prog.godebug = none := by kernel_rfl
theorem laidOut : laidOutB Tryd.prog = true := by kernel_rfl
theorem logic_digits_g : Tryd.prog.globalNamed "charabanc/logic.digits" = some 0 := by kernel_rfl
theorem logic_digits_t : (Tryd.prog.globals[0]?).map (·.type) = some 47 := by kernel_rfl
theorem logic_digits_f : flat Tryd.prog 9 47 (Rows.laid_charabanc_logic_digits : DataW Unit) = some [.int .u8 16, .int .u8 15, .int .u8 9, .int .u8 6, .int .u8 1, .int .u8 255, .int .u8 153, .int .u8 96] := by kernel_rfl
theorem logic_digits_var {W : World} (h : laidMetH Tryd.prog Rows.logicSetsRow.laid W) : W.var? Tryd.prog "charabanc/logic.digits" = some [(.int .u8 16 : Value), (.int .u8 15 : Value), (.int .u8 9 : Value), (.int .u8 6 : Value), (.int .u8 1 : Value), (.int .u8 255 : Value), (.int .u8 153 : Value), (.int .u8 96 : Value)].toArray :=
  laid_var 0 rfl logic_digits_g logic_digits_t logic_digits_f h
theorem logic_digitsAt {W : World} (h : laidMetH Tryd.prog Rows.logicSetsRow.laid W) : Digits W :=
  ⟨laid_cell (logic_digits_var h) logic_digits_g 0 _ rfl, laid_cell (logic_digits_var h) logic_digits_g 1 _ rfl, laid_cell (logic_digits_var h) logic_digits_g 2 _ rfl, laid_cell (logic_digits_var h) logic_digits_g 3 _ rfl, laid_cell (logic_digits_var h) logic_digits_g 4 _ rfl, laid_cell (logic_digits_var h) logic_digits_g 5 _ rfl, laid_cell (logic_digits_var h) logic_digits_g 6 _ rfl, laid_cell (logic_digits_var h) logic_digits_g 7 _ rfl⟩
set_option maxRecDepth 100000 in
theorem contract (H : Type) (enc : TypeId × Value → H) (W : World) (base : Nat) (args : Array Value) (ds gs : List (DataW H)) (before : List MemPlace)
    (hval : ∀ (j : Nat) t v, Tryd.f5.params[j]? = some t → args[j]? = some v → Value.okWide Tryd.prog W .any base t v)
    (hW : DataW.Whole enc Tryd.prog Tryd.f5.params.toList Rows.logicSetsSpec.vars false W args.toList ds gs before) (hL : laidMetH Tryd.prog Rows.logicSetsRow.laid W) :
    Calls Tryd.prog 5 args W fun e W' => ∃ v, e = .returned v ∧ Rows.logicSetsSpec.post enc Tryd.prog Tryd.f5 false true false false W args v W' := by
  have hW' := hW
  obtain ⟨p, q, hA0, hV, rfl, hfz, hnd⟩ := hW
  have hA : DataW.TrodAll enc Tryd.prog W 0 (fun _ => true) true Tryd.f5.params.toList args.toList ds p := hA0
  rw [Tryd.params5] at hA hval
  obtain ⟨v0, vs0, d0, ds0, p0, q0, hargs, rfl, rfl, h0, r0⟩ := trodAll_cons hA
  obtain ⟨v1, vs1, d1, ds1, p1, q1, rfl, rfl, rfl, h1, r1⟩ := trodAll_cons r0
  obtain ⟨rfl, rfl, rfl⟩ := trodAll_nil r1
  obtain rfl : args = #[v0, v1] := by cases args; simp_all
  obtain ⟨rfl, rfl⟩ := trodVars_none hV
  obtain ⟨a0, rfl, rfl, rfl, w0⟩ := open_int Tryd.underlying5 (hval 0 5 v0 rfl rfl) h0
  have b0 := bounds_u8 w0
  obtain ⟨a1, rfl, rfl, rfl, w1⟩ := open_int Tryd.underlying5 (hval 1 5 v1 rfl rfl) h1
  have b1 := bounds_u8 w1
  clear hA0
  refine (logicSets_walk a0 a1 (by omega) (by omega) (by omega) (by omega) W (logic_digitsAt hL)).mono fun e W' ⟨he, bel⟩ => ?_
  subst he
  exact ⟨_, rfl, _, _, _, [], _, [], hW', trodAll_mk1 (shut_bool Tryd.underlying4 _), (trodAll_cons_mk (shut_int Tryd.underlying5 w0) (trodAll_cons_mk (shut_int Tryd.underlying5 w1) trodAll_mk0)), rfl, bel.frame _, fun h => by cases h⟩
/-- A world for the witness: the settled one, the tables holding what their initialisers lay. -/
noncomputable def laidWorld (os : Os) : World :=
  { World.holding Tryd.prog os ⟨#[], #[], []⟩ with heap := ((World.holding Tryd.prog os ⟨#[], #[], []⟩).heap).modify 0 (fun
      | .cells _ t frozen => .cells #[.int .u8 16, .int .u8 15, .int .u8 9, .int .u8 6, .int .u8 1, .int .u8 255, .int .u8 153, .int .u8 96] t frozen
      | o => o) }
theorem laid_met (os : Os) : laidMet Tryd.prog Rows.logicSetsRow.laid ((laidWorld os).forCall (fun _ _ => 0) ⟨#[], #[.int .u8 0, .int .u8 0], []⟩).memory :=
  laidMet_of_run' 8 (by kernel_rfl) (by kernel_rfl)
theorem reads (os : Os) {H : Type} (enc : TypeId × Value → H) : ∃ places, DataW.whole enc Tryd.prog ((laidWorld os).forCall (fun _ _ => 0) ⟨#[], #[.int .u8 0, .int .u8 0], []⟩).memory Tryd.f5.params.toList Rows.logicSetsSpec.vars false (#[.int .u8 0, .int .u8 0] : Array Value).toList 8 = some ([.lit (.int .u8 0), .lit (.int .u8 0)], [], places) :=
  ⟨[], by kernel_rfl⟩
set_option maxRecDepth 100000 in
theorem lifted (os : Os) (started : os.Started) (H : Type) (enc : TypeId × Value → H) (F : Stop.Interp) :
    ReturnsInHanded {} Tryd.checked os 5 .any ((OpenSpec.ofChange Rows.logicSetsSpec).preRow enc Tryd.prog Tryd.f5 Rows.logicSetsRow.domain false Rows.logicSetsRow.laid) (((OpenSpec.ofChange Rows.logicSetsSpec).at F).post enc Tryd.prog Tryd.f5 false true false false) := by
  obtain ⟨places, hx⟩ := reads os enc
  refine returnsInHanded_of_row (C := Tryd.checked) (s := OpenSpec.ofChange Rows.logicSetsSpec) own started (by kernel_rfl) Tryd.func5
    (witness_row_at (enc := enc) (C := Tryd.checked) false (laidWorld os) #[.int .u8 0, .int .u8 0] rfl (by kernel_rfl) (by kernel_rfl) (by kernel_rfl)
      (OpenSpec.preRow_of_cond 8 hx (by kernel_rfl) (fun k hk => by cases hk) (by kernel_rfl) (laid_met os))) ?_
  intro W base args ds gs before hval hW _ _ _ hL _ _
  exact contract H enc W base args ds gs before hval hW hL
theorem said : Rows.LogicSetsSaid :=
  OpenClaim.holds_of_cond 5 Tryd.f5 rfl rfl rfl rfl rfl rfl rfl ⟨rfl, rfl, rfl, rfl, rfl⟩ rfl rfl rfl rfl rfl (by kernel_rfl) Tryd.func5 (by kernel_rfl)
    (of_decide_eq_true (by kernel_rfl)) (by unfold Func.isWrapper; first | (rw [if_pos (by decide +kernel)]; kernel_rfl) | (rw [if_neg (by decide +kernel)]; exact ⟨rfl, rfl⟩))
    (fun os started H enc _ F => by rw [OpenClaim.pre_eq_preRow]; exact lifted os started H enc F)
theorem plain (f : FuncId) (fn : Func) (hf : Tryd.pinned.checked.prog.funcNamed "charabanc/charabanclaw05.LogicSets" = some f) (hfn : Tryd.pinned.checked.prog.funcs[f]? = some fn) :
    false = Tryd.pinned.checked.prog.looks [] ∧ ∀ (j : Nat) t, fn.params[j]? = some t → Tryd.pinned.checked.prog.wantsStandIn t = false := by
  obtain rfl : f = 5 := Option.some.inj ((show Tryd.prog.funcNamed "charabanc/charabanclaw05.LogicSets" = some 5 by kernel_rfl).symm.trans hf) |>.symm
  obtain rfl : fn = Tryd.f5 := (Option.some.inj (Tryd.func5.symm.trans hfn)).symm
  refine ⟨by kernel_rfl, fun j t ht => ?_⟩
  rw [Tryd.params5] at ht
  have hmem := Array.mem_of_getElem? ht
  have key : ∀ t ∈ (#[5, 5] : Array TypeId), Tryd.prog.wantsStandIn t = false := by
    intro t ht
    simp only [List.mem_toArray, List.mem_cons, List.not_mem_nil, or_false] at ht
    rcases ht with rfl | rfl <;> kernel_rfl
  exact key t hmem
theorem proved : Rows.LogicSetsCardSaid :=
  Claim7.holds_tied_plain_at .later [] _ _ _ _ said (fun _ h => by cases h) (by kernel_rfl) (fun _ h => by cases h) logicSets_row_tie rfl ⟨rfl, rfl⟩ (by kernel_rfl) rfl plain (by kernel_rfl)
#print axioms proved
end Go.Proofs.YtggickkdjjjfdaaDoor.logicSetsLaw
