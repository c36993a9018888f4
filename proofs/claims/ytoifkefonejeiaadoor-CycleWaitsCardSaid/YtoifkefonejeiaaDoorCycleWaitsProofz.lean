/- The statement 'CycleWaits': for every input the law returns true, and each argument reads behind the call as it read before. The package's tables read as the program's text lays them (the card's tie). -/
import Derived.Test.YtoifkefonejeiaaDoorRows
import Derived.WalkKit
import Derived.ProofKit
import Derived.OpenShut
import Derived.Below
import Derived.ChangeMaps5
import Derived.Carry
import Derived.Test.YtoifkefonejeiaaDoorCards
import Derived.Test.YtoifkefonejeiaaDoorTie
import Derived.Deep.DeepHandedRow
import Derived.Test.YtoifkefonejeiaaDoorCycleWaitsProofy
import Derived.Test.YtoifkefonejeiaaDoorCyG6
namespace Go.Proofs.YtoifkefonejeiaaDoor.cycleWaitsLaw
open Go.ChangeShapes Go.WideShapes Go.ChangeAt Go.RowKit
set_option linter.unusedVariables false
theorem own : ownKnob Tryd.prog.godebug = none := by kernel_rfl
theorem laidOut : laidOutB Tryd.prog = true := by kernel_rfl
theorem bits_deBruijn32tab_g : Tryd.prog.globalNamed "math/bits.deBruijn32tab" = some 2 := by kernel_rfl
theorem bits_deBruijn32tab_t : (Tryd.prog.globals[2]?).map (·.type) = some 73 := by kernel_rfl
theorem bits_deBruijn32tab_f : flat Tryd.prog 9 73 (Rows.laid_math_bits_deBruijn32tab : DataW Unit) = some [.int .u8 0, .int .u8 1, .int .u8 28, .int .u8 2, .int .u8 29, .int .u8 14, .int .u8 24, .int .u8 3, .int .u8 30, .int .u8 22, .int .u8 20, .int .u8 15, .int .u8 25, .int .u8 17, .int .u8 4, .int .u8 8, .int .u8 31, .int .u8 27, .int .u8 13, .int .u8 23, .int .u8 21, .int .u8 19, .int .u8 16, .int .u8 7, .int .u8 26, .int .u8 12, .int .u8 18, .int .u8 6, .int .u8 11, .int .u8 5, .int .u8 10, .int .u8 9] := by kernel_rfl
theorem bits_deBruijn32tab_var {W : World} (h : laidMetH Tryd.prog Rows.cycleWaitsRow.laid W) : W.var? Tryd.prog "math/bits.deBruijn32tab" = some [(.int .u8 0 : Value), (.int .u8 1 : Value), (.int .u8 28 : Value), (.int .u8 2 : Value), (.int .u8 29 : Value), (.int .u8 14 : Value), (.int .u8 24 : Value), (.int .u8 3 : Value), (.int .u8 30 : Value), (.int .u8 22 : Value), (.int .u8 20 : Value), (.int .u8 15 : Value), (.int .u8 25 : Value), (.int .u8 17 : Value), (.int .u8 4 : Value), (.int .u8 8 : Value), (.int .u8 31 : Value), (.int .u8 27 : Value), (.int .u8 13 : Value), (.int .u8 23 : Value), (.int .u8 21 : Value), (.int .u8 19 : Value), (.int .u8 16 : Value), (.int .u8 7 : Value), (.int .u8 26 : Value), (.int .u8 12 : Value), (.int .u8 18 : Value), (.int .u8 6 : Value), (.int .u8 11 : Value), (.int .u8 5 : Value), (.int .u8 10 : Value), (.int .u8 9 : Value)].toArray :=
  laid_var 0 rfl bits_deBruijn32tab_g bits_deBruijn32tab_t bits_deBruijn32tab_f h
theorem bits_deBruijn64tab_g : Tryd.prog.globalNamed "math/bits.deBruijn64tab" = some 3 := by kernel_rfl
theorem bits_deBruijn64tab_t : (Tryd.prog.globals[3]?).map (·.type) = some 74 := by kernel_rfl
theorem bits_deBruijn64tab_f : flat Tryd.prog 9 74 (Rows.laid_math_bits_deBruijn64tab : DataW Unit) = some [.int .u8 0, .int .u8 1, .int .u8 56, .int .u8 2, .int .u8 57, .int .u8 49, .int .u8 28, .int .u8 3, .int .u8 61, .int .u8 58, .int .u8 42, .int .u8 50, .int .u8 38, .int .u8 29, .int .u8 17, .int .u8 4, .int .u8 62, .int .u8 47, .int .u8 59, .int .u8 36, .int .u8 45, .int .u8 43, .int .u8 51, .int .u8 22, .int .u8 53, .int .u8 39, .int .u8 33, .int .u8 30, .int .u8 24, .int .u8 18, .int .u8 12, .int .u8 5, .int .u8 63, .int .u8 55, .int .u8 48, .int .u8 27, .int .u8 60, .int .u8 41, .int .u8 37, .int .u8 16, .int .u8 46, .int .u8 35, .int .u8 44, .int .u8 21, .int .u8 52, .int .u8 32, .int .u8 23, .int .u8 11, .int .u8 54, .int .u8 26, .int .u8 40, .int .u8 15, .int .u8 34, .int .u8 20, .int .u8 31, .int .u8 10, .int .u8 25, .int .u8 14, .int .u8 19, .int .u8 9, .int .u8 13, .int .u8 8, .int .u8 7, .int .u8 6] := by kernel_rfl
theorem bits_deBruijn64tab_var {W : World} (h : laidMetH Tryd.prog Rows.cycleWaitsRow.laid W) : W.var? Tryd.prog "math/bits.deBruijn64tab" = some [(.int .u8 0 : Value), (.int .u8 1 : Value), (.int .u8 56 : Value), (.int .u8 2 : Value), (.int .u8 57 : Value), (.int .u8 49 : Value), (.int .u8 28 : Value), (.int .u8 3 : Value), (.int .u8 61 : Value), (.int .u8 58 : Value), (.int .u8 42 : Value), (.int .u8 50 : Value), (.int .u8 38 : Value), (.int .u8 29 : Value), (.int .u8 17 : Value), (.int .u8 4 : Value), (.int .u8 62 : Value), (.int .u8 47 : Value), (.int .u8 59 : Value), (.int .u8 36 : Value), (.int .u8 45 : Value), (.int .u8 43 : Value), (.int .u8 51 : Value), (.int .u8 22 : Value), (.int .u8 53 : Value), (.int .u8 39 : Value), (.int .u8 33 : Value), (.int .u8 30 : Value), (.int .u8 24 : Value), (.int .u8 18 : Value), (.int .u8 12 : Value), (.int .u8 5 : Value), (.int .u8 63 : Value), (.int .u8 55 : Value), (.int .u8 48 : Value), (.int .u8 27 : Value), (.int .u8 60 : Value), (.int .u8 41 : Value), (.int .u8 37 : Value), (.int .u8 16 : Value), (.int .u8 46 : Value), (.int .u8 35 : Value), (.int .u8 44 : Value), (.int .u8 21 : Value), (.int .u8 52 : Value), (.int .u8 32 : Value), (.int .u8 23 : Value), (.int .u8 11 : Value), (.int .u8 54 : Value), (.int .u8 26 : Value), (.int .u8 40 : Value), (.int .u8 15 : Value), (.int .u8 34 : Value), (.int .u8 20 : Value), (.int .u8 31 : Value), (.int .u8 10 : Value), (.int .u8 25 : Value), (.int .u8 14 : Value), (.int .u8 19 : Value), (.int .u8 9 : Value), (.int .u8 13 : Value), (.int .u8 8 : Value), (.int .u8 7 : Value), (.int .u8 6 : Value)].toArray :=
  laid_var 1 rfl bits_deBruijn64tab_g bits_deBruijn64tab_t bits_deBruijn64tab_f h
theorem strconv_uint64pow10_g : Tryd.prog.globalNamed "internal/strconv.uint64pow10" = some 1 := by kernel_rfl
theorem strconv_uint64pow10_t : (Tryd.prog.globals[1]?).map (·.type) = some 67 := by kernel_rfl
theorem strconv_uint64pow10_f : flat Tryd.prog 9 67 (Rows.laid_internal_strconv_uint64pow10 : DataW Unit) = some [.int .u64 1, .int .u64 10, .int .u64 100, .int .u64 1000, .int .u64 10000, .int .u64 100000, .int .u64 1000000, .int .u64 10000000, .int .u64 100000000, .int .u64 1000000000, .int .u64 10000000000, .int .u64 100000000000, .int .u64 1000000000000, .int .u64 10000000000000, .int .u64 100000000000000, .int .u64 1000000000000000, .int .u64 10000000000000000, .int .u64 100000000000000000, .int .u64 1000000000000000000, .int .u64 10000000000000000000] := by kernel_rfl
theorem strconv_uint64pow10_var {W : World} (h : laidMetH Tryd.prog Rows.cycleWaitsRow.laid W) : W.var? Tryd.prog "internal/strconv.uint64pow10" = some [(.int .u64 1 : Value), (.int .u64 10 : Value), (.int .u64 100 : Value), (.int .u64 1000 : Value), (.int .u64 10000 : Value), (.int .u64 100000 : Value), (.int .u64 1000000 : Value), (.int .u64 10000000 : Value), (.int .u64 100000000 : Value), (.int .u64 1000000000 : Value), (.int .u64 10000000000 : Value), (.int .u64 100000000000 : Value), (.int .u64 1000000000000 : Value), (.int .u64 10000000000000 : Value), (.int .u64 100000000000000 : Value), (.int .u64 1000000000000000 : Value), (.int .u64 10000000000000000 : Value), (.int .u64 100000000000000000 : Value), (.int .u64 1000000000000000000 : Value), (.int .u64 10000000000000000000 : Value)].toArray :=
  laid_var 2 rfl strconv_uint64pow10_g strconv_uint64pow10_t strconv_uint64pow10_f h
theorem cycle_samples_g : Tryd.prog.globalNamed "charabanc/cycle.samples" = some 0 := by kernel_rfl
theorem cycle_samples_t : (Tryd.prog.globals[0]?).map (·.type) = some 46 := by kernel_rfl
theorem cycle_samples_f : flat Tryd.prog 9 46 (Rows.laid_charabanc_cycle_samples : DataW Unit) = some [.int .i64 2, .int .i64 2, .int .i64 2, .int .i64 3, .int .i64 3, .int .i64 4, .int .i64 0] := by kernel_rfl
theorem cycle_samples_var {W : World} (h : laidMetH Tryd.prog Rows.cycleWaitsRow.laid W) : W.var? Tryd.prog "charabanc/cycle.samples" = some [(.int .i64 2 : Value), (.int .i64 2 : Value), (.int .i64 2 : Value), (.int .i64 3 : Value), (.int .i64 3 : Value), (.int .i64 4 : Value), (.int .i64 0 : Value)].toArray :=
  laid_var 3 rfl cycle_samples_g cycle_samples_t cycle_samples_f h
theorem cycle_samplesAt {W : World} (h : laidMetH Tryd.prog Rows.cycleWaitsRow.laid W) : Samps W :=
  ⟨laid_cell (cycle_samples_var h) cycle_samples_g 0 _ rfl, laid_cell (cycle_samples_var h) cycle_samples_g 1 _ rfl, laid_cell (cycle_samples_var h) cycle_samples_g 2 _ rfl, laid_cell (cycle_samples_var h) cycle_samples_g 3 _ rfl, laid_cell (cycle_samples_var h) cycle_samples_g 4 _ rfl, laid_cell (cycle_samples_var h) cycle_samples_g 5 _ rfl, laid_cell (cycle_samples_var h) cycle_samples_g 6 _ rfl⟩
set_option maxRecDepth 100000 in
theorem contract (H : Type) (enc : TypeId × Value → H) (W : World) (base : Nat) (args : Array Value) (ds gs : List (DataW H)) (before : List MemPlace)
    (hval : ∀ (j : Nat) t v, Tryd.f5.params[j]? = some t → args[j]? = some v → Value.okWide Tryd.prog W .any base t v)
    (hW : DataW.Whole enc Tryd.prog Tryd.f5.params.toList Rows.cycleWaitsSpec.vars false W args.toList ds gs before) (hL : laidMetH Tryd.prog Rows.cycleWaitsRow.laid W) :
    Calls Tryd.prog 5 args W fun e W' => ∃ v, e = .returned v ∧ Rows.cycleWaitsSpec.post enc Tryd.prog Tryd.f5 false true false false W args v W' := by
  have hW' := hW
  obtain ⟨p, q, hA0, hV, rfl, hfz, hnd⟩ := hW
  have hA : DataW.TrodAll enc Tryd.prog W 0 (fun _ => true) true Tryd.f5.params.toList args.toList ds p := hA0
  rw [Tryd.params5] at hA hval
  obtain ⟨v0, vs0, d0, ds0, p0, q0, hargs, rfl, rfl, h0, r0⟩ := trodAll_cons hA
  obtain ⟨v1, vs1, d1, ds1, p1, q1, rfl, rfl, rfl, h1, r1⟩ := trodAll_cons r0
  obtain ⟨rfl, rfl, rfl⟩ := trodAll_nil r1
  obtain rfl : args = #[v0, v1] := by cases args; simp_all
  obtain ⟨rfl, rfl⟩ := trodVars_none hV
  have k0 := h0
  have lt0 : ∀ x ∈ p0, x.block < W.heap.size := by obtain ⟨m, hm⟩ := k0; exact DataW.trod_lt m _ _ _ hm
  obtain ⟨y0, rfl, hyA0, hyD0, hyT0⟩ := open_cycle Tryd.underlying24 (by kernel_rfl) (by kernel_rfl) Tryd.underlying3 Tryd.underlying22 Tryd.underlying5 Tryd.underlying3 (hval 0 24 v0 rfl rfl) h0
  have k1 := h1
  have lt1 : ∀ x ∈ p1, x.block < W.heap.size := by obtain ⟨m, hm⟩ := k1; exact DataW.trod_lt m _ _ _ hm
  obtain ⟨A1, c1, x1, rfl, hl1, hm1, hb1, hn1⟩ := open_boolS Tryd.underlying38 Tryd.underlying4 (by kernel_rfl) (hval 1 38 v1 rfl rfl) h1
  clear hA0
  refine (cycleWaits_walk y0 A1 c1 x1 hyA0 hyD0 hyT0 W hl1 hm1 hb1 hn1 (cycle_samplesAt hL)).mono fun e W' ⟨he, bel⟩ => ?_
  subst he
  exact ⟨_, rfl, _, _, _, [], _, [], hW', trodAll_mk1 (shut_bool Tryd.underlying4 _), (trodAll_cons_mk (Below.trod laidOut (by kernel_rfl) (of_decide_eq_true (by kernel_rfl)) k0 bel lt0) (trodAll_cons_mk (Below.trod laidOut (by kernel_rfl) (of_decide_eq_true (by kernel_rfl)) k1 bel lt1) trodAll_mk0)), rfl, bel.frame _, fun h => by cases h⟩
def layIn (cs : Array Value) : Obj → Obj
  | .cells _ t frozen => .cells cs t frozen
  | o => o
/-- A world for the witness: the settled one, the tables holding what their initialisers lay. -/
noncomputable def laidWorld (os : Os) : World :=
  { World.holding Tryd.prog os ⟨#[], #[], []⟩ with heap := ([(2, #[.int .u8 0, .int .u8 1, .int .u8 28, .int .u8 2, .int .u8 29, .int .u8 14, .int .u8 24, .int .u8 3, .int .u8 30, .int .u8 22, .int .u8 20, .int .u8 15, .int .u8 25, .int .u8 17, .int .u8 4, .int .u8 8, .int .u8 31, .int .u8 27, .int .u8 13, .int .u8 23, .int .u8 21, .int .u8 19, .int .u8 16, .int .u8 7, .int .u8 26, .int .u8 12, .int .u8 18, .int .u8 6, .int .u8 11, .int .u8 5, .int .u8 10, .int .u8 9]),
    (3, #[.int .u8 0, .int .u8 1, .int .u8 56, .int .u8 2, .int .u8 57, .int .u8 49, .int .u8 28, .int .u8 3, .int .u8 61, .int .u8 58, .int .u8 42, .int .u8 50, .int .u8 38, .int .u8 29, .int .u8 17, .int .u8 4, .int .u8 62, .int .u8 47, .int .u8 59, .int .u8 36, .int .u8 45, .int .u8 43, .int .u8 51, .int .u8 22, .int .u8 53, .int .u8 39, .int .u8 33, .int .u8 30, .int .u8 24, .int .u8 18, .int .u8 12, .int .u8 5, .int .u8 63, .int .u8 55, .int .u8 48, .int .u8 27, .int .u8 60, .int .u8 41, .int .u8 37, .int .u8 16, .int .u8 46, .int .u8 35, .int .u8 44, .int .u8 21, .int .u8 52, .int .u8 32, .int .u8 23, .int .u8 11, .int .u8 54, .int .u8 26, .int .u8 40, .int .u8 15, .int .u8 34, .int .u8 20, .int .u8 31, .int .u8 10, .int .u8 25, .int .u8 14, .int .u8 19, .int .u8 9, .int .u8 13, .int .u8 8, .int .u8 7, .int .u8 6]),
    (1, #[.int .u64 1, .int .u64 10, .int .u64 100, .int .u64 1000, .int .u64 10000, .int .u64 100000, .int .u64 1000000, .int .u64 10000000, .int .u64 100000000, .int .u64 1000000000, .int .u64 10000000000, .int .u64 100000000000, .int .u64 1000000000000, .int .u64 10000000000000, .int .u64 100000000000000, .int .u64 1000000000000000, .int .u64 10000000000000000, .int .u64 100000000000000000, .int .u64 1000000000000000000, .int .u64 10000000000000000000]),
    (0, #[.int .i64 2, .int .i64 2, .int .i64 2, .int .i64 3, .int .i64 3, .int .i64 4, .int .i64 0])] : List (Nat × Array Value)).foldl (fun h p => h.modify p.1 (layIn p.2)) (World.holding Tryd.prog os ⟨#[], #[], []⟩).heap }
theorem laid_met (os : Os) : laidMet Tryd.prog Rows.cycleWaitsRow.laid ((laidWorld os).forCall (fun _ _ => 0) ⟨#[], #[.agg #[.int .i64 0, .int .u16 0, .int .u8 0, .int .i64 0], .slice none 0 0], []⟩).memory :=
  laidMet_of_run' 8 (by kernel_rfl) (by kernel_rfl)
theorem reads (os : Os) {H : Type} (enc : TypeId × Value → H) : ∃ places, DataW.whole enc Tryd.prog ((laidWorld os).forCall (fun _ _ => 0) ⟨#[], #[.agg #[.int .i64 0, .int .u16 0, .int .u8 0, .int .i64 0], .slice none 0 0], []⟩).memory Tryd.f5.params.toList Rows.cycleWaitsSpec.vars false (#[.agg #[.int .i64 0, .int .u16 0, .int .u8 0, .int .i64 0], .slice none 0 0] : Array Value).toList 8 = some ([.agg [.lit (.int .i64 0), .lit (.int .u16 0), .lit (.int .u8 0), .lit (.int .i64 0)], .nil], [], places) :=
  ⟨[], by kernel_rfl⟩
set_option maxRecDepth 100000 in
theorem lifted (os : Os) (started : os.Started) (H : Type) (enc : TypeId × Value → H) (F : Stop.Interp) :
    ReturnsInHanded {} Tryd.checked os 5 .any ((OpenSpec.ofChange Rows.cycleWaitsSpec).preRow enc Tryd.prog Tryd.f5 Rows.cycleWaitsRow.domain false Rows.cycleWaitsRow.laid) (((OpenSpec.ofChange Rows.cycleWaitsSpec).at F).post enc Tryd.prog Tryd.f5 false true false false) := by
  obtain ⟨places, hx⟩ := reads os enc
  refine returnsInHanded_of_row (C := Tryd.checked) (s := OpenSpec.ofChange Rows.cycleWaitsSpec) own started (by kernel_rfl) Tryd.func5
    (witness_row_at (enc := enc) (C := Tryd.checked) false (laidWorld os) #[.agg #[.int .i64 0, .int .u16 0, .int .u8 0, .int .i64 0], .slice none 0 0] rfl (by kernel_rfl) (by kernel_rfl) (by kernel_rfl)
      (OpenSpec.preRow_of_cond 8 hx (by kernel_rfl) (fun k hk => by cases hk) (by kernel_rfl) (laid_met os))) ?_
  intro W base args ds gs before hval hW _ _ _ hL _ _
  exact contract H enc W base args ds gs before hval hW hL
theorem fact_inPlace : (Rows.cycleWaitsRow.inPlace == Tryd.pinned.checked.prog.inPlace 5) = true := by kernel_rfl
theorem fact_unfollowed : (Rows.cycleWaitsRow.unfollowed == Tryd.pinned.checked.prog.unfollowed 5) = true := by kernel_rfl
theorem fact_recurses : (Rows.cycleWaitsRow.recurses == Tryd.pinned.checked.prog.recurses 5) = true := by kernel_rfl
theorem fact_named : (Rows.cycleWaitsRow.named == Tryd.pinned.checked.prog.varsNamed 5) = true := by kernel_rfl
theorem closed : joinedFacts Tryd.pinned.checked.prog 5 Tryd.f5 (OpenSpec.ofChange Rows.cycleWaitsSpec).bare Rows.cycleWaitsRow = true := by
  unfold joinedFacts
  rw [fact_inPlace, fact_unfollowed, fact_recurses, fact_named]
  kernel_rfl
theorem said : Rows.CycleWaitsSaid :=
  OpenClaim.holds_of_cond 5 Tryd.f5 rfl rfl rfl rfl rfl rfl rfl ⟨rfl, rfl, rfl, rfl, rfl⟩ rfl rfl rfl rfl rfl (by kernel_rfl) Tryd.func5 closed
    (of_decide_eq_true (by kernel_rfl)) (by unfold Func.isWrapper; first | (rw [if_pos (by decide +kernel)]; kernel_rfl) | (rw [if_neg (by decide +kernel)]; exact ⟨rfl, rfl⟩))
    (fun os started H enc _ F => by rw [OpenClaim.pre_eq_preRow]; exact lifted os started H enc F)
end Go.Proofs.YtoifkefonejeiaaDoor.cycleWaitsLaw
