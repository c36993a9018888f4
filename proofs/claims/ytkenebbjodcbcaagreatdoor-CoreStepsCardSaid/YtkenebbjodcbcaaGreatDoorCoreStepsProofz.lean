/- The statement 'CoreSteps': for every input the law returns true, and each argument reads behind the call as it read before. The package's tables read as the program's text lays them (the card's tie). -/
import Derived.Test.YtkenebbjodcbcaaGreatDoorRows
import Derived.ChangeMaps5
import Derived.Carry
import Derived.Test.YtkenebbjodcbcaaGreatDoorCards
import Derived.Test.YtkenebbjodcbcaaGreatDoorTie
import Derived.Test.YtkenebbjodcbcaaGreatDoorCoreStepsProofy
namespace Go.Proofs.YtkenebbjodcbcaaGreatDoor.coreStepsLaw
open Go.ChangeShapes Go.WideShapes Go.ChangeAt Go.RowKit
set_option linter.unusedVariables false
theorem own:ownKnob Tryz.prog.godebug=none:=by kernel_rfl
theorem laidOut:laidOutB Tryz.prog=true:=by kernel_rfl
theorem cycle_samples_g:Tryz.prog.globalNamed "charabanc/cycle.samples"=some 0:=by kernel_rfl
theorem cycle_samples_t:(Tryz.prog.globals[0]?).map (·.type)=some 124:=by kernel_rfl
theorem cycle_samples_f:flat Tryz.prog 9 124 (Rows.laid_charabanc_cycle_samples:DataW Unit)=some [.int .i64 2,.int .i64 2,.int .i64 2,.int .i64 3,.int .i64 3,.int .i64 4,.int .i64 0]:=by kernel_rfl
theorem cycle_samples_var {W:World}(h:laidMetH Tryz.prog Rows.coreStepsRow.laid W):W.var? Tryz.prog "charabanc/cycle.samples"=some [(.int .i64 2:Value),(.int .i64 2:Value),(.int .i64 2:Value),(.int .i64 3:Value),(.int .i64 3:Value),(.int .i64 4:Value),(.int .i64 0:Value)].toArray :=
 XF 0 rfl cycle_samples_g cycle_samples_t cycle_samples_f h
theorem cycle_samplesAt {W:World}(h:laidMetH Tryz.prog Rows.coreStepsRow.laid W):Samps W :=
 ⟨JI (cycle_samples_var h) cycle_samples_g 0 _ rfl,JI (cycle_samples_var h) cycle_samples_g 1 _ rfl,JI (cycle_samples_var h) cycle_samples_g 2 _ rfl,JI (cycle_samples_var h) cycle_samples_g 3 _ rfl,JI (cycle_samples_var h) cycle_samples_g 4 _ rfl,JI (cycle_samples_var h) cycle_samples_g 5 _ rfl,JI (cycle_samples_var h) cycle_samples_g 6 _ rfl⟩
theorem flags_masks_g:Tryz.prog.globalNamed "charabanc/flags.masks"=some 3:=by kernel_rfl
theorem flags_masks_t:(Tryz.prog.globals[3]?).map (·.type)=some 225:=by kernel_rfl
theorem flags_masks_f:flat Tryz.prog 9 225 (Rows.laid_charabanc_flags_masks:DataW Unit)=some [.int .u8 64,.int .u8 1,.int .u8 4,.int .u8 128]:=by kernel_rfl
theorem flags_masks_var {W:World}(h:laidMetH Tryz.prog Rows.coreStepsRow.laid W):W.var? Tryz.prog "charabanc/flags.masks"=some [(.int .u8 64:Value),(.int .u8 1:Value),(.int .u8 4:Value),(.int .u8 128:Value)].toArray :=
 XF 1 rfl flags_masks_g flags_masks_t flags_masks_f h
theorem flags_masksAt {W:World}(h:laidMetH Tryz.prog Rows.coreStepsRow.laid W):Masks W :=
 ⟨JI (flags_masks_var h) flags_masks_g 0 _ rfl,JI (flags_masks_var h) flags_masks_g 1 _ rfl,JI (flags_masks_var h) flags_masks_g 2 _ rfl,JI (flags_masks_var h) flags_masks_g 3 _ rfl⟩
theorem logic_digits_g:Tryz.prog.globalNamed "charabanc/logic.digits"=some 4:=by kernel_rfl
theorem logic_digits_t:(Tryz.prog.globals[4]?).map (·.type)=some 235:=by kernel_rfl
theorem logic_digits_f:flat Tryz.prog 9 235 (Rows.laid_charabanc_logic_digits:DataW Unit)=some [.int .u8 16,.int .u8 15,.int .u8 9,.int .u8 6,.int .u8 1,.int .u8 255,.int .u8 153,.int .u8 96]:=by kernel_rfl
theorem logic_digits_var {W:World}(h:laidMetH Tryz.prog Rows.coreStepsRow.laid W):W.var? Tryz.prog "charabanc/logic.digits"=some [(.int .u8 16:Value),(.int .u8 15:Value),(.int .u8 9:Value),(.int .u8 6:Value),(.int .u8 1:Value),(.int .u8 255:Value),(.int .u8 153:Value),(.int .u8 96:Value)].toArray :=
 XF 2 rfl logic_digits_g logic_digits_t logic_digits_f h
theorem logic_digitsAt {W:World}(h:laidMetH Tryz.prog Rows.coreStepsRow.laid W):Digits W :=
 ⟨JI (logic_digits_var h) logic_digits_g 0 _ rfl,JI (logic_digits_var h) logic_digits_g 1 _ rfl,JI (logic_digits_var h) logic_digits_g 2 _ rfl,JI (logic_digits_var h) logic_digits_g 3 _ rfl,JI (logic_digits_var h) logic_digits_g 4 _ rfl,JI (logic_digits_var h) logic_digits_g 5 _ rfl,JI (logic_digits_var h) logic_digits_g 6 _ rfl,JI (logic_digits_var h) logic_digits_g 7 _ rfl⟩
theorem shift_courses_g:Tryz.prog.globalNamed "charabanc/shift.courses"=some 2:=by kernel_rfl
theorem shift_courses_t:(Tryz.prog.globals[2]?).map (·.type)=some 196:=by kernel_rfl
theorem shift_courses_f:flat Tryz.prog 9 196 (Rows.laid_charabanc_shift_courses:DataW Unit)=some [.int .i64 1,.int .i64 7,.int .i64 0,.int .i64 (-1),.int .i64 0,.int .i64 7]:=by kernel_rfl
theorem shift_courses_var {W:World}(h:laidMetH Tryz.prog Rows.coreStepsRow.laid W):W.var? Tryz.prog "charabanc/shift.courses"=some [(.int .i64 1:Value),(.int .i64 7:Value),(.int .i64 0:Value),(.int .i64 (-1):Value),(.int .i64 0:Value),(.int .i64 7:Value)].toArray :=
 XF 3 rfl shift_courses_g shift_courses_t shift_courses_f h
theorem shift_coursesAt {W:World}(h:laidMetH Tryz.prog Rows.coreStepsRow.laid W):Courses W :=
 ⟨JI (shift_courses_var h) shift_courses_g 0 _ rfl,JI (shift_courses_var h) shift_courses_g 1 _ rfl,JI (shift_courses_var h) shift_courses_g 2 _ rfl,JI (shift_courses_var h) shift_courses_g 3 _ rfl,JI (shift_courses_var h) shift_courses_g 4 _ rfl,JI (shift_courses_var h) shift_courses_g 5 _ rfl⟩
theorem next_modes_g:Tryz.prog.globalNamed "charabanc/next.modes"=some 1:=by kernel_rfl
theorem next_modes_t:(Tryz.prog.globals[1]?).map (·.type)=some 182:=by kernel_rfl
theorem next_modes_f:flat Tryz.prog 9 182 (Rows.laid_charabanc_next_modes:DataW Unit)=some [.int .i64 0,.int .i64 0,.int .i64 1,.int .i64 2]:=by kernel_rfl
theorem next_modes_var {W:World}(h:laidMetH Tryz.prog Rows.coreStepsRow.laid W):W.var? Tryz.prog "charabanc/next.modes"=some [(.int .i64 0:Value),(.int .i64 0:Value),(.int .i64 1:Value),(.int .i64 2:Value)].toArray :=
 XF 4 rfl next_modes_g next_modes_t next_modes_f h
theorem next_modesAt {W:World}(h:laidMetH Tryz.prog Rows.coreStepsRow.laid W):QBl W :=
 ⟨JI (next_modes_var h) next_modes_g 0 _ rfl,JI (next_modes_var h) next_modes_g 1 _ rfl,JI (next_modes_var h) next_modes_g 2 _ rfl,JI (next_modes_var h) next_modes_g 3 _ rfl⟩
set_option maxRecDepth 100000 in
theorem contract (H:Type)(enc:TypeId×Value→H)(W:World)(base:Nat)(args:Array Value)(ds gs:List (DataW H))(before:List MemPlace)
 (hval:∀ (j:Nat) t v,Tryz.f5.params[j]? = some t→args[j]? = some v→Value.okWide Tryz.prog W .any base t v)
 (hW:DataW.Whole enc Tryz.prog Tryz.f5.params.toList Rows.coreStepsSpec.vars false W args.toList ds gs before)(hL:laidMetH Tryz.prog Rows.coreStepsRow.laid W) :
 Calls Tryz.prog 5 args W fun e W'=>∃ v,e=.returned v∧Rows.coreStepsSpec.post enc Tryz.prog Tryz.f5 false true false false W args v W':=by
 have hW':=hW
 obtain⟨p,q,hA0,hV,rfl,hfz,hnd⟩:=hW
 have hA:DataW.TrodAll enc Tryz.prog W 0 (fun _=>true) true Tryz.f5.params.toList args.toList ds p:=hA0
 rw[Tryz.params5] at hA hval
 obtain⟨v0,vs0,d0,ds0,p0,q0,hargs,rfl,rfl,h0,r0⟩:=trodAll_cons hA
 obtain⟨v1,vs1,d1,ds1,p1,q1,rfl,rfl,rfl,h1,r1⟩:=trodAll_cons r0
 obtain⟨v2,vs2,d2,ds2,p2,q2,rfl,rfl,rfl,h2,r2⟩:=trodAll_cons r1
 obtain⟨rfl,rfl,rfl⟩:=trodAll_nil r2
 obtain rfl:args=#[v0,v1,v2]:=by cases args;simp_all
 obtain⟨rfl,rfl⟩:=trodVars_none hV
 have k0:=h0
 have lt0:∀ x∈p0,x.block < W.heap.size:=by obtain⟨m,hm⟩:=k0;exact DataW.trod_lt m _ _ _ hm
 obtain⟨g0,rfl,hg0⟩:=QGE Tryz.underlying24 (by kernel_rfl) (by kernel_rfl) Tryz.underlying22 Tryz.underlying22 Tryz.underlying22 Tryz.underlying22 Tryz.underlying22 Tryz.underlying22 Tryz.underlying22 Tryz.underlying22 Tryz.underlying22 Tryz.underlying22 Tryz.underlying22 Tryz.underlying22 Tryz.underlying22 Tryz.underlying5 Tryz.underlying5 Tryz.underlying4 Tryz.underlying4 Tryz.underlying4 Tryz.underlying4 Tryz.underlying3 (hval 0 24 v0 rfl rfl) h0
 have k1:=h1
 have lt1:∀ x∈p1,x.block < W.heap.size:=by obtain⟨m,hm⟩:=k1;exact DataW.trod_lt m _ _ _ hm
 obtain⟨A1,c1,x1,rfl,hl1,hm1,hx1,hb1,hn1⟩:=QFE Tryz.underlying26 Tryz.underlying5 (by kernel_rfl) (hval 1 26 v1 rfl rfl) h1
 have k2:=h2
 have lt2:∀ x∈p2,x.block < W.heap.size:=by obtain⟨m,hm⟩:=k2;exact DataW.trod_lt m _ _ _ hm
 obtain⟨A2,c2,x2,rfl,hl2,hm2,hb2,hn2⟩:=QJ0 Tryz.underlying55 Tryz.underlying4 (by kernel_rfl) (hval 2 55 v2 rfl rfl) h2
 clear hA0
 refine (QEj g0 A1 c1 x1 A2 c2 x2 hg0 W hl1 hm1 hx1 hb1 hn1 hl2 hm2 hb2 hn2 (cycle_samplesAt hL) (flags_masksAt hL) (logic_digitsAt hL) (shift_coursesAt hL) (next_modesAt hL)).mono fun e W' ⟨he,bel⟩=>?_
 subst he
 exact⟨_,rfl,_,_,_,[],_,[],hW',trodAll_mk1 (shut_bool Tryz.underlying4 _),(trodAll_cons_mk (Below.trod laidOut (by kernel_rfl) (of_decide_eq_true (by kernel_rfl)) k0 bel lt0) (trodAll_cons_mk (Below.trod laidOut (by kernel_rfl) (of_decide_eq_true (by kernel_rfl)) k1 bel lt1) (trodAll_cons_mk (Below.trod laidOut (by kernel_rfl) (of_decide_eq_true (by kernel_rfl)) k2 bel lt2) trodAll_mk0))),rfl,bel.frame _,fun h=>by cases h⟩
def layIn (cs:Array Value):Obj→Obj
 | .cells _ t frozen=>.cells cs t frozen
 | o=>o
/-- A world for the witness: the settled one, the tables holding what their initialisers lay. -/
noncomputable def laidWorld (os:Os):World :=
 { World.holding Tryz.prog os ⟨#[],#[],[]⟩ with heap:=([(0,#[.int .i64 2,.int .i64 2,.int .i64 2,.int .i64 3,.int .i64 3,.int .i64 4,.int .i64 0]),
  (3,#[.int .u8 64,.int .u8 1,.int .u8 4,.int .u8 128]),
  (4,#[.int .u8 16,.int .u8 15,.int .u8 9,.int .u8 6,.int .u8 1,.int .u8 255,.int .u8 153,.int .u8 96]),
  (2,#[.int .i64 1,.int .i64 7,.int .i64 0,.int .i64 (-1),.int .i64 0,.int .i64 7]),
  (1,#[.int .i64 0,.int .i64 0,.int .i64 1,.int .i64 2])]:List (Nat×Array Value)).foldl (fun h p=>h.modify p.1 (layIn p.2)) (World.holding Tryz.prog os ⟨#[],#[],[]⟩).heap }
theorem laid_met (os:Os):laidMet Tryz.prog Rows.coreStepsRow.laid ((laidWorld os).forCall (fun _ _=>0) ⟨#[],#[.agg #[.int .u16 0,.int .u16 0,.int .u16 0,.int .u16 0,.int .u16 0,.int .u16 0,.int .u16 0,.int .u16 0,.int .u16 0,.int .u16 0,.int .u16 0,.int .u16 0,.int .u16 0,.int .u8 0,.int .u8 0,.bool false,.bool false,.bool false,.bool false,.int .i64 0],.slice none 0 0,.slice none 0 0],[]⟩).memory :=
 laidMet_of_run' 8 (by kernel_rfl) (by kernel_rfl)
theorem reads (os:Os){H:Type}(enc:TypeId×Value→H):∃ places,DataW.whole enc Tryz.prog ((laidWorld os).forCall (fun _ _=>0) ⟨#[],#[.agg #[.int .u16 0,.int .u16 0,.int .u16 0,.int .u16 0,.int .u16 0,.int .u16 0,.int .u16 0,.int .u16 0,.int .u16 0,.int .u16 0,.int .u16 0,.int .u16 0,.int .u16 0,.int .u8 0,.int .u8 0,.bool false,.bool false,.bool false,.bool false,.int .i64 0],.slice none 0 0,.slice none 0 0],[]⟩).memory Tryz.f5.params.toList Rows.coreStepsSpec.vars false (#[.agg #[.int .u16 0,.int .u16 0,.int .u16 0,.int .u16 0,.int .u16 0,.int .u16 0,.int .u16 0,.int .u16 0,.int .u16 0,.int .u16 0,.int .u16 0,.int .u16 0,.int .u16 0,.int .u8 0,.int .u8 0,.bool false,.bool false,.bool false,.bool false,.int .i64 0],.slice none 0 0,.slice none 0 0]:Array Value).toList 8=some ([.agg [.lit (.int .u16 0),.lit (.int .u16 0),.lit (.int .u16 0),.lit (.int .u16 0),.lit (.int .u16 0),.lit (.int .u16 0),.lit (.int .u16 0),.lit (.int .u16 0),.lit (.int .u16 0),.lit (.int .u16 0),.lit (.int .u16 0),.lit (.int .u16 0),.lit (.int .u16 0),.lit (.int .u8 0),.lit (.int .u8 0),.lit (.bool false),.lit (.bool false),.lit (.bool false),.lit (.bool false),.lit (.int .i64 0)],.nil,.nil],[],places) :=
 ⟨[],by kernel_rfl⟩
set_option maxRecDepth 100000 in
theorem lifted (os:Os)(started:os.Started)(H:Type)(enc:TypeId×Value→H)(F:Stop.Interp) :
 ReturnsInHanded {} Tryz.checked os 5 .any ((OpenSpec.ofChange Rows.coreStepsSpec).preRow enc Tryz.prog Tryz.f5 Rows.coreStepsRow.domain false Rows.coreStepsRow.laid) (((OpenSpec.ofChange Rows.coreStepsSpec).at F).post enc Tryz.prog Tryz.f5 false true false false):=by
 obtain⟨places,hx⟩:=reads os enc
 refine returnsInHanded_of_row (C:=Tryz.checked) (s:=OpenSpec.ofChange Rows.coreStepsSpec) own started (by kernel_rfl) Tryz.func5
  (witness_row_at (enc:=enc) (C:=Tryz.checked) false (laidWorld os) #[.agg #[.int .u16 0,.int .u16 0,.int .u16 0,.int .u16 0,.int .u16 0,.int .u16 0,.int .u16 0,.int .u16 0,.int .u16 0,.int .u16 0,.int .u16 0,.int .u16 0,.int .u16 0,.int .u8 0,.int .u8 0,.bool false,.bool false,.bool false,.bool false,.int .i64 0],.slice none 0 0,.slice none 0 0] rfl (by kernel_rfl) (by kernel_rfl) (by kernel_rfl)
    (OpenSpec.preRow_of_cond 8 hx (by kernel_rfl) (fun k hk=>by cases hk) (by kernel_rfl) (laid_met os))) ?_
 intro W base args ds gs before hval hW _ _ _ hL _ _
 exact contract H enc W base args ds gs before hval hW hL
theorem fact_inPlace:(Rows.coreStepsRow.inPlace==Tryz.pinned.checked.prog.inPlace 5)=true:=by kernel_rfl
theorem fact_unfollowed:(Rows.coreStepsRow.unfollowed==Tryz.pinned.checked.prog.unfollowed 5)=true:=by kernel_rfl
theorem fact_recurses:(Rows.coreStepsRow.recurses==Tryz.pinned.checked.prog.recurses 5)=true:=by kernel_rfl
theorem fact_named:(Rows.coreStepsRow.named==Tryz.pinned.checked.prog.varsNamed 5)=true:=by kernel_rfl
theorem closed:joinedFacts Tryz.pinned.checked.prog 5 Tryz.f5 (OpenSpec.ofChange Rows.coreStepsSpec).bare Rows.coreStepsRow=true:=by
 unfold joinedFacts
 rw[fact_inPlace,fact_unfollowed,fact_recurses,fact_named]
 kernel_rfl
theorem said:Rows.CoreStepsSaid :=
 OpenClaim.holds_of_cond 5 Tryz.f5 rfl rfl rfl rfl rfl rfl rfl ⟨rfl,rfl,rfl,rfl,rfl⟩ rfl rfl rfl rfl rfl (by kernel_rfl) Tryz.func5 closed
  (of_decide_eq_true (by kernel_rfl)) (by unfold Func.isWrapper;first|(rw[if_pos (by decide +kernel)];kernel_rfl)|(rw[if_neg (by decide +kernel)];exact⟨rfl,rfl⟩))
  (fun os started H enc _ F=>by rw[OpenClaim.pre_eq_preRow];exact lifted os started H enc F)
end Go.Proofs.YtkenebbjodcbcaaGreatDoor.coreStepsLaw
