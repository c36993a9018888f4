/- The lifting. -/
import Derived.Test.YtkgaeamdhhceiaaGreatDoorRows
import Derived.ChangeMaps5
import Derived.Carry
import Derived.Test.YtkgaeamdhhceiaaGreatDoorCards
import Derived.Test.YtkgaeamdhhceiaaGreatDoorTie
import Derived.Test.YtkgaeamdhhceiaaGreatDoorStepRunsProofy
import Derived.Test.YtkgaeamdhhceiaaGreatDoorSrG34
namespace Go.Proofs.YtkgaeamdhhceiaaGreatDoor.stepRunsLaw
open Go.ChangeShapes Go.WideShapes Go.ChangeAt Go.RowKit Go.Proofs.Tryz
set_option linter.unusedVariables false
theorem own:ownKnob prog.godebug=none:=by kernel_rfl
theorem laidOut:laidOutB prog=true:=by kernel_rfl
@[reducible] def zW:Value:=.agg #[.int .u16 0,.int .u16 0,.int .u16 0,.int .u16 0,.int .u16 0,.int .u16 0,.int .u16 0,.int .u16 0,.int .u16 0,.int .u16 0,.int .u16 0,.int .u16 0,.int .u16 0,.int .u8 0,.int .u8 0,.bool false,.bool false,.bool false,.bool false,.int .i64 0,.slice none 0 0,.slice none 0 0]
theorem flags_masks_g:prog.globalNamed "charabanc/flags.masks"=some 2:=by kernel_rfl
theorem flags_masks_t:(prog.globals[2]?).map (·.type)=some 236:=by kernel_rfl
theorem flags_masks_f:flat prog 9 236 (Rows.laid_charabanc_flags_masks:DataW Unit)=some [.int .u8 64,.int .u8 1,.int .u8 4,.int .u8 128]:=by kernel_rfl
theorem flags_masks_var {W:World}(h:laidMetH prog Rows.stepRunsRow.laid W):W.var? prog "charabanc/flags.masks"=some [(.int .u8 64:Value),(.int .u8 1:Value),(.int .u8 4:Value),(.int .u8 128:Value)].toArray :=
 qB 0 rfl flags_masks_g flags_masks_t flags_masks_f h
theorem flags_masksAt {W:World}(h:laidMetH prog Rows.stepRunsRow.laid W):Masks W :=
 ⟨Jd (flags_masks_var h) flags_masks_g 0 _ rfl,Jd (flags_masks_var h) flags_masks_g 1 _ rfl,Jd (flags_masks_var h) flags_masks_g 2 _ rfl,Jd (flags_masks_var h) flags_masks_g 3 _ rfl⟩
theorem logic_digits_g:prog.globalNamed "charabanc/logic.digits"=some 3:=by kernel_rfl
theorem logic_digits_t:(prog.globals[3]?).map (·.type)=some 246:=by kernel_rfl
theorem logic_digits_f:flat prog 9 246 (Rows.laid_charabanc_logic_digits:DataW Unit)=some [.int .u8 16,.int .u8 15,.int .u8 9,.int .u8 6,.int .u8 1,.int .u8 255,.int .u8 153,.int .u8 96]:=by kernel_rfl
theorem logic_digits_var {W:World}(h:laidMetH prog Rows.stepRunsRow.laid W):W.var? prog "charabanc/logic.digits"=some [(.int .u8 16:Value),(.int .u8 15:Value),(.int .u8 9:Value),(.int .u8 6:Value),(.int .u8 1:Value),(.int .u8 255:Value),(.int .u8 153:Value),(.int .u8 96:Value)].toArray :=
 qB 1 rfl logic_digits_g logic_digits_t logic_digits_f h
theorem logic_digitsAt {W:World}(h:laidMetH prog Rows.stepRunsRow.laid W):Digits W :=
 ⟨Jd (logic_digits_var h) logic_digits_g 0 _ rfl,Jd (logic_digits_var h) logic_digits_g 1 _ rfl,Jd (logic_digits_var h) logic_digits_g 2 _ rfl,Jd (logic_digits_var h) logic_digits_g 3 _ rfl,Jd (logic_digits_var h) logic_digits_g 4 _ rfl,Jd (logic_digits_var h) logic_digits_g 5 _ rfl,Jd (logic_digits_var h) logic_digits_g 6 _ rfl,Jd (logic_digits_var h) logic_digits_g 7 _ rfl⟩
theorem shift_courses_g:prog.globalNamed "charabanc/shift.courses"=some 1:=by kernel_rfl
theorem shift_courses_t:(prog.globals[1]?).map (·.type)=some 207:=by kernel_rfl
theorem shift_courses_f:flat prog 9 207 (Rows.laid_charabanc_shift_courses:DataW Unit)=some [.int .i64 1,.int .i64 7,.int .i64 0,.int .i64 (-1),.int .i64 0,.int .i64 7]:=by kernel_rfl
theorem shift_courses_var {W:World}(h:laidMetH prog Rows.stepRunsRow.laid W):W.var? prog "charabanc/shift.courses"=some [(.int .i64 1:Value),(.int .i64 7:Value),(.int .i64 0:Value),(.int .i64 (-1):Value),(.int .i64 0:Value),(.int .i64 7:Value)].toArray :=
 qB 2 rfl shift_courses_g shift_courses_t shift_courses_f h
theorem shift_coursesAt {W:World}(h:laidMetH prog Rows.stepRunsRow.laid W):Courses W :=
 ⟨Jd (shift_courses_var h) shift_courses_g 0 _ rfl,Jd (shift_courses_var h) shift_courses_g 1 _ rfl,Jd (shift_courses_var h) shift_courses_g 2 _ rfl,Jd (shift_courses_var h) shift_courses_g 3 _ rfl,Jd (shift_courses_var h) shift_courses_g 4 _ rfl,Jd (shift_courses_var h) shift_courses_g 5 _ rfl⟩
theorem next_modes_g:prog.globalNamed "charabanc/next.modes"=some 0:=by kernel_rfl
theorem next_modes_t:(prog.globals[0]?).map (·.type)=some 196:=by kernel_rfl
theorem next_modes_f:flat prog 9 196 (Rows.laid_charabanc_next_modes:DataW Unit)=some [.int .i64 0,.int .i64 0,.int .i64 1,.int .i64 2]:=by kernel_rfl
theorem next_modes_var {W:World}(h:laidMetH prog Rows.stepRunsRow.laid W):W.var? prog "charabanc/next.modes"=some [(.int .i64 0:Value),(.int .i64 0:Value),(.int .i64 1:Value),(.int .i64 2:Value)].toArray :=
 qB 3 rfl next_modes_g next_modes_t next_modes_f h
theorem next_modesAt {W:World}(h:laidMetH prog Rows.stepRunsRow.laid W):QGI W :=
 ⟨Jd (next_modes_var h) next_modes_g 0 _ rfl,Jd (next_modes_var h) next_modes_g 1 _ rfl,Jd (next_modes_var h) next_modes_g 2 _ rfl,Jd (next_modes_var h) next_modes_g 3 _ rfl⟩
set_option maxRecDepth 100000 in
theorem contract (H:Type)(enc:TypeId×Value→H)(W:World)(base:Nat)(args:Array Value)(ds gs:List (DataW H))(before:List MemPlace)
 (hval:∀ (j:Nat) t v,Tryz.f4.params[j]?=some t→args[j]?=some v→Value.okWide prog W .any base t v)
 (hW:DataW.Whole enc prog Tryz.f4.params.toList Rows.stepRunsSpec.vars false W args.toList ds gs before)(hL:laidMetH prog Rows.stepRunsRow.laid W) :
 Calls prog 4 args W fun e W'=>∃ v,e=.returned v∧Rows.stepRunsSpec.post enc prog Tryz.f4 false true false false W args v W':=by
 have hW':=hW
 obtain⟨p,q,hA0,hV,rfl,hfz,hnd⟩:=hW
 have hA:DataW.TrodAll enc prog W 0 (fun _=>true) true Tryz.f4.params.toList args.toList ds p:=hA0
 rw[params4] at hA hval
 obtain⟨v0,vs0,d0,ds0,p0,q0,hargs,rfl,rfl,h0,r0⟩:=trodAll_cons hA
 obtain⟨v1,vs1,d1,ds1,p1,q1,rfl,rfl,rfl,h1,r1⟩:=trodAll_cons r0
 obtain⟨v2,vs2,d2,ds2,p2,q2,rfl,rfl,rfl,h2,r2⟩:=trodAll_cons r1
 obtain⟨rfl,rfl,rfl⟩:=trodAll_nil r2
 obtain rfl:args=#[v0,v1,v2]:=by cases args;simp_all
 obtain⟨rfl,rfl⟩:=trodVars_none hV
 have k0:=h0
 have lt0:∀ x∈p0,x.block < W.heap.size:=by obtain⟨m,hm⟩:=k0;exact DataW.trod_lt m _ _ _ hm
 obtain⟨g0,A0,c0,x0,A'0,c'0,x'0,rfl,hg0,⟨hl0,hm0,hs0,hb0,hn0⟩,⟨hl'0,hm'0,hs'0,hb'0,hn'0⟩⟩:=QF8 underlying28 (by kernel_rfl) underlying24 (by kernel_rfl) underlying22 underlying22 underlying22 underlying22 underlying22 underlying22 underlying22 underlying22 underlying22 underlying22 underlying22 underlying22 underlying22 underlying5 underlying5 underlying4 underlying4 underlying4 underlying4 underlying3 underlying25 underlying67 (by kernel_rfl) (by kernel_rfl) underlying22 underlying5 underlying26 underlying5 (by kernel_rfl) (hval 0 28 v0 rfl rfl) h0
 obtain⟨a1,rfl,rfl,rfl,w1⟩:=open_int underlying3 (hval 1 3 v1 rfl rfl) h1
 obtain⟨a2,rfl,rfl,rfl,w2⟩:=open_int underlying22 (hval 2 22 v2 rfl rfl) h2
 have b2:=bounds_u16 w2
 clear hA0
 refine (stepRuns_walk g0 A0 c0 x0 A'0 c'0 x'0 a1 a2 (by omega) (by omega) hg0 W hl0 hm0 hs0 hb0 hn0 hl'0 hm'0 hs'0 hb'0 hn'0 (flags_masksAt hL) (logic_digitsAt hL) (shift_coursesAt hL) (next_modesAt hL)).mono fun e W' ⟨he,bel⟩=>?_
 subst he
 exact⟨_,rfl,_,_,_,[],_,[],hW',trodAll_mk1 (shut_bool underlying4 _),(trodAll_cons_mk (Below.trod laidOut (by kernel_rfl) (of_decide_eq_true (by kernel_rfl)) k0 bel lt0) (trodAll_cons_mk (shut_int underlying3 w1) (trodAll_cons_mk (shut_int underlying22 w2) trodAll_mk0))),rfl,bel.frame _,fun h=>by cases h⟩
def layIn (cs:Array Value):Obj→Obj
 | .cells _ t frozen=>.cells cs t frozen
 | o=>o
/-- A world for the witness: the settled one, the tables holding what their initialisers lay. -/
noncomputable def laidWorld (os:Os):World :=
 { World.holding prog os ⟨#[],#[],[]⟩ with heap:=([(2,#[.int .u8 64,.int .u8 1,.int .u8 4,.int .u8 128]),
  (3,#[.int .u8 16,.int .u8 15,.int .u8 9,.int .u8 6,.int .u8 1,.int .u8 255,.int .u8 153,.int .u8 96]),
  (1,#[.int .i64 1,.int .i64 7,.int .i64 0,.int .i64 (-1),.int .i64 0,.int .i64 7]),
  (0,#[.int .i64 0,.int .i64 0,.int .i64 1,.int .i64 2])]:List (Nat×Array Value)).foldl (fun h p=>h.modify p.1 (layIn p.2)) (World.holding prog os ⟨#[],#[],[]⟩).heap }
theorem laid_met (os:Os):laidMet prog Rows.stepRunsRow.laid ((laidWorld os).forCall (fun _ _=>0) ⟨#[],#[zW,.int .i64 0,.int .u16 0],[]⟩).memory :=
 laidMet_of_run' 8 (by kernel_rfl) (by kernel_rfl)
theorem reads (os:Os){H:Type}(enc:TypeId×Value→H):∃ places,DataW.whole enc prog ((laidWorld os).forCall (fun _ _=>0) ⟨#[],#[zW,.int .i64 0,.int .u16 0],[]⟩).memory Tryz.f4.params.toList Rows.stepRunsSpec.vars false (#[zW,.int .i64 0,.int .u16 0]:Array Value).toList 8=some ([.agg [.agg [.lit (.int .u16 0),.lit (.int .u16 0),.lit (.int .u16 0),.lit (.int .u16 0),.lit (.int .u16 0),.lit (.int .u16 0),.lit (.int .u16 0),.lit (.int .u16 0),.lit (.int .u16 0),.lit (.int .u16 0),.lit (.int .u16 0),.lit (.int .u16 0),.lit (.int .u16 0),.lit (.int .u8 0),.lit (.int .u8 0),.lit (.bool false),.lit (.bool false),.lit (.bool false),.lit (.bool false),.lit (.int .i64 0)],.nil,.nil],.lit (.int .i64 0),.lit (.int .u16 0)],[],places) :=
 ⟨[],by kernel_rfl⟩
set_option maxRecDepth 100000 in
theorem lifted (os:Os)(started:os.Started)(H:Type)(enc:TypeId×Value→H)(F:Stop.Interp) :
 ReturnsInHanded {} Tryz.checked os 4 .any ((OpenSpec.ofChange Rows.stepRunsSpec).preRow enc prog Tryz.f4 Rows.stepRunsRow.domain false Rows.stepRunsRow.laid) (((OpenSpec.ofChange Rows.stepRunsSpec).at F).post enc prog Tryz.f4 false true false false):=by
 obtain⟨places,hx⟩:=reads os enc
 refine returnsInHanded_of_row (C:=Tryz.checked) (s:=OpenSpec.ofChange Rows.stepRunsSpec) own started (by kernel_rfl) func4
  (witness_row_at (enc:=enc) (C:=Tryz.checked) false (laidWorld os) #[zW,.int .i64 0,.int .u16 0] rfl (by kernel_rfl) (by kernel_rfl) (by kernel_rfl)
    (OpenSpec.preRow_of_cond 8 hx (by kernel_rfl) (fun k hk=>by cases hk) (by kernel_rfl) (laid_met os))) ?_
 intro W base args ds gs before hval hW _ _ _ hL _ _
 exact contract H enc W base args ds gs before hval hW hL
theorem fact_inPlace:(Rows.stepRunsRow.inPlace==Tryz.pinned.checked.prog.inPlace 4)=true:=by kernel_rfl
theorem fact_unfollowed:(Rows.stepRunsRow.unfollowed==Tryz.pinned.checked.prog.unfollowed 4)=true:=by kernel_rfl
theorem fact_recurses:(Rows.stepRunsRow.recurses==Tryz.pinned.checked.prog.recurses 4)=true:=by kernel_rfl
theorem fact_named:(Rows.stepRunsRow.named==Tryz.pinned.checked.prog.varsNamed 4)=true:=by kernel_rfl
theorem closed:joinedFacts Tryz.pinned.checked.prog 4 Tryz.f4 (OpenSpec.ofChange Rows.stepRunsSpec).bare Rows.stepRunsRow=true:=by
 unfold joinedFacts
 rw[fact_inPlace,fact_unfollowed,fact_recurses,fact_named]
 kernel_rfl
theorem said:Rows.StepRunsSaid :=
 OpenClaim.holds_of_cond 4 Tryz.f4 rfl rfl rfl rfl rfl rfl rfl ⟨rfl,rfl,rfl,rfl,rfl⟩ rfl rfl rfl rfl rfl (by kernel_rfl) func4 closed
  (of_decide_eq_true (by kernel_rfl)) (by unfold Func.isWrapper;first|(rw[if_pos (by decide +kernel)];kernel_rfl)|(rw[if_neg (by decide +kernel)];exact⟨rfl,rfl⟩))
  (fun os started H enc _ F=>by rw[OpenClaim.pre_eq_preRow];exact lifted os started H enc F)
end Go.Proofs.YtkgaeamdhhceiaaGreatDoor.stepRunsLaw
