/- Contracts and facts that the claim's proof wants (several texts in one). -/
import Derived.Defers
import Derived.Recover
import Derived.Test.YtbhaojlikgdgjaaGreatDoorTgG14
namespace Go.Proofs.YtbhaojlikgdgjaaGreatDoor
open Go.RowKit
set_option linter.unusedVariables false
set_option linter.unusedSimpArgs false
set_option maxRecDepth 20000
set_option maxHeartbeats 20000000
theorem QFt:(Tryz.prog.info? 40).map (·.size)=some 4:=by kernel_rfl
theorem ldCy {w:World} {b:Nat} {t:TypeId} {c:Cy}(h:Row w b t (cyC c)):(Instr.loadAt 40 (pT b 0)).run Tryz.prog w=.ok (cyV c) w :=
 run_loadAt_mid w b 0 40 (cyC c).toList _ h.range Tryz.underlying40 rfl QFt
theorem QFg {w:World} {b:Nat} {t:TypeId} {c d:Cy}(h:Row w b t (cyC d)):(Instr.storeAt 40 (pT b 0) (cyV c)).run Tryz.prog w=.ok () (w.setCells b 0 (cyC c).toList) :=
 run_storeAt_mid w b 0 40 (cyC c) h.there QFt (by simp[cyC,Value.oneCell'])
theorem zo (w:World):(Instr.alloc 40 true (.tuple #[])).run Tryz.prog w=.ok (pT w.heap.size 0) (w.alloc (.cells (cyC JM) 40)):=by
 simp[go_sem,JM]
section
variable {P:Program} {ops:Array Oper} {Q:Exit→Act→List Frame→World→Prop} {a:Act} {cs cs':List Frame} {w w':World} {i:Nat} {rest:List Nat} {o:Oper}
structure WS (P:Program)(ops:Array Oper)(Q:Exit→Act→List Frame→World→Prop)(l:List Nat)(a:Act)(cs:List Frame)(w:World):Prop where
 h:wpOpsS P ops Q l a cs w
theorem QKJ {id:Nat}(l:List Nat)(hl:List.range ops.size=l)(h:WS P ops Q l a cs w):(Code.region id ops false).wpS P Q a cs w:=wpS_region (by rw[hl];exact h.h)
theorem endS (h:Q .normal a cs w):WS P ops Q [] a cs w:=⟨by unfold wpOpsS;exact h⟩
theorem zF (V:Value)(ho:ops[i]? = some o)(hg:o.guard=none)(he:(execOp a.eval o).run P w=.ok (.value V) w')(h:WS P ops Q rest (a.put o.dst V) cs w'):WS P ops Q (i :: rest) a cs w:=by
 constructor
 unfold wpOpsS
 simp only[ho,JI hg,if_true,he,Oper.upon_value]
 exact h.h
theorem rDo (ho:ops[i]? = some o)(hg:o.guard=none)(he:(execOp a.eval o).run P w=.ok .skip w')(h:WS P ops Q rest (a.put o.dst undef) cs w'):WS P ops Q (i :: rest) a cs w:=by
 constructor
 unfold wpOpsS
 simp only[ho,JI hg,if_true,he,Oper.upon_skip]
 exact h.h
theorem QNb (V:Value)(ho:ops[i]? = some o)(hg:o.guard=none)(he:(execOp a.eval o).run P w=.ok .recover w)(hc:recoverD cs=some (V,cs'))(h:WS P ops Q rest (a.put o.dst V) cs' w):WS P ops Q (i :: rest) a cs w:=by
 constructor
 unfold wpOpsS
 simp only[ho,JI hg,if_true,he,hc]
 exact h.h
theorem QUO (ho:ops[i]? = some o)(hg:o.guard=none)(he:(execOp a.eval o).run P w=.ok .recover w)(hc:recoverD cs=none)(h:WS P ops Q rest (a.put o.dst .nilIface) cs w):WS P ops Q (i :: rest) a cs w:=by
 constructor
 unfold wpOpsS
 simp only[ho,JI hg,if_true,he,hc]
 exact h.h
theorem QHM {x:Operand} {V R:Value} {t u:TypeId} {ok:Bool}(ho:o.op=.typeAssert x t u ok)(hx:a.eval x=V)(hr:(Instr.typeAssert V t u ok).run P w=.ok R w):(execOp a.eval o).run P w=.ok (.value R) w:=by
 unfold execOp
 simp only[ho,hx,hr,Sem.run_bind,Sem.run_pure,Result.andThen_ok]
end
theorem QTZ (v:Value)(w:World):(Instr.typeAssert (.iface 40 v) 20 40 true).run Tryz.prog w=.ok (.tuple #[v,.bool true]) w:=by kernel_rfl
theorem QU4 (w:World):(Instr.typeAssert .nilIface 20 40 true).run Tryz.prog w=.ok (.tuple #[cyV JM,.bool false]) w:=by kernel_rfl
theorem QCi (L:Nat)(c:Cy)(older:List PanicEntry)(w:World)(hL:Row w L 40 (cyC JM)) :
 CallsD Tryz.prog 123 #[pT L 0] (.panicking ({ v:=.iface 40 (cyV c),recovered:=false } :: older)) w fun e u' w' =>
  e=.returned (.tuple #[])∧u'=.panicking ({ v:=.iface 40 (cyV c),recovered:=true } :: older)∧Row w' L 40 (cyC c)∧Besides L L w w':=by
 refine callsD_of_wpS Tryz.func123 rfl fun c₀ cs hu=>?_
 simp only[Tryz.ntmps123,List.size_toArray,List.length_cons,List.length_nil,Nat.reduceAdd,Nat.reduceSub,Array.replicate_succ,Array.replicate_zero,List.push_toArray,List.append_toArray,List.nil_append,List.cons_append]
 apply wpS_seq
 refine QKJ [0,1,2,3,4,5,6,7] (by simp only[List.size_toArray,List.length_cons,List.length_nil,Nat.reduceAdd];rfl) ?_
 refine QNb (.iface 40 (cyV c)) rfl rfl (by kernel_rfl) (show recoverD (c₀ :: cs)=some (_,{ c₀ with mode:=.panicking ({ v:=.iface 40 (cyV c),recovered:=true } :: older) } :: cs) by simp only[recoverD,hu]) ?_
 refine zF (.tuple #[cyV c,.bool true]) rfl rfl (QHM rfl (by kernel_rfl) (QTZ _ _)) ?_
 refine zF (.tuple #[cyV c,.bool true]) rfl rfl (Qw (.inl rfl) (by kernel_rfl) _) ?_
 refine zF (cyV c) rfl rfl (QZ (vs:=#[cyV c,.bool true]) rfl (by kernel_rfl) (by kernel_rfl) _) ?_
 refine zF (.bool true) rfl rfl (QZ (vs:=#[cyV c,.bool true]) rfl (by kernel_rfl) (by kernel_rfl) _) ?_
 refine zF (pT w.heap.size 0) rfl rfl (Qo rfl (zo w)) ?_
 have hL':Row (w.alloc (.cells (cyC JM) 40)) L 40 (cyC JM):=hL.alloc _
 have hlt:=hL.lt
 refine rDo rfl rfl (Qf (ad:=⟨w.heap.size,0,none⟩) (V:=cyV c) rfl (by kernel_rfl) (by kernel_rfl) (QFg (Row.new w _ (cyC JM)))) ?_
 have hN:Row ((w.alloc (.cells (cyC JM) 40)).setCells w.heap.size 0 (cyC c).toList) w.heap.size 40 (cyC c):=(Row.new w _ (cyC JM)).setAll rfl
 have hL2:Row ((w.alloc (.cells (cyC JM) 40)).setCells w.heap.size 0 (cyC c).toList) L 40 (cyC JM):=hL'.setFar (by omega) _ _
 have hB:Besides L L w ((w.alloc (.cells (cyC JM) 40)).setCells w.heap.size 0 (cyC c).toList):=((Besides.refl L L w).alloc _).setCells (.inr (.inr (Nat.le_refl _))) _ _
 generalize (w.alloc (.cells (cyC JM) 40)).setCells w.heap.size 0 (cyC c).toList=W at *
 refine zF (.bool true) rfl rfl (Qw (.inr rfl) (by kernel_rfl) _) ?_
 refine endS ?_
 simp only[Exit.thenS]
 refine wpS_of_wp ?_
 try simp only[Act.put,sA,sB,sC]
 refine wp_seq_k fun K1 hK1=>JD<|oM 8 (.bool true) ?_
 refine Ja ?_
 refine JU<|hK1 _ _ ?_
 refine wp_cond_true (by kernel_rfl) ?_
 refine JD<|oL 9 (ldCy hN)<|oS ⟨L,0,none⟩ (cyV c) (QFg hL2) ?_
 refine Ja ?_
 exact⟨rfl,_,rfl,_,results_none rfl _ _ _,rfl,rfl,hL2.setAll rfl,hB.setCells (.inl rfl) _ _⟩
theorem QIt (L:Nat)(w:World) :
 CallsD Tryz.prog 123 #[pT L 0] .returning w fun e u' w'=>e=.returned (.tuple #[])∧u'=.returning∧Below w.heap.size w w':=by
 refine callsD_of_wpS Tryz.func123 rfl fun c₀ cs hu=>?_
 simp only[Tryz.ntmps123,List.size_toArray,List.length_cons,List.length_nil,Nat.reduceAdd,Nat.reduceSub,Array.replicate_succ,Array.replicate_zero,List.push_toArray,List.append_toArray,List.nil_append,List.cons_append]
 apply wpS_seq
 refine QKJ [0,1,2,3,4,5,6,7] (by simp only[List.size_toArray,List.length_cons,List.length_nil,Nat.reduceAdd];rfl) ?_
 refine QUO rfl rfl (by kernel_rfl) (show recoverD (c₀ :: cs)=none by simp only[recoverD,hu]) ?_
 refine zF (.tuple #[cyV JM,.bool false]) rfl rfl (QHM rfl (by kernel_rfl) (QU4 _)) ?_
 refine zF (.tuple #[cyV JM,.bool false]) rfl rfl (Qw (.inl rfl) (by kernel_rfl) _) ?_
 refine zF (cyV JM) rfl rfl (QZ (vs:=#[cyV JM,.bool false]) rfl (by kernel_rfl) (by kernel_rfl) _) ?_
 refine zF (.bool false) rfl rfl (QZ (vs:=#[cyV JM,.bool false]) rfl (by kernel_rfl) (by kernel_rfl) _) ?_
 refine zF (pT w.heap.size 0) rfl rfl (Qo rfl (zo w)) ?_
 refine rDo rfl rfl (Qf (ad:=⟨w.heap.size,0,none⟩) (V:=cyV JM) rfl (by kernel_rfl) (by kernel_rfl) (QFg (Row.new w _ (cyC JM)))) ?_
 have hB:Below w.heap.size w ((w.alloc (.cells (cyC JM) 40)).setCells w.heap.size 0 (cyC JM).toList):=Below.setCellsAll (Below.alloc (Below.refl _ _) (Nat.le_refl _) _) (Nat.le_refl _) _ _
 refine zF (.bool false) rfl rfl (Qw (.inr rfl) (by kernel_rfl) _) ?_
 refine endS ?_
 simp only[Exit.thenS]
 refine wpS_of_wp ?_
 try simp only[Act.put,sA,sB,sC]
 refine wp_seq_k fun K1 hK1=>JD<|oM 8 (.bool false) ?_
 refine Ja ?_
 refine JU<|hK1 _ _ ?_
 refine wp_cond_false (by kernel_rfl) ?_
 refine wp_skip ?_
 exact⟨rfl,_,by rw[←hu],_,results_none rfl _ _ _,rfl,rfl,hB⟩
theorem QC0 (w:World):(Instr.alloc 24 true (.tuple #[])).run Tryz.prog w=.ok (pT w.heap.size 0) (w.alloc (.cells (JN JY) 24)):=by
 simp[go_sem,JY,JN]
theorem QH5 {w:World} {b:Nat} {t:TypeId} {g d:Rg}(h:Row w b t (JN d)):(Instr.storeAt 24 (pT b 0) (JL g)).run Tryz.prog w=.ok () (w.setCells b 0 (JN g).toList):=stR h.there
theorem Besides.more {p L:Nat} {w w' w'':World}(h:Besides p p w w')(k:Besides L L w' w'')(hL:w.heap.size≤L):Besides p p w w'' :=
 ⟨k.os.trans h.os,k.tape.trans h.tape,k.output.trans h.output,Nat.le_trans h.size k.size,fun b hb n1 n2=>(k.block b (Nat.lt_of_lt_of_le hb h.size) (by omega) (by omega)).trans (h.block b hb n1 n2)⟩
theorem XY {fn:Func} {t1 t2 t3:Tmp} {u v:TypeId}(h:fn.results=#[.cell t1 40,.cell t2 24,.tmp t3]){tmps:Array Value} {w:World} {L M:Nat} {c:Cy} {g:Rg} {b:Bool}
 (h1:tmps.getD t1 undef=pT L 0)(h2:tmps.getD t2 undef=pT M 0)(h3:tmps.getD t3 undef=.bool b)(hL:Row w L u (cyC c))(hM:Row w M v (JN g)):(results fn tmps).run Tryz.prog w=.ok (.tuple #[cyV c,JL g,.bool b]) w:=by
 have h1':tmps[t1]?.getD undef=pT L 0:=by simpa using h1
 have h2':tmps[t2]?.getD undef=pT M 0:=by simpa using h2
 have h3':tmps[t3]?.getD undef=.bool b:=by simpa using h3
 have e1:=XM (P:=Tryz.prog) hL Tryz.underlying40 rfl QFt
 have e2:=XM (P:=Tryz.prog) hM Tryz.underlying24 rfl QIx
 simp[results,h,h1',h2',h3',asAddr,e1,e2]
def QCY:Except Cy (Ms×List Int)→Value
 | .ok (s,_)=>.tuple #[cyV JM,JL s.r,.bool true]
 | .error c=>.tuple #[cyV c,JL JY,.bool false]
theorem QS7 {P:Program} {ops:Array Oper} {Q:Exit→Act→World→Prop} {a:Act} {w:World} {o:Oper} {rest:List Oper}(d:Deferred)(hd:o.dst=none)(hg:o.guard=none)(he:(execOp a.eval o).run P w=.ok (.defer d) w)
 (h:WL P ops Q rest { a with defers:=d :: a.defers } w):WL P ops Q (o :: rest) a w :=
 ⟨wpList_step fun K hK=>by
  rw[if_pos (JI hg)]
  unfold Oper.wp
  rw[he,Oper.upon_defer,hd]
  exact hK _ _ h.h⟩
theorem heFn {P:Program} {a:Act} {o:Oper} {x:Operand} {F:FuncId} {cap:Array Value} {w:World}(ho:o.op=.call { callee:=.value x,args:=#[],argTypes:=#[] })(hx:a.eval x=.func (.func F) #[] cap)(hen:(callFunc F cap).run P w=.ok (.enter F cap) w) :
 (execOp a.eval o).run P w=.ok (.enter F cap) w:=by
 unfold execOp
 simp[ho,resolve,hx,Deferred.ofValue,invoke,hen]
theorem QPz {P:Program} {ops:Array Oper} {Q:Exit→Act→World→Prop} {S:World→Prop} {n i f:Nat} {listed:Array Bool} {a:Act} {w w':World} {o:Oper}(hd:o.dst=none)(ho:ops[i]? = some o)(hr:Region.ready .any ops listed=[i])(hin:decide (i < n)=true)
 (hw:Region.wanted o (yielded ops a.tmps)=true)(he:(execOp a.eval o).run P w=.ok .skip w')(hS:S w')
 (hK:Xf P ops Q S n f (listed.setIfInBounds i true) a w'):Xf P ops Q S n (f+1) listed a w:=by
 intro inv
 have hr':i∈Region.ready .any ops listed:=by rw[hr];simp
 refine⟨by rw[hr];simp,fun j hj=>?_⟩
 rw[hr] at hj
 have hji:j=i:=by simpa using hj
 subst hji
 refine⟨of_decide_eq_true hin,?_⟩
 unfold wpOp
 simp only[ho,hw,if_true]
 refine .inl ?_
 unfold Oper.wp
 rw[he,Oper.upon_skip,hd]
 exact⟨hS,hK (inv.set hr' (of_decide_eq_true hin))⟩
theorem QOk (F:FuncId)(cap:Array Value)(hen:∀ w,(callFunc F cap).run Tryz.prog w=.ok (.enter F cap) w){X:Except Cy (Ms×List Int)} {s:Ms} {xs:List Int} {w:World} {p B:Nat}(h:AtN w p B s xs)
 (hF:∀ w',AtN w' p B s xs→Below w.heap.size w w'→Calls Tryz.prog F cap w' (OutV w' p B X)) :
 Calls Tryz.prog 94 #[pT p 0,.func (.func F) #[] cap] w (fun e w'=>e=.returned (QCY X)∧Besides p p w w'):=by
 go_enter_defers Tryz.func94,Tryz.ntmps94
 refine wp_seq_k fun K1 hK1=>JD ?_
 have hp:=h.lt
 refine QD 4 (pT w.heap.size 0) rfl (JI rfl) (Qo rfl (zo w)) ?_
 refine QD 5 (.pointer (some ⟨(w.alloc (.cells (cyC JM) 40)).heap.size,0,none⟩)) rfl (JI rfl) (Qo rfl (QC0 _)) ?_
 have h1:=h.below (Below.alloc (Below.refl w.heap.size w) (Nat.le_refl _) (.cells (cyC JM) 40))
 have h2:=h1.below (Below.alloc (Below.refl _ _) (Nat.le_refl _) (.cells (JN JY) 24))
 have hb0:Besides p p w ((w.alloc (.cells (cyC JM) 40)).alloc (.cells (JN JY) 24)):=((Besides.refl p p w).alloc _).alloc _
 have hW:Below w.heap.size w ((w.alloc (.cells (cyC JM) 40)).alloc (.cells (JN JY) 24)):=Below.alloc (Below.alloc (Below.refl _ _) (Nat.le_refl _) _) (by simp) _
 have hL:=(Row.new w 40 (cyC JM)).alloc (.cells (JN JY) 24)
 have hM:=Row.new (w.alloc (.cells (cyC JM) 40)) 24 (JN JY)
 obtain⟨L,hLe⟩:∃ L,L=w.heap.size:=⟨_,rfl⟩
 obtain⟨M,hMe⟩:∃ M,M=(w.alloc (.cells (cyC JM) 40)).heap.size:=⟨_,rfl⟩
 have hML:M=L+1:=by rw[hMe,hLe];simp
 rw[←hMe] at hM ⊢
 rw[←hLe] at hL hW ⊢
 generalize (w.alloc (.cells (cyC JM) 40)).alloc (.cells (JN JY) 24)=W at *
 clear hMe h1
 refine oA 6 (.bool false) ?_
 refine Ja ?_
 try simp only[Act.put,sA,sB,sC]
 refine JU<|hK1 _ _<|wp_seq_k fun K2 hK2=>JD ?_
 refine JO 7 (.func (.func 123) #[] #[pT L 0]) rfl (JI rfl) (QG rfl (by kernel_rfl) (by kernel_rfl) _) ?_
 refine QS7 { target:=.fn (.func 123) #[pT L 0],args:=#[] } rfl rfl (by kernel_rfl) ?_
 refine Ja ?_
 try simp only[Act.put,sA,sB,sC]
 refine JU<|hK2 _ _<|wp_seq_k fun K3 hK3=>JD<|oM 8 (.func (.func F) #[] cap) ?_
 have hn:=NowN.begin h2
 refine XO hn rfl (heFn rfl (by kernel_rfl) (hen W)) (hF W h2 (by rw[←hLe];exact hW)) (fun c w' hX hb=>?_) ?_
 · have hb:=hb.bes
   refine Zb ?_
   subst hX
   refine leaves_cons (f:=123) (args:=#[pT L 0]) (by simp) (by simp[go_sem]) ?_
   have hL':=hL.besides hb (by omega) (by omega)
   have hM':=hM.besides hb (by omega) (by omega)
   refine (QCi L c [] w' hL').mono ?_
   rintro e u' w'' ⟨rfl,rfl,hA,hB⟩
   refine⟨_,XY rfl (by kernel_rfl) (by kernel_rfl) (by kernel_rfl) hA (hM'.besides hB (by omega) (by omega)),rfl,?_⟩
   exact (hb0.trans hb).more hB (by omega)
 intro s1 xs1 w1 hX hn
 subst hX
 have hL':=hL.besides hn.bes (by omega) (by omega)
 have hM':=hM.besides hn.bes (by omega) (by omega)
 refine Ja ?_
 try simp only[Act.put,sA,sB,sC]
 refine JU<|hK3 _ _<|wp_seq_k fun K4 hK4=>?_
 refine Code.wp_mono (Q:=fun e a w=>match e with|.normal=>K4 a w|_=>False) (fun e a w h=>by cases e<;>first|exact h|exact h.elim) ?_
 refine QAb 6 (fun w'=>AtN w' p B s1 xs1) (by kernel_rfl) (by kernel_rfl) hn.at_.drew ?_
 intro w2 hw2 hS
 have hL2:Row w2 L 40 (cyC JM):=by subst hw2;exact hL'.drew
 have hM2:Row w2 M 24 (JN JY):=by subst hw2;exact hM'.drew
 refine yG 0 10 (cyV JM) rfl (fun w hS=>QKv (cells:=cyC JM) rfl (by kernel_rfl) w) hS<|yM 1 11 (pT p 0) hS<|yN 2 12 p 0 hS<|yF 3 13 (fM0 p) hS<|yL 4 14 (JL s1.r) (fun w hS=>ldR hS.regs) hS ?_
 have hL3:Row (w2.setCells L 0 (cyC JM).toList) L 40 (cyC JM):=hL2.setAll rfl
 have hM3:=hM2.setFar (by omega:M≠L) (cyC JM).toList 0
 have hb3:Besides L L w2 (w2.setCells L 0 (cyC JM).toList):=(Besides.refl L L w2).setCells (.inl rfl) _ _
 have hb2:Besides p p W w2:=by subst hw2;exact hn.bes.drew
 refine QPz (i:=5) (by rfl) rfl (by kernel_rfl) (by kernel_rfl) (by kernel_rfl) (by exact Qf (ad:=⟨L,0,none⟩) (V:=cyV JM) rfl (by kernel_rfl) (by kernel_rfl) (QFg hL2)) (hS.far (by omega) (by have:=hS.low;omega) _ _) ?_
 refine QIG (by kernel_rfl) ?_
 simp only[List.drop_succ_cons,List.drop_zero]
 try simp only[Act.put,sA,sB,sC]
 refine oS ⟨M,0,none⟩ (JL s1.r) (QH5 hM3) ?_
 have hL4:=hL3.setFar (by omega:L≠M) (JN s1.r).toList 0
 have hM4:Row ((w2.setCells L 0 (cyC JM).toList).setCells M 0 (JN s1.r).toList) M 24 (JN s1.r):=hM3.setAll rfl
 have hb4:Besides M M (w2.setCells L 0 (cyC JM).toList) ((w2.setCells L 0 (cyC JM).toList).setCells M 0 (JN s1.r).toList):=(Besides.refl M M _).setCells (.inl rfl) _ _
 have hbes:Besides p p w ((w2.setCells L 0 (cyC JM).toList).setCells M 0 (JN s1.r).toList):=((hb0.trans hb2).more hb3 (by omega)).more hb4 (by omega)
 generalize (w2.setCells L 0 (cyC JM).toList).setCells M 0 (JN s1.r).toList=W5 at *
 refine oA 6 (.bool true) ?_
 refine Ja ?_
 try simp only[Act.put,sA,sB,sC]
 refine hK4 _ _ ?_
 refine wp_ret ?_
 refine leaves_cons (f:=123) (args:=#[pT L 0]) (by simp) (by simp[go_sem]) ?_
 refine (QIt L _).mono ?_
 rintro e u' w'' ⟨rfl,rfl,hB⟩
 exact⟨_,XY rfl (by kernel_rfl) (by kernel_rfl) (by kernel_rfl) (hL4.below hB hL4.lt) (hM4.below hB hM4.lt),rfl,hbes.trans (.of_below hB)⟩
theorem QMR {s:Ms} {xs:List Int} {w:World} {p B:Nat}(h:AtN w p B s xs) :
 Calls Tryz.prog 95 #[pT p 0] w (OutV w p B (((ZV s).bind fun b=>.done b.2).run xs)):=by
 have hn:=NowN.begin h
 go_enter Tryz.func95,Tryz.ntmps95
 refine JD ?_
 refine QAk hn rfl (by kernel_rfl) (QG6 hn.at_) (fun c w' hX hb=>QI rfl (OutV.err (Tr.run_bind_error hX _) hb)) ?_
 intro v1 s1 xs1 w1 hX hk hn
 refine Ja ?_
 refine jO rfl rfl ?_
 exact OutV.ok ((Tr.run_bind_ok hX _).trans (Tr.run_done _ _)) hn
def QCW (s:Ms)(xs:List Int):Except Cy (Ms×List Int) :=
 match (ZC s).run xs with
 | .ok ((b,t),ys)=>XH ys b t.noLate
 | .error c=>.error c
theorem QQK {s:Ms} {xs:List Int} {w:World} {p B:Nat}(h:AtN w p B s xs) :
 Calls Tryz.prog 97 #[pT p 0] w (OutV w p B (QCW s xs)):=by
 have hn:=NowN.begin h
 go_enter Tryz.func97,Tryz.ntmps97
 refine JD ?_
 refine QAk hn rfl (by kernel_rfl) (QAA hn.at_) (fun c w' hX hb=>QI rfl (OutV.err (by rw[QCW,hX]) hb)) ?_
 intro v1 s1 xs1 w1 hX hk hn
 have e:QCW s xs=XH xs1 v1 s1.noLate:=by rw[QCW,hX]
 refine XO hn rfl (by kernel_rfl) (ji v1 hk hn.at_) (fun c w' hX hb=>QI rfl (OutV.err (e.trans hX) hb)) ?_
 intro s2 xs2 w2 hX hn
 refine Ja ?_
 refine jO rfl rfl ?_
 exact OutV.ok (e.trans hX) hn
theorem QOn (c:Int)(hc:B8 c){L:Nat} {t:TypeId} {s:Ms} {xs:List Int} {w:World} {p B:Nat}(h:AtN w p B s xs)(hL:Row w L t #[.int .u8 c]) :
 Calls Tryz.prog 161 #[pT p 0,pT L 0] w (OutV w p B (XH xs c s.noLate)):=by
 have hn:=NowN.begin h
 go_enter Tryz.func161,Tryz.ntmps161
 refine JD<|oL 2 (ld8 (hL.cell 0)) ?_
 refine XO hn rfl (by kernel_rfl) (ji c hc hn.at_) (fun c w' hX hb=>QI rfl (OutV.err hX hb)) ?_
 intro s2 xs2 w2 hX hn
 refine Ja ?_
 refine jO rfl rfl ?_
 exact OutV.ok hX hn
def ms0 (g:Rg):Ms:=⟨g,0,0,0,0,0,0,0,false⟩
theorem QKc {g:Rg}(h:RgB g):MsB (ms0 g):=⟨h,.inl rfl,by simp[ms0],by simp[ms0],by simp[ms0],by simp[ms0],by simp[ms0],Wd16.zero⟩
def ZK:Array Value:=mC (ms0 JY) none 0 0
theorem QU0:(Tryz.prog.info? 150).map (·.size)=some 29:=by kernel_rfl
theorem QNn (w:World):(Instr.alloc 150 true (.tuple #[])).run Tryz.prog w=.ok (pT w.heap.size 0) (w.alloc (.cells ZK 150)):=by
 simp[go_sem,ZK,JY,ms0]
theorem QSQ (g:Rg)(w:World):(Instr.box 24 (JL g)).run Tryz.prog w=.ok (pT w.heap.size 0) (w.alloc (.cells (JN g) 24)):=by
 simp[go_sem]
theorem box8 (c:Int)(w:World):(Instr.box 5 (.int .u8 c)).run Tryz.prog w=.ok (pT w.heap.size 0) (w.alloc (.cells #[.int .u8 c] 5)):=by
 simp[go_sem]
theorem QNs {P:Program} {a:Act} {o:Oper} {t:TypeId} {x:Operand} {V R:Value} {w w':World}(ho:o.op=.box t x)(hx:a.eval x=V)(h:(Instr.box t V).run P w=.ok R w'):(execOp a.eval o).run P w=.ok (.value R) w':=by
 unfold execOp
 simp only[ho,hx,Sem.run_bind,h,Result.andThen_ok,Sem.run_pure]
def XQ (g:Rg)(xs:List Int):Except Cy (Ms×List Int):=if g.halted=true then ((ZV (ms0 g)).bind fun b=>.done b.2).run xs else QCW (ms0 g) xs
def ZX (g:Rg)(c:Int)(xs:List Int):Except Cy (Ms×List Int):=XH xs c (ms0 g).noLate
def XJ:Except Cy (Ms×List Int)→Cy|.ok _=>JM|.error c=>c
def Xl:Except Cy (Ms×List Int)→Rg|.ok (s,_)=>s.r|.error _=>JY
def Qr:Except Cy (Ms×List Int)→Bool|.ok _=>true|.error _=>false
theorem Q8 (X:Except Cy (Ms×List Int)):QCY X=.tuple #[cyV (XJ X),JL (Xl X),.bool (Qr X)]:=by
 rcases X with c|⟨s,ys⟩<;>rfl
section
variable {w:World} {g:Rg} {A:Option Addr} {cap:Nat} {xs:List Int}
theorem at_new {w W:World}(hk:∀ b,b < w.heap.size→W.heap[b]? = w.heap[b]?)(hs:w.heap.size≤W.heap.size)(hg:RgB g)(hc:xs.length≤cap)(h8:Bytes8 xs)(hin:BytesIn w w.heap.size A xs)(ht:Tabs w w.heap.size) :
 AtN ((W.alloc (.cells ZK 150)).setCells W.heap.size 0 (mC (ms0 g) A xs.length cap).toList) W.heap.size w.heap.size (ms0 g) xs:=by
 rw[QBR W _ ZK (mC (ms0 g) A xs.length cap) rfl]
 have k:∀ b,b < w.heap.size→(W.alloc (.cells (mC (ms0 g) A xs.length cap) 150)).heap[b]? = w.heap[b]?:=fun b hb=>(Below.heap_alloc W _ b (by omega)).trans (hk b hb)
 exact⟨⟨A,cap,hc,Row.new W _ _,hin.keep k⟩,hs,h8,QKc hg,ht.keep k⟩
theorem stM {W:World}(g:Rg)(A:Option Addr)(n cap:Nat):(Instr.storeAt 150 (pT W.heap.size 0) (.agg (mC (ms0 g) A n cap))).run Tryz.prog (W.alloc (.cells ZK 150))=.ok () ((W.alloc (.cells ZK 150)).setCells W.heap.size 0 (mC (ms0 g) A n cap).toList) :=
 run_storeAt_mid _ _ 0 _ (mC (ms0 g) A n cap) (Row.new W _ ZK).there QU0 (by simp[mC,Value.oneCell'])
end
theorem QMT (g:Rg)(hg:RgB g)(A:Option Addr)(cap:Nat)(xs:List Int)(hc:xs.length≤cap)(h8:Bytes8 xs)(w:World)(hin:BytesIn w w.heap.size A xs)(ht:Tabs w w.heap.size) :
 Calls Tryz.prog 64 #[JL g,.slice A xs.length cap] w (fun e w'=>e=.returned (QCY (XQ g xs))∧Below w.heap.size w w'):=by
 go_enter Tryz.func64,Tryz.ntmps64
 refine wp_seq_k fun K1 hK1=>JD ?_
 refine QD 2 (pT w.heap.size 0) rfl (JI rfl) (QNs rfl (by kernel_rfl) (QSQ g w)) ?_
 have r0:=Row.new w 24 (JN g)
 have hb:=Below.alloc (Below.refl w.heap.size w) (Nat.le_refl _) (.cells (JN g) 24)
 obtain⟨L0,hL0⟩:∃ L,L=w.heap.size:=⟨_,rfl⟩
 rw[←hL0] at r0 ⊢
 have l0:=r0.lt
 generalize w.alloc (.cells (JN g) 24)=W0 at *
 have hsW0:=hb.size
 refine QD 4 (pT W0.heap.size 0) rfl (JI rfl) (Qo rfl (zo W0)) ?_
 have r0:=r0.alloc (.cells (cyC JM) 40)
 have r1:=Row.new W0 40 (cyC JM)
 have hb:=Below.alloc hb (by have:=hb.size;omega) (.cells (cyC JM) 40)
 obtain⟨L1,hL1⟩:∃ L,L=W0.heap.size:=⟨_,rfl⟩
 have q1:w.heap.size≤L1∧L0 < L1:=by rw[hL1];exact⟨hsW0,l0⟩
 rw[←hL1] at r1 ⊢
 generalize W0.alloc (.cells (cyC JM) 40)=W1 at *
 have l0:=r0.lt
 have l1:=r1.lt
 have hsW1:=hb.size
 refine QD 5 (pT W1.heap.size 0) rfl (JI rfl) (Qo rfl (QC0 W1)) ?_
 have r0:=r0.alloc (.cells (JN JY) 24)
 have r1:=r1.alloc (.cells (JN JY) 24)
 have r2:=Row.new W1 24 (JN JY)
 have hb:=Below.alloc hb (by have:=hb.size;omega) (.cells (JN JY) 24)
 obtain⟨L2,hL2⟩:∃ L,L=W1.heap.size:=⟨_,rfl⟩
 have q2:w.heap.size≤L2∧L0 < L2∧L1 < L2:=by rw[hL2];exact⟨hsW1,l0,l1⟩
 rw[←hL2] at r2 ⊢
 generalize W1.alloc (.cells (JN JY) 24)=W2 at *
 have l0:=r0.lt
 have l1:=r1.lt
 have l2:=r2.lt
 have hsW2:=hb.size
 refine oA 6 (.bool false) ?_
 refine Ja ?_
 try simp only[Act.put,sA,sB,sC]
 refine JU<|hK1 _ _<|wp_seq_k fun K2 hK2=>JD<|oL 8 (ldR r0.range)<|oM 9 (.slice A xs.length cap)<|oU 10 (mC (ms0 g) A xs.length cap) ?_
 refine QD 7 (pT W2.heap.size 0) rfl (JI rfl) (Qo rfl (QNn W2)) ?_
 have hat:=at_new (w:=w) (W:=W2) (fun b hlt=>hb.block b hlt) hb.size hg hc h8 hin ht
 refine XX rfl (JI rfl) (Qf (ad:=⟨W2.heap.size,0,none⟩) (V:=.agg (mC (ms0 g) A xs.length cap)) rfl (by kernel_rfl) (by kernel_rfl) (stM g A xs.length cap)) ?_
 have r0:=(r0.alloc (.cells ZK 150)).setFar (by omega) (mC (ms0 g) A xs.length cap).toList 0 (b:=W2.heap.size)
 have r1:=(r1.alloc (.cells ZK 150)).setFar (by omega) (mC (ms0 g) A xs.length cap).toList 0 (b:=W2.heap.size)
 have r2:=(r2.alloc (.cells ZK 150)).setFar (by omega) (mC (ms0 g) A xs.length cap).toList 0 (b:=W2.heap.size)
 have hb:=Below.setCellsAll (Below.alloc hb (by have:=hb.size;omega) (.cells ZK 150)) (b:=W2.heap.size) (by have:=hb.size;omega) (mC (ms0 g) A xs.length cap).toList 0
 obtain⟨p,hp⟩:∃ p,p=W2.heap.size:=⟨_,rfl⟩
 have qp:w.heap.size≤p∧L0 < p∧L1 < p∧L2 < p:=by rw[hp];exact⟨hsW2,l0,l1,l2⟩
 rw[←hp] at hat ⊢
 rw[←hp] at r0 r1 r2 hb
 generalize (W2.alloc (.cells ZK 150)).setCells p 0 (mC (ms0 g) A xs.length cap).toList=W at *
 refine Ja ?_
 try simp only[Act.put,sA,sB,sC]
 refine JU<|hK2 _ _<|wp_seq_k fun K3 hK3=>wp_seq_k fun K4 hK4=>JD<|oF 11 (fR17 L0)<|oL 12 (ldB (r0.cell 17)) ?_
 refine Ja ?_
 try simp only[Act.put,sA,sB,sC]
 refine JU<|hK4 _ _ ?_
 refine wp_cond_split (t:=g.halted) (by kernel_rfl) (fun hh=>?_) (fun hh=>?_)
 · skip
   have e:XQ g xs=((ZV (ms0 g)).bind fun b=>.done b.2).run xs:=by rw[XQ,if_pos hh]
   rw[e]
   refine wp_seq_k fun K5 hK5=>JD ?_
   refine JO 13 (.func (.func 95) #[] #[pT p 0]) rfl (JI rfl) (QG rfl (by kernel_rfl) (by kernel_rfl) _) ?_
   refine oC (QCY (((ZV (ms0 g)).bind fun b=>.done b.2).run xs)) (QOk 95 #[pT p 0] (fun _=>by kernel_rfl) hat (fun w' h' _=>QMR h')) ?_
   intro W' hbes
   have r0:=r0.besides hbes (by omega) (by omega)
   have r1:=r1.besides hbes (by omega) (by omega)
   have r2:=r2.besides hbes (by omega) (by omega)
   have hb:=hb.trans (hbes.below (by omega) (by omega) hb.size)
   rw[Q8]
   generalize hX:((ZV (ms0 g)).bind fun b=>.done b.2).run xs=X at *
   refine oX 15 #[cyV (XJ X),JL (Xl X),.bool (Qr X)] (cyV (XJ X))<|oX 16 #[cyV (XJ X),JL (Xl X),.bool (Qr X)] (JL (Xl X))<|oX 17 #[cyV (XJ X),JL (Xl X),.bool (Qr X)] (.bool (Qr X))<|oS ⟨L1,0,none⟩ (cyV (XJ X)) (QFg r1) ?_
   have r1':Row (W'.setCells L1 0 (cyC (XJ X)).toList) L1 40 (cyC (XJ X)):=r1.setAll rfl
   have r2':=r2.setFar (by omega:L2≠L1) (cyC (XJ X)).toList 0
   have hb:=Below.setCellsAll hb (b:=L1) (by omega) (cyC (XJ X)).toList 0
   refine oS ⟨L2,0,none⟩ (JL (Xl X)) (QH5 r2') ?_
   have r1':=r1'.setFar (by omega:L1≠L2) (JN (Xl X)).toList 0
   have r2':Row ((W'.setCells L1 0 (cyC (XJ X)).toList).setCells L2 0 (JN (Xl X)).toList) L2 24 (JN (Xl X)):=r2'.setAll rfl
   have hb:=Below.setCellsAll hb (b:=L2) (by omega) (JN (Xl X)).toList 0
   refine oA 6 (.bool (Qr X)) ?_
   refine Ja ?_
   try simp only[Act.put,sA,sB,sC]
   refine JU<|hK5 _ _ ?_
   refine wp_ret ?_
   refine QU1 ?_
   exact bodyPost_ret (XY rfl (by kernel_rfl) (by kernel_rfl) (by kernel_rfl) r1' r2') rfl ⟨by first|rfl|(rw[Q8];done)|(rw[e,Q8];done),hb⟩
 · skip
   have e:XQ g xs=QCW (ms0 g) xs:=by rw[XQ,if_neg (by rw[hh];decide)]
   rw[e]
   refine wp_skip ?_
   refine JU<|hK3 _ _ ?_
   rw[e]
   refine wp_seq_k fun K5 hK5=>JD ?_
   refine JO 18 (.func (.func 97) #[] #[pT p 0]) rfl (JI rfl) (QG rfl (by kernel_rfl) (by kernel_rfl) _) ?_
   refine oC (QCY (QCW (ms0 g) xs)) (QOk 97 #[pT p 0] (fun _=>by kernel_rfl) hat (fun w' h' _=>QQK h')) ?_
   intro W' hbes
   have r0:=r0.besides hbes (by omega) (by omega)
   have r1:=r1.besides hbes (by omega) (by omega)
   have r2:=r2.besides hbes (by omega) (by omega)
   have hb:=hb.trans (hbes.below (by omega) (by omega) hb.size)
   rw[Q8]
   generalize hX:QCW (ms0 g) xs=X at *
   refine oX 20 #[cyV (XJ X),JL (Xl X),.bool (Qr X)] (cyV (XJ X))<|oX 21 #[cyV (XJ X),JL (Xl X),.bool (Qr X)] (JL (Xl X))<|oX 22 #[cyV (XJ X),JL (Xl X),.bool (Qr X)] (.bool (Qr X))<|oS ⟨L1,0,none⟩ (cyV (XJ X)) (QFg r1) ?_
   have r1':Row (W'.setCells L1 0 (cyC (XJ X)).toList) L1 40 (cyC (XJ X)):=r1.setAll rfl
   have r2':=r2.setFar (by omega:L2≠L1) (cyC (XJ X)).toList 0
   have hb:=Below.setCellsAll hb (b:=L1) (by omega) (cyC (XJ X)).toList 0
   refine oS ⟨L2,0,none⟩ (JL (Xl X)) (QH5 r2') ?_
   have r1':=r1'.setFar (by omega:L1≠L2) (JN (Xl X)).toList 0
   have r2':Row ((W'.setCells L1 0 (cyC (XJ X)).toList).setCells L2 0 (JN (Xl X)).toList) L2 24 (JN (Xl X)):=r2'.setAll rfl
   have hb:=Below.setCellsAll hb (b:=L2) (by omega) (JN (Xl X)).toList 0
   refine oA 6 (.bool (Qr X)) ?_
   refine Ja ?_
   try simp only[Act.put,sA,sB,sC]
   refine JU<|hK5 _ _ ?_
   refine wp_ret ?_
   exact bodyPost_ret (XY rfl (by kernel_rfl) (by kernel_rfl) (by kernel_rfl) r1' r2') rfl ⟨by first|rfl|(rw[Q8];done)|(rw[e,Q8];done),hb⟩
theorem QIl (g:Rg)(hg:RgB g)(c:Int)(hcb:B8 c)(A:Option Addr)(cap:Nat)(xs:List Int)(hc:xs.length≤cap)(h8:Bytes8 xs)(w:World)(hin:BytesIn w w.heap.size A xs)(ht:Tabs w w.heap.size) :
 Calls Tryz.prog 130 #[JL g,.int .u8 c,.slice A xs.length cap] w (fun e w'=>e=.returned (QCY (ZX g c xs))∧Below w.heap.size w w'):=by
 go_enter Tryz.func130,Tryz.ntmps130
 refine wp_seq_k fun K1 hK1=>JD ?_
 refine QD 3 (pT w.heap.size 0) rfl (JI rfl) (QNs rfl (by kernel_rfl) (QSQ g w)) ?_
 have r0:=Row.new w 24 (JN g)
 have hb:=Below.alloc (Below.refl w.heap.size w) (Nat.le_refl _) (.cells (JN g) 24)
 obtain⟨L0,hL0⟩:∃ L,L=w.heap.size:=⟨_,rfl⟩
 rw[←hL0] at r0 ⊢
 have l0:=r0.lt
 generalize w.alloc (.cells (JN g) 24)=W0 at *
 have hsW0:=hb.size
 refine QD 4 (pT W0.heap.size 0) rfl (JI rfl) (QNs rfl (by kernel_rfl) (box8 c W0)) ?_
 have r0:=r0.alloc (.cells #[.int .u8 c] 5)
 have r1:=Row.new W0 5 #[.int .u8 c]
 have hb:=Below.alloc hb (by have:=hb.size;omega) (.cells #[.int .u8 c] 5)
 obtain⟨L1,hL1⟩:∃ L,L=W0.heap.size:=⟨_,rfl⟩
 have q1:w.heap.size≤L1∧L0 < L1:=by rw[hL1];exact⟨hsW0,l0⟩
 rw[←hL1] at r1 ⊢
 generalize W0.alloc (.cells #[.int .u8 c] 5)=W1 at *
 have l0:=r0.lt
 have l1:=r1.lt
 have hsW1:=hb.size
 refine QD 6 (pT W1.heap.size 0) rfl (JI rfl) (Qo rfl (zo W1)) ?_
 have r0:=r0.alloc (.cells (cyC JM) 40)
 have r1:=r1.alloc (.cells (cyC JM) 40)
 have r2:=Row.new W1 40 (cyC JM)
 have hb:=Below.alloc hb (by have:=hb.size;omega) (.cells (cyC JM) 40)
 obtain⟨L2,hL2⟩:∃ L,L=W1.heap.size:=⟨_,rfl⟩
 have q2:w.heap.size≤L2∧L0 < L2∧L1 < L2:=by rw[hL2];exact⟨hsW1,l0,l1⟩
 rw[←hL2] at r2 ⊢
 generalize W1.alloc (.cells (cyC JM) 40)=W2 at *
 have l0:=r0.lt
 have l1:=r1.lt
 have l2:=r2.lt
 have hsW2:=hb.size
 refine QD 7 (pT W2.heap.size 0) rfl (JI rfl) (Qo rfl (QC0 W2)) ?_
 have r0:=r0.alloc (.cells (JN JY) 24)
 have r1:=r1.alloc (.cells (JN JY) 24)
 have r2:=r2.alloc (.cells (JN JY) 24)
 have r3:=Row.new W2 24 (JN JY)
 have hb:=Below.alloc hb (by have:=hb.size;omega) (.cells (JN JY) 24)
 obtain⟨L3,hL3⟩:∃ L,L=W2.heap.size:=⟨_,rfl⟩
 have q3:w.heap.size≤L3∧L0 < L3∧L1 < L3∧L2 < L3:=by rw[hL3];exact⟨hsW2,l0,l1,l2⟩
 rw[←hL3] at r3 ⊢
 generalize W2.alloc (.cells (JN JY) 24)=W3 at *
 have l0:=r0.lt
 have l1:=r1.lt
 have l2:=r2.lt
 have l3:=r3.lt
 have hsW3:=hb.size
 refine oA 8 (.bool false) ?_
 refine Ja ?_
 try simp only[Act.put,sA,sB,sC]
 refine JU<|hK1 _ _<|wp_seq_k fun K2 hK2=>JD<|oL 10 (ldR r0.range)<|oM 11 (.slice A xs.length cap)<|oU 12 (mC (ms0 g) A xs.length cap) ?_
 refine QD 9 (pT W3.heap.size 0) rfl (JI rfl) (Qo rfl (QNn W3)) ?_
 have hat:=at_new (w:=w) (W:=W3) (fun b hlt=>hb.block b hlt) hb.size hg hc h8 hin ht
 refine XX rfl (JI rfl) (Qf (ad:=⟨W3.heap.size,0,none⟩) (V:=.agg (mC (ms0 g) A xs.length cap)) rfl (by kernel_rfl) (by kernel_rfl) (stM g A xs.length cap)) ?_
 have r0:=(r0.alloc (.cells ZK 150)).setFar (by omega) (mC (ms0 g) A xs.length cap).toList 0 (b:=W3.heap.size)
 have r1:=(r1.alloc (.cells ZK 150)).setFar (by omega) (mC (ms0 g) A xs.length cap).toList 0 (b:=W3.heap.size)
 have r2:=(r2.alloc (.cells ZK 150)).setFar (by omega) (mC (ms0 g) A xs.length cap).toList 0 (b:=W3.heap.size)
 have r3:=(r3.alloc (.cells ZK 150)).setFar (by omega) (mC (ms0 g) A xs.length cap).toList 0 (b:=W3.heap.size)
 have hb:=Below.setCellsAll (Below.alloc hb (by have:=hb.size;omega) (.cells ZK 150)) (b:=W3.heap.size) (by have:=hb.size;omega) (mC (ms0 g) A xs.length cap).toList 0
 obtain⟨p,hp⟩:∃ p,p=W3.heap.size:=⟨_,rfl⟩
 have qp:w.heap.size≤p∧L0 < p∧L1 < p∧L2 < p∧L3 < p:=by rw[hp];exact⟨hsW3,l0,l1,l2,l3⟩
 rw[←hp] at hat ⊢
 rw[←hp] at r0 r1 r2 r3 hb
 generalize (W3.alloc (.cells ZK 150)).setCells p 0 (mC (ms0 g) A xs.length cap).toList=W at *
 refine Ja ?_
 try simp only[Act.put,sA,sB,sC]
 refine JU<|hK2 _ _<|wp_seq_k fun K3 hK3=>JD ?_
 refine JO 13 (.func (.func 161) #[] #[pT p 0,pT L1 0]) rfl (JI rfl) (QG rfl (by kernel_rfl) (by kernel_rfl) _) ?_
 refine oC (QCY (ZX g c xs)) (QOk 161 #[pT p 0,pT L1 0] (fun _=>by kernel_rfl) hat (fun w' h' hbw=>QOn c hcb h' (r1.below hbw r1.lt))) ?_
 intro W' hbes
 have r0:=r0.besides hbes (by omega) (by omega)
 have r1:=r1.besides hbes (by omega) (by omega)
 have r2:=r2.besides hbes (by omega) (by omega)
 have r3:=r3.besides hbes (by omega) (by omega)
 have hb:=hb.trans (hbes.below (by omega) (by omega) hb.size)
 rw[Q8]
 generalize hX:ZX g c xs=X at *
 refine oX 15 #[cyV (XJ X),JL (Xl X),.bool (Qr X)] (cyV (XJ X))<|oX 16 #[cyV (XJ X),JL (Xl X),.bool (Qr X)] (JL (Xl X))<|oX 17 #[cyV (XJ X),JL (Xl X),.bool (Qr X)] (.bool (Qr X))<|oS ⟨L2,0,none⟩ (cyV (XJ X)) (QFg r2) ?_
 have r2':Row (W'.setCells L2 0 (cyC (XJ X)).toList) L2 40 (cyC (XJ X)):=r2.setAll rfl
 have r3':=r3.setFar (by omega:L3≠L2) (cyC (XJ X)).toList 0
 have hb:=Below.setCellsAll hb (b:=L2) (by omega) (cyC (XJ X)).toList 0
 refine oS ⟨L3,0,none⟩ (JL (Xl X)) (QH5 r3') ?_
 have r2':=r2'.setFar (by omega:L2≠L3) (JN (Xl X)).toList 0
 have r3':Row ((W'.setCells L2 0 (cyC (XJ X)).toList).setCells L3 0 (JN (Xl X)).toList) L3 24 (JN (Xl X)):=r3'.setAll rfl
 have hb:=Below.setCellsAll hb (b:=L3) (by omega) (JN (Xl X)).toList 0
 refine oA 8 (.bool (Qr X)) ?_
 refine Ja ?_
 try simp only[Act.put,sA,sB,sC]
 refine JU<|hK3 _ _ ?_
 refine wp_ret ?_
 exact bodyPost_ret (XY rfl (by kernel_rfl) (by kernel_rfl) (by kernel_rfl) r2' r3') rfl ⟨by first|rfl|(rw[Q8];done)|(rw[e,Q8];done),hb⟩
def g5:Rg:={ JY with pc:=5 }
def Tr.Depth {α:Type}:Tr α→Nat→Prop
 | .done _,_=>True
 | .ask _ _,0=>False
 | .ask _ k,d+1=>∀ b,(k b).Depth d
theorem Tr.depth_done {α:Type}(a:α)(d:Nat):(Tr.done a).Depth d:=by cases d<;>exact trivial
theorem Tr.Depth.mono {α:Type} {t:Tr α}:∀ {m n:Nat},t.Depth m→m≤n→t.Depth n:=by
 induction t with
 | done a=>intro m n _ _;exact Tr.depth_done _ _
 | ask c k ih =>
   intro m n h hmn
   cases m with
   | zero=>exact h.elim
   | succ m =>
     cases n with
     | zero=>omega
     | succ n=>exact fun b=>ih b (h b) (by omega)
theorem Tr.Depth.bind {α β:Type} {t:Tr α} {f:α→Tr β}:∀ {m n:Nat},t.Depth m→(∀ a,(f a).Depth n)→(t.bind f).Depth (m+n):=by
 induction t with
 | done a=>intro m n _ hf;exact (hf a).mono (by omega)
 | ask c k ih =>
   intro m n h hf
   cases m with
   | zero=>exact h.elim
   | succ m =>
     rw[show m+1+n=(m+n)+1 by omega]
     exact fun b=>ih b (h b) hf
def CyK (c:Cy):Prop:=1≤c.kind∧c.kind≤7∧c.kind≠6∧1≤c.t∧c.t≤7∧(c.kind≠3→c.kind≠5→c.data=0)
def Tr.Deaf {α:Type}:Tr α→Prop
 | .done _=>True
 | .ask c k=>CyK c∧(c.kind=3∨c.kind=5∨c.kind=7→∀ b b',k b=k b')∧∀ b,(k b).Deaf
theorem Tr.Deaf.bind {α β:Type} {t:Tr α} {f:α→Tr β}(h:t.Deaf)(hf:∀ a,(f a).Deaf):(t.bind f).Deaf:=by
 induction t with
 | done a=>exact hf a
 | ask c k ih=>exact⟨h.1,fun hk b b'=>by show (k b).bind f=(k b').bind f;rw[h.2.1 hk b b'],fun b=>ih b (h.2.2 b)⟩
theorem Tr.Deaf.run {α:Type} {t:Tr α}(h:t.Deaf):∀ {xs:List Int} {c:Cy},t.run xs=.error c→(c.kind=3∨c.kind=5∨c.kind=7)→∀ b b' zs,t.run (xs++b :: zs)=t.run (xs++b' :: zs):=by
 induction t with
 | done a=>intro xs c e;rw[Tr.run_done] at e;cases e
 | ask c k ih =>
   intro xs c' e hk b b' zs
   cases xs with
   | nil =>
     rw[Tr.run_nil] at e
     injection e with e;subst e
     show (k b).run zs=(k b').run zs
     rw[h.2.1 hk b b']
   | cons x xs=>exact ih x (h.2.2 x) e hk b b' zs
theorem Tr.Deaf.error {α:Type} {t:Tr α}(h:t.Deaf):∀ {xs:List Int} {c:Cy},t.run xs=.error c→CyK c:=by
 induction t with
 | done a=>intro xs c e;rw[Tr.run_done] at e;cases e
 | ask c k ih =>
   intro xs c' e
   cases xs with
   | nil =>
     rw[Tr.run_nil] at e
     injection e with e;subst e
     exact h.1
   | cons x xs=>exact ih x (h.2.2 x) e
theorem ZU (a:Int)(s:Ms):(Zd a s).Deaf:=⟨by simp[CyK],fun h=>absurd (show (2:Int)=3∨(2:Int)=5∨(2:Int)=7 from h) (by decide),fun _=>trivial⟩
theorem QKW (a:Int)(s:Ms):(inN a s).Deaf:=⟨by simp[CyK],fun h=>absurd (show (4:Int)=3∨(4:Int)=5∨(4:Int)=7 from h) (by decide),fun _=>trivial⟩
theorem QGo (s:Ms):(ZV s).Deaf:=⟨by simp[CyK],fun h=>absurd (show (1:Int)=3∨(1:Int)=5∨(1:Int)=7 from h) (by decide),fun _=>trivial⟩
theorem Q3 (a b:Int)(s:Ms):(Xb a b s).Deaf:=⟨by simp[CyK],fun _ _ _=>rfl,fun _=>trivial⟩
theorem QIa (a b:Int)(s:Ms):(QIv a b s).Deaf:=⟨by simp[CyK],fun _ _ _=>rfl,fun _=>trivial⟩
theorem XR (n:Int)(s:Ms)(h:1≤n∧n≤7:=by decide):(Js n s).Deaf:=⟨by simpa [CyK] using h,fun _ _ _=>rfl,fun _=>trivial⟩
theorem QDT (s:Ms):(ZC s).Deaf:=Tr.Deaf.bind (QGo s) fun _=>trivial
theorem X1 (s:Ms):(XZ s).Deaf:=Tr.Deaf.bind (ZU ..) fun _=>trivial
theorem QBg (s:Ms):(qG s).Deaf:=Tr.Deaf.bind (X1 _) fun _=>Tr.Deaf.bind (X1 _) fun _=>trivial
theorem zQ (a:Int)(s:Ms):(qo a s).Deaf:=Tr.Deaf.bind (ZU ..) fun _=>Tr.Deaf.bind (ZU ..) fun _=>trivial
theorem deaf_push (x:Int)(s:Ms):(QCQ x s).Deaf:=Tr.Deaf.bind (Q3 ..) fun _=>Q3 ..
theorem QHP (s:Ms):(QGb s).Deaf:=Tr.Deaf.bind (zQ ..) fun _=>trivial
theorem Qb {α:Type} {c:Prop} [Decidable c] {t u:Tr α}(h:t.Deaf)(k:u.Deaf):(if c then t else u).Deaf:=by split<;>assumption
theorem QA5 (k:Int)(s:Ms):(QBe k s).Deaf:=Qb (ZU ..) trivial
theorem QDx (k b:Int)(s:Ms):(QDb k b s).Deaf:=Qb (Q3 ..) trivial
theorem QIC (s:Ms):(QMt s).Deaf:=Tr.Deaf.bind (X1 _) fun _=>trivial
theorem QL0 (b:Bool)(s:Ms):(zC b s).Deaf:=Tr.Deaf.bind (X1 _) fun _=>Qb (Tr.Deaf.bind (XR ..) fun _=>trivial) trivial
theorem QLA (b:Bool)(s:Ms):(QEr b s).Deaf:=Tr.Deaf.bind (QBg _) fun _=>Qb (Tr.Deaf.bind (XR ..) fun _=>Tr.Deaf.bind (deaf_push ..) fun _=>trivial) trivial
theorem QHd (a:Int)(s:Ms):(QAH a s).Deaf:=Tr.Deaf.bind (Q3 ..) fun _=>trivial
theorem QJr (a:Int)(s:Ms):(QBj a s).Deaf:=Tr.Deaf.bind (ZU ..) fun _=>trivial
theorem za (a x:Int)(s:Ms):(ZQ a x s).Deaf:=Tr.Deaf.bind (Q3 ..) fun _=>Tr.Deaf.bind (Q3 ..) fun _=>trivial
theorem QAZ (a:Int)(s:Ms):(Zz a s).Deaf:=Tr.Deaf.bind (zQ ..) fun _=>trivial
theorem QFi (s:Ms):(QD6 s).Deaf:=by
 unfold QD6 zY QIA QA1 zf QA2 jE Xm j7 qu Zf QHW QAs QAy X6
 repeat' first
  | exact trivial
  | exact QL0 ..
  | exact QLA ..
  | exact QHd ..
  | exact QJr ..
  | exact za ..
  | exact QA5 ..
  | exact QDx ..
  | exact deaf_push ..
  | refine Tr.Deaf.bind (XR ..) fun _=>?_
  | refine Tr.Deaf.bind (QBg ..) fun _=>?_
  | refine Tr.Deaf.bind (zQ ..) fun _=>?_
  | refine Tr.Deaf.bind (QHP ..) fun _=>?_
  | refine Tr.Deaf.bind (X1 ..) fun _=>?_
  | refine Tr.Deaf.bind (QA5 ..) fun _=>?_
  | refine Tr.Deaf.bind (QAZ ..) fun _=>?_
  | refine Tr.Deaf.bind (QIa ..) fun _=>?_
  | refine Tr.Deaf.bind (QKW ..) fun _=>?_
  | refine Tr.Deaf.bind (deaf_push ..) fun _=>?_
  | refine Tr.Deaf.bind (Q3 ..) fun _=>?_
  | refine Tr.Deaf.bind (Qb (XR ..) trivial) fun _=>?_
  | refine Qb ?_ ?_
theorem QEk (s:Ms):(QDE s).Deaf:=by
 unfold QDE qO QAu QDi QBS zZ Zh ZF zP Zg Z6 jK Z2 jM QAw
 repeat' first
  | exact trivial
  | exact za ..
  | exact QDx ..
  | refine Tr.Deaf.bind (XR ..) fun _=>?_
  | refine Tr.Deaf.bind (QBg ..) fun _=>?_
  | refine Tr.Deaf.bind (QHP ..) fun _=>?_
  | refine Tr.Deaf.bind (QAZ ..) fun _=>?_
  | refine Tr.Deaf.bind (ZU ..) fun _=>?_
  | refine Tr.Deaf.bind (Q3 ..) fun _=>?_
  | refine Tr.Deaf.bind (QIa ..) fun _=>?_
  | refine Tr.Deaf.bind (QKW ..) fun _=>?_
  | refine Tr.Deaf.bind (Qb trivial (QA5 ..)) fun _=>?_
  | refine Qb ?_ ?_
  | refine Tr.Deaf.bind ?_ fun _=>?_
theorem QEP (s:Ms):(QC9 s).Deaf:=by
 unfold QC9 zM QBL ZA X2 zt
 repeat' first
  | exact trivial
  | exact QDx ..
  | exact QA5 ..
  | exact Q3 ..
  | refine Tr.Deaf.bind (XR ..) fun _=>?_
  | refine Tr.Deaf.bind (ZU ..) fun _=>?_
  | refine Qb ?_ ?_
  | refine Tr.Deaf.bind ?_ fun _=>?_
theorem QEq (c:Int)(s:Ms):(QHY c s).Deaf:=by
 unfold QHY
 refine Qb (Tr.Deaf.bind (Tr.Deaf.bind ?_ fun _=>trivial) fun _=>QEP _) (Qb (Tr.Deaf.bind (Tr.Deaf.bind (QDT _) fun _=>trivial) fun _=>QEk _) (Tr.Deaf.bind ?_ fun _=>QFi _))
 · unfold jX
   exact Qb (QDT _) (Tr.Deaf.bind (QIC _) fun _=>Tr.Deaf.bind (X1 _) fun _=>Tr.Deaf.bind (XR ..) fun _=>trivial)
 · unfold jw
   exact Qb (Tr.Deaf.bind (QIC _) fun _=>Qb (XR ..) trivial) trivial
def QCn (xs:List Int):Nat→Nat
 | 0=>0
 | k+1=>QCn xs k+lenOf (xs.drop (QCn xs k))
def Runs (xs:List Int)(k:Nat):Prop:=∀ j,j < k→okM (xs.drop (QCn xs j))=true
def Stops (xs:List Int)(k:Nat):Prop:=Runs xs k∧okM (xs.drop (QCn xs k))=false
theorem Runs.zero (xs:List Int):Runs xs 0:=fun j hj=>by omega
theorem Runs.succ {xs:List Int} {k:Nat}(h:Runs xs k)(o:okM (xs.drop (QCn xs k))=true):Runs xs (k+1):=fun j hj=>by
 by_cases e:j=k
 · subst e;exact o
 · exact h j (by omega)
theorem QTp {ys:List Int}(h:okM ys=true):lenOf ys≤ys.length:=by
 unfold okM at h
 exact of_decide_eq_true h
theorem Runs.pos {xs:List Int} {k:Nat}(h:Runs xs k):k≤QCn xs k∧QCn xs k≤xs.length:=by
 induction k with
 | zero=>exact⟨Nat.le_refl _,Nat.zero_le _⟩
 | succ k ih =>
   have h1:=ih (fun j hj=>h j (by omega))
   have h2:=QTp (h k (by omega))
   have h3:=QIL (xs.drop (QCn xs k))
   rw[List.length_drop] at h2
   show k+1≤QCn xs k+lenOf (xs.drop (QCn xs k))∧QCn xs k+lenOf (xs.drop (QCn xs k))≤xs.length
   omega
theorem Stops.same {xs:List Int} {j k:Nat}(h:Stops xs j)(h':Stops xs k):j=k:=by
 rcases Nat.lt_trichotomy j k with e|e|e
 · have:=h'.1 j e
   rw[h.2] at this
   cases this
 · exact e
 · have:=h.1 k e
   rw[h'.2] at this
   cases this
theorem Bytes8.drop {xs:List Int}(h:Bytes8 xs)(k:Nat):Bytes8 (xs.drop k):=fun x hx=>h x (List.mem_of_mem_drop hx)
theorem Bytes8.take {xs:List Int}(h:Bytes8 xs)(k:Nat):Bytes8 (xs.take k):=fun x hx=>h x (List.mem_of_mem_take hx)
theorem Bytes8.append {xs ys:List Int}(h:Bytes8 xs)(h':Bytes8 ys):Bytes8 (xs++ys):=fun x hx=>by
 rcases List.mem_append.1 hx with e|e
 · exact h x e
 · exact h' x e
def preS (c:Int)(s:Ms):Ms:=({ s.toPlane (if c=253 then 4 else 3) with r:=Zm s.r 1 }:Ms).pcUp
theorem QOq {c:Int}(h:c=221∨c=253)(s:Ms):XH [] c s=.error ⟨1,s.r.pc,0,4⟩:=by rw[XH,if_pos h]
theorem QL3 {c:Int}(h:c=221∨c=253)(s:Ms)(b:Int)(bs:List Int):XH (b :: bs) c s=XH bs b (preS c s):=by rw[XH,if_pos h];rfl
theorem QKD (a:Int):CyK ⟨1,a,0,4⟩:=by simp[CyK]
theorem QOg {e:Cy}:∀ {xs:List Int} {c:Int} {s:Ms},XH xs c s=.error e→CyK e:=by
 intro xs
 induction xs with
 | nil =>
   intro c s h
   by_cases hp:c=221∨c=253
   · rw[QOq hp] at h
     injection h with h;subst h
     exact QKD _
   · rw[QBt hp] at h;exact (QEq c s).error h
 | cons x xs ih =>
   intro c s h
   by_cases hp:c=221∨c=253
   · rw[QL3 hp] at h;exact ih h
   · rw[QBt hp] at h;exact (QEq c s).error h
def ms1 (g:Rg):Ms:=(({ ms0 g with r:=Zm g 1 }:Ms).pcUp).noLate
theorem QHy (g:Rg):XQ g []=.error ⟨1,g.pc,0,4⟩:=by unfold XQ;split<;>rfl
theorem QFW {g:Rg}(h:g.halted=true)(b:Int)(bs:List Int):XQ g (b :: bs)=.ok ({ ms0 g with r:=Zm g 1 },bs):=by unfold XQ;rw[if_pos h];exact Tr.run_done _ _
theorem QFG {g:Rg}(h:g.halted=false)(b:Int)(bs:List Int):XQ g (b :: bs)=XH bs b (ms1 g):=by unfold XQ;rw[if_neg (by rw[h];simp)];rfl
theorem QT4 {g:Rg} {e:Cy} {xs:List Int}(h:XQ g xs=.error e):CyK e:=by
 cases xs with
 | nil=>rw[QHy] at h;injection h with h;subst h;exact QKD _
 | cons x xs =>
   cases hh:g.halted with
   | true=>rw[QFW hh] at h;cases h
   | false=>rw[QFG hh] at h;exact QOg h
theorem QR2 {g:Rg} {c:Int} {e:Cy} {xs:List Int}(h:ZX g c xs=.error e):CyK e:=QOg h
structure T3 where
 c:Cy
 g:Rg
 b:Bool
def QLd (c:Cy):T3:=⟨c,JY,false⟩
def QNG (g:Rg):T3:=⟨JM,g,true⟩
def ofX (X:Except Cy (Ms×List Int)):T3:=⟨XJ X,Xl X,Qr X⟩
def XC (sp pc:Int):List Cy:=[⟨7,0,0,1⟩,⟨3,(sp-1)%65536,pc / 256,3⟩,⟨3,(sp-2)%65536,pc%256,3⟩]
def jl (at_:Int):List Cy:=[⟨2,at_,0,3⟩,⟨2,(at_+1)%65536,0,3⟩]
def Q1 (l:List Cy)(g:Rg)(n:Nat):T3:=if n < l.length then QLd (l.getD n JM) else QNG g
def QLY (g:Rg)(iff1 iff2:Bool):Rg:={ Zm g 1 with halted:=false,late:=false,iff1:=iff1,iff2:=iff2 }
def Zc (g:Rg)(aim:Int):Rg:={ g with sp:=(g.sp-2)%65536,pc:=aim,wz:=aim }
def zb (v:Int):Bool:=v==203||(v==221||(v==237||v==253))
def QHl (g:Rg)(v:Int)(xs:List Int):T3 :=
 if g.mode=0 then (if zb v=true then QNG (QLY g false false) else ofX (ZX (QLY g false false) v xs)) else
 if g.mode=1 then Q1 (XC g.sp g.pc) (Zc (QLY g false false) 56) xs.length else
 Q1 (XC g.sp g.pc++jl (256*g.i+v)) (Zc (QLY g false false) (256*xs.getD 4 0+xs.getD 3 0)) xs.length
def Jz (g:Rg)(which:Int)(xs:List Int):T3 :=
 if which=1 then (match xs with|[]=>QLd ⟨1,g.pc,0,4⟩|_ :: ys=>Q1 (XC g.sp g.pc) (Zc (QLY g false g.iff2) 102) ys.length) else
 if which=2 then (match xs with|[]=>QLd ⟨6,g.pc,0,6⟩|v :: ys=>QHl g v ys) else ofX (XQ g xs)
theorem RgB.beg {g:Rg}(h:RgB g)(i j:Bool):RgB (QLY g i j):=by
 have ht:=h.tick 1
 exact⟨ht.af,ht.bc,ht.de,ht.hl,ht.af2,ht.bc2,ht.de2,ht.hl2,ht.ix,ht.iy,ht.sp,ht.pc,ht.wz,ht.i,ht.r,ht.mode⟩
theorem QI0 (sp pc:Int):∀ c∈XC sp pc,1≤c.t∧c.t≤7:=by
 intro c h
 simp only[XC,List.mem_cons,List.not_mem_nil,or_false] at h
 rcases h with rfl|rfl|rfl<;>simp
theorem QP2 (a:Int):∀ c∈jl a,1≤c.t∧c.t≤7:=by
 intro c h
 simp only[jl,List.mem_cons,List.not_mem_nil,or_false] at h
 rcases h with rfl|rfl<;>simp
theorem QJe {l:List Cy}(h:∀ c∈l,1≤c.t∧c.t≤7)(g:Rg)(n:Nat)(hb:(Q1 l g n).b=false):1≤(Q1 l g n).c.t∧(Q1 l g n).c.t≤7:=by
 unfold Q1 at *
 split
 · rename_i hn
   have e:(QLd (l.getD n JM)).c=l[n]:=by rw[List.getD_eq_getElem?_getD,List.getElem?_eq_getElem hn];rfl
   rw[e]
   exact h _ (List.getElem_mem hn)
 · rename_i hn
   rw[if_neg hn] at hb
   cases hb
theorem QSn {X:Except Cy (Ms×List Int)}(h:∀ e,X=.error e→CyK e)(hb:(ofX X).b=false):1≤(ofX X).c.t∧(ofX X).c.t≤7:=by
 rcases X with e|⟨s,ys⟩
 · have:=h e rfl;exact⟨this.2.2.2.1,this.2.2.2.2.1⟩
 · cases hb
theorem QSU (g:Rg)(which:Int)(xs:List Int)(hb:(Jz g which xs).b=false):1≤(Jz g which xs).c.t∧(Jz g which xs).c.t≤7:=by
 unfold Jz at *
 split
 · rename_i h1
   rw[if_pos h1] at hb
   cases xs with
   | nil=>exact⟨by show (1:Int)≤4;omega,by show (4:Int)≤7;omega⟩
   | cons v ys=>exact QJe (QI0 _ _) _ _ hb
 · rename_i h1
   rw[if_neg h1] at hb
   split
   · rename_i h2
     rw[if_pos h2] at hb
     cases xs with
     | nil=>exact⟨by show (1:Int)≤6;omega,by show (6:Int)≤7;omega⟩
     | cons v ys =>
       simp only at hb ⊢
       unfold QHl at *
       split
       · rename_i h3
         rw[if_pos h3] at hb
         split
         · rename_i h4;rw[if_pos h4] at hb;cases hb
         · rename_i h4;rw[if_neg h4] at hb;exact QSn (fun e he=>QR2 he) hb
       · rename_i h3
         rw[if_neg h3] at hb
         split
         · rename_i h4;rw[if_pos h4] at hb;exact QJe (QI0 _ _) _ _ hb
         · rename_i h4;rw[if_neg h4] at hb
           exact QJe (fun c hc=>(List.mem_append.1 hc).elim (QI0 _ _ c) (QP2 _ c)) _ _ hb
   · rename_i h2
     rw[if_neg h2] at hb
     exact QSn (fun e he=>QT4 he) hb
end Go.Proofs.YtbhaojlikgdgjaaGreatDoor
