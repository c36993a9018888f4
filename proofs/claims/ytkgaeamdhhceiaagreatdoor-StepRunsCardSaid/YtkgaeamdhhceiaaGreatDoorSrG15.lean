/- Contracts and facts that the claim's proof wants (several texts in one). -/
import Derived.Defers
import Derived.Recover
import Derived.Test.YtkgaeamdhhceiaaGreatDoorSrG14
namespace Go.Proofs.YtkgaeamdhhceiaaGreatDoor
open Go.RowKit
set_option linter.unusedVariables false
set_option linter.unusedSimpArgs false
set_option maxRecDepth 20000
set_option maxHeartbeats 20000000
theorem QFv:(Tryz.prog.info? 54).map (·.size)=some 4:=by kernel_rfl
theorem ldCy {w:World} {b:Nat} {t:TypeId} {c:Cy}(h:Row w b t (cyC c)):(Instr.loadAt 54 (pT b 0)).run Tryz.prog w=.ok (cyV c) w :=
 run_loadAt_mid w b 0 54 (cyC c).toList _ h.range Tryz.underlying54 rfl QFv
theorem QCi {w:World} {b:Nat} {t:TypeId} {c d:Cy}(h:Row w b t (cyC d)):(Instr.storeAt 54 (pT b 0) (cyV c)).run Tryz.prog w=.ok () (w.setCells b 0 (cyC c).toList) :=
 run_storeAt_mid w b 0 54 (cyC c) h.there QFv (by simp[cyC,Value.oneCell'])
theorem qc (w:World):(Instr.alloc 54 true (.tuple #[])).run Tryz.prog w=.ok (pT w.heap.size 0) (w.alloc (.cells (cyC JM) 54)):=by
 simp[go_sem,JM]
section
variable {P:Program} {ops:Array Oper} {Q:Exit→Act→List Frame→World→Prop} {a:Act} {cs cs':List Frame} {w w':World} {i:Nat} {rest:List Nat} {o:Oper}
structure WS (P:Program)(ops:Array Oper)(Q:Exit→Act→List Frame→World→Prop)(l:List Nat)(a:Act)(cs:List Frame)(w:World):Prop where
 h:wpOpsS P ops Q l a cs w
theorem QMA {id:Nat}(l:List Nat)(hl:List.range ops.size=l)(h:WS P ops Q l a cs w):(Code.region id ops false).wpS P Q a cs w:=wpS_region (by rw[hl];exact h.h)
theorem endS (h:Q .normal a cs w):WS P ops Q [] a cs w:=⟨by unfold wpOpsS;exact h⟩
theorem QAz (V:Value)(ho:ops[i]?=some o)(hg:o.guard=none)(he:(execOp a.eval o).run P w=.ok (.value V) w')(h:WS P ops Q rest (a.put o.dst V) cs w'):WS P ops Q (i :: rest) a cs w:=by
 constructor
 unfold wpOpsS
 simp only[ho,JL hg,if_true,he,Oper.upon_value]
 exact h.h
theorem rDo (ho:ops[i]?=some o)(hg:o.guard=none)(he:(execOp a.eval o).run P w=.ok .skip w')(h:WS P ops Q rest (a.put o.dst undef) cs w'):WS P ops Q (i :: rest) a cs w:=by
 constructor
 unfold wpOpsS
 simp only[ho,JL hg,if_true,he,Oper.upon_skip]
 exact h.h
theorem QQy (V:Value)(ho:ops[i]?=some o)(hg:o.guard=none)(he:(execOp a.eval o).run P w=.ok .recover w)(hc:recoverD cs=some (V,cs'))(h:WS P ops Q rest (a.put o.dst V) cs' w):WS P ops Q (i :: rest) a cs w:=by
 constructor
 unfold wpOpsS
 simp only[ho,JL hg,if_true,he,hc]
 exact h.h
theorem QVs (ho:ops[i]?=some o)(hg:o.guard=none)(he:(execOp a.eval o).run P w=.ok .recover w)(hc:recoverD cs=none)(h:WS P ops Q rest (a.put o.dst .nilIface) cs w):WS P ops Q (i :: rest) a cs w:=by
 constructor
 unfold wpOpsS
 simp only[ho,JL hg,if_true,he,hc]
 exact h.h
theorem QJL {x:Operand} {V R:Value} {t u:TypeId} {ok:Bool}(ho:o.op=.typeAssert x t u ok)(hx:a.eval x=V)(hr:(Instr.typeAssert V t u ok).run P w=.ok R w):(execOp a.eval o).run P w=.ok (.value R) w:=by
 unfold execOp
 simp only[ho,hx,hr,Sem.run_bind,Sem.run_pure,Result.andThen_ok]
end
theorem QVH (v:Value)(w:World):(Instr.typeAssert (.iface 54 v) 20 54 true).run Tryz.prog w=.ok (.tuple #[v,.bool true]) w:=by kernel_rfl
theorem QWb (w:World):(Instr.typeAssert .nilIface 20 54 true).run Tryz.prog w=.ok (.tuple #[cyV JM,.bool false]) w:=by kernel_rfl
theorem QER (L:Nat)(c:Cy)(older:List PanicEntry)(w:World)(hL:Row w L 54 (cyC JM)) :
 CallsD Tryz.prog 113 #[pT L 0] (.panicking ({ v:=.iface 54 (cyV c),recovered:=false } :: older)) w fun e u' w' =>
  e=.returned (.tuple #[])∧u'=.panicking ({ v:=.iface 54 (cyV c),recovered:=true } :: older)∧Row w' L 54 (cyC c)∧Besides L L w w':=by
 refine callsD_of_wpS Tryz.func113 rfl fun c₀ cs hu=>?_
 simp only[Tryz.ntmps113,List.size_toArray,List.length_cons,List.length_nil,Nat.reduceAdd,Nat.reduceSub,Array.replicate_succ,Array.replicate_zero,List.push_toArray,List.append_toArray,List.nil_append,List.cons_append]
 apply wpS_seq
 refine QMA [0,1,2,3,4,5,6,7] (by simp only[List.size_toArray,List.length_cons,List.length_nil,Nat.reduceAdd];rfl) ?_
 refine QQy (.iface 54 (cyV c)) rfl rfl (by kernel_rfl) (show recoverD (c₀ :: cs)=some (_,{ c₀ with mode:=.panicking ({ v:=.iface 54 (cyV c),recovered:=true } :: older) } :: cs) by simp only[recoverD,hu]) ?_
 refine QAz (.tuple #[cyV c,.bool true]) rfl rfl (QJL rfl (by kernel_rfl) (QVH _ _)) ?_
 refine QAz (.tuple #[cyV c,.bool true]) rfl rfl (Xs (.inl rfl) (by kernel_rfl) _) ?_
 refine QAz (cyV c) rfl rfl (XY (vs:=#[cyV c,.bool true]) rfl (by kernel_rfl) (by kernel_rfl) _) ?_
 refine QAz (.bool true) rfl rfl (XY (vs:=#[cyV c,.bool true]) rfl (by kernel_rfl) (by kernel_rfl) _) ?_
 refine QAz (pT w.heap.size 0) rfl rfl (Qr rfl (qc w)) ?_
 have hL':Row (w.alloc (.cells (cyC JM) 54)) L 54 (cyC JM):=hL.alloc _
 have hlt:=hL.lt
 refine rDo rfl rfl (XC (ad:=⟨w.heap.size,0,none⟩) (V:=cyV c) rfl (by kernel_rfl) (by kernel_rfl) (QCi (Row.new w _ (cyC JM)))) ?_
 have hN:Row ((w.alloc (.cells (cyC JM) 54)).setCells w.heap.size 0 (cyC c).toList) w.heap.size 54 (cyC c):=(Row.new w _ (cyC JM)).setAll rfl
 have hL2:Row ((w.alloc (.cells (cyC JM) 54)).setCells w.heap.size 0 (cyC c).toList) L 54 (cyC JM):=hL'.setFar (by omega) _ _
 have hB:Besides L L w ((w.alloc (.cells (cyC JM) 54)).setCells w.heap.size 0 (cyC c).toList):=((Besides.refl L L w).alloc _).setCells (.inr (.inr (Nat.le_refl _))) _ _
 generalize (w.alloc (.cells (cyC JM) 54)).setCells w.heap.size 0 (cyC c).toList=W at *
 refine QAz (.bool true) rfl rfl (Xs (.inr rfl) (by kernel_rfl) _) ?_
 refine endS ?_
 simp only[Exit.thenS]
 refine wpS_of_wp ?_
 try simp only[Act.put,sA,sB,sC]
 refine wp_seq_k fun K1 hK1=>JC<|oM 8 (.bool true) ?_
 refine JT ?_
 refine JK<|hK1 _ _ ?_
 refine wp_cond_true (by kernel_rfl) ?_
 refine JC<|oL 9 (ldCy hN)<|oS ⟨L,0,none⟩ (cyV c) (QCi hL2) ?_
 refine JT ?_
 exact⟨rfl,_,rfl,_,results_none rfl _ _ _,rfl,rfl,hL2.setAll rfl,hB.setCells (.inl rfl) _ _⟩
theorem QLy (L:Nat)(w:World) :
 CallsD Tryz.prog 113 #[pT L 0] .returning w fun e u' w'=>e=.returned (.tuple #[])∧u'=.returning∧Below w.heap.size w w':=by
 refine callsD_of_wpS Tryz.func113 rfl fun c₀ cs hu=>?_
 simp only[Tryz.ntmps113,List.size_toArray,List.length_cons,List.length_nil,Nat.reduceAdd,Nat.reduceSub,Array.replicate_succ,Array.replicate_zero,List.push_toArray,List.append_toArray,List.nil_append,List.cons_append]
 apply wpS_seq
 refine QMA [0,1,2,3,4,5,6,7] (by simp only[List.size_toArray,List.length_cons,List.length_nil,Nat.reduceAdd];rfl) ?_
 refine QVs rfl rfl (by kernel_rfl) (show recoverD (c₀ :: cs)=none by simp only[recoverD,hu]) ?_
 refine QAz (.tuple #[cyV JM,.bool false]) rfl rfl (QJL rfl (by kernel_rfl) (QWb _)) ?_
 refine QAz (.tuple #[cyV JM,.bool false]) rfl rfl (Xs (.inl rfl) (by kernel_rfl) _) ?_
 refine QAz (cyV JM) rfl rfl (XY (vs:=#[cyV JM,.bool false]) rfl (by kernel_rfl) (by kernel_rfl) _) ?_
 refine QAz (.bool false) rfl rfl (XY (vs:=#[cyV JM,.bool false]) rfl (by kernel_rfl) (by kernel_rfl) _) ?_
 refine QAz (pT w.heap.size 0) rfl rfl (Qr rfl (qc w)) ?_
 refine rDo rfl rfl (XC (ad:=⟨w.heap.size,0,none⟩) (V:=cyV JM) rfl (by kernel_rfl) (by kernel_rfl) (QCi (Row.new w _ (cyC JM)))) ?_
 have hB:Below w.heap.size w ((w.alloc (.cells (cyC JM) 54)).setCells w.heap.size 0 (cyC JM).toList):=Below.setCellsAll (Below.alloc (Below.refl _ _) (Nat.le_refl _) _) (Nat.le_refl _) _ _
 refine QAz (.bool false) rfl rfl (Xs (.inr rfl) (by kernel_rfl) _) ?_
 refine endS ?_
 simp only[Exit.thenS]
 refine wpS_of_wp ?_
 try simp only[Act.put,sA,sB,sC]
 refine wp_seq_k fun K1 hK1=>JC<|oM 8 (.bool false) ?_
 refine JT ?_
 refine JK<|hK1 _ _ ?_
 refine wp_cond_false (by kernel_rfl) ?_
 refine wp_skip ?_
 exact⟨rfl,_,by rw[←hu],_,results_none rfl _ _ _,rfl,rfl,hB⟩
theorem QAt (w:World):(Instr.alloc 24 true (.tuple #[])).run Tryz.prog w=.ok (pT w.heap.size 0) (w.alloc (.cells (JH JV) 24)):=by
 simp[go_sem,JV,JH]
theorem QCC {w:World} {b:Nat} {t:TypeId} {g d:Rg}(h:Row w b t (JH d)):(Instr.storeAt 24 (pT b 0) (JG g)).run Tryz.prog w=.ok () (w.setCells b 0 (JH g).toList):=stR h.there
theorem Besides.more {p L:Nat} {w w' w'':World}(h:Besides p p w w')(k:Besides L L w' w'')(hL:w.heap.size≤L):Besides p p w w'' :=
 ⟨k.os.trans h.os,k.tape.trans h.tape,k.output.trans h.output,Nat.le_trans h.size k.size,fun b hb n1 n2=>(k.block b (Nat.lt_of_lt_of_le hb h.size) (by omega) (by omega)).trans (h.block b hb n1 n2)⟩
theorem Qp {fn:Func} {t1 t2 t3:Tmp} {u v:TypeId}(h:fn.results=#[.cell t1 54,.cell t2 24,.tmp t3]){tmps:Array Value} {w:World} {L M:Nat} {c:Cy} {g:Rg} {b:Bool}
 (h1:tmps.getD t1 undef=pT L 0)(h2:tmps.getD t2 undef=pT M 0)(h3:tmps.getD t3 undef=.bool b)(hL:Row w L u (cyC c))(hM:Row w M v (JH g)):(results fn tmps).run Tryz.prog w=.ok (.tuple #[cyV c,JG g,.bool b]) w:=by
 have h1':tmps[t1]?.getD undef=pT L 0:=by simpa using h1
 have h2':tmps[t2]?.getD undef=pT M 0:=by simpa using h2
 have h3':tmps[t3]?.getD undef=.bool b:=by simpa using h3
 have e1:=ZM (P:=Tryz.prog) hL Tryz.underlying54 rfl QFv
 have e2:=ZM (P:=Tryz.prog) hM Tryz.underlying24 rfl QK5
 simp[results,h,h1',h2',h3',asAddr,e1,e2]
def QCH:Except Cy (Ms×List Int)→Value
 | .ok (s,_)=>.tuple #[cyV JM,JG s.r,.bool true]
 | .error c=>.tuple #[cyV c,JG JV,.bool false]
theorem QUH {P:Program} {ops:Array Oper} {Q:Exit→Act→World→Prop} {a:Act} {w:World} {o:Oper} {rest:List Oper}(d:Deferred)(hd:o.dst=none)(hg:o.guard=none)(he:(execOp a.eval o).run P w=.ok (.defer d) w)
 (h:WL P ops Q rest { a with defers:=d :: a.defers } w):WL P ops Q (o :: rest) a w :=
 ⟨wpList_step fun K hK=>by
  rw[if_pos (JL hg)]
  unfold Oper.wp
  rw[he,Oper.upon_defer,hd]
  exact hK _ _ h.h⟩
theorem heFn {P:Program} {a:Act} {o:Oper} {x:Operand} {F:FuncId} {cap:Array Value} {w:World}(ho:o.op=.call { callee:=.value x,args:=#[],argTypes:=#[] })(hx:a.eval x=.func (.func F) #[] cap)(hen:(callFunc F cap).run P w=.ok (.enter F cap) w) :
 (execOp a.eval o).run P w=.ok (.enter F cap) w:=by
 unfold execOp
 simp[ho,resolve,hx,Deferred.ofValue,invoke,hen]
theorem QMo {P:Program} {ops:Array Oper} {Q:Exit→Act→World→Prop} {S:World→Prop} {n i f:Nat} {listed:Array Bool} {a:Act} {w w':World} {o:Oper}(hd:o.dst=none)(ho:ops[i]?=some o)(hr:Region.ready .any ops listed=[i])(hin:decide (i < n)=true)
 (hw:Region.wanted o (yielded ops a.tmps)=true)(he:(execOp a.eval o).run P w=.ok .skip w')(hS:S w')
 (hK:Zw P ops Q S n f (listed.setIfInBounds i true) a w'):Zw P ops Q S n (f+1) listed a w:=by
 intro inv
 have hr':i∈Region.ready .any ops listed:=by rw[hr];simp
 refine⟨by rw[hr];simp,fun j hj=>?_⟩
 rw[hr] at hj
 have hji:j=i:=by simpa using hj
 subst hji
 refine⟨of_decide_eq_true hin,?_⟩
 unfold wpOp
 simp only[ho,hw,if_true]
 refine .inl ?_
 unfold Oper.wp
 rw[he,Oper.upon_skip,hd]
 exact⟨hS,hK (inv.set hr' (of_decide_eq_true hin))⟩
theorem QOp (F:FuncId)(cap:Array Value)(hen:∀ w,(callFunc F cap).run Tryz.prog w=.ok (.enter F cap) w){X:Except Cy (Ms×List Int)} {s:Ms} {xs:List Int} {w:World} {p B:Nat}(h:AtN w p B s xs)
 (hF:∀ w',AtN w' p B s xs→Below w.heap.size w w'→Calls Tryz.prog F cap w' (OutV w' p B X)) :
 Calls Tryz.prog 74 #[pT p 0,.func (.func F) #[] cap] w (fun e w'=>e=.returned (QCH X)∧Besides p p w w'):=by
 go_enter_defers Tryz.func74,Tryz.ntmps74
 refine wp_seq_k fun K1 hK1=>JC ?_
 have hp:=h.lt
 refine J1 4 (pT w.heap.size 0) rfl (JL rfl) (Qr rfl (qc w)) ?_
 refine J1 5 (.pointer (some ⟨(w.alloc (.cells (cyC JM) 54)).heap.size,0,none⟩)) rfl (JL rfl) (Qr rfl (QAt _)) ?_
 have h1:=h.below (Below.alloc (Below.refl w.heap.size w) (Nat.le_refl _) (.cells (cyC JM) 54))
 have h2:=h1.below (Below.alloc (Below.refl _ _) (Nat.le_refl _) (.cells (JH JV) 24))
 have hb0:Besides p p w ((w.alloc (.cells (cyC JM) 54)).alloc (.cells (JH JV) 24)):=((Besides.refl p p w).alloc _).alloc _
 have hW:Below w.heap.size w ((w.alloc (.cells (cyC JM) 54)).alloc (.cells (JH JV) 24)):=Below.alloc (Below.alloc (Below.refl _ _) (Nat.le_refl _) _) (by simp) _
 have hL:=(Row.new w 54 (cyC JM)).alloc (.cells (JH JV) 24)
 have hM:=Row.new (w.alloc (.cells (cyC JM) 54)) 24 (JH JV)
 obtain⟨L,hLe⟩:∃ L,L=w.heap.size:=⟨_,rfl⟩
 obtain⟨M,hMe⟩:∃ M,M=(w.alloc (.cells (cyC JM) 54)).heap.size:=⟨_,rfl⟩
 have hML:M=L+1:=by rw[hMe,hLe];simp
 rw[←hMe] at hM ⊢
 rw[←hLe] at hL hW ⊢
 generalize (w.alloc (.cells (cyC JM) 54)).alloc (.cells (JH JV) 24)=W at *
 clear hMe h1
 refine oA 6 (.bool false) ?_
 refine JT ?_
 try simp only[Act.put,sA,sB,sC]
 refine JK<|hK1 _ _<|wp_seq_k fun K2 hK2=>JC ?_
 refine Ji 7 (.func (.func 113) #[] #[pT L 0]) rfl (JL rfl) (Qw rfl (by kernel_rfl) (by kernel_rfl) _) ?_
 refine QUH { target:=.fn (.func 113) #[pT L 0],args:=#[] } rfl rfl (by kernel_rfl) ?_
 refine JT ?_
 try simp only[Act.put,sA,sB,sC]
 refine JK<|hK2 _ _<|wp_seq_k fun K3 hK3=>JC<|oM 8 (.func (.func F) #[] cap) ?_
 have hn:=NowN.begin h2
 refine ZS hn rfl (heFn rfl (by kernel_rfl) (hen W)) (hF W h2 (by rw[←hLe];exact hW)) (fun c w' hX hb=>?_) ?_
 · have hb:=hb.bes
   refine j9 ?_
   subst hX
   refine leaves_cons (f:=113) (args:=#[pT L 0]) (by simp) (by simp[go_sem]) ?_
   have hL':=hL.besides hb (by omega) (by omega)
   have hM':=hM.besides hb (by omega) (by omega)
   refine (QER L c [] w' hL').mono ?_
   rintro e u' w'' ⟨rfl,rfl,hA,hB⟩
   refine⟨_,Qp rfl (by kernel_rfl) (by kernel_rfl) (by kernel_rfl) hA (hM'.besides hB (by omega) (by omega)),rfl,?_⟩
   exact (hb0.trans hb).more hB (by omega)
 intro s1 xs1 w1 hX hn
 subst hX
 have hL':=hL.besides hn.bes (by omega) (by omega)
 have hM':=hM.besides hn.bes (by omega) (by omega)
 refine JT ?_
 try simp only[Act.put,sA,sB,sC]
 refine JK<|hK3 _ _<|wp_seq_k fun K4 hK4=>?_
 refine Code.wp_mono (Q:=fun e a w=>match e with|.normal=>K4 a w|_=>False) (fun e a w h=>by cases e<;>first|exact h|exact h.elim) ?_
 refine zJ 6 (fun w'=>AtN w' p B s1 xs1) (by kernel_rfl) (by kernel_rfl) hn.at_.drew ?_
 intro w2 hw2 hS
 have hL2:Row w2 L 54 (cyC JM):=by subst hw2;exact hL'.drew
 have hM2:Row w2 M 24 (JH JV):=by subst hw2;exact hM'.drew
 refine yG 0 10 (cyV JM) rfl (fun w hS=>QIZ (cells:=cyC JM) rfl (by kernel_rfl) w) hS<|yM 1 11 (pT p 0) hS<|yN 2 12 p 0 hS<|yF 3 13 (fM0 p) hS<|yL 4 14 (JG s1.r) (fun w hS=>ldR hS.regs) hS ?_
 have hL3:Row (w2.setCells L 0 (cyC JM).toList) L 54 (cyC JM):=hL2.setAll rfl
 have hM3:=hM2.setFar (by omega:M≠L) (cyC JM).toList 0
 have hb3:Besides L L w2 (w2.setCells L 0 (cyC JM).toList):=(Besides.refl L L w2).setCells (.inl rfl) _ _
 have hb2:Besides p p W w2:=by subst hw2;exact hn.bes.drew
 refine QMo (i:=5) (by rfl) rfl (by kernel_rfl) (by kernel_rfl) (by kernel_rfl) (by exact XC (ad:=⟨L,0,none⟩) (V:=cyV JM) rfl (by kernel_rfl) (by kernel_rfl) (QCi hL2)) (hS.far (by omega) (by have:=hS.low;omega) _ _) ?_
 refine QDC (by kernel_rfl) ?_
 simp only[List.drop_succ_cons,List.drop_zero]
 try simp only[Act.put,sA,sB,sC]
 refine oS ⟨M,0,none⟩ (JG s1.r) (QCC hM3) ?_
 have hL4:=hL3.setFar (by omega:L≠M) (JH s1.r).toList 0
 have hM4:Row ((w2.setCells L 0 (cyC JM).toList).setCells M 0 (JH s1.r).toList) M 24 (JH s1.r):=hM3.setAll rfl
 have hb4:Besides M M (w2.setCells L 0 (cyC JM).toList) ((w2.setCells L 0 (cyC JM).toList).setCells M 0 (JH s1.r).toList):=(Besides.refl M M _).setCells (.inl rfl) _ _
 have hbes:Besides p p w ((w2.setCells L 0 (cyC JM).toList).setCells M 0 (JH s1.r).toList):=((hb0.trans hb2).more hb3 (by omega)).more hb4 (by omega)
 generalize (w2.setCells L 0 (cyC JM).toList).setCells M 0 (JH s1.r).toList=W5 at *
 refine oA 6 (.bool true) ?_
 refine JT ?_
 try simp only[Act.put,sA,sB,sC]
 refine hK4 _ _ ?_
 refine wp_ret ?_
 refine leaves_cons (f:=113) (args:=#[pT L 0]) (by simp) (by simp[go_sem]) ?_
 refine (QLy L _).mono ?_
 rintro e u' w'' ⟨rfl,rfl,hB⟩
 exact⟨_,Qp rfl (by kernel_rfl) (by kernel_rfl) (by kernel_rfl) (hL4.below hB hL4.lt) (hM4.below hB hM4.lt),rfl,hbes.trans (.of_below hB)⟩
theorem QM3 {s:Ms} {xs:List Int} {w:World} {p B:Nat}(h:AtN w p B s xs) :
 Calls Tryz.prog 75 #[pT p 0] w (OutV w p B (((JZ s).bind fun b=>.done b.2).run xs)):=by
 have hn:=NowN.begin h
 go_enter Tryz.func75,Tryz.ntmps75
 refine JC ?_
 refine QCP hn rfl (by kernel_rfl) (QJJ hn.at_) (fun c w' hX hb=>Q6 rfl (OutV.err (Tr.run_bind_error hX _) hb)) ?_
 intro v1 s1 xs1 w1 hX hk hn
 refine JT ?_
 refine ZT rfl rfl ?_
 exact OutV.ok ((Tr.run_bind_ok hX _).trans (Tr.run_done _ _)) hn
def QEH (s:Ms)(xs:List Int):Except Cy (Ms×List Int) :=
 match (Jg s).run xs with
 | .ok ((b,t),ys)=>XV ys b t.noLate
 | .error c=>.error c
theorem QSs {s:Ms} {xs:List Int} {w:World} {p B:Nat}(h:AtN w p B s xs) :
 Calls Tryz.prog 77 #[pT p 0] w (OutV w p B (QEH s xs)):=by
 have hn:=NowN.begin h
 go_enter Tryz.func77,Tryz.ntmps77
 refine JC ?_
 refine QCP hn rfl (by kernel_rfl) (QBs hn.at_) (fun c w' hX hb=>Q6 rfl (OutV.err (by rw[QEH,hX]) hb)) ?_
 intro v1 s1 xs1 w1 hX hk hn
 have e:QEH s xs=XV xs1 v1 s1.noLate:=by rw[QEH,hX]
 refine ZS hn rfl (by kernel_rfl) (zv v1 hk hn.at_) (fun c w' hX hb=>Q6 rfl (OutV.err (e.trans hX) hb)) ?_
 intro s2 xs2 w2 hX hn
 refine JT ?_
 refine ZT rfl rfl ?_
 exact OutV.ok (e.trans hX) hn
theorem QQK (c:Int)(hc:B8 c){L:Nat} {t:TypeId} {s:Ms} {xs:List Int} {w:World} {p B:Nat}(h:AtN w p B s xs)(hL:Row w L t #[.int .u8 c]) :
 Calls Tryz.prog 194 #[pT p 0,pT L 0] w (OutV w p B (XV xs c s.noLate)):=by
 have hn:=NowN.begin h
 go_enter Tryz.func194,Tryz.ntmps194
 refine JC<|oL 2 (ld8 (hL.cell 0)) ?_
 refine ZS hn rfl (by kernel_rfl) (zv c hc hn.at_) (fun c w' hX hb=>Q6 rfl (OutV.err hX hb)) ?_
 intro s2 xs2 w2 hX hn
 refine JT ?_
 refine ZT rfl rfl ?_
 exact OutV.ok hX hn
def ms0 (g:Rg):Ms:=⟨g,0,0,0,0,0,0,0,false⟩
theorem QA8 {g:Rg}(h:RgB g):MsB (ms0 g):=⟨h,.inl rfl,by simp[ms0],by simp[ms0],by simp[ms0],by simp[ms0],by simp[ms0],Wd16.zero⟩
def ja:Array Value:=mC (ms0 JV) none 0 0
theorem QWH:(Tryz.prog.info? 111).map (·.size)=some 29:=by kernel_rfl
theorem QPK (w:World):(Instr.alloc 111 true (.tuple #[])).run Tryz.prog w=.ok (pT w.heap.size 0) (w.alloc (.cells ja 111)):=by
 simp[go_sem,ja,JV,ms0]
theorem QMe (g:Rg)(w:World):(Instr.box 24 (JG g)).run Tryz.prog w=.ok (pT w.heap.size 0) (w.alloc (.cells (JH g) 24)):=by
 simp[go_sem]
theorem box8 (c:Int)(w:World):(Instr.box 5 (.int .u8 c)).run Tryz.prog w=.ok (pT w.heap.size 0) (w.alloc (.cells #[.int .u8 c] 5)):=by
 simp[go_sem]
theorem QEq {P:Program} {a:Act} {o:Oper} {t:TypeId} {x:Operand} {V R:Value} {w w':World}(ho:o.op=.box t x)(hx:a.eval x=V)(h:(Instr.box t V).run P w=.ok R w'):(execOp a.eval o).run P w=.ok (.value R) w':=by
 unfold execOp
 simp only[ho,hx,Sem.run_bind,h,Result.andThen_ok,Sem.run_pure]
def XG (g:Rg)(xs:List Int):Except Cy (Ms×List Int):=if g.halted=true then ((JZ (ms0 g)).bind fun b=>.done b.2).run xs else QEH (ms0 g) xs
def X4 (g:Rg)(c:Int)(xs:List Int):Except Cy (Ms×List Int):=XV xs c (ms0 g).noLate
def Zc:Except Cy (Ms×List Int)→Cy|.ok _=>JM|.error c=>c
def Z0:Except Cy (Ms×List Int)→Rg|.ok (s,_)=>s.r|.error _=>JV
def Xr:Except Cy (Ms×List Int)→Bool|.ok _=>true|.error _=>false
theorem Xh (X:Except Cy (Ms×List Int)):QCH X=.tuple #[cyV (Zc X),JG (Z0 X),.bool (Xr X)]:=by
 rcases X with c|⟨s,ys⟩<;>rfl
section
variable {w:World} {g:Rg} {A:Option Addr} {cap:Nat} {xs:List Int}
theorem at_new {w W:World}(hk:∀ b,b < w.heap.size→W.heap[b]?=w.heap[b]?)(hs:w.heap.size≤W.heap.size)(hg:RgB g)(hc:xs.length≤cap)(h8:Bytes8 xs)(hin:BytesIn w w.heap.size A xs)(ht:Tabs w w.heap.size) :
 AtN ((W.alloc (.cells ja 111)).setCells W.heap.size 0 (mC (ms0 g) A xs.length cap).toList) W.heap.size w.heap.size (ms0 g) xs:=by
 rw[QCe W _ ja (mC (ms0 g) A xs.length cap) rfl]
 have k:∀ b,b < w.heap.size→(W.alloc (.cells (mC (ms0 g) A xs.length cap) 111)).heap[b]?=w.heap[b]?:=fun b hb=>(Below.heap_alloc W _ b (by omega)).trans (hk b hb)
 exact⟨⟨A,cap,hc,Row.new W _ _,hin.keep k⟩,hs,h8,QA8 hg,ht.keep k⟩
theorem stM {W:World}(g:Rg)(A:Option Addr)(n cap:Nat):(Instr.storeAt 111 (pT W.heap.size 0) (.agg (mC (ms0 g) A n cap))).run Tryz.prog (W.alloc (.cells ja 111))=.ok () ((W.alloc (.cells ja 111)).setCells W.heap.size 0 (mC (ms0 g) A n cap).toList) :=
 run_storeAt_mid _ _ 0 _ (mC (ms0 g) A n cap) (Row.new W _ ja).there QWH (by simp[mC,Value.oneCell'])
end
theorem QMt (g:Rg)(hg:RgB g)(A:Option Addr)(cap:Nat)(xs:List Int)(hc:xs.length≤cap)(h8:Bytes8 xs)(w:World)(hin:BytesIn w w.heap.size A xs)(ht:Tabs w w.heap.size) :
 Calls Tryz.prog 55 #[JG g,.slice A xs.length cap] w (fun e w'=>e=.returned (QCH (XG g xs))∧Below w.heap.size w w'):=by
 go_enter Tryz.func55,Tryz.ntmps55
 refine wp_seq_k fun K1 hK1=>JC ?_
 refine J1 2 (pT w.heap.size 0) rfl (JL rfl) (QEq rfl (by kernel_rfl) (QMe g w)) ?_
 have r0:=Row.new w 24 (JH g)
 have hb:=Below.alloc (Below.refl w.heap.size w) (Nat.le_refl _) (.cells (JH g) 24)
 obtain⟨L0,hL0⟩:∃ L,L=w.heap.size:=⟨_,rfl⟩
 rw[←hL0] at r0 ⊢
 have l0:=r0.lt
 generalize w.alloc (.cells (JH g) 24)=W0 at *
 have hsW0:=hb.size
 refine J1 4 (pT W0.heap.size 0) rfl (JL rfl) (Qr rfl (qc W0)) ?_
 have r0:=r0.alloc (.cells (cyC JM) 54)
 have r1:=Row.new W0 54 (cyC JM)
 have hb:=Below.alloc hb (by have:=hb.size;omega) (.cells (cyC JM) 54)
 obtain⟨L1,hL1⟩:∃ L,L=W0.heap.size:=⟨_,rfl⟩
 have q1:w.heap.size≤L1∧L0 < L1:=by rw[hL1];exact⟨hsW0,l0⟩
 rw[←hL1] at r1 ⊢
 generalize W0.alloc (.cells (cyC JM) 54)=W1 at *
 have l0:=r0.lt
 have l1:=r1.lt
 have hsW1:=hb.size
 refine J1 5 (pT W1.heap.size 0) rfl (JL rfl) (Qr rfl (QAt W1)) ?_
 have r0:=r0.alloc (.cells (JH JV) 24)
 have r1:=r1.alloc (.cells (JH JV) 24)
 have r2:=Row.new W1 24 (JH JV)
 have hb:=Below.alloc hb (by have:=hb.size;omega) (.cells (JH JV) 24)
 obtain⟨L2,hL2⟩:∃ L,L=W1.heap.size:=⟨_,rfl⟩
 have q2:w.heap.size≤L2∧L0 < L2∧L1 < L2:=by rw[hL2];exact⟨hsW1,l0,l1⟩
 rw[←hL2] at r2 ⊢
 generalize W1.alloc (.cells (JH JV) 24)=W2 at *
 have l0:=r0.lt
 have l1:=r1.lt
 have l2:=r2.lt
 have hsW2:=hb.size
 refine oA 6 (.bool false) ?_
 refine JT ?_
 try simp only[Act.put,sA,sB,sC]
 refine JK<|hK1 _ _<|wp_seq_k fun K2 hK2=>JC<|oL 8 (ldR r0.range)<|oM 9 (.slice A xs.length cap)<|oU 10 (mC (ms0 g) A xs.length cap) ?_
 refine J1 7 (pT W2.heap.size 0) rfl (JL rfl) (Qr rfl (QPK W2)) ?_
 have hat:=at_new (w:=w) (W:=W2) (fun b hlt=>hb.block b hlt) hb.size hg hc h8 hin ht
 refine X5 rfl (JL rfl) (XC (ad:=⟨W2.heap.size,0,none⟩) (V:=.agg (mC (ms0 g) A xs.length cap)) rfl (by kernel_rfl) (by kernel_rfl) (stM g A xs.length cap)) ?_
 have r0:=(r0.alloc (.cells ja 111)).setFar (by omega) (mC (ms0 g) A xs.length cap).toList 0 (b:=W2.heap.size)
 have r1:=(r1.alloc (.cells ja 111)).setFar (by omega) (mC (ms0 g) A xs.length cap).toList 0 (b:=W2.heap.size)
 have r2:=(r2.alloc (.cells ja 111)).setFar (by omega) (mC (ms0 g) A xs.length cap).toList 0 (b:=W2.heap.size)
 have hb:=Below.setCellsAll (Below.alloc hb (by have:=hb.size;omega) (.cells ja 111)) (b:=W2.heap.size) (by have:=hb.size;omega) (mC (ms0 g) A xs.length cap).toList 0
 obtain⟨p,hp⟩:∃ p,p=W2.heap.size:=⟨_,rfl⟩
 have qp:w.heap.size≤p∧L0 < p∧L1 < p∧L2 < p:=by rw[hp];exact⟨hsW2,l0,l1,l2⟩
 rw[←hp] at hat ⊢
 rw[←hp] at r0 r1 r2 hb
 generalize (W2.alloc (.cells ja 111)).setCells p 0 (mC (ms0 g) A xs.length cap).toList=W at *
 refine JT ?_
 try simp only[Act.put,sA,sB,sC]
 refine JK<|hK2 _ _<|wp_seq_k fun K3 hK3=>wp_seq_k fun K4 hK4=>JC<|oF 11 (fR17 L0)<|oL 12 (ldB (r0.cell 17)) ?_
 refine JT ?_
 try simp only[Act.put,sA,sB,sC]
 refine JK<|hK4 _ _ ?_
 refine wp_cond_split (t:=g.halted) (by kernel_rfl) (fun hh=>?_) (fun hh=>?_)
 · skip
   have e:XG g xs=((JZ (ms0 g)).bind fun b=>.done b.2).run xs:=by rw[XG,if_pos hh]
   rw[e]
   refine wp_seq_k fun K5 hK5=>JC ?_
   refine Ji 13 (.func (.func 75) #[] #[pT p 0]) rfl (JL rfl) (Qw rfl (by kernel_rfl) (by kernel_rfl) _) ?_
   refine oC (QCH (((JZ (ms0 g)).bind fun b=>.done b.2).run xs)) (QOp 75 #[pT p 0] (fun _=>by kernel_rfl) hat (fun w' h' _=>QM3 h')) ?_
   intro W' hbes
   have r0:=r0.besides hbes (by omega) (by omega)
   have r1:=r1.besides hbes (by omega) (by omega)
   have r2:=r2.besides hbes (by omega) (by omega)
   have hb:=hb.trans (hbes.below (by omega) (by omega) hb.size)
   rw[Xh]
   generalize hX:((JZ (ms0 g)).bind fun b=>.done b.2).run xs=X at *
   refine oX 15 #[cyV (Zc X),JG (Z0 X),.bool (Xr X)] (cyV (Zc X))<|oX 16 #[cyV (Zc X),JG (Z0 X),.bool (Xr X)] (JG (Z0 X))<|oX 17 #[cyV (Zc X),JG (Z0 X),.bool (Xr X)] (.bool (Xr X))<|oS ⟨L1,0,none⟩ (cyV (Zc X)) (QCi r1) ?_
   have r1':Row (W'.setCells L1 0 (cyC (Zc X)).toList) L1 54 (cyC (Zc X)):=r1.setAll rfl
   have r2':=r2.setFar (by omega:L2≠L1) (cyC (Zc X)).toList 0
   have hb:=Below.setCellsAll hb (b:=L1) (by omega) (cyC (Zc X)).toList 0
   refine oS ⟨L2,0,none⟩ (JG (Z0 X)) (QCC r2') ?_
   have r1':=r1'.setFar (by omega:L1≠L2) (JH (Z0 X)).toList 0
   have r2':Row ((W'.setCells L1 0 (cyC (Zc X)).toList).setCells L2 0 (JH (Z0 X)).toList) L2 24 (JH (Z0 X)):=r2'.setAll rfl
   have hb:=Below.setCellsAll hb (b:=L2) (by omega) (JH (Z0 X)).toList 0
   refine oA 6 (.bool (Xr X)) ?_
   refine JT ?_
   try simp only[Act.put,sA,sB,sC]
   refine JK<|hK5 _ _ ?_
   refine wp_ret ?_
   refine QMl ?_
   exact bodyPost_ret (Qp rfl (by kernel_rfl) (by kernel_rfl) (by kernel_rfl) r1' r2') rfl ⟨by first|rfl|(rw[Xh];done)|(rw[e,Xh];done),hb⟩
 · skip
   have e:XG g xs=QEH (ms0 g) xs:=by rw[XG,if_neg (by rw[hh];decide)]
   rw[e]
   refine wp_skip ?_
   refine JK<|hK3 _ _ ?_
   rw[e]
   refine wp_seq_k fun K5 hK5=>JC ?_
   refine Ji 18 (.func (.func 77) #[] #[pT p 0]) rfl (JL rfl) (Qw rfl (by kernel_rfl) (by kernel_rfl) _) ?_
   refine oC (QCH (QEH (ms0 g) xs)) (QOp 77 #[pT p 0] (fun _=>by kernel_rfl) hat (fun w' h' _=>QSs h')) ?_
   intro W' hbes
   have r0:=r0.besides hbes (by omega) (by omega)
   have r1:=r1.besides hbes (by omega) (by omega)
   have r2:=r2.besides hbes (by omega) (by omega)
   have hb:=hb.trans (hbes.below (by omega) (by omega) hb.size)
   rw[Xh]
   generalize hX:QEH (ms0 g) xs=X at *
   refine oX 20 #[cyV (Zc X),JG (Z0 X),.bool (Xr X)] (cyV (Zc X))<|oX 21 #[cyV (Zc X),JG (Z0 X),.bool (Xr X)] (JG (Z0 X))<|oX 22 #[cyV (Zc X),JG (Z0 X),.bool (Xr X)] (.bool (Xr X))<|oS ⟨L1,0,none⟩ (cyV (Zc X)) (QCi r1) ?_
   have r1':Row (W'.setCells L1 0 (cyC (Zc X)).toList) L1 54 (cyC (Zc X)):=r1.setAll rfl
   have r2':=r2.setFar (by omega:L2≠L1) (cyC (Zc X)).toList 0
   have hb:=Below.setCellsAll hb (b:=L1) (by omega) (cyC (Zc X)).toList 0
   refine oS ⟨L2,0,none⟩ (JG (Z0 X)) (QCC r2') ?_
   have r1':=r1'.setFar (by omega:L1≠L2) (JH (Z0 X)).toList 0
   have r2':Row ((W'.setCells L1 0 (cyC (Zc X)).toList).setCells L2 0 (JH (Z0 X)).toList) L2 24 (JH (Z0 X)):=r2'.setAll rfl
   have hb:=Below.setCellsAll hb (b:=L2) (by omega) (JH (Z0 X)).toList 0
   refine oA 6 (.bool (Xr X)) ?_
   refine JT ?_
   try simp only[Act.put,sA,sB,sC]
   refine JK<|hK5 _ _ ?_
   refine wp_ret ?_
   exact bodyPost_ret (Qp rfl (by kernel_rfl) (by kernel_rfl) (by kernel_rfl) r1' r2') rfl ⟨by first|rfl|(rw[Xh];done)|(rw[e,Xh];done),hb⟩
theorem QK2 (g:Rg)(hg:RgB g)(c:Int)(hcb:B8 c)(A:Option Addr)(cap:Nat)(xs:List Int)(hc:xs.length≤cap)(h8:Bytes8 xs)(w:World)(hin:BytesIn w w.heap.size A xs)(ht:Tabs w w.heap.size) :
 Calls Tryz.prog 120 #[JG g,.int .u8 c,.slice A xs.length cap] w (fun e w'=>e=.returned (QCH (X4 g c xs))∧Below w.heap.size w w'):=by
 go_enter Tryz.func120,Tryz.ntmps120
 refine wp_seq_k fun K1 hK1=>JC ?_
 refine J1 3 (pT w.heap.size 0) rfl (JL rfl) (QEq rfl (by kernel_rfl) (QMe g w)) ?_
 have r0:=Row.new w 24 (JH g)
 have hb:=Below.alloc (Below.refl w.heap.size w) (Nat.le_refl _) (.cells (JH g) 24)
 obtain⟨L0,hL0⟩:∃ L,L=w.heap.size:=⟨_,rfl⟩
 rw[←hL0] at r0 ⊢
 have l0:=r0.lt
 generalize w.alloc (.cells (JH g) 24)=W0 at *
 have hsW0:=hb.size
 refine J1 4 (pT W0.heap.size 0) rfl (JL rfl) (QEq rfl (by kernel_rfl) (box8 c W0)) ?_
 have r0:=r0.alloc (.cells #[.int .u8 c] 5)
 have r1:=Row.new W0 5 #[.int .u8 c]
 have hb:=Below.alloc hb (by have:=hb.size;omega) (.cells #[.int .u8 c] 5)
 obtain⟨L1,hL1⟩:∃ L,L=W0.heap.size:=⟨_,rfl⟩
 have q1:w.heap.size≤L1∧L0 < L1:=by rw[hL1];exact⟨hsW0,l0⟩
 rw[←hL1] at r1 ⊢
 generalize W0.alloc (.cells #[.int .u8 c] 5)=W1 at *
 have l0:=r0.lt
 have l1:=r1.lt
 have hsW1:=hb.size
 refine J1 6 (pT W1.heap.size 0) rfl (JL rfl) (Qr rfl (qc W1)) ?_
 have r0:=r0.alloc (.cells (cyC JM) 54)
 have r1:=r1.alloc (.cells (cyC JM) 54)
 have r2:=Row.new W1 54 (cyC JM)
 have hb:=Below.alloc hb (by have:=hb.size;omega) (.cells (cyC JM) 54)
 obtain⟨L2,hL2⟩:∃ L,L=W1.heap.size:=⟨_,rfl⟩
 have q2:w.heap.size≤L2∧L0 < L2∧L1 < L2:=by rw[hL2];exact⟨hsW1,l0,l1⟩
 rw[←hL2] at r2 ⊢
 generalize W1.alloc (.cells (cyC JM) 54)=W2 at *
 have l0:=r0.lt
 have l1:=r1.lt
 have l2:=r2.lt
 have hsW2:=hb.size
 refine J1 7 (pT W2.heap.size 0) rfl (JL rfl) (Qr rfl (QAt W2)) ?_
 have r0:=r0.alloc (.cells (JH JV) 24)
 have r1:=r1.alloc (.cells (JH JV) 24)
 have r2:=r2.alloc (.cells (JH JV) 24)
 have r3:=Row.new W2 24 (JH JV)
 have hb:=Below.alloc hb (by have:=hb.size;omega) (.cells (JH JV) 24)
 obtain⟨L3,hL3⟩:∃ L,L=W2.heap.size:=⟨_,rfl⟩
 have q3:w.heap.size≤L3∧L0 < L3∧L1 < L3∧L2 < L3:=by rw[hL3];exact⟨hsW2,l0,l1,l2⟩
 rw[←hL3] at r3 ⊢
 generalize W2.alloc (.cells (JH JV) 24)=W3 at *
 have l0:=r0.lt
 have l1:=r1.lt
 have l2:=r2.lt
 have l3:=r3.lt
 have hsW3:=hb.size
 refine oA 8 (.bool false) ?_
 refine JT ?_
 try simp only[Act.put,sA,sB,sC]
 refine JK<|hK1 _ _<|wp_seq_k fun K2 hK2=>JC<|oL 10 (ldR r0.range)<|oM 11 (.slice A xs.length cap)<|oU 12 (mC (ms0 g) A xs.length cap) ?_
 refine J1 9 (pT W3.heap.size 0) rfl (JL rfl) (Qr rfl (QPK W3)) ?_
 have hat:=at_new (w:=w) (W:=W3) (fun b hlt=>hb.block b hlt) hb.size hg hc h8 hin ht
 refine X5 rfl (JL rfl) (XC (ad:=⟨W3.heap.size,0,none⟩) (V:=.agg (mC (ms0 g) A xs.length cap)) rfl (by kernel_rfl) (by kernel_rfl) (stM g A xs.length cap)) ?_
 have r0:=(r0.alloc (.cells ja 111)).setFar (by omega) (mC (ms0 g) A xs.length cap).toList 0 (b:=W3.heap.size)
 have r1:=(r1.alloc (.cells ja 111)).setFar (by omega) (mC (ms0 g) A xs.length cap).toList 0 (b:=W3.heap.size)
 have r2:=(r2.alloc (.cells ja 111)).setFar (by omega) (mC (ms0 g) A xs.length cap).toList 0 (b:=W3.heap.size)
 have r3:=(r3.alloc (.cells ja 111)).setFar (by omega) (mC (ms0 g) A xs.length cap).toList 0 (b:=W3.heap.size)
 have hb:=Below.setCellsAll (Below.alloc hb (by have:=hb.size;omega) (.cells ja 111)) (b:=W3.heap.size) (by have:=hb.size;omega) (mC (ms0 g) A xs.length cap).toList 0
 obtain⟨p,hp⟩:∃ p,p=W3.heap.size:=⟨_,rfl⟩
 have qp:w.heap.size≤p∧L0 < p∧L1 < p∧L2 < p∧L3 < p:=by rw[hp];exact⟨hsW3,l0,l1,l2,l3⟩
 rw[←hp] at hat ⊢
 rw[←hp] at r0 r1 r2 r3 hb
 generalize (W3.alloc (.cells ja 111)).setCells p 0 (mC (ms0 g) A xs.length cap).toList=W at *
 refine JT ?_
 try simp only[Act.put,sA,sB,sC]
 refine JK<|hK2 _ _<|wp_seq_k fun K3 hK3=>JC ?_
 refine Ji 13 (.func (.func 194) #[] #[pT p 0,pT L1 0]) rfl (JL rfl) (Qw rfl (by kernel_rfl) (by kernel_rfl) _) ?_
 refine oC (QCH (X4 g c xs)) (QOp 194 #[pT p 0,pT L1 0] (fun _=>by kernel_rfl) hat (fun w' h' hbw=>QQK c hcb h' (r1.below hbw r1.lt))) ?_
 intro W' hbes
 have r0:=r0.besides hbes (by omega) (by omega)
 have r1:=r1.besides hbes (by omega) (by omega)
 have r2:=r2.besides hbes (by omega) (by omega)
 have r3:=r3.besides hbes (by omega) (by omega)
 have hb:=hb.trans (hbes.below (by omega) (by omega) hb.size)
 rw[Xh]
 generalize hX:X4 g c xs=X at *
 refine oX 15 #[cyV (Zc X),JG (Z0 X),.bool (Xr X)] (cyV (Zc X))<|oX 16 #[cyV (Zc X),JG (Z0 X),.bool (Xr X)] (JG (Z0 X))<|oX 17 #[cyV (Zc X),JG (Z0 X),.bool (Xr X)] (.bool (Xr X))<|oS ⟨L2,0,none⟩ (cyV (Zc X)) (QCi r2) ?_
 have r2':Row (W'.setCells L2 0 (cyC (Zc X)).toList) L2 54 (cyC (Zc X)):=r2.setAll rfl
 have r3':=r3.setFar (by omega:L3≠L2) (cyC (Zc X)).toList 0
 have hb:=Below.setCellsAll hb (b:=L2) (by omega) (cyC (Zc X)).toList 0
 refine oS ⟨L3,0,none⟩ (JG (Z0 X)) (QCC r3') ?_
 have r2':=r2'.setFar (by omega:L2≠L3) (JH (Z0 X)).toList 0
 have r3':Row ((W'.setCells L2 0 (cyC (Zc X)).toList).setCells L3 0 (JH (Z0 X)).toList) L3 24 (JH (Z0 X)):=r3'.setAll rfl
 have hb:=Below.setCellsAll hb (b:=L3) (by omega) (JH (Z0 X)).toList 0
 refine oA 8 (.bool (Xr X)) ?_
 refine JT ?_
 try simp only[Act.put,sA,sB,sC]
 refine JK<|hK3 _ _ ?_
 refine wp_ret ?_
 exact bodyPost_ret (Qp rfl (by kernel_rfl) (by kernel_rfl) (by kernel_rfl) r2' r3') rfl ⟨by first|rfl|(rw[Xh];done)|(rw[e,Xh];done),hb⟩
def g5:Rg:={ JV with pc:=5 }
def Tr.Depth {α:Type}:Tr α→Nat→Prop
 | .done _,_=>True
 | .ask _ _,0=>False
 | .ask _ k,d+1=>∀ b,(k b).Depth d
theorem Tr.depth_done {α:Type}(a:α)(d:Nat):(Tr.done a).Depth d:=by cases d<;>exact trivial
theorem Tr.depth_ask {α:Type} {c:Cy} {k:Int→Tr α} {d:Nat}(h:∀ b,(k b).Depth d):(Tr.ask c k).Depth (d+1):=h
theorem Tr.Depth.mono {α:Type} {t:Tr α}:∀ {m n:Nat},t.Depth m→m≤n→t.Depth n:=by
 induction t with
 | done a=>intro m n _ _;exact Tr.depth_done _ _
 | ask c k ih =>
   intro m n h hmn
   cases m with
   | zero=>exact h.elim
   | succ m =>
     cases n with
     | zero=>omega
     | succ n=>exact fun b=>ih b (h b) (by omega)
theorem Tr.Depth.bind {α β:Type} {t:Tr α} {f:α→Tr β}:∀ {m n:Nat},t.Depth m→(∀ a,(f a).Depth n)→(t.bind f).Depth (m+n):=by
 induction t with
 | done a=>intro m n _ hf;exact (hf a).mono (by omega)
 | ask c k ih =>
   intro m n h hf
   cases m with
   | zero=>exact h.elim
   | succ m =>
     rw[show m+1+n=(m+n)+1 by omega]
     exact fun b=>ih b (h b) hf
def CyK (c:Cy):Prop:=1≤c.kind∧c.kind≤7∧c.kind≠6∧1≤c.t∧c.t≤7∧(c.kind≠3→c.kind≠5→c.data=0)
def Tr.Deaf {α:Type}:Tr α→Prop
 | .done _=>True
 | .ask c k=>CyK c∧(c.kind=3∨c.kind=5∨c.kind=7→∀ b b',k b=k b')∧∀ b,(k b).Deaf
theorem Tr.Deaf.bind {α β:Type} {t:Tr α} {f:α→Tr β}(h:t.Deaf)(hf:∀ a,(f a).Deaf):(t.bind f).Deaf:=by
 induction t with
 | done a=>exact hf a
 | ask c k ih=>exact⟨h.1,fun hk b b'=>by show (k b).bind f=(k b').bind f;rw[h.2.1 hk b b'],fun b=>ih b (h.2.2 b)⟩
theorem Tr.Deaf.run {α:Type} {t:Tr α}(h:t.Deaf):∀ {xs:List Int} {c:Cy},t.run xs=.error c→(c.kind=3∨c.kind=5∨c.kind=7)→∀ b b' zs,t.run (xs++b :: zs)=t.run (xs++b' :: zs):=by
 induction t with
 | done a=>intro xs c e;rw[Tr.run_done] at e;cases e
 | ask c k ih =>
   intro xs c' e hk b b' zs
   cases xs with
   | nil =>
     rw[Tr.run_nil] at e
     injection e with e;subst e
     show (k b).run zs=(k b').run zs
     rw[h.2.1 hk b b']
   | cons x xs=>exact ih x (h.2.2 x) e hk b b' zs
theorem Tr.Deaf.error {α:Type} {t:Tr α}(h:t.Deaf):∀ {xs:List Int} {c:Cy},t.run xs=.error c→CyK c:=by
 induction t with
 | done a=>intro xs c e;rw[Tr.run_done] at e;cases e
 | ask c k ih =>
   intro xs c' e
   cases xs with
   | nil =>
     rw[Tr.run_nil] at e
     injection e with e;subst e
     exact h.1
   | cons x xs=>exact ih x (h.2.2 x) e
theorem Tr.run_ends {α:Type} {t:Tr α}:∀ {d:Nat} {xs:List Int},t.Depth d→d≤xs.length→∃ a ys,t.run xs=.ok (a,ys):=by
 induction t with
 | done a=>intro d xs _ _;exact⟨a,xs,Tr.run_done _ _⟩
 | ask c k ih =>
   intro d xs h hd
   cases d with
   | zero=>exact h.elim
   | succ d =>
     cases xs with
     | nil=>simp at hd
     | cons x xs=>exact ih x (h x) (by simpa using hd)
theorem jv (a:Int)(s:Ms):(Ju a s).Deaf:=⟨by simp[CyK],fun h=>absurd (show (2:Int)=3∨(2:Int)=5∨(2:Int)=7 from h) (by decide),fun _=>trivial⟩
theorem QMp (a:Int)(s:Ms):(inN a s).Deaf:=⟨by simp[CyK],fun h=>absurd (show (4:Int)=3∨(4:Int)=5∨(4:Int)=7 from h) (by decide),fun _=>trivial⟩
theorem QKT (s:Ms):(JZ s).Deaf:=⟨by simp[CyK],fun h=>absurd (show (1:Int)=3∨(1:Int)=5∨(1:Int)=7 from h) (by decide),fun _=>trivial⟩
theorem X2 (a b:Int)(s:Ms):(Jf a b s).Deaf:=⟨by simp[CyK],fun _ _ _=>rfl,fun _=>trivial⟩
theorem QJO (a b:Int)(s:Ms):(Qc a b s).Deaf:=⟨by simp[CyK],fun _ _ _=>rfl,fun _=>trivial⟩
theorem ZW (n:Int)(s:Ms)(h:1≤n∧n≤7:=by decide):(JU n s).Deaf:=⟨by simpa [CyK] using h,fun _ _ _=>rfl,fun _=>trivial⟩
theorem QE3 (s:Ms):(Jg s).Deaf:=Tr.Deaf.bind (QKT s) fun _=>trivial
theorem jG (s:Ms):(JY s).Deaf:=Tr.Deaf.bind (jv ..) fun _=>trivial
theorem QDp (s:Ms):(Jw s).Deaf:=Tr.Deaf.bind (jG _) fun _=>Tr.Deaf.bind (jG _) fun _=>trivial
theorem QBA (a:Int)(s:Ms):(Jb a s).Deaf:=Tr.Deaf.bind (jv ..) fun _=>Tr.Deaf.bind (jv ..) fun _=>trivial
theorem deaf_push (x:Int)(s:Ms):(J0 x s).Deaf:=Tr.Deaf.bind (X2 ..) fun _=>X2 ..
theorem QJN (s:Ms):(QW s).Deaf:=Tr.Deaf.bind (QBA ..) fun _=>trivial
theorem Xf {α:Type} {c:Prop} [Decidable c] {t u:Tr α}(h:t.Deaf)(k:u.Deaf):(if c then t else u).Deaf:=by split<;>assumption
theorem QCm (k:Int)(s:Ms):(Zk k s).Deaf:=Xf (jv ..) trivial
theorem QE5 (k b:Int)(s:Ms):(Zu k b s).Deaf:=Xf (X2 ..) trivial
theorem QJk (s:Ms):(QFG s).Deaf:=Tr.Deaf.bind (jG _) fun _=>trivial
theorem QOC (b:Bool)(s:Ms):(qi b s).Deaf:=Tr.Deaf.bind (jG _) fun _=>Xf (Tr.Deaf.bind (ZW ..) fun _=>trivial) trivial
theorem QMu (b:Bool)(s:Ms):(QCo b s).Deaf:=Tr.Deaf.bind (QDp _) fun _=>Xf (Tr.Deaf.bind (ZW ..) fun _=>Tr.Deaf.bind (deaf_push ..) fun _=>trivial) trivial
theorem QJ6 (a:Int)(s:Ms):(ql a s).Deaf:=Tr.Deaf.bind (X2 ..) fun _=>trivial
theorem QLM (a:Int)(s:Ms):(QBE a s).Deaf:=Tr.Deaf.bind (jv ..) fun _=>trivial
theorem QBN (a x:Int)(s:Ms):(Xm a x s).Deaf:=Tr.Deaf.bind (X2 ..) fun _=>Tr.Deaf.bind (X2 ..) fun _=>trivial
theorem QCK (a:Int)(s:Ms):(ZC a s).Deaf:=Tr.Deaf.bind (QBA ..) fun _=>trivial
theorem QIi (s:Ms):(Xg s).Deaf:=by
 unfold Xg Zr QAC jN jz QAk Z4 Xl jm Zo XO QFq qY QAc X0
 repeat' first
  | exact trivial
  | exact QOC ..
  | exact QMu ..
  | exact QJ6 ..
  | exact QLM ..
  | exact QBN ..
  | exact QCm ..
  | exact QE5 ..
  | exact deaf_push ..
  | refine Tr.Deaf.bind (ZW ..) fun _=>?_
  | refine Tr.Deaf.bind (QDp ..) fun _=>?_
  | refine Tr.Deaf.bind (QBA ..) fun _=>?_
  | refine Tr.Deaf.bind (QJN ..) fun _=>?_
  | refine Tr.Deaf.bind (jG ..) fun _=>?_
  | refine Tr.Deaf.bind (QCm ..) fun _=>?_
  | refine Tr.Deaf.bind (QCK ..) fun _=>?_
  | refine Tr.Deaf.bind (QJO ..) fun _=>?_
  | refine Tr.Deaf.bind (QMp ..) fun _=>?_
  | refine Tr.Deaf.bind (deaf_push ..) fun _=>?_
  | refine Tr.Deaf.bind (X2 ..) fun _=>?_
  | refine Tr.Deaf.bind (Xf (ZW ..) trivial) fun _=>?_
  | refine Xf ?_ ?_
theorem QGY (s:Ms):(qv s).Deaf:=by
 unfold qv jg zZ QAK zn j8 ZX Xz zS ZR Z5 Z8 Z7 Z6 jy
 repeat' first
  | exact trivial
  | exact QBN ..
  | exact QE5 ..
  | refine Tr.Deaf.bind (ZW ..) fun _=>?_
  | refine Tr.Deaf.bind (QDp ..) fun _=>?_
  | refine Tr.Deaf.bind (QJN ..) fun _=>?_
  | refine Tr.Deaf.bind (QCK ..) fun _=>?_
  | refine Tr.Deaf.bind (jv ..) fun _=>?_
  | refine Tr.Deaf.bind (X2 ..) fun _=>?_
  | refine Tr.Deaf.bind (QJO ..) fun _=>?_
  | refine Tr.Deaf.bind (QMp ..) fun _=>?_
  | refine Tr.Deaf.bind (Xf trivial (QCm ..)) fun _=>?_
  | refine Xf ?_ ?_
  | refine Tr.Deaf.bind ?_ fun _=>?_
theorem QGa (s:Ms):(jP s).Deaf:=by
 unfold jP Zt jx Xb Xe jX
 repeat' first
  | exact trivial
  | exact QE5 ..
  | exact QCm ..
  | exact X2 ..
  | refine Tr.Deaf.bind (ZW ..) fun _=>?_
  | refine Tr.Deaf.bind (jv ..) fun _=>?_
  | refine Xf ?_ ?_
  | refine Tr.Deaf.bind ?_ fun _=>?_
theorem QG9 (c:Int)(s:Ms):(QCD c s).Deaf:=by
 unfold QCD
 refine Xf (Tr.Deaf.bind (Tr.Deaf.bind ?_ fun _=>trivial) fun _=>QGa _) (Xf (Tr.Deaf.bind (Tr.Deaf.bind (QE3 _) fun _=>trivial) fun _=>QGY _) (Tr.Deaf.bind ?_ fun _=>QIi _))
 · unfold Z2
   exact Xf (QE3 _) (Tr.Deaf.bind (QJk _) fun _=>Tr.Deaf.bind (jG _) fun _=>Tr.Deaf.bind (ZW ..) fun _=>trivial)
 · unfold Xu
   exact Xf (Tr.Deaf.bind (QJk _) fun _=>Xf (ZW ..) trivial) trivial
theorem qr {α:Type} {c:Prop} [Decidable c] {t u:Tr α} {d:Nat}(h:t.Depth d)(k:u.Depth d):(if c then t else u).Depth d:=by split<;>assumption
theorem zG {α β:Type} {c:Prop} [Decidable c] {t u:Tr α} {f:α→Tr β} {d:Nat}(h:(t.bind f).Depth d)(k:(u.bind f).Depth d):((if c then t else u).bind f).Depth d:=by split<;>assumption
theorem QGo (s:Ms):(Xg s).Depth 6:=by
 unfold Xg Zr QAC jN jz QAk Z4 Xl jm Zo XO QFq qY QAc X0 QCo qi ql QBE Xm ZC Zk Zu
 repeat' first
  | exact Tr.depth_done _ _
  | refine qr ?_ ?_
  | refine zG ?_ ?_
  | refine Tr.depth_ask fun _=>?_
theorem QFZ (s:Ms):(qv s).Depth 6:=by
 unfold qv jg zZ QAK zn j8 ZX Xz zS ZR Z5 Z8 Z7 Z6 jy Xm ZC Zk Zu
 repeat' first
  | exact Tr.depth_done _ _
  | refine qr ?_ ?_
  | refine zG ?_ ?_
  | refine Tr.depth_ask fun _=>?_
theorem QFa (s:Ms):(jP s).Depth 4:=by
 unfold jP Zt jx Xb Xe jX Zk Zu
 repeat' first
  | exact Tr.depth_done _ _
  | refine qr ?_ ?_
  | refine zG ?_ ?_
  | refine Tr.depth_ask fun _=>?_
theorem QKq (c:Int)(s:Ms):(QCD c s).Depth 8:=by
 unfold QCD
 refine qr ?_ (qr ?_ ?_)
 · refine Tr.Depth.mono (Tr.Depth.bind (m:=3) (n:=4) ?_ fun _=>QFa _) (by decide)
   unfold Z2
   repeat' first
    | exact Tr.depth_done _ _
    | refine zG ?_ ?_
    | refine Tr.depth_ask fun _=>?_
 · exact Tr.Depth.mono (Tr.Depth.bind (m:=1) (n:=6) (Tr.depth_ask fun _=>Tr.depth_done _ _) fun _=>QFZ _) (by decide)
 · refine Tr.Depth.bind (m:=2) (n:=6) ?_ fun _=>QGo _
   unfold Xu
   repeat' first
    | exact Tr.depth_done _ _
    | refine qr ?_ ?_
    | refine zG ?_ ?_
    | refine Tr.depth_ask fun _=>?_
def QEI (xs:List Int):Nat→Nat
 | 0=>0
 | k+1=>QEI xs k+lenOf (xs.drop (QEI xs k))
def Runs (xs:List Int)(k:Nat):Prop:=∀ j,j < k→okM (xs.drop (QEI xs j))=true
def Stops (xs:List Int)(k:Nat):Prop:=Runs xs k∧okM (xs.drop (QEI xs k))=false
theorem Runs.zero (xs:List Int):Runs xs 0:=fun j hj=>by omega
theorem Runs.succ {xs:List Int} {k:Nat}(h:Runs xs k)(o:okM (xs.drop (QEI xs k))=true):Runs xs (k+1):=fun j hj=>by
 by_cases e:j=k
 · subst e;exact o
 · exact h j (by omega)
theorem QVD {ys:List Int}(h:okM ys=true):lenOf ys≤ys.length:=by
 unfold okM at h
 exact of_decide_eq_true h
theorem Runs.pos {xs:List Int} {k:Nat}(h:Runs xs k):k≤QEI xs k∧QEI xs k≤xs.length:=by
 induction k with
 | zero=>exact⟨Nat.le_refl _,Nat.zero_le _⟩
 | succ k ih =>
   have h1:=ih (fun j hj=>h j (by omega))
   have h2:=QVD (h k (by omega))
   have h3:=QJo (xs.drop (QEI xs k))
   rw[List.length_drop] at h2
   show k+1≤QEI xs k+lenOf (xs.drop (QEI xs k))∧QEI xs k+lenOf (xs.drop (QEI xs k))≤xs.length
   omega
theorem Stops.same {xs:List Int} {j k:Nat}(h:Stops xs j)(h':Stops xs k):j=k:=by
 rcases Nat.lt_trichotomy j k with e|e|e
 · have:=h'.1 j e
   rw[h.2] at this
   cases this
 · exact e
 · have:=h.1 k e
   rw[h'.2] at this
   cases this
theorem Bytes8.drop {xs:List Int}(h:Bytes8 xs)(k:Nat):Bytes8 (xs.drop k):=fun x hx=>h x (List.mem_of_mem_drop hx)
theorem Bytes8.take {xs:List Int}(h:Bytes8 xs)(k:Nat):Bytes8 (xs.take k):=fun x hx=>h x (List.mem_of_mem_take hx)
theorem Bytes8.append {xs ys:List Int}(h:Bytes8 xs)(h':Bytes8 ys):Bytes8 (xs++ys):=fun x hx=>by
 rcases List.mem_append.1 hx with e|e
 · exact h x e
 · exact h' x e
theorem QBe (c:Int):QCF c=true↔c=221∨c=253:=by unfold QCF;simp
theorem QGx (c:Int):QCF c=false↔¬(c=221∨c=253):=by unfold QCF;simp
def QUG (c:Int)(s:Ms):Ms:=({ s.toPlane (if c=253 then 4 else 3) with r:=Zm s.r 1 }:Ms).pcUp
theorem QKL {c:Int}(h:c=221∨c=253)(s:Ms):XV [] c s=.error ⟨1,s.r.pc,0,4⟩:=by rw[XV,if_pos h]
theorem QDZ {c:Int}(h:c=221∨c=253)(s:Ms)(b:Int)(bs:List Int):XV (b :: bs) c s=XV bs b (QUG c s):=by rw[XV,if_pos h];rfl
theorem QHO:∀ (xs:List Int) (c:Int) (s:Ms),lead (c :: xs)+8≤xs.length→∃ a ys,XV xs c s=.ok (a,ys):=by
 intro xs
 induction xs with
 | nil=>intro c s h;simp at h
 | cons b bs ih =>
   intro c s h
   by_cases hp:c=221∨c=253
   · rw[QDZ hp]
     rw[QGW _ _ ((QBe c).2 hp),List.length_cons] at h
     exact ih b _ (by omega)
   · rw[QBn hp]
     rw[QC0 _ _ ((QGx c).2 hp)] at h
     exact Tr.run_ends (QKq c s) (by omega)
theorem QMF (a:Int):CyK ⟨1,a,0,4⟩:=by simp[CyK]
theorem QOo {e:Cy}:∀ {xs:List Int} {c:Int} {s:Ms},XV xs c s=.error e→CyK e:=by
 intro xs
 induction xs with
 | nil =>
   intro c s h
   by_cases hp:c=221∨c=253
   · rw[QKL hp] at h
     injection h with h;subst h
     exact QMF _
   · rw[QBn hp] at h;exact (QG9 c s).error h
 | cons x xs ih =>
   intro c s h
   by_cases hp:c=221∨c=253
   · rw[QDZ hp] at h;exact ih h
   · rw[QBn hp] at h;exact (QG9 c s).error h
def ms1 (g:Rg):Ms:=(({ ms0 g with r:=Zm g 1 }:Ms).pcUp).noLate
theorem QGH (g:Rg):XG g []=.error ⟨1,g.pc,0,4⟩:=by unfold XG;split<;>rfl
theorem QB0 {g:Rg}(h:g.halted=true)(b:Int)(bs:List Int):XG g (b :: bs)=.ok ({ ms0 g with r:=Zm g 1 },bs):=by unfold XG;rw[if_pos h];exact Tr.run_done _ _
theorem QBc {g:Rg}(h:g.halted=false)(b:Int)(bs:List Int):XG g (b :: bs)=XV bs b (ms1 g):=by unfold XG;rw[if_neg (by rw[h];simp)];rfl
theorem QNc (g:Rg)(xs:List Int)(h:lead xs+9≤xs.length):∃ a ys,XG g xs=.ok (a,ys):=by
 cases xs with
 | nil=>simp at h
 | cons b bs =>
   cases hh:g.halted with
   | true=>exact⟨_,_,QB0 hh b bs⟩
   | false=>rw[QBc hh];exact QHO bs b _ (by simpa using h)
theorem QPT {g:Rg} {e:Cy} {xs:List Int}(h:XG g xs=.error e):CyK e:=by
 cases xs with
 | nil=>rw[QGH] at h;injection h with h;subst h;exact QMF _
 | cons x xs =>
   cases hh:g.halted with
   | true=>rw[QB0 hh] at h;cases h
   | false=>rw[QBc hh] at h;exact QOo h
theorem QML {g:Rg} {c:Int} {e:Cy} {xs:List Int}(h:X4 g c xs=.error e):CyK e:=QOo h
structure T3 where
 c:Cy
 g:Rg
 b:Bool
def QLE (c:Cy):T3:=⟨c,JV,false⟩
def QLX (g:Rg):T3:=⟨JM,g,true⟩
def ofX (X:Except Cy (Ms×List Int)):T3:=⟨Zc X,Z0 X,Xr X⟩
def Qx (sp pc:Int):List Cy:=[⟨7,0,0,1⟩,⟨3,(sp-1)%65536,pc / 256,3⟩,⟨3,(sp-2)%65536,pc%256,3⟩]
def ZO (at_:Int):List Cy:=[⟨2,at_,0,3⟩,⟨2,(at_+1)%65536,0,3⟩]
def Qg (l:List Cy)(g:Rg)(n:Nat):T3:=if n < l.length then QLE (l.getD n JM) else QLX g
def jp (g:Rg)(iff1 iff2:Bool):Rg:={ Zm g 1 with halted:=false,late:=false,iff1:=iff1,iff2:=iff2 }
def ZU (g:Rg)(aim:Int):Rg:={ g with sp:=(g.sp-2)%65536,pc:=aim,wz:=aim }
def Zv (v:Int):Bool:=v==203||(v==221||(v==237||v==253))
def QBJ (g:Rg)(v:Int)(xs:List Int):T3 :=
 if g.mode=0 then (if Zv v=true then QLX (jp g false false) else ofX (X4 (jp g false false) v xs)) else
 if g.mode=1 then Qg (Qx g.sp g.pc) (ZU (jp g false false) 56) xs.length else
 Qg (Qx g.sp g.pc++ZO (256*g.i+v)) (ZU (jp g false false) (256*xs.getD 4 0+xs.getD 3 0)) xs.length
def Jp (g:Rg)(which:Int)(xs:List Int):T3 :=
 if which=1 then (match xs with|[]=>QLE ⟨1,g.pc,0,4⟩|_ :: ys=>Qg (Qx g.sp g.pc) (ZU (jp g false g.iff2) 102) ys.length) else
 if which=2 then (match xs with|[]=>QLE ⟨6,g.pc,0,6⟩|v :: ys=>QBJ g v ys) else ofX (XG g xs)
theorem RgB.beg {g:Rg}(h:RgB g)(i j:Bool):RgB (jp g i j):=by
 have ht:=h.tick 1
 exact⟨ht.af,ht.bc,ht.de,ht.hl,ht.af2,ht.bc2,ht.de2,ht.hl2,ht.ix,ht.iy,ht.sp,ht.pc,ht.wz,ht.i,ht.r,ht.mode⟩
theorem QK6 (sp pc:Int):∀ c∈Qx sp pc,1≤c.t∧c.t≤7:=by
 intro c h
 simp only[Qx,List.mem_cons,List.not_mem_nil,or_false] at h
 rcases h with rfl|rfl|rfl<;>simp
theorem QSh (a:Int):∀ c∈ZO a,1≤c.t∧c.t≤7:=by
 intro c h
 simp only[ZO,List.mem_cons,List.not_mem_nil,or_false] at h
 rcases h with rfl|rfl<;>simp
theorem QLV {l:List Cy}(h:∀ c∈l,1≤c.t∧c.t≤7)(g:Rg)(n:Nat)(hb:(Qg l g n).b=false):1≤(Qg l g n).c.t∧(Qg l g n).c.t≤7:=by
 unfold Qg at *
 split
 · rename_i hn
   have e:(QLE (l.getD n JM)).c=l[n]:=by rw[List.getD_eq_getElem?_getD,List.getElem?_eq_getElem hn];rfl
   rw[e]
   exact h _ (List.getElem_mem hn)
 · rename_i hn
   rw[if_neg hn] at hb
   cases hb
theorem QTV {X:Except Cy (Ms×List Int)}(h:∀ e,X=.error e→CyK e)(hb:(ofX X).b=false):1≤(ofX X).c.t∧(ofX X).c.t≤7:=by
 rcases X with e|⟨s,ys⟩
 · have:=h e rfl;exact⟨this.2.2.2.1,this.2.2.2.2.1⟩
 · cases hb
theorem QPE (g:Rg)(which:Int)(xs:List Int)(hb:(Jp g which xs).b=false):1≤(Jp g which xs).c.t∧(Jp g which xs).c.t≤7:=by
 unfold Jp at *
 split
 · rename_i h1
   rw[if_pos h1] at hb
   cases xs with
   | nil=>exact⟨by show (1:Int)≤4;omega,by show (4:Int)≤7;omega⟩
   | cons v ys=>exact QLV (QK6 _ _) _ _ hb
 · rename_i h1
   rw[if_neg h1] at hb
   split
   · rename_i h2
     rw[if_pos h2] at hb
     cases xs with
     | nil=>exact⟨by show (1:Int)≤6;omega,by show (6:Int)≤7;omega⟩
     | cons v ys =>
       simp only at hb ⊢
       unfold QBJ at *
       split
       · rename_i h3
         rw[if_pos h3] at hb
         split
         · rename_i h4;rw[if_pos h4] at hb;cases hb
         · rename_i h4;rw[if_neg h4] at hb;exact QTV (fun e he=>QML he) hb
       · rename_i h3
         rw[if_neg h3] at hb
         split
         · rename_i h4;rw[if_pos h4] at hb;exact QLV (QK6 _ _) _ _ hb
         · rename_i h4;rw[if_neg h4] at hb
           exact QLV (fun c hc=>(List.mem_append.1 hc).elim (QK6 _ _ c) (QSh _ c)) _ _ hb
   · rename_i h2
     rw[if_neg h2] at hb
     exact QTV (fun e he=>QPT he) hb
end Go.Proofs.YtkgaeamdhhceiaaGreatDoor
