/- Contracts and facts that the claim's proof wants (several texts in one). -/
import Derived.Defers
import Derived.Recover
import Derived.Test.YtkenebbjodcbcaaGreatDoorCoH14
namespace Go.Proofs.YtkenebbjodcbcaaGreatDoor
open Go.RowKit
set_option linter.unusedVariables false
set_option linter.unusedSimpArgs false
set_option maxRecDepth 20000
set_option maxHeartbeats 20000000
theorem QEm:(Tryz.prog.info? 29).map (·.size)=some 4:=by kernel_rfl
theorem ldCy {w:World} {b:Nat} {t:TypeId} {c:Cy}(h:Row w b t (cyC c)):(Instr.loadAt 29 (pT b 0)).run Tryz.prog w=.ok (cyV c) w :=
 run_loadAt_mid w b 0 29 (cyC c).toList _ h.range Tryz.underlying29 rfl QEm
theorem QBY {w:World} {b:Nat} {t:TypeId} {c d:Cy}(h:Row w b t (cyC d)):(Instr.storeAt 29 (pT b 0) (cyV c)).run Tryz.prog w=.ok () (w.setCells b 0 (cyC c).toList) :=
 run_storeAt_mid w b 0 29 (cyC c) h.there QEm (by simp[cyC,Value.oneCell'])
theorem jc (w:World):(Instr.alloc 29 true (.tuple #[])).run Tryz.prog w=.ok (pT w.heap.size 0) (w.alloc (.cells (cyC JL) 29)):=by
 simp[go_sem,JL]
section
variable {P:Program} {ops:Array Oper} {Q:Exit→Act→List Frame→World→Prop} {a:Act} {cs cs':List Frame} {w w':World} {i:Nat} {rest:List Nat} {o:Oper}
structure WS (P:Program)(ops:Array Oper)(Q:Exit→Act→List Frame→World→Prop)(l:List Nat)(a:Act)(cs:List Frame)(w:World):Prop where
 h:wpOpsS P ops Q l a cs w
theorem QLK {id:Nat}(l:List Nat)(hl:List.range ops.size=l)(h:WS P ops Q l a cs w):(Code.region id ops false).wpS P Q a cs w:=wpS_region (by rw[hl];exact h.h)
theorem endS (h:Q .normal a cs w):WS P ops Q [] a cs w:=⟨by unfold wpOpsS;exact h⟩
theorem zz (V:Value)(ho:ops[i]? = some o)(hg:o.guard=none)(he:(execOp a.eval o).run P w=.ok (.value V) w')(h:WS P ops Q rest (a.put o.dst V) cs w'):WS P ops Q (i :: rest) a cs w:=by
 constructor
 unfold wpOpsS
 simp only[ho,JN hg,if_true,he,Oper.upon_value]
 exact h.h
theorem rDo (ho:ops[i]? = some o)(hg:o.guard=none)(he:(execOp a.eval o).run P w=.ok .skip w')(h:WS P ops Q rest (a.put o.dst undef) cs w'):WS P ops Q (i :: rest) a cs w:=by
 constructor
 unfold wpOpsS
 simp only[ho,JN hg,if_true,he,Oper.upon_skip]
 exact h.h
theorem QOa (V:Value)(ho:ops[i]? = some o)(hg:o.guard=none)(he:(execOp a.eval o).run P w=.ok .recover w)(hc:recoverD cs=some (V,cs'))(h:WS P ops Q rest (a.put o.dst V) cs' w):WS P ops Q (i :: rest) a cs w:=by
 constructor
 unfold wpOpsS
 simp only[ho,JN hg,if_true,he,hc]
 exact h.h
theorem QTc (ho:ops[i]? = some o)(hg:o.guard=none)(he:(execOp a.eval o).run P w=.ok .recover w)(hc:recoverD cs=none)(h:WS P ops Q rest (a.put o.dst .nilIface) cs w):WS P ops Q (i :: rest) a cs w:=by
 constructor
 unfold wpOpsS
 simp only[ho,JN hg,if_true,he,hc]
 exact h.h
theorem QJJ {x:Operand} {V R:Value} {t u:TypeId} {ok:Bool}(ho:o.op=.typeAssert x t u ok)(hx:a.eval x=V)(hr:(Instr.typeAssert V t u ok).run P w=.ok R w):(execOp a.eval o).run P w=.ok (.value R) w:=by
 unfold execOp
 simp only[ho,hx,hr,Sem.run_bind,Sem.run_pure,Result.andThen_ok]
end
theorem QR4 (v:Value)(w:World):(Instr.typeAssert (.iface 29 v) 20 29 true).run Tryz.prog w=.ok (.tuple #[v,.bool true]) w:=by kernel_rfl
theorem QT8 (w:World):(Instr.typeAssert .nilIface 20 29 true).run Tryz.prog w=.ok (.tuple #[cyV JL,.bool false]) w:=by kernel_rfl
theorem QDZ (L:Nat)(c:Cy)(older:List PanicEntry)(w:World)(hL:Row w L 29 (cyC JL)) :
 CallsD Tryz.prog 89 #[pT L 0] (.panicking ({ v:=.iface 29 (cyV c),recovered:=false } :: older)) w fun e u' w' =>
  e=.returned (.tuple #[])∧u'=.panicking ({ v:=.iface 29 (cyV c),recovered:=true } :: older)∧Row w' L 29 (cyC c)∧Besides L L w w':=by
 refine callsD_of_wpS Tryz.func89 rfl fun c₀ cs hu=>?_
 simp only[Tryz.ntmps89,List.size_toArray,List.length_cons,List.length_nil,Nat.reduceAdd,Nat.reduceSub,Array.replicate_succ,Array.replicate_zero,List.push_toArray,List.append_toArray,List.nil_append,List.cons_append]
 apply wpS_seq
 refine QLK [0,1,2,3,4,5,6,7] (by simp only[List.size_toArray,List.length_cons,List.length_nil,Nat.reduceAdd];rfl) ?_
 refine QOa (.iface 29 (cyV c)) rfl rfl (by kernel_rfl) (show recoverD (c₀ :: cs)=some (_,{ c₀ with mode:=.panicking ({ v:=.iface 29 (cyV c),recovered:=true } :: older) } :: cs) by simp only[recoverD,hu]) ?_
 refine zz (.tuple #[cyV c,.bool true]) rfl rfl (QJJ rfl (by kernel_rfl) (QR4 _ _)) ?_
 refine zz (.tuple #[cyV c,.bool true]) rfl rfl (XZ (.inl rfl) (by kernel_rfl) _) ?_
 refine zz (cyV c) rfl rfl (XB (vs:=#[cyV c,.bool true]) rfl (by kernel_rfl) (by kernel_rfl) _) ?_
 refine zz (.bool true) rfl rfl (XB (vs:=#[cyV c,.bool true]) rfl (by kernel_rfl) (by kernel_rfl) _) ?_
 refine zz (pT w.heap.size 0) rfl rfl (Qg rfl (jc w)) ?_
 have hL':Row (w.alloc (.cells (cyC JL) 29)) L 29 (cyC JL):=hL.alloc _
 have hlt:=hL.lt
 refine rDo rfl rfl (Qy (ad:=⟨w.heap.size,0,none⟩) (V:=cyV c) rfl (by kernel_rfl) (by kernel_rfl) (QBY (Row.new w _ (cyC JL)))) ?_
 have hN:Row ((w.alloc (.cells (cyC JL) 29)).setCells w.heap.size 0 (cyC c).toList) w.heap.size 29 (cyC c):=(Row.new w _ (cyC JL)).setAll rfl
 have hL2:Row ((w.alloc (.cells (cyC JL) 29)).setCells w.heap.size 0 (cyC c).toList) L 29 (cyC JL):=hL'.setFar (by omega) _ _
 have hB:Besides L L w ((w.alloc (.cells (cyC JL) 29)).setCells w.heap.size 0 (cyC c).toList):=((Besides.refl L L w).alloc _).setCells (.inr (.inr (Nat.le_refl _))) _ _
 generalize (w.alloc (.cells (cyC JL) 29)).setCells w.heap.size 0 (cyC c).toList=W at *
 refine zz (.bool true) rfl rfl (XZ (.inr rfl) (by kernel_rfl) _) ?_
 refine endS ?_
 simp only[Exit.thenS]
 refine wpS_of_wp ?_
 try simp only[Act.put,sA,sB,sC]
 refine wp_seq_k fun K1 hK1=>JD<|oM 8 (.bool true) ?_
 refine JS ?_
 refine JM<|hK1 _ _ ?_
 refine wp_cond_true (by kernel_rfl) ?_
 refine JD<|oL 9 (ldCy hN)<|oS ⟨L,0,none⟩ (cyV c) (QBY hL2) ?_
 refine JS ?_
 exact⟨rfl,_,rfl,_,results_none rfl _ _ _,rfl,rfl,hL2.setAll rfl,hB.setCells (.inl rfl) _ _⟩
theorem QKg (L:Nat)(w:World) :
 CallsD Tryz.prog 89 #[pT L 0] .returning w fun e u' w'=>e=.returned (.tuple #[])∧u'=.returning∧Below w.heap.size w w':=by
 refine callsD_of_wpS Tryz.func89 rfl fun c₀ cs hu=>?_
 simp only[Tryz.ntmps89,List.size_toArray,List.length_cons,List.length_nil,Nat.reduceAdd,Nat.reduceSub,Array.replicate_succ,Array.replicate_zero,List.push_toArray,List.append_toArray,List.nil_append,List.cons_append]
 apply wpS_seq
 refine QLK [0,1,2,3,4,5,6,7] (by simp only[List.size_toArray,List.length_cons,List.length_nil,Nat.reduceAdd];rfl) ?_
 refine QTc rfl rfl (by kernel_rfl) (show recoverD (c₀ :: cs)=none by simp only[recoverD,hu]) ?_
 refine zz (.tuple #[cyV JL,.bool false]) rfl rfl (QJJ rfl (by kernel_rfl) (QT8 _)) ?_
 refine zz (.tuple #[cyV JL,.bool false]) rfl rfl (XZ (.inl rfl) (by kernel_rfl) _) ?_
 refine zz (cyV JL) rfl rfl (XB (vs:=#[cyV JL,.bool false]) rfl (by kernel_rfl) (by kernel_rfl) _) ?_
 refine zz (.bool false) rfl rfl (XB (vs:=#[cyV JL,.bool false]) rfl (by kernel_rfl) (by kernel_rfl) _) ?_
 refine zz (pT w.heap.size 0) rfl rfl (Qg rfl (jc w)) ?_
 refine rDo rfl rfl (Qy (ad:=⟨w.heap.size,0,none⟩) (V:=cyV JL) rfl (by kernel_rfl) (by kernel_rfl) (QBY (Row.new w _ (cyC JL)))) ?_
 have hB:Below w.heap.size w ((w.alloc (.cells (cyC JL) 29)).setCells w.heap.size 0 (cyC JL).toList):=Below.setCellsAll (Below.alloc (Below.refl _ _) (Nat.le_refl _) _) (Nat.le_refl _) _ _
 refine zz (.bool false) rfl rfl (XZ (.inr rfl) (by kernel_rfl) _) ?_
 refine endS ?_
 simp only[Exit.thenS]
 refine wpS_of_wp ?_
 try simp only[Act.put,sA,sB,sC]
 refine wp_seq_k fun K1 hK1=>JD<|oM 8 (.bool false) ?_
 refine JS ?_
 refine JM<|hK1 _ _ ?_
 refine wp_cond_false (by kernel_rfl) ?_
 refine wp_skip ?_
 exact⟨rfl,_,by rw[←hu],_,results_none rfl _ _ _,rfl,rfl,hB⟩
theorem QAq (w:World):(Instr.alloc 24 true (.tuple #[])).run Tryz.prog w=.ok (pT w.heap.size 0) (w.alloc (.cells (JJ Ja) 24)):=by
 simp[go_sem,Ja,JJ]
theorem QBt {w:World} {b:Nat} {t:TypeId} {g d:Rg}(h:Row w b t (JJ d)):(Instr.storeAt 24 (pT b 0) (JH g)).run Tryz.prog w=.ok () (w.setCells b 0 (JJ g).toList):=stR h.there
theorem Besides.more {p L:Nat} {w w' w'':World}(h:Besides p p w w')(k:Besides L L w' w'')(hL:w.heap.size≤L):Besides p p w w'' :=
 ⟨k.os.trans h.os,k.tape.trans h.tape,k.output.trans h.output,Nat.le_trans h.size k.size,fun b hb n1 n2=>(k.block b (Nat.lt_of_lt_of_le hb h.size) (by omega) (by omega)).trans (h.block b hb n1 n2)⟩
theorem Qe {fn:Func} {t1 t2 t3:Tmp} {u v:TypeId}(h:fn.results=#[.cell t1 29,.cell t2 24,.tmp t3]){tmps:Array Value} {w:World} {L M:Nat} {c:Cy} {g:Rg} {b:Bool}
 (h1:tmps.getD t1 undef=pT L 0)(h2:tmps.getD t2 undef=pT M 0)(h3:tmps.getD t3 undef=.bool b)(hL:Row w L u (cyC c))(hM:Row w M v (JJ g)):(results fn tmps).run Tryz.prog w=.ok (.tuple #[cyV c,JH g,.bool b]) w:=by
 have h1':tmps[t1]?.getD undef=pT L 0:=by simpa using h1
 have h2':tmps[t2]?.getD undef=pT M 0:=by simpa using h2
 have h3':tmps[t3]?.getD undef=.bool b:=by simpa using h3
 have e1:=X5 (P:=Tryz.prog) hL Tryz.underlying29 rfl QEm
 have e2:=X5 (P:=Tryz.prog) hM Tryz.underlying24 rfl QJh
 simp[results,h,h1',h2',h3',asAddr,e1,e2]
def QBI:Except Cy (Ms×List Int)→Value
 | .ok (s,_)=>.tuple #[cyV JL,JH s.r,.bool true]
 | .error c=>.tuple #[cyV c,JH Ja,.bool false]
theorem QR0 {P:Program} {ops:Array Oper} {Q:Exit→Act→World→Prop} {a:Act} {w:World} {o:Oper} {rest:List Oper}(d:Deferred)(hd:o.dst=none)(hg:o.guard=none)(he:(execOp a.eval o).run P w=.ok (.defer d) w)
 (h:WL P ops Q rest { a with defers:=d :: a.defers } w):WL P ops Q (o :: rest) a w :=
 ⟨wpList_step fun K hK=>by
  rw[if_pos (JN hg)]
  unfold Oper.wp
  rw[he,Oper.upon_defer,hd]
  exact hK _ _ h.h⟩
theorem heFn {P:Program} {a:Act} {o:Oper} {x:Operand} {F:FuncId} {cap:Array Value} {w:World}(ho:o.op=.call { callee:=.value x,args:=#[],argTypes:=#[] })(hx:a.eval x=.func (.func F) #[] cap)(hen:(callFunc F cap).run P w=.ok (.enter F cap) w) :
 (execOp a.eval o).run P w=.ok (.enter F cap) w:=by
 unfold execOp
 simp[ho,resolve,hx,Deferred.ofValue,invoke,hen]
theorem QLW {P:Program} {ops:Array Oper} {Q:Exit→Act→World→Prop} {S:World→Prop} {n i f:Nat} {listed:Array Bool} {a:Act} {w w':World} {o:Oper}(hd:o.dst=none)(ho:ops[i]? = some o)(hr:Region.ready .any ops listed=[i])(hin:decide (i < n)=true)
 (hw:Region.wanted o (yielded ops a.tmps)=true)(he:(execOp a.eval o).run P w=.ok .skip w')(hS:S w')
 (hK:Zc P ops Q S n f (listed.setIfInBounds i true) a w'):Zc P ops Q S n (f+1) listed a w:=by
 intro inv
 have hr':i∈Region.ready .any ops listed:=by rw[hr];simp
 refine⟨by rw[hr];simp,fun j hj=>?_⟩
 rw[hr] at hj
 have hji:j=i:=by simpa using hj
 subst hji
 refine⟨of_decide_eq_true hin,?_⟩
 unfold wpOp
 simp only[ho,hw,if_true]
 refine .inl ?_
 unfold Oper.wp
 rw[he,Oper.upon_skip,hd]
 exact⟨hS,hK (inv.set hr' (of_decide_eq_true hin))⟩
theorem QO8 (F:FuncId)(cap:Array Value)(hen:∀ w,(callFunc F cap).run Tryz.prog w=.ok (.enter F cap) w){X:Except Cy (Ms×List Int)} {s:Ms} {xs:List Int} {w:World} {p B:Nat}(h:AtN w p B s xs)
 (hF:∀ w',AtN w' p B s xs→Below w.heap.size w w'→Calls Tryz.prog F cap w' (OutV w' p B X)) :
 Calls Tryz.prog 70 #[pT p 0,.func (.func F) #[] cap] w (fun e w'=>e=.returned (QBI X)∧Besides p p w w'):=by
 go_enter_defers Tryz.func70,Tryz.ntmps70
 refine wp_seq_k fun K1 hK1=>JD ?_
 have hp:=h.lt
 refine Jw 4 (pT w.heap.size 0) rfl (JN rfl) (Qg rfl (jc w)) ?_
 refine Jw 5 (.pointer (some ⟨(w.alloc (.cells (cyC JL) 29)).heap.size,0,none⟩)) rfl (JN rfl) (Qg rfl (QAq _)) ?_
 have h1:=h.below (Below.alloc (Below.refl w.heap.size w) (Nat.le_refl _) (.cells (cyC JL) 29))
 have h2:=h1.below (Below.alloc (Below.refl _ _) (Nat.le_refl _) (.cells (JJ Ja) 24))
 have hb0:Besides p p w ((w.alloc (.cells (cyC JL) 29)).alloc (.cells (JJ Ja) 24)):=((Besides.refl p p w).alloc _).alloc _
 have hW:Below w.heap.size w ((w.alloc (.cells (cyC JL) 29)).alloc (.cells (JJ Ja) 24)):=Below.alloc (Below.alloc (Below.refl _ _) (Nat.le_refl _) _) (by simp) _
 have hL:=(Row.new w 29 (cyC JL)).alloc (.cells (JJ Ja) 24)
 have hM:=Row.new (w.alloc (.cells (cyC JL) 29)) 24 (JJ Ja)
 obtain⟨L,hLe⟩:∃ L,L=w.heap.size:=⟨_,rfl⟩
 obtain⟨M,hMe⟩:∃ M,M=(w.alloc (.cells (cyC JL) 29)).heap.size:=⟨_,rfl⟩
 have hML:M=L+1:=by rw[hMe,hLe];simp
 rw[←hMe] at hM ⊢
 rw[←hLe] at hL hW ⊢
 generalize (w.alloc (.cells (cyC JL) 29)).alloc (.cells (JJ Ja) 24)=W at *
 clear hMe h1
 refine oA 6 (.bool false) ?_
 refine JS ?_
 try simp only[Act.put,sA,sB,sC]
 refine JM<|hK1 _ _<|wp_seq_k fun K2 hK2=>JD ?_
 refine Jf 7 (.func (.func 89) #[] #[pT L 0]) rfl (JN rfl) (Qm rfl (by kernel_rfl) (by kernel_rfl) _) ?_
 refine QR0 { target:=.fn (.func 89) #[pT L 0],args:=#[] } rfl rfl (by kernel_rfl) ?_
 refine JS ?_
 try simp only[Act.put,sA,sB,sC]
 refine JM<|hK2 _ _<|wp_seq_k fun K3 hK3=>JD<|oM 8 (.func (.func F) #[] cap) ?_
 have hn:=NowN.begin h2
 refine ZE hn rfl (heFn rfl (by kernel_rfl) (hen W)) (hF W h2 (by rw[←hLe];exact hW)) (fun c w' hX hb=>?_) ?_
 · have hb:=hb.bes
   refine jo ?_
   subst hX
   refine leaves_cons (f:=89) (args:=#[pT L 0]) (by simp) (by simp[go_sem]) ?_
   have hL':=hL.besides hb (by omega) (by omega)
   have hM':=hM.besides hb (by omega) (by omega)
   refine (QDZ L c [] w' hL').mono ?_
   rintro e u' w'' ⟨rfl,rfl,hA,hB⟩
   refine⟨_,Qe rfl (by kernel_rfl) (by kernel_rfl) (by kernel_rfl) hA (hM'.besides hB (by omega) (by omega)),rfl,?_⟩
   exact (hb0.trans hb).more hB (by omega)
 intro s1 xs1 w1 hX hn
 subst hX
 have hL':=hL.besides hn.bes (by omega) (by omega)
 have hM':=hM.besides hn.bes (by omega) (by omega)
 refine JS ?_
 try simp only[Act.put,sA,sB,sC]
 refine JM<|hK3 _ _<|wp_seq_k fun K4 hK4=>?_
 refine Code.wp_mono (Q:=fun e a w=>match e with|.normal=>K4 a w|_=>False) (fun e a w h=>by cases e<;>first|exact h|exact h.elim) ?_
 refine qW 6 (fun w'=>AtN w' p B s1 xs1) (by kernel_rfl) (by kernel_rfl) hn.at_.drew ?_
 intro w2 hw2 hS
 have hL2:Row w2 L 29 (cyC JL):=by subst hw2;exact hL'.drew
 have hM2:Row w2 M 24 (JJ Ja):=by subst hw2;exact hM'.drew
 refine yG 0 10 (cyV JL) rfl (fun w hS=>QHS (cells:=cyC JL) rfl (by kernel_rfl) w) hS<|yM 1 11 (pT p 0) hS<|yN 2 12 p 0 hS<|yF 3 13 (fM0 p) hS<|yL 4 14 (JH s1.r) (fun w hS=>ldR hS.regs) hS ?_
 have hL3:Row (w2.setCells L 0 (cyC JL).toList) L 29 (cyC JL):=hL2.setAll rfl
 have hM3:=hM2.setFar (by omega:M≠L) (cyC JL).toList 0
 have hb3:Besides L L w2 (w2.setCells L 0 (cyC JL).toList):=(Besides.refl L L w2).setCells (.inl rfl) _ _
 have hb2:Besides p p W w2:=by subst hw2;exact hn.bes.drew
 refine QLW (i:=5) (by rfl) rfl (by kernel_rfl) (by kernel_rfl) (by kernel_rfl) (by exact Qy (ad:=⟨L,0,none⟩) (V:=cyV JL) rfl (by kernel_rfl) (by kernel_rfl) (QBY hL2)) (hS.far (by omega) (by have:=hS.low;omega) _ _) ?_
 refine QB4 (by kernel_rfl) ?_
 simp only[List.drop_succ_cons,List.drop_zero]
 try simp only[Act.put,sA,sB,sC]
 refine oS ⟨M,0,none⟩ (JH s1.r) (QBt hM3) ?_
 have hL4:=hL3.setFar (by omega:L≠M) (JJ s1.r).toList 0
 have hM4:Row ((w2.setCells L 0 (cyC JL).toList).setCells M 0 (JJ s1.r).toList) M 24 (JJ s1.r):=hM3.setAll rfl
 have hb4:Besides M M (w2.setCells L 0 (cyC JL).toList) ((w2.setCells L 0 (cyC JL).toList).setCells M 0 (JJ s1.r).toList):=(Besides.refl M M _).setCells (.inl rfl) _ _
 have hbes:Besides p p w ((w2.setCells L 0 (cyC JL).toList).setCells M 0 (JJ s1.r).toList):=((hb0.trans hb2).more hb3 (by omega)).more hb4 (by omega)
 generalize (w2.setCells L 0 (cyC JL).toList).setCells M 0 (JJ s1.r).toList=W5 at *
 refine oA 6 (.bool true) ?_
 refine JS ?_
 try simp only[Act.put,sA,sB,sC]
 refine hK4 _ _ ?_
 refine wp_ret ?_
 refine leaves_cons (f:=89) (args:=#[pT L 0]) (by simp) (by simp[go_sem]) ?_
 refine (QKg L _).mono ?_
 rintro e u' w'' ⟨rfl,rfl,hB⟩
 exact⟨_,Qe rfl (by kernel_rfl) (by kernel_rfl) (by kernel_rfl) (hL4.below hB hL4.lt) (hM4.below hB hM4.lt),rfl,hbes.trans (.of_below hB)⟩
theorem QLv {s:Ms} {xs:List Int} {w:World} {p B:Nat}(h:AtN w p B s xs) :
 Calls Tryz.prog 71 #[pT p 0] w (OutV w p B (((JW s).bind fun b=>.done b.2).run xs)):=by
 have hn:=NowN.begin h
 go_enter Tryz.func71,Tryz.ntmps71
 refine JD ?_
 refine QBU hn rfl (by kernel_rfl) (QJF hn.at_) (fun c w' hX hb=>Qv rfl (OutV.err (Tr.run_bind_error hX _) hb)) ?_
 intro v1 s1 xs1 w1 hX hk hn
 refine JS ?_
 refine X8 rfl rfl ?_
 exact OutV.ok ((Tr.run_bind_ok hX _).trans (Tr.run_done _ _)) hn
def QDS (s:Ms)(xs:List Int):Except Cy (Ms×List Int) :=
 match (Jd s).run xs with
 | .ok ((b,t),ys)=>XK ys b t.noLate
 | .error c=>.error c
theorem QPw {s:Ms} {xs:List Int} {w:World} {p B:Nat}(h:AtN w p B s xs) :
 Calls Tryz.prog 73 #[pT p 0] w (OutV w p B (QDS s xs)):=by
 have hn:=NowN.begin h
 go_enter Tryz.func73,Tryz.ntmps73
 refine JD ?_
 refine QBU hn rfl (by kernel_rfl) (QAx hn.at_) (fun c w' hX hb=>Qv rfl (OutV.err (by rw[QDS,hX]) hb)) ?_
 intro v1 s1 xs1 w1 hX hk hn
 have e:QDS s xs=XK xs1 v1 s1.noLate:=by rw[QDS,hX]
 refine ZE hn rfl (by kernel_rfl) (qz v1 hk hn.at_) (fun c w' hX hb=>Qv rfl (OutV.err (e.trans hX) hb)) ?_
 intro s2 xs2 w2 hX hn
 refine JS ?_
 refine X8 rfl rfl ?_
 exact OutV.ok (e.trans hX) hn
theorem QOt (c:Int)(hc:B8 c){L:Nat} {t:TypeId} {s:Ms} {xs:List Int} {w:World} {p B:Nat}(h:AtN w p B s xs)(hL:Row w L t #[.int .u8 c]) :
 Calls Tryz.prog 143 #[pT p 0,pT L 0] w (OutV w p B (XK xs c s.noLate)):=by
 have hn:=NowN.begin h
 go_enter Tryz.func143,Tryz.ntmps143
 refine JD<|oL 2 (ld8 (hL.cell 0)) ?_
 refine ZE hn rfl (by kernel_rfl) (qz c hc hn.at_) (fun c w' hX hb=>Qv rfl (OutV.err hX hb)) ?_
 intro s2 xs2 w2 hX hn
 refine JS ?_
 refine X8 rfl rfl ?_
 exact OutV.ok hX hn
def ms0 (g:Rg):Ms:=⟨g,0,0,0,0,0,0,0,false⟩
theorem QAS {g:Rg}(h:RgB g):MsB (ms0 g):=⟨h,.inl rfl,by simp[ms0],by simp[ms0],by simp[ms0],by simp[ms0],by simp[ms0],Wd16.zero⟩
def jI:Array Value:=mC (ms0 Ja) none 0 0
theorem QTz:(Tryz.prog.info? 118).map (·.size)=some 29:=by kernel_rfl
theorem QOq (w:World):(Instr.alloc 118 true (.tuple #[])).run Tryz.prog w=.ok (pT w.heap.size 0) (w.alloc (.cells jI 118)):=by
 simp[go_sem,jI,Ja,ms0]
theorem QKz (g:Rg)(w:World):(Instr.box 24 (JH g)).run Tryz.prog w=.ok (pT w.heap.size 0) (w.alloc (.cells (JJ g) 24)):=by
 simp[go_sem]
theorem box8 (c:Int)(w:World):(Instr.box 5 (.int .u8 c)).run Tryz.prog w=.ok (pT w.heap.size 0) (w.alloc (.cells #[.int .u8 c] 5)):=by
 simp[go_sem]
theorem QFC {P:Program} {a:Act} {o:Oper} {t:TypeId} {x:Operand} {V R:Value} {w w':World}(ho:o.op=.box t x)(hx:a.eval x=V)(h:(Instr.box t V).run P w=.ok R w'):(execOp a.eval o).run P w=.ok (.value R) w':=by
 unfold execOp
 simp only[ho,hx,Sem.run_bind,h,Result.andThen_ok,Sem.run_pure]
def Qu (g:Rg)(xs:List Int):Except Cy (Ms×List Int):=if g.halted=true then ((JW (ms0 g)).bind fun b=>.done b.2).run xs else QDS (ms0 g) xs
def Xx (g:Rg)(c:Int)(xs:List Int):Except Cy (Ms×List Int):=XK xs c (ms0 g).noLate
def ZB:Except Cy (Ms×List Int)→Cy|.ok _=>JL|.error c=>c
def ZU:Except Cy (Ms×List Int)→Rg|.ok (s,_)=>s.r|.error _=>Ja
def Xe:Except Cy (Ms×List Int)→Bool|.ok _=>true|.error _=>false
theorem XU (X:Except Cy (Ms×List Int)):QBI X=.tuple #[cyV (ZB X),JH (ZU X),.bool (Xe X)]:=by
 rcases X with c|⟨s,ys⟩<;>rfl
section
variable {w:World} {g:Rg} {A:Option Addr} {cap:Nat} {xs:List Int}
theorem at_new {w W:World}(hk:∀ b,b < w.heap.size→W.heap[b]? = w.heap[b]?)(hs:w.heap.size≤W.heap.size)(hg:RgB g)(hc:xs.length≤cap)(h8:Bytes8 xs)(hin:BytesIn w w.heap.size A xs)(ht:Tabs w w.heap.size) :
 AtN ((W.alloc (.cells jI 118)).setCells W.heap.size 0 (mC (ms0 g) A xs.length cap).toList) W.heap.size w.heap.size (ms0 g) xs:=by
 rw[QBy W _ jI (mC (ms0 g) A xs.length cap) rfl]
 have k:∀ b,b < w.heap.size→(W.alloc (.cells (mC (ms0 g) A xs.length cap) 118)).heap[b]? = w.heap[b]?:=fun b hb=>(Below.heap_alloc W _ b (by omega)).trans (hk b hb)
 exact⟨⟨A,cap,hc,Row.new W _ _,hin.keep k⟩,hs,h8,QAS hg,ht.keep k⟩
theorem stM {W:World}(g:Rg)(A:Option Addr)(n cap:Nat):(Instr.storeAt 118 (pT W.heap.size 0) (.agg (mC (ms0 g) A n cap))).run Tryz.prog (W.alloc (.cells jI 118))=.ok () ((W.alloc (.cells jI 118)).setCells W.heap.size 0 (mC (ms0 g) A n cap).toList) :=
 run_storeAt_mid _ _ 0 _ (mC (ms0 g) A n cap) (Row.new W _ jI).there QTz (by simp[mC,Value.oneCell'])
end
theorem QLr (g:Rg)(hg:RgB g)(A:Option Addr)(cap:Nat)(xs:List Int)(hc:xs.length≤cap)(h8:Bytes8 xs)(w:World)(hin:BytesIn w w.heap.size A xs)(ht:Tabs w w.heap.size) :
 Calls Tryz.prog 55 #[JH g,.slice A xs.length cap] w (fun e w'=>e=.returned (QBI (Qu g xs))∧Below w.heap.size w w'):=by
 go_enter Tryz.func55,Tryz.ntmps55
 refine wp_seq_k fun K1 hK1=>JD ?_
 refine Jw 2 (pT w.heap.size 0) rfl (JN rfl) (QFC rfl (by kernel_rfl) (QKz g w)) ?_
 have r0:=Row.new w 24 (JJ g)
 have hb:=Below.alloc (Below.refl w.heap.size w) (Nat.le_refl _) (.cells (JJ g) 24)
 obtain⟨L0,hL0⟩:∃ L,L=w.heap.size:=⟨_,rfl⟩
 rw[←hL0] at r0 ⊢
 have l0:=r0.lt
 generalize w.alloc (.cells (JJ g) 24)=W0 at *
 have hsW0:=hb.size
 refine Jw 4 (pT W0.heap.size 0) rfl (JN rfl) (Qg rfl (jc W0)) ?_
 have r0:=r0.alloc (.cells (cyC JL) 29)
 have r1:=Row.new W0 29 (cyC JL)
 have hb:=Below.alloc hb (by have:=hb.size;omega) (.cells (cyC JL) 29)
 obtain⟨L1,hL1⟩:∃ L,L=W0.heap.size:=⟨_,rfl⟩
 have q1:w.heap.size≤L1∧L0 < L1:=by rw[hL1];exact⟨hsW0,l0⟩
 rw[←hL1] at r1 ⊢
 generalize W0.alloc (.cells (cyC JL) 29)=W1 at *
 have l0:=r0.lt
 have l1:=r1.lt
 have hsW1:=hb.size
 refine Jw 5 (pT W1.heap.size 0) rfl (JN rfl) (Qg rfl (QAq W1)) ?_
 have r0:=r0.alloc (.cells (JJ Ja) 24)
 have r1:=r1.alloc (.cells (JJ Ja) 24)
 have r2:=Row.new W1 24 (JJ Ja)
 have hb:=Below.alloc hb (by have:=hb.size;omega) (.cells (JJ Ja) 24)
 obtain⟨L2,hL2⟩:∃ L,L=W1.heap.size:=⟨_,rfl⟩
 have q2:w.heap.size≤L2∧L0 < L2∧L1 < L2:=by rw[hL2];exact⟨hsW1,l0,l1⟩
 rw[←hL2] at r2 ⊢
 generalize W1.alloc (.cells (JJ Ja) 24)=W2 at *
 have l0:=r0.lt
 have l1:=r1.lt
 have l2:=r2.lt
 have hsW2:=hb.size
 refine oA 6 (.bool false) ?_
 refine JS ?_
 try simp only[Act.put,sA,sB,sC]
 refine JM<|hK1 _ _<|wp_seq_k fun K2 hK2=>JD<|oL 8 (ldR r0.range)<|oM 9 (.slice A xs.length cap)<|oU 10 (mC (ms0 g) A xs.length cap) ?_
 refine Jw 7 (pT W2.heap.size 0) rfl (JN rfl) (Qg rfl (QOq W2)) ?_
 have hat:=at_new (w:=w) (W:=W2) (fun b hlt=>hb.block b hlt) hb.size hg hc h8 hin ht
 refine Xo rfl (JN rfl) (Qy (ad:=⟨W2.heap.size,0,none⟩) (V:=.agg (mC (ms0 g) A xs.length cap)) rfl (by kernel_rfl) (by kernel_rfl) (stM g A xs.length cap)) ?_
 have r0:=(r0.alloc (.cells jI 118)).setFar (by omega) (mC (ms0 g) A xs.length cap).toList 0 (b:=W2.heap.size)
 have r1:=(r1.alloc (.cells jI 118)).setFar (by omega) (mC (ms0 g) A xs.length cap).toList 0 (b:=W2.heap.size)
 have r2:=(r2.alloc (.cells jI 118)).setFar (by omega) (mC (ms0 g) A xs.length cap).toList 0 (b:=W2.heap.size)
 have hb:=Below.setCellsAll (Below.alloc hb (by have:=hb.size;omega) (.cells jI 118)) (b:=W2.heap.size) (by have:=hb.size;omega) (mC (ms0 g) A xs.length cap).toList 0
 obtain⟨p,hp⟩:∃ p,p=W2.heap.size:=⟨_,rfl⟩
 have qp:w.heap.size≤p∧L0 < p∧L1 < p∧L2 < p:=by rw[hp];exact⟨hsW2,l0,l1,l2⟩
 rw[←hp] at hat ⊢
 rw[←hp] at r0 r1 r2 hb
 generalize (W2.alloc (.cells jI 118)).setCells p 0 (mC (ms0 g) A xs.length cap).toList=W at *
 refine JS ?_
 try simp only[Act.put,sA,sB,sC]
 refine JM<|hK2 _ _<|wp_seq_k fun K3 hK3=>wp_seq_k fun K4 hK4=>JD<|oF 11 (fR17 L0)<|oL 12 (ldB (r0.cell 17)) ?_
 refine JS ?_
 try simp only[Act.put,sA,sB,sC]
 refine JM<|hK4 _ _ ?_
 refine wp_cond_split (t:=g.halted) (by kernel_rfl) (fun hh=>?_) (fun hh=>?_)
 · skip
   have e:Qu g xs=((JW (ms0 g)).bind fun b=>.done b.2).run xs:=by rw[Qu,if_pos hh]
   rw[e]
   refine wp_seq_k fun K5 hK5=>JD ?_
   refine Jf 13 (.func (.func 71) #[] #[pT p 0]) rfl (JN rfl) (Qm rfl (by kernel_rfl) (by kernel_rfl) _) ?_
   refine oC (QBI (((JW (ms0 g)).bind fun b=>.done b.2).run xs)) (QO8 71 #[pT p 0] (fun _=>by kernel_rfl) hat (fun w' h' _=>QLv h')) ?_
   intro W' hbes
   have r0:=r0.besides hbes (by omega) (by omega)
   have r1:=r1.besides hbes (by omega) (by omega)
   have r2:=r2.besides hbes (by omega) (by omega)
   have hb:=hb.trans (hbes.below (by omega) (by omega) hb.size)
   rw[XU]
   generalize hX:((JW (ms0 g)).bind fun b=>.done b.2).run xs=X at *
   refine oX 15 #[cyV (ZB X),JH (ZU X),.bool (Xe X)] (cyV (ZB X))<|oX 16 #[cyV (ZB X),JH (ZU X),.bool (Xe X)] (JH (ZU X))<|oX 17 #[cyV (ZB X),JH (ZU X),.bool (Xe X)] (.bool (Xe X))<|oS ⟨L1,0,none⟩ (cyV (ZB X)) (QBY r1) ?_
   have r1':Row (W'.setCells L1 0 (cyC (ZB X)).toList) L1 29 (cyC (ZB X)):=r1.setAll rfl
   have r2':=r2.setFar (by omega:L2≠L1) (cyC (ZB X)).toList 0
   have hb:=Below.setCellsAll hb (b:=L1) (by omega) (cyC (ZB X)).toList 0
   refine oS ⟨L2,0,none⟩ (JH (ZU X)) (QBt r2') ?_
   have r1':=r1'.setFar (by omega:L1≠L2) (JJ (ZU X)).toList 0
   have r2':Row ((W'.setCells L1 0 (cyC (ZB X)).toList).setCells L2 0 (JJ (ZU X)).toList) L2 24 (JJ (ZU X)):=r2'.setAll rfl
   have hb:=Below.setCellsAll hb (b:=L2) (by omega) (JJ (ZU X)).toList 0
   refine oA 6 (.bool (Xe X)) ?_
   refine JS ?_
   try simp only[Act.put,sA,sB,sC]
   refine JM<|hK5 _ _ ?_
   refine wp_ret ?_
   refine QLY ?_
   exact bodyPost_ret (Qe rfl (by kernel_rfl) (by kernel_rfl) (by kernel_rfl) r1' r2') rfl ⟨by first|rfl|(rw[XU];done)|(rw[e,XU];done),hb⟩
 · skip
   have e:Qu g xs=QDS (ms0 g) xs:=by rw[Qu,if_neg (by rw[hh];decide)]
   rw[e]
   refine wp_skip ?_
   refine JM<|hK3 _ _ ?_
   rw[e]
   refine wp_seq_k fun K5 hK5=>JD ?_
   refine Jf 18 (.func (.func 73) #[] #[pT p 0]) rfl (JN rfl) (Qm rfl (by kernel_rfl) (by kernel_rfl) _) ?_
   refine oC (QBI (QDS (ms0 g) xs)) (QO8 73 #[pT p 0] (fun _=>by kernel_rfl) hat (fun w' h' _=>QPw h')) ?_
   intro W' hbes
   have r0:=r0.besides hbes (by omega) (by omega)
   have r1:=r1.besides hbes (by omega) (by omega)
   have r2:=r2.besides hbes (by omega) (by omega)
   have hb:=hb.trans (hbes.below (by omega) (by omega) hb.size)
   rw[XU]
   generalize hX:QDS (ms0 g) xs=X at *
   refine oX 20 #[cyV (ZB X),JH (ZU X),.bool (Xe X)] (cyV (ZB X))<|oX 21 #[cyV (ZB X),JH (ZU X),.bool (Xe X)] (JH (ZU X))<|oX 22 #[cyV (ZB X),JH (ZU X),.bool (Xe X)] (.bool (Xe X))<|oS ⟨L1,0,none⟩ (cyV (ZB X)) (QBY r1) ?_
   have r1':Row (W'.setCells L1 0 (cyC (ZB X)).toList) L1 29 (cyC (ZB X)):=r1.setAll rfl
   have r2':=r2.setFar (by omega:L2≠L1) (cyC (ZB X)).toList 0
   have hb:=Below.setCellsAll hb (b:=L1) (by omega) (cyC (ZB X)).toList 0
   refine oS ⟨L2,0,none⟩ (JH (ZU X)) (QBt r2') ?_
   have r1':=r1'.setFar (by omega:L1≠L2) (JJ (ZU X)).toList 0
   have r2':Row ((W'.setCells L1 0 (cyC (ZB X)).toList).setCells L2 0 (JJ (ZU X)).toList) L2 24 (JJ (ZU X)):=r2'.setAll rfl
   have hb:=Below.setCellsAll hb (b:=L2) (by omega) (JJ (ZU X)).toList 0
   refine oA 6 (.bool (Xe X)) ?_
   refine JS ?_
   try simp only[Act.put,sA,sB,sC]
   refine JM<|hK5 _ _ ?_
   refine wp_ret ?_
   exact bodyPost_ret (Qe rfl (by kernel_rfl) (by kernel_rfl) (by kernel_rfl) r1' r2') rfl ⟨by first|rfl|(rw[XU];done)|(rw[e,XU];done),hb⟩
theorem QJf (g:Rg)(hg:RgB g)(c:Int)(hcb:B8 c)(A:Option Addr)(cap:Nat)(xs:List Int)(hc:xs.length≤cap)(h8:Bytes8 xs)(w:World)(hin:BytesIn w w.heap.size A xs)(ht:Tabs w w.heap.size) :
 Calls Tryz.prog 96 #[JH g,.int .u8 c,.slice A xs.length cap] w (fun e w'=>e=.returned (QBI (Xx g c xs))∧Below w.heap.size w w'):=by
 go_enter Tryz.func96,Tryz.ntmps96
 refine wp_seq_k fun K1 hK1=>JD ?_
 refine Jw 3 (pT w.heap.size 0) rfl (JN rfl) (QFC rfl (by kernel_rfl) (QKz g w)) ?_
 have r0:=Row.new w 24 (JJ g)
 have hb:=Below.alloc (Below.refl w.heap.size w) (Nat.le_refl _) (.cells (JJ g) 24)
 obtain⟨L0,hL0⟩:∃ L,L=w.heap.size:=⟨_,rfl⟩
 rw[←hL0] at r0 ⊢
 have l0:=r0.lt
 generalize w.alloc (.cells (JJ g) 24)=W0 at *
 have hsW0:=hb.size
 refine Jw 4 (pT W0.heap.size 0) rfl (JN rfl) (QFC rfl (by kernel_rfl) (box8 c W0)) ?_
 have r0:=r0.alloc (.cells #[.int .u8 c] 5)
 have r1:=Row.new W0 5 #[.int .u8 c]
 have hb:=Below.alloc hb (by have:=hb.size;omega) (.cells #[.int .u8 c] 5)
 obtain⟨L1,hL1⟩:∃ L,L=W0.heap.size:=⟨_,rfl⟩
 have q1:w.heap.size≤L1∧L0 < L1:=by rw[hL1];exact⟨hsW0,l0⟩
 rw[←hL1] at r1 ⊢
 generalize W0.alloc (.cells #[.int .u8 c] 5)=W1 at *
 have l0:=r0.lt
 have l1:=r1.lt
 have hsW1:=hb.size
 refine Jw 6 (pT W1.heap.size 0) rfl (JN rfl) (Qg rfl (jc W1)) ?_
 have r0:=r0.alloc (.cells (cyC JL) 29)
 have r1:=r1.alloc (.cells (cyC JL) 29)
 have r2:=Row.new W1 29 (cyC JL)
 have hb:=Below.alloc hb (by have:=hb.size;omega) (.cells (cyC JL) 29)
 obtain⟨L2,hL2⟩:∃ L,L=W1.heap.size:=⟨_,rfl⟩
 have q2:w.heap.size≤L2∧L0 < L2∧L1 < L2:=by rw[hL2];exact⟨hsW1,l0,l1⟩
 rw[←hL2] at r2 ⊢
 generalize W1.alloc (.cells (cyC JL) 29)=W2 at *
 have l0:=r0.lt
 have l1:=r1.lt
 have l2:=r2.lt
 have hsW2:=hb.size
 refine Jw 7 (pT W2.heap.size 0) rfl (JN rfl) (Qg rfl (QAq W2)) ?_
 have r0:=r0.alloc (.cells (JJ Ja) 24)
 have r1:=r1.alloc (.cells (JJ Ja) 24)
 have r2:=r2.alloc (.cells (JJ Ja) 24)
 have r3:=Row.new W2 24 (JJ Ja)
 have hb:=Below.alloc hb (by have:=hb.size;omega) (.cells (JJ Ja) 24)
 obtain⟨L3,hL3⟩:∃ L,L=W2.heap.size:=⟨_,rfl⟩
 have q3:w.heap.size≤L3∧L0 < L3∧L1 < L3∧L2 < L3:=by rw[hL3];exact⟨hsW2,l0,l1,l2⟩
 rw[←hL3] at r3 ⊢
 generalize W2.alloc (.cells (JJ Ja) 24)=W3 at *
 have l0:=r0.lt
 have l1:=r1.lt
 have l2:=r2.lt
 have l3:=r3.lt
 have hsW3:=hb.size
 refine oA 8 (.bool false) ?_
 refine JS ?_
 try simp only[Act.put,sA,sB,sC]
 refine JM<|hK1 _ _<|wp_seq_k fun K2 hK2=>JD<|oL 10 (ldR r0.range)<|oM 11 (.slice A xs.length cap)<|oU 12 (mC (ms0 g) A xs.length cap) ?_
 refine Jw 9 (pT W3.heap.size 0) rfl (JN rfl) (Qg rfl (QOq W3)) ?_
 have hat:=at_new (w:=w) (W:=W3) (fun b hlt=>hb.block b hlt) hb.size hg hc h8 hin ht
 refine Xo rfl (JN rfl) (Qy (ad:=⟨W3.heap.size,0,none⟩) (V:=.agg (mC (ms0 g) A xs.length cap)) rfl (by kernel_rfl) (by kernel_rfl) (stM g A xs.length cap)) ?_
 have r0:=(r0.alloc (.cells jI 118)).setFar (by omega) (mC (ms0 g) A xs.length cap).toList 0 (b:=W3.heap.size)
 have r1:=(r1.alloc (.cells jI 118)).setFar (by omega) (mC (ms0 g) A xs.length cap).toList 0 (b:=W3.heap.size)
 have r2:=(r2.alloc (.cells jI 118)).setFar (by omega) (mC (ms0 g) A xs.length cap).toList 0 (b:=W3.heap.size)
 have r3:=(r3.alloc (.cells jI 118)).setFar (by omega) (mC (ms0 g) A xs.length cap).toList 0 (b:=W3.heap.size)
 have hb:=Below.setCellsAll (Below.alloc hb (by have:=hb.size;omega) (.cells jI 118)) (b:=W3.heap.size) (by have:=hb.size;omega) (mC (ms0 g) A xs.length cap).toList 0
 obtain⟨p,hp⟩:∃ p,p=W3.heap.size:=⟨_,rfl⟩
 have qp:w.heap.size≤p∧L0 < p∧L1 < p∧L2 < p∧L3 < p:=by rw[hp];exact⟨hsW3,l0,l1,l2,l3⟩
 rw[←hp] at hat ⊢
 rw[←hp] at r0 r1 r2 r3 hb
 generalize (W3.alloc (.cells jI 118)).setCells p 0 (mC (ms0 g) A xs.length cap).toList=W at *
 refine JS ?_
 try simp only[Act.put,sA,sB,sC]
 refine JM<|hK2 _ _<|wp_seq_k fun K3 hK3=>JD ?_
 refine Jf 13 (.func (.func 143) #[] #[pT p 0,pT L1 0]) rfl (JN rfl) (Qm rfl (by kernel_rfl) (by kernel_rfl) _) ?_
 refine oC (QBI (Xx g c xs)) (QO8 143 #[pT p 0,pT L1 0] (fun _=>by kernel_rfl) hat (fun w' h' hbw=>QOt c hcb h' (r1.below hbw r1.lt))) ?_
 intro W' hbes
 have r0:=r0.besides hbes (by omega) (by omega)
 have r1:=r1.besides hbes (by omega) (by omega)
 have r2:=r2.besides hbes (by omega) (by omega)
 have r3:=r3.besides hbes (by omega) (by omega)
 have hb:=hb.trans (hbes.below (by omega) (by omega) hb.size)
 rw[XU]
 generalize hX:Xx g c xs=X at *
 refine oX 15 #[cyV (ZB X),JH (ZU X),.bool (Xe X)] (cyV (ZB X))<|oX 16 #[cyV (ZB X),JH (ZU X),.bool (Xe X)] (JH (ZU X))<|oX 17 #[cyV (ZB X),JH (ZU X),.bool (Xe X)] (.bool (Xe X))<|oS ⟨L2,0,none⟩ (cyV (ZB X)) (QBY r2) ?_
 have r2':Row (W'.setCells L2 0 (cyC (ZB X)).toList) L2 29 (cyC (ZB X)):=r2.setAll rfl
 have r3':=r3.setFar (by omega:L3≠L2) (cyC (ZB X)).toList 0
 have hb:=Below.setCellsAll hb (b:=L2) (by omega) (cyC (ZB X)).toList 0
 refine oS ⟨L3,0,none⟩ (JH (ZU X)) (QBt r3') ?_
 have r2':=r2'.setFar (by omega:L2≠L3) (JJ (ZU X)).toList 0
 have r3':Row ((W'.setCells L2 0 (cyC (ZB X)).toList).setCells L3 0 (JJ (ZU X)).toList) L3 24 (JJ (ZU X)):=r3'.setAll rfl
 have hb:=Below.setCellsAll hb (b:=L3) (by omega) (JJ (ZU X)).toList 0
 refine oA 8 (.bool (Xe X)) ?_
 refine JS ?_
 try simp only[Act.put,sA,sB,sC]
 refine JM<|hK3 _ _ ?_
 refine wp_ret ?_
 exact bodyPost_ret (Qe rfl (by kernel_rfl) (by kernel_rfl) (by kernel_rfl) r2' r3') rfl ⟨by first|rfl|(rw[XU];done)|(rw[e,XU];done),hb⟩
def J4 (rd:Int→Bool)(f:List Int→Cy×Bool):Nat→List Int→List Int→Int→Int×List Int
 | 0,got,ans,n=>(n,got)
 | k+1,got,ans,n =>
   if (f got).2=true then (n,got) else
   if rd (f got).1.kind=true then J4 rd f k (got++[ans.headD 0]) ans.tail (n+(f got).1.t) else J4 rd f k (got++[0]) ans (n+(f got).1.t)
def g5:Rg:={ Ja with pc:=5 }
def Tr.Depth {α:Type}:Tr α→Nat→Prop
 | .done _,_=>True
 | .ask _ _,0=>False
 | .ask _ k,d+1=>∀ b,(k b).Depth d
theorem Tr.depth_done {α:Type}(a:α)(d:Nat):(Tr.done a).Depth d:=by cases d<;>exact trivial
theorem Tr.depth_ask {α:Type} {c:Cy} {k:Int→Tr α} {d:Nat}(h:∀ b,(k b).Depth d):(Tr.ask c k).Depth (d+1):=h
theorem Tr.Depth.mono {α:Type} {t:Tr α}:∀ {m n:Nat},t.Depth m→m≤n→t.Depth n:=by
 induction t with
 | done a=>intro m n _ _;exact Tr.depth_done _ _
 | ask c k ih =>
   intro m n h hmn
   cases m with
   | zero=>exact h.elim
   | succ m =>
     cases n with
     | zero=>omega
     | succ n=>exact fun b=>ih b (h b) (by omega)
theorem Tr.Depth.bind {α β:Type} {t:Tr α} {f:α→Tr β}:∀ {m n:Nat},t.Depth m→(∀ a,(f a).Depth n)→(t.bind f).Depth (m+n):=by
 induction t with
 | done a=>intro m n _ hf;exact (hf a).mono (by omega)
 | ask c k ih =>
   intro m n h hf
   cases m with
   | zero=>exact h.elim
   | succ m =>
     rw[show m+1+n=(m+n)+1 by omega]
     exact fun b=>ih b (h b) hf
def CyK (c:Cy):Prop:=1≤c.kind∧c.kind≤7∧c.kind≠6∧1≤c.t∧c.t≤7∧(c.kind≠3→c.kind≠5→c.data=0)∧(c.kind≠7→(c.kind=4∨c.kind=5→3 < c.t)∧2 < c.t)
def Tr.Deaf {α:Type}:Tr α→Prop
 | .done _=>True
 | .ask c k=>CyK c∧(c.kind=3∨c.kind=5∨c.kind=7→∀ b b',k b=k b')∧∀ b,(k b).Deaf
theorem Tr.Deaf.bind {α β:Type} {t:Tr α} {f:α→Tr β}(h:t.Deaf)(hf:∀ a,(f a).Deaf):(t.bind f).Deaf:=by
 induction t with
 | done a=>exact hf a
 | ask c k ih=>exact⟨h.1,fun hk b b'=>by show (k b).bind f=(k b').bind f;rw[h.2.1 hk b b'],fun b=>ih b (h.2.2 b)⟩
theorem Tr.Deaf.run {α:Type} {t:Tr α}(h:t.Deaf):∀ {xs:List Int} {c:Cy},t.run xs=.error c→(c.kind=3∨c.kind=5∨c.kind=7)→∀ b b' zs,t.run (xs++b :: zs)=t.run (xs++b' :: zs):=by
 induction t with
 | done a=>intro xs c e;rw[Tr.run_done] at e;cases e
 | ask c k ih =>
   intro xs c' e hk b b' zs
   cases xs with
   | nil =>
     rw[Tr.run_nil] at e
     injection e with e;subst e
     show (k b).run zs=(k b').run zs
     rw[h.2.1 hk b b']
   | cons x xs=>exact ih x (h.2.2 x) e hk b b' zs
theorem Tr.Deaf.error {α:Type} {t:Tr α}(h:t.Deaf):∀ {xs:List Int} {c:Cy},t.run xs=.error c→CyK c:=by
 induction t with
 | done a=>intro xs c e;rw[Tr.run_done] at e;cases e
 | ask c k ih =>
   intro xs c' e
   cases xs with
   | nil =>
     rw[Tr.run_nil] at e
     injection e with e;subst e
     exact h.1
   | cons x xs=>exact ih x (h.2.2 x) e
theorem Tr.run_ends {α:Type} {t:Tr α}:∀ {d:Nat} {xs:List Int},t.Depth d→d≤xs.length→∃ a ys,t.run xs=.ok (a,ys):=by
 induction t with
 | done a=>intro d xs _ _;exact⟨a,xs,Tr.run_done _ _⟩
 | ask c k ih =>
   intro d xs h hd
   cases d with
   | zero=>exact h.elim
   | succ d =>
     cases xs with
     | nil=>simp at hd
     | cons x xs=>exact ih x (h x) (by simpa using hd)
theorem jT (a:Int)(s:Ms):(Jq a s).Deaf:=⟨by simp[CyK],fun h=>absurd (show (2:Int)=3∨(2:Int)=5∨(2:Int)=7 from h) (by decide),fun _=>trivial⟩
theorem QKr (a:Int)(s:Ms):(inN a s).Deaf:=⟨by simp[CyK],fun h=>absurd (show (4:Int)=3∨(4:Int)=5∨(4:Int)=7 from h) (by decide),fun _=>trivial⟩
theorem QIw (s:Ms):(JW s).Deaf:=⟨by simp[CyK],fun h=>absurd (show (1:Int)=3∨(1:Int)=5∨(1:Int)=7 from h) (by decide),fun _=>trivial⟩
theorem Xm (a b:Int)(s:Ms):(Jc a b s).Deaf:=⟨by simp[CyK],fun _ _ _=>rfl,fun _=>trivial⟩
theorem QIt (a b:Int)(s:Ms):(QM a b s).Deaf:=⟨by simp[CyK],fun _ _ _=>rfl,fun _=>trivial⟩
theorem ZH (n:Int)(s:Ms)(h:1≤n∧n≤7:=by decide):(JT n s).Deaf:=⟨by simpa [CyK] using h,fun _ _ _=>rfl,fun _=>trivial⟩
theorem QE9 (s:Ms):(Jd s).Deaf:=Tr.Deaf.bind (QIw s) fun _=>trivial
theorem Zp (s:Ms):(JV s).Deaf:=Tr.Deaf.bind (jT ..) fun _=>trivial
theorem QCe (s:Ms):(Jt s).Deaf:=Tr.Deaf.bind (Zp _) fun _=>Tr.Deaf.bind (Zp _) fun _=>trivial
theorem QAJ (a:Int)(s:Ms):(JY a s).Deaf:=Tr.Deaf.bind (jT ..) fun _=>Tr.Deaf.bind (jT ..) fun _=>trivial
theorem deaf_push (x:Int)(s:Ms):(Jv x s).Deaf:=Tr.Deaf.bind (Xm ..) fun _=>Xm ..
theorem QIZ (s:Ms):(QS s).Deaf:=Tr.Deaf.bind (QAJ ..) fun _=>trivial
theorem XR {α:Type} {c:Prop} [Decidable c] {t u:Tr α}(h:t.Deaf)(k:u.Deaf):(if c then t else u).Deaf:=by split<;>assumption
theorem QCA (k:Int)(s:Ms):(ZN k s).Deaf:=XR (jT ..) trivial
theorem QFZ (k b:Int)(s:Ms):(ZW k b s).Deaf:=XR (Xm ..) trivial
theorem QI0 (s:Ms):(QET s).Deaf:=Tr.Deaf.bind (Zp _) fun _=>trivial
theorem QMQ (b:Bool)(s:Ms):(j3 b s).Deaf:=Tr.Deaf.bind (Zp _) fun _=>XR (Tr.Deaf.bind (ZH ..) fun _=>trivial) trivial
theorem QMI (b:Bool)(s:Ms):(QBn b s).Deaf:=Tr.Deaf.bind (QCe _) fun _=>XR (Tr.Deaf.bind (ZH ..) fun _=>Tr.Deaf.bind (deaf_push ..) fun _=>trivial) trivial
theorem QH4 (a:Int)(s:Ms):(jz a s).Deaf:=Tr.Deaf.bind (Xm ..) fun _=>trivial
theorem QJ7 (a:Int)(s:Ms):(QAU a s).Deaf:=Tr.Deaf.bind (jT ..) fun _=>trivial
theorem QAZ (a x:Int)(s:Ms):(XW a x s).Deaf:=Tr.Deaf.bind (Xm ..) fun _=>Tr.Deaf.bind (Xm ..) fun _=>trivial
theorem QBL (a:Int)(s:Ms):(Xu a s).Deaf:=Tr.Deaf.bind (QAJ ..) fun _=>trivial
theorem QHE (s:Ms):(XV s).Deaf:=by
 unfold XV ZV zM jE ji zd Zi XX jS ZT Q8 QD0 j4 zk Xl
 repeat' first
  | exact trivial
  | exact QMQ ..
  | exact QMI ..
  | exact QH4 ..
  | exact QJ7 ..
  | exact QAZ ..
  | exact QCA ..
  | exact QFZ ..
  | exact deaf_push ..
  | refine Tr.Deaf.bind (ZH ..) fun _=>?_
  | refine Tr.Deaf.bind (QCe ..) fun _=>?_
  | refine Tr.Deaf.bind (QAJ ..) fun _=>?_
  | refine Tr.Deaf.bind (QIZ ..) fun _=>?_
  | refine Tr.Deaf.bind (Zp ..) fun _=>?_
  | refine Tr.Deaf.bind (QCA ..) fun _=>?_
  | refine Tr.Deaf.bind (QBL ..) fun _=>?_
  | refine Tr.Deaf.bind (QIt ..) fun _=>?_
  | refine Tr.Deaf.bind (QKr ..) fun _=>?_
  | refine Tr.Deaf.bind (deaf_push ..) fun _=>?_
  | refine Tr.Deaf.bind (Xm ..) fun _=>?_
  | refine Tr.Deaf.bind (XR (ZH ..) trivial) fun _=>?_
  | refine XR ?_ ?_
theorem QFc (s:Ms):(qL s).Deaf:=by
 unfold qL jL qq zW qo jh X6 Xp qf ZJ Zl Zn Zm Zj ja
 repeat' first
  | exact trivial
  | exact QAZ ..
  | exact QFZ ..
  | refine Tr.Deaf.bind (ZH ..) fun _=>?_
  | refine Tr.Deaf.bind (QCe ..) fun _=>?_
  | refine Tr.Deaf.bind (QIZ ..) fun _=>?_
  | refine Tr.Deaf.bind (QBL ..) fun _=>?_
  | refine Tr.Deaf.bind (jT ..) fun _=>?_
  | refine Tr.Deaf.bind (Xm ..) fun _=>?_
  | refine Tr.Deaf.bind (QIt ..) fun _=>?_
  | refine Tr.Deaf.bind (QKr ..) fun _=>?_
  | refine Tr.Deaf.bind (XR trivial (QCA ..)) fun _=>?_
  | refine XR ?_ ?_
  | refine Tr.Deaf.bind ?_ fun _=>?_
theorem QFg (s:Ms):(Z6 s).Deaf:=by
 unfold Z6 Za jb XQ XO jF
 repeat' first
  | exact trivial
  | exact QFZ ..
  | exact QCA ..
  | exact Xm ..
  | refine Tr.Deaf.bind (ZH ..) fun _=>?_
  | refine Tr.Deaf.bind (jT ..) fun _=>?_
  | refine XR ?_ ?_
  | refine Tr.Deaf.bind ?_ fun _=>?_
theorem QGM (c:Int)(s:Ms):(QBP c s).Deaf:=by
 unfold QBP
 refine XR (Tr.Deaf.bind (Tr.Deaf.bind ?_ fun _=>trivial) fun _=>QFg _) (XR (Tr.Deaf.bind (Tr.Deaf.bind (QE9 _) fun _=>trivial) fun _=>QFc _) (Tr.Deaf.bind ?_ fun _=>QHE _))
 · unfold Zd
   exact XR (QE9 _) (Tr.Deaf.bind (QI0 _) fun _=>Tr.Deaf.bind (Zp _) fun _=>Tr.Deaf.bind (ZH ..) fun _=>trivial)
 · unfold Xg
   exact XR (Tr.Deaf.bind (QI0 _) fun _=>XR (ZH ..) trivial) trivial
theorem j8 {α:Type} {c:Prop} [Decidable c] {t u:Tr α} {d:Nat}(h:t.Depth d)(k:u.Depth d):(if c then t else u).Depth d:=by split<;>assumption
theorem qc {α β:Type} {c:Prop} [Decidable c] {t u:Tr α} {f:α→Tr β} {d:Nat}(h:(t.bind f).Depth d)(k:(u.bind f).Depth d):((if c then t else u).bind f).Depth d:=by split<;>assumption
theorem QFf (s:Ms):(XV s).Depth 6:=by
 unfold XV ZV zM jE ji zd Zi XX jS ZT Q8 QD0 j4 zk Xl QBn j3 jz QAU XW Xu ZN ZW
 repeat' first
  | exact Tr.depth_done _ _
  | refine j8 ?_ ?_
  | refine qc ?_ ?_
  | refine Tr.depth_ask fun _=>?_
theorem QDx (s:Ms):(qL s).Depth 6:=by
 unfold qL jL qq zW qo jh X6 Xp qf ZJ Zl Zn Zm Zj ja XW Xu ZN ZW
 repeat' first
  | exact Tr.depth_done _ _
  | refine j8 ?_ ?_
  | refine qc ?_ ?_
  | refine Tr.depth_ask fun _=>?_
theorem QEl (s:Ms):(Z6 s).Depth 4:=by
 unfold Z6 Za jb XQ XO jF ZN ZW
 repeat' first
  | exact Tr.depth_done _ _
  | refine j8 ?_ ?_
  | refine qc ?_ ?_
  | refine Tr.depth_ask fun _=>?_
theorem QJl (c:Int)(s:Ms):(QBP c s).Depth 8:=by
 unfold QBP
 refine j8 ?_ (j8 ?_ ?_)
 · refine Tr.Depth.mono (Tr.Depth.bind (m:=3) (n:=4) ?_ fun _=>QEl _) (by decide)
   unfold Zd
   repeat' first
    | exact Tr.depth_done _ _
    | refine qc ?_ ?_
    | refine Tr.depth_ask fun _=>?_
 · exact Tr.Depth.mono (Tr.Depth.bind (m:=1) (n:=6) (Tr.depth_ask fun _=>Tr.depth_done _ _) fun _=>QDx _) (by decide)
 · refine Tr.Depth.bind (m:=2) (n:=6) ?_ fun _=>QFf _
   unfold Xg
   repeat' first
    | exact Tr.depth_done _ _
    | refine j8 ?_ ?_
    | refine qc ?_ ?_
    | refine Tr.depth_ask fun _=>?_
def QDb (xs:List Int):Nat→Nat
 | 0=>0
 | k+1=>QDb xs k+lenOf (xs.drop (QDb xs k))
def Runs (xs:List Int)(k:Nat):Prop:=∀ j,j < k→okM (xs.drop (QDb xs j))=true
def Stops (xs:List Int)(k:Nat):Prop:=Runs xs k∧okM (xs.drop (QDb xs k))=false
theorem Runs.zero (xs:List Int):Runs xs 0:=fun j hj=>by omega
theorem Runs.succ {xs:List Int} {k:Nat}(h:Runs xs k)(o:okM (xs.drop (QDb xs k))=true):Runs xs (k+1):=fun j hj=>by
 by_cases e:j=k
 · subst e;exact o
 · exact h j (by omega)
theorem QSM {ys:List Int}(h:okM ys=true):lenOf ys≤ys.length:=by
 unfold okM at h
 exact of_decide_eq_true h
theorem Runs.pos {xs:List Int} {k:Nat}(h:Runs xs k):k≤QDb xs k∧QDb xs k≤xs.length:=by
 induction k with
 | zero=>exact⟨Nat.le_refl _,Nat.zero_le _⟩
 | succ k ih =>
   have h1:=ih (fun j hj=>h j (by omega))
   have h2:=QSM (h k (by omega))
   have h3:=QIR (xs.drop (QDb xs k))
   rw[List.length_drop] at h2
   show k+1≤QDb xs k+lenOf (xs.drop (QDb xs k))∧QDb xs k+lenOf (xs.drop (QDb xs k))≤xs.length
   omega
theorem Stops.same {xs:List Int} {j k:Nat}(h:Stops xs j)(h':Stops xs k):j=k:=by
 rcases Nat.lt_trichotomy j k with e|e|e
 · have:=h'.1 j e
   rw[h.2] at this
   cases this
 · exact e
 · have:=h.1 k e
   rw[h'.2] at this
   cases this
theorem Bytes8.drop {xs:List Int}(h:Bytes8 xs)(k:Nat):Bytes8 (xs.drop k):=fun x hx=>h x (List.mem_of_mem_drop hx)
theorem Bytes8.take {xs:List Int}(h:Bytes8 xs)(k:Nat):Bytes8 (xs.take k):=fun x hx=>h x (List.mem_of_mem_take hx)
theorem Bytes8.append {xs ys:List Int}(h:Bytes8 xs)(h':Bytes8 ys):Bytes8 (xs++ys):=fun x hx=>by
 rcases List.mem_append.1 hx with e|e
 · exact h x e
 · exact h' x e
theorem QFw (c:Int):QAN c=true↔c=221∨c=253:=by unfold QAN;simp
theorem QL0 (c:Int):QAN c=false↔¬(c=221∨c=253):=by unfold QAN;simp
def preS (c:Int)(s:Ms):Ms:=({ s.toPlane (if c=253 then 4 else 3) with r:=ZI s.r 1 }:Ms).pcUp
theorem QNQ {c:Int}(h:c=221∨c=253)(s:Ms):XK [] c s=.error ⟨1,s.r.pc,0,4⟩:=by rw[XK,if_pos h]
theorem QF0 {c:Int}(h:c=221∨c=253)(s:Ms)(b:Int)(bs:List Int):XK (b :: bs) c s=XK bs b (preS c s):=by rw[XK,if_pos h];rfl
theorem QL1:∀ (xs:List Int) (c:Int) (s:Ms),lead (c :: xs)+8≤xs.length→∃ a ys,XK xs c s=.ok (a,ys):=by
 intro xs
 induction xs with
 | nil=>intro c s h;simp at h
 | cons b bs ih =>
   intro c s h
   by_cases hp:c=221∨c=253
   · rw[QF0 hp]
     rw[QFk _ _ ((QFw c).2 hp),List.length_cons] at h
     exact ih b _ (by omega)
   · rw[zU hp]
     rw[QHn _ _ ((QL0 c).2 hp)] at h
     exact Tr.run_ends (QJl c s) (by omega)
theorem QLU (a:Int):CyK ⟨1,a,0,4⟩:=by simp[CyK]
theorem QPX {e:Cy}:∀ {xs:List Int} {c:Int} {s:Ms},XK xs c s=.error e→CyK e:=by
 intro xs
 induction xs with
 | nil =>
   intro c s h
   by_cases hp:c=221∨c=253
   · rw[QNQ hp] at h
     injection h with h;subst h
     exact QLU _
   · rw[zU hp] at h;exact (QGM c s).error h
 | cons x xs ih =>
   intro c s h
   by_cases hp:c=221∨c=253
   · rw[QF0 hp] at h;exact ih h
   · rw[zU hp] at h;exact (QGM c s).error h
def ms1 (g:Rg):Ms:=(({ ms0 g with r:=ZI g 1 }:Ms).pcUp).noLate
theorem QD3 (g:Rg):Qu g []=.error ⟨1,g.pc,0,4⟩:=by unfold Qu;split<;>rfl
theorem QCS {g:Rg}(h:g.halted=true)(b:Int)(bs:List Int):Qu g (b :: bs)=.ok ({ ms0 g with r:=ZI g 1 },bs):=by unfold Qu;rw[if_pos h];exact Tr.run_done _ _
theorem QAh {g:Rg}(h:g.halted=false)(b:Int)(bs:List Int):Qu g (b :: bs)=XK bs b (ms1 g):=by unfold Qu;rw[if_neg (by rw[h];simp)];rfl
theorem QMF (g:Rg)(xs:List Int)(h:lead xs+9≤xs.length):∃ a ys,Qu g xs=.ok (a,ys):=by
 cases xs with
 | nil=>simp at h
 | cons b bs =>
   cases hh:g.halted with
   | true=>exact⟨_,_,QCS hh b bs⟩
   | false=>rw[QAh hh];exact QL1 bs b _ (by simpa using h)
theorem QOC {g:Rg} {e:Cy} {xs:List Int}(h:Qu g xs=.error e):CyK e:=by
 cases xs with
 | nil=>rw[QD3] at h;injection h with h;subst h;exact QLU _
 | cons x xs =>
   cases hh:g.halted with
   | true=>rw[QCS hh] at h;cases h
   | false=>rw[QAh hh] at h;exact QPX h
theorem QQm {g:Rg} {c:Int} {e:Cy} {xs:List Int}(h:Xx g c xs=.error e):CyK e:=QPX h
theorem QMu {rd:Int→Bool} {f:List Int→Cy×Bool}(hf:∀ xs,(f xs).2=false→1≤(f xs).1.t∧(f xs).1.t≤7):∀ (k:Nat) (got ans:List Int) (n:Int),n≤(J4 rd f k got ans n).1∧(J4 rd f k got ans n).1≤n+7*k:=by
 intro k
 induction k with
 | zero=>intro got ans n;exact⟨Int.le_refl _,by show n≤_;omega⟩
 | succ k ih =>
   intro got ans n
   unfold J4
   split
   · exact⟨Int.le_refl _,by show n≤_;omega⟩
   · rename_i h
     have ht:=hf got (by simpa using h)
     split
     · have:=ih (got++[ans.headD 0]) ans.tail (n+(f got).1.t)
       omega
     · have:=ih (got++[0]) ans (n+(f got).1.t)
       omega
def ZS (g:Rg)(nmi irq:Bool):Int:=if nmi then 1 else if irq&&(g.iff1&&!g.late) then 2 else 0
structure T3 where
 c:Cy
 g:Rg
 b:Bool
def QKf (c:Cy):T3:=⟨c,Ja,false⟩
def QJP (g:Rg):T3:=⟨JL,g,true⟩
def ofX (X:Except Cy (Ms×List Int)):T3:=⟨ZB X,ZU X,Xe X⟩
def Q7 (sp pc:Int):List Cy:=[⟨7,0,0,1⟩,⟨3,(sp-1)%65536,pc / 256,3⟩,⟨3,(sp-2)%65536,pc%256,3⟩]
def Z1 (at_:Int):List Cy:=[⟨2,at_,0,3⟩,⟨2,(at_+1)%65536,0,3⟩]
def Qj (l:List Cy)(g:Rg)(n:Nat):T3:=if n < l.length then QKf (l.getD n JL) else QJP g
def jf (g:Rg)(iff1 iff2:Bool):Rg:={ ZI g 1 with halted:=false,late:=false,iff1:=iff1,iff2:=iff2 }
def X4 (g:Rg)(aim:Int):Rg:={ g with sp:=(g.sp-2)%65536,pc:=aim,wz:=aim }
def Z2 (v:Int):Bool:=v==203||(v==221||(v==237||v==253))
def QCG (g:Rg)(v:Int)(xs:List Int):T3 :=
 if g.mode=0 then (if Z2 v=true then QJP (jf g false false) else ofX (Xx (jf g false false) v xs)) else
 if g.mode=1 then Qj (Q7 g.sp g.pc) (X4 (jf g false false) 56) xs.length else
 Qj (Q7 g.sp g.pc++Z1 (256*g.i+v)) (X4 (jf g false false) (256*xs.getD 4 0+xs.getD 3 0)) xs.length
def Jr (g:Rg)(which:Int)(xs:List Int):T3 :=
 if which=1 then (match xs with|[]=>QKf ⟨1,g.pc,0,4⟩|_ :: ys=>Qj (Q7 g.sp g.pc) (X4 (jf g false g.iff2) 102) ys.length) else
 if which=2 then (match xs with|[]=>QKf ⟨6,g.pc,0,6⟩|v :: ys=>QCG g v ys) else ofX (Qu g xs)
def Q5 (k:Int):Bool:=k==1||(k==2||(k==4||k==6))
def acF (g:Rg)(which:Int)(xs:List Int):Cy×Bool:=((Jr g which xs).c,(Jr g which xs).b)
def qa (g:Rg)(which:Int)(ans:List Int):Int:=(J4 Q5 (acF g which) 200 [] ans 0).1
theorem RgB.beg {g:Rg}(h:RgB g)(i j:Bool):RgB (jf g i j):=by
 have ht:=h.tick 1
 exact⟨ht.af,ht.bc,ht.de,ht.hl,ht.af2,ht.bc2,ht.de2,ht.hl2,ht.ix,ht.iy,ht.sp,ht.pc,ht.wz,ht.i,ht.r,ht.mode⟩
theorem QJ3 (sp pc:Int):∀ c∈Q7 sp pc,1≤c.t∧c.t≤7:=by
 intro c h
 simp only[Q7,List.mem_cons,List.not_mem_nil,or_false] at h
 rcases h with rfl|rfl|rfl<;>simp
theorem QPs (a:Int):∀ c∈Z1 a,1≤c.t∧c.t≤7:=by
 intro c h
 simp only[Z1,List.mem_cons,List.not_mem_nil,or_false] at h
 rcases h with rfl|rfl<;>simp
theorem QKH {l:List Cy}(h:∀ c∈l,1≤c.t∧c.t≤7)(g:Rg)(n:Nat)(hb:(Qj l g n).b=false):1≤(Qj l g n).c.t∧(Qj l g n).c.t≤7:=by
 unfold Qj at *
 split
 · rename_i hn
   have e:(QKf (l.getD n JL)).c=l[n]:=by rw[List.getD_eq_getElem?_getD,List.getElem?_eq_getElem hn];rfl
   rw[e]
   exact h _ (List.getElem_mem hn)
 · rename_i hn
   rw[if_neg hn] at hb
   cases hb
theorem QRf {X:Except Cy (Ms×List Int)}(h:∀ e,X=.error e→CyK e)(hb:(ofX X).b=false):1≤(ofX X).c.t∧(ofX X).c.t≤7:=by
 rcases X with e|⟨s,ys⟩
 · have:=h e rfl;exact⟨this.2.2.2.1,this.2.2.2.2.1⟩
 · cases hb
theorem QPA (g:Rg)(which:Int)(xs:List Int)(hb:(Jr g which xs).b=false):1≤(Jr g which xs).c.t∧(Jr g which xs).c.t≤7:=by
 unfold Jr at *
 split
 · rename_i h1
   rw[if_pos h1] at hb
   cases xs with
   | nil=>exact⟨by show (1:Int)≤4;omega,by show (4:Int)≤7;omega⟩
   | cons v ys=>exact QKH (QJ3 _ _) _ _ hb
 · rename_i h1
   rw[if_neg h1] at hb
   split
   · rename_i h2
     rw[if_pos h2] at hb
     cases xs with
     | nil=>exact⟨by show (1:Int)≤6;omega,by show (6:Int)≤7;omega⟩
     | cons v ys =>
       simp only at hb ⊢
       unfold QCG at *
       split
       · rename_i h3
         rw[if_pos h3] at hb
         split
         · rename_i h4;rw[if_pos h4] at hb;cases hb
         · rename_i h4;rw[if_neg h4] at hb;exact QRf (fun e he=>QQm he) hb
       · rename_i h3
         rw[if_neg h3] at hb
         split
         · rename_i h4;rw[if_pos h4] at hb;exact QKH (QJ3 _ _) _ _ hb
         · rename_i h4;rw[if_neg h4] at hb
           exact QKH (fun c hc=>(List.mem_append.1 hc).elim (QJ3 _ _ c) (QPs _ c)) _ _ hb
   · rename_i h2
     rw[if_neg h2] at hb
     exact QRf (fun e he=>QOC he) hb
end Go.Proofs.YtkenebbjodcbcaaGreatDoor
