/- Contracts and facts that the claim's proof wants (several texts in one). -/
import Derived.Defers
import Derived.Recover
import Derived.Test.YtmgcgiecimnncaaGreatDoorTlG14
namespace Go.Proofs.YtmgcgiecimnncaaGreatDoor
open Go.RowKit
set_option linter.unusedVariables false
set_option linter.unusedSimpArgs false
set_option maxRecDepth 20000
set_option maxHeartbeats 20000000
theorem QHP:(Tryz.prog.info? 30).map (·.size)=some 4:=by kernel_rfl
theorem ldCy {w:World} {b:Nat} {t:TypeId} {c:Cy}(h:Row w b t (cyC c)):(Instr.loadAt 30 (pT b 0)).run Tryz.prog w=.ok (cyV c) w :=
 run_loadAt_mid w b 0 30 (cyC c).toList _ h.range Tryz.underlying30 rfl QHP
theorem QHO {w:World} {b:Nat} {t:TypeId} {c d:Cy}(h:Row w b t (cyC d)):(Instr.storeAt 30 (pT b 0) (cyV c)).run Tryz.prog w=.ok () (w.setCells b 0 (cyC c).toList) :=
 run_storeAt_mid w b 0 30 (cyC c) h.there QHP (by simp[cyC,Value.oneCell'])
theorem QAe (w:World):(Instr.alloc 30 true (.tuple #[])).run Tryz.prog w=.ok (pT w.heap.size 0) (w.alloc (.cells (cyC JN) 30)):=by
 simp[go_sem,JN]
section
variable {P:Program} {ops:Array Oper} {Q:Exit→Act→List Frame→World→Prop} {a:Act} {cs cs':List Frame} {w w':World} {i:Nat} {rest:List Nat} {o:Oper}
structure WS (P:Program)(ops:Array Oper)(Q:Exit→Act→List Frame→World→Prop)(l:List Nat)(a:Act)(cs:List Frame)(w:World):Prop where
 h:wpOpsS P ops Q l a cs w
theorem QL8 {id:Nat}(l:List Nat)(hl:List.range ops.size=l)(h:WS P ops Q l a cs w):(Code.region id ops false).wpS P Q a cs w:=wpS_region (by rw[hl];exact h.h)
theorem endS (h:Q .normal a cs w):WS P ops Q [] a cs w:=⟨by unfold wpOpsS;exact h⟩
theorem zr (V:Value)(ho:ops[i]? = some o)(hg:o.guard=none)(he:(execOp a.eval o).run P w=.ok (.value V) w')(h:WS P ops Q rest (a.put o.dst V) cs w'):WS P ops Q (i :: rest) a cs w:=by
 constructor
 unfold wpOpsS
 simp only[ho,JK hg,if_true,he,Oper.upon_value]
 exact h.h
theorem rDo (ho:ops[i]? = some o)(hg:o.guard=none)(he:(execOp a.eval o).run P w=.ok .skip w')(h:WS P ops Q rest (a.put o.dst undef) cs w'):WS P ops Q (i :: rest) a cs w:=by
 constructor
 unfold wpOpsS
 simp only[ho,JK hg,if_true,he,Oper.upon_skip]
 exact h.h
theorem QRB (V:Value)(ho:ops[i]? = some o)(hg:o.guard=none)(he:(execOp a.eval o).run P w=.ok .recover w)(hc:recoverD cs=some (V,cs'))(h:WS P ops Q rest (a.put o.dst V) cs' w):WS P ops Q (i :: rest) a cs w:=by
 constructor
 unfold wpOpsS
 simp only[ho,JK hg,if_true,he,hc]
 exact h.h
theorem QWA (ho:ops[i]? = some o)(hg:o.guard=none)(he:(execOp a.eval o).run P w=.ok .recover w)(hc:recoverD cs=none)(h:WS P ops Q rest (a.put o.dst .nilIface) cs w):WS P ops Q (i :: rest) a cs w:=by
 constructor
 unfold wpOpsS
 simp only[ho,JK hg,if_true,he,hc]
 exact h.h
theorem QJI {x:Operand} {V R:Value} {t u:TypeId} {ok:Bool}(ho:o.op=.typeAssert x t u ok)(hx:a.eval x=V)(hr:(Instr.typeAssert V t u ok).run P w=.ok R w):(execOp a.eval o).run P w=.ok (.value R) w:=by
 unfold execOp
 simp only[ho,hx,hr,Sem.run_bind,Sem.run_pure,Result.andThen_ok]
end
theorem QUs (v:Value)(w:World):(Instr.typeAssert (.iface 30 v) 20 30 true).run Tryz.prog w=.ok (.tuple #[v,.bool true]) w:=by kernel_rfl
theorem QWy (w:World):(Instr.typeAssert .nilIface 20 30 true).run Tryz.prog w=.ok (.tuple #[cyV JN,.bool false]) w:=by kernel_rfl
theorem QDl (L:Nat)(c:Cy)(older:List PanicEntry)(w:World)(hL:Row w L 30 (cyC JN)) :
 CallsD Tryz.prog 160 #[pT L 0] (.panicking ({ v:=.iface 30 (cyV c),recovered:=false } :: older)) w fun e u' w' =>
  e=.returned (.tuple #[])∧u'=.panicking ({ v:=.iface 30 (cyV c),recovered:=true } :: older)∧Row w' L 30 (cyC c)∧Besides L L w w':=by
 refine callsD_of_wpS Tryz.func160 rfl fun c₀ cs hu=>?_
 simp only[Tryz.ntmps160,List.size_toArray,List.length_cons,List.length_nil,Nat.reduceAdd,Nat.reduceSub,Array.replicate_succ,Array.replicate_zero,List.push_toArray,List.append_toArray,List.nil_append,List.cons_append]
 apply wpS_seq
 refine QL8 [0,1,2,3,4,5,6,7] (by simp only[List.size_toArray,List.length_cons,List.length_nil,Nat.reduceAdd];rfl) ?_
 refine QRB (.iface 30 (cyV c)) rfl rfl (by kernel_rfl) (show recoverD (c₀ :: cs)=some (_,{ c₀ with mode:=.panicking ({ v:=.iface 30 (cyV c),recovered:=true } :: older) } :: cs) by simp only[recoverD,hu]) ?_
 refine zr (.tuple #[cyV c,.bool true]) rfl rfl (QJI rfl (by kernel_rfl) (QUs _ _)) ?_
 refine zr (.tuple #[cyV c,.bool true]) rfl rfl (Q7 (.inl rfl) (by kernel_rfl) _) ?_
 refine zr (cyV c) rfl rfl (Qp (vs:=#[cyV c,.bool true]) rfl (by kernel_rfl) (by kernel_rfl) _) ?_
 refine zr (.bool true) rfl rfl (Qp (vs:=#[cyV c,.bool true]) rfl (by kernel_rfl) (by kernel_rfl) _) ?_
 refine zr (pT w.heap.size 0) rfl rfl (Q3 rfl (QAe w)) ?_
 have hL':Row (w.alloc (.cells (cyC JN) 30)) L 30 (cyC JN):=hL.alloc _
 have hlt:=hL.lt
 refine rDo rfl rfl (Qu (ad:=⟨w.heap.size,0,none⟩) (V:=cyV c) rfl (by kernel_rfl) (by kernel_rfl) (QHO (Row.new w _ (cyC JN)))) ?_
 have hN:Row ((w.alloc (.cells (cyC JN) 30)).setCells w.heap.size 0 (cyC c).toList) w.heap.size 30 (cyC c):=(Row.new w _ (cyC JN)).setAll rfl
 have hL2:Row ((w.alloc (.cells (cyC JN) 30)).setCells w.heap.size 0 (cyC c).toList) L 30 (cyC JN):=hL'.setFar (by omega) _ _
 have hB:Besides L L w ((w.alloc (.cells (cyC JN) 30)).setCells w.heap.size 0 (cyC c).toList):=((Besides.refl L L w).alloc _).setCells (.inr (.inr (Nat.le_refl _))) _ _
 generalize (w.alloc (.cells (cyC JN) 30)).setCells w.heap.size 0 (cyC c).toList=W at *
 refine zr (.bool true) rfl rfl (Q7 (.inr rfl) (by kernel_rfl) _) ?_
 refine endS ?_
 simp only[Exit.thenS]
 refine wpS_of_wp ?_
 try simp only[Act.put,sA,sB,sC]
 refine wp_seq_k fun K1 hK1=>JG<|oM 8 (.bool true) ?_
 refine Jg ?_
 refine JW<|hK1 _ _ ?_
 refine wp_cond_true (by kernel_rfl) ?_
 refine JG<|oL 9 (ldCy hN)<|oS ⟨L,0,none⟩ (cyV c) (QHO hL2) ?_
 refine Jg ?_
 exact⟨rfl,_,rfl,_,results_none rfl _ _ _,rfl,rfl,hL2.setAll rfl,hB.setCells (.inl rfl) _ _⟩
theorem QKr (L:Nat)(w:World) :
 CallsD Tryz.prog 160 #[pT L 0] .returning w fun e u' w'=>e=.returned (.tuple #[])∧u'=.returning∧Below w.heap.size w w':=by
 refine callsD_of_wpS Tryz.func160 rfl fun c₀ cs hu=>?_
 simp only[Tryz.ntmps160,List.size_toArray,List.length_cons,List.length_nil,Nat.reduceAdd,Nat.reduceSub,Array.replicate_succ,Array.replicate_zero,List.push_toArray,List.append_toArray,List.nil_append,List.cons_append]
 apply wpS_seq
 refine QL8 [0,1,2,3,4,5,6,7] (by simp only[List.size_toArray,List.length_cons,List.length_nil,Nat.reduceAdd];rfl) ?_
 refine QWA rfl rfl (by kernel_rfl) (show recoverD (c₀ :: cs)=none by simp only[recoverD,hu]) ?_
 refine zr (.tuple #[cyV JN,.bool false]) rfl rfl (QJI rfl (by kernel_rfl) (QWy _)) ?_
 refine zr (.tuple #[cyV JN,.bool false]) rfl rfl (Q7 (.inl rfl) (by kernel_rfl) _) ?_
 refine zr (cyV JN) rfl rfl (Qp (vs:=#[cyV JN,.bool false]) rfl (by kernel_rfl) (by kernel_rfl) _) ?_
 refine zr (.bool false) rfl rfl (Qp (vs:=#[cyV JN,.bool false]) rfl (by kernel_rfl) (by kernel_rfl) _) ?_
 refine zr (pT w.heap.size 0) rfl rfl (Q3 rfl (QAe w)) ?_
 refine rDo rfl rfl (Qu (ad:=⟨w.heap.size,0,none⟩) (V:=cyV JN) rfl (by kernel_rfl) (by kernel_rfl) (QHO (Row.new w _ (cyC JN)))) ?_
 have hB:Below w.heap.size w ((w.alloc (.cells (cyC JN) 30)).setCells w.heap.size 0 (cyC JN).toList):=Below.setCellsAll (Below.alloc (Below.refl _ _) (Nat.le_refl _) _) (Nat.le_refl _) _ _
 refine zr (.bool false) rfl rfl (Q7 (.inr rfl) (by kernel_rfl) _) ?_
 refine endS ?_
 simp only[Exit.thenS]
 refine wpS_of_wp ?_
 try simp only[Act.put,sA,sB,sC]
 refine wp_seq_k fun K1 hK1=>JG<|oM 8 (.bool false) ?_
 refine Jg ?_
 refine JW<|hK1 _ _ ?_
 refine wp_cond_false (by kernel_rfl) ?_
 refine wp_skip ?_
 exact⟨rfl,_,by rw[←hu],_,results_none rfl _ _ _,rfl,rfl,hB⟩
theorem QDv (w:World):(Instr.alloc 24 true (.tuple #[])).run Tryz.prog w=.ok (pT w.heap.size 0) (w.alloc (.cells (JO Jf) 24)):=by
 simp[go_sem,Jf,JO]
theorem QJk {w:World} {b:Nat} {t:TypeId} {g d:Rg}(h:Row w b t (JO d)):(Instr.storeAt 24 (pT b 0) (JM g)).run Tryz.prog w=.ok () (w.setCells b 0 (JO g).toList):=stR h.there
theorem Besides.more {p L:Nat} {w w' w'':World}(h:Besides p p w w')(k:Besides L L w' w'')(hL:w.heap.size≤L):Besides p p w w'' :=
 ⟨k.os.trans h.os,k.tape.trans h.tape,k.output.trans h.output,Nat.le_trans h.size k.size,fun b hb n1 n2=>(k.block b (Nat.lt_of_lt_of_le hb h.size) (by omega) (by omega)).trans (h.block b hb n1 n2)⟩
theorem Xl {fn:Func} {t1 t2 t3:Tmp} {u v:TypeId}(h:fn.results=#[.cell t1 30,.cell t2 24,.tmp t3]){tmps:Array Value} {w:World} {L M:Nat} {c:Cy} {g:Rg} {b:Bool}
 (h1:tmps.getD t1 undef=pT L 0)(h2:tmps.getD t2 undef=pT M 0)(h3:tmps.getD t3 undef=.bool b)(hL:Row w L u (cyC c))(hM:Row w M v (JO g)):(results fn tmps).run Tryz.prog w=.ok (.tuple #[cyV c,JM g,.bool b]) w:=by
 have h1':tmps[t1]?.getD undef=pT L 0:=by simpa using h1
 have h2':tmps[t2]?.getD undef=pT M 0:=by simpa using h2
 have h3':tmps[t3]?.getD undef=.bool b:=by simpa using h3
 have e1:=Xi (P:=Tryz.prog) hL Tryz.underlying30 rfl QHP
 have e2:=Xi (P:=Tryz.prog) hM Tryz.underlying24 rfl QKP
 simp[results,h,h1',h2',h3',asAddr,e1,e2]
def QDR:Except Cy (Ms×List Int)→Value
 | .ok (s,_)=>.tuple #[cyV JN,JM s.r,.bool true]
 | .error c=>.tuple #[cyV c,JM Jf,.bool false]
theorem QUe {P:Program} {ops:Array Oper} {Q:Exit→Act→World→Prop} {a:Act} {w:World} {o:Oper} {rest:List Oper}(d:Deferred)(hd:o.dst=none)(hg:o.guard=none)(he:(execOp a.eval o).run P w=.ok (.defer d) w)
 (h:WL P ops Q rest { a with defers:=d :: a.defers } w):WL P ops Q (o :: rest) a w :=
 ⟨wpList_step fun K hK=>by
  rw[if_pos (JK hg)]
  unfold Oper.wp
  rw[he,Oper.upon_defer,hd]
  exact hK _ _ h.h⟩
theorem heFn {P:Program} {a:Act} {o:Oper} {x:Operand} {F:FuncId} {cap:Array Value} {w:World}(ho:o.op=.call { callee:=.value x,args:=#[],argTypes:=#[] })(hx:a.eval x=.func (.func F) #[] cap)(hen:(callFunc F cap).run P w=.ok (.enter F cap) w) :
 (execOp a.eval o).run P w=.ok (.enter F cap) w:=by
 unfold execOp
 simp[ho,resolve,hx,Deferred.ofValue,invoke,hen]
theorem QR4 {P:Program} {ops:Array Oper} {Q:Exit→Act→World→Prop} {S:World→Prop} {n i f:Nat} {listed:Array Bool} {a:Act} {w w':World} {o:Oper}(hd:o.dst=none)(ho:ops[i]? = some o)(hr:Region.ready .any ops listed=[i])(hin:decide (i < n)=true)
 (hw:Region.wanted o (yielded ops a.tmps)=true)(he:(execOp a.eval o).run P w=.ok .skip w')(hS:S w')
 (hK:X0 P ops Q S n f (listed.setIfInBounds i true) a w'):X0 P ops Q S n (f+1) listed a w:=by
 intro inv
 have hr':i∈Region.ready .any ops listed:=by rw[hr];simp
 refine⟨by rw[hr];simp,fun j hj=>?_⟩
 rw[hr] at hj
 have hji:j=i:=by simpa using hj
 subst hji
 refine⟨of_decide_eq_true hin,?_⟩
 unfold wpOp
 simp only[ho,hw,if_true]
 refine .inl ?_
 unfold Oper.wp
 rw[he,Oper.upon_skip,hd]
 exact⟨hS,hK (inv.set hr' (of_decide_eq_true hin))⟩
theorem QPS (F:FuncId)(cap:Array Value)(hen:∀ w,(callFunc F cap).run Tryz.prog w=.ok (.enter F cap) w){X:Except Cy (Ms×List Int)} {s:Ms} {xs:List Int} {w:World} {p B:Nat}(h:AtN w p B s xs)
 (hF:∀ w',AtN w' p B s xs→Below w.heap.size w w'→Calls Tryz.prog F cap w' (OutV w' p B X)) :
 Calls Tryz.prog 146 #[pT p 0,.func (.func F) #[] cap] w (fun e w'=>e=.returned (QDR X)∧Besides p p w w'):=by
 go_enter_defers Tryz.func146,Tryz.ntmps146
 refine wp_seq_k fun K1 hK1=>JG ?_
 have hp:=h.lt
 refine QK 4 (pT w.heap.size 0) rfl (JK rfl) (Q3 rfl (QAe w)) ?_
 refine QK 5 (.pointer (some ⟨(w.alloc (.cells (cyC JN) 30)).heap.size,0,none⟩)) rfl (JK rfl) (Q3 rfl (QDv _)) ?_
 have h1:=h.below (Below.alloc (Below.refl w.heap.size w) (Nat.le_refl _) (.cells (cyC JN) 30))
 have h2:=h1.below (Below.alloc (Below.refl _ _) (Nat.le_refl _) (.cells (JO Jf) 24))
 have hb0:Besides p p w ((w.alloc (.cells (cyC JN) 30)).alloc (.cells (JO Jf) 24)):=((Besides.refl p p w).alloc _).alloc _
 have hW:Below w.heap.size w ((w.alloc (.cells (cyC JN) 30)).alloc (.cells (JO Jf) 24)):=Below.alloc (Below.alloc (Below.refl _ _) (Nat.le_refl _) _) (by simp) _
 have hL:=(Row.new w 30 (cyC JN)).alloc (.cells (JO Jf) 24)
 have hM:=Row.new (w.alloc (.cells (cyC JN) 30)) 24 (JO Jf)
 obtain⟨L,hLe⟩:∃ L,L=w.heap.size:=⟨_,rfl⟩
 obtain⟨M,hMe⟩:∃ M,M=(w.alloc (.cells (cyC JN) 30)).heap.size:=⟨_,rfl⟩
 have hML:M=L+1:=by rw[hMe,hLe];simp
 rw[←hMe] at hM ⊢
 rw[←hLe] at hL hW ⊢
 generalize (w.alloc (.cells (cyC JN) 30)).alloc (.cells (JO Jf) 24)=W at *
 clear hMe h1
 refine oA 6 (.bool false) ?_
 refine Jg ?_
 try simp only[Act.put,sA,sB,sC]
 refine JW<|hK1 _ _<|wp_seq_k fun K2 hK2=>JG ?_
 refine JQ 7 (.func (.func 160) #[] #[pT L 0]) rfl (JK rfl) (QO rfl (by kernel_rfl) (by kernel_rfl) _) ?_
 refine QUe { target:=.fn (.func 160) #[pT L 0],args:=#[] } rfl rfl (by kernel_rfl) ?_
 refine Jg ?_
 try simp only[Act.put,sA,sB,sC]
 refine JW<|hK2 _ _<|wp_seq_k fun K3 hK3=>JG<|oM 8 (.func (.func F) #[] cap) ?_
 have hn:=NowN.begin h2
 refine Xf hn rfl (heFn rfl (by kernel_rfl) (hen W)) (hF W h2 (by rw[←hLe];exact hW)) (fun c w' hX hb=>?_) ?_
 · have hb:=hb.bes
   refine Z3 ?_
   subst hX
   refine leaves_cons (f:=160) (args:=#[pT L 0]) (by simp) (by simp[go_sem]) ?_
   have hL':=hL.besides hb (by omega) (by omega)
   have hM':=hM.besides hb (by omega) (by omega)
   refine (QDl L c [] w' hL').mono ?_
   rintro e u' w'' ⟨rfl,rfl,hA,hB⟩
   refine⟨_,Xl rfl (by kernel_rfl) (by kernel_rfl) (by kernel_rfl) hA (hM'.besides hB (by omega) (by omega)),rfl,?_⟩
   exact (hb0.trans hb).more hB (by omega)
 intro s1 xs1 w1 hX hn
 subst hX
 have hL':=hL.besides hn.bes (by omega) (by omega)
 have hM':=hM.besides hn.bes (by omega) (by omega)
 refine Jg ?_
 try simp only[Act.put,sA,sB,sC]
 refine JW<|hK3 _ _<|wp_seq_k fun K4 hK4=>?_
 refine Code.wp_mono (Q:=fun e a w=>match e with|.normal=>K4 a w|_=>False) (fun e a w h=>by cases e<;>first|exact h|exact h.elim) ?_
 refine QBR 6 (fun w'=>AtN w' p B s1 xs1) (by kernel_rfl) (by kernel_rfl) hn.at_.drew ?_
 intro w2 hw2 hS
 have hL2:Row w2 L 30 (cyC JN):=by subst hw2;exact hL'.drew
 have hM2:Row w2 M 24 (JO Jf):=by subst hw2;exact hM'.drew
 refine yG 0 10 (cyV JN) rfl (fun w hS=>QLc (cells:=cyC JN) rfl (by kernel_rfl) w) hS<|yM 1 11 (pT p 0) hS<|yN 2 12 p 0 hS<|yF 3 13 (fM0 p) hS<|yL 4 14 (JM s1.r) (fun w hS=>ldR hS.regs) hS ?_
 have hL3:Row (w2.setCells L 0 (cyC JN).toList) L 30 (cyC JN):=hL2.setAll rfl
 have hM3:=hM2.setFar (by omega:M≠L) (cyC JN).toList 0
 have hb3:Besides L L w2 (w2.setCells L 0 (cyC JN).toList):=(Besides.refl L L w2).setCells (.inl rfl) _ _
 have hb2:Besides p p W w2:=by subst hw2;exact hn.bes.drew
 refine QR4 (i:=5) (by rfl) rfl (by kernel_rfl) (by kernel_rfl) (by kernel_rfl) (by exact Qu (ad:=⟨L,0,none⟩) (V:=cyV JN) rfl (by kernel_rfl) (by kernel_rfl) (QHO hL2)) (hS.far (by omega) (by have:=hS.low;omega) _ _) ?_
 refine QIW (by kernel_rfl) ?_
 simp only[List.drop_succ_cons,List.drop_zero]
 try simp only[Act.put,sA,sB,sC]
 refine oS ⟨M,0,none⟩ (JM s1.r) (QJk hM3) ?_
 have hL4:=hL3.setFar (by omega:L≠M) (JO s1.r).toList 0
 have hM4:Row ((w2.setCells L 0 (cyC JN).toList).setCells M 0 (JO s1.r).toList) M 24 (JO s1.r):=hM3.setAll rfl
 have hb4:Besides M M (w2.setCells L 0 (cyC JN).toList) ((w2.setCells L 0 (cyC JN).toList).setCells M 0 (JO s1.r).toList):=(Besides.refl M M _).setCells (.inl rfl) _ _
 have hbes:Besides p p w ((w2.setCells L 0 (cyC JN).toList).setCells M 0 (JO s1.r).toList):=((hb0.trans hb2).more hb3 (by omega)).more hb4 (by omega)
 generalize (w2.setCells L 0 (cyC JN).toList).setCells M 0 (JO s1.r).toList=W5 at *
 refine oA 6 (.bool true) ?_
 refine Jg ?_
 try simp only[Act.put,sA,sB,sC]
 refine hK4 _ _ ?_
 refine wp_ret ?_
 refine leaves_cons (f:=160) (args:=#[pT L 0]) (by simp) (by simp[go_sem]) ?_
 refine (QKr L _).mono ?_
 rintro e u' w'' ⟨rfl,rfl,hB⟩
 exact⟨_,Xl rfl (by kernel_rfl) (by kernel_rfl) (by kernel_rfl) (hL4.below hB hL4.lt) (hM4.below hB hM4.lt),rfl,hbes.trans (.of_below hB)⟩
theorem QNq {s:Ms} {xs:List Int} {w:World} {p B:Nat}(h:AtN w p B s xs) :
 Calls Tryz.prog 147 #[pT p 0] w (OutV w p B (((Zz s).bind fun b=>.done b.2).run xs)):=by
 have hn:=NowN.begin h
 go_enter Tryz.func147,Tryz.ntmps147
 refine JG ?_
 refine QBW hn rfl (by kernel_rfl) (QJO hn.at_) (fun c w' hX hb=>QR rfl (OutV.err (Tr.run_bind_error hX _) hb)) ?_
 intro v1 s1 xs1 w1 hX hk hn
 refine Jg ?_
 refine jt rfl rfl ?_
 exact OutV.ok ((Tr.run_bind_ok hX _).trans (Tr.run_done _ _)) hn
def QDK (s:Ms)(xs:List Int):Except Cy (Ms×List Int) :=
 match (Zi s).run xs with
 | .ok ((b,t),ys)=>XX ys b t.noLate
 | .error c=>.error c
theorem QSj {s:Ms} {xs:List Int} {w:World} {p B:Nat}(h:AtN w p B s xs) :
 Calls Tryz.prog 149 #[pT p 0] w (OutV w p B (QDK s xs)):=by
 have hn:=NowN.begin h
 go_enter Tryz.func149,Tryz.ntmps149
 refine JG ?_
 refine QBW hn rfl (by kernel_rfl) (QA6 hn.at_) (fun c w' hX hb=>QR rfl (OutV.err (by rw[QDK,hX]) hb)) ?_
 intro v1 s1 xs1 w1 hX hk hn
 have e:QDK s xs=XX xs1 v1 s1.noLate:=by rw[QDK,hX]
 refine Xf hn rfl (by kernel_rfl) (qh v1 hk hn.at_) (fun c w' hX hb=>QR rfl (OutV.err (e.trans hX) hb)) ?_
 intro s2 xs2 w2 hX hn
 refine Jg ?_
 refine jt rfl rfl ?_
 exact OutV.ok (e.trans hX) hn
theorem QPF (c:Int)(hc:B8 c){L:Nat} {t:TypeId} {s:Ms} {xs:List Int} {w:World} {p B:Nat}(h:AtN w p B s xs)(hL:Row w L t #[.int .u8 c]) :
 Calls Tryz.prog 195 #[pT p 0,pT L 0] w (OutV w p B (XX xs c s.noLate)):=by
 have hn:=NowN.begin h
 go_enter Tryz.func195,Tryz.ntmps195
 refine JG<|oL 2 (ld8 (hL.cell 0)) ?_
 refine Xf hn rfl (by kernel_rfl) (qh c hc hn.at_) (fun c w' hX hb=>QR rfl (OutV.err hX hb)) ?_
 intro s2 xs2 w2 hX hn
 refine Jg ?_
 refine jt rfl rfl ?_
 exact OutV.ok hX hn
def ms0 (g:Rg):Ms:=⟨g,0,0,0,0,0,0,0,false⟩
theorem QLf {g:Rg}(h:RgB g):MsB (ms0 g):=⟨h,.inl rfl,by simp[ms0],by simp[ms0],by simp[ms0],by simp[ms0],by simp[ms0],Wd16.zero⟩
def Zl:Array Value:=mC (ms0 Jf) none 0 0
theorem QWx:(Tryz.prog.info? 181).map (·.size)=some 29:=by kernel_rfl
theorem QOf (w:World):(Instr.alloc 181 true (.tuple #[])).run Tryz.prog w=.ok (pT w.heap.size 0) (w.alloc (.cells Zl 181)):=by
 simp[go_sem,Zl,Jf,ms0]
theorem QT3 (g:Rg)(w:World):(Instr.box 24 (JM g)).run Tryz.prog w=.ok (pT w.heap.size 0) (w.alloc (.cells (JO g) 24)):=by
 simp[go_sem]
theorem box8 (c:Int)(w:World):(Instr.box 5 (.int .u8 c)).run Tryz.prog w=.ok (pT w.heap.size 0) (w.alloc (.cells #[.int .u8 c] 5)):=by
 simp[go_sem]
theorem QPb {P:Program} {a:Act} {o:Oper} {t:TypeId} {x:Operand} {V R:Value} {w w':World}(ho:o.op=.box t x)(hx:a.eval x=V)(h:(Instr.box t V).run P w=.ok R w'):(execOp a.eval o).run P w=.ok (.value R) w':=by
 unfold execOp
 simp only[ho,hx,Sem.run_bind,h,Result.andThen_ok,Sem.run_pure]
def Xj (g:Rg)(xs:List Int):Except Cy (Ms×List Int):=if g.halted=true then ((Zz (ms0 g)).bind fun b=>.done b.2).run xs else QDK (ms0 g) xs
def Z1 (g:Rg)(c:Int)(xs:List Int):Except Cy (Ms×List Int):=XX xs c (ms0 g).noLate
def XZ:Except Cy (Ms×List Int)→Cy|.ok _=>JN|.error c=>c
def X4:Except Cy (Ms×List Int)→Rg|.ok (s,_)=>s.r|.error _=>Jf
def Q6:Except Cy (Ms×List Int)→Bool|.ok _=>true|.error _=>false
theorem XN (X:Except Cy (Ms×List Int)):QDR X=.tuple #[cyV (XZ X),JM (X4 X),.bool (Q6 X)]:=by
 rcases X with c|⟨s,ys⟩<;>rfl
section
variable {w:World} {g:Rg} {A:Option Addr} {cap:Nat} {xs:List Int}
theorem at_new {w W:World}(hk:∀ b,b < w.heap.size→W.heap[b]? = w.heap[b]?)(hs:w.heap.size≤W.heap.size)(hg:RgB g)(hc:xs.length≤cap)(h8:Bytes8 xs)(hin:BytesIn w w.heap.size A xs)(ht:Tabs w w.heap.size) :
 AtN ((W.alloc (.cells Zl 181)).setCells W.heap.size 0 (mC (ms0 g) A xs.length cap).toList) W.heap.size w.heap.size (ms0 g) xs:=by
 rw[QBi W _ Zl (mC (ms0 g) A xs.length cap) rfl]
 have k:∀ b,b < w.heap.size→(W.alloc (.cells (mC (ms0 g) A xs.length cap) 181)).heap[b]? = w.heap[b]?:=fun b hb=>(Below.heap_alloc W _ b (by omega)).trans (hk b hb)
 exact⟨⟨A,cap,hc,Row.new W _ _,hin.keep k⟩,hs,h8,QLf hg,ht.keep k⟩
theorem stM {W:World}(g:Rg)(A:Option Addr)(n cap:Nat):(Instr.storeAt 181 (pT W.heap.size 0) (.agg (mC (ms0 g) A n cap))).run Tryz.prog (W.alloc (.cells Zl 181))=.ok () ((W.alloc (.cells Zl 181)).setCells W.heap.size 0 (mC (ms0 g) A n cap).toList) :=
 run_storeAt_mid _ _ 0 _ (mC (ms0 g) A n cap) (Row.new W _ Zl).there QWx (by simp[mC,Value.oneCell'])
end
theorem QN3 (g:Rg)(hg:RgB g)(A:Option Addr)(cap:Nat)(xs:List Int)(hc:xs.length≤cap)(h8:Bytes8 xs)(w:World)(hin:BytesIn w w.heap.size A xs)(ht:Tabs w w.heap.size) :
 Calls Tryz.prog 134 #[JM g,.slice A xs.length cap] w (fun e w'=>e=.returned (QDR (Xj g xs))∧Below w.heap.size w w'):=by
 go_enter Tryz.func134,Tryz.ntmps134
 refine wp_seq_k fun K1 hK1=>JG ?_
 refine QK 2 (pT w.heap.size 0) rfl (JK rfl) (QPb rfl (by kernel_rfl) (QT3 g w)) ?_
 have r0:=Row.new w 24 (JO g)
 have hb:=Below.alloc (Below.refl w.heap.size w) (Nat.le_refl _) (.cells (JO g) 24)
 obtain⟨L0,hL0⟩:∃ L,L=w.heap.size:=⟨_,rfl⟩
 rw[←hL0] at r0 ⊢
 have l0:=r0.lt
 generalize w.alloc (.cells (JO g) 24)=W0 at *
 have hsW0:=hb.size
 refine QK 4 (pT W0.heap.size 0) rfl (JK rfl) (Q3 rfl (QAe W0)) ?_
 have r0:=r0.alloc (.cells (cyC JN) 30)
 have r1:=Row.new W0 30 (cyC JN)
 have hb:=Below.alloc hb (by have:=hb.size;omega) (.cells (cyC JN) 30)
 obtain⟨L1,hL1⟩:∃ L,L=W0.heap.size:=⟨_,rfl⟩
 have q1:w.heap.size≤L1∧L0 < L1:=by rw[hL1];exact⟨hsW0,l0⟩
 rw[←hL1] at r1 ⊢
 generalize W0.alloc (.cells (cyC JN) 30)=W1 at *
 have l0:=r0.lt
 have l1:=r1.lt
 have hsW1:=hb.size
 refine QK 5 (pT W1.heap.size 0) rfl (JK rfl) (Q3 rfl (QDv W1)) ?_
 have r0:=r0.alloc (.cells (JO Jf) 24)
 have r1:=r1.alloc (.cells (JO Jf) 24)
 have r2:=Row.new W1 24 (JO Jf)
 have hb:=Below.alloc hb (by have:=hb.size;omega) (.cells (JO Jf) 24)
 obtain⟨L2,hL2⟩:∃ L,L=W1.heap.size:=⟨_,rfl⟩
 have q2:w.heap.size≤L2∧L0 < L2∧L1 < L2:=by rw[hL2];exact⟨hsW1,l0,l1⟩
 rw[←hL2] at r2 ⊢
 generalize W1.alloc (.cells (JO Jf) 24)=W2 at *
 have l0:=r0.lt
 have l1:=r1.lt
 have l2:=r2.lt
 have hsW2:=hb.size
 refine oA 6 (.bool false) ?_
 refine Jg ?_
 try simp only[Act.put,sA,sB,sC]
 refine JW<|hK1 _ _<|wp_seq_k fun K2 hK2=>JG<|oL 8 (ldR r0.range)<|oM 9 (.slice A xs.length cap)<|oU 10 (mC (ms0 g) A xs.length cap) ?_
 refine QK 7 (pT W2.heap.size 0) rfl (JK rfl) (Q3 rfl (QOf W2)) ?_
 have hat:=at_new (w:=w) (W:=W2) (fun b hlt=>hb.block b hlt) hb.size hg hc h8 hin ht
 refine Xo rfl (JK rfl) (Qu (ad:=⟨W2.heap.size,0,none⟩) (V:=.agg (mC (ms0 g) A xs.length cap)) rfl (by kernel_rfl) (by kernel_rfl) (stM g A xs.length cap)) ?_
 have r0:=(r0.alloc (.cells Zl 181)).setFar (by omega) (mC (ms0 g) A xs.length cap).toList 0 (b:=W2.heap.size)
 have r1:=(r1.alloc (.cells Zl 181)).setFar (by omega) (mC (ms0 g) A xs.length cap).toList 0 (b:=W2.heap.size)
 have r2:=(r2.alloc (.cells Zl 181)).setFar (by omega) (mC (ms0 g) A xs.length cap).toList 0 (b:=W2.heap.size)
 have hb:=Below.setCellsAll (Below.alloc hb (by have:=hb.size;omega) (.cells Zl 181)) (b:=W2.heap.size) (by have:=hb.size;omega) (mC (ms0 g) A xs.length cap).toList 0
 obtain⟨p,hp⟩:∃ p,p=W2.heap.size:=⟨_,rfl⟩
 have qp:w.heap.size≤p∧L0 < p∧L1 < p∧L2 < p:=by rw[hp];exact⟨hsW2,l0,l1,l2⟩
 rw[←hp] at hat ⊢
 rw[←hp] at r0 r1 r2 hb
 generalize (W2.alloc (.cells Zl 181)).setCells p 0 (mC (ms0 g) A xs.length cap).toList=W at *
 refine Jg ?_
 try simp only[Act.put,sA,sB,sC]
 refine JW<|hK2 _ _<|wp_seq_k fun K3 hK3=>wp_seq_k fun K4 hK4=>JG<|oF 11 (fR17 L0)<|oL 12 (ldB (r0.cell 17)) ?_
 refine Jg ?_
 try simp only[Act.put,sA,sB,sC]
 refine JW<|hK4 _ _ ?_
 refine wp_cond_split (t:=g.halted) (by kernel_rfl) (fun hh=>?_) (fun hh=>?_)
 · skip
   have e:Xj g xs=((Zz (ms0 g)).bind fun b=>.done b.2).run xs:=by rw[Xj,if_pos hh]
   rw[e]
   refine wp_seq_k fun K5 hK5=>JG ?_
   refine JQ 13 (.func (.func 147) #[] #[pT p 0]) rfl (JK rfl) (QO rfl (by kernel_rfl) (by kernel_rfl) _) ?_
   refine oC (QDR (((Zz (ms0 g)).bind fun b=>.done b.2).run xs)) (QPS 147 #[pT p 0] (fun _=>by kernel_rfl) hat (fun w' h' _=>QNq h')) ?_
   intro W' hbes
   have r0:=r0.besides hbes (by omega) (by omega)
   have r1:=r1.besides hbes (by omega) (by omega)
   have r2:=r2.besides hbes (by omega) (by omega)
   have hb:=hb.trans (hbes.below (by omega) (by omega) hb.size)
   rw[XN]
   generalize hX:((Zz (ms0 g)).bind fun b=>.done b.2).run xs=X at *
   refine oX 15 #[cyV (XZ X),JM (X4 X),.bool (Q6 X)] (cyV (XZ X))<|oX 16 #[cyV (XZ X),JM (X4 X),.bool (Q6 X)] (JM (X4 X))<|oX 17 #[cyV (XZ X),JM (X4 X),.bool (Q6 X)] (.bool (Q6 X))<|oS ⟨L1,0,none⟩ (cyV (XZ X)) (QHO r1) ?_
   have r1':Row (W'.setCells L1 0 (cyC (XZ X)).toList) L1 30 (cyC (XZ X)):=r1.setAll rfl
   have r2':=r2.setFar (by omega:L2≠L1) (cyC (XZ X)).toList 0
   have hb:=Below.setCellsAll hb (b:=L1) (by omega) (cyC (XZ X)).toList 0
   refine oS ⟨L2,0,none⟩ (JM (X4 X)) (QJk r2') ?_
   have r1':=r1'.setFar (by omega:L1≠L2) (JO (X4 X)).toList 0
   have r2':Row ((W'.setCells L1 0 (cyC (XZ X)).toList).setCells L2 0 (JO (X4 X)).toList) L2 24 (JO (X4 X)):=r2'.setAll rfl
   have hb:=Below.setCellsAll hb (b:=L2) (by omega) (JO (X4 X)).toList 0
   refine oA 6 (.bool (Q6 X)) ?_
   refine Jg ?_
   try simp only[Act.put,sA,sB,sC]
   refine JW<|hK5 _ _ ?_
   refine wp_ret ?_
   refine QWv ?_
   exact bodyPost_ret (Xl rfl (by kernel_rfl) (by kernel_rfl) (by kernel_rfl) r1' r2') rfl ⟨by first|rfl|(rw[XN];done)|(rw[e,XN];done),hb⟩
 · skip
   have e:Xj g xs=QDK (ms0 g) xs:=by rw[Xj,if_neg (by rw[hh];decide)]
   rw[e]
   refine wp_skip ?_
   refine JW<|hK3 _ _ ?_
   rw[e]
   refine wp_seq_k fun K5 hK5=>JG ?_
   refine JQ 18 (.func (.func 149) #[] #[pT p 0]) rfl (JK rfl) (QO rfl (by kernel_rfl) (by kernel_rfl) _) ?_
   refine oC (QDR (QDK (ms0 g) xs)) (QPS 149 #[pT p 0] (fun _=>by kernel_rfl) hat (fun w' h' _=>QSj h')) ?_
   intro W' hbes
   have r0:=r0.besides hbes (by omega) (by omega)
   have r1:=r1.besides hbes (by omega) (by omega)
   have r2:=r2.besides hbes (by omega) (by omega)
   have hb:=hb.trans (hbes.below (by omega) (by omega) hb.size)
   rw[XN]
   generalize hX:QDK (ms0 g) xs=X at *
   refine oX 20 #[cyV (XZ X),JM (X4 X),.bool (Q6 X)] (cyV (XZ X))<|oX 21 #[cyV (XZ X),JM (X4 X),.bool (Q6 X)] (JM (X4 X))<|oX 22 #[cyV (XZ X),JM (X4 X),.bool (Q6 X)] (.bool (Q6 X))<|oS ⟨L1,0,none⟩ (cyV (XZ X)) (QHO r1) ?_
   have r1':Row (W'.setCells L1 0 (cyC (XZ X)).toList) L1 30 (cyC (XZ X)):=r1.setAll rfl
   have r2':=r2.setFar (by omega:L2≠L1) (cyC (XZ X)).toList 0
   have hb:=Below.setCellsAll hb (b:=L1) (by omega) (cyC (XZ X)).toList 0
   refine oS ⟨L2,0,none⟩ (JM (X4 X)) (QJk r2') ?_
   have r1':=r1'.setFar (by omega:L1≠L2) (JO (X4 X)).toList 0
   have r2':Row ((W'.setCells L1 0 (cyC (XZ X)).toList).setCells L2 0 (JO (X4 X)).toList) L2 24 (JO (X4 X)):=r2'.setAll rfl
   have hb:=Below.setCellsAll hb (b:=L2) (by omega) (JO (X4 X)).toList 0
   refine oA 6 (.bool (Q6 X)) ?_
   refine Jg ?_
   try simp only[Act.put,sA,sB,sC]
   refine JW<|hK5 _ _ ?_
   refine wp_ret ?_
   exact bodyPost_ret (Xl rfl (by kernel_rfl) (by kernel_rfl) (by kernel_rfl) r1' r2') rfl ⟨by first|rfl|(rw[XN];done)|(rw[e,XN];done),hb⟩
theorem QKp (g:Rg)(hg:RgB g)(c:Int)(hcb:B8 c)(A:Option Addr)(cap:Nat)(xs:List Int)(hc:xs.length≤cap)(h8:Bytes8 xs)(w:World)(hin:BytesIn w w.heap.size A xs)(ht:Tabs w w.heap.size) :
 Calls Tryz.prog 167 #[JM g,.int .u8 c,.slice A xs.length cap] w (fun e w'=>e=.returned (QDR (Z1 g c xs))∧Below w.heap.size w w'):=by
 go_enter Tryz.func167,Tryz.ntmps167
 refine wp_seq_k fun K1 hK1=>JG ?_
 refine QK 3 (pT w.heap.size 0) rfl (JK rfl) (QPb rfl (by kernel_rfl) (QT3 g w)) ?_
 have r0:=Row.new w 24 (JO g)
 have hb:=Below.alloc (Below.refl w.heap.size w) (Nat.le_refl _) (.cells (JO g) 24)
 obtain⟨L0,hL0⟩:∃ L,L=w.heap.size:=⟨_,rfl⟩
 rw[←hL0] at r0 ⊢
 have l0:=r0.lt
 generalize w.alloc (.cells (JO g) 24)=W0 at *
 have hsW0:=hb.size
 refine QK 4 (pT W0.heap.size 0) rfl (JK rfl) (QPb rfl (by kernel_rfl) (box8 c W0)) ?_
 have r0:=r0.alloc (.cells #[.int .u8 c] 5)
 have r1:=Row.new W0 5 #[.int .u8 c]
 have hb:=Below.alloc hb (by have:=hb.size;omega) (.cells #[.int .u8 c] 5)
 obtain⟨L1,hL1⟩:∃ L,L=W0.heap.size:=⟨_,rfl⟩
 have q1:w.heap.size≤L1∧L0 < L1:=by rw[hL1];exact⟨hsW0,l0⟩
 rw[←hL1] at r1 ⊢
 generalize W0.alloc (.cells #[.int .u8 c] 5)=W1 at *
 have l0:=r0.lt
 have l1:=r1.lt
 have hsW1:=hb.size
 refine QK 6 (pT W1.heap.size 0) rfl (JK rfl) (Q3 rfl (QAe W1)) ?_
 have r0:=r0.alloc (.cells (cyC JN) 30)
 have r1:=r1.alloc (.cells (cyC JN) 30)
 have r2:=Row.new W1 30 (cyC JN)
 have hb:=Below.alloc hb (by have:=hb.size;omega) (.cells (cyC JN) 30)
 obtain⟨L2,hL2⟩:∃ L,L=W1.heap.size:=⟨_,rfl⟩
 have q2:w.heap.size≤L2∧L0 < L2∧L1 < L2:=by rw[hL2];exact⟨hsW1,l0,l1⟩
 rw[←hL2] at r2 ⊢
 generalize W1.alloc (.cells (cyC JN) 30)=W2 at *
 have l0:=r0.lt
 have l1:=r1.lt
 have l2:=r2.lt
 have hsW2:=hb.size
 refine QK 7 (pT W2.heap.size 0) rfl (JK rfl) (Q3 rfl (QDv W2)) ?_
 have r0:=r0.alloc (.cells (JO Jf) 24)
 have r1:=r1.alloc (.cells (JO Jf) 24)
 have r2:=r2.alloc (.cells (JO Jf) 24)
 have r3:=Row.new W2 24 (JO Jf)
 have hb:=Below.alloc hb (by have:=hb.size;omega) (.cells (JO Jf) 24)
 obtain⟨L3,hL3⟩:∃ L,L=W2.heap.size:=⟨_,rfl⟩
 have q3:w.heap.size≤L3∧L0 < L3∧L1 < L3∧L2 < L3:=by rw[hL3];exact⟨hsW2,l0,l1,l2⟩
 rw[←hL3] at r3 ⊢
 generalize W2.alloc (.cells (JO Jf) 24)=W3 at *
 have l0:=r0.lt
 have l1:=r1.lt
 have l2:=r2.lt
 have l3:=r3.lt
 have hsW3:=hb.size
 refine oA 8 (.bool false) ?_
 refine Jg ?_
 try simp only[Act.put,sA,sB,sC]
 refine JW<|hK1 _ _<|wp_seq_k fun K2 hK2=>JG<|oL 10 (ldR r0.range)<|oM 11 (.slice A xs.length cap)<|oU 12 (mC (ms0 g) A xs.length cap) ?_
 refine QK 9 (pT W3.heap.size 0) rfl (JK rfl) (Q3 rfl (QOf W3)) ?_
 have hat:=at_new (w:=w) (W:=W3) (fun b hlt=>hb.block b hlt) hb.size hg hc h8 hin ht
 refine Xo rfl (JK rfl) (Qu (ad:=⟨W3.heap.size,0,none⟩) (V:=.agg (mC (ms0 g) A xs.length cap)) rfl (by kernel_rfl) (by kernel_rfl) (stM g A xs.length cap)) ?_
 have r0:=(r0.alloc (.cells Zl 181)).setFar (by omega) (mC (ms0 g) A xs.length cap).toList 0 (b:=W3.heap.size)
 have r1:=(r1.alloc (.cells Zl 181)).setFar (by omega) (mC (ms0 g) A xs.length cap).toList 0 (b:=W3.heap.size)
 have r2:=(r2.alloc (.cells Zl 181)).setFar (by omega) (mC (ms0 g) A xs.length cap).toList 0 (b:=W3.heap.size)
 have r3:=(r3.alloc (.cells Zl 181)).setFar (by omega) (mC (ms0 g) A xs.length cap).toList 0 (b:=W3.heap.size)
 have hb:=Below.setCellsAll (Below.alloc hb (by have:=hb.size;omega) (.cells Zl 181)) (b:=W3.heap.size) (by have:=hb.size;omega) (mC (ms0 g) A xs.length cap).toList 0
 obtain⟨p,hp⟩:∃ p,p=W3.heap.size:=⟨_,rfl⟩
 have qp:w.heap.size≤p∧L0 < p∧L1 < p∧L2 < p∧L3 < p:=by rw[hp];exact⟨hsW3,l0,l1,l2,l3⟩
 rw[←hp] at hat ⊢
 rw[←hp] at r0 r1 r2 r3 hb
 generalize (W3.alloc (.cells Zl 181)).setCells p 0 (mC (ms0 g) A xs.length cap).toList=W at *
 refine Jg ?_
 try simp only[Act.put,sA,sB,sC]
 refine JW<|hK2 _ _<|wp_seq_k fun K3 hK3=>JG ?_
 refine JQ 13 (.func (.func 195) #[] #[pT p 0,pT L1 0]) rfl (JK rfl) (QO rfl (by kernel_rfl) (by kernel_rfl) _) ?_
 refine oC (QDR (Z1 g c xs)) (QPS 195 #[pT p 0,pT L1 0] (fun _=>by kernel_rfl) hat (fun w' h' hbw=>QPF c hcb h' (r1.below hbw r1.lt))) ?_
 intro W' hbes
 have r0:=r0.besides hbes (by omega) (by omega)
 have r1:=r1.besides hbes (by omega) (by omega)
 have r2:=r2.besides hbes (by omega) (by omega)
 have r3:=r3.besides hbes (by omega) (by omega)
 have hb:=hb.trans (hbes.below (by omega) (by omega) hb.size)
 rw[XN]
 generalize hX:Z1 g c xs=X at *
 refine oX 15 #[cyV (XZ X),JM (X4 X),.bool (Q6 X)] (cyV (XZ X))<|oX 16 #[cyV (XZ X),JM (X4 X),.bool (Q6 X)] (JM (X4 X))<|oX 17 #[cyV (XZ X),JM (X4 X),.bool (Q6 X)] (.bool (Q6 X))<|oS ⟨L2,0,none⟩ (cyV (XZ X)) (QHO r2) ?_
 have r2':Row (W'.setCells L2 0 (cyC (XZ X)).toList) L2 30 (cyC (XZ X)):=r2.setAll rfl
 have r3':=r3.setFar (by omega:L3≠L2) (cyC (XZ X)).toList 0
 have hb:=Below.setCellsAll hb (b:=L2) (by omega) (cyC (XZ X)).toList 0
 refine oS ⟨L3,0,none⟩ (JM (X4 X)) (QJk r3') ?_
 have r2':=r2'.setFar (by omega:L2≠L3) (JO (X4 X)).toList 0
 have r3':Row ((W'.setCells L2 0 (cyC (XZ X)).toList).setCells L3 0 (JO (X4 X)).toList) L3 24 (JO (X4 X)):=r3'.setAll rfl
 have hb:=Below.setCellsAll hb (b:=L3) (by omega) (JO (X4 X)).toList 0
 refine oA 8 (.bool (Q6 X)) ?_
 refine Jg ?_
 try simp only[Act.put,sA,sB,sC]
 refine JW<|hK3 _ _ ?_
 refine wp_ret ?_
 exact bodyPost_ret (Xl rfl (by kernel_rfl) (by kernel_rfl) (by kernel_rfl) r2' r3') rfl ⟨by first|rfl|(rw[XN];done)|(rw[e,XN];done),hb⟩
def g5:Rg:={ Jf with pc:=5 }
def Tr.Depth {α:Type}:Tr α→Nat→Prop
 | .done _,_=>True
 | .ask _ _,0=>False
 | .ask _ k,d+1=>∀ b,(k b).Depth d
theorem Tr.depth_done {α:Type}(a:α)(d:Nat):(Tr.done a).Depth d:=by cases d<;>exact trivial
theorem Tr.Depth.mono {α:Type} {t:Tr α}:∀ {m n:Nat},t.Depth m→m≤n→t.Depth n:=by
 induction t with
 | done a=>intro m n _ _;exact Tr.depth_done _ _
 | ask c k ih =>
   intro m n h hmn
   cases m with
   | zero=>exact h.elim
   | succ m =>
     cases n with
     | zero=>omega
     | succ n=>exact fun b=>ih b (h b) (by omega)
theorem Tr.Depth.bind {α β:Type} {t:Tr α} {f:α→Tr β}:∀ {m n:Nat},t.Depth m→(∀ a,(f a).Depth n)→(t.bind f).Depth (m+n):=by
 induction t with
 | done a=>intro m n _ hf;exact (hf a).mono (by omega)
 | ask c k ih =>
   intro m n h hf
   cases m with
   | zero=>exact h.elim
   | succ m =>
     rw[show m+1+n=(m+n)+1 by omega]
     exact fun b=>ih b (h b) hf
def CyK (c:Cy):Prop:=1≤c.kind∧c.kind≤7∧c.kind≠6∧1≤c.t∧c.t≤7∧(c.kind≠3→c.kind≠5→c.data=0)
def Tr.Deaf {α:Type}:Tr α→Prop
 | .done _=>True
 | .ask c k=>CyK c∧(c.kind=3∨c.kind=5∨c.kind=7→∀ b b',k b=k b')∧∀ b,(k b).Deaf
theorem Tr.Deaf.bind {α β:Type} {t:Tr α} {f:α→Tr β}(h:t.Deaf)(hf:∀ a,(f a).Deaf):(t.bind f).Deaf:=by
 induction t with
 | done a=>exact hf a
 | ask c k ih=>exact⟨h.1,fun hk b b'=>by show (k b).bind f=(k b').bind f;rw[h.2.1 hk b b'],fun b=>ih b (h.2.2 b)⟩
theorem Tr.Deaf.run {α:Type} {t:Tr α}(h:t.Deaf):∀ {xs:List Int} {c:Cy},t.run xs=.error c→(c.kind=3∨c.kind=5∨c.kind=7)→∀ b b' zs,t.run (xs++b :: zs)=t.run (xs++b' :: zs):=by
 induction t with
 | done a=>intro xs c e;rw[Tr.run_done] at e;cases e
 | ask c k ih =>
   intro xs c' e hk b b' zs
   cases xs with
   | nil =>
     rw[Tr.run_nil] at e
     injection e with e;subst e
     show (k b).run zs=(k b').run zs
     rw[h.2.1 hk b b']
   | cons x xs=>exact ih x (h.2.2 x) e hk b b' zs
theorem Tr.Deaf.error {α:Type} {t:Tr α}(h:t.Deaf):∀ {xs:List Int} {c:Cy},t.run xs=.error c→CyK c:=by
 induction t with
 | done a=>intro xs c e;rw[Tr.run_done] at e;cases e
 | ask c k ih =>
   intro xs c' e
   cases xs with
   | nil =>
     rw[Tr.run_nil] at e
     injection e with e;subst e
     exact h.1
   | cons x xs=>exact ih x (h.2.2 x) e
theorem Zt (a:Int)(s:Ms):(Z6 a s).Deaf:=⟨by simp[CyK],fun h=>absurd (show (2:Int)=3∨(2:Int)=5∨(2:Int)=7 from h) (by decide),fun _=>trivial⟩
theorem QLv (a:Int)(s:Ms):(inN a s).Deaf:=⟨by simp[CyK],fun h=>absurd (show (4:Int)=3∨(4:Int)=5∨(4:Int)=7 from h) (by decide),fun _=>trivial⟩
theorem QH8 (s:Ms):(Zz s).Deaf:=⟨by simp[CyK],fun h=>absurd (show (1:Int)=3∨(1:Int)=5∨(1:Int)=7 from h) (by decide),fun _=>trivial⟩
theorem XG (a b:Int)(s:Ms):(Xv a b s).Deaf:=⟨by simp[CyK],fun _ _ _=>rfl,fun _=>trivial⟩
theorem QJG (a b:Int)(s:Ms):(QJ5 a b s).Deaf:=⟨by simp[CyK],fun _ _ _=>rfl,fun _=>trivial⟩
theorem Xg (n:Int)(s:Ms)(h:1≤n∧n≤7:=by decide):(J1 n s).Deaf:=⟨by simpa [CyK] using h,fun _ _ _=>rfl,fun _=>trivial⟩
theorem QE2 (s:Ms):(Zi s).Deaf:=Tr.Deaf.bind (QH8 s) fun _=>trivial
theorem ZO (s:Ms):(Xq s).Deaf:=Tr.Deaf.bind (Zt ..) fun _=>trivial
theorem QCg (s:Ms):(qs s).Deaf:=Tr.Deaf.bind (ZO _) fun _=>Tr.Deaf.bind (ZO _) fun _=>trivial
theorem QAD (a:Int)(s:Ms):(zk a s).Deaf:=Tr.Deaf.bind (Zt ..) fun _=>Tr.Deaf.bind (Zt ..) fun _=>trivial
theorem deaf_push (x:Int)(s:Ms):(QDO x s).Deaf:=Tr.Deaf.bind (XG ..) fun _=>XG ..
theorem QIS (s:Ms):(QGm s).Deaf:=Tr.Deaf.bind (QAD ..) fun _=>trivial
theorem Qq {α:Type} {c:Prop} [Decidable c] {t u:Tr α}(h:t.Deaf)(k:u.Deaf):(if c then t else u).Deaf:=by split<;>assumption
theorem QBr (k:Int)(s:Ms):(QC1 k s).Deaf:=Qq (Zt ..) trivial
theorem QEp (k b:Int)(s:Ms):(QEj k b s).Deaf:=Qq (XG ..) trivial
theorem QIJ (s:Ms):(QNj s).Deaf:=Tr.Deaf.bind (ZO _) fun _=>trivial
theorem QN4 (b:Bool)(s:Ms):(zg b s).Deaf:=Tr.Deaf.bind (ZO _) fun _=>Qq (Tr.Deaf.bind (Xg ..) fun _=>trivial) trivial
theorem QMt (b:Bool)(s:Ms):(QF2 b s).Deaf:=Tr.Deaf.bind (QCg _) fun _=>Qq (Tr.Deaf.bind (Xg ..) fun _=>Tr.Deaf.bind (deaf_push ..) fun _=>trivial) trivial
theorem QI5 (a:Int)(s:Ms):(QAb a s).Deaf:=Tr.Deaf.bind (XG ..) fun _=>trivial
theorem QJz (a:Int)(s:Ms):(QC4 a s).Deaf:=Tr.Deaf.bind (Zt ..) fun _=>trivial
theorem QAQ (a x:Int)(s:Ms):(Zo a x s).Deaf:=Tr.Deaf.bind (XG ..) fun _=>Tr.Deaf.bind (XG ..) fun _=>trivial
theorem QBG (a:Int)(s:Ms):(jI a s).Deaf:=Tr.Deaf.bind (QAD ..) fun _=>trivial
theorem QG3 (s:Ms):(QE7 s).Deaf:=by
 unfold QE7 QAJ QH1 QBg QAG QBe jr X3 zS zi Z4 QIT QCR QB4 Zc
 repeat' first
  | exact trivial
  | exact QN4 ..
  | exact QMt ..
  | exact QI5 ..
  | exact QJz ..
  | exact QAQ ..
  | exact QBr ..
  | exact QEp ..
  | exact deaf_push ..
  | refine Tr.Deaf.bind (Xg ..) fun _=>?_
  | refine Tr.Deaf.bind (QCg ..) fun _=>?_
  | refine Tr.Deaf.bind (QAD ..) fun _=>?_
  | refine Tr.Deaf.bind (QIS ..) fun _=>?_
  | refine Tr.Deaf.bind (ZO ..) fun _=>?_
  | refine Tr.Deaf.bind (QBr ..) fun _=>?_
  | refine Tr.Deaf.bind (QBG ..) fun _=>?_
  | refine Tr.Deaf.bind (QJG ..) fun _=>?_
  | refine Tr.Deaf.bind (QLv ..) fun _=>?_
  | refine Tr.Deaf.bind (deaf_push ..) fun _=>?_
  | refine Tr.Deaf.bind (XG ..) fun _=>?_
  | refine Tr.Deaf.bind (Qq (Xg ..) trivial) fun _=>?_
  | refine Qq ?_ ?_
theorem QFk (s:Ms):(QFE s).Deaf:=by
 unfold QFE zH QCA QEt QB3 QAE Z2 ZT QAA Z5 jk jS jm jO QCI
 repeat' first
  | exact trivial
  | exact QAQ ..
  | exact QEp ..
  | refine Tr.Deaf.bind (Xg ..) fun _=>?_
  | refine Tr.Deaf.bind (QCg ..) fun _=>?_
  | refine Tr.Deaf.bind (QIS ..) fun _=>?_
  | refine Tr.Deaf.bind (QBG ..) fun _=>?_
  | refine Tr.Deaf.bind (Zt ..) fun _=>?_
  | refine Tr.Deaf.bind (XG ..) fun _=>?_
  | refine Tr.Deaf.bind (QJG ..) fun _=>?_
  | refine Tr.Deaf.bind (QLv ..) fun _=>?_
  | refine Tr.Deaf.bind (Qq trivial (QBr ..)) fun _=>?_
  | refine Qq ?_ ?_
  | refine Tr.Deaf.bind ?_ fun _=>?_
theorem QFZ (s:Ms):(QER s).Deaf:=by
 unfold QER QAF QB5 ZV Za QAp
 repeat' first
  | exact trivial
  | exact QEp ..
  | exact QBr ..
  | exact XG ..
  | refine Tr.Deaf.bind (Xg ..) fun _=>?_
  | refine Tr.Deaf.bind (Zt ..) fun _=>?_
  | refine Qq ?_ ?_
  | refine Tr.Deaf.bind ?_ fun _=>?_
theorem QGM (c:Int)(s:Ms):(QJo c s).Deaf:=by
 unfold QJo
 refine Qq (Tr.Deaf.bind (Tr.Deaf.bind ?_ fun _=>trivial) fun _=>QFZ _) (Qq (Tr.Deaf.bind (Tr.Deaf.bind (QE2 _) fun _=>trivial) fun _=>QFk _) (Tr.Deaf.bind ?_ fun _=>QG3 _))
 · unfold j0
   exact Qq (QE2 _) (Tr.Deaf.bind (QIJ _) fun _=>Tr.Deaf.bind (ZO _) fun _=>Tr.Deaf.bind (Xg ..) fun _=>trivial)
 · unfold qy
   exact Qq (Tr.Deaf.bind (QIJ _) fun _=>Qq (Xg ..) trivial) trivial
def QDk (xs:List Int):Nat→Nat
 | 0=>0
 | k+1=>QDk xs k+lenOf (xs.drop (QDk xs k))
def Runs (xs:List Int)(k:Nat):Prop:=∀ j,j < k→okM (xs.drop (QDk xs j))=true
def Stops (xs:List Int)(k:Nat):Prop:=Runs xs k∧okM (xs.drop (QDk xs k))=false
theorem Runs.zero (xs:List Int):Runs xs 0:=fun j hj=>by omega
theorem Runs.succ {xs:List Int} {k:Nat}(h:Runs xs k)(o:okM (xs.drop (QDk xs k))=true):Runs xs (k+1):=fun j hj=>by
 by_cases e:j=k
 · subst e;exact o
 · exact h j (by omega)
theorem QU9 {ys:List Int}(h:okM ys=true):lenOf ys≤ys.length:=by
 unfold okM at h
 exact of_decide_eq_true h
theorem Runs.pos {xs:List Int} {k:Nat}(h:Runs xs k):k≤QDk xs k∧QDk xs k≤xs.length:=by
 induction k with
 | zero=>exact⟨Nat.le_refl _,Nat.zero_le _⟩
 | succ k ih =>
   have h1:=ih (fun j hj=>h j (by omega))
   have h2:=QU9 (h k (by omega))
   have h3:=QDW (xs.drop (QDk xs k))
   rw[List.length_drop] at h2
   show k+1≤QDk xs k+lenOf (xs.drop (QDk xs k))∧QDk xs k+lenOf (xs.drop (QDk xs k))≤xs.length
   omega
theorem Stops.same {xs:List Int} {j k:Nat}(h:Stops xs j)(h':Stops xs k):j=k:=by
 rcases Nat.lt_trichotomy j k with e|e|e
 · have:=h'.1 j e
   rw[h.2] at this
   cases this
 · exact e
 · have:=h.1 k e
   rw[h'.2] at this
   cases this
theorem Bytes8.drop {xs:List Int}(h:Bytes8 xs)(k:Nat):Bytes8 (xs.drop k):=fun x hx=>h x (List.mem_of_mem_drop hx)
theorem Bytes8.take {xs:List Int}(h:Bytes8 xs)(k:Nat):Bytes8 (xs.take k):=fun x hx=>h x (List.mem_of_mem_take hx)
theorem Bytes8.append {xs ys:List Int}(h:Bytes8 xs)(h':Bytes8 ys):Bytes8 (xs++ys):=fun x hx=>by
 rcases List.mem_append.1 hx with e|e
 · exact h x e
 · exact h' x e
def preS (c:Int)(s:Ms):Ms:=({ s.toPlane (if c=253 then 4 else 3) with r:=jB s.r 1 }:Ms).pcUp
theorem QPD {c:Int}(h:c=221∨c=253)(s:Ms):XX [] c s=.error ⟨1,s.r.pc,0,4⟩:=by rw[XX,if_pos h]
theorem QMS {c:Int}(h:c=221∨c=253)(s:Ms)(b:Int)(bs:List Int):XX (b :: bs) c s=XX bs b (preS c s):=by rw[XX,if_pos h];rfl
theorem QLZ (a:Int):CyK ⟨1,a,0,4⟩:=by simp[CyK]
theorem QPu {e:Cy}:∀ {xs:List Int} {c:Int} {s:Ms},XX xs c s=.error e→CyK e:=by
 intro xs
 induction xs with
 | nil =>
   intro c s h
   by_cases hp:c=221∨c=253
   · rw[QPD hp] at h
     injection h with h;subst h
     exact QLZ _
   · rw[QCp hp] at h;exact (QGM c s).error h
 | cons x xs ih =>
   intro c s h
   by_cases hp:c=221∨c=253
   · rw[QMS hp] at h;exact ih h
   · rw[QCp hp] at h;exact (QGM c s).error h
def ms1 (g:Rg):Ms:=(({ ms0 g with r:=jB g 1 }:Ms).pcUp).noLate
theorem QJc (g:Rg):Xj g []=.error ⟨1,g.pc,0,4⟩:=by unfold Xj;split<;>rfl
theorem QFy {g:Rg}(h:g.halted=true)(b:Int)(bs:List Int):Xj g (b :: bs)=.ok ({ ms0 g with r:=jB g 1 },bs):=by unfold Xj;rw[if_pos h];exact Tr.run_done _ _
theorem QFs {g:Rg}(h:g.halted=false)(b:Int)(bs:List Int):Xj g (b :: bs)=XX bs b (ms1 g):=by unfold Xj;rw[if_neg (by rw[h];simp)];rfl
theorem QVT {g:Rg} {e:Cy} {xs:List Int}(h:Xj g xs=.error e):CyK e:=by
 cases xs with
 | nil=>rw[QJc] at h;injection h with h;subst h;exact QLZ _
 | cons x xs =>
   cases hh:g.halted with
   | true=>rw[QFy hh] at h;cases h
   | false=>rw[QFs hh] at h;exact QPu h
theorem QR6 {g:Rg} {c:Int} {e:Cy} {xs:List Int}(h:Z1 g c xs=.error e):CyK e:=QPu h
structure T3 where
 c:Cy
 g:Rg
 b:Bool
def QNa (c:Cy):T3:=⟨c,Jf,false⟩
def QO7 (g:Rg):T3:=⟨JN,g,true⟩
def ofX (X:Except Cy (Ms×List Int)):T3:=⟨XZ X,X4 X,Q6 X⟩
def XR (sp pc:Int):List Cy:=[⟨7,0,0,1⟩,⟨3,(sp-1)%65536,pc / 256,3⟩,⟨3,(sp-2)%65536,pc%256,3⟩]
def qV (at_:Int):List Cy:=[⟨2,at_,0,3⟩,⟨2,(at_+1)%65536,0,3⟩]
def XF (l:List Cy)(g:Rg)(n:Nat):T3:=if n < l.length then QNa (l.getD n JN) else QO7 g
def QMg (g:Rg)(iff1 iff2:Bool):Rg:={ jB g 1 with halted:=false,late:=false,iff1:=iff1,iff2:=iff2 }
def Z9 (g:Rg)(aim:Int):Rg:={ g with sp:=(g.sp-2)%65536,pc:=aim,wz:=aim }
def zy (v:Int):Bool:=v==203||(v==221||(v==237||v==253))
def QIl (g:Rg)(v:Int)(xs:List Int):T3 :=
 if g.mode=0 then (if zy v=true then QO7 (QMg g false false) else ofX (Z1 (QMg g false false) v xs)) else
 if g.mode=1 then XF (XR g.sp g.pc) (Z9 (QMg g false false) 56) xs.length else
 XF (XR g.sp g.pc++qV (256*g.i+v)) (Z9 (QMg g false false) (256*xs.getD 4 0+xs.getD 3 0)) xs.length
def J5 (g:Rg)(which:Int)(xs:List Int):T3 :=
 if which=1 then (match xs with|[]=>QNa ⟨1,g.pc,0,4⟩|_ :: ys=>XF (XR g.sp g.pc) (Z9 (QMg g false g.iff2) 102) ys.length) else
 if which=2 then (match xs with|[]=>QNa ⟨6,g.pc,0,6⟩|v :: ys=>QIl g v ys) else ofX (Xj g xs)
theorem RgB.beg {g:Rg}(h:RgB g)(i j:Bool):RgB (QMg g i j):=by
 have ht:=h.tick 1
 exact⟨ht.af,ht.bc,ht.de,ht.hl,ht.af2,ht.bc2,ht.de2,ht.hl2,ht.ix,ht.iy,ht.sp,ht.pc,ht.wz,ht.i,ht.r,ht.mode⟩
theorem QKv (sp pc:Int):∀ c∈XR sp pc,1≤c.t∧c.t≤7:=by
 intro c h
 simp only[XR,List.mem_cons,List.not_mem_nil,or_false] at h
 rcases h with rfl|rfl|rfl<;>simp
theorem QSV (a:Int):∀ c∈qV a,1≤c.t∧c.t≤7:=by
 intro c h
 simp only[qV,List.mem_cons,List.not_mem_nil,or_false] at h
 rcases h with rfl|rfl<;>simp
theorem QKE {l:List Cy}(h:∀ c∈l,1≤c.t∧c.t≤7)(g:Rg)(n:Nat)(hb:(XF l g n).b=false):1≤(XF l g n).c.t∧(XF l g n).c.t≤7:=by
 unfold XF at *
 split
 · rename_i hn
   have e:(QNa (l.getD n JN)).c=l[n]:=by rw[List.getD_eq_getElem?_getD,List.getElem?_eq_getElem hn];rfl
   rw[e]
   exact h _ (List.getElem_mem hn)
 · rename_i hn
   rw[if_neg hn] at hb
   cases hb
theorem QUT {X:Except Cy (Ms×List Int)}(h:∀ e,X=.error e→CyK e)(hb:(ofX X).b=false):1≤(ofX X).c.t∧(ofX X).c.t≤7:=by
 rcases X with e|⟨s,ys⟩
 · have:=h e rfl;exact⟨this.2.2.2.1,this.2.2.2.2.1⟩
 · cases hb
theorem QUO (g:Rg)(which:Int)(xs:List Int)(hb:(J5 g which xs).b=false):1≤(J5 g which xs).c.t∧(J5 g which xs).c.t≤7:=by
 unfold J5 at *
 split
 · rename_i h1
   rw[if_pos h1] at hb
   cases xs with
   | nil=>exact⟨by show (1:Int)≤4;omega,by show (4:Int)≤7;omega⟩
   | cons v ys=>exact QKE (QKv _ _) _ _ hb
 · rename_i h1
   rw[if_neg h1] at hb
   split
   · rename_i h2
     rw[if_pos h2] at hb
     cases xs with
     | nil=>exact⟨by show (1:Int)≤6;omega,by show (6:Int)≤7;omega⟩
     | cons v ys =>
       simp only at hb ⊢
       unfold QIl at *
       split
       · rename_i h3
         rw[if_pos h3] at hb
         split
         · rename_i h4;rw[if_pos h4] at hb;cases hb
         · rename_i h4;rw[if_neg h4] at hb;exact QUT (fun e he=>QR6 he) hb
       · rename_i h3
         rw[if_neg h3] at hb
         split
         · rename_i h4;rw[if_pos h4] at hb;exact QKE (QKv _ _) _ _ hb
         · rename_i h4;rw[if_neg h4] at hb
           exact QKE (fun c hc=>(List.mem_append.1 hc).elim (QKv _ _ c) (QSV _ c)) _ _ hb
   · rename_i h2
     rw[if_neg h2] at hb
     exact QUT (fun e he=>QVT he) hb
end Go.Proofs.YtmgcgiecimnncaaGreatDoor
