/- The law's walk and what it wants (several texts in one). -/
import Derived.Test.YtkgaeamdhhceiaaGreatDoorSrG33
namespace Go.Proofs.YtkgaeamdhhceiaaGreatDoor
open Go.RowKit
set_option linter.unusedVariables false
set_option linter.unusedSimpArgs false
set_option maxRecDepth 20000
set_option maxHeartbeats 20000000
theorem QUT (q:Addr)(i:Nat)(h:i < 4)(w:World):(Instr.fieldAt 54 (.pointer (some q)) i).run Tryz.prog w=.ok (.pointer (some (q.add i))) w:=by
 match i,h with
 | 0,_=>simp[go_sem]
 | 1,_=>simp[go_sem]
 | 2,_=>simp[go_sem]
 | 3,_=>simp[go_sem]
theorem QVW {P:Program} {w:World} {q:Addr} {V:Value} {t:TypeId}(hc:w.cell? q=some V)(hu:(P.underlying t).map (·.isRow)=some false:=by kernel_rfl):(Instr.loadAt t (.pointer (some q))).run P w=.ok V w:=by
 cases hp:P.underlying t with
 | none=>rw[hp] at hu;cases hu
 | some d=>rw[hp] at hu;injection hu with hu;exact QIX hp hu hc
theorem CysIn.parts {w:World} {B:Nat} {p:Addr} {l:List Cy}(h:CysIn w B (some p) l){k:Nat}(hk:k < l.length):w.cell? ((p.add (k*4)).add 0)=some (.int .i64 l[k].kind)∧w.cell? ((p.add (k*4)).add 1)=some (.int .u16 l[k].addr)∧w.cell? ((p.add (k*4)).add 2)=some (.int .u8 l[k].data)∧w.cell? ((p.add (k*4)).add 3)=some (.int .i64 l[k].t):=by
 obtain⟨h0,h1,h2,h3⟩:=QEg l k hk
 exact⟨by rw[add_zero'];exact h.values _ _ h0,by rw[QAa _ _ _ (by omega)];exact h.values _ _ h1,by rw[QAa _ _ _ (by omega)];exact h.values _ _ h2,by rw[QAa _ _ _ (by omega)];exact h.values _ _ h3⟩
structure CycX where
 k:Nat
 y:Nat→Value
def QVx (A B:Option Addr)(n c d:Nat)(x:CycX):List Value:=[.slice A n c,.slice B n d,x.y 2,x.y 3,.bool false,.int .i64 (x.k:Int),x.y 6,x.y 7,x.y 8,x.y 9,x.y 10,x.y 11,x.y 12,x.y 13,x.y 14,x.y 15,x.y 16,x.y 17,x.y 18,x.y 19,x.y 20,x.y 21,x.y 22,x.y 23,x.y 24,x.y 25]
theorem QHu (A B:Option Addr)(c d:Nat)(l:List Cy)(hl:l.length≤1000)(W:World)(hA:CysIn W W.heap.size A l)(hB:CysIn W W.heap.size B l) :
 Calls Tryz.prog 13 #[.slice A l.length c,.slice B l.length d] W fun e W'=>e=.returned (.bool true)∧Below W.heap.size W W':=by
 go_enter Tryz.func13,Tryz.ntmps13
 refine JB<|qQ [] (Many.begin W) fun w1 k1=>coS<|qQ [] k1 fun w2 k2=>coI ((l.length:Int) != (l.length:Int)) (fun e=>by simp at e) fun _=>JE<|eoT<|coS<|qQ [] k2 fun w3 k3=>coB<|ZN (QVx A B l.length c d) (fun x W'=>Below W.heap.size W W'∧x.k≤l.length) (fun x=>l.length-x.k) (fun y=>⟨0,y⟩) ⟨k3.touch.below,Nat.zero_le _⟩ ?_
 rintro ⟨k,y⟩ W' ⟨hlow,hk0⟩
 have hk:k≤l.length:=hk0
 clear hk0
 refine coS<|qQ [] (Many.begin W') fun wa ka=>coI (decide ((k:Int) < (l.length:Int))) (fun hlt=>JE<|eoT<|coS<|coB<|?_) fun hge=>coX<|X8<|X8<|QAe<|eoT ?_
 · have hlt:k < l.length:=by have:(k:Int) < (l.length:Int):=by simpa using hlt
                             omega
   obtain⟨p,rfl⟩:=hA.addr hlt
   obtain⟨q,rfl⟩:=hB.addr hlt
   have ba:=bOn hlow ka
   refine coD (w0:=W) 8 ba fun wb hb1 hb2=>qM [0,1,4,5] hb2<|qT 2 hb2 (fun w' _=>XF (QGV p l.length c k hlt _))<|qT 3 hb2 (fun w' hS=>J3 (CysIn.ld (hA.below hS) hlt))<|qT 6 hb2 (fun w' _=>XF (QGV q l.length d k hlt _))<|qT 7 hb2 (fun w' hS=>J3 (CysIn.ld (hB.below hS) hlt))<|poE<|kBj 25 (cyV l[k]) (cyV l[k]) (.bool false) (QJE _ _ _ _ _) (QUr _)<|qE [] (Many.begin wb) fun wc kc=>coF<|JE<|eoB<|eoT<|coZ<|qR 1 [] kc fun wd kd=>wM (QA3 k (by omega))<|qF [] kd fun we ke=>Qk (fun y=>⟨k+1,y⟩) ⟨bOn hb2 ke,hlt⟩ (by show l.length-(k+1) < l.length-k;omega)
 · exact qQ [] ka fun wz kz=>JJ<|J8 (.bool true) ⟨rfl,bOn hlow kz⟩
def QUS (A:Option Addr)(n c:Nat)(x:QRC):List Value:=[.slice A n c,x.y 1,.slice none 0 0,x.v,.int .i64 (x.k:Int),x.y 5,x.y 6,x.y 7,x.y 8,x.y 9,x.y 10,x.y 11,x.y 12,x.y 13,x.y 14,x.y 15,x.y 16,x.y 17,x.y 18,x.y 19,x.y 20,x.y 21,x.y 22,x.y 23,x.y 24,x.y 25,x.y 26,x.y 27,x.y 28,x.y 29,x.y 30,x.y 31]
theorem soX {P:Program} {ops:Array Oper} {Q:Exit→Act→World→Prop} {base:List Value} {l:Jy} {w:World} {S:World→Prop} {n f i:Nat} {listed:Array Bool} {V:Value} {w':World}(hS:S w')(he:(execOp (evO base l) (jV ops i)).run P w=.ok (.value V) w')(h:PO P ops Q S n base f (listed.setIfInBounds i true) (Q7 (jV ops i).dst V l) w')
 (hd:(Q9 (jV ops i).dst base.length,decide (i < n),QC ops base.length base l (jV ops i),(ops[i]?).isSome)=(true,true,some true,true):=by kernel_rfl):SO P ops Q S n base f listed i l w:=by
 simp only[Prod.mk.injEq] at hd
 obtain⟨d1,d2,d3,d4⟩:=hd
 have ho:=QCW d4
 refine⟨fun hi hr inv=>⟨of_decide_eq_true d2,?_⟩⟩
 unfold wpOp
 simp only[ho,J5 d3 hi,if_true]
 refine .inl ?_
 unfold Oper.wp
 rw[J9 hi,he,Oper.upon_value,QZ]
 exact⟨hS,h.h (ZJ d1 hi) (inv.set hr (of_decide_eq_true d2))⟩
theorem QVk {ρ:Operand→Value} {o:Oper} {s x:Operand} {w:World} {b:Nat} {v:Value} {m:List (Int×Int)} {q:Addr} {cq:Nat}(d:Int×Int)(hown:w.ownsRow b 67 2 v m.length (cvs m))(hb:b≤w.heap.size)(hm:m.length≤900000)(hnews:∀ j u,(cvs [d])[j]?=some u→w.cell? (q.add j)=some u)
 (ho:o.op=.call { callee:=.builtin .append,args:=#[s,x],argTypes:=#[25,25] })(hs:ρ s=v)(hx:ρ x=.slice (some q) 1 cq):∃ v' w',(execOp ρ o).run Tryz.prog w=.ok (.value v') w'∧w'.ownsRow b 67 2 v' (m++[d]).length (cvs (m++[d]))∧w.grownBy w' v.ownBlock:=by
 obtain⟨i0,hi0,hz0,hz1,hz2⟩:=info_parts QGt
 obtain⟨v',w',hr,h2,h3,-,-⟩:=run_append_own_at (P:=Tryz.prog) w b 25 o.type 67 i0 (.agg #[.int .u16 0,.int .u8 0]) 2 4 Tryz.underlying25 hi0 hz0 hz1 hz2 (by kernel_rfl) (by decide) v m.length (cvs m) hown q 1 cq (cvs [d]) rfl hnews (QCY _) (by simp only[maxLen];omega) (by omega) hb
 refine⟨v',w',?_,?_,h3⟩
 · unfold execOp
   simp only[ho,resolve,invoke,builtin,Sem.run_bind,Sem.run_pure,Result.andThen_ok,List.map_toArray,List.map_cons,List.map_nil,hs,hx,hr]
 · have e:cvs m++cvs [d]=cvs (m++[d]):=QAn m [d]
   rw[e] at h2
   rw[List.length_append]
   exact h2
theorem QUV {ops:Array Oper} {Q:Exit→Act→World→Prop} {base:List Value} {l:Jy} {w:World} {S:World→Prop} {n f i:Nat} {listed:Array Bool}(s x:Operand){b:Nat} {v:Value} {m:List (Int×Int)} {q:Addr} {cq:Nat}(d:Int×Int)(hown:w.ownsRow b 67 2 v m.length (cvs m))(hb:b≤w.heap.size)(hm:m.length≤900000)(hnews:∀ j u,(cvs [d])[j]?=some u→w.cell? (q.add j)=some u)
 (h:∀ v' w',w'.ownsRow b 67 2 v' (m++[d]).length (cvs (m++[d]))→w.grownBy w' v.ownBlock→S w'∧PO Tryz.prog ops Q S n base f (listed.setIfInBounds i true) (Q7 (jV ops i).dst v' l) w')
 (ho:(jV ops i).op=.call { callee:=.builtin .append,args:=#[s,x],argTypes:=#[25,25] }:=by exact rfl)(hs:evO base l s=v:=by kernel_rfl)(hx:evO base l x=.slice (some q) 1 cq:=by kernel_rfl)
 (hd:(Q9 (jV ops i).dst base.length,decide (i < n),QC ops base.length base l (jV ops i),(ops[i]?).isSome)=(true,true,some true,true):=by kernel_rfl):SO Tryz.prog ops Q S n base f listed i l w:=by
 obtain⟨v',w',hr,h2,h3⟩:=QVk d hown hb hm hnews ho hs hx
 obtain⟨hS,hp⟩:=h v' w' h2 h3
 exact soX hS hr hp hd
theorem QM0 (A:Option Addr)(c:Nat)(l:List Cy)(hl:l.length≤1000)(W:World)(hin:CysIn W W.heap.size A l):Calls Tryz.prog 16 #[.slice A l.length c] W (Gives W (XJ l)):=by
 go_enter Tryz.func16,Tryz.ntmps16
 refine JB<|qQ [] (Many.begin W) fun w1 k1=>qQ [] k1 fun w2 k2=>coS<|qQ [] k2 fun w3 k3=>coB<|ZN (QUS A l.length c) (QQj W l) (fun x=>l.length-x.k) (fun y=>⟨0,.slice none 0 0,y⟩) ⟨k3.touch.below,World.ownsRow_nil ..,Nat.zero_le _⟩ ?_
 rintro ⟨k,v,y⟩ W' ⟨hB,hown0,hk0⟩
 have hk:k≤l.length:=hk0
 have hown:W'.ownsRow W.heap.size 67 2 v (XJ (l.take k)).length (cvs (XJ (l.take k))):=hown0
 clear hk0 hown0
 have hsl:(XJ (l.take k)).length≤1000:=Nat.le_trans (QE0 _) (by rw[List.length_take];omega)
 refine coS<|qQ [] (Many.begin W') fun wa ka=>coI (decide ((k:Int) < (l.length:Int))) (fun hlt=>JE<|eoT<|coS<|coB<|?_) fun hge=>coX<|X8<|X8<|QAe<|eoT ?_
 · have hlt:k < l.length:=by have:(k:Int) < (l.length:Int):=by simpa using hlt
                             omega
   obtain⟨p,rfl⟩:=hin.addr hlt
   have ba:=bOn hB ka
   have hS:∀ {w':World},Below W.heap.size W w'→CysIn w' W.heap.size (some p) l:=fun hb=>hin.below hb
   refine coR<|qR 2 [] ka fun wb kb=>wM (XF (QGV p l.length c k hlt _))<|wM (QCN (QUT (p.add (k*4)) 0 (by decide) _))<|wM (J3 (QVW ((hS (bOn hB kb)).parts hlt).1))<|qE [] kb fun wc kc=>coI (l[k].kind==5) (fun h5=>?_) fun h5=>JE<|eoB<|eoT<|coZ<|qR 1 [] kc fun wd kd=>wM (QA3 k (by omega))<|qF [] kd fun we ke=>Qk (fun y=>⟨k+1,v,y⟩) ⟨bOn hB ke,?_,hlt⟩ (by show l.length-(k+1) < l.length-k;omega)
   · have h5:l[k].kind=5:=by simpa using h5
     have bc:=bOn hB kc
     refine coDz (w0:=W) 14 bc fun wd hd1 hd2=>qM [0,1,2,6,7] hd2<|qT 3 hd2 (fun w' _=>XF (QGV p l.length c k hlt _))<|qT 4 hd2 (fun w' _=>QCN (QUT (p.add (k*4)) 1 (by decide) _))<|qT 5 hd2 (fun w' hS'=>J3 (QVW ((hS hS').parts hlt).2.1))<|qT 8 hd2 (fun w' _=>XF (QGV p l.length c k hlt _))<|qT 9 hd2 (fun w' _=>QCN (QUT (p.add (k*4)) 2 (by decide) _))<|qT 10 hd2 (fun w' hS'=>J3 (QVW ((hS hS').parts hlt).2.2.1))<|qM [11] hd2 ?_
     have hownd:=(own_below (own_below hown kc.touch.below) hd1).alloc (.cells #[.int .u16 l[k].addr,.int .u8 l[k].data] 67)
     have bA:=XT hd2 (.cells #[.int .u16 l[k].addr,.int .u8 l[k].data] 67)
     refine ZZ 12 (soX bA (XD (bsC l[k].addr l[k].data wd)) ?_)
     refine ZZ 13 (QUV (cq:=1) (.tmp 17) (.tmp 29) (l[k].addr,l[k].data) hownd (by have:=bA.size;omega) (by omega) (fun j u hu=>(Row.new wd 67 #[.int .u16 l[k].addr,.int .u8 l[k].data]).values j u hu) fun v' we own' hg=>?_)
     have hBe:=XA bA hg hownd (Nat.le_refl _) bA.size
     refine⟨hBe,poE<|qF [] (Many.begin we) fun wf kf=>eoB<|eoT<|coZ<|qR 1 [] kf fun wg kg=>wM (QA3 k (by omega))<|qF [] kg fun wh kh=>Qk (fun y=>⟨k+1,v',y⟩) ⟨bOn hBe kh,?_,hlt⟩ (by show l.length-(k+1) < l.length-k;omega)⟩
     show wh.ownsRow _ _ _ v' (XJ (l.take (k+1))).length (cvs (XJ (l.take (k+1))))
     rw[QBd l k hlt,if_pos h5]
     exact own_below own' kh.touch.below
   · have h5:¬l[k].kind=5:=by simpa using h5
     show we.ownsRow _ _ _ v (XJ (l.take (k+1))).length (cvs (XJ (l.take (k+1))))
     rw[QBd l k hlt,if_neg h5]
     exact own_below hown ke.touch.below
 · have hkl:k=l.length:=by have:¬((k:Int) < (l.length:Int)):=by simpa using hge
                           omega
   subst hkl
   rw[List.take_length] at hown
   obtain⟨A',c',rfl,hc,hci,hn⟩:=Qq hown
   exact qQ [] ka fun wz kz=>JJ<|J8 (.slice A' (XJ l).length c') ⟨A',c',rfl,(hci.below kz.touch.below).more kz.touch.size,hc,hn,bOn hB kz⟩
theorem QFn (g:Rg)(A:Option Addr)(cap:Nat)(ms:List (Int×Int))(A':Option Addr)(cap':Nat)(ps:List Int)(which v:Int)(v0:0≤v)(v1:v≤255)(hg:RgB g)(w:World)
 (hc:ms.length≤cap)(hm:cap≤maxLen)(h16:QL ms)(hin:CellsIn w w.heap.size A ms)(hn:A=none→cap=0)(hc':ps.length≤cap')(hm':cap'≤maxLen)(h8:Bytes8 ps)(hin':BytesIn w w.heap.size A' ps)(hn':A'=none→cap'=0)(hM:Masks w)(hD:Digits w)(hC:Courses w)(hO:QGI w) :
 Calls Tryz.prog 3 #[Q2 g (.slice A ms.length cap) (.slice A' ps.length cap'),.int .i64 which,.int .u8 v] w fun e w'=>e=.returned (.bool true)∧Below w.heap.size w w':=by
 have ht:Tabs w w.heap.size:=(NextTabs.mk hM hC hD hO).tabs
 have hA:jK:=QPc ht
 have hI:InW w w.heap.size (Q2 g (.slice A ms.length cap) (.slice A' ps.length cap')) ⟨g,ms,ps⟩:=⟨A,cap,A',cap',rfl,hin,hn,hc,hin',hn',hc'⟩
 have hok:OkW ⟨g,ms,ps⟩:=⟨hg,h16,h8⟩
 have hv:B8 v:=⟨v0,v1⟩
 go_enter Tryz.func3,Tryz.ntmps3
 refine JB<|qQ [] (Many.begin w) fun w1 k1=>coR<|qC (QDw hA w1 (ht.below k1.touch.below)) k1 fun w2 k2=>qE [] k2 fun w3 k3=>coS<|qQ [] k3 fun w4 k4=>coF<|JE<|eoT<|coR<|qR 1 [0] k4 fun w5 k5=>qC (QIu w5 (hI.on k5.touch.below)) k5 fun w6 k6=>qE [] k6 fun w7 k7=>coS<|coR<|qR 1 [] k7 fun w8 k8=>?_
 by_cases hf:QFK ⟨g,ms,ps⟩=true
 case neg=>exact qE [] k8 fun w9 k9=>coI (!QFK ⟨g,ms,ps⟩) (fun _=>qQ [] k9 fun wa ka=>JJ<|QF<|J8 (.bool true) ⟨rfl,ka.touch.below⟩) fun h=>absurd h (by simpa using hf)
 refine qE [] k8 fun w9 k9=>coI (!QFK ⟨g,ms,ps⟩) (fun h=>absurd h (by simp[hf])) fun _=>JE<|eoT<|coR<|qR 3 [0] k9 fun wa ka=>?_
 have hlen:ms.length≤80∧ps.length≤40:=QMZ hf
 have hba:=ka.touch.below
 have r3:Row wa w.heap.size 28 (JQ g (.slice A ms.length cap) (.slice A' ps.length cap')):=ka.row 0 (JQ g (.slice A ms.length cap) (.slice A' ps.length cap')).toList (by kernel_rfl)
 have hxl:=QNp ⟨g,ms,ps⟩ which v
 have same:=QGs (w:=⟨g,ms,ps⟩) hg which v (by show ms.length < 191;omega)
 have hokP:=hok.pstepW hA which hv
 have hml:(Jk ⟨g,ms,ps⟩ which v).m.length≤ms.length+200:=zI ⟨g,ms,ps⟩ which v
 have KS:=QHN hA which v wa hok hv (by show ms.length≤_;omega) (by show ps.length≤_;omega) (hI.on hba) (ht.below hba)
 obtain⟨l,hl⟩:∃ l,l=(Jj ⟨g,ms,ps⟩ which v).l:=⟨_,rfl⟩
 obtain⟨sX,hsX⟩:∃ sX,sX=(Jj ⟨g,ms,ps⟩ which v).n:=⟨_,rfl⟩
 obtain⟨X,hX⟩:∃ X,X=mkW (Jk ⟨g,ms,ps⟩ which v):=⟨_,rfl⟩
 have hX8:Bytes8 X.p:=by rw[hX];exact hokP.p
 have hXl:X.m.length≤1000000000:=by
  have h1:=QGN (Jk ⟨g,ms,ps⟩ which v)
  rw[hX]
  omega
 rw[←hl] at hxl
 rw[←hX,←hl,←hsX] at KS
 refine kX KS fun e wb ⟨V2,Ay,cy,he,h2,hcy,hny,hly,hbb⟩=>⟨_,he,?_⟩
 have h2':=h2
 obtain⟨A2,c2,B2,d2,rfl,-⟩:=h2'
 refine qE [0] (Many.begin wb) fun wc kc=>?_
 have hbc:=kc.touch.below
 have r9:Row wc wb.heap.size 28 (JQ X.g (.slice A2 X.m.length c2) (.slice B2 X.p.length d2)):=kc.row 0 (JQ X.g (.slice A2 X.m.length c2) (.slice B2 X.p.length d2)).toList (by kernel_rfl)
 have hac:Below wa.heap.size wa wc:=hbb.trans (hbc.mono hbb.size)
 have hBc:Below w.heap.size w wc:=hba.trans (hac.mono hba.size)
 have r3c:=r3.below hac r3.lt
 have h2c:=h2.on hbc
 have hcyc:=(hcy.below hbc).more hbc.size
 refine coR<|wM (J3 (jT r3c))<|qC (ZQ g A A' ms.length cap ps.length cap' wc) (Many.begin wc) fun wd kd=>qR 2 [] kd fun we ke=>?_
 have hce:=ke.touch.below
 have hBe:=hBc.trans (hce.mono hBc.size)
 have KR:=QHF hA which v we.heap.size 0 we hok hv (by show ms.length≤_;omega) (by show ps.length≤_;omega) (hI.on hBe).inP (Nat.le_refl _)
 rw[←same,←hX,←hl,←hsX] at KR
 refine kX KR fun e wf ⟨V3,Az,cz,he,h3p,hcz,hnz,hlz,hbf⟩=>⟨_,he,?_⟩
 have h3:=h3p.inW hbf.size
 have h3':=h3
 obtain⟨A3,c3,B3,d3,rfl,-⟩:=h3'
 refine qE [0] (Many.begin wf) fun wg kg=>?_
 have hbg:=kg.touch.below
 have r12:Row wg wf.heap.size 34 (JQ X.g (.slice A3 X.m.length c3) (.slice B3 X.p.length d3)):=kg.row 0 (JQ X.g (.slice A3 X.m.length c3) (.slice B3 X.p.length d3)).toList (by kernel_rfl)
 have hcg:Below wc.heap.size wc wg:=hce.trans ((hbf.trans (hbg.mono hbf.size)).mono hce.size)
 have hBg:=hBc.trans (hcg.mono hBc.size)
 have r9g:=r9.below hcg r9.lt
 have h2g:=h2c.on hcg
 have h3g:=h3.on hbg
 have hcyg:=(hcyc.below hcg).more hcg.size
 have hczg:=(hcz.below hbg).more hbg.size
 refine coD (w0:=wg) 21 (Below.refl _ _) fun wo ho1 ho2=>qT 0 ho2 (fun w' hS=>J3 (jT (r9g.below hS r9g.lt)))<|qT 2 ho2 (fun w' hS=>J3 (jT (r12.below hS r12.lt)))<|ZZ 1 (soC (ZQ X.g A2 B2 X.m.length c2 X.p.length d2 wo) fun e wp ⟨he,hbp⟩=>⟨_,he,ho2.trans (hbp.mono ho2.size),?_⟩)
 have hp2:=ho2.trans (hbp.mono ho2.size)
 refine ZZ 3 (soC (QBO (w:=X) wp (h2g.on hp2) (h3g.on hp2) hX8 hXl) fun e wq ⟨he,hbq⟩=>⟨_,he,hp2.trans (hbq.mono hp2.size),?_⟩)
 have hq2:=hp2.trans (hbq.mono hp2.size)
 refine qM [4,5,6] hq2<|ZZ 7 (soC (QHu Ay Az cy cz l (by omega) wq ((hcyg.below hq2).more hq2.size) ((hczg.below hq2).more hq2.size)) fun e wr ⟨he,hbr⟩=>⟨_,he,hq2.trans (hbr.mono hq2.size),?_⟩)
 have hr2:=hq2.trans (hbr.mono hq2.size)
 refine qM [8,9,10,11,12] hr2<|Zd 51 (show (sX==sX)=true by simp)<|qM [13,14,15,17] hr2<|ZZ 16 (soC (QG6 Ay cy l (by omega) wr ((hcyg.below hr2).more hr2.size)) fun e ws ⟨A5,c5,he,hc5,hl5,hn5,hbs⟩=>⟨_,he,hr2.trans (hbs.mono hr2.size),?_⟩)
 have hs2:=hr2.trans (hbs.mono hr2.size)
 refine ZZ 18 (soC (QM0 Az cz l (by omega) ws ((hczg.below hs2).more hs2.size)) fun e wt ⟨A6,c6,he,hc6,hl6,hn6,hbt⟩=>⟨_,he,hs2.trans (hbt.mono hs2.size),?_⟩)
 have ht2:=hs2.trans (hbt.mono hs2.size)
 have KC:=(QHE A5 c5 (XJ l) A6 c6 (XJ l) (Nat.le_trans (QE0 l) (by omega)) wt ((hc5.below hbt).more hbt.size) hc6).mono (R':=fun e w'=>e=.returned (.bool true)∧Below wt.heap.size wt w') fun e w' ⟨h1,h2⟩=>⟨by rw[h1,decide_eq_true rfl],h2⟩
 refine ZZ 19 (soC KC fun e wu ⟨he,hbu⟩=>⟨_,he,ht2.trans (hbu.mono ht2.size),?_⟩)
 have hu2:=ht2.trans (hbu.mono ht2.size)
 exact qM [20] hu2<|poE<|qE [] (Many.begin wu) fun wv kv=>JJ<|J8 (.bool true) ⟨rfl,bOn (hBg.trans (hu2.mono hBg.size)) kv⟩
end Go.Proofs.YtkgaeamdhhceiaaGreatDoor
