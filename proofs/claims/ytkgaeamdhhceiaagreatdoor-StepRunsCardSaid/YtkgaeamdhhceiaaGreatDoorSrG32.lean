/- Contracts and facts that the claim's proof wants (several texts in one). -/
import Derived.Laws.IdiomStrings
import Derived.Test.YtkgaeamdhhceiaaGreatDoorSrG31
namespace Go.Proofs.YtkgaeamdhhceiaaGreatDoor
open Go.RowKit
set_option linter.unusedVariables false
set_option linter.unusedSimpArgs false
set_option maxRecDepth 20000
set_option maxHeartbeats 20000000
def QCV (a b:Int):Int:=if b < a then b else a
theorem QVT {P:Program} {ρ:Operand→Value} {o:Oper} {x y:Operand}(a b:Int){w:World}(ho:o.op=.call { callee:=.builtin .min,args:=#[x,y],argTypes:=#[3,3] }:=by exact rfl)(hx:ρ x=.int .i64 a:=by kernel_rfl)(hy:ρ y=.int .i64 b:=by kernel_rfl):(execOp ρ o).run P w=.ok (.value (.int .i64 (QCV a b))) w:=by
 unfold execOp
 simp[ho,hx,hy,resolve,invoke,builtin,Builtin.min_,Builtin.min2,Sem.run_bind,Sem.run_pure,Result.andThen_ok,QCV,go_sem]
structure JX where
 k:Nat
 wd:Wd
 st:Int
 M:Value
 P:Value
 ob:Option Nat
 y:Nat→Value
structure JOk (B J:Nat)(Wb:World)(w0:Wd)(q:JX)(W:World):Prop where
 jny:Jny B J W q.wd.g q.M q.P q.ob q.wd.m q.wd.p q.k q.st
 low:Below B Wb W
 ok:OkW q.wd
 ml:q.wd.m.length≤w0.m.length+200*q.k
 pl:q.wd.p.length≤w0.p.length
 s0:0≤q.st
 s1:q.st≤1400*q.k
theorem JOk.bel {B J:Nat} {Wb:World} {w0:Wd} {q:JX} {W W':World}(h:JOk B J Wb w0 q W)(k:Below W.heap.size W W'):JOk B J Wb w0 q W':=⟨h.jny.bel k,h.low.trans (k.mono h.jny.lt),h.ok,h.ml,h.pl,h.s0,h.s1⟩
theorem QFA (hA:jK){B J:Nat} {Wb:World} {w0:Wd} {q:JX} {W:World}(h:JOk B J Wb w0 q W)(hk:q.k < 200)(hl:w0.m.length≤700000)(ht:Tabs Wb B) :
 Calls Tryz.prog 27 #[pT J 0,.int .i64 0,.int .u8 0] W fun e W'=>∃ V M' P' ob',e=.returned V∧∀ y,JOk B J Wb w0 ⟨q.k+1,Jk q.wd 0 0,q.st+(Jj q.wd 0 0).n,M',P',ob',y⟩ W':=by
 obtain⟨k,⟨g,m,p⟩,st,M,P,ob,y0⟩:=q
 have hn:=QEe ⟨g,m,p⟩ 0 0
 have hml:m.length≤w0.m.length+200*k:=h.ml
 have hk:k < 200:=hk
 have hs0:0≤st:=h.s0
 have hs1:st≤1400*k:=h.s1
 refine (QCc hA h.ok.g 0 B8.zero h.jny (ht.keep fun b hb=>h.low.block b hb) (by show 0≤st∧st≤900000;omega) (by show 0≤(k:Int)∧(k:Int)≤1000;omega) (by show m.length≤800000;omega) h.ok.m h.ok.p).mono ?_
 rintro e W' ⟨A,c,he,-,-,-,-,M',P',ob',hj,q',-⟩
 have hX:(Jj ⟨g,m,p⟩ 0 0).m.length≤m.length+200:=zI ⟨g,m,p⟩ 0 0
 have hP:(Jj ⟨g,m,p⟩ 0 0).p.length≤p.length:=QAs ⟨g,m,p⟩ 0 0
 refine⟨_,M',P',ob',he,fun y=>⟨hj,q'.low h.low h.jny.lt h.jny.js,h.ok.pstepW hA 0 B8.zero,?_,Nat.le_trans hP h.pl,?_,?_⟩⟩
 · show (Jj ⟨g,m,p⟩ 0 0).m.length≤w0.m.length+200*(k+1)
   omega
 · show 0≤st+(Jj ⟨g,m,p⟩ 0 0).n
   omega
 · show st+(Jj ⟨g,m,p⟩ 0 0).n≤1400*((k+1:Nat):Int)
   omega
def QVh (V:Value)(n:Int)(a b J:Nat)(x:JX):List Value:=[V,.int .i64 n,pT a 0,x.y 3,pT b 0,.int .i64 0,pT J 0,x.y 7,x.y 8,x.y 9,x.y 10,x.y 11,x.y 12,x.y 13,x.y 14,x.y 15,x.y 16,x.y 17,x.y 18,x.y 19,x.y 20,x.y 21,x.y 22,x.y 23]
def Jm (n:Int):Nat:=(QCV n 200).toNat
theorem QHo (n:Int):Jm n≤200:=by unfold Jm QCV;split<;>omega
theorem zh (n:Int)(k:Nat):((k:Int) < QCV n 200)↔k < Jm n:=by unfold Jm;omega
theorem QI3 (hA:jK){V:Value} {w:Wd}(n:Int)(W:World)(hw:OkW w)(hl:w.m.length≤700000)(hp:w.p.length≤1000000)(h:InW W W.heap.size V w)(ht:Tabs W W.heap.size) :
 Calls Tryz.prog 17 #[V,.int .i64 n] W fun e W'=>∃ V',e=.returned (.tuple #[V',.int .i64 (X1 (Jm n) w).2])∧InW W' W'.heap.size V' (mkW (X1 (Jm n) w).1)∧Below W.heap.size W W':=by
 have h0:=h
 obtain⟨A,c,A',c',rfl,-⟩:=h0
 go_enter Tryz.func17,Tryz.ntmps17
 refine JB<|qQ [] (Many.begin W) fun w1 k1=>coR<|qR 1 [0] k1 fun w2 k2=>kX (QCL w2 (h.on k2.touch.below)) fun e w3 ⟨J,M,P,he,hj,hb3⟩=>⟨_,he,qE [] (Many.begin w3) fun w4 k4=>coS<|coB<|ZN (QVh (Q2 w.g (.slice A w.m.length c) (.slice A' w.p.length c')) n W.heap.size (W.heap.size+1) J) (fun q W'=>JOk w2.heap.size J w2 w q W'∧q.k≤Jm n∧(X1 (Jm n-q.k) q.wd).1=(X1 (Jm n) w).1∧q.st+(X1 (Jm n-q.k) q.wd).2=(X1 (Jm n) w).2) (fun q=>Jm n-q.k) (fun y=>⟨0,w,0,M,P,none,y⟩) ?_ ?_⟩
 · exact⟨⟨hj.bel k4.touch.below,hb3.trans (k4.touch.below.mono hb3.size),hw,Nat.le_refl _,Nat.le_refl _,Int.le_refl _,by show (0:Int)≤1400*((0:Nat):Int);omega⟩,Nat.zero_le _,rfl,by show (0:Int)+_=_;rw[Int.zero_add];rfl⟩
 have hb2:=k2.touch.below
 have r4:Row w2 (W.heap.size+1) 28 (JQ JV (.slice none 0 0) (.slice none 0 0)):=k2.row 1 (JQ JV (.slice none 0 0) (.slice none 0 0)).toList (by kernel_rfl)
 clear k1 k2 k4 hj he
 rintro q W' ⟨hJ,hk,hr1,hr2⟩
 have hq:=hJ.jny
 have hql:=hq.low
 have hm:=hJ.ml
 have t2:=Tabs.below ht hb2
 have hn2:=QHo n
 obtain⟨k,⟨g,m,p⟩,st,M,P,ob,y⟩:=q
 refine coS<|coR<|qR 5 [0] (Many.start hq.row) fun wa ka=>wM (QVT n 200)<|qE [] ka fun wb kb=>coI (decide ((k:Int) < QCV n 200)) (fun hlt=>JE<|eoT<|coB<|coZ<|?_) fun hge=>coX<|X8<|X8<|QAe<|eoT ?_
 all_goals
  have hk:k≤Jm n:=hk
  have hm:m.length≤w.m.length+200*k:=hm
  have hJb:JOk w2.heap.size J w2 w ⟨k,⟨g,m,p⟩,st,M,P,ob,y⟩ wb:=by
   have qb:Kept (fun b=>b=J) W' wb:=(Kept.of_touch kb.touch).mono fun b _ e=>List.mem_singleton.1 e
   have rb:Row wb J 63 (XU g M P k st):=kb.row 0 (XU g M P k st).toList (by kernel_rfl)
   exact⟨hq.re qb rb (fun b e=>by have e:b=J:=e;exact e▸hq.low) (fun b e x=>hq.off (x▸e)),qb.low hJ.low hq.lt fun b e=>by have e:b=J:=e;exact e▸hq.low,hJ.ok,hJ.ml,hJ.pl,hJ.s0,hJ.s1⟩
 · have hlt:k < Jm n:=(zh n k).1 (by simpa using hlt)
   refine qR 1 [] (Many.begin wb) fun wc kc=>kX (QFA hA (hJb.bel kc.touch.below) (by show k < 200;omega) hl t2) fun e wd ⟨V',M',P',ob',he,hJ'⟩=>⟨_,he,qF [] (Many.begin wd) fun we ke=>eoB<|Qk (fun y=>⟨k+1,Jk ⟨g,m,p⟩ 0 0,st+(Jj ⟨g,m,p⟩ 0 0).n,M',P',ob',y⟩) ⟨(hJ' _).bel ke.touch.below,hlt,?_,?_⟩ (by show Jm n-(k+1) < Jm n-k;omega)⟩
   · have e:Jm n-k=(Jm n-(k+1))+1:=by omega
     rw[←hr1]
     show _=(X1 (Jm n-k) ⟨g,m,p⟩).1
     rw[e];rfl
   · have e:Jm n-k=(Jm n-(k+1))+1:=by omega
     rw[←hr2]
     show st+(Jj ⟨g,m,p⟩ 0 0).n+_=st+(X1 (Jm n-k) ⟨g,m,p⟩).2
     rw[e]
     exact Int.add_assoc _ _ _
 · have hkn:Jm n-k=0:=by
    have hge':¬((k:Int) < QCV n 200):=by simpa using hge
    have:¬k < Jm n:=fun e=>hge' ((zh n k).2 e)
    omega
   have hr1:(X1 (Jm n-k) ⟨g,m,p⟩).1=(X1 (Jm n) w).1:=hr1
   have hr2:st+(X1 (Jm n-k) ⟨g,m,p⟩).2=(X1 (Jm n) w).2:=hr2
   rw[hkn] at hr1 hr2
   have hr1:⟨g,m,p⟩=(X1 (Jm n) w).1:=hr1
   have hr2:st=(X1 (Jm n) w).2:=by rw[←hr2];show st=st+0;omega
   rw[←hr1,←hr2]
   have hjb:=hJb.jny
   have l4:=r4.lt
   have rb:Row wb (W.heap.size+1) 28 (JQ JV (.slice none 0 0) (.slice none 0 0)):=r4.below hJb.low r4.lt
   have k7:Many wb [J,W.heap.size+1] [⟨J,63,(XU g M P k st).toList.map some⟩] wb:=(Many.start hjb.row).wide fun x hx=>by simp at hx;simp[hx]
   refine coP (S:=Many wb [J,W.heap.size+1] [⟨J,63,(XU g M P k st).toList.map some⟩]) 7 k7.drew ?_
   have hb8:Below wb.heap.size wb wb.drew:=(Below.refl _ _).drew
   obtain⟨w8,hw8⟩:∃ w8,w8=wb.drew:=⟨_,rfl⟩
   have k8:=k7.drew
   rw[←hw8] at hb8 k8 ⊢
   have hj8:=hjb.bel hb8
   have l8:=rb.lt
   have s8:=hb8.size
   refine qD 0 [0,2,3,4,5] k8<|ZZ 1 (soC (QFi hj8 (by omega) hJb.ok.m (Nat.le_trans hJb.pl hp)) fun e w9 ⟨V9,he9,hO,hb9⟩=>⟨_,he9,k8.below hb9,?_⟩)
   have hO0:=hO
   obtain⟨A9,c9,Ap9,cp9,rfl,-⟩:=hO0
   have r9:=(rb.below hb8 rb.lt).below hb9 (by omega)
   have k9:=(k8.below hb9).beside (b:=W.heap.size+1) (by simp) (fun r hr=>by simp at hr;subst hr;show J≠_;omega) 0 (JQ g (.slice A9 (mkS m).length c9) (.slice Ap9 p.length cp9)).toList
   refine ZZ 6 (soW (cs:=JQ g (.slice A9 (mkS m).length c9) (.slice Ap9 p.length cp9)) r9 k9 ?_ (by rfl) rfl)
   obtain⟨wA,hwA⟩:∃ wA,wA=w9.setCells (W.heap.size+1) 0 (JQ g (.slice A9 (mkS m).length c9) (.slice Ap9 p.length cp9)).toList:=⟨_,rfl⟩
   have rA:=r9.setAll (vs:=JQ g (.slice A9 (mkS m).length c9) (.slice Ap9 p.length cp9)) rfl
   have bA:=QFX (W.heap.size+1) (JQ g (.slice A9 (mkS m).length c9) (.slice Ap9 p.length cp9)).toList 0 (Besides.refl (W.heap.size+1) (W.heap.size+1) w9)
   rw[←hwA] at rA bA k9 ⊢
   have qA0:Kept (fun b=>b=W.heap.size+1) w9 wA:=⟨bA.os,bA.tape,bA.output,bA.size,fun b hb n=>bA.block b hb n n⟩
   refine poE<|qE [] (Many.begin wA) fun wB kB=>JJ ?_
   have hbB:=kB.touch.below
   have rB:=rA.below hbB rA.lt
   have qA:Kept (fun b=>b=W.heap.size+1) w9 wB:=qA0.trans (Kept.of_below (S:=fun _=>False) hbB) (fun _ e=>e) fun _ _ e=>e.elim
   have b9:Below w2.heap.size w2 w9:=(hJb.low.trans (hb8.mono hjb.lt)).trans (hb9.mono (Nat.le_trans hjb.lt s8))
   refine QSK rB ⟨_,rfl,hO.kept qA (fun b e=>by have e:b=W.heap.size+1:=e;omega),?_⟩
   exact qA.low (hb2.trans (b9.mono hb2.size)) (Nat.le_trans hb2.size b9.size) fun b e=>by have e:b=W.heap.size+1:=e;omega
def QWD (V:Value)(pc n:Int)(a b J:Nat)(x:JX):List Value:=[V,.int .u16 pc,.int .i64 n,pT a 0,x.y 4,x.y 5,pT b 0,.int .i64 0,pT J 0,x.y 9,x.y 10,x.y 11,x.y 12,x.y 13,x.y 14,x.y 15,x.y 16,x.y 17,x.y 18,x.y 19,x.y 20,x.y 21,x.y 22,x.y 23,x.y 24,x.y 25,x.y 26,x.y 27,x.y 28,x.y 29,x.y 30,x.y 31,x.y 32,x.y 33,x.y 34,x.y 35,x.y 36,x.y 37,x.y 38,x.y 39,x.y 40,x.y 41,x.y 42,x.y 43,x.y 44]
theorem QJK (pc:Int)(j:Nat){w:Wd}(h:qI pc w=true):Xw pc j w=(w,0):=by
 cases j with
 | zero=>rfl
 | succ j=>rw[Xw,if_pos h]
theorem QKG (hA:jK){V:Value} {w:Wd}(pc n:Int)(W:World)(hw:OkW w)(hl:w.m.length≤700000)(hp:w.p.length≤1000000)(h:InW W W.heap.size V w)(ht:Tabs W W.heap.size) :
 Calls Tryz.prog 19 #[V,.int .u16 pc,.int .i64 n] W fun e W'=>∃ V',e=.returned (.tuple #[V',.int .i64 ((Xw pc (Jm n) w).2:Int)])∧InW W' W'.heap.size V' (mkW (Xw pc (Jm n) w).1)∧Below W.heap.size W W':=by
 have h0:=h
 obtain⟨A,c,A',c',rfl,-⟩:=h0
 go_enter Tryz.func19,Tryz.ntmps19
 refine JB<|qQ [] (Many.begin W) fun w1 k1=>coR<|qR 1 [0] k1 fun w2 k2=>kX (QCL w2 (h.on k2.touch.below)) fun e w3 ⟨J,M,P,he,hj,hb3⟩=>⟨_,he,qE [] (Many.begin w3) fun w4 k4=>coS<|coB<|ZN (QWD (Q2 w.g (.slice A w.m.length c) (.slice A' w.p.length c')) pc n W.heap.size (W.heap.size+1) J) (fun q W'=>JOk w2.heap.size J w2 w q W'∧q.k≤Jm n∧(Xw pc (Jm n-q.k) q.wd).1=(Xw pc (Jm n) w).1∧q.k+(Xw pc (Jm n-q.k) q.wd).2=(Xw pc (Jm n) w).2) (fun q=>Jm n-q.k) (fun y=>⟨0,w,0,M,P,none,y⟩) ?_ ?_⟩
 · exact⟨⟨hj.bel k4.touch.below,hb3.trans (k4.touch.below.mono hb3.size),hw,Nat.le_refl _,Nat.le_refl _,Int.le_refl _,by show (0:Int)≤1400*((0:Nat):Int);omega⟩,Nat.zero_le _,rfl,by show 0+_=_;rw[Nat.zero_add];rfl⟩
 have hb2:=k2.touch.below
 have r4:Row w2 (W.heap.size+1) 28 (JQ JV (.slice none 0 0) (.slice none 0 0)):=k2.row 1 (JQ JV (.slice none 0 0) (.slice none 0 0)).toList (by kernel_rfl)
 clear k1 k2 k4 hj he
 rintro q W' ⟨hJ,hk,hr1,hr2⟩
 have hq:=hJ.jny
 have hql:=hq.low
 have hm:=hJ.ml
 have t2:=Tabs.below ht hb2
 have hn2:=QHo n
 obtain⟨k,⟨g,m,p⟩,st,M,P,ob,y⟩:=q
 have hk:k≤Jm n:=hk
 have hm:m.length≤w.m.length+200*k:=hm
 have hr1:(Xw pc (Jm n-k) ⟨g,m,p⟩).1=(Xw pc (Jm n) w).1:=hr1
 have hr2:k+(Xw pc (Jm n-k) ⟨g,m,p⟩).2=(Xw pc (Jm n) w).2:=hr2
 have mk:∀ {wb:World} {l0:List (Nat×Nat)},Touch [J] W' wb→Row wb J 63 (XU g M P k st)→JOk w2.heap.size J w2 w ⟨k,⟨g,m,p⟩,st,M,P,ob,y⟩ wb:=fun {wb _} ht rb=>by
  have qb:Kept (fun b=>b=J) W' wb:=(Kept.of_touch ht).mono fun b _ e=>List.mem_singleton.1 e
  exact⟨hq.re qb rb (fun b e=>by have e:b=J:=e;exact e▸hq.low) (fun b e x=>hq.off (x▸e)),qb.low hJ.low hq.lt fun b e=>by have e:b=J:=e;exact e▸hq.low,hJ.ok,hJ.ml,hJ.pl,hJ.s0,hJ.s1⟩
 have stop:∀ {T:Bool},qI pc ⟨g,m,p⟩=true∨¬k < Jm n→⟨g,m,p⟩=(Xw pc (Jm n) w).1∧k=(Xw pc (Jm n) w).2:=fun {T} h=>by
  have e:Xw pc (Jm n-k) ⟨g,m,p⟩=(⟨g,m,p⟩,0):=by
   rcases h with h|h
   · exact QJK pc _ h
   · rw[show Jm n-k=0 by omega];rfl
  rw[e] at hr1 hr2
  exact⟨hr1,hr2⟩
 refine coS<|coR<|qR 9 [0] (Many.start hq.row) fun wa ka=>?_
 have cases4:(¬g.pc=pc∧g.halted=false∧k < Jm n)∨g.pc=pc∨(¬g.pc=pc∧g.halted=true)∨(¬g.pc=pc∧g.halted=false∧¬k < Jm n):=by
  by_cases h1:g.pc=pc
  · exact .inr (.inl h1)
  · by_cases h2:g.halted=true
    · exact .inr (.inr (.inl ⟨h1,h2⟩))
    · by_cases h3:k < Jm n
      · exact .inl ⟨h1,by simpa using h2,h3⟩
      · exact .inr (.inr (.inr ⟨h1,by simpa using h2,h3⟩))
 rcases cases4 with ⟨h1,h2,hlt⟩|h1|⟨h1,h2⟩|⟨h1,h2,h3⟩
 · refine tell 19 (show (g.pc != pc)=true by simp[h1])<|qR 9 [0] ka fun wc kc=>tell 28 (show (!g.halted)=true by simp[h2])<|qR 5 [0] kc fun wd kd=>wM (QVT n 200)<|qR 2 [] kd fun we ke=>tell 36 (show decide ((k:Int) < QCV n 200)=true by simpa using (zh n k).2 hlt)<|qE [] ke fun wb kb=>coT<|JE<|eoT<|coB<|coZ<|?_
   have hJb:=mk (l0:=[]) kb.touch (kb.row 0 (XU g M P k st).toList (by kernel_rfl))
   refine qR 1 [] (Many.begin wb) fun wc kc=>kX (QFA hA (hJb.bel kc.touch.below) (by show k < 200;omega) hl t2) fun e wd ⟨V',M',P',ob',he,hJ'⟩=>⟨_,he,qF [] (Many.begin wd) fun we ke=>eoB<|Qk (fun y=>⟨k+1,Jk ⟨g,m,p⟩ 0 0,st+(Jj ⟨g,m,p⟩ 0 0).n,M',P',ob',y⟩) ⟨(hJ' _).bel ke.touch.below,hlt,?_,?_⟩ (by show Jm n-(k+1) < Jm n-k;omega)⟩
   all_goals
    have hns:¬qI pc ⟨g,m,p⟩=true:=by unfold qI;simp[h1,h2]
    have e:Jm n-k=(Jm n-(k+1))+1:=by omega
    rw[e,Xw,if_neg hns] at hr1 hr2
   · exact hr1
   · rw[←hr2]
     show k+1+_=k+(_+1)
     have:∀ x:Nat,k+1+x=k+(x+1):=fun x=>by omega
     exact this _
 case' refine_2.inr.inl =>
  refine tell 19 (show (g.pc != pc)=false by simp[h1])<|qE [] ka fun wb kb=>coF<|coX<|X8<|X8<|QAe<|eoT ?_
  have hst:=stop (T:=true) (.inl (by unfold qI;simp[h1]))
 case' refine_2.inr.inr.inl =>
  refine tell 19 (show (g.pc != pc)=true by simp[h1])<|qR 9 [0] ka fun wc kc=>tell 28 (show (!g.halted)=false by simp[h2])<|qE [] kc fun wb kb=>coF<|coX<|X8<|X8<|QAe<|eoT ?_
  have hst:=stop (T:=true) (.inl (by unfold qI;simp[h2]))
 case' refine_2.inr.inr.inr =>
  refine tell 19 (show (g.pc != pc)=true by simp[h1])<|qR 9 [0] ka fun wc kc=>tell 28 (show (!g.halted)=true by simp[h2])<|qR 5 [0] kc fun wd kd=>wM (QVT n 200)<|qR 2 [] kd fun we ke=>tell 36 (show decide ((k:Int) < QCV n 200)=false by simpa using fun e=>h3 ((zh n k).1 e))<|qE [] ke fun wb kb=>coF<|coX<|X8<|X8<|QAe<|eoT ?_
  have hst:=stop (T:=true) (.inr h3)
 all_goals
  have hJb:=mk (l0:=[]) kb.touch (kb.row 0 (XU g M P k st).toList (by kernel_rfl))
  obtain⟨hr1,hr2⟩:=hst
  rw[←hr1,←hr2]
  have hjb:=hJb.jny
  have l4:=r4.lt
  have rb:Row wb (W.heap.size+1) 28 (JQ JV (.slice none 0 0) (.slice none 0 0)):=r4.below hJb.low r4.lt
  have k7:Many wb [J,W.heap.size+1] [⟨J,63,(XU g M P k st).toList.map some⟩] wb:=(Many.start hjb.row).wide fun x hx=>by simp at hx;simp[hx]
  refine coP (S:=Many wb [J,W.heap.size+1] [⟨J,63,(XU g M P k st).toList.map some⟩]) 7 k7.drew ?_
  have hb8:Below wb.heap.size wb wb.drew:=(Below.refl _ _).drew
  obtain⟨w8,hw8⟩:∃ w8,w8=wb.drew:=⟨_,rfl⟩
  have k8:=k7.drew
  rw[←hw8] at hb8 k8 ⊢
  have hj8:=hjb.bel hb8
  have l8:=rb.lt
  have s8:=hb8.size
  refine qD 0 [0,2,3,4,5] k8<|ZZ 1 (soC (QFi hj8 (by omega) hJb.ok.m (Nat.le_trans hJb.pl hp)) fun e w9 ⟨V9,he9,hO,hb9⟩=>⟨_,he9,k8.below hb9,?_⟩)
  have hO0:=hO
  obtain⟨A9,c9,Ap9,cp9,rfl,-⟩:=hO0
  have r9:=(rb.below hb8 rb.lt).below hb9 (by omega)
  have k9:=(k8.below hb9).beside (b:=W.heap.size+1) (by simp) (fun r hr=>by simp at hr;subst hr;show J≠_;omega) 0 (JQ g (.slice A9 (mkS m).length c9) (.slice Ap9 p.length cp9)).toList
  refine ZZ 6 (soW (cs:=JQ g (.slice A9 (mkS m).length c9) (.slice Ap9 p.length cp9)) r9 k9 ?_ (by rfl) rfl)
  obtain⟨wA,hwA⟩:∃ wA,wA=w9.setCells (W.heap.size+1) 0 (JQ g (.slice A9 (mkS m).length c9) (.slice Ap9 p.length cp9)).toList:=⟨_,rfl⟩
  have rA:=r9.setAll (vs:=JQ g (.slice A9 (mkS m).length c9) (.slice Ap9 p.length cp9)) rfl
  have bA:=QFX (W.heap.size+1) (JQ g (.slice A9 (mkS m).length c9) (.slice Ap9 p.length cp9)).toList 0 (Besides.refl (W.heap.size+1) (W.heap.size+1) w9)
  rw[←hwA] at rA bA k9 ⊢
  have qA0:Kept (fun b=>b=W.heap.size+1) w9 wA:=⟨bA.os,bA.tape,bA.output,bA.size,fun b hb n=>bA.block b hb n n⟩
  refine poE<|qE [] (Many.begin wA) fun wB kB=>JJ ?_
  have hbB:=kB.touch.below
  have rB:=rA.below hbB rA.lt
  have qA:Kept (fun b=>b=W.heap.size+1) w9 wB:=qA0.trans (Kept.of_below (S:=fun _=>False) hbB) (fun _ e=>e) fun _ _ e=>e.elim
  have b9:Below w2.heap.size w2 w9:=(hJb.low.trans (hb8.mono hjb.lt)).trans (hb9.mono (Nat.le_trans hjb.lt s8))
  refine QSK rB ⟨_,rfl,hO.kept qA (fun b e=>by have e:b=W.heap.size+1:=e;omega),?_⟩
  exact qA.low (hb2.trans (b9.mono hb2.size)) (Nat.le_trans hb2.size b9.size) fun b e=>by have e:b=W.heap.size+1:=e;omega
def QUQ (l:List Int):ByteArray:=⟨(l.map (fun x=>UInt8.ofNat x.toNat)).toArray⟩
theorem QLB {x:Int}(h:0≤x∧x≤255):((UInt8.ofNat x.toNat).toNat:Int)=x:=by
 have h1:=h.1
 have h2:=h.2
 have e:(UInt8.ofNat x.toNat).toNat=x.toNat%256:=UInt8.toNat_ofNat'
 rw[e]
 omega
theorem QTD {W:World} {B:Nat} {A:Option Addr} {l:List Int} {c:Nat}(h:BytesIn W B A l)(hl:∀ x∈l,0≤x∧x≤255):(convert 26 9 (.slice A l.length c)).run Tryz.prog W=.ok (.string (QUQ l)) W:=by
 cases l with
 | nil =>
   refine (run_convert_bytes_string W 26 9 5 A 0 c Tryz.underlying26 Tryz.underlying5 Tryz.underlying9).trans ?_
   cases A<;>rfl
 | cons x r =>
   obtain⟨p,rfl,-⟩:=h 0 x rfl
   have hlen:((x :: r).map (fun x=>UInt8.ofNat x.toNat)).length=(x :: r).length:=by simp
   have k:=run_convert_bytes_back (P:=Tryz.prog) W 26 9 5 p c ((x :: r).map (fun x=>UInt8.ofNat x.toNat)) Tryz.underlying26 Tryz.underlying5 Tryz.underlying9 (fun j hj=>by
    have hj':j < (x :: r).length:=by simpa using hj
    obtain⟨ad,e2,-,e3⟩:=h j (x :: r)[j] (List.getElem?_eq_getElem hj')
    cases e2
    rw[e3]
    simp only[List.getElem_map]
    rw[QLB (hl _ (List.getElem_mem hj'))])
   rw[hlen] at k
   exact k
theorem QV7 (s:ByteArray)(w:World):(binOp .eql 9 (.string s) (.string s)).run Tryz.prog w=.ok (.bool true) w:=by simp[go_sem]
theorem QPP (op:BinOp)(x y:Operand)(a b:ByteArray)(w:World):(eqGuard op 9 x y (.string a) (.string b)).run Tryz.prog w=.ok () w:=by simp[go_sem]
theorem ZQ (g:Rg)(A A':Option Addr)(n c n' c':Nat)(W:World):Calls Tryz.prog 11 #[Q2 g (.slice A n c) (.slice A' n' c')] W fun e W'=>e=.returned (Q2 g (.slice A n c) (.slice A' n' c'))∧Below W.heap.size W W':=by
 go_enter Tryz.func11,Tryz.ntmps11
 refine JB<|qQ [] (Many.begin W) fun w1 k1=>qQ [0,0,0,1] k1 fun w2 k2=>JJ ?_
 have r:Row w2 (W.heap.size+1) 34 (JQ g (.slice A n c) (.slice A' n' c')):=k2.row 1 (JQ g (.slice A n c) (.slice A' n' c')).toList (by kernel_rfl)
 exact eoK1 r ⟨rfl,k2.touch.below⟩
theorem QBO {V1 V2:Value} {w:Wd}(W:World)(h1:InW W W.heap.size V1 w)(h2:InW W W.heap.size V2 w)(hp:Bytes8 w.p)(hl:w.m.length≤1000000000):Calls Tryz.prog 12 #[V1,V2] W fun e W'=>e=.returned (.bool true)∧Below W.heap.size W W':=by
 obtain⟨g,m,p⟩:=w
 obtain⟨A1,c1,B1,d1,rfl,hc1,hn1,hle1,hb1,hm1,hld1⟩:=h1
 obtain⟨A2,c2,B2,d2,rfl,hc2,hn2,hle2,hb2,hm2,hld2⟩:=h2
 go_enter Tryz.func12,Tryz.ntmps12
 refine JB<|qQ [] (Many.begin W) fun w1 k1=>coR<|qR 4 [0,1] k1 fun w2 k2=>kBj 9 (JG g) (JG g) (.bool true) (QLv _ _ _ _ _) (QPJ g)<|qR 5 [0,1] k2 fun w3 k3=>?_
 have b3:=k3.touch.below
 have KC:=(QHE A1 c1 m A2 c2 m hl w3 ((hc1.below b3).more b3.size) ((hc2.below b3).more b3.size)).mono (R':=fun e w'=>e=.returned (.bool true)∧Below w3.heap.size w3 w') fun e w' ⟨h1,h2⟩=>⟨by rw[h1,decide_eq_true rfl],h2⟩
 refine qC KC k3 fun w4 k4=>qR 4 [0] k4 fun w5 k5=>wM (QHP (QTD (l:=p) (c:=d1) (hb1.below k5.touch.below) fun x hx=>hp x hx))<|qR 2 [1] k5 fun w6 k6=>wM (QHP (QTD (l:=p) (c:=d2) (hb2.below k6.touch.below) fun x hx=>hp x hx))<|kBj 24 (.string (QUQ p)) (.string (QUQ p)) (.bool true) (QPP _ _ _ _ _) (QV7 _)<|qE [] k6 fun w7 k7=>JJ<|J8 (.bool true) ⟨rfl,k7.touch.below⟩
theorem QQa {V1 V2:Value} {w:Wd}(W:World)(h1:InW W W.heap.size V1 w)(h2:InW W W.heap.size V2 w)(hp:Bytes8 w.p)(hl:w.m.length≤1000000000):Calls Tryz.prog 21 #[V1,V2] W fun e W'=>e=.returned (.bool true)∧Below W.heap.size W W':=by
 have h1':=h1
 have h2':=h2
 obtain⟨A1,c1,B1,d1,rfl,-⟩:=h1'
 obtain⟨A2,c2,B2,d2,rfl,-⟩:=h2'
 go_enter Tryz.func21,Tryz.ntmps21
 refine JB<|qQ [] (Many.begin W) fun w1 k1=>qP 5 k1 fun w2 k2=>qD 0 [0] k2<|qD 1 [2] k2<|qDc 1 (ZQ w.g A1 B1 w.m.length c1 w.p.length d1 w2) k2 fun w3 k3=>qDc 3 (ZQ w.g A2 B2 w.m.length c2 w.p.length d2 w3) k3 fun w4 k4=>qDc 4 (QBO w4 (h1.on k4.touch.below) (h2.on k4.touch.below) hp hl) k4 fun w5 k5=>poE<|qE [] k5 fun w6 k6=>JJ<|J8 (.bool true) ⟨rfl,k6.touch.below⟩
def QFK (w:Wd):Bool:=decide ((w.m.length:Int)≤80)&&decide ((w.p.length:Int)≤40)
theorem QIu {V:Value} {w:Wd}(W:World)(h:InW W W.heap.size V w):Calls Tryz.prog 8 #[V] W fun e W'=>e=.returned (.bool (QFK w))∧Below W.heap.size W W':=by
 obtain⟨A,c,A',c',rfl,-⟩:=h
 go_enter Tryz.func8,Tryz.ntmps8
 refine JB<|qQ [] (Many.begin W) fun w1 k1=>coR<|qR 5 [0] k1 fun w2 k2=>?_
 by_cases h:(w.m.length:Int)≤80
 · refine tell 7 (show decide ((w.m.length:Int)≤80)=true by simpa using h)<|qE [0] k2 fun w3 k3=>JJ<|J8 (.bool (decide ((w.p.length:Int)≤40))) ⟨?_,k3.touch.below⟩
   rw[QFK,decide_eq_true h,Bool.true_and]
 · refine tell 7 (show decide ((w.m.length:Int)≤80)=false by simpa using h)<|qE [0] k2 fun w3 k3=>JJ<|J8 (.bool false) ⟨?_,k3.touch.below⟩
   rw[QFK,decide_eq_false h,Bool.false_and]
structure QRC where
 k:Nat
 v:Value
 y:Nat→Value
def QUt (A:Option Addr)(n c:Nat)(x:QRC):List Value:=[.slice A n c,x.y 1,.slice none 0 0,x.v,x.y 4,x.y 5,.slice A n c,.int .i64 (n:Int),.int .i64 (x.k:Int),x.y 9,x.y 10,x.y 11,x.y 12,x.y 13,x.y 14,x.y 15,x.y 16,x.y 17,x.y 18,x.y 19,x.y 20,x.y 21,x.y 22,x.y 23,x.y 24]
def QQj (W:World)(l:List Cy)(x:QRC)(W':World):Prop:=Below W.heap.size W W'∧W'.ownsRow W.heap.size 67 2 x.v (XJ (l.take x.k)).length (cvs (XJ (l.take x.k)))∧x.k≤l.length
theorem QBd (l:List Cy)(k:Nat)(h:k < l.length):XJ (l.take (k+1))=if l[k].kind=5 then XJ (l.take k)++[(l[k].addr,l[k].data)] else XJ (l.take k):=by rw[←List.take_append_getElem h,QNP]
theorem QE0 (l:List Cy):(XJ l).length≤l.length:=by
 unfold XJ
 rw[List.length_map]
 exact List.length_filter_le _ _
theorem QG6 (A:Option Addr)(c:Nat)(l:List Cy)(hl:l.length≤1000)(W:World)(hin:CysIn W W.heap.size A l):Calls Tryz.prog 15 #[.slice A l.length c] W (Gives W (XJ l)):=by
 go_enter Tryz.func15,Tryz.ntmps15
 refine JB<|qQ [] (Many.begin W) fun w1 k1=>qQ [] k1 fun w2 k2=>coS<|qQ [] k2 fun w3 k3=>coB<|ZN (QUt A l.length c) (QQj W l) (fun x=>l.length-x.k) (fun y=>⟨0,.slice none 0 0,y⟩) ⟨k3.touch.below,World.ownsRow_nil ..,Nat.zero_le _⟩ ?_
 rintro ⟨k,v,y⟩ W' ⟨hB,hown,hk⟩
 have hk:k≤l.length:=hk
 have hown:W'.ownsRow W.heap.size 67 2 v (XJ (l.take k)).length (cvs (XJ (l.take k))):=hown
 have hsl:(XJ (l.take k)).length≤1000:=Nat.le_trans (QE0 _) (by rw[List.length_take];omega)
 refine qQ [] (Many.begin W') fun wa ka=>coS<|coI (decide ((k:Int) < (l.length:Int))) (fun hlt=>JE<|eoT<|coS<|coB<|?_) fun hge=>coX<|X8<|X8<|QAe<|eoT ?_
 · have hlt:k < l.length:=by have:(k:Int) < (l.length:Int):=by simpa using hlt
                             omega
   obtain⟨p,rfl⟩:=hin.addr hlt
   have ha:=hin.below (bOn hB ka)
   refine coR<|wM (XF (QGV p l.length c k hlt _))<|wM (J3 (CysIn.ld ha hlt))<|qE [0] ka fun wb kb=>qQ [0] kb fun wc kc=>coI (l[k].kind==5) (fun h5=>coZ<|qR 6 [0,0] kc fun wd kd=>wM (XD (bsC l[k].addr l[k].data wd))<|?_) fun h5=>JE<|eoB<|eoT<|coZ<|wM (QA3 k (by omega))<|qF [] kc fun we ke=>Qk (fun y=>⟨k+1,v,y⟩) ⟨bOn hB ke,?_,hlt⟩ (by show l.length-(k+1) < l.length-k;omega)
   · have h5:l[k].kind=5:=by simpa using h5
     have hownb:=(own_below hown kd.touch.below).alloc (.cells #[.int .u16 l[k].addr,.int .u8 l[k].data] 67)
     refine qAc (.tmp 15) (.tmp 21) W.heap.size _ v (XJ (l.take k)).length (XJ (l.take k)) (some ⟨wd.heap.size,0,none⟩) 1 [(l[k].addr,l[k].data)] (XT (bOn hB kd) _).size hownb (QAZ wd _ _ _) (fun e=>by cases e) (by show _+1≤_;omega) fun v' we own' g'=>?_
     have hBe:=XA (XT (bOn hB kd) _) g' hownb (Nat.le_refl _) (XT (bOn hB kd) _).size
     refine qF [] (Many.begin we) fun wf kf=>eoB<|eoT<|coZ<|wM (QA3 k (by omega))<|qF [] kf fun wg kg=>Qk (fun y=>⟨k+1,v',y⟩) ⟨bOn hBe kg,?_,hlt⟩ (by show l.length-(k+1) < l.length-k;omega)
     show wg.ownsRow _ _ _ v' (XJ (l.take (k+1))).length (cvs (XJ (l.take (k+1))))
     rw[QBd l k hlt,if_pos h5,List.length_append]
     exact own_below own' kg.touch.below
   · have h5:¬l[k].kind=5:=by simpa using h5
     show we.ownsRow _ _ _ v (XJ (l.take (k+1))).length (cvs (XJ (l.take (k+1))))
     rw[QBd l k hlt,if_neg h5]
     exact own_below hown ke.touch.below
 · have hkl:k=l.length:=by have:¬((k:Int) < (l.length:Int)):=by simpa using hge
                           omega
   subst hkl
   rw[List.take_length] at hown
   obtain⟨A',c',rfl,hc,hci,hn⟩:=Qq hown
   exact qQ [] ka fun wz kz=>JJ<|J8 (.slice A' (XJ l).length c') ⟨A',c',rfl,(hci.below kz.touch.below).more kz.touch.size,hc,hn,bOn hB kz⟩
theorem QRP {l:List (Int×Int)}(h:(l.all fun c=>decide (0≤c.1)&&decide (c.1≤65535)&&decide (0≤c.2)&&decide (c.2≤255))=true):QL l:=fun c hc=>by
 have:=List.all_eq_true.1 h c hc
 simp only[Bool.and_eq_true,decide_eq_true_eq] at this
 exact⟨this.1.1.1,this.1.1.2,this.1.2,this.2⟩
theorem jT {P:Program} {w:World} {b:Nat} {t u:TypeId} {cs:Array Value}(r:Row w b u cs)(ht:((P.underlying t).map (·.isRow),(P.info? t).map (·.size))=(some true,some cs.size):=by kernel_rfl):(Instr.loadAt t (pT b 0)).run P w=.ok (.agg cs) w:=by
 simp only[Prod.mk.injEq] at ht
 cases hu:P.underlying t with
 | none=>rw[hu] at ht;cases ht.1
 | some d =>
   rw[hu] at ht
   have hd:d.isRow=true:=by have:=ht.1;injection this
   exact QPA r hu hd ht.2
def wA:Wd:=⟨JV,mkS (X7 0 [62,7,50,16,0]),[]⟩
theorem QVL:(X1 (Jm 2) wA).2=20:=by kernel_rfl
theorem QVY:(mkW (X1 (Jm 2) wA).1).g.af=1792:=by kernel_rfl
theorem QVN:Ql (mkW (X1 (Jm 2) wA).1).m 16=7:=by kernel_rfl
theorem QV2:(mkW (X1 (Jm 2) wA).1).m.length≤100:=of_decide_eq_true (by kernel_rfl)
theorem QUB:(Xw 2 (Jm 9) wA).2=1:=by kernel_rfl
theorem QRV:mkW (Xw 2 (Jm 9) wA).1=mkW (Jk wA 0 0):=by kernel_rfl
theorem aw_n:(Jj wA 0 0).n=7:=by kernel_rfl
theorem aw_l:(Jj wA 0 0).l=[⟨1,0,62,4⟩,⟨2,1,7,3⟩]:=by kernel_rfl
theorem QP4:OkW wA:=⟨by constructor<;>first|exact⟨by decide,by decide⟩|decide,QRP (l:=wA.m) (by kernel_rfl),fun x hx=>by cases hx⟩
theorem QVi:(mkW (Jk wA 0 0)).p=[]:=by kernel_rfl
theorem QWY:(mkW (Jk wA 0 0)).m.length≤100:=of_decide_eq_true (by kernel_rfl)
theorem QDw (hA:jK)(w:World)(ht:Tabs w w.heap.size):Calls Tryz.prog 7 #[] w fun e w'=>e=.returned (.bool true)∧Below w.heap.size w w':=by
 go_enter Tryz.func7,Tryz.ntmps7
 refine JB<|qQ [] (Many.begin w) fun w1 k1=>coR<|qR 1 [] k1 fun w2 k2=>?_
 have hb2:=k2.touch.below
 have hy:=QHQ (k2.row 0 (b:=w1.heap.size) (t:=5) (bvs [62,7,50,16,0]) (by kernel_rfl))
 refine kX (QLs none 0 [] 0 (some ⟨w1.heap.size,0,none⟩) 5 [62,7,50,16,0] (by simp) (fun c hc=>by cases hc) (by omega) (by simp) (fun b hb=>by simp at hb;omega) w2 (CellsIn.nil _ _ _) (fun _=>rfl) hy) fun e w3 ⟨A1,c1,he,hc1,hl1,hn1,hb3⟩=>⟨_,he,qE [0] (Many.begin w3) fun w4 k4=>?_⟩
 have hb4:=k4.touch.below
 have h1:InW w4 w4.heap.size (Q2 JV (.slice A1 (mkS ([]++X7 0 [62,7,50,16,0])).length c1) (.slice none 0 0)) wA:=⟨A1,c1,none,0,rfl,(hc1.below hb4).more hb4.size,hn1,hl1,BytesIn.nil _ _ _,fun _=>rfl,Nat.le_refl _⟩
 have r1:Row w4 w3.heap.size 28 (JQ JV (.slice A1 (mkS ([]++X7 0 [62,7,50,16,0])).length c1) (.slice none 0 0)):=k4.row 0 (JQ JV (.slice A1 (mkS ([]++X7 0 [62,7,50,16,0])).length c1) (.slice none 0 0)).toList (by kernel_rfl)
 have hB4:Below w.heap.size w w4:=(hb2.trans (hb3.mono hb2.size)).trans (hb4.mono (Nat.le_trans hb2.size hb3.size))
 -- Run
 have KR:=QI3 hA 2 w4 QP4 (by decide) (by decide) h1 (ht.below hB4)
 rw[QVL] at KR
 obtain⟨wR,hwR⟩:∃ wR,wR=mkW (X1 (Jm 2) wA).1:=⟨_,rfl⟩
 have haf:wR.g.af=1792:=by rw[hwR];exact QVY
 have hget:Ql wR.m 16=7:=by rw[hwR];exact QVN
 have hml:wR.m.length≤100:=by rw[hwR];exact QV2
 rw[←hwR] at KR
 refine coR<|wM (J3 (jT r1))<|kX KR fun e w6 ⟨V2,he,h2,hb6⟩=>⟨_,he,?_⟩
 have h2':=h2
 obtain⟨A2,c2,B2,d2,rfl,hc2,-⟩:=h2'
 refine qE [0] (Many.begin w6) fun w7 k7=>?_
 have hb7:=k7.touch.below
 have r2:Row w7 w6.heap.size 28 (JQ wR.g (.slice A2 wR.m.length c2) (.slice B2 wR.p.length d2)):=k7.row 0 (JQ wR.g (.slice A2 wR.m.length c2) (.slice B2 wR.p.length d2)).toList (by kernel_rfl)
 have h47:Below w4.heap.size w4 w7:=hb6.trans (hb7.mono hb6.size)
 have hB7:=hB4.trans (h47.mono hB4.size)
 have r17:=r1.below h47 r1.lt
 have hc2:=(hc2.below hb7).more hb7.size
 -- Until
 have KU:=QKG hA 2 9 w7 QP4 (by decide) (by decide) (h1.on h47) (ht.below hB7)
 rw[QUB,QRV] at KU
 obtain⟨wS,hwS⟩:∃ wS,wS=mkW (Jk wA 0 0):=⟨_,rfl⟩
 have hsp:wS.p=[]:=by rw[hwS];exact QVi
 have hsm:wS.m.length≤100:=by rw[hwS];exact QWY
 rw[←hwS] at KU
 refine coR<|wM (J3 (jT r17))<|kX KU fun e w8 ⟨V4,he,h4,hb8⟩=>⟨_,he,?_⟩
 have h4':=h4
 obtain⟨A4,c4,B4,d4,rfl,-⟩:=h4'
 refine qE [0] (Many.begin w8) fun w9 k9=>?_
 have hb9:=k9.touch.below
 have r4:Row w9 w8.heap.size 28 (JQ wS.g (.slice A4 wS.m.length c4) (.slice B4 wS.p.length d4)):=k9.row 0 (JQ wS.g (.slice A4 wS.m.length c4) (.slice B4 wS.p.length d4)).toList (by kernel_rfl)
 have h79:Below w7.heap.size w7 w9:=hb8.trans (hb9.mono hb8.size)
 have hB9:=hB7.trans (h79.mono hB7.size)
 have r19:=r17.below h79 r17.lt
 have r29:=r2.below h79 r2.lt
 -- Step
 have KS:=QHN hA 0 0 w9 QP4 B8.zero (by decide) (by decide) ((h1.on h47).on h79) (ht.below hB9)
 rw[aw_n,aw_l,←hwS] at KS
 refine coR<|wM (J3 (jT r19))<|kX KS fun e wa ⟨V6,A6,c6,he,h6,hcy,hny,hly,hba⟩=>⟨_,he,?_⟩
 have h6':=h6
 obtain⟨A7,c7,B7,d7,rfl,-⟩:=h6'
 obtain⟨pY,rfl⟩:=hcy.addr (k:=0) (by decide)
 refine qE [0] (Many.begin wa) fun wb kb=>?_
 have hbb:=kb.touch.below
 have r6:Row wb wa.heap.size 28 (JQ wS.g (.slice A7 wS.m.length c7) (.slice B7 wS.p.length d7)):=kb.row 0 (JQ wS.g (.slice A7 wS.m.length c7) (.slice B7 wS.p.length d7)).toList (by kernel_rfl)
 have h9b:Below w9.heap.size w9 wb:=hba.trans (hbb.mono hba.size)
 have hBb:=hB9.trans (h9b.mono hB9.size)
 have r2b:=r29.below h9b r29.lt
 have r4b:=r4.below h9b r4.lt
 have hcb:=hcy.below hbb
 have h4b:=(h4.on hb9).on h9b
 have h6b:=h6.on hbb
 have hc2b:=((hc2.below h79).below (h9b.mono h79.size)).more (Nat.le_trans h79.size h9b.size)
 have KG:=fun (W:World) (hW:CellsIn W W.heap.size A2 wR.m)=>QAG A2 c2 wR.m 16 (by omega) W hW
 rw[hget] at KG
 refine coR<|qR 2 [] (Many.begin wb) fun wc kc=>?_
 have r2c:=r2b.below kc.touch.below r2b.lt
 refine wM (J3 (qU (r2c.cell 0)))<|qR 1 [] kc fun wd kd=>tell 31 (show (wR.g.af==1792)=true by simp[haf])<|qR 2 [] kd fun we ke=>?_
 have r2e:=r2b.below ke.touch.below r2b.lt
 refine wM (J3 (qU (r2e.cell 20)))<|qC (KG we ((hc2b.below ke.touch.below).more ke.touch.size)) ke fun wf kf=>qR 11 [] kf fun wg kg=>?_
 have hg:=kg.touch.below
 refine wM (J3 (jT (r4b.below hg r4b.lt)))<|wM (J3 (jT (r6.below hg r6.lt)))<|qC (QQa (w:=wS) wg (h4b.on hg) (h6b.on hg) (by rw[hsp];intro x hx;cases hx) (by omega)) kg fun wh kh=>qR 8 [] kh fun wi ki=>?_
 have hcI:=(hcb.more (B':=wb.heap.size) hbb.size).below ki.touch.below
 refine wM (XF (QGV pY 2 c6 1 (by decide) wi))<|wM (J3 (CysIn.ld hcI (k:=1) (by decide)))<|qR 1 [] ki fun wj kj=>kBj 61 (cyV ⟨2,1,7,3⟩) (cyV ⟨2,1,7,3⟩) (.bool true) (QJE _ _ _ _ _) (QUb _)<|qR 7 [] kj fun wk kk=>wM (XD (QGc ⟨5,5,6,0⟩ wk)) ?_
 have hB:=hBb.trans (kk.touch.below.mono hBb.size)
 have hBl:=XT hB (.cells (QH [⟨5,5,6,0⟩]).toArray 54)
 refine kX (QG6 (some ⟨wk.heap.size,0,none⟩) 1 [⟨5,5,6,0⟩] (by decide) _ ((QAo wk [⟨5,5,6,0⟩] 54).more (by simp))) fun e wl ⟨A',c',he,_,_,_,hbl⟩=>⟨_,he,qE [] (Many.begin wl) fun wm km=>JJ<|J8 (.bool true) ⟨rfl,bOn (hBl.trans (hbl.mono hBl.size)) km⟩⟩
theorem QT5 {w:Wd}(h:OkW w):OkW (mkW w):=⟨h.g,QBt h.m,h.p⟩
theorem QGN (w:Wd):(mkW w).m.length≤w.m.length:=QB7 w.m
theorem QJw:∀ (j:Nat) (w:Wd),(X1 j w).1.m.length≤w.m.length+200*j∧(X1 j w).1.p.length≤w.p.length
 | 0,w=>⟨Nat.le_refl _,Nat.le_refl _⟩
 | j+1,w=>by
   have ih:=QJw j (Jk w 0 0)
   have h1:(Jk w 0 0).m.length≤w.m.length+200:=zI w 0 0
   have h2:(Jk w 0 0).p.length≤w.p.length:=QAs w 0 0
   exact⟨Nat.le_trans ih.1 (by omega),Nat.le_trans ih.2 h2⟩
theorem QMZ {w:Wd}(hf:QFK w=true):w.m.length≤80∧w.p.length≤40:=by
 have:decide ((w.m.length:Int)≤80)=true∧decide ((w.p.length:Int)≤40)=true:=by simpa [QFK] using hf
 have h1:=of_decide_eq_true this.1
 have h2:=of_decide_eq_true this.2
 omega
end Go.Proofs.YtkgaeamdhhceiaaGreatDoor
