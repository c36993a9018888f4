/- Contracts and facts that the claim's proof wants (several texts in one). -/
import Derived.Test.YtkgaeamdhhceiaaGreatDoorSrG28
namespace Go.Proofs.YtkgaeamdhhceiaaGreatDoor
open Go.RowKit
set_option linter.unusedVariables false
set_option linter.unusedSimpArgs false
set_option maxRecDepth 20000
set_option maxHeartbeats 20000000
theorem qU {P:Program} {w:World} {b i:Nat} {V:Value} {t:TypeId}(hc:w.cell? ⟨b,i,none⟩=some V)(hu:(P.underlying t).map (·.isRow)=some false:=by kernel_rfl):(Instr.loadAt t (.pointer (some ⟨b,i,none⟩))).run P w=.ok V w:=by
 cases hp:P.underlying t with
 | none=>rw[hp] at hu;cases hu
 | some d=>rw[hp] at hu;injection hu with hu;exact QIX hp hu hc
theorem QMf {w:World} {b:Nat} {t:TypeId} {c:Cy}(h:Row w b t (cyC c)):(Instr.loadAt 54 (pT b 0)).run Tryz.prog w=.ok (cyV c) w :=
 QTF (p:=⟨b,0,none⟩) ((h.cell 0).trans rfl) (by simp only[Addr.add];exact (h.cell 1).trans rfl) (by simp only[Addr.add];exact (h.cell 2).trans rfl) (by simp only[Addr.add];exact (h.cell 3).trans rfl)
theorem QP8 {P:Program} {ρ:Operand→Value} {o:Oper} {f x:Operand} {lo:Nat} {V:Value} {R:Next} {w:World}(hl:(Instr.yield lo #[V]).run P w=.ok R w)(ho:o.op=.call { callee:=.value f,args:=#[x],argTypes:=#[54] }:=by exact rfl)(hf:ρ f=.func (.yield lo) #[] #[]:=by kernel_rfl)(hx:ρ x=V:=by kernel_rfl):(execOp ρ o).run P w=.ok R w:=by
 unfold execOp
 simp[ho,hf,hx,resolve,Deferred.ofValue,invoke,Sem.run_bind,Sem.run_pure,hl,Result.andThen_ok]
structure ConF (Zs lb lo:Nat)(rec:Loop)(w:World)(vl:Value)(l:List Cy):Prop where
 box:Row w lb 31 #[vl]
 own:w.ownsRow Zs 54 4 vl l.length (QH l)
 lop:w.heap[lo]?=some (.loop rec)
theorem ConF.kept {S:Nat→Prop} {Zs lb lo:Nat} {rec:Loop} {w w':World} {vl:Value} {l:List Cy}(h:ConF Zs lb lo rec w vl l)(k:Kept S w w')(h1:¬S lb)(h2:¬S lo)(h3:∀ b,vl.ownBlock=some b→¬S b):ConF Zs lb lo rec w' vl l :=
 ⟨k.row h.box h1,k.own h.own h3,(k.block lo (Array.getElem?_eq_some_iff.1 h.lop).1 h2).trans h.lop⟩
def QJH (c:Cy)(l:List Cy):List Cy:=if c.kind=7 then l else l++[c]
def RS (J lb lo:Nat)(vl:Value)(b:Nat):Prop:=b=J∨b=lb∨b=lo∨vl.ownBlock=some b
def CS (J lb lo:Nat)(ob:Option Nat)(b:Nat):Prop:=b=J∨b=lb∨b=lo∨ob=some b
def QVM (B J Zs lb lo:Nat)(rec:Loop)(Z:World)(ob0:Option Nat):Prop:=∀ (W:World) (c:Cy) (g:Rg) (M P:Value) (ob:Option Nat) (m:List (Int×Int)) (p:List Int) (k n:Int) (vl:Value) (l:List Cy),
 Kept (CS J lb lo ob0) Z W→Jny B J W g M P ob m p k n→ConF Zs lb lo rec W vl l→Zs≤W.heap.size→l.length≤300→(0≤n∧n≤1000000)→(0≤c.t∧c.t≤7)→(∀ b,ob=some b→b≠lb∧b≠lo∧vl.ownBlock≠some b) →
 YieldAt Fence.wide 0 Tryz.prog lo #[cyV c] W fun e W'=>e=.returned (.bool true)∧∃ vl',Jny B J W' g M P ob m p k (n+c.t)∧ConF Zs lb lo rec W' vl' (QJH c l)∧Kept (RS J lb lo vl) W W'∧NewR W vl.ownBlock vl'.ownBlock
theorem QOI (c:Cy)(b:Int)(l:List Cy):QJH (Zp c b) l=QCA c b l:=by
 unfold QJH QCA
 rw[QCw]
theorem QFW (c:Cy)(b:Int):Zp c b=if QBQ c.kind=true then c else { c with data:=b }:=by
 unfold Zp QBQ
 by_cases h3:c.kind=3
 · rw[if_pos (.inl h3),if_pos (by simp[h3])]
 · by_cases h5:c.kind=5
   · rw[if_pos (.inr h5),if_pos (by simp[h5])]
   · rw[if_neg (by omega),if_neg (by simp[h3,h5])]
structure GoX where
 x:Sx
 M:Value
 P:Value
 ob:Option Nat
 vl:Value
 vg:Value
 y:Nat→Value
def goB (lo B1 B2 B3:Nat)(x:GoX):List Value:=[.func (.yield lo) #[] #[],pT B1 0,pT B2 0,pT B3 0,x.y 4,x.vg,x.y 6,x.y 7,x.y 8,x.y 9,x.y 10,x.y 11,x.y 12,x.y 13,x.y 14,x.y 15,x.y 16,x.y 17,x.y 18,x.y 19,x.y 20,x.y 21,x.y 22,x.y 23,x.y 24,x.y 25,x.y 26,x.y 27,x.y 28,x.y 29,x.y 30,x.y 31,x.y 32,x.y 33,x.y 34,x.y 35,x.y 36,x.y 37,x.y 38,x.y 39,x.y 40,x.y 41,x.y 42,x.y 43,x.y 44,x.y 45,x.y 46]
structure GoI (B J Zs lb lo:Nat)(rec:Loop)(Z:World)(g:Rg)(which v:Int)(ob0:Option Nat)(k n:Int)(mlen:Nat)(X:Sx)(q:GoX)(W:World):Prop where
 go:goS g which v (200-q.x.got.length) q.x=X
 len:q.x.got.length≤200
 llen:q.x.l.length≤q.x.got.length
 jny:Jny B J W g q.M q.P q.ob q.x.m q.x.p k (n+q.x.n)
 con:ConF Zs lb lo rec W q.vl q.x.l
 own:W.ownsRow Zs 5 1 q.vg q.x.got.length (bvs q.x.got)
 kept:Kept (CS J lb lo ob0) Z W
 new:NewR Z ob0 q.ob
 ap1:∀ b,q.ob=some b→q.vl.ownBlock≠some b
 ap2:∀ b,q.ob=some b→q.vg.ownBlock≠some b
 ap3:∀ b,q.vg.ownBlock=some b→q.vl.ownBlock≠some b
 ok:OkS q.x
 n0:0≤q.x.n
 n7:q.x.n≤7*q.x.got.length
 ml:q.x.m.length≤mlen+q.x.got.length
theorem Jny.regs {B J:Nat} {w:World} {g:Rg} {M P:Value} {ob:Option Nat} {m:List (Int×Int)} {p:List Int} {k n:Int}(h:Jny B J w g M P ob m p k n):w.rangeAt J 0 (JH g).toList:=by
 intro j u hu
 rw[Nat.zero_add,h.row.cell j]
 have hj:j < 20:=(List.getElem?_eq_some_iff.1 hu).1
 have e:(XU g M P k n)[j]?=(JH g).toList[j]?:=by
  have:(XU g M P k n)=((JH g).toList++[M,P,.int .i64 k,.int .i64 n]).toArray:=rfl
  rw[this,List.getElem?_toArray,List.getElem?_append_left (by exact hj)]
 rw[e];exact hu
section
variable {B J Zs lb lo:Nat} {rc:Loop} {Z:World} {g:Rg} {which v:Int} {ob0:Option Nat} {k n:Int} {mlen:Nat} {X:Sx}
theorem CS.low (hB:B≤Zs)(hJ:B≤J)(hlb:B≤lb)(hlo:B≤lo)(hob:∀ b,ob0=some b→B≤b):∀ b,CS J lb lo ob0 b→B≤b:=fun b e=>by
 rcases e with rfl|rfl|rfl|e
 · exact hJ
 · exact hlb
 · exact hlo
 · exact hob b e
theorem Tabs.up {w:World} {B B':Nat}(h:Tabs w B)(k:B≤B'):Tabs w B':=⟨h.masks,h.courses,h.digits,h.modes,Nat.lt_of_lt_of_le h.gMasks k,Nat.lt_of_lt_of_le h.gCourses k,Nat.lt_of_lt_of_le h.gDigits k,Nat.lt_of_lt_of_le h.gModes k⟩
theorem QIb {x:Sx}(hgo:goS g which v (200-x.got.length) x=X)(hb:(Jp g which x.got).b=true∨x.got.length=200):x=X:=by
 rcases hb with hb|hb
 · cases hk:200-x.got.length with
   | zero=>rw[hk] at hgo;exact hgo
   | succ j=>rw[hk,goS,if_pos hb] at hgo;exact hgo
 · rw[hb] at hgo;exact hgo
theorem QL6 {x:Sx}(hgo:goS g which v (200-x.got.length) x=X)(hb:(Jp g which x.got).b=false)(hl:x.got.length < 200):goS g which v (200-(QT (Jp g which x.got).c v x).got.length) (QT (Jp g which x.got).c v x)=X:=by
 obtain⟨j,hj⟩:∃ j,200-x.got.length=j+1:=⟨199-x.got.length,by omega⟩
 rw[hj,goS,if_neg (by rw[hb];simp)] at hgo
 have e:(QT (Jp g which x.got).c v x).got.length=x.got.length+1:=by simp[QT]
 rw[e,show 200-(x.got.length+1)=j by omega]
 exact hgo
theorem QTB (c:Cy)(b:Int):(Zp c b).t=c.t:=by unfold Zp;split<;>rfl
theorem QSS (c:Cy)(b:Int)(l:List Cy):(QCA c b l).length≤l.length+1:=by
 unfold QCA
 split<;>simp
theorem NewR.trans {a b:World} {o1 o2 o3:Option Nat}(h:NewR a o1 o2)(k:NewR b o2 o3)(hs:a.heap.size≤b.heap.size):NewR a o1 o3:=by
 rcases k with rfl|⟨y,e,hy⟩
 · exact h
 · exact .inr ⟨y,e,by omega⟩
theorem NewR.ge {w:World} {o1 o2:Option Nat}(h:NewR w o1 o2){b:Nat}(e:o2=some b):o1=some b∨w.heap.size≤b:=by
 rcases h with rfl|⟨y,e2,hy⟩
 · exact .inl e
 · rw[e2] at e;injection e with e;subst e;exact .inr hy
theorem QSB {k:Nat}(h:((k:Int)==200)=true):k=200:=by
 have:(k:Int)=200:=by simpa using h
 omega
theorem QRb (hA:jK)(hg:RgB g)(hv:B8 v){M P:Value} {m:List (Int×Int)} {p:List Int}(B1 B2 B3:Nat)(hZs:Zs=Z.heap.size)
 (r1:Row Z B1 79 #[pT J 0])(r2:Row Z B2 3 #[.int .i64 which])(r3:Row Z B3 5 #[.int .u8 v])
 (n1:¬CS J lb lo ob0 B1)(n2:¬CS J lb lo ob0 B2)(n3:¬CS J lb lo ob0 B3)(hlb:lb < Zs)(hlo:lo < Zs)(hJl:J≠lb∧J≠lo)(hob:∀ b,ob0=some b→b≠lb∧b≠lo)
 (hBlb:B≤lb)(hBlo:B≤lo)(h:Jny B J Z g M P ob0 m p k n)(hc:ConF Zs lb lo rc Z (.slice none 0 0) [])(hn:0≤n∧n≤900000)(hm:m.length≤800000)(hm16:QL m)(hp8:Bytes8 p)(ht:Tabs Z B)
 (hY:QVM B J Zs lb lo rc Z ob0):Calls Tryz.prog 41 #[.func (.yield lo) #[] #[],pT B1 0,pT B2 0,pT B3 0] Z fun e W=>e=.returned (.tuple #[])∧∃ M' P' ob' vl',Jny B J W (qn g which (goS g which v 200 ⟨[],m,p,[],0⟩)) M' P' ob' (goS g which v 200 ⟨[],m,p,[],0⟩).m (goS g which v 200 ⟨[],m,p,[],0⟩).p k (n+(goS g which v 200 ⟨[],m,p,[],0⟩).n)∧ConF Zs lb lo rc W vl' (goS g which v 200 ⟨[],m,p,[],0⟩).l∧Kept (CS J lb lo ob0) Z W∧NewR Z ob0 ob':=by
 obtain⟨X,hX⟩:∃ X,X=goS g which v 200 ⟨[],m,p,[],0⟩:=⟨_,rfl⟩
 rw[←hX]
 have hJ:=h.row.lt
 have hBZ:=h.lt
 have hCS:∀ b,CS J lb lo ob0 b→B≤b:=CS.low (by omega) h.low hBlb hBlo fun b e=>(h.mem.lt b e).1
 go_enter Tryz.func41,Tryz.ntmps41
 refine JB<|qQ [] (Many.begin Z) fun z1 kz=>coB<|ZN (goB lo B1 B2 B3) (GoI B J Zs lb lo rc Z g which v ob0 k n m.length X) (fun q=>201-q.x.got.length) (fun y=>⟨⟨[],m,p,[],0⟩,M,P,ob0,.slice none 0 0,.slice none 0 0,y⟩) ?_ ?_
 · have hb:=kz.touch.below
   exact⟨hX.symm,Nat.zero_le _,Nat.le_refl _,by show Jny B J z1 g M P ob0 m p k (n+0);rw[Int.add_zero];exact h.bel hb,hc.kept (S:=fun _=>False) (.of_below hb) (fun e=>e) (fun e=>e) (fun _ _ e=>e),World.ownsRow_nil ..,.of_below hb,.inl rfl,fun _ _ e=>(by cases e),fun _ _ e=>(by cases e),fun _ e=>(by cases e),⟨fun x hx=>(by cases hx),hm16,hp8⟩,Int.le_refl _,by simp,by simp⟩
 clear kz
 rintro ⟨x,M,P,ob,vl,vg,y⟩ W ⟨hgo,hlen,hll,hj,hcon,hown,hkept,hnew,a1,a2,a3,hok,hn0,hn7,hml⟩
 dsimp only at hgo hlen hll hj hcon hown hkept hnew a1 a2 a3 hok hn0 hn7 hml
 have hsz:=hkept.size
 have q1:Row W B1 79 #[pT J 0]:=hkept.row r1 n1
 have q2:Row W B2 3 #[.int .i64 which]:=hkept.row r2 n2
 have q3:Row W B3 5 #[.int .u8 v]:=hkept.row r3 n3
 have l1:=r1.lt
 have l2:=r2.lt
 have l3:=r3.lt
 have htW:Tabs W B:=ht.keep fun b hb=>hkept.block b (by omega) fun e=>by have:=hCS b e;omega
 obtain⟨T,hT⟩:∃ T,T=Jp g which x.got:=⟨_,rfl⟩
 obtain⟨Av,cv,rfl,hcv,hbg,hnn⟩:=QBm hown
 have KN:∀ W',Below W.heap.size W W'→Calls Tryz.prog 42 #[JG g,.int .i64 which,.slice Av x.got.length cv] W' fun e w'=>e=.returned T.v∧Below W'.heap.size W' w':=fun W' hb=>by
  rw[hT]
  exact QLO g hg which Av cv x.got hcv hok.got (by omega) W' ((hbg.below hb).more hb.size) ((htW.up (by omega)).below hb)
 obtain⟨c,s,d⟩:=T
 have hc1:(Jp g which x.got).c=c:=by rw[←hT]
 have hs1:(Jp g which x.got).g=s:=by rw[←hT]
 have hd1:(Jp g which x.got).b=d:=by rw[←hT]
 have done:∀ {W':World},(d=true∨x.got.length=200)→(∃ M' P' ob',Jny B J W' (qn g which x) M' P' ob' x.m x.p k (n+x.n)∧ConF Zs lb lo rc W' vl x.l∧Kept (CS J lb lo ob0) Z W'∧NewR Z ob0 ob')→(Ending.returned (.tuple #[])=Ending.returned (.tuple #[]))∧∃ M' P' ob' vl',Jny B J W' (qn g which X) M' P' ob' X.m X.p k (n+X.n)∧ConF Zs lb lo rc W' vl' X.l∧Kept (CS J lb lo ob0) Z W'∧NewR Z ob0 ob':=fun hd ⟨M',P',ob',e1,e2,e3,e4⟩=>by
  have:=QIb hgo (by rw[hd1];exact hd)
  rw[←this]
  exact⟨rfl,M',P',ob',vl,e1,e2,e3,e4⟩
 refine coB<|QVc [(some 11,.val (pT J 0)),(some 12,.val (pT J 0)),(some 13,.val (pT J 0)),(some 14,.val (JG g)),(some 15,.val (.int .i64 which)),(some 16,.val (.slice Av x.got.length cv)),(some 17,.call (.tuple #[cyV c,JG s,.bool d])),(some 10,.val (.tuple #[cyV c,JG s,.bool d])),(some 18,.val (cyV c)),(some 19,.val (JG s)),(some 20,.val (.bool d)),(some 6,.box 54 (cyC JM) (some (13,cyC c)) none),(some 7,.box 24 (JH JV) (some (14,JH s)) none),(none,.put 11),(none,.put 12),(some 8,.val (.bool d))]
  ⟨fun p l a w I hd=>jw rfl (by kernel_rfl) (qU ((q1.below I.below q1.lt).cell 0)),fun p l a w I hd=>QCE rfl (by kernel_rfl) w,fun p l a w I hd=>ZH (V:=pT J 0) rfl (by kernel_rfl) (fun w=>by kernel_rfl) w,fun p l a w I hd=>jw rfl (by kernel_rfl) (ldR (hj.bel I.below).regs),fun p l a w I hd=>jw rfl (by kernel_rfl) (qU ((q2.below I.below q2.lt).cell 0)),fun p l a w I hd=>Xs (.inl rfl) (by kernel_rfl) w,fun p l a w I hd=>⟨_,_,(by kernel_rfl),KN w I.below⟩,fun p l a w I hd=>Xs (.inl rfl) (by kernel_rfl) w,fun p l a w I hd=>XY (vs:=#[cyV c,JG s,.bool d]) rfl (by kernel_rfl) (by kernel_rfl) w,fun p l a w I hd=>XY (vs:=#[cyV c,JG s,.bool d]) rfl (by kernel_rfl) (by kernel_rfl) w,fun p l a w I hd=>XY (vs:=#[cyV c,JG s,.bool d]) rfl (by kernel_rfl) (by kernel_rfl) w,⟨fun k vs e=>(by cases e;rfl),fun p l a w I hd=>Qr rfl (qc w)⟩,⟨fun k vs e=>(by cases e;rfl),fun p l a w I hd=>Qr rfl (QAt w)⟩,fun p l a w I hd d t z s vs hj hr=>(by cases hj;exact XC rfl (by kernel_rfl) (by kernel_rfl) (QCi hr)),fun p l a w I hd d t z s vs hj hr=>(by cases hj;exact XC rfl (by kernel_rfl) (by kernel_rfl) (QCC hr)),fun p l a w I hd=>Xs (.inr rfl) (by kernel_rfl) w,trivial⟩ fun q wc hE=>?_
 have hCb:=hE.2.1 11 _ _ _ _ _ rfl
 have hSb:=hE.2.1 12 _ _ _ _ _ rfl
 have hbc:=hE.1
 clear hE KN
 have hT0:∀ {R:Ending→World→Prop},(∀ w,¬R .outgrown w)→Tame (bodyPost Tryz.prog Tryz.f41 R):=fun hR a w h=>hR w h
 have jc:=hj.bel hbc
 have ownW:=hown.lt
 have conW:=hcon.own.lt
 have memW:=hj.mem.lt
 have hbW:=hbc.size
 have obZ:∀ b,ob=some b→b≠lb∧b≠lo:=fun b e=>by
  rcases hnew.ge e with e|e
  · exact hob b e
  · exact⟨by omega,by omega⟩
 have conc:ConF Zs lb lo rc wc vl x.l:=hcon.kept (S:=fun _=>False) (.of_below hbc) (fun e=>e) (fun e=>e) (fun _ _ e=>e)
 have keptc:Kept (CS J lb lo ob0) Z wc:=hkept.trans (Kept.of_below (S:=CS J lb lo ob0) hbc) (fun _ e=>e) (fun _ _ e=>e)
 refine coS<|qQ [] (Many.begin wc) fun wd kd=>coI d (fun hd=>?_) fun hd=>JE<|eoT<|coS<|qQ [] kd fun we ke=>coI ((x.got.length:Int)==200) (fun h200=>?_) fun h200=>JE<|eoT<|?_
 · have hbd:=kd.touch.below
   have jd:=jc.bel hbd
   refine coR<|wM (J3 (qU (((q1.below hbc q1.lt).below hbd (Nat.lt_of_lt_of_le q1.lt hbc.size)).cell 0)))<|wM (J3 (ldR (hSb.2.below hbd hSb.2.lt).range))<|qE [0] (Many.start jd.row) fun we ke=>JJ<|QF<|Zq<|QF<|Zq<|qX (done (.inl hd) ⟨M,P,ob,?_,?_,?_,hnew⟩)
   · have e:qn g which x=s:=by unfold qn;rw[if_pos (hd1.trans hd),hs1]
     rw[e]
     have qk:Kept (fun b=>b=J) wd we:=(Kept.of_touch ke.touch).mono fun b _ e=>List.mem_singleton.1 e
     exact⟨ke.row 0 (XU s M P k (n+x.n)).toList (by kernel_rfl),jd.low,jd.mem.kept qk jd.lt (fun b e=>e▸jd.low) fun b e x=>jd.off (x▸e),jd.off,jd.por.kept qk jd.lt fun b e=>e▸jd.low⟩
   · have qk:Kept (fun b=>b=J) wd we:=(Kept.of_touch ke.touch).mono fun b _ e=>List.mem_singleton.1 e
     exact (conc.kept (S:=fun _=>False) (.of_below hbd) (fun e=>e) (fun e=>e) (fun _ _ e=>e)).kept qk (fun e=>hJl.1 e.symm) (fun e=>hJl.2 e.symm) fun b e x=>by have:=(conW b e).1;omega
   · exact (keptc.trans (Kept.of_below (S:=CS J lb lo ob0) hbd) (fun _ e=>e) (fun _ _ e=>e)).trans (Kept.of_touch ke.touch) (fun _ e=>e) fun b _ e=>.inl (List.mem_singleton.1 e)
 · have hbe:=ke.touch.below
   refine JJ<|QF<|Zq<|QF<|Zq<|qX (done (.inr (QSB h200)) ⟨M,P,ob,?_,?_,?_,hnew⟩)
   · have e:qn g which x=g:=by unfold qn;rw[if_neg (by rw[hd1,hd];simp)]
     rw[e]
     exact jc.bel hbe
   · exact conc.kept (S:=fun _=>False) (.of_below hbe) (fun e=>e) (fun e=>e) (fun _ _ e=>e)
   · exact keptc.trans (Kept.of_below (S:=CS J lb lo ob0) hbe) (fun _ e=>e) (fun _ _ e=>e)
 have hlt:x.got.length < 200:=by
  have:¬(x.got.length:Int)=200:=by simpa using h200
  omega
 have hbe:=ke.touch.below
 have je:=jc.bel hbe
 have hB8:B8 (ZD c v x.m x.p):=QIf hok c hv
 obtain⟨b,hb⟩:∃ b,b=ZD c v x.m x.p:=⟨_,rfl⟩
 have hse:=hbe.size
 have rC:Row we (q 11) 54 (cyC c):=hCb.2.below hbe hCb.2.lt
 have gC:=hCb.1
 have hd1':(Jp g which x.got).b=false:=by rw[hd1];exact hd
 have ht:=QPE g which x.got hd1'
 rw[hc1] at ht
 have KA:=QJx je c v (by omega)
 rw[←hb] at KA
 rw[←hb] at hB8
 refine coR<|wM (J3 (qU (((q1.below hbc q1.lt).below hbe (Nat.lt_of_lt_of_le q1.lt hbc.size)).cell 0)))<|wM (J3 (QMf rC))<|wM (J3 (qU (((q3.below hbc q3.lt).below hbe (Nat.lt_of_lt_of_le q3.lt hbc.size)).cell 0)))<|kX KA fun e wf ⟨he,M',P',ob',hj',qa,hna⟩=>⟨_,he,qE [] (Many.begin wf) fun wg kg=>coR<|qR 3 [] (Many.begin wg) fun wh kh=>?_⟩
 have hsf:=qa.size
 have hbh:=kh.touch.below
 have hbg':=kg.touch.below
 have hsg:=hbg'.size
 have hsh:=hbh.size
 have rN:Row wh wg.heap.size 5 #[.int .u8 b]:=kh.row 0 [.int .u8 b] (by kernel_rfl)
 have js:∀ y,JS J ob y→y < W.heap.size∧y≠lb∧y≠lo:=fun y e=>by
  rcases e with rfl|e
  · exact⟨by omega,hJl.1,hJl.2⟩
  · exact⟨(memW y e).2,obZ y e⟩
 have vlJS:∀ y,vl.ownBlock=some y→¬JS J ob y:=fun y e c=>by
  rcases c with rfl|c
  · have:=(conW _ e).1;omega
  · exact a1 y c e
 have vgJS:∀ y,(Value.slice Av x.got.length cv).ownBlock=some y→¬JS J ob y:=fun y e c=>by
  rcases c with rfl|c
  · have:=(ownW _ e).1;omega
  · exact a2 y c e
 -- behind the answer,up to the append
 have jh:Jny B J wh g M' P' ob' (X3 c x.m) (Zy c x.p) k (n+x.n):=(hj'.bel hbg').bel hbh
 have cone:ConF Zs lb lo rc we vl x.l:=conc.kept (S:=fun _=>False) (.of_below hbe) (fun e=>e) (fun e=>e) (fun _ _ e=>e)
 have conf:=cone.kept qa (fun e=>(js _ e).2.1 rfl) (fun e=>(js _ e).2.2 rfl) vlJS
 have bfh:Below wf.heap.size wf wh:=hbg'.trans (hbh.mono hsg)
 have conh:ConF Zs lb lo rc wh vl x.l:=conf.kept (S:=fun _=>False) (.of_below bfh) (fun e=>e) (fun e=>e) (fun _ _ e=>e)
 have owne:=own_below (own_below hown hbc) hbe
 have ownh:=own_below (qa.own owne vgJS) bfh
 have rCh:Row wh (q 11) 54 (cyC c):=(qa.row rC fun e=>by have:=(js _ e).1;omega).below bfh (by have:=(qa.row rC fun e=>by have:=(js _ e).1;omega).lt;omega)
 have kepte:Kept (CS J lb lo ob0) Z we:=keptc.trans (Kept.of_below (S:=CS J lb lo ob0) hbe) (fun _ e=>e) (fun _ _ e=>e)
 have kepth:Kept (CS J lb lo ob0) Z wh:=(kepte.trans qa (fun _ e=>e) fun y hy e=>by
  rcases e with rfl|e
  · exact .inl rfl
  · rcases hnew.ge e with e|e
    · exact .inr (.inr (.inr e))
    · omega).trans (Kept.of_below (S:=CS J lb lo ob0) bfh) (fun _ e=>e) (fun _ _ e=>e)
 have obL:=hj'.mem.lt
 refine QOt (.tmp 33) (.tmp 35) 26 5 1 1 (.int .u8 0) Zs (.slice Av x.got.length cv) x.got.length (bvs x.got) ⟨wg.heap.size,0,none⟩ 1 1 [.int .u8 b] (by omega) ownh rfl rN.values (fun u hu=>by rw[List.mem_singleton.1 hu];rfl) (by omega) (by omega) fun vg' wi own' gr hng=>qE [] (Many.begin wi) fun wj kj=>?_
 have hsi:=gr.size
 have hbj:=kj.touch.below
 have hsj:=hbj.size
 have qg:=Kept.of_grown gr
 have vgS:∀ y,(Value.slice Av x.got.length cv).ownBlock=some y→Zs≤y∧y < W.heap.size:=ownW
 have rCj:Row wj (q 11) 54 (cyC c):=(qg.row rCh fun e=>by have:=(vgS _ e).2;omega).below hbj (by have:=(qg.row rCh fun e=>by have:=(vgS _ e).2;omega).lt;omega)
 have jj:Jny B J wj g M' P' ob' (X3 c x.m) (Zy c x.p) k (n+x.n):=(jh.kept qg (fun y e=>by have:=(vgS y e).1;omega) (fun e=>by have:=(vgS _ e).1;omega) fun y e c=>by
  rcases hna.ge e with e|e
  · exact a2 y e c
  · have:=(vgS y c).2;omega).bel hbj
 have conj:ConF Zs lb lo rc wj vl x.l:=(conh.kept qg (fun e=>by have:=(vgS _ e).1;omega) (fun e=>by have:=(vgS _ e).1;omega) fun y e c=>a3 y c e).kept (S:=fun _=>False) (.of_below hbj) (fun e=>e) (fun e=>e) (fun _ _ e=>e)
 have ownj:wj.ownsRow Zs 5 1 vg' (x.got.length+1) (bvs (x.got++[b])):=by
  have e:bvs x.got++[.int .u8 b]=bvs (x.got++[b]):=by simp[bvs]
  rw[e] at own'
  exact own_below own' hbj
 have keptj:Kept (CS J lb lo ob0) Z wj:=(kepth.trans qg (fun _ e=>e) fun y hy e=>by have:=(vgS y e).1;omega).trans (Kept.of_below (S:=CS J lb lo ob0) hbj) (fun _ e=>e) (fun _ _ e=>e)
 have vgJ:=ownj.lt
 refine coS<|coR<|qR 1 [] (Many.begin wj) fun wk kk=>?_
 have rCk:Row wk (q 11) 54 (cyC c):=rCj.below kk.touch.below rCj.lt
 refine wM (J3 (qU (rCk.cell 0)))<|qC (QJe c.kind wk) kk fun wl kl=>qE [] kl fun wm km=>?_
 have hbm:=km.touch.below
 have hsm:=hbm.size
 have rCm:Row wm (q 11) 54 (cyC c):=rCj.below hbm rCj.lt
 have hTm:∀ {R:Ending→World→Prop} {N:Act→World→Prop},(∀ w,¬R .outgrown w)→Tame (Exit.inBlock 1 (Exit.then N (Exit.inBlock 0 (bodyPost Tryz.prog Tryz.f41 R)))):=fun hR=>(Tame.thn (Tame.blk (hT0 hR))).blk
 have hNg:∀ w:World,¬(Ending.outgrown=Ending.returned (.tuple #[])∧∃ M' P' ob' vl',Jny B J w (qn g which X) M' P' ob' X.m X.p k (n+X.n)∧ConF Zs lb lo rc w vl' X.l∧Kept (CS J lb lo ob0) Z w∧NewR Z ob0 ob'):=fun w h=>by cases h.1
 have gq:W.heap.size≤q 11:=gC
 have obN:∀ y,ob'=some y→y < wf.heap.size:=fun y e=>(obL y e).2
 have vgN:∀ y,vg'.ownBlock=some y→Zs≤y∧y < wj.heap.size:=vgJ
 have fin:∀ (wn:World),Kept (fun y=>y=q 11) wm wn→Row wn (q 11) 54 (cyC (Zp c b))→(Jny B J wn g M' P' ob' (X3 c x.m) (Zy c x.p) k (n+x.n)∧ConF Zs lb lo rc wn vl x.l∧wn.ownsRow Zs 5 1 vg' (x.got.length+1) (bvs (x.got++[b]))∧Kept (CS J lb lo ob0) Z wn∧wm.heap.size≤wn.heap.size) ∧
  YieldAt Fence.wide 0 Tryz.prog lo #[cyV (Zp c b)] wn fun e wo=>e=.returned (.bool true)∧∃ vl',∀ (wp:World) (y:Nat→Value),Below wo.heap.size wo wp→GoI B J Zs lb lo rc Z g which v ob0 k n m.length X ⟨QT c v x,M',P',ob',vl',vg',y⟩ wp:=fun wn kn hrn=>by
  have hsn:=kn.size
  have lC:=rCm.lt
  have lCe:=rC.lt
  have jn:Jny B J wn g M' P' ob' (X3 c x.m) (Zy c x.p) k (n+x.n):=(jj.bel hbm).kept kn (fun y e=>by omega) (fun e=>by omega) fun y e c=>by
   have c:y=q 11:=c
   rcases hna.ge e with e|e
   · have:=(memW y e).2
     omega
   · omega
  have conn:ConF Zs lb lo rc wn vl x.l:=(conj.kept (S:=fun _=>False) (.of_below hbm) (fun e=>e) (fun e=>e) (fun _ _ e=>e)).kept kn (fun e=>by omega) (fun e=>by omega) fun y e c=>by
   have:=(conW y e).2
   omega
  have ownn:wn.ownsRow Zs 5 1 vg' (x.got.length+1) (bvs (x.got++[b])):=kn.own (own_below ownj hbm) fun y e c=>by
   have c:y=q 11:=c
   rcases hng.ge e with e|e
   · have:=(vgS y e).2
     omega
   · omega
  have keptn:Kept (CS J lb lo ob0) Z wn:=(keptj.trans (Kept.of_below (S:=CS J lb lo ob0) hbm) (fun _ e=>e) (fun _ _ e=>e)).trans kn (fun _ e=>e) fun y hy e=>by
   have e:y=q 11:=e
   omega
  refine⟨⟨jn,conn,ownn,keptn,hsn⟩,?_⟩
  have apn:∀ y,ob'=some y→y≠lb∧y≠lo∧vl.ownBlock≠some y:=fun y e=>by
   rcases hna.ge e with e|e
   · exact⟨(obZ y e).1,(obZ y e).2,a1 y e⟩
   · exact⟨by omega,by omega,fun c=>by have:=(conW y c).2;omega⟩
  obtain⟨fn,tmps,assign,body,hy,hR⟩:=hY wn (Zp c b) g M' P' ob' (X3 c x.m) (Zy c x.p) k (n+x.n) vl x.l keptn jn conn (by omega) (by omega) ⟨by omega,by omega⟩ (by rw[QTB];omega) apn
  refine⟨fn,tmps,assign,body,hy,hR.mono fun e wo ⟨he,vl',e1,e2,e3,e4⟩=>⟨he,vl',fun wp y hb'=>?_⟩⟩
  have e5:QT (Jp g which x.got).c v x=QT c v x:=by rw[hc1]
  have hgl:(QT c v x).got=x.got++[b]:=by rw[hb];rfl
  have hnl:(QT c v x).got.length=x.got.length+1:=by rw[hgl];simp
  have hso:=e3.size
  have rsN:∀ y,RS J lb lo vl y→y=J∨y=lb∨y=lo∨(Zs≤y∧y < W.heap.size):=fun y e=>by
   rcases e with e|e|e|e
   · exact .inl e
   · exact .inr (.inl e)
   · exact .inr (.inr (.inl e))
   · exact .inr (.inr (.inr (conW y e)))
  have vgRS:∀ y,vg'.ownBlock=some y→¬RS J lb lo vl y:=fun y e c=>by
   have h1:=(vgN y e).1
   rcases c with c|c|c|c
   · omega
   · omega
   · omega
   · rcases hng.ge e with e|e
     · exact a3 y e c
     · have:=(conW y c).2
       omega
  refine⟨?_,by show (QT c v x).got.length≤200;omega,?_,?_,?_,?_,?_,?_,?_,?_,?_,?_,?_,?_,?_⟩
  · have:=QL6 hgo hd1' hlt
    rwa [e5] at this
  · show (QT c v x).l.length≤(QT c v x).got.length
    have:=QSS c (ZD c v x.m x.p) x.l
    rw[hnl]
    exact Nat.le_trans this (by omega)
  · have:n+x.n+(Zp c b).t=n+(QT c v x).n:=by rw[QTB];show _=n+(x.n+c.t);omega
    rw[this] at e1
    exact e1.bel hb'
  · have:QJH (Zp c b) x.l=(QT c v x).l:=by rw[QOI,hb];rfl
    rw[this] at e2
    exact e2.kept (S:=fun _=>False) (.of_below hb') (fun e=>e) (fun e=>e) (fun _ _ e=>e)
  · show wp.ownsRow Zs _ 1 vg' (QT c v x).got.length (bvs (QT c v x).got)
    rw[hnl,hgl]
    exact own_below (e3.own ownn vgRS) hb'
  · exact (keptn.trans e3 (fun _ e=>e) fun y hy e=>by
     rcases rsN y e with e|e|e|e
     · exact .inl e
     · exact .inr (.inl e)
     · exact .inr (.inr (.inl e))
     · omega).trans (Kept.of_below (S:=CS J lb lo ob0) hb') (fun _ e=>e) (fun _ _ e=>e)
  · exact hnew.trans (hna.trans (.inl rfl) (Nat.le_refl _)) (by omega)
  · intro y ey c
    have ey:ob'=some y:=ey
    have c:vl'.ownBlock=some y:=c
    rcases e4.ge c with c|c
    · exact (apn y ey).2.2 c
    · have:=obN y ey;omega
  · intro y ey c
    have ey:ob'=some y:=ey
    have c:vg'.ownBlock=some y:=c
    have:=obN y ey
    rcases hng.ge c with c|c
    · rcases hna.ge ey with ey|ey
      · exact a2 y ey c
      · have:=(vgS y c).2;omega
    · omega
  · intro y ey c
    have ey:vg'.ownBlock=some y:=ey
    have c:vl'.ownBlock=some y:=c
    rcases e4.ge c with c|c
    · exact vgRS y ey (.inr (.inr (.inr c)))
    · have:=(vgN y ey).2;omega
  · exact hok.next (by have:=(hA g which x.got hg hok.got).2 hd1';rwa [hc1] at this) hv
  · show 0≤x.n+c.t
    omega
  · show x.n+c.t≤7*((QT c v x).got.length:Int)
    rw[hnl];push_cast;omega
  · show (X3 c x.m).length≤m.length+(QT c v x).got.length
    have:=QGL c x.m
    rw[hnl];omega
 refine coI (!(QBQ c.kind)) (fun hw=>coZ<|qF [0] (Many.start rCm) fun wn kn=>eoT ?_) fun hw=>JE<|eoT ?_
 · have kq:Kept (fun y=>y=q 11) wm wn:=(Kept.of_touch kn.touch).mono fun y _ e=>List.mem_singleton.1 e
   have rowN:Row wn (q 11) 54 (cyC (Zp c b)):=by
    have e:Zp c b={ c with data:=b }:=by rw[QFW,if_neg (by simpa using hw)]
    rw[e]
    exact kn.row 0 (cyC { c with data:=b }).toList (by kernel_rfl)
   obtain⟨⟨jn,conn,ownn,keptn,hsn⟩,fn,tmps,assign,body,hy,hR⟩:=fin wn kq rowN
   exact QUN 0<|QTv<|wiM ZA (V:=.func (.yield lo) #[] #[]) (w':=wn) (by kernel_rfl)<|wiM ZA (J3 (QMf rowN))<|wiY ZA hR (fun e wo ⟨he,vl',hI⟩=>⟨_,he,wiW ZA (hTm hNg).thn (qF [] (Many.begin wo) fun wp kp=>QNn<|ciF<|QLQ<|eiE<|eoB<|Qk (fun y=>⟨QT c v x,M',P',ob',vl',vg',y⟩) (hI wp _ kp.touch.below) (by show 201-(QT c v x).got.length < 201-x.got.length;simp[QT];omega))⟩) (QP8 hy)
 · obtain⟨wn,rfl⟩:∃ wn,wn=wm:=⟨_,rfl⟩
   have kq:Kept (fun y=>y=q 11) wn wn:=.refl ..
   have rowN:Row wn (q 11) 54 (cyC (Zp c b)):=by
    have e:Zp c b=c:=by rw[QFW,if_pos (by simpa using hw)]
    rw[e]
    exact rCm
   obtain⟨⟨jn,conn,ownn,keptn,hsn⟩,fn,tmps,assign,body,hy,hR⟩:=fin wn kq rowN
   exact QUN 0<|QTv<|wiM ZA (V:=.func (.yield lo) #[] #[]) (w':=wn) (by kernel_rfl)<|wiM ZA (J3 (QMf rowN))<|wiY ZA hR (fun e wo ⟨he,vl',hI⟩=>⟨_,he,wiW ZA (hTm hNg).thn (qF [] (Many.begin wo) fun wp kp=>QNn<|ciF<|QLQ<|eiE<|eoB<|Qk (fun y=>⟨QT c v x,M',P',ob',vl',vg',y⟩) (hI wp _ kp.touch.below) (by show 201-(QT c v x).got.length < 201-x.got.length;simp[QT];omega))⟩) (QP8 hy)
end
theorem Many.belowB {w0 w w':World} {L:List Nat} {rs:List RowK} {n:Nat}(h:Many w0 L rs w)(k:Below n w w')(hn:∀ (i:Nat) (r:RowK),rs[i]?=some r→r.b < n)(h0:w0.heap.size≤n):Many w0 L rs w' :=
 ⟨fun i r hr=>by obtain⟨full,h1,h2⟩:=h.rows i r hr;exact⟨full,h1.of (k.block r.b (hn i r hr)),h2⟩,h.dis,h.own,
  ⟨k.os.trans h.touch.os,k.tape.trans h.touch.tape,k.output.trans h.touch.output,Nat.le_trans h.touch.size k.size,fun c hc hL=>(k.block c (Nat.lt_of_lt_of_le hc h0)).trans (h.touch.block c hc hL)⟩⟩
theorem QCy {a b c x:Nat} {t u v:TypeId} {cs ds es:Xt}(h:a < x)(k:b < x)(m:c < x):∀ (i:Nat) (r:RowK),([⟨a,t,cs⟩,⟨b,u,ds⟩,⟨c,v,es⟩]:List RowK)[i]?=some r→r.b < x:=fun i r hi=>by
 match i with
 | 0=>cases hi;exact h
 | 1=>cases hi;exact k
 | 2=>cases hi;exact m
 | i+3=>cases hi
theorem QLC (A:Option Addr)(cap:Nat)(xs:List Int)(k:Nat)(w:World)(hin:BytesIn w w.heap.size A xs):Calls Tryz.prog 38 #[.slice A xs.length cap,.int .i64 (k:Int)] w fun e w'=>e=.returned (.int .u8 (xs.getD k 0))∧Below w.heap.size w w':=by
 go_enter Tryz.func38,Tryz.ntmps38
 refine JB<|qQ [] (Many.begin w) fun w1 k1=>coS<|qQ [] k1 fun w2 k2=>coI (decide ((k:Int) < (xs.length:Int))) (fun h=>?_) fun h=>JE<|eoT<|qQ [] k2 fun w3 k3=>JJ<|J8 (.int .u8 0) ⟨?_,k3.touch.below⟩
 · have hk:k < xs.length:=by have:(k:Int) < (xs.length:Int):=by simpa using h
                             omega
   obtain⟨p,rfl⟩:=hin.addr hk
   refine coR<|qR 2 [] k2 fun w3 k3=>wM (XF (ixB p xs.length cap k hk w3))<|wM (J3 (BytesIn.ld (hin.below k3.touch.below) hk))<|qE [] k3 fun w4 k4=>JJ<|QF<|J8 (.int .u8 xs[k]) ⟨by rw[List.getD_eq_getElem?_getD,List.getElem?_eq_getElem hk];rfl,k4.touch.below⟩
 · have hk:¬k < xs.length:=by have:¬(k:Int) < (xs.length:Int):=by simpa using h
                              omega
   rw[List.getD_eq_getElem?_getD,List.getElem?_eq_none (by omega)]
   rfl
theorem QBY (p:Addr)(c m:Nat)(l:List Cy)(hm:l.length=m)(g:Rg)(A:Option Addr)(cap n:Nat)(w:World)(hcy:CysIn w w.heap.size (some p) l):Calls Tryz.prog 37 #[.slice (some p) m c,JG g,.slice A n cap] w fun e w'=>e=.returned (Qg l g n).v∧Below w.heap.size w w':=by
 subst hm
 go_enter Tryz.func37,Tryz.ntmps37
 refine JB<|qQ [] (Many.begin w) fun w1 k1=>coS<|qQ [] k1 fun w2 k2=>coI (decide ((n:Int) < (l.length:Int))) (fun h=>?_) fun h=>JE<|eoT<|qP 3 k2 fun w3 k3=>qD 0 [0,1] k3<|ZZ 2<|soZ 1 (w.heap.size+1) k3 fun w4 k4=>poE<|qE [2] k4 fun w5 k5=>JJ<|jI 1 2 JM g true (w.heap.size+1) (w.heap.size+2) k5 ⟨?_,k5.touch.below⟩
 · have hk:n < l.length:=by have:(n:Int) < (l.length:Int):=by simpa using h
                            omega
   refine coR<|qR 3 [] k2 fun w3 k3=>wM (XF (QGV p l.length c n hk w3))<|wM (J3 ((hcy.below k3.touch.below).ld hk))<|qE [1,2] k3 fun w4 k4=>JJ<|QF<|jI 1 2 l[n] JV false (w.heap.size+1) (w.heap.size+2) k4 ⟨?_,k4.touch.below⟩
   unfold Qg
   rw[if_pos hk,List.getD_eq_getElem?_getD,List.getElem?_eq_getElem hk]
   rfl
 · have hk:¬n < l.length:=by have:¬(n:Int) < (l.length:Int):=by simpa using h
                             omega
   unfold Qg
   rw[if_neg hk]
   rfl
theorem QD2 (b:Nat)(v0:Value)(c:Cy)(sp pc:Int)(hp:0≤pc∧pc≤65535)(w:World)(hb:b≤w.heap.size)(hown:w.ownsRow b 54 4 v0 1 (QH [c])):Calls Tryz.prog 36 #[v0,.int .u16 sp,.int .u16 pc] w fun e w'=>∃ v,e=.returned v∧w'.ownsRow b 54 4 v 4 (QH ([c]++Qx sp pc))∧Below b w w':=by
 go_enter Tryz.func36,Tryz.ntmps36
 refine JB<|qQ [] (Many.begin w) fun w1 k1=>coR<|qR 2 [] k1 fun w2 k2=>wM (XD (QGc ⟨7,0,0,1⟩ w2))<|qAy (.tmp 7) (.tmp 9) b _ v0 1 [c] ⟨w2.heap.size,0,none⟩ 1 1 [⟨7,0,0,1⟩] (Nat.le_trans hb (Nat.le_trans k2.touch.size (by simp))) ((own_below hown k2.touch.below).alloc _) (QAo w2 [⟨7,0,0,1⟩] _) rfl (by omega) fun v3 w3 own3 g3=>?_
 have B3:Below b w w3:=XA ((XT k2.touch.below (.cells (QH [⟨7,0,0,1⟩]).toArray 54)).mono hb) g3 ((own_below hown k2.touch.below).alloc _) (Nat.le_refl _) (Nat.le_trans hb (Nat.le_trans k2.touch.size (by simp)))
 have s3:b≤w3.heap.size:=Nat.le_trans hb B3.size
 refine qE [] (Many.begin w3) fun w4 k4=>coR<|qR 4 [] k4 fun w5 k5=>qCe (Xp pc hp.1 hp.2 w5)<|qR 1 [] k5 fun w6 k6=>wM (XD (QGc ⟨3,(sp-1)%65536,pc / 256,3⟩ w6))<|qAy (.tmp 11) (.tmp 17) b _ v3 2 [c,⟨7,0,0,1⟩] ⟨w6.heap.size,0,none⟩ 1 1 [⟨3,(sp-1)%65536,pc / 256,3⟩] (Nat.le_trans s3 (Nat.le_trans k6.touch.size (by simp))) ((own_below own3 k6.touch.below).alloc _) (QAo w6 [⟨3,(sp-1)%65536,pc / 256,3⟩] _) rfl (by omega) fun v7 w7 own7 g7=>?_
 have B7:Below b w w7:=XA (B3.trans ((XT k6.touch.below (.cells (QH [⟨3,(sp-1)%65536,pc / 256,3⟩]).toArray 54)).mono s3)) g7 ((own_below own3 k6.touch.below).alloc _) (Nat.le_refl _) (Nat.le_trans s3 (Nat.le_trans k6.touch.size (by simp)))
 have s7:b≤w7.heap.size:=Nat.le_trans hb B7.size
 refine qE [] (Many.begin w7) fun w8 k8=>coR<|qR 4 [] k8 fun w9 k9=>qCe (XM pc hp.1 hp.2 w9)<|qR 1 [] k9 fun wA kA=>wM (XD (QGc ⟨3,(sp-2)%65536,pc%256,3⟩ wA))<|qAy (.tmp 19) (.tmp 25) b _ v7 3 [c,⟨7,0,0,1⟩,⟨3,(sp-1)%65536,pc / 256,3⟩] ⟨wA.heap.size,0,none⟩ 1 1 [⟨3,(sp-2)%65536,pc%256,3⟩] (Nat.le_trans s7 (Nat.le_trans kA.touch.size (by simp))) ((own_below own7 kA.touch.below).alloc _) (QAo wA [⟨3,(sp-2)%65536,pc%256,3⟩] _) rfl (by omega) fun vB wB ownB gB=>?_
 have BB:Below b w wB:=XA (B7.trans ((XT kA.touch.below (.cells (QH [⟨3,(sp-2)%65536,pc%256,3⟩]).toArray 54)).mono s7)) gB ((own_below own7 kA.touch.below).alloc _) (Nat.le_refl _) (Nat.le_trans s7 (Nat.le_trans kA.touch.size (by simp)))
 exact qE [] (Many.begin wB) fun wC kC=>JJ<|J8 vB ⟨vB,rfl,own_below ownB kC.touch.below,BB.trans (kC.touch.below.mono (Nat.le_trans hb BB.size))⟩
end Go.Proofs.YtkgaeamdhhceiaaGreatDoor
