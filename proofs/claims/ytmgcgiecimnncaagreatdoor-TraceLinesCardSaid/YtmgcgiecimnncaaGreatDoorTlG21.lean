/- Contracts and facts that the claim's proof wants (several texts in one). -/
import Derived.Test.YtmgcgiecimnncaaGreatDoorTlG20
namespace Go.Proofs.YtmgcgiecimnncaaGreatDoor
open Go.RowKit
set_option linter.unusedVariables false
set_option linter.unusedSimpArgs false
set_option maxRecDepth 20000
set_option maxHeartbeats 20000000
theorem jg {P:Program} {w:World} {b i:Nat} {V:Value} {t:TypeId}(hc:w.cell? ⟨b,i,none⟩=some V)(hu:(P.underlying t).map (·.isRow)=some false:=by kernel_rfl):(Instr.loadAt t (.pointer (some ⟨b,i,none⟩))).run P w=.ok V w:=by
 cases hp:P.underlying t with
 | none=>rw[hp] at hu;cases hu
 | some d=>rw[hp] at hu;injection hu with hu;exact QLT hp hu hc
theorem QGC {w:World} {b:Nat} {t:TypeId} {c:Cy}(h:Row w b t (cyC c)):(Instr.loadAt 30 (pT b 0)).run Tryz.prog w=.ok (cyV c) w :=
 QUU (p:=⟨b,0,none⟩) ((h.cell 0).trans rfl) (by simp only[Addr.add];exact (h.cell 1).trans rfl) (by simp only[Addr.add];exact (h.cell 2).trans rfl) (by simp only[Addr.add];exact (h.cell 3).trans rfl)
theorem QQd {P:Program} {ρ:Operand→Value} {o:Oper} {f x:Operand} {lo:Nat} {V:Value} {R:Next} {w:World}(hl:(Instr.yield lo #[V]).run P w=.ok R w)(ho:o.op=.call { callee:=.value f,args:=#[x],argTypes:=#[30] }:=by exact rfl)(hf:ρ f=.func (.yield lo) #[] #[]:=by kernel_rfl)(hx:ρ x=V:=by kernel_rfl):(execOp ρ o).run P w=.ok R w:=by
 unfold execOp
 simp[ho,hf,hx,resolve,Deferred.ofValue,invoke,Sem.run_bind,Sem.run_pure,hl,Result.andThen_ok]
structure ConF (Zs lb lo:Nat)(rec:Loop)(w:World)(vl:Value)(l:List Cy):Prop where
 box:Row w lb 82 #[vl]
 own:w.ownsRow Zs 30 4 vl l.length (Qb l)
 lop:w.heap[lo]? = some (.loop rec)
theorem ConF.kept {S:Nat→Prop} {Zs lb lo:Nat} {rec:Loop} {w w':World} {vl:Value} {l:List Cy}(h:ConF Zs lb lo rec w vl l)(k:Kept S w w')(h1:¬S lb)(h2:¬S lo)(h3:∀ b,vl.ownBlock=some b→¬S b):ConF Zs lb lo rec w' vl l :=
 ⟨k.row h.box h1,k.own h.own h3,(k.block lo (Array.getElem?_eq_some_iff.1 h.lop).1 h2).trans h.lop⟩
def QJC (c:Cy)(l:List Cy):List Cy:=if c.kind=7 then l else l++[c]
def RS (J lb lo:Nat)(vl:Value)(b:Nat):Prop:=b=J∨b=lb∨b=lo∨vl.ownBlock=some b
def CS (J lb lo:Nat)(ob:Option Nat)(b:Nat):Prop:=b=J∨b=lb∨b=lo∨ob=some b
def QVH (B J Zs lb lo:Nat)(rec:Loop)(Z:World)(ob0:Option Nat):Prop:=∀ (W:World) (c:Cy) (g:Rg) (M P:Value) (ob:Option Nat) (m:List (Int×Int)) (p:List Int) (k n:Int) (vl:Value) (l:List Cy),
 Kept (CS J lb lo ob0) Z W→Jny B J W g M P ob m p k n→ConF Zs lb lo rec W vl l→Zs≤W.heap.size→l.length≤300→(0≤n∧n≤1000000)→(0≤c.t∧c.t≤7)→(∀ b,ob=some b→b≠lb∧b≠lo∧vl.ownBlock≠some b) →
 YieldAt Fence.wide 0 Tryz.prog lo #[cyV c] W fun e W'=>e=.returned (.bool true)∧∃ vl',Jny B J W' g M P ob m p k (n+c.t)∧ConF Zs lb lo rec W' vl' (QJC c l)∧Kept (RS J lb lo vl) W W'∧NewR W vl.ownBlock vl'.ownBlock
theorem QOK (c:Cy)(b:Int)(l:List Cy):QJC (jE c b) l=QG7 c b l:=by
 unfold QJC QG7
 rw[QCD]
theorem QEM (c:Cy)(b:Int):jE c b=if QAd c.kind=true then c else { c with data:=b }:=by
 unfold jE QAd
 by_cases h3:c.kind=3
 · rw[if_pos (.inl h3),if_pos (by simp[h3])]
 · by_cases h5:c.kind=5
   · rw[if_pos (.inr h5),if_pos (by simp[h5])]
   · rw[if_neg (by omega),if_neg (by simp[h3,h5])]
structure GoX where
 x:Sx
 M:Value
 P:Value
 ob:Option Nat
 vl:Value
 vg:Value
 y:Nat→Value
def goB (lo B1 B2 B3:Nat)(x:GoX):List Value:=[.func (.yield lo) #[] #[],pT B1 0,pT B2 0,pT B3 0,x.y 4,x.vg,x.y 6,x.y 7,x.y 8,x.y 9,x.y 10,x.y 11,x.y 12,x.y 13,x.y 14,x.y 15,x.y 16,x.y 17,x.y 18,x.y 19,x.y 20,x.y 21,x.y 22,x.y 23,x.y 24,x.y 25,x.y 26,x.y 27,x.y 28,x.y 29,x.y 30,x.y 31,x.y 32,x.y 33,x.y 34,x.y 35,x.y 36,x.y 37,x.y 38,x.y 39,x.y 40,x.y 41,x.y 42,x.y 43,x.y 44,x.y 45,x.y 46]
structure GoI (B J Zs lb lo:Nat)(rec:Loop)(Z:World)(g:Rg)(which v:Int)(ob0:Option Nat)(k n:Int)(mlen:Nat)(X:Sx)(q:GoX)(W:World):Prop where
 go:goS g which v (200-q.x.got.length) q.x=X
 len:q.x.got.length≤200
 llen:q.x.l.length≤q.x.got.length
 jny:Jny B J W g q.M q.P q.ob q.x.m q.x.p k (n+q.x.n)
 con:ConF Zs lb lo rec W q.vl q.x.l
 own:W.ownsRow Zs 5 1 q.vg q.x.got.length (bvs q.x.got)
 kept:Kept (CS J lb lo ob0) Z W
 new:NewR Z ob0 q.ob
 ap1:∀ b,q.ob=some b→q.vl.ownBlock≠some b
 ap2:∀ b,q.ob=some b→q.vg.ownBlock≠some b
 ap3:∀ b,q.vg.ownBlock=some b→q.vl.ownBlock≠some b
 ok:OkS q.x
 n0:0≤q.x.n
 n7:q.x.n≤7*q.x.got.length
 ml:q.x.m.length≤mlen+q.x.got.length
theorem Jny.regs {B J:Nat} {w:World} {g:Rg} {M P:Value} {ob:Option Nat} {m:List (Int×Int)} {p:List Int} {k n:Int}(h:Jny B J w g M P ob m p k n):w.rangeAt J 0 (JO g).toList:=by
 intro j u hu
 rw[Nat.zero_add,h.row.cell j]
 have hj:j < 20:=(List.getElem?_eq_some_iff.1 hu).1
 have e:(Xs g M P k n)[j]? = (JO g).toList[j]?:=by
  have:(Xs g M P k n)=((JO g).toList++[M,P,.int .i64 k,.int .i64 n]).toArray:=rfl
  rw[this,List.getElem?_toArray,List.getElem?_append_left (by exact hj)]
 rw[e];exact hu
section
variable {B J Zs lb lo:Nat} {rc:Loop} {Z:World} {g:Rg} {which v:Int} {ob0:Option Nat} {k n:Int} {mlen:Nat} {X:Sx}
theorem CS.low (hB:B≤Zs)(hJ:B≤J)(hlb:B≤lb)(hlo:B≤lo)(hob:∀ b,ob0=some b→B≤b):∀ b,CS J lb lo ob0 b→B≤b:=fun b e=>by
 rcases e with rfl|rfl|rfl|e
 · exact hJ
 · exact hlb
 · exact hlo
 · exact hob b e
theorem Tabs.up {w:World} {B B':Nat}(h:Tabs w B)(k:B≤B'):Tabs w B':=⟨h.masks,h.courses,h.digits,h.modes,Nat.lt_of_lt_of_le h.gMasks k,Nat.lt_of_lt_of_le h.gCourses k,Nat.lt_of_lt_of_le h.gDigits k,Nat.lt_of_lt_of_le h.gModes k⟩
theorem QRt {x:Sx}(hgo:goS g which v (200-x.got.length) x=X)(hb:(J5 g which x.got).b=true∨x.got.length=200):x=X:=by
 rcases hb with hb|hb
 · cases hk:200-x.got.length with
   | zero=>rw[hk] at hgo;exact hgo
   | succ j=>rw[hk,goS,if_pos hb] at hgo;exact hgo
 · rw[hb] at hgo;exact hgo
theorem QTY {x:Sx}(hgo:goS g which v (200-x.got.length) x=X)(hb:(J5 g which x.got).b=false)(hl:x.got.length < 200):goS g which v (200-(QQ (J5 g which x.got).c v x).got.length) (QQ (J5 g which x.got).c v x)=X:=by
 obtain⟨j,hj⟩:∃ j,200-x.got.length=j+1:=⟨199-x.got.length,by omega⟩
 rw[hj,goS,if_neg (by rw[hb];simp)] at hgo
 have e:(QQ (J5 g which x.got).c v x).got.length=x.got.length+1:=by simp[QQ]
 rw[e,show 200-(x.got.length+1)=j by omega]
 exact hgo
theorem QUQ (c:Cy)(b:Int):(jE c b).t=c.t:=by unfold jE;split<;>rfl
theorem QTh (c:Cy)(b:Int)(l:List Cy):(QG7 c b l).length≤l.length+1:=by
 unfold QG7
 split<;>simp
theorem NewR.trans {a b:World} {o1 o2 o3:Option Nat}(h:NewR a o1 o2)(k:NewR b o2 o3)(hs:a.heap.size≤b.heap.size):NewR a o1 o3:=by
 rcases k with rfl|⟨y,e,hy⟩
 · exact h
 · exact .inr ⟨y,e,by omega⟩
theorem NewR.ge {w:World} {o1 o2:Option Nat}(h:NewR w o1 o2){b:Nat}(e:o2=some b):o1=some b∨w.heap.size≤b:=by
 rcases h with rfl|⟨y,e2,hy⟩
 · exact .inl e
 · rw[e2] at e;injection e with e;subst e;exact .inr hy
theorem QTL {k:Nat}(h:((k:Int)==200)=true):k=200:=by
 have:(k:Int)=200:=by simpa using h
 omega
theorem QRu (hA:zM)(hg:RgB g)(hv:B8 v){M P:Value} {m:List (Int×Int)} {p:List Int}(B1 B2 B3:Nat)(hZs:Zs=Z.heap.size)
 (r1:Row Z B1 154 #[pT J 0])(r2:Row Z B2 3 #[.int .i64 which])(r3:Row Z B3 5 #[.int .u8 v])
 (n1:¬CS J lb lo ob0 B1)(n2:¬CS J lb lo ob0 B2)(n3:¬CS J lb lo ob0 B3)(hlb:lb < Zs)(hlo:lo < Zs)(hJl:J≠lb∧J≠lo)(hob:∀ b,ob0=some b→b≠lb∧b≠lo)
 (hBlb:B≤lb)(hBlo:B≤lo)(h:Jny B J Z g M P ob0 m p k n)(hc:ConF Zs lb lo rc Z (.slice none 0 0) [])(hn:0≤n∧n≤900000)(hm:m.length≤800000)(hm16:Jk m)(hp8:Bytes8 p)(ht:Tabs Z B)
 (hY:QVH B J Zs lb lo rc Z ob0):Calls Tryz.prog 124 #[.func (.yield lo) #[] #[],pT B1 0,pT B2 0,pT B3 0] Z fun e W=>e=.returned (.tuple #[])∧∃ M' P' ob' vl',Jny B J W (ju g which (goS g which v 200 ⟨[],m,p,[],0⟩)) M' P' ob' (goS g which v 200 ⟨[],m,p,[],0⟩).m (goS g which v 200 ⟨[],m,p,[],0⟩).p k (n+(goS g which v 200 ⟨[],m,p,[],0⟩).n)∧ConF Zs lb lo rc W vl' (goS g which v 200 ⟨[],m,p,[],0⟩).l∧Kept (CS J lb lo ob0) Z W∧NewR Z ob0 ob':=by
 obtain⟨X,hX⟩:∃ X,X=goS g which v 200 ⟨[],m,p,[],0⟩:=⟨_,rfl⟩
 rw[←hX]
 have hJ:=h.row.lt
 have hBZ:=h.lt
 have hCS:∀ b,CS J lb lo ob0 b→B≤b:=CS.low (by omega) h.low hBlb hBlo fun b e=>(h.mem.lt b e).1
 go_enter Tryz.func124,Tryz.ntmps124
 refine JA<|qQ [] (Many.begin Z) fun z1 kz=>coB<|jA (goB lo B1 B2 B3) (GoI B J Zs lb lo rc Z g which v ob0 k n m.length X) (fun q=>201-q.x.got.length) (fun y=>⟨⟨[],m,p,[],0⟩,M,P,ob0,.slice none 0 0,.slice none 0 0,y⟩) ?_ ?_
 · have hb:=kz.touch.below
   exact⟨hX.symm,Nat.zero_le _,Nat.le_refl _,by show Jny B J z1 g M P ob0 m p k (n+0);rw[Int.add_zero];exact h.bel hb,hc.kept (S:=fun _=>False) (.of_below hb) (fun e=>e) (fun e=>e) (fun _ _ e=>e),World.ownsRow_nil ..,.of_below hb,.inl rfl,fun _ _ e=>(by cases e),fun _ _ e=>(by cases e),fun _ e=>(by cases e),⟨fun x hx=>(by cases hx),hm16,hp8⟩,Int.le_refl _,by simp,by simp⟩
 clear kz
 rintro ⟨x,M,P,ob,vl,vg,y⟩ W ⟨hgo,hlen,hll,hj,hcon,hown,hkept,hnew,a1,a2,a3,hok,hn0,hn7,hml⟩
 dsimp only at hgo hlen hll hj hcon hown hkept hnew a1 a2 a3 hok hn0 hn7 hml
 have hsz:=hkept.size
 have q1:Row W B1 154 #[pT J 0]:=hkept.row r1 n1
 have q2:Row W B2 3 #[.int .i64 which]:=hkept.row r2 n2
 have q3:Row W B3 5 #[.int .u8 v]:=hkept.row r3 n3
 have l1:=r1.lt
 have l2:=r2.lt
 have l3:=r3.lt
 have htW:Tabs W B:=ht.keep fun b hb=>hkept.block b (by omega) fun e=>by have:=hCS b e;omega
 obtain⟨T,hT⟩:∃ T,T=J5 g which x.got:=⟨_,rfl⟩
 obtain⟨Av,cv,rfl,hcv,hbg,hnn⟩:=QAY hown
 have KN:∀ W',Below W.heap.size W W'→Calls Tryz.prog 125 #[JM g,.int .i64 which,.slice Av x.got.length cv] W' fun e w'=>e=.returned T.v∧Below W'.heap.size W' w':=fun W' hb=>by
  rw[hT]
  exact QLO g hg which Av cv x.got hcv hok.got (by omega) W' ((hbg.below hb).more hb.size) ((htW.up (by omega)).below hb)
 obtain⟨c,s,d⟩:=T
 have hc1:(J5 g which x.got).c=c:=by rw[←hT]
 have hs1:(J5 g which x.got).g=s:=by rw[←hT]
 have hd1:(J5 g which x.got).b=d:=by rw[←hT]
 have done:∀ {W':World},(d=true∨x.got.length=200)→(∃ M' P' ob',Jny B J W' (ju g which x) M' P' ob' x.m x.p k (n+x.n)∧ConF Zs lb lo rc W' vl x.l∧Kept (CS J lb lo ob0) Z W'∧NewR Z ob0 ob')→(Ending.returned (.tuple #[])=Ending.returned (.tuple #[]))∧∃ M' P' ob' vl',Jny B J W' (ju g which X) M' P' ob' X.m X.p k (n+X.n)∧ConF Zs lb lo rc W' vl' X.l∧Kept (CS J lb lo ob0) Z W'∧NewR Z ob0 ob':=fun hd ⟨M',P',ob',e1,e2,e3,e4⟩=>by
  have:=QRt hgo (by rw[hd1];exact hd)
  rw[←this]
  exact⟨rfl,M',P',ob',vl,e1,e2,e3,e4⟩
 refine coB<|QWB [(some 11,.val (pT J 0)),(some 12,.val (pT J 0)),(some 13,.val (pT J 0)),(some 14,.val (JM g)),(some 15,.val (.int .i64 which)),(some 16,.val (.slice Av x.got.length cv)),(some 17,.call (.tuple #[cyV c,JM s,.bool d])),(some 10,.val (.tuple #[cyV c,JM s,.bool d])),(some 18,.val (cyV c)),(some 19,.val (JM s)),(some 20,.val (.bool d)),(some 6,.box 30 (cyC JN) (some (13,cyC c)) none),(some 7,.box 24 (JO Jf) (some (14,JO s)) none),(none,.put 11),(none,.put 12),(some 8,.val (.bool d))]
  ⟨fun p l a w I hd=>zz rfl (by kernel_rfl) (jg ((q1.below I.below q1.lt).cell 0)),fun p l a w I hd=>QDc rfl (by kernel_rfl) w,fun p l a w I hd=>X8 (V:=pT J 0) rfl (by kernel_rfl) (fun w=>by kernel_rfl) w,fun p l a w I hd=>zz rfl (by kernel_rfl) (ldR (hj.bel I.below).regs),fun p l a w I hd=>zz rfl (by kernel_rfl) (jg ((q2.below I.below q2.lt).cell 0)),fun p l a w I hd=>Q7 (.inl rfl) (by kernel_rfl) w,fun p l a w I hd=>⟨_,_,(by kernel_rfl),KN w I.below⟩,fun p l a w I hd=>Q7 (.inl rfl) (by kernel_rfl) w,fun p l a w I hd=>Qp (vs:=#[cyV c,JM s,.bool d]) rfl (by kernel_rfl) (by kernel_rfl) w,fun p l a w I hd=>Qp (vs:=#[cyV c,JM s,.bool d]) rfl (by kernel_rfl) (by kernel_rfl) w,fun p l a w I hd=>Qp (vs:=#[cyV c,JM s,.bool d]) rfl (by kernel_rfl) (by kernel_rfl) w,⟨fun k vs e=>(by cases e;rfl),fun p l a w I hd=>Q3 rfl (QAe w)⟩,⟨fun k vs e=>(by cases e;rfl),fun p l a w I hd=>Q3 rfl (QDv w)⟩,fun p l a w I hd d t z s vs hj hr=>(by cases hj;exact Qu rfl (by kernel_rfl) (by kernel_rfl) (QHO hr)),fun p l a w I hd d t z s vs hj hr=>(by cases hj;exact Qu rfl (by kernel_rfl) (by kernel_rfl) (QJk hr)),fun p l a w I hd=>Q7 (.inr rfl) (by kernel_rfl) w,trivial⟩ fun q wc hE=>?_
 have hCb:=hE.2.1 11 _ _ _ _ _ rfl
 have hSb:=hE.2.1 12 _ _ _ _ _ rfl
 have hbc:=hE.1
 clear hE KN
 have hT0:∀ {R:Ending→World→Prop},(∀ w,¬R .outgrown w)→Tame (bodyPost Tryz.prog Tryz.f124 R):=fun hR a w h=>hR w h
 have jc:=hj.bel hbc
 have ownW:=hown.lt
 have conW:=hcon.own.lt
 have memW:=hj.mem.lt
 have hbW:=hbc.size
 have obZ:∀ b,ob=some b→b≠lb∧b≠lo:=fun b e=>by
  rcases hnew.ge e with e|e
  · exact hob b e
  · exact⟨by omega,by omega⟩
 have conc:ConF Zs lb lo rc wc vl x.l:=hcon.kept (S:=fun _=>False) (.of_below hbc) (fun e=>e) (fun e=>e) (fun _ _ e=>e)
 have keptc:Kept (CS J lb lo ob0) Z wc:=hkept.trans (Kept.of_below (S:=CS J lb lo ob0) hbc) (fun _ e=>e) (fun _ _ e=>e)
 refine coS<|qQ [] (Many.begin wc) fun wd kd=>coI d (fun hd=>?_) fun hd=>JC<|eoT<|coS<|qQ [] kd fun we ke=>coI ((x.got.length:Int)==200) (fun h200=>?_) fun h200=>JC<|eoT<|?_
 · have hbd:=kd.touch.below
   have jd:=jc.bel hbd
   refine coR<|wM (Jc (jg (((q1.below hbc q1.lt).below hbd (Nat.lt_of_lt_of_le q1.lt hbc.size)).cell 0)))<|wM (Jc (ldR (hSb.2.below hbd hSb.2.lt).range))<|qE [0] (Many.start jd.row) fun we ke=>JE<|Je<|QG<|Je<|QG<|QE5 (done (.inl hd) ⟨M,P,ob,?_,?_,?_,hnew⟩)
   · have e:ju g which x=s:=by unfold ju;rw[if_pos (hd1.trans hd),hs1]
     rw[e]
     have qk:Kept (fun b=>b=J) wd we:=(Kept.of_touch ke.touch).mono fun b _ e=>List.mem_singleton.1 e
     exact⟨ke.row 0 (Xs s M P k (n+x.n)).toList (by kernel_rfl),jd.low,jd.mem.kept qk jd.lt (fun b e=>e▸jd.low) fun b e x=>jd.off (x▸e),jd.off,jd.por.kept qk jd.lt fun b e=>e▸jd.low⟩
   · have qk:Kept (fun b=>b=J) wd we:=(Kept.of_touch ke.touch).mono fun b _ e=>List.mem_singleton.1 e
     exact (conc.kept (S:=fun _=>False) (.of_below hbd) (fun e=>e) (fun e=>e) (fun _ _ e=>e)).kept qk (fun e=>hJl.1 e.symm) (fun e=>hJl.2 e.symm) fun b e x=>by have:=(conW b e).1;omega
   · exact (keptc.trans (Kept.of_below (S:=CS J lb lo ob0) hbd) (fun _ e=>e) (fun _ _ e=>e)).trans (Kept.of_touch ke.touch) (fun _ e=>e) fun b _ e=>.inl (List.mem_singleton.1 e)
 · have hbe:=ke.touch.below
   refine JE<|Je<|QG<|Je<|QG<|QE5 (done (.inr (QTL h200)) ⟨M,P,ob,?_,?_,?_,hnew⟩)
   · have e:ju g which x=g:=by unfold ju;rw[if_neg (by rw[hd1,hd];simp)]
     rw[e]
     exact jc.bel hbe
   · exact conc.kept (S:=fun _=>False) (.of_below hbe) (fun e=>e) (fun e=>e) (fun _ _ e=>e)
   · exact keptc.trans (Kept.of_below (S:=CS J lb lo ob0) hbe) (fun _ e=>e) (fun _ _ e=>e)
 have hlt:x.got.length < 200:=by
  have:¬(x.got.length:Int)=200:=by simpa using h200
  omega
 have hbe:=ke.touch.below
 have je:=jc.bel hbe
 have hB8:B8 (qc c v x.m x.p):=QLk hok c hv
 obtain⟨b,hb⟩:∃ b,b=qc c v x.m x.p:=⟨_,rfl⟩
 have hse:=hbe.size
 have rC:Row we (q 11) 30 (cyC c):=hCb.2.below hbe hCb.2.lt
 have gC:=hCb.1
 have hd1':(J5 g which x.got).b=false:=by rw[hd1];exact hd
 have ht:=QUO g which x.got hd1'
 rw[hc1] at ht
 have KA:=QIZ je c v (by omega)
 rw[←hb] at KA
 rw[←hb] at hB8
 refine coR<|wM (Jc (jg (((q1.below hbc q1.lt).below hbe (Nat.lt_of_lt_of_le q1.lt hbc.size)).cell 0)))<|wM (Jc (QGC rC))<|wM (Jc (jg (((q3.below hbc q3.lt).below hbe (Nat.lt_of_lt_of_le q3.lt hbc.size)).cell 0)))<|kX KA fun e wf ⟨he,M',P',ob',hj',qa,hna⟩=>⟨_,he,qE [] (Many.begin wf) fun wg kg=>coR<|qR 3 [] (Many.begin wg) fun wh kh=>?_⟩
 have hsf:=qa.size
 have hbh:=kh.touch.below
 have hbg':=kg.touch.below
 have hsg:=hbg'.size
 have hsh:=hbh.size
 have rN:Row wh wg.heap.size 5 #[.int .u8 b]:=kh.row 0 [.int .u8 b] (by kernel_rfl)
 have js:∀ y,JS J ob y→y < W.heap.size∧y≠lb∧y≠lo:=fun y e=>by
  rcases e with rfl|e
  · exact⟨by omega,hJl.1,hJl.2⟩
  · exact⟨(memW y e).2,obZ y e⟩
 have vlJS:∀ y,vl.ownBlock=some y→¬JS J ob y:=fun y e c=>by
  rcases c with rfl|c
  · have:=(conW _ e).1;omega
  · exact a1 y c e
 have vgJS:∀ y,(Value.slice Av x.got.length cv).ownBlock=some y→¬JS J ob y:=fun y e c=>by
  rcases c with rfl|c
  · have:=(ownW _ e).1;omega
  · exact a2 y c e
 -- behind the answer,up to the append
 have jh:Jny B J wh g M' P' ob' (Zj c x.m) (jP c x.p) k (n+x.n):=(hj'.bel hbg').bel hbh
 have cone:ConF Zs lb lo rc we vl x.l:=conc.kept (S:=fun _=>False) (.of_below hbe) (fun e=>e) (fun e=>e) (fun _ _ e=>e)
 have conf:=cone.kept qa (fun e=>(js _ e).2.1 rfl) (fun e=>(js _ e).2.2 rfl) vlJS
 have bfh:Below wf.heap.size wf wh:=hbg'.trans (hbh.mono hsg)
 have conh:ConF Zs lb lo rc wh vl x.l:=conf.kept (S:=fun _=>False) (.of_below bfh) (fun e=>e) (fun e=>e) (fun _ _ e=>e)
 have owne:=own_below (own_below hown hbc) hbe
 have ownh:=own_below (qa.own owne vgJS) bfh
 have rCh:Row wh (q 11) 30 (cyC c):=(qa.row rC fun e=>by have:=(js _ e).1;omega).below bfh (by have:=(qa.row rC fun e=>by have:=(js _ e).1;omega).lt;omega)
 have kepte:Kept (CS J lb lo ob0) Z we:=keptc.trans (Kept.of_below (S:=CS J lb lo ob0) hbe) (fun _ e=>e) (fun _ _ e=>e)
 have kepth:Kept (CS J lb lo ob0) Z wh:=(kepte.trans qa (fun _ e=>e) fun y hy e=>by
  rcases e with rfl|e
  · exact .inl rfl
  · rcases hnew.ge e with e|e
    · exact .inr (.inr (.inr e))
    · omega).trans (Kept.of_below (S:=CS J lb lo ob0) bfh) (fun _ e=>e) (fun _ _ e=>e)
 have obL:=hj'.mem.lt
 refine QTj (.tmp 33) (.tmp 35) 26 5 1 1 (.int .u8 0) Zs (.slice Av x.got.length cv) x.got.length (bvs x.got) ⟨wg.heap.size,0,none⟩ 1 1 [.int .u8 b] (by omega) ownh rfl rN.values (fun u hu=>by rw[List.mem_singleton.1 hu];rfl) (by omega) (by omega) fun vg' wi own' gr hng=>qE [] (Many.begin wi) fun wj kj=>?_
 have hsi:=gr.size
 have hbj:=kj.touch.below
 have hsj:=hbj.size
 have qg:=Kept.of_grown gr
 have vgS:∀ y,(Value.slice Av x.got.length cv).ownBlock=some y→Zs≤y∧y < W.heap.size:=ownW
 have rCj:Row wj (q 11) 30 (cyC c):=(qg.row rCh fun e=>by have:=(vgS _ e).2;omega).below hbj (by have:=(qg.row rCh fun e=>by have:=(vgS _ e).2;omega).lt;omega)
 have jj:Jny B J wj g M' P' ob' (Zj c x.m) (jP c x.p) k (n+x.n):=(jh.kept qg (fun y e=>by have:=(vgS y e).1;omega) (fun e=>by have:=(vgS _ e).1;omega) fun y e c=>by
  rcases hna.ge e with e|e
  · exact a2 y e c
  · have:=(vgS y c).2;omega).bel hbj
 have conj:ConF Zs lb lo rc wj vl x.l:=(conh.kept qg (fun e=>by have:=(vgS _ e).1;omega) (fun e=>by have:=(vgS _ e).1;omega) fun y e c=>a3 y c e).kept (S:=fun _=>False) (.of_below hbj) (fun e=>e) (fun e=>e) (fun _ _ e=>e)
 have ownj:wj.ownsRow Zs 5 1 vg' (x.got.length+1) (bvs (x.got++[b])):=by
  have e:bvs x.got++[.int .u8 b]=bvs (x.got++[b]):=by simp[bvs]
  rw[e] at own'
  exact own_below own' hbj
 have keptj:Kept (CS J lb lo ob0) Z wj:=(kepth.trans qg (fun _ e=>e) fun y hy e=>by have:=(vgS y e).1;omega).trans (Kept.of_below (S:=CS J lb lo ob0) hbj) (fun _ e=>e) (fun _ _ e=>e)
 have vgJ:=ownj.lt
 refine coS<|coR<|qR 1 [] (Many.begin wj) fun wk kk=>?_
 have rCk:Row wk (q 11) 30 (cyC c):=rCj.below kk.touch.below rCj.lt
 refine wM (Jc (jg (rCk.cell 0)))<|qC (QIX c.kind wk) kk fun wl kl=>qE [] kl fun wm km=>?_
 have hbm:=km.touch.below
 have hsm:=hbm.size
 have rCm:Row wm (q 11) 30 (cyC c):=rCj.below hbm rCj.lt
 have hTm:∀ {R:Ending→World→Prop} {N:Act→World→Prop},(∀ w,¬R .outgrown w)→Tame (Exit.inBlock 1 (Exit.then N (Exit.inBlock 0 (bodyPost Tryz.prog Tryz.f124 R)))):=fun hR=>(Tame.thn (Tame.blk (hT0 hR))).blk
 have hNg:∀ w:World,¬(Ending.outgrown=Ending.returned (.tuple #[])∧∃ M' P' ob' vl',Jny B J w (ju g which X) M' P' ob' X.m X.p k (n+X.n)∧ConF Zs lb lo rc w vl' X.l∧Kept (CS J lb lo ob0) Z w∧NewR Z ob0 ob'):=fun w h=>by cases h.1
 have gq:W.heap.size≤q 11:=gC
 have obN:∀ y,ob'=some y→y < wf.heap.size:=fun y e=>(obL y e).2
 have vgN:∀ y,vg'.ownBlock=some y→Zs≤y∧y < wj.heap.size:=vgJ
 have fin:∀ (wn:World),Kept (fun y=>y=q 11) wm wn→Row wn (q 11) 30 (cyC (jE c b))→(Jny B J wn g M' P' ob' (Zj c x.m) (jP c x.p) k (n+x.n)∧ConF Zs lb lo rc wn vl x.l∧wn.ownsRow Zs 5 1 vg' (x.got.length+1) (bvs (x.got++[b]))∧Kept (CS J lb lo ob0) Z wn∧wm.heap.size≤wn.heap.size) ∧
  YieldAt Fence.wide 0 Tryz.prog lo #[cyV (jE c b)] wn fun e wo=>e=.returned (.bool true)∧∃ vl',∀ (wp:World) (y:Nat→Value),Below wo.heap.size wo wp→GoI B J Zs lb lo rc Z g which v ob0 k n m.length X ⟨QQ c v x,M',P',ob',vl',vg',y⟩ wp:=fun wn kn hrn=>by
  have hsn:=kn.size
  have lC:=rCm.lt
  have lCe:=rC.lt
  have jn:Jny B J wn g M' P' ob' (Zj c x.m) (jP c x.p) k (n+x.n):=(jj.bel hbm).kept kn (fun y e=>by omega) (fun e=>by omega) fun y e c=>by
   have c:y=q 11:=c
   rcases hna.ge e with e|e
   · have:=(memW y e).2
     omega
   · omega
  have conn:ConF Zs lb lo rc wn vl x.l:=(conj.kept (S:=fun _=>False) (.of_below hbm) (fun e=>e) (fun e=>e) (fun _ _ e=>e)).kept kn (fun e=>by omega) (fun e=>by omega) fun y e c=>by
   have:=(conW y e).2
   omega
  have ownn:wn.ownsRow Zs 5 1 vg' (x.got.length+1) (bvs (x.got++[b])):=kn.own (own_below ownj hbm) fun y e c=>by
   have c:y=q 11:=c
   rcases hng.ge e with e|e
   · have:=(vgS y e).2
     omega
   · omega
  have keptn:Kept (CS J lb lo ob0) Z wn:=(keptj.trans (Kept.of_below (S:=CS J lb lo ob0) hbm) (fun _ e=>e) (fun _ _ e=>e)).trans kn (fun _ e=>e) fun y hy e=>by
   have e:y=q 11:=e
   omega
  refine⟨⟨jn,conn,ownn,keptn,hsn⟩,?_⟩
  have apn:∀ y,ob'=some y→y≠lb∧y≠lo∧vl.ownBlock≠some y:=fun y e=>by
   rcases hna.ge e with e|e
   · exact⟨(obZ y e).1,(obZ y e).2,a1 y e⟩
   · exact⟨by omega,by omega,fun c=>by have:=(conW y c).2;omega⟩
  obtain⟨fn,tmps,assign,body,hy,hR⟩:=hY wn (jE c b) g M' P' ob' (Zj c x.m) (jP c x.p) k (n+x.n) vl x.l keptn jn conn (by omega) (by omega) ⟨by omega,by omega⟩ (by rw[QUQ];omega) apn
  refine⟨fn,tmps,assign,body,hy,hR.mono fun e wo ⟨he,vl',e1,e2,e3,e4⟩=>⟨he,vl',fun wp y hb'=>?_⟩⟩
  have e5:QQ (J5 g which x.got).c v x=QQ c v x:=by rw[hc1]
  have hgl:(QQ c v x).got=x.got++[b]:=by rw[hb];rfl
  have hnl:(QQ c v x).got.length=x.got.length+1:=by rw[hgl];simp
  have hso:=e3.size
  have rsN:∀ y,RS J lb lo vl y→y=J∨y=lb∨y=lo∨(Zs≤y∧y < W.heap.size):=fun y e=>by
   rcases e with e|e|e|e
   · exact .inl e
   · exact .inr (.inl e)
   · exact .inr (.inr (.inl e))
   · exact .inr (.inr (.inr (conW y e)))
  have vgRS:∀ y,vg'.ownBlock=some y→¬RS J lb lo vl y:=fun y e c=>by
   have h1:=(vgN y e).1
   rcases c with c|c|c|c
   · omega
   · omega
   · omega
   · rcases hng.ge e with e|e
     · exact a3 y e c
     · have:=(conW y c).2
       omega
  refine⟨?_,by show (QQ c v x).got.length≤200;omega,?_,?_,?_,?_,?_,?_,?_,?_,?_,?_,?_,?_,?_⟩
  · have:=QTY hgo hd1' hlt
    rwa [e5] at this
  · show (QQ c v x).l.length≤(QQ c v x).got.length
    have:=QTh c (qc c v x.m x.p) x.l
    rw[hnl]
    exact Nat.le_trans this (by omega)
  · have:n+x.n+(jE c b).t=n+(QQ c v x).n:=by rw[QUQ];show _=n+(x.n+c.t);omega
    rw[this] at e1
    exact e1.bel hb'
  · have:QJC (jE c b) x.l=(QQ c v x).l:=by rw[QOK,hb];rfl
    rw[this] at e2
    exact e2.kept (S:=fun _=>False) (.of_below hb') (fun e=>e) (fun e=>e) (fun _ _ e=>e)
  · show wp.ownsRow Zs _ 1 vg' (QQ c v x).got.length (bvs (QQ c v x).got)
    rw[hnl,hgl]
    exact own_below (e3.own ownn vgRS) hb'
  · exact (keptn.trans e3 (fun _ e=>e) fun y hy e=>by
     rcases rsN y e with e|e|e|e
     · exact .inl e
     · exact .inr (.inl e)
     · exact .inr (.inr (.inl e))
     · omega).trans (Kept.of_below (S:=CS J lb lo ob0) hb') (fun _ e=>e) (fun _ _ e=>e)
  · exact hnew.trans (hna.trans (.inl rfl) (Nat.le_refl _)) (by omega)
  · intro y ey c
    have ey:ob'=some y:=ey
    have c:vl'.ownBlock=some y:=c
    rcases e4.ge c with c|c
    · exact (apn y ey).2.2 c
    · have:=obN y ey;omega
  · intro y ey c
    have ey:ob'=some y:=ey
    have c:vg'.ownBlock=some y:=c
    have:=obN y ey
    rcases hng.ge c with c|c
    · rcases hna.ge ey with ey|ey
      · exact a2 y ey c
      · have:=(vgS y c).2;omega
    · omega
  · intro y ey c
    have ey:vg'.ownBlock=some y:=ey
    have c:vl'.ownBlock=some y:=c
    rcases e4.ge c with c|c
    · exact vgRS y ey (.inr (.inr (.inr c)))
    · have:=(vgN y ey).2;omega
  · exact hok.next (by have:=(hA g which x.got hg hok.got).2 hd1';rwa [hc1] at this) hv
  · show 0≤x.n+c.t
    omega
  · show x.n+c.t≤7*((QQ c v x).got.length:Int)
    rw[hnl];push_cast;omega
  · show (Zj c x.m).length≤m.length+(QQ c v x).got.length
    have:=QIH c x.m
    rw[hnl];omega
 refine coI (!(QAd c.kind)) (fun hw=>coZ<|qF [0] (Many.start rCm) fun wn kn=>eoT ?_) fun hw=>JC<|eoT ?_
 · have kq:Kept (fun y=>y=q 11) wm wn:=(Kept.of_touch kn.touch).mono fun y _ e=>List.mem_singleton.1 e
   have rowN:Row wn (q 11) 30 (cyC (jE c b)):=by
    have e:jE c b={ c with data:=b }:=by rw[QEM,if_neg (by simpa using hw)]
    rw[e]
    exact kn.row 0 (cyC { c with data:=b }).toList (by kernel_rfl)
   obtain⟨⟨jn,conn,ownn,keptn,hsn⟩,fn,tmps,assign,body,hy,hR⟩:=fin wn kq rowN
   exact QO2 0<|QTC<|wiM QJ (V:=.func (.yield lo) #[] #[]) (w':=wn) (by kernel_rfl)<|wiM QJ (Jc (QGC rowN))<|wiY QJ hR (fun e wo ⟨he,vl',hI⟩=>⟨_,he,wiW QJ (hTm hNg).thn (qF [] (Many.begin wo) fun wp kp=>QFb<|ciF<|QFD<|eiE<|eoB<|Qf (fun y=>⟨QQ c v x,M',P',ob',vl',vg',y⟩) (hI wp _ kp.touch.below) (by show 201-(QQ c v x).got.length < 201-x.got.length;simp[QQ];omega))⟩) (QQd hy)
 · obtain⟨wn,rfl⟩:∃ wn,wn=wm:=⟨_,rfl⟩
   have kq:Kept (fun y=>y=q 11) wn wn:=.refl ..
   have rowN:Row wn (q 11) 30 (cyC (jE c b)):=by
    have e:jE c b=c:=by rw[QEM,if_pos (by simpa using hw)]
    rw[e]
    exact rCm
   obtain⟨⟨jn,conn,ownn,keptn,hsn⟩,fn,tmps,assign,body,hy,hR⟩:=fin wn kq rowN
   exact QO2 0<|QTC<|wiM QJ (V:=.func (.yield lo) #[] #[]) (w':=wn) (by kernel_rfl)<|wiM QJ (Jc (QGC rowN))<|wiY QJ hR (fun e wo ⟨he,vl',hI⟩=>⟨_,he,wiW QJ (hTm hNg).thn (qF [] (Many.begin wo) fun wp kp=>QFb<|ciF<|QFD<|eiE<|eoB<|Qf (fun y=>⟨QQ c v x,M',P',ob',vl',vg',y⟩) (hI wp _ kp.touch.below) (by show 201-(QQ c v x).got.length < 201-x.got.length;simp[QQ];omega))⟩) (QQd hy)
end
structure zh where
 y:Nat→Value
theorem XK {P:Program} {Q:Exit→Act→World→Prop} {base:List Value} {l:JY} {w:World} {c:Code}(B:zh→List Value)(h:∀ x,CO P c Q (B x) [] w)(e:ovO base l=B ⟨Zb base l⟩:=by kernel_rfl):CO P c Q base l w:=QVE (B ⟨Zb base l⟩) (h _) e
theorem Kept.drop {S:Nat→Prop} {w w':World}(k:Kept S w w'){b:Nat} {t:TypeId} {cs:Array Value}(h:Row w b t cs)(h':Row w' b t cs):Kept (fun x=>S x∧x≠b) w w' :=
 ⟨k.os,k.tape,k.output,k.size,fun x hx n=>by
  by_cases e:x=b
  · subst e;exact Eq.trans h' (Eq.symm h)
  · exact k.block x hx fun c=>n ⟨c,e⟩⟩
theorem Kept.put {w:World} {b:Nat}(o:Obj):Kept (fun x=>x=b) w (w.putObj b o):=(Kept.of_grown (grownBy_putObj' w b o)).mono fun x _ e=>by injection e with e;exact e.symm
theorem QOI (J:Nat)(which v:Int)(W:World):Calls Tryz.prog 106 #[pT J 0,.int .i64 which,.int .u8 v] W fun e W'=>e=.returned (.func (.func 124) #[] #[pT W.heap.size 0,pT (W.heap.size+1) 0,pT (W.heap.size+2) 0])∧Row W' W.heap.size 154 #[pT J 0]∧Row W' (W.heap.size+1) 3 #[.int .i64 which]∧Row W' (W.heap.size+2) 5 #[.int .u8 v]∧Below W.heap.size W W':=by
 go_enter Tryz.func106,Tryz.ntmps106
 exact JA<|qQ [] (Many.begin W) fun w1 k1=>qQ [] k1 fun w2 k2=>JE<|JR (.func (.func 124) #[] #[pT W.heap.size 0,pT (W.heap.size+1) 0,pT (W.heap.size+2) 0]) ⟨rfl,k2.row 0 [pT J 0] (by kernel_rfl),k2.row 1 [.int .i64 which] (by kernel_rfl),k2.row 2 [.int .u8 v] (by kernel_rfl),k2.touch.below⟩
def advB (b3 lb:Nat)(which v:Int)(F:Value)(x:zh):List Value:=[x.y 0,.int .i64 which,.int .u8 v,pT b3 0,x.y 4,x.y 5,x.y 6,pT lb 0,x.y 8,x.y 9,x.y 10,x.y 11,x.y 12,x.y 13,F,x.y 15,x.y 16,x.y 17,x.y 18,x.y 19,x.y 20,x.y 21,x.y 22,x.y 23,x.y 24,x.y 25,x.y 26,x.y 27,x.y 28,x.y 29,x.y 30,x.y 31,x.y 32,x.y 33,x.y 34,x.y 35,x.y 36,x.y 37,x.y 38,x.y 39]
section
variable {B J:Nat} {W:World} {g:Rg} {which v:Int} {M P:Value} {ob:Option Nat} {m:List (Int×Int)} {p:List Int} {k n:Int}
theorem QHT (hA:zM)(hg:RgB g)(which:Int)(hv:B8 v)(h:Jny B J W g M P ob m p k n)(ht:Tabs W B)(hn:0≤n∧n≤900000)(hk:0≤k∧k≤1000)(hm:m.length≤800000)(hm16:Jk m)(hp8:Bytes8 p) :
 Calls Tryz.prog 83 #[pT J 0,.int .i64 which,.int .u8 v] W fun e W'=>∃ A c,e=.returned (.slice A (Js ⟨g,m,p⟩ which v).l.length c)∧CysIn W' W'.heap.size A (Js ⟨g,m,p⟩ which v).l∧(A=none→c=0)∧(Js ⟨g,m,p⟩ which v).l.length≤c∧(∀ q,A=some q→W.heap.size≤q.block) ∧
  ∃ M' P' ob',Jny B J W' (ju g which (Js ⟨g,m,p⟩ which v)) M' P' ob' (Js ⟨g,m,p⟩ which v).m (Js ⟨g,m,p⟩ which v).p (k+1) (n+(Js ⟨g,m,p⟩ which v).n)∧Kept (JS J ob) W W'∧NewR W ob ob':=by
 have hJ:=h.row.lt
 have hBW:=h.lt
 refine callsIn_wide.1 (callsIn_of_wp_marks (n:=0) Tryz.func83 rfl trivial ?_)
 simp only[Tryz.ntmps83,List.size_toArray,List.length_cons,List.length_nil,Nat.reduceAdd,Nat.reduceSub,Array.replicate_succ,Array.replicate_zero,List.push_toArray,List.append_toArray,List.nil_append,List.cons_append]
 refine wpIn_wide.2 (JA<|qQ [] (Many.begin W) fun w1 k1=>qQ [] k1 fun w2 k2=>coS<|coR<|qR 5 [0] k2 fun w3 k3=>kX (QOI J which v w3) fun e w4 ⟨he,r1,r2,r3,hb4⟩=>⟨_,he,qE [] (Many.begin w4) fun w5 k5=>coB<|XK (advB W.heap.size w1.heap.size which v (.func (.func 124) #[] #[pT w3.heap.size 0,pT (w3.heap.size+1) 0,pT (w3.heap.size+2) 0])) fun sl=>QO2 0 ?_⟩)
 have b3:Row w3 W.heap.size 115 #[pT J 0]:=k3.row 0 [pT J 0] (by kernel_rfl)
 have hlb1:=k1.lt 0 _ rfl
 have hlb1:W.heap.size < w1.heap.size:=hlb1
 have bl:Row w3 w1.heap.size 82 #[.slice none 0 0]:=k3.row 1 [.slice none 0 0] (by kernel_rfl)
 have hb3:=k3.touch.below
 have hb5:=k5.touch.below
 have hs3:=bl.lt
 have hs4:=hb4.size
 have hs5:=hb5.size
 have hl3:=r3.lt
 have h35:Below w3.heap.size w3 w5:=hb4.trans (hb5.mono hs4)
 have r1:=r1.below hb5 r1.lt
 have r2:=r2.below hb5 r2.lt
 have r3:=r3.below hb5 r3.lt
 have b3:=b3.below h35 b3.lt
 have bl:=bl.below h35 bl.lt
 have hWb:Below W.heap.size W w5:=hb3.trans (h35.mono hb3.size)
 have j5:=h.bel hWb
 clear k1 k2 k3 k5 hb4 hb5
 refine QRX (gf:=124) (lb:=#[pT w3.heap.size 0,pT (w3.heap.size+1) 0,pT (w3.heap.size+2) 0]) (fun args w=>by kernel_rfl) fun fn Z hbZ hD hL=>?_
 have hsZ:w5.heap.size+1 < Z.heap.size:=(Array.getElem?_eq_some_iff.1 hL).1
 have r1:=r1.below hbZ r1.lt
 have r2:=r2.below hbZ r2.lt
 have r3:=r3.below hbZ r3.lt
 have b3:=b3.below hbZ b3.lt
 have bl:=bl.below hbZ bl.lt
 have jZ:=j5.bel hbZ
 have hWZ:Below W.heap.size W Z:=hWb.trans (hbZ.mono hWb.size)
 have obW:∀ b,ob=some b→b < W.heap.size:=fun b e=>(h.mem.lt b e).2
 have hKS:∀ x,¬(x=J∨x=w1.heap.size∨x=w5.heap.size+1∨ob=some x)→¬CS J w1.heap.size (w5.heap.size+1) ob x:=fun x h=>h
 have hCSn:∀ x,W.heap.size≤x→x≠w1.heap.size→x≠w5.heap.size+1→¬CS J w1.heap.size (w5.heap.size+1) ob x:=fun x h1 h2 h3 e=>by
  rcases e with e|e|e|e
  · omega
  · exact h2 e
  · exact h3 e
  · have:=obW x e;omega
 refine (QRu (Zs:=Z.heap.size) hA hg hv w3.heap.size (w3.heap.size+1) (w3.heap.size+2) rfl r1 r2 r3 (hCSn _ (by omega) (by omega) (by omega)) (hCSn _ (by omega) (by omega) (by omega)) (hCSn _ (by omega) (by omega) (by omega)) bl.lt hsZ ⟨by omega,by omega⟩ (fun b e=>by have:=obW b e;exact⟨by omega,by omega⟩) (by omega) (by omega) jZ ⟨bl,World.ownsRow_nil ..,hL⟩ hn hm hm16 hp8 (ht.keep fun b hb=>hWZ.block b (by omega)) ?_).mono ?_
 · intro Wr c g' M' P' ob' m' p' k' n' vl l hkept hj hcon hZs hl hn' hct hap
   refine⟨fn,_,_,_,run_yield (args:=#[cyV c]) hcon.lop rfl,QLS (base:=advB W.heap.size w1.heap.size which v (.func (.func 124) #[] #[pT w3.heap.size 0,pT (w3.heap.size+1) 0,pT (w3.heap.size+2) 0]) sl) (l:=[(15,cyV c)]) (by kernel_rfl) ⟨by show 15 < 40;omega,trivial⟩ ?_⟩
   have hJ':=hj.row.lt
   have hlr:=hcon.box.lt
   have rb3:Row Wr W.heap.size 115 #[pT J 0]:=hkept.row b3 (hCSn _ (by omega) (by omega) (by omega))
   have obr:=hj.mem.lt
   have vlr:=hcon.own.lt
   refine ciZ (ZG _) (Tame.thn fun _ _ h=>h) (qF [0] (Many.begin Wr) fun wa ka=>eiO ?_)
   have rC:Row wa Wr.heap.size 30 (cyC c):=ka.row 0 (cyC c).toList (by kernel_rfl)
   have hba:=ka.touch.below
   have hsa:=rC.lt
   have lopa:=(hba.block _ (Array.getElem?_eq_some_iff.1 hcon.lop).1).trans hcon.lop
   refine QIR lopa rfl fun wb gb lopb=>ciB ?_
   have qb:=Kept.of_grown gb
   have hsb:=gb.size
   have qba:Kept (fun x=>x=w5.heap.size+1) Wr wb:=(Kept.of_below (S:=fun _=>False) hba).trans qb (fun _ e=>e.elim) fun x _ e=>by injection e with e;exact e.symm
   have hlob:w5.heap.size+1 < Wr.heap.size:=(Array.getElem?_eq_some_iff.1 hcon.lop).1
   have rb3b:Row wb W.heap.size 115 #[pT J 0]:=qba.row rb3 (by omega)
   have rCb:Row wb Wr.heap.size 30 (cyC c):=qb.row rC (fun e=>by injection e with e;omega)
   have jb:Jny B J wb g' M' P' ob' m' p' k' n':=hj.kept qba (fun b e=>by omega) (by omega) fun b e x=>(hap b e).2.1 x
   have hm3:=Many.three rb3b jb.row rCb (by omega) (by omega) (by omega)
   refine ciP (S:=Many wb [W.heap.size,J,Wr.heap.size] _) (ZG _) (Tame.blk fun _ _ h=>h) 7 hm3.drew (qD 0 [0] hm3.drew<|qD 1 [1,2,3] hm3.drew<|qD 2 [4,5] hm3.drew<|qT 6 hm3.drew (V:=.int .i64 (n'+c.t)) (fun w' _=>Xb (egI _ _ _ _ _ _) (QCx n' c.t (by omega) (by omega) _))<|poE<|qF [1] hm3.drew fun wc kc=>QFb<|ciR (ZG _) (Tame.blk fun _ _ h=>h) (qF [2] kc fun wd kd=>QFb<|ciI (c.kind != 7) (fun h7=>?_) fun h7=>QFD<|eiB ?_))
   all_goals
    have rb3d:Row wd W.heap.size 115 #[pT J 0]:=kd.row 0 [pT J 0] (by kernel_rfl)
    have rJd:Row wd J 120 (Xs g' M' P' k' (n'+c.t)):=kd.row 1 (Xs g' M' P' k' (n'+c.t)).toList (by kernel_rfl)
    have rCd:Row wd Wr.heap.size 30 (cyC c):=kd.row 2 (cyC c).toList (by kernel_rfl)
    have qd:Kept (fun x=>x=w5.heap.size+1∨x=J) Wr wd:=(((qba.trans (Kept.of_touch kd.touch) (U:=fun x=>x=w5.heap.size+1∨x=W.heap.size∨x=J∨x=Wr.heap.size) (fun _ e=>.inl e) fun x _ e=>by
     simp only[List.mem_cons,List.not_mem_nil,or_false] at e
     exact .inr e).drop rb3 rb3d)).mono fun x hx e=>by omega
    have lopd:=((Kept.of_touch kd.touch).block (w5.heap.size+1) (by omega) (by simp;omega)).trans lopb
    have hsd:=qd.size
    have hlow:=hj.low
    have fin:∀ {w':World} {vl':Value} {l':List Cy},Kept (RS J w1.heap.size (w5.heap.size+1) vl) Wr w'→Row w' J 120 (Xs g' M' P' k' (n'+c.t))→Jny B J w' g' M' P' ob' m' p' k' (n'+c.t):=fun q hr =>
     ⟨hr,hj.low,hj.mem.kept q hj.lt (fun b e=>by
      rcases e with e|e|e|e
      · omega
      · omega
      · omega
      · have:=(vlr b e).1;omega) (fun b e x=>by
      have:=hap b e
      rcases x with x|x|x|x
      · exact hj.off (x▸e)
      · exact this.1 x
      · exact this.2.1 x
      · exact this.2.2 x),hj.off,hj.por.kept q hj.lt fun b e=>by
      rcases e with e|e|e|e
      · omega
      · omega
      · omega
      · have:=(vlr b e).1;omega⟩
   · have e7:c.kind≠7:=by simpa using h7
     have boxd:Row wd w1.heap.size 82 #[vl]:=qd.row hcon.box (by omega)
     have ownd:wd.ownsRow Z.heap.size 30 4 vl l.length (Qb l):=qd.own hcon.own fun x e c=>by have:=(vlr x e).1;omega
     obtain⟨Av,cv,rfl,hcv,-,hAv⟩:=QDw hcon.own
     have qA:Below wd.heap.size wd (wd.alloc (.cells (Qb [c]).toArray 30)):=Below.alloc (Below.refl _ _) (Nat.le_refl _) _
     refine ciZ (ZG _) (Tame.blk fun _ _ h=>h)<|wM (Jc (jg (boxd.cell 0)))<|wM (Jc (QGC rCd))<|wM (X7 (bs1Y c wd)) <|
      QTj (.tmp 28) (.tmp 30) 82 30 4 24 (cyV JN) Z.heap.size (.slice Av l.length cv) l.length (Qb l) ⟨wd.heap.size,0,none⟩ 1 1 (Qb [c]) (by simp;omega) (own_below ownd qA) rfl (fun j u hu=>(Row.new wd 30 (Qb [c]).toArray).values j u hu) (fun u hu=>QEa [c] u hu) (by omega) (by omega) fun vn wf own' gr hnew=>?_
     have e2:Qb l++Qb [c]=Qb (l++[c]):=QAN l [c]
     rw[e2] at own'
     have qf:=Kept.of_grown gr
     obtain⟨An,cn,rfl,hcn,-,hAn⟩:=QDw own'
     have boxf:Row wf w1.heap.size 82 #[.slice Av l.length cv]:=qf.row (boxd.below qA boxd.lt) fun e=>by have:=(vlr _ e).1;omega
     refine qF [0] (Many.start boxf) fun wg kg=>eiO<|eiB ?_
     have qg:=Kept.of_touch kg.touch
     have lopf:wf.heap[w5.heap.size+1]? = _:=(qf.block (w5.heap.size+1) (by have:=qA.size;omega) fun e=>by have:=(vlr _ e).1;omega).trans ((qA.block _ (by omega)).trans lopd)
     have lopg:=(qg.block (w5.heap.size+1) (by have:=qA.size;have:=qf.size;omega) (by simp;omega)).trans lopf
     refine QKY lopg fun we ge lope=>?_
     have qx:Kept (RS J w1.heap.size (w5.heap.size+1) (.slice Av l.length cv)) Wr we:=(((qd.trans (Kept.of_below (S:=fun _=>False) qA) (U:=RS J w1.heap.size (w5.heap.size+1) (.slice Av l.length cv)) (fun x e=>by
      rcases e with e|e
      · exact .inr (.inr (.inl e))
      · exact .inl e) fun _ _ e=>e.elim).trans qf (fun _ e=>e) fun x _ e=>.inr (.inr (.inr e))).trans qg (fun _ e=>e) fun x _ e=>.inr (.inl (List.mem_singleton.1 e))).trans (Kept.of_grown ge) (fun _ e=>e) fun x _ e=>by injection e with e;exact .inr (.inr (.inl e.symm))
     have rJf:Row we J 120 (Xs g' M' P' k' (n'+c.t)):=(Kept.of_grown ge).row (qg.row (qf.row (rJd.below qA rJd.lt) fun e=>by have:=(vlr _ e).1;omega) (by simp;omega)) fun e=>by injection e with e;omega
     have rBg:Row wg w1.heap.size 82 #[.slice An (l.length+1) cn]:=kg.row 0 [.slice An (l.length+1) cn] (by kernel_rfl)
     have hl7:QJC c l=l++[c]:=by unfold QJC;rw[if_neg e7]
     have nlt:∀ x,(Value.slice An (l.length+1) cn).ownBlock=some x→Z.heap.size≤x:=fun x e=>(own'.lt x e).1
     refine⟨rfl,.slice An (l.length+1) cn,fin (vl':=.slice An (l.length+1) cn) (l':=l) qx rJf,⟨(Kept.of_grown ge).row rBg fun e=>by injection e with e;omega,?_,lope⟩,qx,?_⟩
     · rw[hl7,List.length_append]
       exact (Kept.of_grown ge).own (qg.own own' fun x e c=>by have:=nlt x e;have:=List.mem_singleton.1 c;omega) fun x e c=>by injection c with c;have:=nlt x e;omega
     · rcases hnew with e|⟨y,e,hy⟩
       · exact .inl e
       · refine .inr ⟨y,e,?_⟩
         have:=qA.size
         omega
   · have e7:c.kind=7:=by simpa using h7
     refine QKY lopd fun we ge lope=>?_
     have qe:Kept (fun x=>x=w5.heap.size+1∨x=J) Wr we:=qd.trans (Kept.of_grown ge) (fun _ e=>e) fun x _ e=>by injection e with e;exact .inl e.symm
     refine⟨rfl,vl,fin (vl':=vl) (l':=l) (qe.mono fun x _ e=>?_) ((Kept.of_grown ge).row rJd fun e=>by injection e with e;omega),⟨qe.row hcon.box (by omega),?_,lope⟩,qe.mono fun x _ e=>?_,.inl rfl⟩
     · rcases e with e|e
       · exact .inr (.inr (.inl e))
       · exact .inl e
     · have:QJC c l=l:=by unfold QJC;rw[if_pos e7]
       rw[this]
       exact qe.own hcon.own fun x e c=>by have:=(vlr x e).1;omega
     · rcases e with e|e
       · exact .inr (.inr (.inl e))
       · exact .inl e
 · rintro e W3 ⟨he,M',P',ob',vl',j3,c3,k3,n3⟩
   obtain⟨W4,hend,g4⟩:=QJf (P:=Tryz.prog) c3.lop (by intro e;cases e) rfl
   refine⟨_,W4,he,hend,eiB<|eiTo (m:=0) ?_⟩
   have q4:=Kept.of_grown g4
   have hs3':=k3.size
   have hs4':=q4.size
   have obn:∀ b,ob'=some b→B≤b∧(b < W.heap.size∨Z.heap.size≤b):=fun b e=>⟨(j3.mem.lt b e).1,by
    rcases n3.ge e with e|e
    · exact .inl (obW b e)
    · exact .inr e⟩
   have hl4:¬(some (w5.heap.size+1)=some W.heap.size):=fun e=>by injection e with e;omega
   have rb4:Row W4 W.heap.size 115 #[pT J 0]:=q4.row (k3.row b3 (hCSn _ (by omega) (by omega) (by omega))) (fun e=>by injection e with e;omega)
   have j4:=j3.kept q4 (fun b e=>by injection e with e;omega) (fun e=>by injection e with e;omega) (fun b e x=>by injection x with x;have:=(obn b e).2;omega)
   have bx4:Row W4 w1.heap.size 82 #[vl']:=q4.row c3.box (fun e=>by injection e with e;omega)
   have vl4:∀ b,vl'.ownBlock=some b→Z.heap.size≤b:=fun b e=>(c3.own.lt b e).1
   have own4:=q4.own c3.own (fun b e x=>by injection x with x;have:=vl4 b e;omega)
   have hD4:W4.heap[w5.heap.size]? = some (.deferred (some [])):=(q4.block _ (by omega) (fun e=>by injection e with e;omega)).trans ((k3.block _ (by omega) (hCSn _ (by omega) (by omega) (by omega))).trans hD)
   have hT:∀ {R:Ending→World→Prop},(∀ w,¬R .outgrown w)→Tame (bodyPostM Fence.wide 0 Tryz.prog Tryz.f83 R):=fun hR a w h=>hR w h
   have hN:∀ w':World,¬(∃ A c,Ending.outgrown=.returned (.slice A (Js ⟨g,m,p⟩ which v).l.length c)∧CysIn w' w'.heap.size A (Js ⟨g,m,p⟩ which v).l∧(A=none→c=0)∧(Js ⟨g,m,p⟩ which v).l.length≤c∧(∀ q,A=some q→W.heap.size≤q.block) ∧
    ∃ M' P' ob',Jny B J w' (ju g which (Js ⟨g,m,p⟩ which v)) M' P' ob' (Js ⟨g,m,p⟩ which v).m (Js ⟨g,m,p⟩ which v).p (k+1) (n+(Js ⟨g,m,p⟩ which v).n)∧Kept (JS J ob) W w'∧NewR W ob ob'):=fun w' ⟨A,c,he,_⟩=>by cases he
   refine ciR QJ (hT hN) (qR 4 [0,1] (Many.two rb4 j4.row (by omega)) fun wa ka=>kBj 36 (.int .i64 k) (.int .i64 1) (.int .i64 (k+1)) (egI _ _ _ _ _) (QCx _ _ (by omega) (by omega))<|qF [1] ka fun wb kb=>QFb ?_)
   have qb:=Kept.of_touch kb.touch
   have hsb:=qb.size
   have rJb:Row wb J 120 (Xs (ju g which (Js ⟨g,m,p⟩ which v)) M' P' (k+1) (n+(Js ⟨g,m,p⟩ which v).n)):=kb.row 1 (Xs (ju g which (Js ⟨g,m,p⟩ which v)) M' P' (k+1) (n+(Js ⟨g,m,p⟩ which v).n)).toList (by kernel_rfl)
   have memb:∀ x,x∈[W.heap.size,J]→x=W.heap.size∨x=J:=fun x h=>by simpa using h
   have bxb:Row wb w1.heap.size 82 #[vl']:=qb.row bx4 fun e=>by rcases memb _ e with e|e<;>omega
   have ownb:=qb.own own4 fun b e x=>by have:=vl4 b e;rcases memb _ x with x|x<;>omega
   have hDb:wb.heap[w5.heap.size]? = some (.deferred (some [])):=(qb.block _ (by omega) fun e=>by rcases memb _ e with e|e<;>omega).trans hD4
   obtain⟨A,cc,rfl,-,-,-⟩:=QDw ownb
   refine ciR QJ (hT hN)<|wM (Jc (jg (bxb.cell 0)))<|qF [] (Many.begin wb) fun wc kc=>QFb<|QUa<|QOk (.slice A (Js ⟨g,m,p⟩ which v).l.length cc) ((kc.touch.below.block _ (Array.getElem?_eq_some_iff.1 hDb).1).trans hDb) ?_
   have qp:Kept (fun x=>x=w5.heap.size) wc (wc.putObj w5.heap.size (.deferred none)):=.put _
   have hbc:=kc.touch.below
   have hsc:=hbc.size
   have ownc:=qp.own (own_below ownb hbc) fun b e x=>by have:=vl4 b e;have x:b=w5.heap.size:=x;omega
   obtain⟨A2,c2,e2,hle,hcy,hnn⟩:=QDw ownc
   injection e2 with e2 e3 e4
   subst e2 e4
   have qJ:Kept (fun x=>x=W.heap.size∨x=J∨x=w5.heap.size) W4 (wc.putObj w5.heap.size (.deferred none)):=(qb.trans (Kept.of_below (S:=fun _=>False) hbc) (U:=fun x=>x=W.heap.size∨x=J∨x=w5.heap.size) (fun x e=>by rcases memb _ e with e|e<;>simp[e]) fun _ _ e=>e.elim).trans qp (fun _ e=>e) fun x _ e=>.inr (.inr e)
   refine⟨A,cc,rfl,hcy,hnn,hle,fun q e=>by have:=vl4 q.block (by rw[e];rfl);omega,M',P',ob',⟨qp.row (rJb.below hbc rJb.lt) (by show ¬J=_;omega),h.low,j4.mem.kept qJ (by omega) (fun b e=>by have:=h.low;omega) (fun b e x=>?_),j4.off,j4.por.kept qJ (by omega) (fun b e=>by have:=h.low;omega)⟩,?_,?_⟩
   · have hh:=(obn b e).2
     rcases x with x|x|x
     · omega
     · exact j4.off (x▸e)
     · omega
   · refine (((Kept.of_below (S:=JS J ob) hWZ).trans k3 (fun _ e=>e) fun x hx e=>?_).trans q4 (fun _ e=>e) fun x hx e=>by injection e with e;omega).trans qJ (fun _ e=>e) fun x hx e=>?_
     · rcases e with e|e|e|e
       · exact .inl e
       · omega
       · omega
       · exact .inr e
     · rcases e with e|e|e
       · omega
       · exact .inl e
       · omega
   · exact n3.trans (.inl rfl) (Nat.le_refl _) |> fun h=>by
      rcases h with h|⟨y,e,hy⟩
      · exact .inl h
      · exact .inr ⟨y,e,by omega⟩
end
def Gives (w:World)(m:List (Int×Int))(e:Ending)(w':World):Prop:=∃ A' c,e=.returned (.slice A' m.length c)∧CellsIn w' w'.heap.size A' m∧m.length≤c∧(A'=none→c=0)∧Below w.heap.size w w'
def QSQ (A:Option Addr)(n cap:Nat)(at_:Int)(A':Option Addr)(n' cap':Nat)(x:QL0):List Value:=[.slice A n cap,.int .u16 at_,.slice A' n' cap',x.y 3,x.y 4,x.y 5,x.y 6,x.v,.int .i64 (x.k:Int),x.y 9,x.y 10,x.y 11,x.y 12,x.y 13,x.y 14,x.y 15,x.y 16,x.y 17,x.y 18,x.y 19,x.y 20,x.y 21,x.y 22,x.y 23,x.y 24,x.y 25,x.y 26,x.y 27,x.y 28,x.y 29,x.y 30,x.y 31,x.y 32]
def QS4 (w:World)(l:List (Int×Int))(at_:Int)(bs:List Int)(x:QL0)(W:World):Prop:=Below w.heap.size w W∧W.ownsRow w.heap.size 55 2 x.v (l.length+x.k) (cvs (l++Q0 at_ (bs.take x.k)))∧x.k≤bs.length
theorem QJ3 (A:Option Addr)(cap:Nat)(l:List (Int×Int))(at_:Int)(A':Option Addr)(cap':Nat)(bs:List Int)(hl:l.length≤100000000)(h16:Jk l)(ha:0≤at_∧at_≤65535)(hbl:bs.length≤65000)(hb:∀ b∈bs,0≤b∧b≤255)(w:World)(hin:CellsIn w w.heap.size A l)(hn:A=none→cap=0)(hy:BytesIn w w.heap.size A' bs) :
 Calls Tryz.prog 14 #[.slice A l.length cap,.int .u16 at_,.slice A' bs.length cap'] w (Gives w (mkS (l++Q0 at_ bs))):=by
 go_enter Tryz.func14,Tryz.ntmps14
 refine JA<|qQ [] (Many.begin w) fun w1 k1=>qQ [] k1 fun w2 k2=>coR<|qR 2 [] k2 fun w3 k3=>qAc (.tmp 9) (.tmp 10) w.heap.size _ (.slice none 0 0) 0 [] A cap l k3.touch.size (World.ownsRow_nil ..) ((hin.below k3.touch.below).more k3.touch.size) hn (by omega) fun v4 w4 own4 g4=>?_
 have hB4:Below w.heap.size w w4:=qo k3.touch.below g4 (World.ownsRow_nil _ w.heap.size 55 2) (Nat.le_refl _) k3.touch.size
 rw[Nat.zero_add,List.nil_append] at own4
 refine qE [] (Many.begin w4) fun w5 k5=>coS<|qQ [] k5 fun w6 k6=>coB<|jA (QSQ A l.length cap at_ A' bs.length cap') (QS4 w l at_ bs) (fun x=>bs.length-x.k) (fun y=>⟨0,v4,y⟩) ⟨bOn hB4 k6,?_,Nat.zero_le _⟩ ?_
 · have:=own_below own4 k6.touch.below
   show w6.ownsRow _ _ _ v4 (l.length+0) (cvs (l++Q0 at_ (bs.take 0)))
   simpa [Q0] using this
 rintro ⟨k,v,y⟩ W ⟨hB,hown,hk⟩
 have hk:k≤bs.length:=hk
 have hown:W.ownsRow w.heap.size 55 2 v (l.length+k) (cvs (l++Q0 at_ (bs.take k))):=hown
 refine coS<|qQ [] (Many.begin W) fun wa ka=>coI (decide ((k:Int) < (bs.length:Int))) (fun hlt=>JC<|eoT<|coS<|coB<|?_) fun hge=>coX<|jv<|jv<|QE9<|eoT ?_
 · have hlt:k < bs.length:=by have:(k:Int) < (bs.length:Int):=by simpa using hlt
                              omega
   obtain⟨p,rfl⟩:=hy.addr hlt
   refine coZ<|qR 3 [] ka fun wb kb=>wM (Xb (QVy _ _ _ (k:Int) 65536 _) (QTk k (by omega) _))<|wM (QBL (QMB (k:Int) (by omega) _))<|wM (Xb (QHj _ _ _ at_ (k:Int) _) (QT8 at_ (k:Int) _))<|qR 2 [] kb fun wc kc=>wM (Jm (ixB p bs.length cap' k hlt _))<|wM (Jc ((hy.below (bOn hB kc)).ld hlt))<|qR 1 [] kc fun wd kd=>wM (X7 (bsC ((at_+(k:Int))%65536) bs[k] wd))<|qAc (.tmp 18) (.tmp 29) w.heap.size _ v (l.length+k) (l++Q0 at_ (bs.take k)) (some ⟨wd.heap.size,0,none⟩) 1 [((at_+(k:Int))%65536,bs[k])] (ja (bOn hB kd) _).size ((own_below hown kd.touch.below).alloc _) (QCh wd _ _ _) (fun e=>by cases e) (by show l.length+k+1≤_;omega) fun v' we own' g'=>?_
   have hBe:=qo (ja (bOn hB kd) _) g' ((own_below hown kd.touch.below).alloc _) (Nat.le_refl _) (ja (bOn hB kd) _).size
   refine qF [] (Many.begin we) fun wf kf=>eoB<|eoT<|coZ<|qR 1 [] kf fun wg kg=>wM (QBc k (by omega))<|qF [] kg fun wh kh=>Qf (fun y=>⟨k+1,v',y⟩) ⟨bOn hBe kh,?_,hlt⟩ (by show bs.length-(k+1) < bs.length-k;omega)
   show wh.ownsRow _ _ _ v' (l.length+(k+1)) (cvs (l++Q0 at_ (bs.take (k+1))))
   rw[QLD bs at_ ha k hlt,←List.append_assoc]
   exact own_below own' kh.touch.below
 · have hkl:k=bs.length:=by have:¬((k:Int) < (bs.length:Int)):=by simpa using hge
                            omega
   subst hkl
   rw[List.take_length] at hown
   have e7:l.length+bs.length=(l++Q0 at_ bs).length:=by rw[List.length_append,QBw]
   rw[e7] at hown
   refine coR<|qR 1 [] ka fun wb kb=>?_
   obtain⟨A9,c9,rfl,hc9,hci9,hn9⟩:=jV (own_below hown kb.touch.below)
   refine kX (QKX A9 c9 (l++Q0 at_ bs) (by rw[←e7];omega) (QEA h16 (QF1 bs at_ hb ha)) wb hci9) ?_
   rintro e wA ⟨A',c,rfl,g1,g2,g3,g4⟩
   refine⟨_,rfl,qE [] (Many.begin wA) fun wB kB=>JE<|JR (.slice A' (mkS (l++Q0 at_ bs)).length c) ⟨A',c,rfl,(g1.below kB.touch.below).more kB.touch.size,g2,g3,bOn ((bOn hB kb).trans (g4.mono (bOn hB kb).size)) kB⟩⟩
end Go.Proofs.YtmgcgiecimnncaaGreatDoor
