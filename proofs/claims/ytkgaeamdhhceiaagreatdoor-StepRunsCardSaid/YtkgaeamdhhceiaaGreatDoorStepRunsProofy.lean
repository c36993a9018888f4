/- The law's walk and what it wants (several texts in one). -/
import Derived.Test.YtkgaeamdhhceiaaGreatDoorSrG33
namespace Go.Proofs.YtkgaeamdhhceiaaGreatDoor
open Go.RowKit Tryz
set_option linter.unusedVariables false
set_option linter.unusedSimpArgs false
set_option maxRecDepth 20000
set_option maxHeartbeats 20000000
theorem mk_step {y:Wd}(hg:RgB y.g)(h:y.m.length < 191)(which v:Int):mkW (QG8 (mkW y) which v)=mkW (Jk y which v)∧(Jj (mkW y) which v).n=(Jj y which v).n∧(Jj (mkW y) which v).l=(Jj y which v).l:=by
 have s:SimW (mkW y) y:=⟨rfl,QHM y.m,rfl⟩
 have e:Jk (mkW y) which v=QG8 (mkW y) which v:=QGs (w:=mkW y) hg which v (Nat.lt_of_le_of_lt (QGN y) h)
 have k:=QOH s which v
 refine⟨?_,(QDb s which v).n,(QDb s which v).l⟩
 rw[←e]
 show (⟨_,_,_⟩:Wd)=⟨_,_,_⟩
 rw[k.g,k.m.mk,k.p]
theorem InP.mono {W:World} {Bp n n':Nat} {V:Value} {w:Wd}(h:InP W Bp n V w)(k:n'≤n):InP W Bp n' V w:=by
 obtain⟨A,c,A',c',h1,h2,h3,h4,h5,h6,h7,h8⟩:=h
 exact⟨A,c,A',c',h1,h2,h3,h4,h5,h6,h7,fun q e=>Nat.le_trans k (h8 q e)⟩
@[reducible] def uC (u:Wd)(A:Option Addr)(c:Nat)(A':Option Addr)(c':Nat):Array Value:=JQ u.g (.slice A (mkS u.m).length c) (.slice A' u.p.length c')
@[reducible] def vC (g:Rg)(A:Option Addr)(m:List (Int×Int))(c:Nat)(A':Option Addr)(p:List Int)(c':Nat):Array Value:=JQ g (.slice A m.length c) (.slice A' p.length c')
@[reducible] def w0C:Array Value:=JQ JV (.slice none 0 0) (.slice none 0 0)
structure RuX where
 k:Nat
 w:Wd
 st:Int
 A:Option Addr
 c:Nat
 A':Option Addr
 c':Nat
 y:Nat→Value
abbrev RuX.V (q:RuX):Value:=.agg (uC q.w q.A q.c q.A' q.c')
structure RuI (W0:World)(w0:Wd)(q:RuX)(W:World):Prop where
 row:Row W W0.heap.size 34 (uC q.w q.A q.c q.A' q.c')
 res:Row W (W0.heap.size+1) 34 (w0C)
 at_:InP W W0.heap.size (W0.heap.size+2) q.V (mkW q.w)
 low:Below W0.heap.size W0 W
 ok:OkW q.w
 ml:q.w.m.length≤w0.m.length+9*q.k
 pl:q.w.p.length≤w0.p.length
 s0:0≤q.st
 s1:q.st≤1400*q.k
theorem rround_any (hA:jK){W0:World} {w0:Wd} {q:RuX} {W:World}(h:RuI W0 w0 q W)(hk:q.k < 12)(hl:w0.m.length≤80)(hp:w0.p.length≤1000) :
 Calls prog 10 #[q.V,.int .i64 0,.int .u8 0] W fun e W'=>∃ A c A' c' Al cl,e=.returned (.tuple #[.agg (uC (Jk q.w 0 0) A c A' c'),.slice Al (Jj q.w 0 0).l.length cl,.int .i64 (Jj q.w 0 0).n])∧Below W.heap.size W W' ∧
  ∀ W2,Kept (fun b=>b=W0.heap.size) W' W2→Row W2 W0.heap.size 34 (uC (Jk q.w 0 0) A c A' c')→∀ y,RuI W0 w0 ⟨q.k+1,Jk q.w 0 0,q.st+(Jj q.w 0 0).n,A,c,A',c',y⟩ W2:=by
 obtain⟨k,w,st,A,c,A',c',y0⟩:=q
 have hk:k < 12:=hk
 have hml:w.m.length≤w0.m.length+9*k:=h.ml
 have hpl:w.p.length≤w0.p.length:=h.pl
 have hs0:0≤st:=h.s0
 have hs1:st≤1400*k:=h.s1
 have lW:=h.res.lt
 obtain⟨m1,m2,m3⟩:=mk_step h.ok.g (y:=w) (by omega) 0 0
 have few:=(QJP h.ok.g (w:=w) 0 0 (by omega)).2.2
 have hn:=QEe w 0 0
 refine (QHF hA 0 0 W0.heap.size (W0.heap.size+2) W (QT5 h.ok) B8.zero (Nat.le_trans (QGN w) (by omega)) (by show w.p.length≤_;omega) h.at_ (by omega)).mono ?_
 rintro e W' ⟨V',Al,cl,he,hV,-,-,-,hb⟩
 rw[m1] at hV
 rw[m2,m3] at he
 have hV2:=hV
 obtain⟨A5,c5,A6,c6,rfl,-⟩:=hV2
 refine⟨A5,c5,A6,c6,Al,cl,he,hb,fun W2 q2 r2 y=>?_⟩
 have sb:=hb.size
 have lowb:=h.low.trans (hb.mono h.low.size)
 refine⟨r2,q2.row (h.res.below hb h.res.lt) (by omega),(hV.kept q2 (by omega) fun b e=>by have e:b=W0.heap.size:=e;omega).mono (by omega),q2.low lowb (by omega) fun b e=>by have e:b=W0.heap.size:=e;omega,h.ok.pstepW hA 0 B8.zero,?_,?_,?_,?_⟩
 · show (Jj w 0 0).m.length≤w0.m.length+9*(k+1)
   omega
 · exact Nat.le_trans (QAs w 0 0) hpl
 · show 0≤st+(Jj w 0 0).n
   omega
 · show st+(Jj w 0 0).n≤1400*((k+1:Nat):Int)
   omega
theorem keep_b {b2:Nat} {w2 w3 w4 w8:World}(b3:Below w2.heap.size w2 w3)(t4:Touch [w2.heap.size,b2] w3 w4)(b8:Below w4.heap.size w4 w8):Kept (fun b=>b=b2) w2 w8 :=
 ((Kept.of_below (S:=fun b=>b=b2) b3).trans (Kept.of_touch t4) (fun _ e=>e) fun b hb' e=>by
   have e:b=w2.heap.size∨b=b2:=by simpa using e
   rcases e with e|e
   · omega
   · exact e).trans (Kept.of_below (S:=fun _=>False) b8) (fun _ e=>e) fun _ _ e=>e.elim
theorem ru_begin {W w2 w3 w4:World} {g:Rg} {m:List (Int×Int)} {p:List Int} {A':Option Addr} {c':Nat} {AM:Option Addr} {cM:Nat}(hw:OkW ⟨g,m,p⟩)(hb2:Below W.heap.size W w2)(hb3:Below w2.heap.size w2 w3)(l1:W.heap.size+1 < w2.heap.size)(ownM:w3.ownsRow w2.heap.size 67 2 (.slice AM (mkS m).length cM) (mkS m).length (cvs (mkS m)))(t4:Touch [W.heap.size,W.heap.size+1] w3 w4)
 (ra:Row w4 W.heap.size 34 (vC g AM (mkS m) cM A' p c'))(rb:Row w4 (W.heap.size+1) 34 w0C)(h4:BytesIn W W.heap.size A' p)(h5:A'=none→c'=0)(h6:p.length≤c'):∀ (w5:World),Below w4.heap.size w4 w5→∀ y,RuI W ⟨g,m,p⟩ ⟨0,⟨g,m,p⟩,0,AM,cM,A',c',y⟩ w5:=fun w5 hb y=>by
 have s3:=hb3.size
 have q4:=Kept.of_touch t4
 have S4:∀ b,b∈[W.heap.size,W.heap.size+1]→b=W.heap.size∨b=W.heap.size+1:=fun b h=>by simpa using h
 have own4:=q4.own ownM fun b e y=>by have:=(ownM.lt b e).1;rcases S4 b y with y|y<;>omega
 obtain⟨AM4,cM4,e4,hcM4,hci4,hnM4⟩:=Qq own4
 injection e4 with e4 e5 e6
 subst e4 e6
 have ho4:=QEj own4
 have hB3:=hb2.trans (hb3.mono hb2.size)
 have low4:Below W.heap.size W w4:=q4.low hB3 hB3.size fun b y=>by rcases S4 b y with y|y<;>omega
 exact⟨ra.below hb ra.lt,rb.below hb rb.lt,⟨AM,cM,A',c',rfl,(hci4.below hb).more hb.size,hnM4,hcM4,(h4.below low4).below (hb.mono low4.size),h5,h6,fun q e=>by have:=(ho4 q e).1;omega⟩,low4.trans (hb.mono low4.size),hw,Nat.le_refl _,Nat.le_refl _,Int.le_refl _,by show (0:Int)≤1400*((0:Nat):Int);omega⟩
def rrunB (V:Value)(n:Int)(b2 b4:Nat)(x:RuX):List Value:=[V,.int .i64 n,pT b2 0,x.y 3,pT b4 0,.int .i64 0,.int .i64 x.st,.int .i64 (x.k:Int),x.y 8,x.y 9,x.y 10,x.y 11,x.y 12,x.y 13,x.y 14,x.y 15,x.y 16,x.y 17,x.y 18,x.y 19,x.y 20,x.y 21,x.y 22,x.y 23,x.y 24,x.y 25,x.y 26,x.y 27,x.y 28,x.y 29,x.y 30,x.y 31,x.y 32,x.y 33,x.y 34,x.y 35]
theorem rrun_any (hA:jK){V:Value} {w:Wd}(n:Int)(hn:n≤12)(W:World)(hw:OkW w)(hl:w.m.length≤80)(hp:w.p.length≤1000)(h:InW W W.heap.size V w) :
 Calls prog 18 #[V,.int .i64 n] W fun e W'=>∃ V',e=.returned (.tuple #[V',.int .i64 (X1 (Jm n) w).2])∧InW W' W'.heap.size V' (mkW (X1 (Jm n) w).1)∧Below W.heap.size W W':=by
 obtain⟨A,c,A',c',rfl,h1,h2,h3,h4,h5,h6⟩:=h
 obtain⟨g,m,p⟩:=w
 have hl:m.length≤80:=hl
 have hp:p.length≤1000:=hp
 go_enter func18,ntmps18
 refine JB<|qQ [] (Many.begin W) fun w1 k1=>coR<|qR 2 [0] k1 fun w2 k2=>kX (zM A c m (by omega) hw.m w2 ((h1.below k2.touch.below).more k2.touch.size)) fun e w3 ⟨vM,he,ownM,hb3⟩=>⟨_,he,?_⟩
 have hb2:=k2.touch.below
 have r0:Row w2 W.heap.size 34 (vC g A m c A' p c'):=k2.row 0 (vC g A m c A' p c').toList (by kernel_rfl)
 have r1:Row w2 (W.heap.size+1) 34 (w0C):=k2.row 1 (w0C).toList (by kernel_rfl)
 have l1:=r1.lt
 have s3:=hb3.size
 have hB3:Below W.heap.size W w3:=hb2.trans (hb3.mono hb2.size)
 obtain⟨AM,cM,rfl,-⟩:=Qq ownM
 refine qE [0] (Many.two (r0.below hb3 r0.lt) (r1.below hb3 r1.lt) (by omega)) fun w4 k4=>?_
 have hI0:=ru_begin hw hb2 hb3 l1 ownM k4.touch (k4.row 0 (vC g AM (mkS m) cM A' p c').toList (by kernel_rfl)) (k4.row 1 w0C.toList (by kernel_rfl)) h4 h5 h6
 refine qQ [] (Many.begin w4) fun w5 k5=>coS<|qQ [] k5 fun w6 k6=>coB<|ZN (rrunB (.agg (vC g A m c A' p c')) n W.heap.size (W.heap.size+1)) (fun q W'=>RuI W ⟨g,m,p⟩ q W'∧q.k≤Jm n∧(X1 (Jm n-q.k) q.w).1=(X1 (Jm n) ⟨g,m,p⟩).1∧q.st+(X1 (Jm n-q.k) q.w).2=(X1 (Jm n) ⟨g,m,p⟩).2) (fun q=>Jm n-q.k) (fun y=>⟨0,⟨g,m,p⟩,0,AM,cM,A',c',y⟩) ⟨hI0 _ k6.touch.below _,Nat.zero_le _,rfl,by show (0:Int)+_=_;rw[Int.zero_add];rfl⟩ ?_
 have hN:Jm n≤12:=by unfold Jm QCV;split<;>omega
 clear k1 k2 k4 k5 k6
 rintro ⟨k,u,st,AX,cX,AP,cP,y⟩ W' ⟨hJ,hk0,hr10,hr20⟩
 have hk:k≤Jm n:=hk0
 have hr1:(X1 (Jm n-k) u).1=(X1 (Jm n) ⟨g,m,p⟩).1:=hr10
 have hr2:st+(X1 (Jm n-k) u).2=(X1 (Jm n) ⟨g,m,p⟩).2:=hr20
 clear hk0 hr10 hr20
 refine coS<|coR<|qR 4 [] (Many.begin W') fun wa ka=>?_
 by_cases hlt:k < Jm n
 · have hlt2:(k:Int) < n∧(k:Int) < 200:=by
    have:=(zh n k).2 hlt
    unfold QCV at this
    split at this<;>omega
   refine tell 18 (show decide ((k:Int) < n)=true by simpa using hlt2.1)<|qR 2 [] ka fun wc kc=>tell 20 (show decide ((k:Int) < 200)=true by simpa using hlt2.2)<|qE [] kc fun wb kb=>coT<|JE<|eoT<|coS<|coB<|?_
   have hR:=hJ.row
   have bb:=kb.touch.below
   have hJb:RuI W ⟨g,m,p⟩ ⟨k,u,st,AX,cX,AP,cP,y⟩ wb:=⟨hR.below bb hR.lt,hJ.res.below bb hJ.res.lt,hJ.at_.on bb hJ.low.size,hJ.low.trans (bb.mono hJ.low.size),hJ.ok,hJ.ml,hJ.pl,hJ.s0,hJ.s1⟩
   have hRb:=hJb.row
   have hlr:=hJb.res.lt
   have hn4:=QEe u 0 0
   have hs0:0≤st:=hJ.s0
   have hs1:st≤1400*k:=hJ.s1
   refine coR<|wM (J3 (jT hRb))<|kX (rround_any hA hJb (by show k < 12;omega) hl hp) fun e w2' ⟨A5,c5,A6,c6,Al,cl,he,hb,hnext⟩=>⟨_,he,qE [0] (Many.begin w2') fun w3' k3=>?_⟩
   have r8:Row w3' w2'.heap.size 34 (uC (Jk u 0 0) A5 c5 A6 c6):=k3.row 0 (uC (Jk u 0 0) A5 c5 A6 c6).toList (by kernel_rfl)
   have sb:=hb.size
   have b3:=k3.touch.below
   have rb3:=(hRb.below hb hRb.lt).below b3 (by have:=hRb.lt;omega)
   refine qQ [0,1] (Many.two r8 rb3 (by omega)) fun w4' k4=>coZ<|qR 2 [] (Many.begin w4') fun w5' k5=>kBj 33 (.int .i64 st) (.int .i64 (Jj u 0 0).n) (.int .i64 (st+(Jj u 0 0).n)) (egI _ _ _ _ _) (QIH _ _ (by omega) (by omega))<|qF [] k5 fun w6' k6=>eoB<|eoT<|coZ<|qR 1 [] (Many.begin w6') fun w7 k7=>wM (QA3 k (by omega))<|qF [] k7 fun w8 k8=>Qk (fun y=>⟨k+1,Jk u 0 0,st+(Jj u 0 0).n,A5,c5,A6,c6,y⟩) ⟨hnext w8 ?_ ?_ _,hlt,?_,?_⟩ (by show Jm n-(k+1) < Jm n-k;omega)
   · have b6:=k6.touch.below
     have b8:=k8.touch.below
     have b48:Below w4'.heap.size w4' w8:=b6.trans (b8.mono b6.size)
     exact keep_b b3 k4.touch b48
   · have b6:=k6.touch.below
     have b8:=k8.touch.below
     have r4':Row w4' W.heap.size 34 (uC (Jk u 0 0) A5 c5 A6 c6):=k4.row 1 (uC (Jk u 0 0) A5 c5 A6 c6).toList (by kernel_rfl)
     exact (r4'.below b6 r4'.lt).below b8 (by have:=r4'.lt;have:=b6.size;omega)
   · have e:Jm n-k=(Jm n-(k+1))+1:=by omega
     rw[←hr1,e];rfl
   · have e:Jm n-k=(Jm n-(k+1))+1:=by omega
     rw[←hr2,e]
     exact Int.add_assoc _ _ _
 · have hge:¬(k:Int) < n:=fun e=>hlt ((zh n k).1 (by unfold QCV;split<;>omega))
   have hst:u=(X1 (Jm n) ⟨g,m,p⟩).1∧st=(X1 (Jm n) ⟨g,m,p⟩).2:=by
    rw[show Jm n-k=0 by omega] at hr1 hr2
    exact⟨hr1,by rw[←hr2];show st=st+0;omega⟩
   refine tell 18 (show decide ((k:Int) < n)=false by simpa using hge)<|qE [] ka fun wb kb=>coF<|coX<|X8<|X8<|QAe<|eoT ?_
   have hR:=hJ.row
   have hres:=hJ.res
   have lr:=hres.lt
   refine coR<|wM (J3 (jT (hR.below kb.touch.below hR.lt)))<|qR 1 [] (Many.begin wb) fun wc kc=>?_
   have bc:Below W'.heap.size W' wc:=kb.touch.below.trans (kc.touch.below.mono kb.touch.size)
   refine qE [0] (Many.start (hres.below bc hres.lt)) fun wd kd=>JJ ?_
   have qd:Kept (fun b=>b=W.heap.size+1) wc wd:=(Kept.of_touch kd.touch).mono fun b _ e=>List.mem_singleton.1 e
   have rd:Row wd (W.heap.size+1) 34 (uC u AX cX AP cP):=kd.row 0 (uC u AX cX AP cP).toList (by kernel_rfl)
   have hat:InP W' W.heap.size (W.heap.size+2) (.agg (uC u AX cX AP cP)) (mkW u):=hJ.at_
   have hs0:=hJ.low.size
   have bs:=bc.size
   obtain⟨hr1,hr2⟩:=hst
   rw[←hr1,←hr2]
   refine QSK rd ⟨_,rfl,((hat.on bc hs0).kept qd (by omega) fun b e=>by have e:b=W.heap.size+1:=e;omega).inW (by have:=qd.size;omega),qd.low (hJ.low.trans (bc.mono hs0)) (by omega) fun b e=>by have e:b=W.heap.size+1:=e;omega⟩
def runtB (V:Value)(pc n:Int)(b3 b6:Nat)(x:RuX):List Value:=[V,.int .u16 pc,.int .i64 n,pT b3 0,x.y 4,x.y 5,pT b6 0,.int .i64 0,.int .i64 (x.k:Int),x.y 9,x.y 10,x.y 11,x.y 12,x.y 13,x.y 14,x.y 15,x.y 16,x.y 17,x.y 18,x.y 19,x.y 20,x.y 21,x.y 22,x.y 23,x.y 24,x.y 25,x.y 26,x.y 27,x.y 28,x.y 29,x.y 30,x.y 31,x.y 32,x.y 33,x.y 34,x.y 35,x.y 36,x.y 37,x.y 38,x.y 39,x.y 40,x.y 41,x.y 42,x.y 43,x.y 44,x.y 45,x.y 46]
theorem runt_any (hA:jK){V:Value} {w:Wd}(pc n:Int)(hn:n≤12)(W:World)(hw:OkW w)(hl:w.m.length≤80)(hp:w.p.length≤1000)(h:InW W W.heap.size V w) :
 Calls prog 20 #[V,.int .u16 pc,.int .i64 n] W fun e W'=>∃ V',e=.returned (.tuple #[V',.int .i64 ((Xw pc (Jm n) w).2:Int)])∧InW W' W'.heap.size V' (mkW (Xw pc (Jm n) w).1)∧Below W.heap.size W W':=by
 obtain⟨A,c,A',c',rfl,h1,h2,h3,h4,h5,h6⟩:=h
 obtain⟨g,m,p⟩:=w
 have hl:m.length≤80:=hl
 have hp:p.length≤1000:=hp
 go_enter func20,ntmps20
 refine JB<|qQ [] (Many.begin W) fun w1 k1=>coR<|qR 2 [0] k1 fun w2 k2=>kX (zM A c m (by omega) hw.m w2 ((h1.below k2.touch.below).more k2.touch.size)) fun e w3 ⟨vM,he,ownM,hb3⟩=>⟨_,he,?_⟩
 have hb2:=k2.touch.below
 have r0:Row w2 W.heap.size 34 (vC g A m c A' p c'):=k2.row 0 (vC g A m c A' p c').toList (by kernel_rfl)
 have r1:Row w2 (W.heap.size+1) 34 (w0C):=k2.row 1 (w0C).toList (by kernel_rfl)
 have l1:=r1.lt
 have s3:=hb3.size
 have hB3:Below W.heap.size W w3:=hb2.trans (hb3.mono hb2.size)
 obtain⟨AM,cM,rfl,-⟩:=Qq ownM
 refine qE [0] (Many.two (r0.below hb3 r0.lt) (r1.below hb3 r1.lt) (by omega)) fun w4 k4=>?_
 have hI0:=ru_begin hw hb2 hb3 l1 ownM k4.touch (k4.row 0 (vC g AM (mkS m) cM A' p c').toList (by kernel_rfl)) (k4.row 1 w0C.toList (by kernel_rfl)) h4 h5 h6
 refine qQ [] (Many.begin w4) fun w5 k5=>coS<|coB<|ZN (runtB (.agg (vC g A m c A' p c')) pc n W.heap.size (W.heap.size+1)) (fun q W'=>RuI W ⟨g,m,p⟩ q W'∧q.k≤Jm n∧(Xw pc (Jm n-q.k) q.w).1=(Xw pc (Jm n) ⟨g,m,p⟩).1∧q.k+(Xw pc (Jm n-q.k) q.w).2=(Xw pc (Jm n) ⟨g,m,p⟩).2) (fun q=>Jm n-q.k) (fun y=>⟨0,⟨g,m,p⟩,0,AM,cM,A',c',y⟩) ⟨hI0 _ k5.touch.below _,Nat.zero_le _,rfl,by show 0+_=_;rw[Nat.zero_add];rfl⟩ ?_
 have hN:Jm n≤12:=by unfold Jm QCV;split<;>omega
 clear k1 k2 k4 k5
 rintro ⟨k,u,st,AX,cX,AP,cP,y⟩ W' ⟨hJ,hk0,hr10,hr20⟩
 have hk:k≤Jm n:=hk0
 have hr1:(Xw pc (Jm n-k) u).1=(Xw pc (Jm n) ⟨g,m,p⟩).1:=hr10
 have hr2:k+(Xw pc (Jm n-k) u).2=(Xw pc (Jm n) ⟨g,m,p⟩).2:=hr20
 clear hk0 hr10 hr20
 have stop:(qI pc u=true∨¬k < Jm n)→u=(Xw pc (Jm n) ⟨g,m,p⟩).1∧(k:Int)=((Xw pc (Jm n) ⟨g,m,p⟩).2:Int):=fun h=>by
  have e:Xw pc (Jm n-k) u=(u,0):=by
   rcases h with h|h
   · exact QJK pc _ h
   · rw[show Jm n-k=0 by omega];rfl
  rw[e] at hr1 hr2
  exact⟨hr1,by rw[←hr2];rfl⟩
 have ru:=hJ.row
 refine coS<|coR<|qR 4 [] (Many.begin W') fun wa ka=>?_
 have cases4:(k < Jm n∧¬u.g.pc=pc∧u.g.halted=false)∨¬k < Jm n∨(k < Jm n∧u.g.pc=pc)∨(k < Jm n∧¬u.g.pc=pc∧u.g.halted=true):=by
  by_cases h1:k < Jm n
  · by_cases h2:u.g.pc=pc
    · exact .inr (.inr (.inl ⟨h1,h2⟩))
    · by_cases h3:u.g.halted=true
      · exact .inr (.inr (.inr ⟨h1,h2,h3⟩))
      · exact .inl ⟨h1,h2,by simpa using h3⟩
  · exact .inr (.inl h1)
 have lt2:k < Jm n→(k:Int) < n∧(k:Int) < 200:=fun hlt=>by
  have:=(zh n k).2 hlt
  unfold QCV at this
  split at this<;>omega
 rcases cases4 with ⟨hlt,h2,h3⟩|h1|⟨hlt,h2⟩|⟨hlt,h2,h3⟩
 · have hlt2:=lt2 hlt
   refine tell 19 (show decide ((k:Int) < n)=true by simpa using hlt2.1)<|qR 2 [] ka fun wc kc=>tell 21 (show decide ((k:Int) < 200)=true by simpa using hlt2.2)<|qR 4 [] kc fun wc kc=>wM (J3 (qU ((ru.below kc.touch.below ru.lt).cell 11)))<|qR 2 [] kc fun wc kc=>tell 28 (show (u.g.pc != pc)=true by simp[h2])<|qR 4 [] kc fun wc kc=>wM (J3 (qU ((ru.below kc.touch.below ru.lt).cell 17)))<|qR 1 [] kc fun wc kc=>tell 34 (show (!u.g.halted)=true by simp[h3])<|qE [] kc fun wb kb=>coT<|JE<|eoT<|coB<|?_
   have hR:=hJ.row
   have bb:=kb.touch.below
   have hJb:RuI W ⟨g,m,p⟩ ⟨k,u,st,AX,cX,AP,cP,y⟩ wb:=⟨hR.below bb hR.lt,hJ.res.below bb hJ.res.lt,hJ.at_.on bb hJ.low.size,hJ.low.trans (bb.mono hJ.low.size),hJ.ok,hJ.ml,hJ.pl,hJ.s0,hJ.s1⟩
   have hRb:=hJb.row
   have hlr:=hJb.res.lt
   refine coR<|wM (J3 (jT hRb))<|kX (rround_any hA hJb (by show k < 12;omega) hl hp) fun e w2' ⟨A5,c5,A6,c6,Al,cl,he,hb,hnext⟩=>⟨_,he,qE [0] (Many.begin w2') fun w3' k3=>?_⟩
   have r8:Row w3' w2'.heap.size 34 (uC (Jk u 0 0) A5 c5 A6 c6):=k3.row 0 (uC (Jk u 0 0) A5 c5 A6 c6).toList (by kernel_rfl)
   have sb:=hb.size
   have b3:=k3.touch.below
   have rb3:=(hRb.below hb hRb.lt).below b3 (by have:=hRb.lt;omega)
   refine qQ [0,1] (Many.two r8 rb3 (by omega)) fun w4' k4=>coZ<|qR 1 [] (Many.begin w4') fun w7 k7=>wM (QA3 k (by omega))<|qF [] k7 fun w8 k8=>eoB<|Qk (fun y=>⟨k+1,Jk u 0 0,st+(Jj u 0 0).n,A5,c5,A6,c6,y⟩) ⟨hnext w8 ?_ ?_ _,hlt,?_,?_⟩ (by show Jm n-(k+1) < Jm n-k;omega)
   · have b8:=k8.touch.below
     exact keep_b b3 k4.touch b8
   · have b8:=k8.touch.below
     have r4':Row w4' W.heap.size 34 (uC (Jk u 0 0) A5 c5 A6 c6):=k4.row 1 (uC (Jk u 0 0) A5 c5 A6 c6).toList (by kernel_rfl)
     exact r4'.below b8 r4'.lt
   all_goals
    have hns:¬qI pc u=true:=by unfold qI;simp[h2,h3]
    have e:Jm n-k=(Jm n-(k+1))+1:=by omega
    rw[e,Xw,if_neg hns] at hr1 hr2
   · exact hr1
   · rw[←hr2]
     have:∀ x:Nat,k+1+x=k+(x+1):=fun x=>by omega
     exact this _
 case' inr.inl =>
  have hst:=stop (.inr h1)
  have hge:¬(k:Int) < n:=fun e=>h1 ((zh n k).1 (by unfold QCV;split<;>omega))
  refine tell 19 (show decide ((k:Int) < n)=false by simpa using hge)<|qE [] ka fun wb kb=>coF<|coX<|X8<|X8<|QAe<|eoT ?_
 case' inr.inr.inl =>
  have hst:=stop (.inl (by unfold qI;simp[h2]))
  have hlt2:=lt2 hlt
  refine tell 19 (show decide ((k:Int) < n)=true by simpa using hlt2.1)<|qR 2 [] ka fun wc kc=>tell 21 (show decide ((k:Int) < 200)=true by simpa using hlt2.2)<|qR 4 [] kc fun wc kc=>wM (J3 (qU ((ru.below kc.touch.below ru.lt).cell 11)))<|qR 2 [] kc fun wc kc=>tell 28 (show (u.g.pc != pc)=false by simp[h2])<|qE [] kc fun wb kb=>coF<|coX<|X8<|X8<|QAe<|eoT ?_
 case' inr.inr.inr =>
  have hst:=stop (.inl (by unfold qI;simp[h3]))
  have hlt2:=lt2 hlt
  refine tell 19 (show decide ((k:Int) < n)=true by simpa using hlt2.1)<|qR 2 [] ka fun wc kc=>tell 21 (show decide ((k:Int) < 200)=true by simpa using hlt2.2)<|qR 4 [] kc fun wc kc=>wM (J3 (qU ((ru.below kc.touch.below ru.lt).cell 11)))<|qR 2 [] kc fun wc kc=>tell 28 (show (u.g.pc != pc)=true by simp[h2])<|qR 4 [] kc fun wc kc=>wM (J3 (qU ((ru.below kc.touch.below ru.lt).cell 17)))<|qR 1 [] kc fun wc kc=>tell 34 (show (!u.g.halted)=false by simp[h3])<|qE [] kc fun wb kb=>coF<|coX<|X8<|X8<|QAe<|eoT ?_
 all_goals
  have hR:=hJ.row
  have hres:=hJ.res
  have lr:=hres.lt
  refine coR<|wM (J3 (jT (hR.below kb.touch.below hR.lt)))<|qR 1 [] (Many.begin wb) fun wc kc=>?_
  have bc:Below W'.heap.size W' wc:=kb.touch.below.trans (kc.touch.below.mono kb.touch.size)
  refine qE [0] (Many.start (hres.below bc hres.lt)) fun wd kd=>JJ ?_
  have qd:Kept (fun b=>b=W.heap.size+1) wc wd:=(Kept.of_touch kd.touch).mono fun b _ e=>List.mem_singleton.1 e
  have rd:Row wd (W.heap.size+1) 34 (uC u AX cX AP cP):=kd.row 0 (uC u AX cX AP cP).toList (by kernel_rfl)
  have hat:InP W' W.heap.size (W.heap.size+2) (.agg (uC u AX cX AP cP)) (mkW u):=hJ.at_
  have hs0:=hJ.low.size
  have bs:=bc.size
  obtain⟨hr1,hr2⟩:=hst
  rw[←hr1,←hr2]
  refine QSK rd ⟨_,rfl,((hat.on bc hs0).kept qd (by omega) fun b e=>by have e:b=W.heap.size+1:=e;omega).inW (by have:=qd.size;omega),qd.low (hJ.low.trans (bc.mono hs0)) (by omega) fun b e=>by have e:b=W.heap.size+1:=e;omega⟩
theorem unt_ok (hA:jK)(pc:Int):∀ (k:Nat) {w:Wd},OkW w→OkW (Xw pc k w).1∧(Xw pc k w).1.m.length≤w.m.length+200*k
 | 0,w,h=>⟨h,Nat.le_refl _⟩
 | k+1,w,h=>by
   unfold Xw
   split
   · exact⟨h,by show w.m.length≤_;omega⟩
   · obtain⟨h1,h2⟩:=unt_ok hA pc k (h.pstepW hA 0 B8.zero)
     have h3:(Jk w 0 0).m.length≤w.m.length+200:=zI w 0 0
     exact⟨h1,Nat.le_trans h2 (by omega)⟩
theorem stepRuns_walk (g:Rg)(A:Option Addr)(cap:Nat)(ms:List (Int×Int))(A':Option Addr)(cap':Nat)(ps:List Int)(n pc:Int)(p0:0≤pc)(p1:pc≤65535)(hg:RgB g)(w:World)
 (hc:ms.length≤cap)(hm:cap≤maxLen)(h16:QL ms)(hin:CellsIn w w.heap.size A ms)(hn:A=none→cap=0)(hc':ps.length≤cap')(hm':cap'≤maxLen)(h8:Bytes8 ps)(hin':BytesIn w w.heap.size A' ps)(hn':A'=none→cap'=0)(hM:Masks w)(hD:Digits w)(hC:Courses w)(hO:QGI w) :
 Calls prog 4 #[Q2 g (.slice A ms.length cap) (.slice A' ps.length cap'),.int .i64 n,.int .u16 pc] w fun e w'=>e=.returned (.bool true)∧Below w.heap.size w w':=by
 have ht:Tabs w w.heap.size:=(NextTabs.mk hM hC hD hO).tabs
 have hA:jK:=QPc ht
 have hI:InW w w.heap.size (Q2 g (.slice A ms.length cap) (.slice A' ps.length cap')) ⟨g,ms,ps⟩:=⟨A,cap,A',cap',rfl,hin,hn,hc,hin',hn',hc'⟩
 have hok:OkW ⟨g,ms,ps⟩:=⟨hg,h16,h8⟩
 go_enter func4,ntmps4
 refine JB<|qQ [] (Many.begin w) fun w1 k1=>coR<|qC (QDw hA w1 (ht.below k1.touch.below)) k1 fun w2 k2=>qE [] k2 fun w3 k3=>coS<|qQ [] k3 fun w4 k4=>coF<|JE<|eoT<|coR<|qR 1 [0] k4 fun w5 k5=>qC (QIu w5 (hI.on k5.touch.below)) k5 fun w6 k6=>qE [] k6 fun w7 k7=>coS<|coR<|qR 3 [] k7 fun w8 k8=>?_
 by_cases hf:QFK ⟨g,ms,ps⟩=true
 case neg=>exact tell 24 (show (!QFK ⟨g,ms,ps⟩)=true by simpa using hf)<|qE [] k8 fun w9 k9=>coT<|qQ [] k9 fun wa ka=>JJ<|QF<|J8 (.bool true) ⟨rfl,ka.touch.below⟩
 refine tell 24 (show (!QFK ⟨g,ms,ps⟩)=false by simpa using hf)<|qR 2 [] k8 fun w8 k8=>?_
 by_cases hn12:n > 12
 · exact tell 26 (show decide (n > 12)=true by simpa using hn12)<|qE [] k8 fun w9 k9=>coT<|qQ [] k9 fun wa ka=>JJ<|QF<|J8 (.bool true) ⟨rfl,ka.touch.below⟩
 refine tell 26 (show decide (n > 12)=false by simpa using hn12)<|qE [] k8 fun w9 k9=>coF<|JE<|eoT<|coR<|qR 2 [0] k9 fun wa ka=>?_
 have hlen:ms.length≤80∧ps.length≤40:=QMZ hf
 have hn2:n≤12:=by omega
 have hba:=ka.touch.below
 have r3:Row wa w.heap.size 28 (vC g A ms cap A' ps cap'):=ka.row 0 (vC g A ms cap A' ps cap').toList (by kernel_rfl)
 have l80:(⟨g,ms,ps⟩:Wd).m.length≤80:=hlen.1
 have l40:(⟨g,ms,ps⟩:Wd).p.length≤1000:=by show ps.length≤1000;omega
 obtain⟨X,hX⟩:∃ X,X=mkW (X1 (Jm n) ⟨g,ms,ps⟩).1:=⟨_,rfl⟩
 obtain⟨sX,hsX⟩:∃ sX,sX=(X1 (Jm n) ⟨g,ms,ps⟩).2:=⟨_,rfl⟩
 obtain⟨U,hU⟩:∃ U,U=mkW (Xw pc (Jm n) ⟨g,ms,ps⟩).1:=⟨_,rfl⟩
 obtain⟨sU,hsU⟩:∃ sU,sU=((Xw pc (Jm n) ⟨g,ms,ps⟩).2:Int):=⟨_,rfl⟩
 have hX8:Bytes8 X.p:=by rw[hX];exact (hok.run hA _).p
 have hN:Jm n≤200:=QHo n
 have hXl:X.m.length≤1000000000:=by
  have h1:=QGN (X1 (Jm n) ⟨g,ms,ps⟩).1
  have h2:=(QJw (Jm n) ⟨g,ms,ps⟩).1
  rw[hX]
  omega
 obtain⟨hU8,hUl⟩:Bytes8 U.p∧U.m.length≤1000000000:=by
  have h:=unt_ok hA pc (Jm n) hok
  have h1:=QGN (Xw pc (Jm n) ⟨g,ms,ps⟩).1
  rw[hU]
  exact⟨h.1.p,by omega⟩
 refine kX (QI3 hA n wa hok (by omega) (by omega) (hI.on hba) (ht.below hba)) fun e wb ⟨V2,he,h2,hbb⟩=>⟨_,he,?_⟩
 rw[←hX] at h2
 rw[←hsX]
 have h2':=h2
 obtain⟨A2,c2,B2,d2,rfl,-⟩:=h2'
 refine qE [0] (Many.begin wb) fun wc kc=>?_
 have hbc:=kc.touch.below
 have r9:Row wc wb.heap.size 28 (vC X.g A2 X.m c2 B2 X.p d2):=kc.row 0 (vC X.g A2 X.m c2 B2 X.p d2).toList (by kernel_rfl)
 have hac:Below wa.heap.size wa wc:=hbb.trans (hbc.mono hbb.size)
 have hBc:Below w.heap.size w wc:=hba.trans (hac.mono hba.size)
 have r3c:=r3.below hac r3.lt
 have h2c:=h2.on hbc
 -- the document's own Run
 refine coR<|wM (J3 (jT r3c))<|qC (ZQ g A A' ms.length cap ps.length cap' wc) (Many.begin wc) fun wd kd=>qR 1 [] kd fun we ke=>?_
 have hce:=ke.touch.below
 have hBe:=hBc.trans (hce.mono hBc.size)
 refine kX (rrun_any hA n hn2 we hok l80 l40 (hI.on hBe)) fun e wf ⟨V3,he,h3,hbf⟩=>⟨_,he,?_⟩
 rw[←hX] at h3
 rw[←hsX]
 have h3':=h3
 obtain⟨A3,c3,B3,d3,rfl,-⟩:=h3'
 refine qE [0] (Many.begin wf) fun wg kg=>?_
 have hbg:=kg.touch.below
 have r11:Row wg wf.heap.size 34 (vC X.g A3 X.m c3 B3 X.p d3):=kg.row 0 (vC X.g A3 X.m c3 B3 X.p d3).toList (by kernel_rfl)
 have hcg:Below wc.heap.size wc wg:=hce.trans ((hbf.trans (hbg.mono hbf.size)).mono hce.size)
 have hBg:=hBc.trans (hcg.mono hBc.size)
 have r3g:=r3c.below hcg r3c.lt
 have r9g:=r9.below hcg r9.lt
 have h2g:=h2c.on hcg
 have h3g:=h3.on hbg
 -- Until
 refine coR<|wM (J3 (jT r3g))<|qR 2 [] (Many.begin wg) fun wh kh=>?_
 have hgh:=kh.touch.below
 have hBh:=hBg.trans (hgh.mono hBg.size)
 refine kX (QKG hA pc n wh hok (by omega) (by omega) (hI.on hBh) (ht.below hBh)) fun e wi ⟨V4,he,h4,hbi⟩=>⟨_,he,?_⟩
 rw[←hU] at h4
 rw[←hsU]
 have h4':=h4
 obtain⟨A4,c4,B4,d4,rfl,-⟩:=h4'
 refine qE [0] (Many.begin wi) fun wj kj=>?_
 have hbj:=kj.touch.below
 have r13:Row wj wi.heap.size 28 (vC U.g A4 U.m c4 B4 U.p d4):=kj.row 0 (vC U.g A4 U.m c4 B4 U.p d4).toList (by kernel_rfl)
 have hgj:Below wg.heap.size wg wj:=hgh.trans ((hbi.trans (hbj.mono hbi.size)).mono hgh.size)
 have hBj:=hBg.trans (hgj.mono hBg.size)
 have r3j:=r3g.below hgj r3g.lt
 have r9j:=r9g.below hgj r9g.lt
 have r11j:=r11.below hgj r11.lt
 have h2j:=h2g.on hgj
 have h3j:=h3g.on hgj
 have h4j:=h4.on hbj
 -- the document's own Until
 refine coR<|wM (J3 (jT r3j))<|qC (ZQ g A A' ms.length cap ps.length cap' wj) (Many.begin wj) fun wk kk=>qR 2 [] kk fun wl kl=>?_
 have hjl:=kl.touch.below
 have hBl:=hBj.trans (hjl.mono hBj.size)
 refine kX (runt_any hA pc n hn2 wl hok l80 l40 (hI.on hBl)) fun e wm ⟨V5,he,h5,hbm⟩=>⟨_,he,?_⟩
 rw[←hU] at h5
 rw[←hsU]
 have h5':=h5
 obtain⟨A5,c5,B5,d5,rfl,-⟩:=h5'
 refine qE [0] (Many.begin wm) fun wn kn=>?_
 have hbn:=kn.touch.below
 have r15:Row wn wm.heap.size 34 (vC U.g A5 U.m c5 B5 U.p d5):=kn.row 0 (vC U.g A5 U.m c5 B5 U.p d5).toList (by kernel_rfl)
 have hjn:Below wj.heap.size wj wn:=hjl.trans ((hbm.trans (hbn.mono hbm.size)).mono hjl.size)
 have hBn:=hBj.trans (hjn.mono hBj.size)
 have r9n:=r9j.below hjn r9j.lt
 have r11n:=r11j.below hjn r11j.lt
 have r13n:=r13.below hjn r13.lt
 have h2n:=h2j.on hjn
 have h3n:=h3j.on hjn
 have h4n:=h4j.on hjn
 have h5n:=h5.on hbn
 refine coD (w0:=wn) 20 (Below.refl _ _) fun wo ho1 ho2=>qT 0 ho2 (fun w' hS=>J3 (jT (r9n.below hS r9n.lt)))<|qT 2 ho2 (fun w' hS=>J3 (jT (r11n.below hS r11n.lt)))<|ZZ 1 (soC (ZQ X.g A2 B2 X.m.length c2 X.p.length d2 wo) fun e wp ⟨he,hbp⟩=>⟨_,he,ho2.trans (hbp.mono ho2.size),?_⟩)
 have hp2:=ho2.trans (hbp.mono ho2.size)
 refine ZZ 3 (soC (QBO (w:=X) wp (h2n.on hp2) (h3n.on hp2) hX8 hXl) fun e wq ⟨he,hbq⟩=>⟨_,he,hp2.trans (hbq.mono hp2.size),?_⟩)
 have hq2:=hp2.trans (hbq.mono hp2.size)
 refine qM [4,5,6,7] hq2<|Zd 63 (show (sX==sX)=true by simp)<|qM [8,9] hq2<|qT 10 hq2 (fun w' hS=>J3 (jT (r13n.below hS r13n.lt)))<|qT 12 hq2 (fun w' hS=>J3 (jT (r15.below hS r15.lt)))<|ZZ 11 (soC (ZQ U.g A4 B4 U.m.length c4 U.p.length d4 wq) fun e wr ⟨he,hbr⟩=>⟨_,he,hq2.trans (hbr.mono hq2.size),?_⟩)
 have hr2:=hq2.trans (hbr.mono hq2.size)
 refine ZZ 13 (soC (QBO (w:=U) wr (h4n.on hr2) (h5n.on hr2) hU8 hUl) fun e ws ⟨he,hbs⟩=>⟨_,he,hr2.trans (hbs.mono hr2.size),?_⟩)
 have hs2:=hr2.trans (hbs.mono hr2.size)
 exact qM [14,15,16,17,18] hs2<|Zd 74 (show (sU==sU)=true by simp)<|qM [19] hs2<|poE<|qE [] (Many.begin ws) fun wt kt=>JJ<|J8 (.bool true) ⟨rfl,bOn (hBn.trans (hs2.mono hBn.size)) kt⟩
end Go.Proofs.YtkgaeamdhhceiaaGreatDoor
