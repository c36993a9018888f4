/- Contracts and facts that the claim's proof wants (several texts in one). -/
import Derived.Test.YtkenebbjodcbcaaGreatDoorCoH26
namespace Go.Proofs.YtkenebbjodcbcaaGreatDoor
open Go.RowKit
set_option linter.unusedVariables false
set_option linter.unusedSimpArgs false
set_option maxRecDepth 20000
set_option maxHeartbeats 20000000
theorem QIX (g:Rg)(w:World):Calls Tryz.prog 32 #[JH g] w fun e w'=>e=.returned (JH (jt g))∧Below w.heap.size w w':=by
 go_enter Tryz.func32,Tryz.ntmps32
 exact JB<|qQ [] (Many.begin w) fun w1 k1=>qQ [0,0,0,0] k1 fun w2 k2=>qQ [0,0] k2 fun w3 k3=>qQ [0,0] k3 fun w4 k4=>qQ [0,1] k4 fun w5 k5=>JF<|Zk (k5.row 1 (b:=w.heap.size+1) (t:=24) (JJ (jt g)).toList (by kernel_rfl)) ⟨rfl,k5.touch.below⟩
theorem QEJ (c:Cy)(w:World):Calls Tryz.prog 30 #[cyV c] w fun e w'=>e=.returned (atV (at0 c))∧Below w.heap.size w w':=by
 go_enter Tryz.func30,Tryz.ntmps30
 exact JB<|qQ [] (Many.begin w) fun w1 k1=>qQ [0,1] k1 fun w2 k2=>JF<|Zk (k2.row 1 (b:=w.heap.size+1) (t:=31) (atC (at0 c)).toList (by kernel_rfl)) ⟨rfl,k2.touch.below⟩
theorem QB7 (c:CoT)(A:Option Addr)(n cap:Nat)(w:World):Calls Tryz.prog 29 #[coV c (.slice A n cap)] w fun e w'=>e=.returned (.bool c.leaves)∧Below w.heap.size w w':=by
 go_enter Tryz.func29,Tryz.ntmps29
 exact JB<|qQ [] (Many.begin w) fun w1 k1=>qQ [0] k1 fun w2 k2=>JF<|Jj (.bool c.leaves) ⟨rfl,k2.touch.below⟩
theorem QHF (k b:Int)(w:World):Calls Tryz.prog 45 #[.int .i64 k,.int .u8 b] w fun e w'=>e=.returned (.int .u8 (if QAC k=true then 0 else b))∧Below w.heap.size w w':=by
 go_enter Tryz.func45,Tryz.ntmps45
 refine JB<|qQ [] (Many.begin w) fun w1 k1=>coS<|coR<|qR 2 [] k1 fun w2 k2=>?_
 cases h1:(k==3) with
 | true=>exact tell 6 h1<|qE [] k2 fun w3 k3=>coT<|qQ [] k3 fun w4 k4=>JF<|Jp<|Jj (.int .u8 0) ⟨by unfold QAC;rw[h1];rfl,k4.touch.below⟩
 | false =>
   refine tell 6 h1<|qR 3 [] k2 fun w3 k3=>?_
   cases h2:(k==5) with
   | true=>exact tell 9 h2<|qE [] k3 fun w3 k3=>coT<|qQ [] k3 fun w4 k4=>JF<|Jp<|Jj (.int .u8 0) ⟨by unfold QAC;rw[h1,h2];rfl,k4.touch.below⟩
   | false=>exact tell 9 h2<|qE [] k3 fun w3 k3=>coF<|JC<|eoT<|qQ [] k3 fun w4 k4=>JF<|Jj (.int .u8 b) ⟨by unfold QAC;rw[h1,h2];rfl,k4.touch.below⟩
theorem QGL (c:CoT)(A:Option Addr)(n cap:Nat)(v:Bool)(w:World):Calls Tryz.prog 33 #[coV c (.slice A n cap),.bool v] w fun e w'=>e=.returned (coV (c.note v) (.slice A n cap))∧Below w.heap.size w w':=by
 obtain⟨r,wh,got,a,b,nmi,was,off⟩:=c
 go_enter Tryz.func33,Tryz.ntmps33
 cases nmi<;>cases v<;>exact JB<|qQ [] (Many.begin w) fun w1 k1=>qQ [0,0,0] k1 fun w2 k2=>qQ [0] k2 fun w3 k3=>qQ [0,1] k3 fun w4 k4=>JF<|Zk (k4.row 1 (b:=w.heap.size+1) (t:=33) (coC (CoT.note ⟨r,wh,got,a,b,_,was,off⟩ _) (.slice A n cap)).toList (by kernel_rfl)) ⟨rfl,k4.touch.below⟩
@[reducible] def stC (a:AtT)(m:Bool):Array Value:=#[.int .i64 a.c.kind,.int .u16 a.c.addr,.int .u8 a.c.data,.int .i64 a.c.t,.int .i64 a.k,.int .i64 a.w,.bool m]
theorem QLm (c:CoT)(A:Option Addr)(n cap:Nat)(a:AtT)(m:Bool)(b:Int)(w:World):Calls Tryz.prog 34 #[coV c (.slice A n cap),.agg (stC a m),.int .u8 b] w fun e w'=>e=.returned (coV (c.pass a m b) (.slice A n cap))∧Below w.heap.size w w':=by
 go_enter Tryz.func34,Tryz.ntmps34
 refine JB<|qQ [] (Many.begin w) fun w1 k1=>qQ [1,0] k1 fun w2 k2=>?_
 cases m with
 | false=>exact coS<|qQ [1] k2 fun w3 k3=>coF<|JC<|eoT<|qQ [0,2] k3 fun w4 k4=>JF<|Zk (k4.row 2 (b:=w.heap.size+2) (t:=33) (coC (c.pass a false b) (.slice A n cap)).toList (by kernel_rfl)) ⟨rfl,k4.touch.below⟩
 | true =>
   have KA:=fun W=>QHF a.c.kind b W
   obtain⟨y,hy⟩:∃ y,y=(if QAC a.c.kind=true then 0 else b):=⟨_,rfl⟩
   have e:c.pass a true b={ c with a:=a,b:=y }:=by unfold CoT.pass;rw[hy];rfl
   rw[←hy] at KA
   rw[e]
   exact coS<|qQ [1] k2 fun w3 k3=>coT<|coZ<|qR 5 [0] k3 fun w4 k4=>qC (KA w4) k4 fun w5 k5=>qF [0] k5 fun w6 k6=>eoT<|qQ [0,2] k6 fun w7 k7=>JF<|Zk (k7.row 2 (b:=w.heap.size+2) (t:=33) (coC { c with a:=a,b:=y } (.slice A n cap)).toList (by kernel_rfl)) ⟨rfl,k7.touch.below⟩
def QLX (c:CoT)(l:LnT):LnT:=if l.reset=true then { Qr with reset:=true } else if c.off=true then { Qr with bus:=l.bus } else l
theorem QJo (c:CoT)(A:Option Addr)(n cap:Nat)(l:LnT)(w:World):Calls Tryz.prog 41 #[coV c (.slice A n cap),lnV l] w fun e w'=>e=.returned (lnV (QLX c l))∧Below w.heap.size w w':=by
 obtain⟨r,wh,got,a,b,nmi,was,off⟩:=c
 obtain⟨wait,bus,irq,ln,reset⟩:=l
 go_enter Tryz.func41,Tryz.ntmps41
 cases reset with
 | true=>exact JB<|qQ [] (Many.begin w) fun w1 k1=>coS<|qQ [1] k1 fun w2 k2=>coT<|qQ [2] k2 fun w3 k3=>JF<|Jp<|Zk (k3.row 2 (b:=w.heap.size+2) (t:=40) (lnC { Qr with reset:=true }).toList (by kernel_rfl)) ⟨rfl,k3.touch.below⟩
 | false =>
   cases off with
   | true=>exact JB<|qQ [] (Many.begin w) fun w1 k1=>coS<|qQ [1] k1 fun w2 k2=>coF<|JC<|eoT<|coS<|qQ [0] k2 fun w2 k2=>coT<|qQ [1,2] k2 fun w3 k3=>JF<|Jp<|Zk (k3.row 2 (b:=w.heap.size+2) (t:=40) (lnC { Qr with bus:=bus }).toList (by kernel_rfl)) ⟨rfl,k3.touch.below⟩
   | false=>exact JB<|qQ [] (Many.begin w) fun w1 k1=>coS<|qQ [1] k1 fun w2 k2=>coF<|JC<|eoT<|coS<|qQ [0] k2 fun w2 k2=>coF<|JC<|eoT<|qQ [1,2] k2 fun w3 k3=>JF<|Zk (k3.row 2 (b:=w.heap.size+2) (t:=40) (lnC ⟨wait,bus,irq,ln,false⟩).toList (by kernel_rfl)) ⟨rfl,k3.touch.below⟩
theorem QLP (a:AtT)(m:Bool)(w:World):Calls Tryz.prog 366 #[.agg (stC a m)] w fun e w'=>e=.returned (.bool m)∧Below w.heap.size w w':=by
 go_enter Tryz.func366,Tryz.ntmps366
 exact JB<|qQ [] (Many.begin w) fun w1 k1=>qQ [0] k1 fun w2 k2=>JF<|Jj (.bool m) ⟨rfl,k2.touch.below⟩
theorem QQ0 (w:World):Calls Tryz.prog 367 #[.agg #[]] w fun e w'=>e=.returned (.bool false)∧Below w.heap.size w w':=by
 go_enter Tryz.func367,Tryz.ntmps367
 exact JB<|qQ [] (Many.begin w) fun w1 k1=>qQ [] k1 fun w2 k2=>JF<|Jj (.bool false) ⟨rfl,k2.touch.below⟩
theorem QQV (b:Bool)(w:World):Calls Tryz.prog 368 #[.agg #[.bool b]] w fun e w'=>e=.returned (.bool false)∧Below w.heap.size w w':=by
 go_enter Tryz.func368,Tryz.ntmps368
 exact JB<|qQ [] (Many.begin w) fun w1 k1=>qQ [] k1 fun w2 k2=>JF<|Jj (.bool false) ⟨rfl,k2.touch.below⟩
@[reducible] def svC (g:Rg)(v:Int)(A:Option Addr)(n cap:Nat):Array Value:=#[.int .u16 g.af,.int .u16 g.bc,.int .u16 g.de,.int .u16 g.hl,.int .u16 g.af2,.int .u16 g.bc2,.int .u16 g.de2,.int .u16 g.hl2,.int .u16 g.ix,.int .u16 g.iy,.int .u16 g.sp,.int .u16 g.pc,.int .u16 g.wz,.int .u8 g.i,.int .u8 g.r,.bool g.iff1,.bool g.iff2,.bool g.halted,.bool g.late,.int .i64 g.mode,.int .u8 v,.slice A n cap]
@[reducible] def svV (g:Rg)(v:Int)(A:Option Addr)(n cap:Nat):Value:=.agg (svC g v A n cap)
def QFa (pc which:Int):Cy:=if which=1 then ⟨1,pc,0,4⟩ else if which=2 then ⟨6,pc,0,6⟩ else JL
theorem QIP (pc which:Int)(w:World) :
 Calls Tryz.prog 54 #[.int .u16 pc,.int .i64 which] w fun e w'=>e=.returned (.tuple #[cyV (QFa pc which),.bool (which==1||which==2)])∧Below w.heap.size w w':=by
 go_enter Tryz.func54,Tryz.ntmps54
 refine JB<|qQ [] (Many.begin w) fun w1 k1=>coS<|qQ [] k1 fun w2 k2=>coB<|qQ [] k2 fun w3 k3=>coI (which==1) (fun h=>?_) fun h=>qQ [] k3 fun w4 k4=>coI (which==2) (fun h2=>?_) fun h2=>JC<|eoB<|eoT<|qQ [0] k4 fun w5 k5=>JF<|?_
 · refine qQ [0] k3 fun w4 k4=>JF<|Z3<|Jp<|QS1 0 ⟨1,pc,0,4⟩ true w.heap.size k4 ⟨?_,k4.touch.below⟩
   have h':which=1:=by simpa using h
   unfold QFa
   rw[if_pos h',h];rfl
 · refine qQ [0] k4 fun w5 k5=>JF<|Z3<|Jp<|QS1 0 ⟨6,pc,0,6⟩ true w.heap.size k5 ⟨?_,k5.touch.below⟩
   have h':which≠1:=by simpa using h
   have h2':which=2:=by simpa using h2
   unfold QFa
   rw[if_neg h',if_pos h2',h,h2];rfl
 · refine QS1 0 JL false w.heap.size k5 ⟨?_,k5.touch.below⟩
   have h':which≠1:=by simpa using h
   have h2':which≠2:=by simpa using h2
   unfold QFa
   rw[if_neg h',if_neg h2',h,h2];rfl
theorem QCT (c:Cy)(w:World):Calls Tryz.prog 56 #[cyV c] w fun e w'=>e=.returned (QKf c).v∧Below w.heap.size w w':=by
 go_enter Tryz.func56,Tryz.ntmps56
 refine JB<|qQ [] (Many.begin w) fun w1 k1=>qQ [0,1,2] k1 fun w2 k2=>JF<|Zz 1 2 c Ja false (w.heap.size+1) (w.heap.size+2) k2 ⟨rfl,k2.touch.below⟩
theorem QGF (at_:Int)(w:World):Calls Tryz.prog 98 #[.int .u16 at_] w fun e w'=>e=.returned (cyV ⟨2,at_,0,3⟩)∧Below w.heap.size w w':=by
 go_enter Tryz.func98,Tryz.ntmps98
 refine JB<|qQ [] (Many.begin w) fun w1 k1=>qQ [0] k1 fun w2 k2=>JF<|eoC 0 (cyC ⟨2,at_,0,3⟩).toList k2 ⟨rfl,k2.touch.below⟩
theorem QEu (at_ b:Int)(w:World):Calls Tryz.prog 140 #[.int .u16 at_,.int .u8 b] w fun e w'=>e=.returned (cyV ⟨3,at_,b,3⟩)∧Below w.heap.size w w':=by
 go_enter Tryz.func140,Tryz.ntmps140
 refine JB<|qQ [] (Many.begin w) fun w1 k1=>qQ [0] k1 fun w2 k2=>JF<|eoC 0 (cyC ⟨3,at_,b,3⟩).toList k2 ⟨rfl,k2.touch.below⟩
theorem QGb (g:Rg)(v:Int)(A:Option Addr)(n cap:Nat)(aim:Int)(w:World):Calls Tryz.prog 95 #[svV g v A n cap,.int .u16 aim] w fun e w'=>e=.returned (QJP (X4 g aim)).v∧Below w.heap.size w w':=by
 go_enter Tryz.func95,Tryz.ntmps95
 refine JB<|qQ [] (Many.begin w) fun w1 k1=>qQ [0,0] k1 fun w2 k2=>qQ [0,0] k2 fun w3 k3=>qP 4 k3 fun w4 k4=>qD 0 [0,1,2] k4<|jn 3<|soZ 1 (w.heap.size+1) k4 fun w4 k4=>poE<|qE [2] k4 fun w5 k5=>JF<|Zz 1 2 JL (X4 g aim) true (w.heap.size+1) (w.heap.size+2) k5 ⟨rfl,k5.touch.below⟩
def QTP (w:World)(l:List Cy)(e:Ending)(w':World):Prop:=∃ b,e=.returned (.slice (some ⟨b,0,none⟩) 3 3)∧w.heap.size≤b∧Row w' b 29 (Qi l).toArray∧Below w.heap.size w w'
theorem bs3Y (c d e:Cy)(w:World):(Instr.buildSlice 99 3 #[(0,cyV c),(1,cyV d),(2,cyV e)]).run Tryz.prog w=.ok (.slice (some ⟨w.heap.size,0,none⟩) 3 3) (w.alloc (.cells (Qi [c,d,e]).toArray 29)):=by simp[go_sem,Qi]
theorem bs2Y (c d:Cy)(w:World):(Instr.buildSlice 99 2 #[(0,cyV c),(1,cyV d)]).run Tryz.prog w=.ok (.slice (some ⟨w.heap.size,0,none⟩) 2 2) (w.alloc (.cells (Qi [c,d]).toArray 29)):=by simp[go_sem,Qi]
theorem QJg (c:Cy)(w:World):(Instr.buildSlice 99 1 #[(0,cyV c)]).run Tryz.prog w=.ok (.slice (some ⟨w.heap.size,0,none⟩) 1 1) (w.alloc (.cells (Qi [c]).toArray 29)):=by simp[go_sem,Qi]
theorem QFy (g:Rg)(hp:0≤g.pc∧g.pc≤65535)(v:Int)(A:Option Addr)(n cap:Nat)(w:World):Calls Tryz.prog 94 #[svV g v A n cap] w (QTP w (Q7 g.sp g.pc)):=by
 go_enter Tryz.func94,Tryz.ntmps94
 refine JB<|qQ [] (Many.begin w) fun w1 k1=>?_
 refine qP 19 k1 fun w2 k2=>?_
 refine qD 0 [0,1,2,3,4,5,6,7,10,11,12,13,14,15,16] k2 ?_
 refine qDe 8 (qy g.pc hp.1 hp.2 w2) k2 fun w3 k3=>qDc 9 (QEu ((g.sp-1)%65536) (g.pc / 256) w3) k3 fun w4 k4=>qDe 17 (qK g.pc hp.1 hp.2 w4) k4 fun w5 k5=>qDc 18 (QEu ((g.sp-2)%65536) (g.pc%256) w5) k5 fun w6 k6=>poE ?_
 refine wM (jd (bs3Y ⟨7,0,0,1⟩ ⟨3,(g.sp-1)%65536,g.pc / 256,3⟩ ⟨3,(g.sp-2)%65536,g.pc%256,3⟩ w6)) ?_
 refine qE [] (Many.begin _) fun w7 k7=>JF<|Jj (.slice (some ⟨w6.heap.size,0,none⟩) 3 3) ⟨w6.heap.size,rfl,k6.touch.size,(Row.new w6 29 (Qi (Q7 g.sp g.pc)).toArray).below k7.touch.below (Row.new w6 _ _).lt,bOn (jq k6.touch.below _) k7⟩
theorem QDV (g:Rg)(hp:0≤g.pc∧g.pc≤65535)(v:Int)(A:Option Addr)(n cap:Nat)(hn:n≤1000000000)(aim:Int)(w:World):Calls Tryz.prog 77 #[svV g v A n cap,.int .u16 aim] w fun e w'=>e=.returned (Qj (Q7 g.sp g.pc) (X4 g aim) n).v∧Below w.heap.size w w':=by
 go_enter Tryz.func77,Tryz.ntmps77
 refine JB<|qQ [] (Many.begin w) fun w1 k1=>coR<|qR 1 [0] k1 fun w2 k2=>kX (QFy g hp v A n cap w2) ?_
 rintro e w3 ⟨b,rfl,hb,hrow,hB⟩
 have k3:=(k2.below hB).add hrow (Nat.le_trans k2.touch.size hb) fun i r hi=>Nat.ne_of_lt (Nat.lt_of_lt_of_le (k2.lt i r hi) hb)
 refine⟨_,rfl,qE [] k3 fun w4 k4=>coS<|qQ [0] k4 fun w5 k5=>coI (decide ((n:Int) < 3)) (fun h=>?_) fun h=>JC<|eoT<|coR<|qR 2 [0] k5 fun w6 k6=>qC (QGb g v A n cap aim w6) k6 fun w7 k7=>qE [1,2] k7 fun w8 k8=>JF<|Zz 1 2 JL (X4 g aim) true (w.heap.size+1) (w.heap.size+2) k8 ⟨?_,k8.touch.below⟩⟩
 · have h3:n < 3:=by have:(n:Int) < 3:=by simpa using h
                     omega
   have h3':n < (Q7 g.sp g.pc).length:=h3
   refine coR<|qR 4 [0] k5 fun w6 k6=>wM (jG (QTK ⟨b,0,none⟩ 3 3 n h3 w6))<|wM (qb (CysIn.ld (QAl (b:=b) (t:=29) (k6.row 3 (Qi (Q7 g.sp g.pc)) (by kernel_rfl))) h3'))<|qC (QCT (Q7 g.sp g.pc)[n] _) k6 fun w7 k7=>qE [1,2] k7 fun w8 k8=>JF<|Jp<|Zz 1 2 (Q7 g.sp g.pc)[n] Ja false (w.heap.size+1) (w.heap.size+2) k8 ⟨?_,k8.touch.below⟩
   unfold Qj
   rw[if_pos h3',List.getD_eq_getElem?_getD,List.getElem?_eq_getElem h3']
   rfl
 · have h3:¬n < 3:=by have:¬(n:Int) < 3:=by simpa using h
                      omega
   unfold Qj
   rw[if_neg (show ¬n < (Q7 g.sp g.pc).length from h3)]
   rfl
theorem QQs (g:Rg)(hp:0≤g.pc∧g.pc≤65535)(v:Int)(A:Option Addr)(n cap:Nat)(hn:n≤1000000000)(w:World):Calls Tryz.prog 58 #[svV g v A n cap] w fun e w'=>e=.returned (Qj (Q7 g.sp g.pc) (X4 { g with iff1:=false } 102) n).v∧Below w.heap.size w w':=by
 go_enter Tryz.func58,Tryz.ntmps58
 obtain⟨T,hT⟩:∃ T,T=Qj (Q7 g.sp g.pc) (X4 { g with iff1:=false } 102) n:=⟨_,rfl⟩
 have K:=fun w=>QDV { g with iff1:=false } hp v A n cap hn 102 w
 dsimp only at K
 rw[←hT] at K ⊢
 refine JB<|qQ [] (Many.begin w) fun w1 k1=>qQ [0] k1 fun w2 k2=>coR<|qR 1 [0] k2 fun w3 k3=>qC (K w3) k3 fun w4 k4=>qE [1,2] k4 fun w5 k5=>JF<|Zz 1 2 T.c T.g T.b (w.heap.size+1) (w.heap.size+2) k5 ⟨rfl,k5.touch.below⟩
theorem QMb (g:Rg)(hp:0≤g.pc∧g.pc≤65535)(v:Int)(A:Option Addr)(n cap:Nat)(hn:n≤1000000000)(w:World):Calls Tryz.prog 79 #[svV g v A n cap] w fun e w'=>e=.returned (Qj (Q7 g.sp g.pc) (X4 g 56) n).v∧Below w.heap.size w w':=by
 go_enter Tryz.func79,Tryz.ntmps79
 obtain⟨T,hT⟩:∃ T,T=Qj (Q7 g.sp g.pc) (X4 g 56) n:=⟨_,rfl⟩
 have K:=fun w=>QDV g hp v A n cap hn 56 w
 rw[←hT] at K ⊢
 refine JB<|qQ [] (Many.begin w) fun w1 k1=>coR<|qR 1 [0] k1 fun w3 k3=>qC (K w3) k3 fun w4 k4=>qE [1,2] k4 fun w5 k5=>JF<|Zz 1 2 T.c T.g T.b (w.heap.size+1) (w.heap.size+2) k5 ⟨rfl,k5.touch.below⟩
theorem QMj (g:Rg)(hg:RgB g)(v:Int)(ys:List Int)(A:Option Addr)(cap:Nat)(hc:ys.length+1≤cap)(w:World)(hin:BytesIn w w.heap.size A (v :: ys)):Calls Tryz.prog 57 #[JH g,.slice A (v :: ys).length cap] w fun e w'=>e=.returned (svV (ZI { g with halted:=false,late:=false } 1) v (if cap=1 then A else A.map (·.add 1)) ys.length (cap-1))∧Below w.heap.size w w':=by
 go_enter Tryz.func57,Tryz.ntmps57
 obtain⟨p,rfl⟩:=hin.addr (k:=0) (by simp)
 refine JB<|qQ [] (Many.begin w) fun w1 k1=>qQ [0,0] k1 fun w2 k2=>qP 8 k2 fun w3 k3=>qD 0 [0,2,5] k3<|qT 3 k3 (fun w' _=>jG (ixB p (v :: ys).length cap 0 (by simp) _))<|qT 4 k3 (fun w' hS=>qb (BytesIn.ld (hin.below hS.touch.below) (k:=0) (by simp)))<|qT 6 k3 (fun w' hS=>QOl (QLA (some p) (v :: ys).length cap (by simp) hc _))<|qDc 1 (QIJ { g with halted:=false,late:=false } 1 hg.r w3) k3 fun w4 k4=>qM [7] k4<|poE<|qE [1] k4 fun w5 k5=>JF<|eoC 1 (svC (ZI { g with halted:=false,late:=false } 1) v (if cap=1 then some p else (some p).map (·.add 1)) ys.length (cap-1)).toList k5 ⟨rfl,k5.touch.below⟩
theorem QOi {ys:List Int}(h:Bytes8 ys){k:Nat}(hk:k < ys.length):B8 ys[k]:=h _ (List.getElem_mem hk)
def QE5 (g:Rg)(v:Int)(ys:List Int):T3:=Qj (Q7 g.sp g.pc++Z1 (256*g.i+v)) (X4 g (256*ys.getD 4 0+ys.getD 3 0)) ys.length
theorem QJV (g:Rg)(hp:0≤g.pc∧g.pc≤65535)(hi:B8 g.i)(v:Int)(hv:B8 v)(A:Option Addr)(cap:Nat)(ys:List Int)(h8:Bytes8 ys)(hl:ys.length≤1000000000)(w:World)(hin:BytesIn w w.heap.size A ys):Calls Tryz.prog 80 #[svV g v A ys.length cap] w fun e w'=>e=.returned (QE5 g v ys).v∧Below w.heap.size w w':=by
 go_enter Tryz.func80,Tryz.ntmps80
 refine JB<|qQ [] (Many.begin w) fun w1 k1=>coR<|qR 1 [0] k1 fun w2 k2=>kX (QFy g hp v A ys.length cap w2) ?_
 rintro e w3 ⟨b,rfl,hb,hrow,hB⟩
 have k3:=(k2.below hB).add hrow (Nat.le_trans k2.touch.size hb) fun i r hi=>Nat.ne_of_lt (Nat.lt_of_lt_of_le (k2.lt i r hi) hb)
 have h2b:w.heap.size+2 < b:=Nat.lt_of_lt_of_le (k2.lt 2 ⟨w.heap.size+2,24,(JJ Ja).toList.map some⟩ (by kernel_rfl)) hb
 have hwb:w.heap.size≤b:=Nat.le_trans k2.touch.size hb
 refine⟨_,rfl,qE [] k3 fun w4 k4=>coR<|qR 5 [0,0] k4 fun w5 k5=>qCe (J1 g.i v hi.1 hi.2 hv.1 hv.2 w5)<|qE [] k5 fun w6 k6=>qQ [] k6 fun w7 k7=>qQ [] k7 fun w8 k8=>coR<|qR 2 [] k8 fun w9 k9=>qC (QGF (256*g.i+v) w9) k9 fun w10 k10=>qR 2 [] k10 fun w11 k11=>qC (QGF ((256*g.i+v+1)%65536) w11) k11 fun w12 k12=>wM (jd (bs2Y ⟨2,256*g.i+v,0,3⟩ ⟨2,(256*g.i+v+1)%65536,0,3⟩ w12))<|?_⟩
 have rA:=k12.row 3 (b:=b) (t:=29) (Qi (Q7 g.sp g.pc)) (by kernel_rfl)
 have kA:=(k12.take 3 [⟨w.heap.size,107,(svC g v A ys.length cap).toList.map some⟩,⟨w.heap.size+1,29,(cyC JL).toList.map some⟩,⟨w.heap.size+2,24,(JJ Ja).toList.map some⟩]).allocO (.cells (Qi (Z1 (256*g.i+v))).toArray 29)
 have hb12:b≤w12.heap.size:=Nat.le_of_lt rA.lt
 refine qAy (.tmp 21) (.tmp 27) b _ (.slice (some ⟨b,0,none⟩) 3 3) 3 (Q7 g.sp g.pc) ⟨w12.heap.size,0,none⟩ 2 2 (Z1 (256*g.i+v)) (Nat.le_trans hb12 (by simp)) ((QFW 3 rA (Nat.le_refl b) rfl (by omega)).alloc _) (QAf w12 (Z1 (256*g.i+v)) _) rfl (by omega) fun v' w13 own' hg=>?_
 have hA:=kA.grown (b:=b) hg hwb (q5 (by omega) (by omega) (by omega))
 obtain⟨l5,hl5⟩:∃ l,l=Q7 g.sp g.pc++Z1 (256*g.i+v):=⟨_,rfl⟩
 have e5:l5.length=5:=by rw[hl5];rfl
 have hT:QE5 g v ys=Qj l5 (X4 g (256*ys.getD 4 0+ys.getD 3 0)) ys.length:=by rw[hl5];rfl
 rw[←hl5] at own'
 rcases own'.2 with ⟨-,e0⟩|⟨g',c',cur,rfl,hbg,hh,hle,hmx,hcs,htk⟩
 · cases e0
 clear kA rA k12 k11 k10 k9 k8 k7 k6 k5 k4 k3 k2 k1 own' hg
 have hC:=hA.add (b:=g') (t:=29) (cells:=cur) hh (Nat.le_trans hwb hbg) (q5 (by omega) (by omega) (by omega))
 refine qE [] hC fun w14 k14=>coS<|qQ [0] k14 fun w15 k15=>coI (decide ((ys.length:Int) < 5)) (fun h=>?_) fun h=>JC<|eoT<|?_
 · have h3:ys.length < l5.length:=by have:(ys.length:Int) < 5:=by simpa using h
                                     omega
   refine coR<|qR 4 [0] k15 fun w16 k16=>?_
   have hcy:=QDo _ (k16.row 3 (b:=g') (t:=29) cur.toList (by kernel_rfl)) htk
   refine wM (jG (QTK ⟨g',0,none⟩ 5 c' ys.length (by omega) w16))<|wM (qb (hcy.ld h3))<|qC (QCT l5[ys.length] w16) k16 fun w17 k17=>qE [1,2] k17 fun w18 k18=>JF<|Jp<|Zz 1 2 l5[ys.length] Ja false (w.heap.size+1) (w.heap.size+2) k18 ⟨?_,k18.touch.below⟩
   rw[hT]
   unfold Qj
   rw[if_pos h3,List.getD_eq_getElem?_getD,List.getElem?_eq_getElem h3]
   rfl
 · have h3:¬ys.length < l5.length:=by have:¬(ys.length:Int) < 5:=by simpa using h
                                      omega
   have h4:4 < ys.length:=by omega
   obtain⟨p,rfl⟩:=hin.addr h4
   have e3:ys.getD 3 0=ys[3]:=by rw[List.getD_eq_getElem?_getD,List.getElem?_eq_getElem (by omega)];rfl
   have e4:ys.getD 4 0=ys[4]:=by rw[List.getD_eq_getElem?_getD,List.getElem?_eq_getElem (by omega)];rfl
   have b3:=QOi h8 (k:=3) (by omega)
   have b4:=QOi h8 h4
   refine qP 16 k15 fun w16 k16=>qD 0 [0,1,2,3] k16<|qT 4 k16 (fun w' _=>jG (ixB p ys.length cap 4 h4 _))<|qT 5 k16 (fun w' hS=>qb (BytesIn.ld (hin.below hS.touch.below) h4))<|qD 0 [6,7,8] k16<|qT 9 k16 (fun w' _=>jG (ixB p ys.length cap 3 (by omega) _))<|qT 10 k16 (fun w' hS=>qb (BytesIn.ld (hin.below hS.touch.below) (k:=3) (by omega)))<|qDe 11 (J1 ys[4] ys[3] b4.1 b4.2 b3.1 b3.2 w16) k16 fun w17 k17=>qDc 12 (QGb g v (some p) ys.length cap (256*ys[4]+ys[3]) w17) k17 fun w18 k18=>qM [13,14,15] k18<|poE<|qE [1,2] k18 fun w19 k19=>JF<|Zz 1 2 JL (X4 g (256*ys[4]+ys[3])) true (w.heap.size+1) (w.heap.size+2) k19 ⟨?_,k19.touch.below⟩
   rw[hT]
   unfold Qj
   rw[if_neg h3,e3,e4]
   rfl
def QCW (g:Rg)(v:Int)(ys:List Int):T3:=if Z2 v=true then QJP g else ofX (Xx g v ys)
theorem QDY (g:Rg)(hg:RgB g)(v:Int)(hv:B8 v)(A:Option Addr)(cap:Nat)(ys:List Int)(hc:ys.length≤cap)(h8:Bytes8 ys)(w:World)(hin:BytesIn w w.heap.size A ys)(ht:Tabs w w.heap.size):Calls Tryz.prog 78 #[svV g v A ys.length cap] w fun e w'=>e=.returned (QCW g v ys).v∧Below w.heap.size w w':=by
 go_enter Tryz.func78,Tryz.ntmps78
 obtain⟨T,hT⟩:∃ T,T=ofX (Xx g v ys):=⟨_,rfl⟩
 have K:∀ W,Below w.heap.size w W→Calls Tryz.prog 96 #[JH g,.int .u8 v,.slice A ys.length cap] W fun e w'=>e=.returned T.v∧Below W.heap.size W w':=by rw[hT];exact QMc g hg v hv A cap ys hc h8 w hin ht
 have hq:Z2 v=(v==203||(v==221||(v==237||v==253))):=rfl
 have hend:Z2 v=true→(QCW g v ys).v=(QJP g).v:=fun h=>by unfold QCW;rw[if_pos h]
 have hgo:Z2 v=false→(QCW g v ys).v=T.v:=fun h=>by unfold QCW;rw[if_neg (by rw[h];simp),hT]
 refine JB<|qQ [] (Many.begin w) fun w1 k1=>coS<|qQ [0] k1 fun w2 k2=>coB<|coS<|qQ [] k2 fun w3 k3=>coI (v==203) (fun h=>JC<|eoT<|coJ (v==203) (fun e=>by rw[h] at e;cases e) fun _=>?_) fun h1=>qQ [] k3 fun w3 k3=>coI (v==221) (fun h=>JC<|eoT<|coJ (v==221) (fun e=>by rw[h] at e;cases e) fun _=>?_) fun h2=>qQ [] k3 fun w3 k3=>coI (v==237) (fun h=>JC<|eoT<|coJ (v==237) (fun e=>by rw[h] at e;cases e) fun _=>?_) fun h3=>coZ<|qF [] k3 fun w3 k3=>eoT<|coI (v==253) (fun h=>?_) fun h4=>JC<|eoB<|eoT<|coR<|qR 6 [0,0,0] k3 fun w4 k4=>qC (K w4 k4.touch.below) k4 fun w5 k5=>qE [1,2] k5 fun w6 k6=>JF<|Zz 1 2 T.c T.g T.b (w.heap.size+1) (w.heap.size+2) k6 ⟨by rw[hgo (by rw[hq,h1,h2,h3,h4];rfl)];rfl,k6.touch.below⟩
 all_goals exact qP 4 k3 fun w4 k4=>qD 0 [0,1,2] k4<|jn 3<|soZ 1 (w.heap.size+1) k4 fun w4 k4=>poE<|qE [2] k4 fun w5 k5=>JF<|Z3<|Jp<|Zz 1 2 JL g true (w.heap.size+1) (w.heap.size+2) k5 ⟨by rw[hend (by rw[hq,h];simp)];rfl,k5.touch.below⟩
abbrev fnS (f:FuncId)(s:Value):Value:=.func (.func f) #[s] #[]
def QKS (s:Value):List MapEntry:=[{ key:=.int .i64 0,val:=fnS 78 s,born:=0 },{ key:=.int .i64 1,val:=fnS 79 s,born:=1 },{ key:=.int .i64 2,val:=fnS 80 s,born:=2 }]
theorem QN9 (s:Value){m:Int}(h0:m≠0)(h1:m≠1)(h2:m≠2):Instr.findNow (.int .i64) (.int .i64 m) (QKS s) 0=some none:=by
 have e0:(m==0)=false:=by simpa using h0
 have e1:(m==1)=false:=by simpa using h1
 have e2:(m==2)=false:=by simpa using h2
 simp only[QKS,Instr.findNow,Instr.sameNow,e0,e1,e2,if_true]
def QBX (g:Rg)(v:Int)(ys:List Int):T3:=if g.mode=0 then QCW g v ys else if g.mode=1 then Qj (Q7 g.sp g.pc) (X4 g 56) ys.length else QE5 g v ys
theorem QMo (g0:Rg)(hg:RgB g0)(v:Int)(hv:B8 v)(A:Option Addr)(cap:Nat)(ys:List Int)(hc:ys.length≤cap)(h8:Bytes8 ys)(hl:ys.length≤1000000000)(w:World)(hin:BytesIn w w.heap.size A ys)(ht:Tabs w w.heap.size):Calls Tryz.prog 59 #[svV g0 v A ys.length cap] w fun e w'=>e=.returned (QBX { g0 with iff1:=false,iff2:=false } v ys).v∧Below w.heap.size w w':=by
 go_enter Tryz.func59,Tryz.ntmps59
 obtain⟨g,hgE⟩:∃ g:Rg,g={ g0 with iff1:=false,iff2:=false }:=⟨_,rfl⟩
 have hb:RgB g:=by rw[hgE];exact⟨hg.af,hg.bc,hg.de,hg.hl,hg.af2,hg.bc2,hg.de2,hg.hl2,hg.ix,hg.iy,hg.sp,hg.pc,hg.wz,hg.i,hg.r,hg.mode⟩
 have hs:svV { g0 with iff1:=false,iff2:=false } v A ys.length cap=svV g v A ys.length cap:=by rw[hgE]
 have hm:g.mode=g0.mode:=by rw[hgE]
 obtain⟨T,hT⟩:∃ T,T=QBX g v ys:=⟨_,rfl⟩
 have eT:QBX { g0 with iff1:=false,iff2:=false } v ys=T:=by rw[hT,hgE]
 rw[eT]
 have K0:g.mode=0→∀ W,Below w.heap.size w W→Calls Tryz.prog 78 #[svV { g0 with iff1:=false,iff2:=false } v A ys.length cap] W fun e w'=>e=.returned T.v∧Below W.heap.size W w':=fun h W hW=>by
  have:=QDY g hb v hv A cap ys hc h8 W ((hin.below hW).more hW.size) (ht.below hW)
  rw[hs,hT];unfold QBX;rwa [if_pos h]
 have K1:g.mode=1→∀ W,Calls Tryz.prog 79 #[svV { g0 with iff1:=false,iff2:=false } v A ys.length cap] W fun e w'=>e=.returned T.v∧Below W.heap.size W w':=fun h W=>by
  have:=QMb g hb.pc v A ys.length cap hl W
  rw[hs,hT];unfold QBX;rwa [if_neg (by omega),if_pos h]
 have K2:g.mode≠0→g.mode≠1→∀ W,Below w.heap.size w W→Calls Tryz.prog 80 #[svV { g0 with iff1:=false,iff2:=false } v A ys.length cap] W fun e w'=>e=.returned T.v∧Below W.heap.size W w':=fun h h' W hW=>by
  have:=QJV g hb.pc hb.i v hv A cap ys h8 hl W ((hin.below hW).more hW.size)
  rw[hs,hT];unfold QBX;rwa [if_neg h,if_neg h']
 rw[hm] at K0 K1 K2
 clear hT eT hs hb hm hgE
 obtain⟨S,hS⟩:∃ S,S=svV { g0 with iff1:=false,iff2:=false } v A ys.length cap:=⟨_,rfl⟩
 refine JB<|qQ [] (Many.begin w) fun w1 k1=>qQ [0,0] k1 fun w2 k2=>coR<|wM (QOS (run_makeMap _ w2))<|?_
 obtain⟨M,hM⟩:∃ M,M=w2.heap.size:=⟨_,rfl⟩
 have hw2:w.heap.size+2 < M:=by rw[hM];exact k2.lt 2 ⟨w.heap.size+2,24,(JJ Ja).toList.map some⟩ (by kernel_rfl)
 have nin:M ∉ [w.heap.size,w.heap.size+1,w.heap.size+2]:=fun h=>by simp only[List.mem_cons,List.not_mem_nil,or_false] at h;omega
 have hL0:∀ b∈[w.heap.size,w.heap.size+1,w.heap.size+2],w.heap.size≤b:=fun b h=>by simp only[List.mem_cons,List.not_mem_nil,or_false] at h;omega
 have hne:∀ b∈[w.heap.size,w.heap.size+1,w.heap.size+2],b≠M:=fun b h=>by simp only[List.mem_cons,List.not_mem_nil,or_false] at h;omega
 have m1:(w2.alloc (.map #[] 0)).heap[M]? = some (.map #[] 0):=by rw[hM];exact World.alloc_heap_new w2 _
 have B1:=jq k2.touch.below (.map #[] 0)
 have lt1:M < (w2.alloc (.map #[] 0)).heap.size:=(Array.getElem?_eq_some_iff.1 m1).1
 have kb1:=(k2.allocO (.map #[] 0)).rebaseL [w.heap.size,w.heap.size+1,w.heap.size+2]
 rw[←hM]
 generalize w2.alloc (.map #[] 0)=W1 at *
 refine qR 2 [0] kb1 fun w3 k3=>?_
 have m3:=(k3.touch.block M lt1 nin).trans m1
 have B3:=k3.touch.underL B1 hL0 B1.size
 obtain⟨w4,r4,m4,g4⟩:=qU w3 121 _ _ Tryz.underlying121 Tryz.underlying3 [] 0 0 (fnS 78 (svV { g0 with iff1:=false,iff2:=false } v A ys.length cap)) M m3 rfl
 refine wD (QHr r4) ?_
 have B4:=QBV B3 g4 (by omega) B3.size
 have kb4:=k3.anewL g4 [w.heap.size,w.heap.size+1,w.heap.size+2] hne
 have lt4:=(Array.getElem?_eq_some_iff.1 m4).1
 refine qR 2 [0] kb4 fun w5 k5=>?_
 have m5:=(k5.touch.block M lt4 nin).trans m4
 have B5:=k5.touch.underL B4 hL0 B4.size
 obtain⟨w6,r6,m6,g6⟩:=qU w5 121 _ _ Tryz.underlying121 Tryz.underlying3 _ 1 1 (fnS 79 (svV { g0 with iff1:=false,iff2:=false } v A ys.length cap)) M m5 rfl
 refine wD (QHr r6) ?_
 have B6:=QBV B5 g6 (by omega) B5.size
 have kb6:=k5.anewL g6 [w.heap.size,w.heap.size+1,w.heap.size+2] hne
 have lt6:=(Array.getElem?_eq_some_iff.1 m6).1
 refine qR 2 [0] kb6 fun w7 k7=>?_
 have m7:=(k7.touch.block M lt6 nin).trans m6
 have B7:=k7.touch.underL B6 hL0 B6.size
 obtain⟨w8,r8,m8,g8⟩:=qU w7 121 _ _ Tryz.underlying121 Tryz.underlying3 _ 2 2 (fnS 80 (svV { g0 with iff1:=false,iff2:=false } v A ys.length cap)) M m7 rfl
 refine wD (QHr r8) ?_
 have B8':=QBV B7 g8 (by omega) B7.size
 have kb8:=k7.anewL g8 [w.heap.size,w.heap.size+1,w.heap.size+2] hne
 have lt8:=(Array.getElem?_eq_some_iff.1 m8).1
 have m8:w8.heap[M]? = some (.map (QKS (svV { g0 with iff1:=false,iff2:=false } v A ys.length cap)).toArray 3):=m8
 clear r4 r6 r8 m1 m3 m4 m5 m6 m7 g4 g6 g8 B1 B3 B4 B5 B6 B7 kb1 kb4 kb6 k1 k2 k3 k5 k7 lt1 lt4 lt6 hM
 refine qE [] kb8 fun w9 k9=>coR<|qR 4 [0] k9 fun wA kA=>?_
 have mA:=(kA.touch.block M lt8 nin).trans m8
 have BA:=kA.touch.underL B8' hL0 B8'.size
 have ht:=Tryz.underlying121
 have hk:=Tryz.underlying3
 by_cases h0:g0.mode=0
 · refine wM (QDv (V:=.map (some M)) (W:=.int .i64 g0.mode) (by rw[h0];exact QR ht hk mA rfl))<|qE [] kA fun wB kB=>coS<|qQ [] kB fun wC kC=>coF<|JC<|eoT<|coR<|qR 1 [] kC fun wD kD=>qC (K0 h0 wD (kD.touch.underL B8' hL0 B8'.size)) kD fun wE kE=>qE [1,2] kE fun wF kF=>JF<|Zz 1 2 T.c T.g T.b (w.heap.size+1) (w.heap.size+2) kF ⟨rfl,kF.touch.underL B8' hL0 B8'.size⟩
 by_cases h1:g0.mode=1
 · refine wM (QDv (V:=.map (some M)) (W:=.int .i64 g0.mode) (by rw[h1];exact QR ht hk mA rfl))<|qE [] kA fun wB kB=>coS<|qQ [] kB fun wC kC=>coF<|JC<|eoT<|coR<|qR 1 [] kC fun wD kD=>qC (K1 h1 wD) kD fun wE kE=>qE [1,2] kE fun wF kF=>JF<|Zz 1 2 T.c T.g T.b (w.heap.size+1) (w.heap.size+2) kF ⟨rfl,kF.touch.underL B8' hL0 B8'.size⟩
 by_cases h2:g0.mode=2
 · refine wM (QDv (V:=.map (some M)) (W:=.int .i64 g0.mode) (by rw[h2];exact QR ht hk mA rfl))<|qE [] kA fun wB kB=>coS<|qQ [] kB fun wC kC=>coF<|JC<|eoT<|coR<|qR 1 [] kC fun wD kD=>qC (K2 h0 h1 wD (kD.touch.underL B8' hL0 B8'.size)) kD fun wE kE=>qE [1,2] kE fun wF kF=>JF<|Zz 1 2 T.c T.g T.b (w.heap.size+1) (w.heap.size+2) kF ⟨rfl,kF.touch.underL B8' hL0 B8'.size⟩
 · refine wM (QDv (V:=.map (some M)) (W:=.int .i64 g0.mode) (qr (z:=.nilFunc) ht hk mA (QN9 _ h0 h1 h2) (by kernel_rfl)))<|qE [] kA fun wB kB=>coS<|qQ [] kB fun wC kC=>coT<|coZ<|qF [0] kC fun wC kC=>eoT<|coR<|qR 1 [] kC fun wD kD=>qC (K2 h0 h1 wD (kD.touch.underL B8' hL0 B8'.size)) kD fun wE kE=>qE [1,2] kE fun wF kF=>JF<|Zz 1 2 T.c T.g T.b (w.heap.size+1) (w.heap.size+2) kF ⟨rfl,kF.touch.underL B8' hL0 B8'.size⟩
theorem QMq (g:Rg)(nmi irq:Bool)(w:World):Calls Tryz.prog 62 #[JH g,.bool nmi,.bool irq] w fun e w'=>e=.returned (.int .i64 (ZS g nmi irq))∧Below w.heap.size w w':=by
 go_enter Tryz.func62,Tryz.ntmps62
 refine JB<|qQ [] (Many.begin w) fun w1 k1=>coS<|qQ [] k1 fun w2 k2=>coI nmi (fun h=>qQ [] k2 fun w3 k3=>JF<|Jp<|Jj (.int .i64 1) ⟨?_,k3.touch.below⟩) fun h=>JC<|eoT<|coS<|coR<|qR 2 [] k2 fun w3 k3=>?_
 · unfold ZS;rw[h];rfl
 cases irq with
 | false=>exact qE [] k3 fun w4 k4=>coF<|JC<|eoT<|qQ [] k4 fun w5 k5=>JF<|Jj (.int .i64 0) ⟨by unfold ZS;rw[h];rfl,k5.touch.below⟩
 | true =>
   refine qR 4 [0] k3 fun w4 k4=>?_
   cases hi:g.iff1 with
   | false=>exact tell 12 hi<|tell 13 hi<|qE [] k4 fun w5 k5=>coF<|JC<|eoT<|qQ [] k5 fun w5 k5=>JF<|Jj (.int .i64 0) ⟨by unfold ZS;rw[h,hi];rfl,k5.touch.below⟩
   | true =>
     refine tell 12 hi<|tell 13 hi<|qE [0] k4 fun w5 k5=>coI (!g.late) (fun hl=>qQ [] k5 fun w6 k6=>JF<|Jp<|Jj (.int .i64 2) ⟨by unfold ZS;rw[h,hi,hl];rfl,k6.touch.below⟩) fun hl=>JC<|eoT<|qQ [] k5 fun w6 k6=>JF<|Jj (.int .i64 0) ⟨by unfold ZS;rw[h,hi,hl];rfl,k6.touch.below⟩
theorem QKE (g:Rg)(nmi irq:Bool)(w:World):Calls Tryz.prog 47 #[JH g,.bool nmi,.bool irq] w fun e w'=>e=.returned (.int .i64 (ZS g nmi irq))∧Below w.heap.size w w':=by
 go_enter Tryz.func47,Tryz.ntmps47
 refine JB<|qQ [] (Many.begin w) fun w1 k1=>coS<|qQ [] k1 fun w2 k2=>coI nmi (fun h=>qQ [] k2 fun w3 k3=>JF<|Jp<|Jj (.int .i64 1) ⟨?_,k3.touch.below⟩) fun h=>JC<|eoT<|coS<|coR<|qR 2 [] k2 fun w3 k3=>?_
 · unfold ZS;rw[h];rfl
 cases irq with
 | false=>exact qE [] k3 fun w4 k4=>coF<|JC<|eoT<|qQ [] k4 fun w5 k5=>JF<|Jj (.int .i64 0) ⟨by unfold ZS;rw[h];rfl,k5.touch.below⟩
 | true =>
   refine qR 4 [0] k3 fun w4 k4=>?_
   cases hi:g.iff1 with
   | false=>exact tell 12 hi<|tell 13 hi<|qE [] k4 fun w5 k5=>coF<|JC<|eoT<|qQ [] k5 fun w5 k5=>JF<|Jj (.int .i64 0) ⟨by unfold ZS;rw[h,hi];rfl,k5.touch.below⟩
   | true =>
     refine tell 12 hi<|tell 13 hi<|qE [0] k4 fun w5 k5=>coI (!g.late) (fun hl=>qQ [] k5 fun w6 k6=>JF<|Jp<|Jj (.int .i64 2) ⟨by unfold ZS;rw[h,hi,hl];rfl,k6.touch.below⟩) fun hl=>JC<|eoT<|qQ [] k5 fun w6 k6=>JF<|Jj (.int .i64 0) ⟨by unfold ZS;rw[h,hi,hl];rfl,k6.touch.below⟩
theorem QEZ (g:Rg)(hg:RgB g)(which:Int)(A:Option Addr)(cap:Nat)(xs:List Int)(hc:xs.length≤cap)(h8:Bytes8 xs)(hl:xs.length≤1000000000)(w:World)(hin:BytesIn w w.heap.size A xs)(ht:Tabs w w.heap.size):Calls Tryz.prog 40 #[JH g,.int .i64 which,.slice A xs.length cap] w fun e w'=>e=.returned (Jr g which xs).v∧Below w.heap.size w w':=by
 go_enter Tryz.func40,Tryz.ntmps40
 obtain⟨X,hX⟩:∃ X,X=ofX (Qu g xs):=⟨_,rfl⟩
 have KX:∀ W,Below w.heap.size w W→Calls Tryz.prog 55 #[JH g,.slice A xs.length cap] W fun e w'=>e=.returned X.v∧Below W.heap.size W w':=by rw[hX];exact QNZ g hg A cap xs hc h8 w hin ht
 refine JB<|qQ [] (Many.begin w) fun w1 k1=>coR<|qR 3 [0] k1 fun w2 k2=>qC (QIP g.pc which w2) k2 fun w3 k3=>qE [3] k3 fun w4 k4=>coS<|qQ [] k4 fun w5 k5=>coI (!(which==1||which==2)) (fun h=>?_) fun h=>JC<|eoT<|coS<|qQ [] k5 fun w6 k6=>coI ((xs.length:Int)==0) (fun h0=>?_) fun h0=>JC<|eoT<|?_
 · have h1:which≠1:=by intro e;subst e;cases h
   have h2:which≠2:=by intro e;subst e;cases h
   refine coR<|qR 2 [0] k5 fun w6 k6=>qC (KX w6 k6.touch.below) k6 fun w7 k7=>qE [1,2] k7 fun w8 k8=>JF<|Jp<|Zz 1 2 X.c X.g X.b (w.heap.size+1) (w.heap.size+2) k8 ⟨?_,k8.touch.below⟩
   unfold Jr
   rw[if_neg h1,if_neg h2,←hX]
   rfl
 · have hx:xs=[]:=List.eq_nil_of_length_eq_zero (by have:(xs.length:Int)=0:=by simpa using h0
                                                    omega)
   refine coR<|qR 1 [3] k6 fun w7 k7=>qC (QCT (QFa g.pc which) w7) k7 fun w8 k8=>qE [1,2] k8 fun w9 k9=>JF<|Jp<|Zz 1 2 (QFa g.pc which) Ja false (w.heap.size+1) (w.heap.size+2) k9 ⟨?_,k9.touch.below⟩
   subst hx
   unfold Jr QFa
   by_cases h1:which=1
   · rw[if_pos h1,if_pos h1];rfl
   · have h2:which=2:=by
      have:(which==1||which==2)=true:=by cases hq:(which==1||which==2) with|true=>rfl|false=>(rw[hq] at h;cases h)
      simpa [h1] using this
     rw[if_neg h1,if_neg h1,if_pos h2,if_pos h2];rfl
 · obtain⟨v,ys,rfl⟩:∃ v ys,xs=v :: ys:=by
    cases xs with
    | nil=>cases h0
    | cons v ys=>exact⟨v,ys,rfl⟩
   have hcy:ys.length+1≤cap:=hc
   have hly:ys.length≤1000000000:=by have:ys.length+1≤1000000000:=hl
                                     omega
   have hv:B8 v:=h8.head
   have hy8:Bytes8 ys:=h8.tail
   obtain⟨A',hA'⟩:∃ A',A'=(if cap=1 then A else A.map (·.add 1)):=⟨_,rfl⟩
   have hiny:BytesIn w w.heap.size A' ys:=by rw[hA'];exact hin.drop (k:=1) (by simp) hc
   have KB:=fun (W:World) (hW:Below w.heap.size w W)=>QMj g hg v ys A cap hcy W ((hin.below hW).more hW.size)
   rw[←hA'] at KB
   obtain⟨g1,hg1⟩:∃ g1:Rg,g1=ZI { g with halted:=false,late:=false } 1:=⟨_,rfl⟩
   have b1:RgB g1:=by
    have:=hg.tick 1
    rw[hg1]
    exact⟨this.af,this.bc,this.de,this.hl,this.af2,this.bc2,this.de2,this.hl2,this.ix,this.iy,this.sp,this.pc,this.wz,this.i,this.r,this.mode⟩
   rw[←hg1] at KB
   refine coR<|qR 2 [0] k6 fun w7 k7=>qC (KB w7 k7.touch.below) k7 fun w8 k8=>qE [4] k8 fun w9 k9=>coS<|qQ [] k9 fun wA kA=>coI (which==1) (fun h1=>?_) fun h1=>JC<|eoT<|?_
   · obtain⟨T,hT⟩:∃ T,T=Qj (Q7 g1.sp g1.pc) (X4 { g1 with iff1:=false } 102) ys.length:=⟨_,rfl⟩
     have KN:=fun W=>QQs g1 b1.pc v A' ys.length (cap-1) hly W
     rw[←hT] at KN
     refine coR<|qR 1 [4] kA fun wB kB=>qC (KN wB) kB fun wC kC=>qE [1,2] kC fun wD kD=>JF<|Jp<|Zz 1 2 T.c T.g T.b (w.heap.size+1) (w.heap.size+2) kD ⟨?_,kD.touch.below⟩
     have e:Jr g which (v :: ys)=T:=by
      unfold Jr
      rw[if_pos (by simpa using h1),hT,hg1]
      rfl
     rw[e];rfl
   · have h1':which≠1:=by simpa using h1
     have h2:which=2:=by
      have:(which==1||which==2)=true:=by cases hq:(which==1||which==2) with|true=>rfl|false=>(rw[hq] at h;cases h)
      simpa [h1'] using this
     obtain⟨T,hT⟩:∃ T,T=QBX { g1 with iff1:=false,iff2:=false } v ys:=⟨_,rfl⟩
     have KN:=fun (W:World) (hW:Below w.heap.size w W)=>QMo g1 b1 v hv A' (cap-1) ys (by omega) hy8 hly W ((hiny.below hW).more hW.size) (ht.below hW)
     rw[←hT] at KN
     refine coR<|qR 1 [4] kA fun wB kB=>qC (KN wB kB.touch.below) kB fun wC kC=>qE [1,2] kC fun wD kD=>JF<|Zz 1 2 T.c T.g T.b (w.heap.size+1) (w.heap.size+2) kD ⟨?_,kD.touch.below⟩
     have e:Jr g which (v :: ys)=T:=by
      unfold Jr
      rw[if_neg h1',if_pos h2,hT,hg1]
      rfl
     rw[e];rfl
theorem QHu {g:Rg}(h:g.mode=0)(v:Int)(ys:List Int):Jr g 2 (v :: ys)=if Z2 v=true then QJP (jf g false false) else ofX (Xx (jf g false false) v ys):=by
 show QCG g v ys=_
 unfold QCG
 rw[if_pos h]
def QJw:LnT:={ Qr with reset:=true }
theorem QKF (l:LnT)(w:World):(binOp .eql 40 (lnV l) (lnV QJw)).run Tryz.prog w=.ok (.bool (l.reset&&(!l.wait&&(!l.bus&&(!l.irq&&!l.nmi))))) w:=by
 obtain⟨a,b,c,d,e⟩:=l
 cases a<;>cases b<;>cases c<;>cases d<;>cases e<;>kernel_rfl
theorem QRD (b:Bool)(w:World):(binOp .eql 40 (lnV { Qr with bus:=b }) (lnV Qr)).run Tryz.prog w=.ok (.bool (!b)) w:=by cases b<;>kernel_rfl
theorem QB2 (op:BinOp)(a b:LnT)(x y:Operand)(w:World):(eqGuard op 40 x y (lnV a) (lnV b)).run Tryz.prog w=.ok () w:=by
 exact run_eqGuard_agg (P:=Tryz.prog) w op _ x y _ _ (by kernel_rfl)
def evR:Value:=.iface 77 (.agg #[])
def evA (b:Bool):Value:=.iface 80 (.agg #[.bool (!b)])
def evS (a:AtT)(m:Bool):Value:=.iface 70 (.agg (stC a m))
def evL (a:AtT)(m:Bool):Value:=.iface 72 (.agg (stC a m))
def evM (c:CoT)(l:LnT):Value:=if l.reset=true then evR else if c.off=true then evA l.bus else if (QJ c.a l.wait).2.2=true then evL (QJ c.a l.wait).1 (QJ c.a l.wait).2.1 else evS (QJ c.a l.wait).1 (QJ c.a l.wait).2.1
theorem QAF (c:CoT)(A:Option Addr)(n cap:Nat)(l:LnT)(w:World)(hS:Samps w):Calls Tryz.prog 27 #[coV c (.slice A n cap),lnV l] w fun e w'=>e=.returned (evM c l)∧Below w.heap.size w w':=by
 have KH:=fun W=>QJo c A n cap l W
 go_enter Tryz.func27,Tryz.ntmps27
 refine JB<|qQ [] (Many.begin w) fun w1 k1=>?_
 cases hr:l.reset with
 | true =>
   have e1:QLX c l=QJw:=if_pos hr
   have e2:evM c l=evR:=if_pos hr
   rw[e1] at KH
   rw[e2]
   exact coR<|qR 2 [0,1] k1 fun w2 k2=>qC (KH w2) k2 fun w3 k3=>qE [1] k3 fun w4 k4=>coS<|coR<|qR 2 [1] k4 fun w5 k5=>kBj 14 (lnV QJw) (lnV QJw) (.bool true) (QB2 _ _ _ _ _) (QKF QJw)<|qE [] k5 fun w6 k6=>coT<|qQ [] k6 fun w7 k7=>JF<|Jp<|Jj evR ⟨rfl,k7.touch.below⟩
 | false =>
   cases ho:c.off with
   | true =>
     have e1:QLX c l={ Qr with bus:=l.bus }:=(if_neg (by rw[hr];simp)).trans (if_pos ho)
     have e2:evM c l=evA l.bus:=(if_neg (by rw[hr];simp)).trans (if_pos ho)
     rw[e1] at KH
     rw[e2]
     obtain⟨m,hm⟩:∃ m:LnT,m={ Qr with bus:=l.bus }:=⟨_,rfl⟩
     have hz:=fun W=>QRD l.bus W
     have hq:=fun W=>QKF m W
     rw[show m.reset=false by rw[hm];rfl,Bool.false_and] at hq
     rw[←hm] at KH hz
     exact coR<|qR 2 [0,1] k1 fun w2 k2=>qC (KH w2) k2 fun w3 k3=>qE [1] k3 fun w4 k4=>coS<|coR<|qR 2 [1] k4 fun w5 k5=>kBj 14 (lnV m) (lnV QJw) (.bool false) (QB2 _ _ _ _ _) hq<|qE [] k5 fun w6 k6=>coF<|JC<|eoT<|coS<|coR<|qR 2 [0] k6 fun w6 k6=>tell 18 ho<|qE [] k6 fun w6 k6=>coT<|coR<|qR 2 [1] k6 fun w7 k7=>kBj 21 (lnV m) (lnV Qr) (.bool (!l.bus)) (QB2 _ _ _ _ _) hz<|qE [] k7 fun w8 k8=>JF<|Jp<|Jj (evA l.bus) ⟨rfl,k8.touch.below⟩
   | false =>
     have e1:QLX c l=l:=(if_neg (by rw[hr];simp)).trans (if_neg (by rw[ho];simp))
     have e2:evM c l=if (QJ c.a l.wait).2.2=true then evL (QJ c.a l.wait).1 (QJ c.a l.wait).2.1 else evS (QJ c.a l.wait).1 (QJ c.a l.wait).2.1:=(if_neg (by rw[hr];simp)).trans (if_neg (by rw[ho];simp))
     rw[e1] at KH
     rw[e2]
     have hq:=fun W=>QKF l W
     rw[hr,Bool.false_and] at hq
     have KT:=fun W (h:Samps W)=>QMd c.a l.wait W h
     unfold zw at KT
     generalize QJ c.a l.wait=T at KT ⊢
     obtain⟨a,m,t⟩:=T
     dsimp only at KT ⊢
     refine coR<|qR 2 [0,1] k1 fun w2 k2=>qC (KH w2) k2 fun w3 k3=>qE [1] k3 fun w4 k4=>coS<|coR<|qR 2 [1] k4 fun w5 k5=>kBj 14 (lnV l) (lnV QJw) (.bool false) (QB2 _ _ _ _ _) hq<|qE [] k5 fun w6 k6=>coF<|JC<|eoT<|coS<|coR<|qR 2 [0] k6 fun w6 k6=>tell 18 ho<|qE [] k6 fun w6 k6=>coF<|JC<|eoT<|coR<|qR 4 [0,1] k6 fun w7 k7=>qC (KT w7 (hS.below k7.touch.below)) k7 fun w8 k8=>qE [2] k8 fun w9 k9=>qQ [2,3] k9 fun wa ka=>?_
     cases t with
     | true=>exact coS<|qQ [] ka fun wb kb=>coT<|qQ [3] kb fun wc kc=>JF<|Jp<|Jj (evL a m) ⟨rfl,kc.touch.below⟩
     | false=>exact coS<|qQ [] ka fun wb kb=>coF<|JC<|eoT<|qQ [3] kb fun wc kc=>JF<|Jj (evS a m) ⟨rfl,kc.touch.below⟩
theorem bs0 (w:World):(Instr.buildSlice 26 0 #[]).run Tryz.prog w=.ok (.slice (some ⟨w.heap.size,0,none⟩) 0 0) (w.alloc (.cells #[] 5)):=by simp[go_sem]
theorem QIr (A:Option Addr)(cap:Nat)(xs:List Int)(hl:xs.length≤1000000)(w:World)(hb:BytesIn w w.heap.size A xs):Calls Tryz.prog 31 #[.slice A xs.length cap] w fun e w'=>∃ v',e=.returned v'∧w'.ownsRow w.heap.size 5 1 v' xs.length (bvs xs)∧Below w.heap.size w w':=by
 go_enter Tryz.func31,Tryz.ntmps31
 refine JB<|qQ [] (Many.begin w) fun w1 k1=>?_
 cases A with
 | none =>
   have hx:xs=[]:=by
    cases xs with
    | nil=>rfl
    | cons y ys=>obtain⟨ad,e,-⟩:=hb 0 y rfl;cases e
   subst hx
   exact coS<|qQ [] k1 fun w2 k2=>coT<|qQ [] k2 fun w3 k3=>JF<|Jp<|Jj (.slice none 0 0) ⟨_,rfl,World.ownsRow_nil ..,k3.touch.below⟩
 | some p =>
   refine coS<|qQ [] k1 fun w2 k2=>coF<|JC<|eoT<|coR<|wM (jd (bs0 w2)) ?_
   have h2:Below w.heap.size w w2:=k2.touch.below
   have own4:(w2.alloc (.cells #[] 5)).ownsRow w.heap.size 5 1 (.slice (some ⟨w2.heap.size,0,none⟩) 0 0) 0 (bvs []):=World.ownsRow_made w2 #[] 0 h2.size (Nat.zero_le _) rfl
   have h4:=jq h2 (.cells #[] 5)
   generalize w2.alloc (.cells #[] 5)=w4 at *
   refine qR 1 [] (Many.begin w4) fun w5 k5=>qA (.tmp 5) (.tmp 6) w w.heap.size w.heap.size _ 0 [] (some p) cap xs (bOn h4 k5) (Nat.le_refl _) (bOn h4 k5).size (own_below own4 k5.touch.below) (hb.below (bOn h4 k5)) (fun e=>by cases e) (by omega) fun v' w6 own6 hB6 hs6=>qE [] (Many.begin w6) fun w7 k7=>JF<|Jj v' ⟨v',rfl,?_,bOn hB6 k7⟩
   have:=own_below own6 k7.touch.below
   rwa [Nat.zero_add,List.nil_append] at this
theorem soWo {P:Program} {ops:Array Oper} {Q:Exit→Act→World→Prop} {base:List Value} {l:J0} {w:World} {S:World→Prop} {n f i:Nat} {listed:Array Bool} {x y:Operand} {b:Nat} {t u:TypeId} {cs ds:Array Value}(o:Nat)(hr:Row w b u ds)(hS:S (w.setCells b o cs.toList))(h:PO P ops Q S n base f (listed.setIfInBounds i true) l (w.setCells b o cs.toList))
 (h1:cs.toList.all (·.oneCell')=true)(hsz:o+cs.size≤ds.size)(ho:(Z0 ops i).op=.store t x y:=by exact rfl)(hx:evO base l x=pT b o:=by kernel_rfl)(hy:evO base l y=.agg cs:=by kernel_rfl)(ht:(P.info? t).map (·.size)=some cs.size:=by kernel_rfl)
 (hd:((Z0 ops i).dst.isNone,decide (i < n),QA ops base.length base l (Z0 ops i),(ops[i]?).isSome)=(true,true,some true,true):=by kernel_rfl):SO P ops Q S n base f listed i l w:=by
 simp only[Prod.mk.injEq] at hd
 obtain⟨d1,d2,d3,d4⟩:=hd
 have ho':=QAg d4
 have hdn:(Z0 ops i).dst=none:=Option.isNone_iff_eq_none.1 d1
 have hth:w.there b o cs.size:=fun j hj=>by
  have:=hr.there (o+j) (by omega)
  rwa [Nat.zero_add] at this
 have e1:(execOp (evO base l) (Z0 ops i)).run P w=.ok .skip (w.setCells b o cs.toList):=QFA (run_storeAt_mid w b o t cs hth ht (by rw[←Array.all_toList];exact h1)) ho hx hy
 refine⟨fun hi hr inv=>⟨of_decide_eq_true d2,?_⟩⟩
 unfold wpOp
 simp only[ho',J2 d3 hi,if_true]
 refine .inl ?_
 unfold Oper.wp
 rw[QH hi,e1,Oper.upon_skip,hdn]
 exact⟨hS,h.h hi (inv.set hr (of_decide_eq_true d2))⟩
theorem QKA (g:Rg)(hg:RgB g)(wh:Int)(w:World)(ht:Tabs w w.heap.size):Calls Tryz.prog 40 #[JH g,.int .i64 wh,.slice none 0 0] w fun e w'=>e=.returned (Jr g wh []).v∧Below w.heap.size w w' :=
 QEZ g hg wh none 0 [] (Nat.le_refl _) QHi (by simp) w (BytesIn.nil _ _ _) ht
theorem QEL (c:CoT)(A:Option Addr)(n cap:Nat)(g:Rg)(hg:RgB g)(wh:Int)(w:World)(ht:Tabs w w.heap.size):Calls Tryz.prog 25 #[coV c (.slice A n cap),JH g,.int .i64 wh] w fun e w'=>e=.returned (coV (c.start g wh) (.slice none 0 0))∧Below w.heap.size w w':=by
 have KN:=fun W (h:Tabs W W.heap.size)=>QKA g hg wh W h
 obtain⟨T,hT⟩:∃ T,T=Jr g wh []:=⟨_,rfl⟩
 rw[←hT] at KN
 have e:c.start g wh={ c with r:=g,wh:=wh,got:=[],a:=at0 T.c }:=by rw[hT];rfl
 rw[e]
 go_enter Tryz.func25,Tryz.ntmps25
 refine JB<|qQ [] (Many.begin w) fun w1 k1=>coR<|qR 2 [1] k1 fun w2 k2=>qC (KN w2 (ht.below k2.touch.below)) k2 fun w3 k3=>qE [3,4] k3 fun w4 k4=>?_
 have r0:Row w4 w.heap.size 33 (coC c (.slice A n cap)):=k4.row 0 (coC c (.slice A n cap)).toList (by kernel_rfl)
 have r1:Row w4 (w.heap.size+1) 24 (JJ g):=k4.row 1 (JJ g).toList (by kernel_rfl)
 have r2:Row w4 (w.heap.size+2) 33 (coC zeroCo (.slice none 0 0)):=k4.row 2 (coC zeroCo (.slice none 0 0)).toList (by kernel_rfl)
 have r3:Row w4 w3.heap.size 29 (cyC T.c):=k4.row 3 (cyC T.c).toList (by kernel_rfl)
 have l3:w.heap.size+2 < w3.heap.size:=k3.lt 2 ⟨w.heap.size+2,33,(coC zeroCo (.slice none 0 0)).toList.map some⟩ (by kernel_rfl)
 have kp:=((Many.two r1 r3 (by omega)).wide (L':=[w.heap.size,w.heap.size+1,w3.heap.size]) (fun x hx=>by simp at hx ⊢;omega)).drew
 have r0d:=r0.drew'
 have r2d:=r2.drew'
 refine coP (S:=Many w4 [w.heap.size,w.heap.size+1,w3.heap.size] [⟨w.heap.size+1,24,(JJ g).toList.map some⟩,⟨w3.heap.size,29,(cyC T.c).toList.map some⟩]) 6 kp ?_
 generalize w4.drew=wd at *
 refine qD 0 [0] kp<|qM [1] kp<|qD 1 [2] kp<|qM [4] kp<|jn 3 (soC (QEJ T.c wd) fun e w6 ⟨he,hb⟩=>⟨_,he,kp.below hb,?_⟩)
 have k6:=kp.below hb
 have r06:=r0d.below hb r0d.lt
 have r26:=r2d.below hb r2d.lt
 have k7:=k6.beside (b:=w.heap.size) (by simp) (fun r hr=>by
  simp only[List.mem_cons,List.not_mem_nil,or_false] at hr
  rcases hr with rfl|rfl
  · show w.heap.size+1≠w.heap.size
    omega
  · show w3.heap.size≠w.heap.size
    omega) 0 (JJ g).toList
 have rA:=Row.setOver (w:=w6) (JJ g).toList 0 r06
 have r2A:=Row.setFar (b:=w.heap.size) (by omega) (JJ g).toList 0 r26
 rw[show ovr (coC c (.slice A n cap)) 0 (JJ g).toList=coC { c with r:=g } (.slice A n cap) by kernel_rfl] at rA
 refine jn 5 (soWo 0 (cs:=JJ g) r06 k7 ?_ (by rfl) (by show 0+20≤32;omega))
 generalize w6.setCells w.heap.size 0 (JJ g).toList=wA at *
 refine poE<|qE [0,0,0] (Many.two rA r2A (by omega)) fun w7 k7'=>qQ [0,1] k7' fun w8 k8=>JF<|Zk (k8.row 1 (b:=w.heap.size+2) (t:=33) (coC { c with r:=g,wh:=wh,got:=[],a:=at0 T.c } (.slice none 0 0)).toList (by kernel_rfl)) ⟨rfl,?_⟩
 have lowA:=QCQ k4 k7 (fun b hb=>by simp at hb;omega)
 exact Kept.low lowA (Kept.of_touch k8.touch) lowA.size (fun b hb=>by simp at hb;omega)
theorem QBm (g:Rg)(hg:RgB g)(w:World)(ht:Tabs w w.heap.size):Calls Tryz.prog 10 #[JH g] w fun e w'=>e=.returned (coV (QBc g) (.slice none 0 0))∧Below w.heap.size w w':=by
 have KN:=fun W (h:Tabs W W.heap.size)=>QEL zeroCo none 0 0 g hg 0 W h
 obtain⟨d,hd⟩:∃ d,d=QBc g:=⟨_,rfl⟩
 rw[show zeroCo.start g 0=d from hd.symm] at KN
 rw[←hd]
 go_enter Tryz.func10,Tryz.ntmps10
 exact JB<|qQ [] (Many.begin w) fun w1 k1=>coR<|qR 2 [0] k1 fun w2 k2=>qC (KN w2 (ht.below k2.touch.below)) k2 fun w3 k3=>qE [1] k3 fun w4 k4=>JF<|Zk (k4.row 1 (b:=w.heap.size+1) (t:=33) (coC d (.slice none 0 0)).toList (by kernel_rfl)) ⟨rfl,k4.touch.below⟩
theorem QIk (c:CoT)(A:Option Addr)(n cap:Nat)(g:Rg)(hg:RgB g)(irq:Bool)(w:World)(ht:Tabs w w.heap.size):Calls Tryz.prog 46 #[coV c (.slice A n cap),JH g,.bool irq] w fun e w'=>e=.returned (coV (c.choose g irq) (.slice none 0 0))∧Below w.heap.size w w':=by
 have KW:=fun W=>QMq g c.nmi irq W
 obtain⟨q,hq⟩:∃ q,q=ZS g c.nmi irq:=⟨_,rfl⟩
 rw[←hq] at KW
 have KB:=fun W (h:Tabs W W.heap.size)=>QEL { c with nmi:=if q=1 then false else c.nmi } A n cap g hg q W h
 obtain⟨d,hd⟩:∃ d,d=c.choose g irq:=⟨_,rfl⟩
 rw[show ({ c with nmi:=if q=1 then false else c.nmi }:CoT).start g q=d by rw[hd,hq];rfl] at KB
 rw[←hd]
 go_enter Tryz.func46,Tryz.ntmps46
 refine JB<|qQ [] (Many.begin w) fun w1 k1=>coR<|qR 4 [1,0] k1 fun w2 k2=>qC (KW w2) k2 fun w3 k3=>qE [] k3 fun w4 k4=>coS<|coR<|qR 2 [] k4 fun w5 k5=>?_
 by_cases h1:q=1
 · rw[if_pos h1] at KB
   exact tell 14 (show (q==1)=true by simp[h1])<|qE [] k5 fun w5 k5=>coT<|coZ<|qF [0] k5 fun w6 k6=>eoT<|coR<|qR 3 [0,1] k6 fun w7 k7=>qC (KB w7 (ht.below k7.touch.below)) k7 fun w8 k8=>qE [2] k8 fun w9 k9=>JF<|Zk (k9.row 2 (b:=w.heap.size+2) (t:=33) (coC d (.slice none 0 0)).toList (by kernel_rfl)) ⟨rfl,k9.touch.below⟩
 · rw[if_neg h1] at KB
   exact tell 14 (show (q==1)=false by simp[h1])<|qE [] k5 fun w5 k5=>coF<|JC<|eoT<|coR<|qR 3 [0,1] k5 fun w7 k7=>qC (KB w7 (ht.below k7.touch.below)) k7 fun w8 k8=>qE [2] k8 fun w9 k9=>JF<|Zk (k9.row 2 (b:=w.heap.size+2) (t:=33) (coC d (.slice none 0 0)).toList (by kernel_rfl)) ⟨rfl,k9.touch.below⟩
theorem bEqC (x y:Int)(b:Bool)(e:(x==y)=b)(w:World):(binOp .eql 3 (.int .i64 x) (.int .i64 y)).run Tryz.prog w=.ok (.bool b) w:=by subst e;simp[go_sem]
theorem QNr (a:AtT)(w:World):(binOp .eql 31 (atV a) (atV (at0 a.c))).run Tryz.prog w=.ok (.bool (a.k==0&&a.w==0)) w:=by
 have h:(Op.equalIn 10000 31 (atV a) (atV (at0 a.c))).run Tryz.prog w=.ok (a.k==0&&a.w==0) w:=by
  unfold atV atC at0
  rw[run_equalIn_agg (P:=Tryz.prog) w 9999 31 _ _ (by kernel_rfl) (by kernel_rfl)]
  by_cases h1:a.k=0<;>by_cases h2:a.w=0<;>simp[go_sem,h1,h2]
 unfold atV at *
 rw[run_eql_struct,h]
 rfl
theorem QN4 (op:BinOp)(a b:AtT)(x y:Operand)(w:World):(eqGuard op 31 x y (atV a) (atV b)).run Tryz.prog w=.ok () w:=by
 unfold atV
 exact run_eqGuard_agg (P:=Tryz.prog) w op _ x y _ _ (by kernel_rfl)
theorem QBS (c:CoT)(A:Option Addr)(cap:Nat)(w:World):Calls Tryz.prog 17 #[coV c (.slice A c.got.length cap)] w fun e w'=>e=.returned (.bool (XG c))∧Below w.heap.size w w':=by
 go_enter Tryz.func17,Tryz.ntmps17
 obtain⟨r,wh,got,a,b,nmi,was,off⟩:=c
 refine JB<|qQ [] (Many.begin w) fun w1 k1=>?_
 cases got with
 | nil=>exact qP 13 k1 fun w2 k2=>qD 0 [0,1,2,3,4,5,6,7,8,9] k2<|qDc 10 (QEJ a.c w2) k2 fun w3 k3=>qT 11 k3 (fun w' _=>ZD (QN4 _ _ _ _ _ _) (QNr a _))<|qM [12] k3<|poE<|qE [] k3 fun w4 k4=>JF<|Jj (.bool (XG ⟨r,wh,[],a,b,nmi,was,off⟩)) ⟨rfl,k4.touch.below⟩
 | cons x xs=>exact qP 13 k1 fun w2 k2=>qD 0 [0,1,2] k2<|qT 3 k2 (fun w' _=>ZD (egI _ _ _ _ _ _) (bEqC ((x :: xs).length:Nat) 0 false (by simp;omega) _))<|qM [4,5,6,7,8,9,10,11,12] k2<|poE<|qE [] k2 fun w4 k4=>JF<|Jj (.bool (XG ⟨r,wh,x :: xs,a,b,nmi,was,off⟩)) ⟨rfl,k4.touch.below⟩
end Go.Proofs.YtkenebbjodcbcaaGreatDoor
