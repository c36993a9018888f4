/- Contracts and facts that the claim's proof wants (several texts in one). -/
import Derived.Laws.MakeOwn
import Derived.Lib.LaidTab
import Derived.Lib.ItoaNum
import Derived.FnData
import Derived.Shelf.Strings.Builder1
import Derived.Shelf.Strings.Builder2
import Derived.Shelf.Strings.BuilderF
import Derived.Shelf.Strings.BuilderK
import Derived.Shelf.Strconv.Itoa0
import Derived.Shelf.Strconv.Itoa1
import Derived.Shelf.LaysM
import Derived.Shelf.Strconv.Itoa2
import Derived.Shelf.Strconv.Itoa3
import Derived.Shelf.Strings.Prefix
import Derived.Shelf.Bits.Mul64
import Derived.Shelf.Strings.Repeat
import Derived.Test.YtbhaojlikgdgjaaGreatDoorProg
import Derived.LoopN
import Derived.Lib.SlBytesRow
import Derived.Test.YtbhaojlikgdgjaaGreatDoorTgG22
namespace Go.Proofs.YtbhaojlikgdgjaaGreatDoor
open Go.RowKit
set_option linter.unusedVariables false
set_option linter.unusedSimpArgs false
set_option maxRecDepth 20000
set_option maxHeartbeats 20000000
theorem QUm (a b:Int)(w:World):(binOp .sub 22 (.int .u16 a) (.int .u16 b)).run Tryz.prog w=.ok (.int .u16 ((a-b)%65536)) w:=by simp[go_sem,IntKind.wrap_u16]
theorem QHu (N:Nat):madeCells (Value.int .u8 0).cells (N*1)=(bvs (List.replicate N 0)).toArray:=by
 apply Array.ext_getElem?
 intro i
 by_cases h:i < N
 · simp[madeCells,bvs,h,Value.cells,Nat.mod_one]
 · simp[madeCells,bvs,h,Value.cells]
theorem QR5 (xs:List Int)(i:Nat)(v:Int):(bvs xs).toArray.setIfInBounds i (.int .u8 v)=(bvs (xs.set i v)).toArray:=by
 simp[bvs,List.map_set]
def QP4 (n:Int):Int:=if (if (0:Int) > n then 0 else n) > 4096 then 4096 else (if (0:Int) > n then 0 else n)
def dmpB (A:Option Addr)(n cap:Nat)(at_ nn:Int)(g N:Nat)(x:QHU):List Value:=[.slice A n cap,.int .u16 at_,.int .i64 nn,x.y 3,x.y 4,x.y 5,x.y 6,.slice (some ⟨g,0,none⟩) N N,x.y 8,x.y 9,x.y 10,x.y 11,x.y 12,x.y 13,x.y 14,.slice A n cap,.int .i64 (n:Int),.int .i64 (x.k:Int),x.y 18,x.y 19,x.y 20,x.y 21,x.y 22,x.y 23,x.y 24,x.y 25,x.y 26,x.y 27,x.y 28,x.y 29,x.y 30,x.y 31,x.y 32,x.y 33,x.y 34,x.y 35,x.y 36]
def dmpI (w:World)(l:List (Int×Int))(at_:Int)(g N:Nat)(x:QHU)(W:World):Prop:=Below w.heap.size w W∧Row W g 5 (bvs (Xx (l.take x.k) at_ N)).toArray∧x.k≤l.length
theorem QLC (A:Option Addr)(cap:Nat)(l:List (Int×Int))(at_ n:Int)(hl:l.length≤100000000)(h16:Jg l)(ha:0≤at_∧at_≤65535)(w:World)(hin:CellsIn w w.heap.size A l) :
 Calls Tryz.prog 22 #[.slice A l.length cap,.int .u16 at_,.int .i64 n] w fun e w'=>∃ g,e=.returned (.slice (some ⟨g,0,none⟩) (QCN l at_ n).length (QCN l at_ n).length)∧BytesIn w' w'.heap.size (some ⟨g,0,none⟩) (QCN l at_ n)∧Below w.heap.size w w':=by
 go_enter Tryz.func22,Tryz.ntmps22
 refine JA<|qQ [] (Many.begin w) fun w1 k1=>coR<|qR 3 [] k1 fun w2 k2=>?_
 obtain⟨N,hN⟩:∃ N,N=min n.toNat 4096:=⟨_,rfl⟩
 have hcN:QP4 n=(N:Int):=by
  unfold QP4
  by_cases h0:(0:Int) > n
  · rw[if_pos h0,if_neg (by omega)];omega
  · rw[if_neg h0]
    by_cases h1:n > 4096
    · rw[if_pos h1];omega
    · rw[if_neg h1];omega
 obtain⟨i0,hi0,hz0,hz1,hz2⟩:=info_parts QKw
 have hmk:(Instr.makeSlice 26 (.int .i64 (QP4 n)) (.int .i64 (QP4 n))).run Tryz.prog w2=.ok (.slice (some ⟨w2.heap.size,0,none⟩) N N) (w2.alloc (.cells (bvs (List.replicate N 0)).toArray 5)):=by
  have:=run_make (P:=Tryz.prog) w2 26 5 i0 (.int .u8 0) Tryz.underlying26 hi0 hz0 .i64 .i64 (N:Int) (N:Int) (by omega) (by omega) (by rw[hz2];omega) (by omega)
  rw[hcN,this,hz1]
  simp only[Int.toNat_natCast,QHu]
 obtain⟨g,hg⟩:∃ g,g=w2.heap.size:=⟨_,rfl⟩
 have hwg:w.heap.size≤g:=by rw[hg];exact k2.touch.size
 have hBa:Below w.heap.size w (w2.alloc (.cells (bvs (List.replicate N 0)).toArray 5)):=jC k2.touch.below _
 refine wM (QUY hmk)<|qE [] (Many.begin _) fun w3 k3=>coS<|qQ [] (Many.begin w3) fun w4 k4=>coB<|Zk (dmpB A l.length cap at_ n g N) (dmpI w l at_ g N) (fun x=>l.length-x.k) (fun y=>⟨0,y⟩) ⟨bOn (bOn hBa k3) k4,?_,Nat.zero_le _⟩ ?_ (by rw[hg];kernel_rfl)
 · show Row w4 g _ (bvs (Xx (l.take 0) at_ N)).toArray
   rw[List.take_zero,QLi,hg]
   have h0:=Row.new w2 5 (bvs (List.replicate N 0)).toArray
   have h1:=h0.below k3.touch.below h0.lt
   exact h1.below k4.touch.below h1.lt
 clear hmk hBa k3 k4 hg
 rintro ⟨k,y⟩ W ⟨hB,hrow,hk⟩
 have hk:k≤l.length:=hk
 have hrow:Row W g 5 (bvs (Xx (l.take k) at_ N)).toArray:=hrow
 refine qQ [] (Many.begin W) fun wa ka=>coS<|coI (decide ((k:Int) < (l.length:Int))) (fun hlt=>JE<|eoT<|coS<|coB<|?_) fun hge=>coX<|qX<|qX<|QEd<|eoT ?_
 · have hlt:k < l.length:=by have:(k:Int) < (l.length:Int):=by simpa using hlt
                             omega
   obtain⟨p,rfl,-⟩:=hin.at_ hlt
   have hc:=h16 _ (List.getElem_mem hlt)
   have hset:=QLy (l.take k) l[k] at_ N ha ⟨hc.1,hc.2.1⟩ (by omega)
   rw[←QB3 l k hlt] at hset
   refine coR<|wM (Qs (QJp p l.length cap k hlt _))<|wM (Jy ((hin.below (bOn hB ka)).ldW hlt))<|qE [0] ka fun wb kb=>coR<|qR 3 [0] kb fun wc kc=>wM (zA (QKN _ _ _ l[k].1 at_ _) (QUm l[k].1 at_ _))<|wM (QH6 (cv16 ((l[k].1-at_)%65536) (by omega) _))<|qE [] kc fun wd kd=>qQ [] kd fun we ke=>coI (decide (((l[k].1-at_)%65536) < (N:Int))) (fun h=>?_) fun h=>?_
   · have h:(l[k].1-at_)%65536 < (N:Int):=by simpa using h
     obtain⟨j,hj⟩:∃ j:Nat,(l[k].1-at_)%65536=(j:Int):=⟨((l[k].1-at_)%65536).toNat,by omega⟩
     have hjN:j < N:=by omega
     have hre:=hrow.below ke.touch.below hrow.lt
     have hix:∀ w,(Instr.indexAt 26 (.slice (some ⟨g,0,none⟩) N N) (.int .i64 ((l[k].1-at_)%65536))).run Tryz.prog w=.ok (.pointer (some ((⟨g,0,none⟩:Addr).add j))) w:=fun w=>by rw[hj];exact ixB _ N N j hjN w
     have eadd:(⟨g,0,none⟩:Addr).add j=⟨g,j,none⟩:=by
      unfold Addr.add
      split
      · rename_i h0;rw[h0]
      · simp
     refine coZ<|qR 4 [0] ke fun wf kf=>wM (Qs (hix _))<|?_
     have hrf:=hrow.below kf.touch.below hrow.lt
     have hsz:j < (bvs (Xx (l.take k) at_ N)).toArray.size:=by
      simp[bvs,Zv];exact hjN
     have hcell:wf.cell? ((⟨g,0,none⟩:Addr).add j)=some (bvs (Xx (l.take k) at_ N)).toArray[j]:=by
      rw[eadd,hrf.cell j]
      exact Array.getElem?_eq_getElem hsz
     have hst:(Instr.storeAt 5 (.pointer (some ((⟨g,0,none⟩:Addr).add j))) (.int .u8 l[k].2)).run Tryz.prog wf=.ok () (wf.setCell ⟨g,j,none⟩ (.int .u8 l[k].2)):=by
      rw[←eadd]
      exact QHD (by kernel_rfl) hcell (by rw[eadd];exact hrf.frozen j) rfl
     have hrow':Row (wf.setCell ⟨g,j,none⟩ (.int .u8 l[k].2)) g 5 (bvs (Xx (l.take (k+1)) at_ N)).toArray:=by
      have:=hrf.set j (.int .u8 l[k].2)
      rw[QR5] at this
      rw[hset,hj]
      exact this
     have hBs:Below w.heap.size w (wf.setCell ⟨g,j,none⟩ (.int .u8 l[k].2)):=(bOn hB kf).setCell hwg _
     refine wD (QJz hst)<|woE<|eoB<|eoT<|coZ<|wM (QBx k (by omega))<|qF [] (Many.begin _) fun wh kh=>QQ (fun y=>⟨k+1,y⟩) ⟨bOn hBs kh,hrow'.below kh.touch.below hrow'.lt,hlt⟩ (by show l.length-(k+1) < l.length-k;omega)
   · have h:¬((l[k].1-at_)%65536 < (N:Int)):=by simpa using h
     refine JE<|eoB<|eoT<|coZ<|wM (QBx k (by omega))<|qF [] ke fun wh kh=>QQ (fun y=>⟨k+1,y⟩) ⟨bOn hB kh,?_,hlt⟩ (by show l.length-(k+1) < l.length-k;omega)
     show Row wh g _ (bvs (Xx (l.take (k+1)) at_ N)).toArray
     rw[hset,List.set_eq_of_length_le (by rw[Zv];omega)]
     exact hrow.below kh.touch.below hrow.lt
 · have hkl:k=l.length:=by have:¬((k:Int) < (l.length:Int)):=by simpa using hge
                           omega
   subst hkl
   rw[List.take_length] at hrow
   have e:QCN l at_ n=Xx l at_ N:=by unfold QCN;rw[hN]
   have hrz:=hrow.below ka.touch.below hrow.lt
   refine qQ [] ka fun wz kz=>JK<|Ju (.slice (some ⟨g,0,none⟩) N N) ⟨g,?_,?_,bOn hB kz⟩
   · rw[e,Zv]
   · rw[e]
     exact QCA (hrow.below kz.touch.below hrow.lt)
theorem QR3 {l:List (Int×Int)}(h:(l.all fun c=>decide (0≤c.1)&&decide (c.1≤65535)&&decide (0≤c.2)&&decide (c.2≤255))=true):Jg l:=fun c hc=>by
 have:=List.all_eq_true.1 h c hc
 simp only[Bool.and_eq_true,decide_eq_true_eq] at this
 exact⟨this.1.1.1,this.1.1.2,this.1.2,this.2⟩
theorem QAa {P:Program} {w:World} {b:Nat} {t u:TypeId} {cs:Array Value}(r:Row w b u cs)(ht:((P.underlying t).map (·.isRow),(P.info? t).map (·.size))=(some true,some cs.size):=by kernel_rfl):(Instr.loadAt t (pT b 0)).run P w=.ok (.agg cs) w:=by
 simp only[Prod.mk.injEq] at ht
 cases hu:P.underlying t with
 | none=>rw[hu] at ht;cases ht.1
 | some d =>
   rw[hu] at ht
   have hd:d.isRow=true:=by have:=ht.1;injection this
   exact QOD r hu hd ht.2
def wA:Wd:=⟨JY,mkS (Qm 0 [62,7,50,16,0]),[]⟩
theorem QNu {w:Wd}(h:OkW w):OkW (mkW w):=⟨h.g,QBa h.m,h.p⟩
theorem QNB (w:Wd):(mkW w).m.length≤w.m.length:=QGL w.m
theorem QGy:∀ (j:Nat) (w:Wd),(XF j w).1.m.length≤w.m.length+200*j∧(XF j w).1.p.length≤w.p.length
 | 0,w=>⟨Nat.le_refl _,Nat.le_refl _⟩
 | j+1,w=>by
   have ih:=QGy j (J5 w 0 0)
   have h1:(J5 w 0 0).m.length≤w.m.length+200:=qn w 0 0
   have h2:(J5 w 0 0).p.length≤w.p.length:=zB w 0 0
   exact⟨Nat.le_trans ih.1 (by omega),Nat.le_trans ih.2 h2⟩
def dg (k:Int):UInt8:=UInt8.ofNat (if k < 10 then 48+k else 87+k).toNat
def QIB (n:Int):List UInt8:=[dg (n / 16),dg (n%16),104]
def QBA (n:Int):List UInt8:=[dg (n / 4096),dg (n / 256%16),dg (n / 16%16),dg (n%16),104]
def QH3 (n:Int):List UInt8:=if n < 10 then [dg n] else if n < 100 then [dg (n / 10),dg (n%10)] else [dg (n / 100),dg (n / 10%10),dg (n%10)]
def qB (n:Int):List UInt8:=if n < 0 then 45 :: QH3 (-n) else 43 :: QH3 n
def ixC (p:Int):Nat:=if p=3∨p=5 then 120 else 121
def QDf (p d:Int):List UInt8:=[40,105,UInt8.ofNat (ixC p)]++(qB (JP d)++[41])
def toL (m:Int):List UInt8:=36 :: qB (JP (m%256)+2)
def tok (p d m:Int)(k:Nat):List UInt8:=if k=256 then QIB (m%256) else if k=257 then QBA m else if k=258 then toL m else if k=259 then QDf p d else [UInt8.ofNat k]
def say (p d m:Int)(l:List Nat):List UInt8:=l.flatMap (tok p d m)
theorem QKX (p d m:Int)(a b:List Nat):say p d m (a++b)=say p d m a++say p d m b:=by simp[say]
theorem QBU (p d m:Int)(k:Nat)(b:List Nat):say p d m (k :: b)=tok p d m k++say p d m b:=by simp[say]
theorem QKI (p d m:Int):say p d m []=[]:=rfl
def pick (l:List (List Nat))(k:Int):List Nat:=l.getD k.toNat []
def ZG:List (List Nat):=[[98],[99],[100],[101],[104],[108],[40,104,108,41],[97]]
def Zn:List (List Nat):=[[98,99],[100,101],[104,108],[115,112]]
def Xc:List (List Nat):=[[98,99],[100,101],[104,108],[97,102]]
def QBC:List (List Nat):=[[110,122],[122],[110,99],[99],[112,111],[112,101],[112],[109]]
def QN4:List (List Nat):=[[97,100,100,32,97,44],[97,100,99,32,97,44],[115,117,98,32],[115,98,99,32,97,44],[97,110,100,32],[120,111,114,32],[111,114,32],[99,112,32]]
def QDr:List (List Nat):=[[114,108,99],[114,114,99],[114,108],[114,114],[115,108,97],[115,114,97],[115,108,108],[115,114,108]]
def QHO:List (List Nat):=[[48],[48],[49],[50],[48],[48],[49],[50]]
def QO5:List (List Nat):=[[48],[49],[50],[51],[52],[53],[54],[55]]
def QPV:List (List Nat):=[[48,48,104],[48,56,104],[49,48,104],[49,56,104],[50,48,104],[50,56,104],[51,48,104],[51,56,104]]
def QJ3:List (List Nat):=[[110,111,112],[101,120,32,97,102,44,97,102,39],[100,106,110,122,32,84],[106,114,32,84],[106,114,32,74,44,84],[106,114,32,74,44,84],[106,114,32,74,44,84],[106,114,32,74,44,84]]
def QDP:List (List Nat):=[[108,100,32,80,44,87],[97,100,100,32,72,44,80]]
def QJC:List (List Nat):=[[108,100,32,40,98,99,41,44,97],[108,100,32,97,44,40,98,99,41],[108,100,32,40,100,101,41,44,97],[108,100,32,97,44,40,100,101,41],[108,100,32,40,87,41,44,72],[108,100,32,72,44,40,87,41],[108,100,32,40,87,41,44,97],[108,100,32,97,44,40,87,41]]
def QGA:List (List Nat):=[[105,110,99,32,80],[100,101,99,32,80]]
def QTK:List (List Nat):=[[114,108,99,97],[114,114,99,97],[114,108,97],[114,114,97],[100,97,97],[99,112,108],[115,99,102],[99,99,102]]
def QEF:List (List Nat):=[[114,101,116],[101,120,120],[106,112,32,40,72,41],[108,100,32,115,112,44,72]]
def QJt:List (List Nat):=[[106,112,32,87],[112,114,101,102,105,120],[111,117,116,32,40,78,41,44,97],[105,110,32,97,44,40,78,41],[101,120,32,40,115,112,41,44,72],[101,120,32,100,101,44,104,108],[100,105],[101,105]]
def onBitsF:List (List Nat):=[[75,32],[98,105,116,32,89,44],[114,101,115,32,89,44],[115,101,116,32,89,44]]
def QDo:List (List Nat):=[[115,98,99,32,72,44,80],[97,100,99,32,72,44,80]]
def QGD:List (List Nat):=[[108,100,32,40,87,41,44,80],[108,100,32,80,44,40,87,41]]
def QEJ:List (List Nat):=[[108,100,32,105,44,97],[108,100,32,114,44,97],[108,100,32,97,44,105],[108,100,32,97,44,114],[114,114,100],[114,108,100],[110,111,112,42],[110,111,112,42]]
def QGc:List (List Nat):=[[108,100,105],[108,100,100],[108,100,105,114],[108,100,100,114],[99,112,105],[99,112,100],[99,112,105,114],[99,112,100,114],[105,110,105],[105,110,100],[105,110,105,114],[105,110,100,114],[111,117,116,105],[111,117,116,100],[111,116,105,114],[111,116,100,114]]
def QJx (y z q:Int):List Nat:=if z=0 then pick QJ3 y else if z=1 then pick QDP q else if z=2 then pick QJC y else if z=3 then pick QGA q else if z=4 then [105,110,99,32,82] else if z=5 then [100,101,99,32,82] else if z=6 then [108,100,32,82,44,78] else pick QTK y
def QGk (p q:Int):List Nat:=if q=0 then [112,117,115,104,32,81] else if p=0 then [99,97,108,108,32,87] else [112,114,101,102,105,120]
def QO3 (y z p q:Int):List Nat:=if z=0 then [114,101,116,32,67] else if z=1 then (if q=0 then [112,111,112,32,81] else pick QEF p) else if z=2 then [106,112,32,67,44,87] else if z=3 then pick QJt y else if z=4 then [99,97,108,108,32,67,44,87] else if z=5 then QGk p q else if z=6 then [65,78] else [114,115,116,32,86]
def QOA (x y z p q:Int):List Nat:=if x=0 then QJx y z q else if x=1 then (if y=6∧z=6 then [104,97,108,116] else [108,100,32,82,44,83]) else if x=2 then [65,83] else QO3 y z p q
def QPJ (x z:Int):List Nat:=if x=1∨z=6 then pick onBitsF x++[73] else pick onBitsF x++[73]++[44,83]
def QFc (y z q:Int):List Nat:=if z=0 then (if y=6 then [105,110,32,102,44,40,99,41] else [105,110,32,82,44,40,99,41]) else if z=1 then (if y=6 then [111,117,116,32,40,99,41,44,48] else [111,117,116,32,40,99,41,44,82]) else if z=2 then pick QDo q else if z=3 then pick QGD q else if z=4 then [110,101,103] else if z=5 then (if y=1 then [114,101,116,105] else [114,101,116,110]) else if z=6 then [105,109,32,77] else pick QEJ y
def Xw (x y z q:Int):List Nat:=if x=1 then QFc y z q else if x=2∧z < 4∧4≤y then pick QGc (4*z+(y-4)) else [110,111,112,42]
def X9 (pl x y z p q:Int):List Nat:=if pl=0∨pl=3∨pl=4 then QOA x y z p q else if pl=1 then pick onBitsF x++[83] else if pl=2 then Xw x y z q else if pl=5∨pl=6 then QPJ x z else [63]
def ixT (p:Int):List Nat:=[105,ixC p]
def Qv (pl:Int)(near:Bool)(s:List Nat):List Nat:=if pl=3∨pl=4 then (if s=[104,108] then ixT pl else if s=[40,104,108,41] then [259] else if s=[104]∨s=[108] then (if near then s else ixT pl++s) else s) else s
def opT (pl:Int)(near:Bool)(y z p:Int)(k:Nat):List Nat :=
 if k=82 then Qv pl near (pick ZG y) else if k=83 then Qv pl near (pick ZG z) else if k=80 then Qv pl near (pick Zn p) else if k=81 then Qv pl near (pick Xc p)
 else if k=72 then Qv pl near [104,108] else if k=73 then [259] else if k=67 then pick QBC y else if k=74 then pick QBC (y%4) else if k=65 then pick QN4 y else if k=75 then pick QDr y
 else if k=77 then pick QHO y else if k=89 then pick QO5 y else if k=86 then pick QPV y else if k=78 then [256] else if k=87 then [257] else if k=84 then [258] else [k]
def QAT (pl c:Int):List Nat:=(X9 pl (fx c) (fy c) (fz c) (fp c) (fq c)).flatMap (opT pl (Jp pl c) (fy c) (fz c) (fp c))
def on (pl:Int):Bool:=pl==3||pl==4
def sb (l:List Nat):ByteArray:=⟨(l.map UInt8.ofNat).toArray⟩
def Tab (w:World)(name:String)(l:List (List Nat)):Prop:=w.var? Tryz.prog name=some (l.map (fun x=>Value.string (sb x))).toArray
theorem Jk {P:Program} {w w':World} {name:String} {cs:Array Value}(h:w.var? P name=some cs)(k:Below w.heap.size w w'):w'.var? P name=some cs:=by
 unfold World.var? at h ⊢
 obtain⟨g,hg,h⟩:=Option.bind_eq_some_iff.1 h
 rw[hg,Option.bind_some]
 have hlt:g < w.heap.size:=by
  rcases Nat.lt_or_ge g w.heap.size with e|e
  · exact e
  · rw[Array.getElem?_eq_none e] at h;cases h
 rw[k.block g hlt]
 exact h
theorem Tab.at_ {w:World} {name:String} {l:List (List Nat)} {g:Nat}(h:Tab w name l)(hg:Tryz.prog.globalNamed name=some g)(i:Nat)(hi:i < l.length):w.cell? ⟨g,i,none⟩=some (.string (sb (pick l (i:Int)))):=by
 rw[World.var?_cell hg h i]
 simp[pick,hi]
theorem Tab.of {w:World} {name:String} {l:List (List Nat)} {g:Nat}(h:Tab w name l)(hg:Tryz.prog.globalNamed name=some g)(i:Int)(h0:0≤i)(h1:i < l.length):w.cell? ⟨g,i.toNat,none⟩=some (.string (sb (pick l i))):=by
 have:=h.at_ hg i.toNat (by omega)
 rwa [show ((i.toNat:Nat):Int)=i by omega] at this
structure TextTabs (w:World):Prop where
 regs:Tab w "charabanc/text.registers" ZG
 pairs:Tab w "charabanc/text.pairs" Zn
 stacked:Tab w "charabanc/text.stacked" Xc
 conds:Tab w "charabanc/text.conditions" QBC
 sums:Tab w "charabanc/text.arithmetic" QN4
 shifts:Tab w "charabanc/text.shifts" QDr
 modes:Tab w "charabanc/text.modes" QHO
 jumps:Tab w "charabanc/text.jumps" QJ3
 ofPairs:Tab w "charabanc/text.ofPairs" QDP
 moves:Tab w "charabanc/text.moves" QJC
 counts:Tab w "charabanc/text.counts" QGA
 onA:Tab w "charabanc/text.onA" QTK
 returns:Tab w "charabanc/text.returns" QEF
 mixed:Tab w "charabanc/text.mixed" QJt
 onBits:Tab w "charabanc/text.onBits" onBitsF
 carried:Tab w "charabanc/text.carried" QDo
 stores:Tab w "charabanc/text.stores" QGD
 special:Tab w "charabanc/text.special" QEJ
 blocks:Tab w "charabanc/text.blocks" QGc
 pow:Lib.TabIs Tryz.prog w "internal/strconv.uint64pow10" .u64 Lib.pow10Tab
 bru:w.cell? ⟨23,15,none⟩=some (.int .u8 4)
theorem TextTabs.below {w w':World}(h:TextTabs w)(k:Below w.heap.size w w'):TextTabs w' :=
 ⟨Jk h.regs k,Jk h.pairs k,Jk h.stacked k,Jk h.conds k,Jk h.sums k,Jk h.shifts k,Jk h.modes k,Jk h.jumps k,Jk h.ofPairs k,Jk h.moves k,Jk h.counts k,Jk h.onA k,Jk h.returns k,Jk h.mixed k,Jk h.onBits k,Jk h.carried k,Jk h.stores k,Jk h.special k,Jk h.blocks k,Jk h.pow k,cell_kept h.bru k⟩
theorem QGE:Tryz.prog.globalNamed "charabanc/text.registers"=some 3:=by kernel_rfl
theorem QKb:Tryz.prog.globalNamed "charabanc/text.pairs"=some 4:=by kernel_rfl
theorem QE3:Tryz.prog.globalNamed "charabanc/text.stacked"=some 5:=by kernel_rfl
theorem QKU:Tryz.prog.globalNamed "charabanc/text.conditions"=some 6:=by kernel_rfl
theorem QUH:Tryz.prog.globalNamed "charabanc/text.arithmetic"=some 7:=by kernel_rfl
theorem QO0:Tryz.prog.globalNamed "charabanc/text.shifts"=some 8:=by kernel_rfl
theorem QRQ:Tryz.prog.globalNamed "charabanc/text.modes"=some 9:=by kernel_rfl
theorem QQo:Tryz.prog.globalNamed "charabanc/text.jumps"=some 12:=by kernel_rfl
theorem QLT:Tryz.prog.globalNamed "charabanc/text.ofPairs"=some 13:=by kernel_rfl
theorem QQL:Tryz.prog.globalNamed "charabanc/text.moves"=some 14:=by kernel_rfl
theorem QOQ:Tryz.prog.globalNamed "charabanc/text.counts"=some 15:=by kernel_rfl
theorem QUg:Tryz.prog.globalNamed "charabanc/text.onA"=some 16:=by kernel_rfl
theorem QL1:Tryz.prog.globalNamed "charabanc/text.returns"=some 17:=by kernel_rfl
theorem QPu:Tryz.prog.globalNamed "charabanc/text.mixed"=some 18:=by kernel_rfl
theorem QIS:Tryz.prog.globalNamed "charabanc/text.onBits"=some 1:=by kernel_rfl
theorem QK9:Tryz.prog.globalNamed "charabanc/text.carried"=some 19:=by kernel_rfl
theorem QNY:Tryz.prog.globalNamed "charabanc/text.stores"=some 20:=by kernel_rfl
theorem QMU:Tryz.prog.globalNamed "charabanc/text.special"=some 21:=by kernel_rfl
theorem QPG:Tryz.prog.globalNamed "charabanc/text.blocks"=some 10:=by kernel_rfl
theorem QKf (l:List Nat):(sb l).size=l.length:=by
 show (l.map UInt8.ofNat).toArray.size=_
 simp
theorem QPI (a b:List Nat):sb a++sb b=sb (a++b):=by
 apply ByteArray.ext
 simp[sb]
section
open Go.Shelf Go.RowKit
def Sh.lays169_ren:Go.Shelf.Ren:=⟨fun|169=>51|n=>n,fun|70=>95|9=>9|0=>0|72=>97|37=>26|127=>141|3=>3|5=>5|n=>n,fun|n=>n⟩
theorem Sh.lays169:Go.Proofs.Lays.n169 Tryz.prog Sh.lays169_ren:={
 mixed:=by kernel_rfl
 f169:=Tryz.func51.trans (congrArg some (by kernel_rfl))
 t0:=Tryz.underlying0
 a0:=Tryz.isAgg0
 z0:=Tryz.sizeOf0
 v0:=Tryz.zeroValue0
 t3:=Tryz.underlying3
 a3:=Tryz.isAgg3
 z3:=Tryz.sizeOf3
 v3:=Tryz.zeroValue3
 t9:=Tryz.underlying9
 a9:=Tryz.isAgg9
 z9:=Tryz.sizeOf9
 v9:=Tryz.zeroValue9
 t37:=Tryz.underlying26
 a37:=Tryz.isAgg26
 z37:=Tryz.sizeOf26
 v37:=Tryz.zeroValue26
 t70:=Tryz.underlying95
 a70:=Tryz.isAgg95
 z70:=Tryz.sizeOf95
 v70:=Tryz.zeroValue95
 t72:=Tryz.underlying97
 a72:=Tryz.isAgg97
 z72:=Tryz.sizeOf97
 v72:=Tryz.zeroValue97
 t127:=Tryz.underlying141
 a127:=Tryz.isAgg141
 z127:=Tryz.sizeOf141
 v127:=Tryz.zeroValue141 }
theorem Sh.Builder_Extra_169:Builder.Extra Tryz.prog Sh.lays169_ren:={
 sizeBuilder:=by kernel_rfl
 liesBuilder:=by kernel_rfl
 t5:=Tryz.underlying5
 a5:=Tryz.isAgg5
 z5:=Tryz.sizeOf5
 v5:=Tryz.zeroValue5
 infoByte:=by kernel_rfl
 cellsByte:=by kernel_rfl
 sizeByte:=by kernel_rfl
 neB5:=by decide }
theorem Sh.Builder_String_any_k (B b:Nat)(l:List UInt8)(w:World)(h:Lib.IsBuilderF 97 5 B b (Lib.byteCells l) w)(hBw:B≤w.heap.size) :
 Calls Tryz.prog 51 #[.pointer (some ⟨b,0,none⟩)] w fun e w'=>e=.returned (.string ⟨l.toArray⟩)∧(Lib.IsBuilderF 97 5 B b (Lib.byteCells l) w'∧Below B w w'∧Lib.OthersKept 5 (some b) w w'):=Any.Builder_String_any_k Sh.lays169 Sh.Builder_Extra_169 B b l w h hBw
def Sh.laysM171_ren:Go.Shelf.Ren:=⟨fun|171=>21|243=>36|246=>56|283=>76|284=>77|285=>78|286=>79|129=>109|317=>108|318=>110|319=>111|320=>112|337=>141|338=>142|n=>n,fun|3=>3|9=>9|2=>2|4=>4|171=>131|0=>0|53=>72|37=>26|5=>5|173=>134|212=>161|51=>136|20=>20|213=>162|46=>91|232=>197|233=>198|n=>n,fun|17=>2|18=>22|19=>23|n=>n⟩
theorem Sh.laysM171:Go.Proofs.LaysM.n171 Tryz.prog Sh.laysM171_ren:={
 mixed:=by kernel_rfl
 f129:=Tryz.func109.trans (congrArg some (by kernel_rfl))
 f171:=Tryz.func21.trans (congrArg some (by kernel_rfl))
 f243:=Tryz.func36.trans (congrArg some (by kernel_rfl))
 f246:=Tryz.func56.trans (congrArg some (by kernel_rfl))
 f283:=Tryz.func76.trans (congrArg some (by kernel_rfl))
 f284:=Tryz.func77.trans (congrArg some (by kernel_rfl))
 f285:=Tryz.func78.trans (congrArg some (by kernel_rfl))
 f286:=Tryz.func79.trans (congrArg some (by kernel_rfl))
 f317:=Tryz.func108.trans (congrArg some (by kernel_rfl))
 f318:=Tryz.func110.trans (congrArg some (by kernel_rfl))
 f319:=Tryz.func111.trans (congrArg some (by kernel_rfl))
 f320:=Tryz.func112.trans (congrArg some (by kernel_rfl))
 f337:=Tryz.func141.trans (congrArg some (by kernel_rfl))
 f338:=Tryz.func142.trans (congrArg some (by kernel_rfl))
 t0:=Tryz.underlying0
 a0:=Tryz.isAgg0
 z0:=Tryz.sizeOf0
 v0:=Tryz.zeroValue0
 t2:=Tryz.underlying2
 a2:=Tryz.isAgg2
 z2:=Tryz.sizeOf2
 v2:=Tryz.zeroValue2
 t3:=Tryz.underlying3
 a3:=Tryz.isAgg3
 z3:=Tryz.sizeOf3
 v3:=Tryz.zeroValue3
 t4:=Tryz.underlying4
 a4:=Tryz.isAgg4
 z4:=Tryz.sizeOf4
 v4:=Tryz.zeroValue4
 t5:=Tryz.underlying5
 a5:=Tryz.isAgg5
 z5:=Tryz.sizeOf5
 v5:=Tryz.zeroValue5
 t9:=Tryz.underlying9
 a9:=Tryz.isAgg9
 z9:=Tryz.sizeOf9
 v9:=Tryz.zeroValue9
 t20:=Tryz.underlying20
 a20:=Tryz.isAgg20
 z20:=Tryz.sizeOf20
 v20:=Tryz.zeroValue20
 t37:=Tryz.underlying26
 a37:=Tryz.isAgg26
 z37:=Tryz.sizeOf26
 v37:=Tryz.zeroValue26
 t46:=Tryz.underlying91
 a46:=Tryz.isAgg91
 z46:=Tryz.sizeOf91
 v46:=Tryz.zeroValue91
 t51:=Tryz.underlying136
 a51:=Tryz.isAgg136
 z51:=Tryz.sizeOf136
 v51:=Tryz.zeroValue136
 t53:=Tryz.underlying72
 a53:=Tryz.isAgg72
 z53:=Tryz.sizeOf72
 v53:=Tryz.zeroValue72
 t171:=Tryz.underlying131
 a171:=Tryz.isAgg131
 z171:=Tryz.sizeOf131
 v171:=Tryz.zeroValue131
 t173:=Tryz.underlying134
 a173:=Tryz.isAgg134
 z173:=Tryz.sizeOf134
 v173:=Tryz.zeroValue134
 t212:=Tryz.underlying161
 a212:=Tryz.isAgg161
 z212:=Tryz.sizeOf161
 v212:=Tryz.zeroValue161
 t213:=Tryz.underlying162
 a213:=Tryz.isAgg162
 z213:=Tryz.sizeOf162
 t232:=Tryz.underlying197
 a232:=Tryz.isAgg197
 z232:=Tryz.sizeOf197
 v232:=Tryz.zeroValue197
 t233:=Tryz.underlying198
 a233:=Tryz.isAgg198
 z233:=Tryz.sizeOf198
 v233:=Tryz.zeroValue198
 g17:=by kernel_rfl
 g18:=by kernel_rfl
 g19:=by kernel_rfl
 i0:=by kernel_rfl
 i2:=by kernel_rfl
 i3:=by kernel_rfl
 i4:=by kernel_rfl
 i5:=by kernel_rfl
 i9:=by kernel_rfl
 i20:=by kernel_rfl
 i37:=by kernel_rfl
 i46:=by kernel_rfl
 i51:=by kernel_rfl
 i53:=by kernel_rfl
 i171:=by kernel_rfl
 i173:=by kernel_rfl
 i212:=by kernel_rfl
 i232:=by kernel_rfl
 i233:=by kernel_rfl
 m17:=by kernel_rfl
 m18:=by kernel_rfl
 m19:=by kernel_rfl }
open Go.RowKit Go.Sort Go.Lib in
theorem Sh.strconv_Itoa (n:Int)(h0:-9223372036854775808≤n)(h1:n≤9223372036854775807)(w:World)(htab:Lib.TabIs Tryz.prog w "internal/strconv.uint64pow10" .u64 Lib.pow10Tab) :
 Calls Tryz.prog 21 #[.int .i64 n] w fun e w'=>e=.returned (.string ⟨(Lib.itoa n).toArray⟩)∧∃ k os,w'=grow (w.drewN k) os:=Any.strconv_Itoa Sh.laysM171 n h0 h1 w htab
open Go.RowKit Go.Sort Go.Lib in
def Sh.lays105_ren:Go.Shelf.Ren:=⟨fun|105=>31|212=>46|99=>47|165=>48|166=>49|170=>50|169=>51|263=>80|264=>81|206=>82|240=>83|241=>84|276=>113|277=>114|n=>n,fun|9=>9|3=>3|4=>4|20=>20|0=>0|46=>91|109=>92|5=>5|72=>97|76=>101|51=>136|146=>137|53=>72|148=>139|70=>95|37=>26|75=>100|127=>141|164=>163|80=>104|n=>n,fun|n=>n⟩
theorem Sh.lays105:Go.Proofs.Lays.n105 Tryz.prog Sh.lays105_ren:={
 mixed:=by kernel_rfl
 f99:=Tryz.func47.trans (congrArg some (by kernel_rfl))
 f105:=Tryz.func31.trans (congrArg some (by kernel_rfl))
 f165:=Tryz.func48.trans (congrArg some (by kernel_rfl))
 f166:=Tryz.func49.trans (congrArg some (by kernel_rfl))
 f169:=Tryz.func51.trans (congrArg some (by kernel_rfl))
 f170:=Tryz.func50.trans (congrArg some (by kernel_rfl))
 f206:=Tryz.func82.trans (congrArg some (by kernel_rfl))
 f212:=Tryz.func46.trans (congrArg some (by kernel_rfl))
 f240:=Tryz.func83.trans (congrArg some (by kernel_rfl))
 f241:=Tryz.func84.trans (congrArg some (by kernel_rfl))
 f263:=Tryz.func80.trans (congrArg some (by kernel_rfl))
 f264:=Tryz.func81.trans (congrArg some (by kernel_rfl))
 f276:=Tryz.func113.trans (congrArg some (by kernel_rfl))
 f277:=Tryz.func114.trans (congrArg some (by kernel_rfl))
 t0:=Tryz.underlying0
 a0:=Tryz.isAgg0
 z0:=Tryz.sizeOf0
 v0:=Tryz.zeroValue0
 t3:=Tryz.underlying3
 a3:=Tryz.isAgg3
 z3:=Tryz.sizeOf3
 v3:=Tryz.zeroValue3
 t4:=Tryz.underlying4
 a4:=Tryz.isAgg4
 z4:=Tryz.sizeOf4
 v4:=Tryz.zeroValue4
 t5:=Tryz.underlying5
 a5:=Tryz.isAgg5
 z5:=Tryz.sizeOf5
 v5:=Tryz.zeroValue5
 t9:=Tryz.underlying9
 a9:=Tryz.isAgg9
 z9:=Tryz.sizeOf9
 v9:=Tryz.zeroValue9
 t20:=Tryz.underlying20
 a20:=Tryz.isAgg20
 z20:=Tryz.sizeOf20
 v20:=Tryz.zeroValue20
 t37:=Tryz.underlying26
 a37:=Tryz.isAgg26
 z37:=Tryz.sizeOf26
 v37:=Tryz.zeroValue26
 t46:=Tryz.underlying91
 a46:=Tryz.isAgg91
 z46:=Tryz.sizeOf91
 v46:=Tryz.zeroValue91
 t51:=Tryz.underlying136
 a51:=Tryz.isAgg136
 z51:=Tryz.sizeOf136
 v51:=Tryz.zeroValue136
 t53:=Tryz.underlying72
 a53:=Tryz.isAgg72
 z53:=Tryz.sizeOf72
 v53:=Tryz.zeroValue72
 t70:=Tryz.underlying95
 a70:=Tryz.isAgg95
 z70:=Tryz.sizeOf95
 v70:=Tryz.zeroValue95
 t72:=Tryz.underlying97
 a72:=Tryz.isAgg97
 z72:=Tryz.sizeOf97
 v72:=Tryz.zeroValue97
 t75:=Tryz.underlying100
 a75:=Tryz.isAgg100
 z75:=Tryz.sizeOf100
 v75:=Tryz.zeroValue100
 t76:=Tryz.underlying101
 a76:=Tryz.isAgg101
 z76:=Tryz.sizeOf101
 v76:=Tryz.zeroValue101
 t109:=Tryz.underlying92
 a109:=Tryz.isAgg92
 z109:=Tryz.sizeOf92
 v109:=Tryz.zeroValue92
 t127:=Tryz.underlying141
 a127:=Tryz.isAgg141
 z127:=Tryz.sizeOf141
 v127:=Tryz.zeroValue141
 t146:=Tryz.underlying137
 a146:=Tryz.isAgg137
 z146:=Tryz.sizeOf137
 v146:=Tryz.zeroValue137
 t148:=Tryz.underlying139
 a148:=Tryz.isAgg139
 z148:=Tryz.sizeOf139
 v148:=Tryz.zeroValue139
 t164:=Tryz.underlying163
 a164:=Tryz.isAgg163
 z164:=Tryz.sizeOf163
 v164:=Tryz.zeroValue163 }
theorem Sh.Builder_Extra_105:Builder.Extra Tryz.prog Sh.lays105_ren:={
 sizeBuilder:=by kernel_rfl
 liesBuilder:=by kernel_rfl
 t5:=Tryz.underlying5
 a5:=Tryz.isAgg5
 z5:=Tryz.sizeOf5
 v5:=Tryz.zeroValue5
 infoByte:=by kernel_rfl
 cellsByte:=by kernel_rfl
 sizeByte:=by kernel_rfl
 neB5:=by decide }
open Go.RowKit Go.Lib in
theorem Sh.strings_Repeat (s:ByteArray)(c:Nat)(w:World)(hc:c≤9223372036854775807)(hlen:s.size*c≤140737488355328) :
 Calls Tryz.prog 31 #[.string s,.int .i64 c] w fun e w'=>e=.returned (.string ⟨(Lib.repeatL s.data.toList c).toArray⟩)∧Below w.heap.size w w':=Any.strings_Repeat Sh.lays105 Sh.Builder_Extra_105 s c w hc hlen
def Sh.lays166_ren:Go.Shelf.Ren:=⟨fun|166=>49|240=>83|276=>113|n=>n,fun|0=>0|3=>3|4=>4|5=>5|9=>9|20=>20|37=>26|70=>95|72=>97|75=>100|164=>163|80=>104|n=>n,fun|n=>n⟩
theorem Sh.lays166:Go.Proofs.Lays.n166 Tryz.prog Sh.lays166_ren:={
 mixed:=by kernel_rfl
 f166:=Tryz.func49.trans (congrArg some (by kernel_rfl))
 f240:=Tryz.func83.trans (congrArg some (by kernel_rfl))
 f276:=Tryz.func113.trans (congrArg some (by kernel_rfl))
 t0:=Tryz.underlying0
 a0:=Tryz.isAgg0
 z0:=Tryz.sizeOf0
 v0:=Tryz.zeroValue0
 t3:=Tryz.underlying3
 a3:=Tryz.isAgg3
 z3:=Tryz.sizeOf3
 v3:=Tryz.zeroValue3
 t4:=Tryz.underlying4
 a4:=Tryz.isAgg4
 z4:=Tryz.sizeOf4
 v4:=Tryz.zeroValue4
 t9:=Tryz.underlying9
 a9:=Tryz.isAgg9
 z9:=Tryz.sizeOf9
 v9:=Tryz.zeroValue9
 t20:=Tryz.underlying20
 a20:=Tryz.isAgg20
 z20:=Tryz.sizeOf20
 v20:=Tryz.zeroValue20
 t37:=Tryz.underlying26
 a37:=Tryz.isAgg26
 z37:=Tryz.sizeOf26
 v37:=Tryz.zeroValue26
 t70:=Tryz.underlying95
 a70:=Tryz.isAgg95
 z70:=Tryz.sizeOf95
 v70:=Tryz.zeroValue95
 t72:=Tryz.underlying97
 a72:=Tryz.isAgg97
 z72:=Tryz.sizeOf97
 v72:=Tryz.zeroValue97
 t75:=Tryz.underlying100
 a75:=Tryz.isAgg100
 z75:=Tryz.sizeOf100
 v75:=Tryz.zeroValue100
 t164:=Tryz.underlying163
 a164:=Tryz.isAgg163
 z164:=Tryz.sizeOf163
 v164:=Tryz.zeroValue163 }
theorem Sh.Builder_Extra_166:Builder.Extra Tryz.prog Sh.lays166_ren:={
 sizeBuilder:=by kernel_rfl
 liesBuilder:=by kernel_rfl
 t5:=Tryz.underlying5
 a5:=Tryz.isAgg5
 z5:=Tryz.sizeOf5
 v5:=Tryz.zeroValue5
 infoByte:=by kernel_rfl
 cellsByte:=by kernel_rfl
 sizeByte:=by kernel_rfl
 neB5:=by decide }
theorem Sh.Builder_WriteString_k (B b:Nat)(bs:List Value)(s:ByteArray)(w:World)(h:Lib.IsBuilderF 97 5 B b bs w)(hlen:bs.length+s.size≤140737488355328)(hBw:B≤w.heap.size) :
 Calls Tryz.prog 49 #[.pointer (some ⟨b,0,none⟩),.string s] w fun e w'=>e=.returned (.tuple #[.int .i64 s.size,.nilIface])∧(Lib.BuilderAtF 97 5 B b (.pointer (some ⟨b,0,none⟩)) (bs++Lib.strCells s) w'∧Below B w w'∧Lib.OthersKept 5 (some b) w w'):=Any.Builder_WriteString_k Sh.lays166 Sh.Builder_Extra_166 B b bs s w h hlen hBw
end
theorem QGF (w:World)(h:w.cell? ⟨23,15,none⟩=some (.int .u8 4)) :
 Calls Tryz.prog 112 #[.int .u64 16] w fun e w'=>e=.returned (.int .i64 4)∧w=w':=by
 have k1:bits BinOp.and IntKind.u64 16 (IntKind.u64.wrap (-16))=16:=by decide +kernel
 go_enter Tryz.func112,Tryz.ntmps112
 go_wp2
 go_ret
 exact⟨rfl,rfl⟩
theorem QFu (w:World) :
 Calls Tryz.prog 111 #[.int .i64 16] w fun e w'=>e=.returned (.bool true)∧w=w':=by
 have k1:(bits BinOp.and IntKind.i64 16 15==0)=true:=by decide +kernel
 go_enter Tryz.func111,Tryz.ntmps111
 go_wp2
 go_ret
 exact⟨by first|rfl|rw[k1],rfl⟩
def allDigits:ByteArray:=⟨#[48,49,50,51,52,53,54,55,56,57,97,98,99,100,101,102,103,104,105,106,107,108,109,110,111,112,113,114,115,116,117,118,119,120,121,122]⟩
theorem QK4:∀ x:Fin 16,allDigits.data[x.val]? = some (dg (x.val:Int)):=by decide +kernel
theorem jp (q:IntKind)(k:Int)(h0:0≤k)(h1:k < 16)(W:World):(Instr.index 9 (.string ⟨#[48,49,50,51,52,53,54,55,56,57,97,98,99,100,101,102,103,104,105,106,107,108,109,110,111,112,113,114,115,116,117,118,119,120,121,122]⟩) (.int q k)).run Tryz.prog W=.ok (.int .u8 ((dg k).toNat:Int)) W:=by
 rw[run_index_string (h:=Tryz.underlying9),dif_pos ⟨h0,by show k < ((36:Nat):Int);omega⟩]
 have:=QK4 ⟨k.toNat,by omega⟩
 rw[show (((⟨k.toNat,by omega⟩:Fin 16).val:Nat):Int)=k by show (k.toNat:Int)=k;omega] at this
 have hb:k.toNat < allDigits.data.size:=by show k.toNat < 36;omega
 rw[Array.getElem?_eq_getElem hb] at this
 rw[←Option.some.inj this]
 rfl
theorem zp (w:World)(cs:Array Value)(t:TypeId)(i:Nat)(l:List UInt8)(n cap:Nat)(hn:l.length=n)(h:∀ (j:Nat) (hj:j < l.length),cs[i+j]? = some (.int .u8 ((l[j]'hj).toNat:Int))) :
 (convert 26 9 (.slice (some ⟨w.heap.size,i,none⟩) n cap)).run Tryz.prog (w.alloc (.cells cs t))=.ok (.string ⟨l.toArray⟩) (w.alloc (.cells cs t)):=by
 subst hn
 refine run_convert_bytes_back (P:=Tryz.prog) (w.alloc (.cells cs t)) 26 9 5 ⟨w.heap.size,i,none⟩ cap l Tryz.underlying26 Tryz.underlying5 Tryz.underlying9 (fun j hj=>?_)
 have e:(⟨w.heap.size,i,none⟩:Addr).add j=⟨w.heap.size,i+j,none⟩:=by unfold Addr.add;split<;>simp_all
 rw[e,←h j hj]
 have e2:(w.alloc (.cells cs t)).heap[w.heap.size]? = some (.cells cs t (0,0)):=by show (w.heap.push _)[w.heap.size]? = _;simp
 simp only[World.cell?,e2]
 rfl
theorem QBF:Tryz.zeroCells162.size=65:=by kernel_rfl
def QAj (u:Int):List UInt8:=if u < 16 then [dg u] else if u < 256 then [dg (u / 16),dg (u%16)] else if u < 4096 then [dg (u / 256),dg (u / 16%16),dg (u%16)] else [dg (u / 4096),dg (u / 256%16),dg (u / 16%16),dg (u%16)]
theorem QUs (u:Int)(h0:0≤u):bits BinOp.and IntKind.u64 u 15=u%16:=by
 have e:(BitVec.ofInt 64 u &&& BitVec.ofInt 64 15).toNat=(u%16).toNat:=by
  rw[BitVec.toNat_and,show (BitVec.ofInt 64 15).toNat=2 ^ 4-1 by decide,Nat.and_two_pow_sub_one_eq_mod,BitVec.toNat_ofInt]
  omega
 show IntKind.u64.wrap ((BitVec.ofInt 64 u &&& BitVec.ofInt 64 15).toNat:Int)=_
 rw[e,IntKind.wrap_u64]
 omega
theorem QQn (u:Int)(h0:0≤u)(h1:u < 16)(w:World)(h:w.cell? ⟨23,15,none⟩=some (.int .u8 4)) :
 Calls Tryz.prog 79 #[.slice none 0 0,.int .u64 u,.int .i64 16,.bool false,.bool false] w fun e w'=>e=.returned (.tuple #[.slice none 0 0,.string ⟨[dg u].toArray⟩])∧Below w.heap.size w w':=by
 have k1:=jp .u64 u h0 h1
 have hc:=fun o=>JH w o h
 have hv:=zp w (Tryz.zeroCells162.setIfInBounds 64 (.int .u8 ((dg u).toNat:Int))) 162 64 [dg u] 1 1 rfl (by
  intro j hj
  obtain rfl:j=0:=by simpa using hj
  simp[Array.getElem?_setIfInBounds,QBF])
 go_enter Tryz.func79,Tryz.ntmps79
 go_wp2_with (first
  | (go_at_call 111;refine (QFu _).mono ?_;rintro e w' ⟨rfl,rfl⟩)
  | (go_at_call 112;refine (QGF _ (hc _)).mono ?_;rintro e w' ⟨rfl,rfl⟩))
 refine wp_loop_rounds 1 ?_
 rw[rounds_succ]
 go_wp2
 go_ret2
 exact⟨rfl,(by repeat (first|exact Below.refl _ _|assumption|refine JF ?_ (by assumption)|refine Below.drew ?_|refine Below.alloc ?_ (by first|(simp;done)|(simp;omega)|omega) _|refine Below.setCell ?_ (by first|(simp;done)|(simp;omega)|omega) _))⟩
theorem QRK (u d0 a:Int)(hd0:bits BinOp.and IntKind.u64 u 15=d0)(hq0:u / 16=a)(hg0:16≤u)(hl0:u < 65536)(hb0:0≤d0)(hc0:d0 < 16)(ha0:0 < a)(ha1:a < 16)(w:World)(h:w.cell? ⟨23,15,none⟩=some (.int .u8 4)) :
 Calls Tryz.prog 79 #[.slice none 0 0,.int .u64 u,.int .i64 16,.bool false,.bool false] w fun e w'=>e=.returned (.tuple #[.slice none 0 0,.string ⟨[dg a,dg d0].toArray⟩])∧Below w.heap.size w w':=by
 have k0:=jp .u64 a (by omega) ha1
 have k1:=jp .u64 d0 hb0 hc0
 have hc:=fun o=>JH w o h
 have hv:=zp w ((Tryz.zeroCells162.setIfInBounds 64 (.int .u8 ((dg d0).toNat:Int))).setIfInBounds 63 (.int .u8 ((dg a).toNat:Int))) 162 63 [dg a,dg d0] 2 2 rfl (by
  intro j hj
  have hj:j < 2:=by simpa using hj
  obtain rfl|rfl:j=0∨j=1:=by omega
  all_goals simp[Array.getElem?_setIfInBounds,QBF])
 clear hb0 hc0
 go_enter Tryz.func79,Tryz.ntmps79
 go_wp2_with (first
  | (go_at_call 111;refine (QFu _).mono ?_;rintro e w' ⟨rfl,rfl⟩)
  | (go_at_call 112;refine (QGF _ (hc _)).mono ?_;rintro e w' ⟨rfl,rfl⟩))
 refine wp_loop_rounds 2 ?_
 rw[rounds_succ]
 go_wp2
 rw[rounds_succ]
 go_wp2
 go_ret2
 exact⟨rfl,(by repeat (first|exact Below.refl _ _|assumption|refine JF ?_ (by assumption)|refine Below.drew ?_|refine Below.alloc ?_ (by first|(simp;done)|(simp;omega)|omega) _|refine Below.setCell ?_ (by first|(simp;done)|(simp;omega)|omega) _))⟩
theorem QQ1 (u v1 d0 d1 a:Int)(hd0:bits BinOp.and IntKind.u64 u 15=d0)(hq0:u / 16=v1)(hg0:16≤u)(hl0:u < 65536)(hb0:0≤d0)(hc0:d0 < 16)(hd1:bits BinOp.and IntKind.u64 v1 15=d1)(hq1:v1 / 16=a)(hg1:16≤v1)(hl1:v1 < 65536)(hb1:0≤d1)(hc1:d1 < 16)(ha0:0 < a)(ha1:a < 16)(w:World)(h:w.cell? ⟨23,15,none⟩=some (.int .u8 4)) :
 Calls Tryz.prog 79 #[.slice none 0 0,.int .u64 u,.int .i64 16,.bool false,.bool false] w fun e w'=>e=.returned (.tuple #[.slice none 0 0,.string ⟨[dg a,dg d1,dg d0].toArray⟩])∧Below w.heap.size w w':=by
 have k0:=jp .u64 a (by omega) ha1
 have k1:=jp .u64 d0 hb0 hc0
 have k2:=jp .u64 d1 hb1 hc1
 have hc:=fun o=>JH w o h
 have hv:=zp w (((Tryz.zeroCells162.setIfInBounds 64 (.int .u8 ((dg d0).toNat:Int))).setIfInBounds 63 (.int .u8 ((dg d1).toNat:Int))).setIfInBounds 62 (.int .u8 ((dg a).toNat:Int))) 162 62 [dg a,dg d1,dg d0] 3 3 rfl (by
  intro j hj
  have hj:j < 3:=by simpa using hj
  obtain rfl|rfl|rfl:j=0∨j=1∨j=2:=by omega
  all_goals simp[Array.getElem?_setIfInBounds,QBF])
 clear hb0 hc0 hb1 hc1
 go_enter Tryz.func79,Tryz.ntmps79
 go_wp2_with (first
  | (go_at_call 111;refine (QFu _).mono ?_;rintro e w' ⟨rfl,rfl⟩)
  | (go_at_call 112;refine (QGF _ (hc _)).mono ?_;rintro e w' ⟨rfl,rfl⟩))
 refine wp_loop_rounds 3 ?_
 rw[rounds_succ]
 go_wp2
 rw[rounds_succ]
 go_wp2
 rw[rounds_succ]
 go_wp2
 go_ret2
 exact⟨rfl,(by repeat (first|exact Below.refl _ _|assumption|refine JF ?_ (by assumption)|refine Below.drew ?_|refine Below.alloc ?_ (by first|(simp;done)|(simp;omega)|omega) _|refine Below.setCell ?_ (by first|(simp;done)|(simp;omega)|omega) _))⟩
theorem QRp (u v1 v2 d0 d1 d2 a:Int)(hd0:bits BinOp.and IntKind.u64 u 15=d0)(hq0:u / 16=v1)(hg0:16≤u)(hl0:u < 65536)(hb0:0≤d0)(hc0:d0 < 16)(hd1:bits BinOp.and IntKind.u64 v1 15=d1)(hq1:v1 / 16=v2)(hg1:16≤v1)(hl1:v1 < 65536)(hb1:0≤d1)(hc1:d1 < 16)(hd2:bits BinOp.and IntKind.u64 v2 15=d2)(hq2:v2 / 16=a)(hg2:16≤v2)(hl2:v2 < 65536)(hb2:0≤d2)(hc2:d2 < 16)(ha0:0 < a)(ha1:a < 16)(w:World)(h:w.cell? ⟨23,15,none⟩=some (.int .u8 4)) :
 Calls Tryz.prog 79 #[.slice none 0 0,.int .u64 u,.int .i64 16,.bool false,.bool false] w fun e w'=>e=.returned (.tuple #[.slice none 0 0,.string ⟨[dg a,dg d2,dg d1,dg d0].toArray⟩])∧Below w.heap.size w w':=by
 have k0:=jp .u64 a (by omega) ha1
 have k1:=jp .u64 d0 hb0 hc0
 have k2:=jp .u64 d1 hb1 hc1
 have k3:=jp .u64 d2 hb2 hc2
 have hc:=fun o=>JH w o h
 have hv:=zp w ((((Tryz.zeroCells162.setIfInBounds 64 (.int .u8 ((dg d0).toNat:Int))).setIfInBounds 63 (.int .u8 ((dg d1).toNat:Int))).setIfInBounds 62 (.int .u8 ((dg d2).toNat:Int))).setIfInBounds 61 (.int .u8 ((dg a).toNat:Int))) 162 61 [dg a,dg d2,dg d1,dg d0] 4 4 rfl (by
  intro j hj
  have hj:j < 4:=by simpa using hj
  obtain rfl|rfl|rfl|rfl:j=0∨j=1∨j=2∨j=3:=by omega
  all_goals simp[Array.getElem?_setIfInBounds,QBF])
 clear hb0 hc0 hb1 hc1 hb2 hc2
 go_enter Tryz.func79,Tryz.ntmps79
 go_wp2_with (first
  | (go_at_call 111;refine (QFu _).mono ?_;rintro e w' ⟨rfl,rfl⟩)
  | (go_at_call 112;refine (QGF _ (hc _)).mono ?_;rintro e w' ⟨rfl,rfl⟩))
 refine wp_loop_rounds 4 ?_
 rw[rounds_succ]
 go_wp2
 rw[rounds_succ]
 go_wp2
 rw[rounds_succ]
 go_wp2
 rw[rounds_succ]
 go_wp2
 go_ret2
 exact⟨rfl,(by repeat (first|exact Below.refl _ _|assumption|refine JF ?_ (by assumption)|refine Below.drew ?_|refine Below.alloc ?_ (by first|(simp;done)|(simp;omega)|omega) _|refine Below.setCell ?_ (by first|(simp;done)|(simp;omega)|omega) _))⟩
theorem QIN (u:Int):1≤(QAj u).length∧(QAj u).length≤4:=by
 unfold QAj
 split
 · simp
 · split
   · simp
   · split<;>simp
theorem QHE (u:Int)(h0:0≤u)(h1:u≤65535)(w:World)(h:w.cell? ⟨23,15,none⟩=some (.int .u8 4)) :
 Calls Tryz.prog 79 #[.slice none 0 0,.int .u64 u,.int .i64 16,.bool false,.bool false] w fun e w'=>e=.returned (.tuple #[.slice none 0 0,.string ⟨(QAj u).toArray⟩])∧Below w.heap.size w w':=by
 have A:=fun (x:Int) (hx:0≤x)=>QUs x hx
 unfold QAj
 by_cases c1:u < 16
 · rw[if_pos c1]
   exact QQn u h0 c1 w h
 rw[if_neg c1]
 by_cases c2:u < 256
 · rw[if_pos c2]
   exact QRK u (u%16) (u / 16) (A u h0) rfl (by omega) (by omega) (by omega) (by omega) (by omega) (by omega) w h
 rw[if_neg c2]
 by_cases c3:u < 4096
 · rw[if_pos c3]
   exact QQ1 u (u / 16) (u%16) (u / 16%16) (u / 256) (A u h0) rfl (by omega) (by omega) (by omega) (by omega) (A (u / 16) (by omega)) (by omega) (by omega) (by omega) (by omega) (by omega) (by omega) (by omega) w h
 rw[if_neg c3]
 exact QRp u (u / 16) (u / 256) (u%16) (u / 16%16) (u / 256%16) (u / 4096) (A u h0) rfl (by omega) (by omega) (by omega) (by omega) (A (u / 16) (by omega)) (by omega) (by omega) (by omega) (by omega) (by omega) (A (u / 256) (by omega)) (by omega) (by omega) (by omega) (by omega) (by omega) (by omega) (by omega) w h
theorem QMv (u:Int)(h0:0≤u)(h1:u≤65535)(w:World)(h:w.cell? ⟨23,15,none⟩=some (.int .u8 4)) :
 Calls Tryz.prog 45 #[.int .u64 u,.int .i64 16] w fun e w'=>e=.returned (.string ⟨(QAj u).toArray⟩)∧Below w.heap.size w w':=by
 have hk:=fun w h=>QHE u h0 h1 w h
 have hk:=Lib.hid hk
 go_enter Tryz.func45,Tryz.ntmps45
 go_wp2_with (first
  | (go_at_call 79;refine (hk.out _ (by assumption)).mono ?_;rintro e w' ⟨rfl,hb⟩;have hsz:=hb.size))
 go_ret
 exact⟨rfl,(by repeat (first|exact Below.refl _ _|assumption|refine JF ?_ (by assumption)|refine Below.drew ?_|refine Below.alloc ?_ (by first|(simp;done)|(simp;omega)|omega) _|refine Below.setCell ?_ (by first|(simp;done)|(simp;omega)|omega) _))⟩
theorem QOW (u:Int)(h0:0≤u)(h1:u≤65535)(w:World)(h:w.cell? ⟨23,15,none⟩=some (.int .u8 4)) :
 Calls Tryz.prog 30 #[.int .u64 u,.int .i64 16] w fun e w'=>e=.returned (.string ⟨(QAj u).toArray⟩)∧Below w.heap.size w w':=by
 have hk:=fun w h=>QMv u h0 h1 w h
 have hk:=Lib.hid hk
 go_enter Tryz.func30,Tryz.ntmps30
 go_wp2_with (first
  | (go_at_call 45;refine (hk.out _ (by assumption)).mono ?_;rintro e w' ⟨rfl,hb⟩;have hsz:=hb.size))
 go_ret
 exact⟨rfl,(by repeat (first|exact Below.refl _ _|assumption|refine JF ?_ (by assumption)|refine Below.drew ?_|refine Below.alloc ?_ (by first|(simp;done)|(simp;omega)|omega) _|refine Below.setCell ?_ (by first|(simp;done)|(simp;omega)|omega) _))⟩
def QDq (n d:Int):List UInt8:=Lib.repeatL [48] (d-(QAj n).length).toNat++QAj n++[104]
theorem jJ {a b:ByteArray}(h:a=b):Ending.returned (.string a)=.returned (.string b):=by rw[h]
theorem jk (a b:List UInt8):(⟨a.toArray⟩:ByteArray)++⟨b.toArray⟩=⟨(a++b).toArray⟩:=by
 apply ByteArray.ext
 simp
theorem QRS (d:Int)(L:Nat)(hd0:0≤d)(hd1:d≤8)(w:World) :
 Calls Tryz.prog 31 #[.string ⟨#[48]⟩,.int .i64 (max (min (max d 0) 8-(L:Int)) 0)] w fun e w'=>e=.returned (.string ⟨(Lib.repeatL [48] (d-L).toNat).toArray⟩)∧Below w.heap.size w w':=by
 have h:=Sh.strings_Repeat ⟨#[48]⟩ (d-L).toNat w (by omega) (by show 1*_≤_;omega)
 rw[show (((d-L).toNat:Nat):Int)=max (min (max d 0) 8-(L:Int)) 0 by omega] at h
 exact h
theorem ZY (l:List UInt8):(⟨l.toArray⟩:ByteArray).size=l.length:=by show l.toArray.size=_;simp
theorem QBy (n d:Int)(h0:0≤n)(h1:n≤65535)(hd0:0≤d)(hd1:d≤8)(w:World)(h:w.cell? ⟨23,15,none⟩=some (.int .u8 4)) :
 Calls Tryz.prog 17 #[.int .i64 n,.int .i64 d] w fun e w'=>e=.returned (.string ⟨(QDq n d).toArray⟩)∧Below w.heap.size w w':=by
 have hk:=Lib.hid (QOW n h0 h1 w h)
 have hl:=QIN n
 have hr:=Lib.hid (fun w=>QRS d (QAj n).length hd0 hd1 w)
 have hR:(Lib.repeatL [48] (d-(QAj n).length).toNat).length≤8:=by
  rw[Lib.repeatL_length]
  simp
  omega
 unfold QDq
 generalize Lib.repeatL [48] (d-(QAj n).length).toNat=R at *
 generalize QAj n=H at *
 have s1:=ZY H
 have s2:=ZY R
 have s3:(⟨R.toArray⟩++⟨H.toArray⟩:ByteArray)=⟨(R++H).toArray⟩:=jk R H
 have s4:(⟨(R++H).toArray⟩:ByteArray).size=R.length+H.length:=by rw[ZY];simp
 go_enter Tryz.func17,Tryz.ntmps17
 go_wp2_with (first
  | (go_at_call 30;refine (hk.out).mono ?_;rintro e w' ⟨rfl,hb⟩;have hsz:=hb.size)
  | (go_at_call 31;refine (hr.out _).mono ?_;rintro e w' ⟨rfl,hb⟩;have hsz:=hb.size))
 go_ret
 refine⟨jJ ?_,(by repeat (first|exact Below.refl _ _|assumption|refine JF ?_ (by assumption)|refine Below.drew ?_|refine Below.alloc ?_ (by first|(simp;done)|(simp;omega)|omega) _|refine Below.setCell ?_ (by first|(simp;done)|(simp;omega)|omega) _))⟩
 show (⟨([]:List UInt8).toArray⟩++⟨R.toArray⟩++⟨H.toArray⟩++⟨[104].toArray⟩:ByteArray)=_
 rw[jk,jk,jk]
 rfl
theorem QDI (n d:Int)(h0:0≤n)(h1:n≤65535)(hd0:0≤d)(hd1:d≤8)(w:World)(h:TextTabs w) :
 Calls Tryz.prog 17 #[.int .i64 n,.int .i64 d] w fun e w'=>e=.returned (.string ⟨(QDq n d).toArray⟩)∧Below w.heap.size w w' :=
 QBy n d h0 h1 hd0 hd1 w h.bru
theorem QSS (n:Int)(h0:0≤n)(h1:n≤255):QDq n 2=QIB n:=by
 unfold QDq QAj QIB
 by_cases c1:n < 16
 · rw[if_pos c1,show n / 16=0 by omega,show n%16=n by omega]
   rfl
 · rw[if_neg c1,if_pos (by omega)]
   rfl
theorem QSa (n:Int)(h0:0≤n)(h1:n≤65535):QDq n 4=QBA n:=by
 unfold QDq QAj QBA
 by_cases c1:n < 16
 · rw[if_pos c1,show n / 4096=0 by omega,show n / 256%16=0 by omega,show n / 16%16=0 by omega,show n%16=n by omega]
   rfl
 rw[if_neg c1]
 by_cases c2:n < 256
 · rw[if_pos c2,show n / 4096=0 by omega,show n / 256%16=0 by omega,show n / 16%16=n / 16 by omega]
   rfl
 rw[if_neg c2]
 by_cases c3:n < 4096
 · rw[if_pos c3,show n / 4096=0 by omega,show n / 256%16=n / 256 by omega]
   rfl
 rw[if_neg c3]
 rfl
def zG (n:Int):List UInt8:=if n < 0 then 45 :: QH3 (-n) else QH3 n
theorem QKp (u:Nat)(h:u < 1000):Lib.decDigits u=QH3 (u:Int):=by
 unfold QH3
 by_cases c1:u < 10
 · rw[Lib.decDigits,dif_pos c1,if_pos (by omega)]
   unfold dg
   rw[if_pos (by omega)]
   congr 2
 rw[Lib.decDigits,dif_neg c1,if_neg (by omega)]
 by_cases c2:u < 100
 · rw[Lib.decDigits,dif_pos (by omega),if_pos (by omega)]
   unfold dg
   rw[if_pos (by omega),if_pos (by omega)]
   show [_,_]=[_,_]
   congr 2
 · rw[Lib.decDigits,dif_neg (by omega),Lib.decDigits,dif_pos (by omega),if_neg (by omega)]
   unfold dg
   rw[if_pos (by omega),if_pos (by omega),if_pos (by omega)]
   show [_,_,_]=[_,_,_]
   congr 2
   · omega
theorem QPM (n:Int)(h0:-999≤n)(h1:n≤999):Lib.itoa n=zG n:=by
 unfold Lib.itoa zG
 by_cases c:n < 0
 · rw[if_pos c,if_pos c,QKp _ (by omega),show ((n.natAbs:Nat):Int)=-n by omega]
 · rw[if_neg c,if_neg c,QKp _ (by omega),show ((n.toNat:Nat):Int)=n by omega]
theorem QDl (w:World)(k:Nat)(os:Array Obj):Below w.heap.size w (Sort.grow (w.drewN k) os) :=
 ⟨rfl,rfl,rfl,by show w.heap.size≤(w.heap++os).size;rw[Array.size_append];omega,fun j hj=>by
  show (w.heap++os)[j]? = w.heap[j]?
  rw[Array.getElem?_append_left hj]⟩
theorem QG5 (n:Int)(h0:-999≤n)(h1:n≤999)(w:World)(h:TextTabs w) :
 Calls Tryz.prog 21 #[.int .i64 n] w fun e w'=>e=.returned (.string ⟨(zG n).toArray⟩)∧Below w.heap.size w w':=by
 refine (Sh.strconv_Itoa n (by omega) (by omega) w h.pow).mono ?_
 rintro e w' ⟨rfl,k,os,rfl⟩
 rw[QPM n h0 h1]
 exact⟨rfl,QDl w k os⟩
theorem jS (n:Int):(QH3 n).length≤3:=by
 unfold QH3
 split
 · simp
 · split<;>simp
theorem QGg (n:Int):(zG n).length≤4:=by
 have h1:=jS n
 have h2:=jS (-n)
 unfold zG
 split<;>simp<;>omega
theorem QCU (n:Int)(h0:-999≤n)(h1:n≤999)(w:World)(h:TextTabs w) :
 Calls Tryz.prog 118 #[.int .i64 n] w fun e w'=>e=.returned (.string ⟨(qB n).toArray⟩)∧Below w.heap.size w w':=by
 have hk:=Lib.hid (QG5 n h0 h1 w h)
 have s1:=ZY (zG n)
 have s2:=QGg n
 have e1:qB n=if n < 0 then zG n else 43 :: zG n:=by unfold qB zG;split<;>rfl
 rw[e1]
 clear e1
 generalize zG n=I at *
 by_cases c:n < 0
 · rw[if_pos c]
   go_enter Tryz.func118,Tryz.ntmps118
   go_wp2_with (first
    | (go_at_call 21;refine (hk.out).mono ?_;rintro e w' ⟨rfl,hb⟩;have hsz:=hb.size))
   go_ret
   exact⟨rfl,(by repeat (first|exact Below.refl _ _|assumption|refine JF ?_ (by assumption)|refine Below.drew ?_|refine Below.alloc ?_ (by first|(simp;done)|(simp;omega)|omega) _|refine Below.setCell ?_ (by first|(simp;done)|(simp;omega)|omega) _))⟩
 · rw[if_neg c]
   have c':0≤n:=by omega
   go_enter Tryz.func118,Tryz.ntmps118
   go_wp2_with (first
    | (go_at_call 21;refine (hk.out).mono ?_;rintro e w' ⟨rfl,hb⟩;have hsz:=hb.size))
   go_ret
   exact⟨jJ (jk [43] I),(by repeat (first|exact Below.refl _ _|assumption|refine JF ?_ (by assumption)|refine Below.drew ?_|refine Below.alloc ?_ (by first|(simp;done)|(simp;omega)|omega) _|refine Below.setCell ?_ (by first|(simp;done)|(simp;omega)|omega) _))⟩
theorem QDs (p:Int)(w:World) :
 Calls Tryz.prog 115 #[.int .i64 p] w fun e w'=>e=.returned (.string ⟨[105,UInt8.ofNat (ixC p)].toArray⟩)∧w=w':=by
 unfold ixC
 by_cases h3:p=3
 · subst h3
   go_enter Tryz.func115,Tryz.ntmps115
   go_wp2
   go_ret
   exact⟨rfl,rfl⟩
 by_cases h5:p=5
 · subst h5
   go_enter Tryz.func115,Tryz.ntmps115
   go_wp2
   go_ret
   exact⟨rfl,rfl⟩
 rw[if_neg (by omega)]
 have e3:(p==3)=false:=by simpa using h3
 have e5:(p==5)=false:=by simpa using h5
 go_enter Tryz.func115,Tryz.ntmps115
 go_wp2
 go_ret
 exact⟨rfl,rfl⟩
theorem Zr (n:Int):1≤(qB n).length∧(qB n).length≤4:=by
 have h1:=jS n
 have h2:=jS (-n)
 unfold qB
 split<;>simp<;>omega
theorem QFN (b:Int)(h:B8 b):-128≤JP b∧JP b≤127:=by
 obtain⟨h0,h1⟩:=h
 unfold JP
 split<;>omega
theorem QDN (p d:Int)(hd:B8 d)(w:World)(h:TextTabs w) :
 Calls Tryz.prog 116 #[.int .i64 p,.int .u8 d] w fun e w'=>e=.returned (.string ⟨(QDf p d).toArray⟩)∧Below w.heap.size w w':=by
 have hb:=QFN d hd
 have k1:=Lib.hid (fun w=>QDs p w)
 have k2:=Lib.hid (fun w=>QAp d hd.1 hd.2 w)
 have k3:=Lib.hid (QCU (JP d) (by omega) (by omega) w h)
 have s2:=Zr (JP d)
 have s1:=ZY (qB (JP d))
 unfold QDf
 generalize qB (JP d)=G at *
 have s3:(⟨#[105,UInt8.ofNat (ixC p)]⟩:ByteArray).size=2:=rfl
 go_enter Tryz.func116,Tryz.ntmps116
 go_wp2_with (first
  | (go_at_call 115;refine (k1.out _).mono ?_;rintro e w' ⟨rfl,rfl⟩)
  | (go_at_call 119;refine (k2.out _).mono ?_;rintro e w' ⟨rfl,rfl⟩)
  | (go_at_call 118;refine (k3.out).mono ?_;rintro e w' ⟨rfl,hb⟩;have hsz:=hb.size))
 go_ret
 refine⟨jJ ?_,(by repeat (first|exact Below.refl _ _|assumption|refine JF ?_ (by assumption)|refine Below.drew ?_|refine Below.alloc ?_ (by first|(simp;done)|(simp;omega)|omega) _|refine Below.setCell ?_ (by first|(simp;done)|(simp;omega)|omega) _))⟩
 show (⟨[40].toArray⟩++⟨[105,UInt8.ofNat (ixC p)].toArray⟩++⟨G.toArray⟩++⟨[41].toArray⟩:ByteArray)=_
 rw[jk,jk,jk]
 simp
end Go.Proofs.YtbhaojlikgdgjaaGreatDoor
