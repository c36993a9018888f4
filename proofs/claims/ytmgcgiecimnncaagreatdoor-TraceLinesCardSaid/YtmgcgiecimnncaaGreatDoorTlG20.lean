/- Contracts and facts that the claim's proof wants (several texts in one). -/
import Derived.OrdersIn
import Derived.RangeFuncIn
import Derived.RangeFuncRecord
import Derived.RangeFuncSeq
import Derived.RangeFuncOwn
import Derived.Test.YtmgcgiecimnncaaGreatDoorTlG19
namespace Go.Proofs.YtmgcgiecimnncaaGreatDoor
open Go.RowKit
set_option linter.unusedVariables false
set_option linter.unusedSimpArgs false
set_option maxRecDepth 20000
set_option maxHeartbeats 20000000
theorem QUF {ys:List Int}(h:Bytes8 ys){k:Nat}(hk:k < ys.length):B8 ys[k]:=h _ (List.getElem_mem hk)
def QEF (g:Rg)(v:Int)(ys:List Int):T3:=XF (XR g.sp g.pc++qV (256*g.i+v)) (Z9 g (256*ys.getD 4 0+ys.getD 3 0)) ys.length
theorem QIn (g:Rg)(hp:0≤g.pc∧g.pc≤65535)(hi:B8 g.i)(v:Int)(hv:B8 v)(A:Option Addr)(cap:Nat)(ys:List Int)(h8:Bytes8 ys)(hl:ys.length≤1000000000)(w:World)(hin:BytesIn w w.heap.size A ys):Calls Tryz.prog 156 #[svV g v A ys.length cap] w fun e w'=>e=.returned (QEF g v ys).v∧Below w.heap.size w w':=by
 go_enter Tryz.func156,Tryz.ntmps156
 refine JA<|qQ [] (Many.begin w) fun w1 k1=>coR<|qR 1 [0] k1 fun w2 k2=>kX (QGT g hp v A ys.length cap w2) ?_
 rintro e w3 ⟨b,rfl,hb,hrow,hB⟩
 have k3:=(k2.below hB).add hrow (Nat.le_trans k2.touch.size hb) fun i r hi=>Nat.ne_of_lt (Nat.lt_of_lt_of_le (k2.lt i r hi) hb)
 have h2b:w.heap.size+2 < b:=Nat.lt_of_lt_of_le (k2.lt 2 ⟨w.heap.size+2,24,(JO Jf).toList.map some⟩ (by kernel_rfl)) hb
 have hwb:w.heap.size≤b:=Nat.le_trans k2.touch.size hb
 refine⟨_,rfl,qE [] k3 fun w4 k4=>coR<|qR 5 [0,0] k4 fun w5 k5=>qCe (Ja g.i v hi.1 hi.2 hv.1 hv.2 w5)<|qE [] k5 fun w6 k6=>qQ [] k6 fun w7 k7=>qQ [] k7 fun w8 k8=>coR<|qR 2 [] k8 fun w9 k9=>qC (QFt (256*g.i+v) w9) k9 fun w10 k10=>qR 2 [] k10 fun w11 k11=>qC (QFt ((256*g.i+v+1)%65536) w11) k11 fun w12 k12=>wM (X7 (bs2Y ⟨2,256*g.i+v,0,3⟩ ⟨2,(256*g.i+v+1)%65536,0,3⟩ w12))<|?_⟩
 have rA:=k12.row 3 (b:=b) (t:=30) (Qb (XR g.sp g.pc)) (by kernel_rfl)
 have kA:=(k12.take 3 [⟨w.heap.size,171,(svC g v A ys.length cap).toList.map some⟩,⟨w.heap.size+1,30,(cyC JN).toList.map some⟩,⟨w.heap.size+2,24,(JO Jf).toList.map some⟩]).allocO (.cells (Qb (qV (256*g.i+v))).toArray 30)
 have hb12:b≤w12.heap.size:=Nat.le_of_lt rA.lt
 refine qAy (.tmp 21) (.tmp 27) b _ (.slice (some ⟨b,0,none⟩) 3 3) 3 (XR g.sp g.pc) ⟨w12.heap.size,0,none⟩ 2 2 (qV (256*g.i+v)) (Nat.le_trans hb12 (by simp)) ((QQM 3 rA (Nat.le_refl b) rfl (by omega)).alloc _) (QSq w12 (qV (256*g.i+v)) _) rfl (by omega) fun v' w13 own' hg=>?_
 have hA:=kA.grown (b:=b) hg hwb (QIV (by omega) (by omega) (by omega))
 obtain⟨l5,hl5⟩:∃ l,l=XR g.sp g.pc++qV (256*g.i+v):=⟨_,rfl⟩
 have e5:l5.length=5:=by rw[hl5];rfl
 have hT:QEF g v ys=XF l5 (Z9 g (256*ys.getD 4 0+ys.getD 3 0)) ys.length:=by rw[hl5];rfl
 rw[←hl5] at own'
 rcases own'.2 with ⟨-,e0⟩|⟨g',c',cur,rfl,hbg,hh,hle,hmx,hcs,htk⟩
 · cases e0
 clear kA rA k12 k11 k10 k9 k8 k7 k6 k5 k4 k3 k2 k1 own' hg
 have hC:=hA.add (b:=g') (t:=30) (cells:=cur) hh (Nat.le_trans hwb hbg) (QIV (by omega) (by omega) (by omega))
 refine qE [] hC fun w14 k14=>coS<|qQ [0] k14 fun w15 k15=>coI (decide ((ys.length:Int) < 5)) (fun h=>?_) fun h=>JC<|eoT<|?_
 · have h3:ys.length < l5.length:=by have:(ys.length:Int) < 5:=by simpa using h
                                     omega
   refine coR<|qR 4 [0] k15 fun w16 k16=>?_
   have hcy:=QSd _ (k16.row 3 (b:=g') (t:=30) cur.toList (by kernel_rfl)) htk
   refine wM (Jm (cixY ⟨g',0,none⟩ 5 c' ys.length (by omega) w16))<|wM (Jc (hcy.ld h3))<|qC (QCn l5[ys.length] w16) k16 fun w17 k17=>qE [1,2] k17 fun w18 k18=>JE<|Je<|zw 1 2 l5[ys.length] Jf false (w.heap.size+1) (w.heap.size+2) k18 ⟨?_,k18.touch.below⟩
   rw[hT]
   unfold XF
   rw[if_pos h3,List.getD_eq_getElem?_getD,List.getElem?_eq_getElem h3]
   rfl
 · have h3:¬ys.length < l5.length:=by have:¬(ys.length:Int) < 5:=by simpa using h
                                      omega
   have h4:4 < ys.length:=by omega
   obtain⟨p,rfl⟩:=hin.addr h4
   have e3:ys.getD 3 0=ys[3]:=by rw[List.getD_eq_getElem?_getD,List.getElem?_eq_getElem (by omega)];rfl
   have e4:ys.getD 4 0=ys[4]:=by rw[List.getD_eq_getElem?_getD,List.getElem?_eq_getElem (by omega)];rfl
   have b3:=QUF h8 (k:=3) (by omega)
   have b4:=QUF h8 h4
   refine qP 16 k15 fun w16 k16=>qD 0 [0,1,2,3] k16<|qT 4 k16 (fun w' _=>Jm (ixB p ys.length cap 4 h4 _))<|qT 5 k16 (fun w' hS=>Jc (BytesIn.ld (hin.below hS.touch.below) h4))<|qD 0 [6,7,8] k16<|qT 9 k16 (fun w' _=>Jm (ixB p ys.length cap 3 (by omega) _))<|qT 10 k16 (fun w' hS=>Jc (BytesIn.ld (hin.below hS.touch.below) (k:=3) (by omega)))<|qDe 11 (Ja ys[4] ys[3] b4.1 b4.2 b3.1 b3.2 w16) k16 fun w17 k17=>qDc 12 (QFv g v (some p) ys.length cap (256*ys[4]+ys[3]) w17) k17 fun w18 k18=>qM [13,14,15] k18<|poE<|qE [1,2] k18 fun w19 k19=>JE<|zw 1 2 JN (Z9 g (256*ys[4]+ys[3])) true (w.heap.size+1) (w.heap.size+2) k19 ⟨?_,k19.touch.below⟩
   rw[hT]
   unfold XF
   rw[if_neg h3,e3,e4]
   rfl
def QC5 (g:Rg)(v:Int)(ys:List Int):T3:=if zy v=true then QO7 g else ofX (Z1 g v ys)
theorem QDf (g:Rg)(hg:RgB g)(v:Int)(hv:B8 v)(A:Option Addr)(cap:Nat)(ys:List Int)(hc:ys.length≤cap)(h8:Bytes8 ys)(w:World)(hin:BytesIn w w.heap.size A ys)(ht:Tabs w w.heap.size):Calls Tryz.prog 154 #[svV g v A ys.length cap] w fun e w'=>e=.returned (QC5 g v ys).v∧Below w.heap.size w w':=by
 go_enter Tryz.func154,Tryz.ntmps154
 obtain⟨T,hT⟩:∃ T,T=ofX (Z1 g v ys):=⟨_,rfl⟩
 have K:∀ W,Below w.heap.size w W→Calls Tryz.prog 167 #[JM g,.int .u8 v,.slice A ys.length cap] W fun e w'=>e=.returned T.v∧Below W.heap.size W w':=by rw[hT];exact QNs g hg v hv A cap ys hc h8 w hin ht
 have hq:zy v=(v==203||(v==221||(v==237||v==253))):=rfl
 have hend:zy v=true→(QC5 g v ys).v=(QO7 g).v:=fun h=>by unfold QC5;rw[if_pos h]
 have hgo:zy v=false→(QC5 g v ys).v=T.v:=fun h=>by unfold QC5;rw[if_neg (by rw[h];simp),hT]
 refine JA<|qQ [] (Many.begin w) fun w1 k1=>coS<|qQ [0] k1 fun w2 k2=>coB<|coS<|qQ [] k2 fun w3 k3=>coI (v==203) (fun h=>JC<|eoT<|coJ (v==203) (fun e=>by rw[h] at e;cases e) fun _=>?_) fun h1=>qQ [] k3 fun w3 k3=>coI (v==221) (fun h=>JC<|eoT<|coJ (v==221) (fun e=>by rw[h] at e;cases e) fun _=>?_) fun h2=>qQ [] k3 fun w3 k3=>coI (v==237) (fun h=>JC<|eoT<|coJ (v==237) (fun e=>by rw[h] at e;cases e) fun _=>?_) fun h3=>coZ<|qF [] k3 fun w3 k3=>eoT<|coI (v==253) (fun h=>?_) fun h4=>JC<|eoB<|eoT<|coR<|qR 6 [0,0,0] k3 fun w4 k4=>qC (K w4 k4.touch.below) k4 fun w5 k5=>qE [1,2] k5 fun w6 k6=>JE<|zw 1 2 T.c T.g T.b (w.heap.size+1) (w.heap.size+2) k6 ⟨by rw[hgo (by rw[hq,h1,h2,h3,h4];rfl)];rfl,k6.touch.below⟩
 all_goals exact qP 4 k3 fun w4 k4=>qD 0 [0,1,2] k4<|zO 3<|soZ 1 (w.heap.size+1) k4 fun w4 k4=>poE<|qE [2] k4 fun w5 k5=>JE<|QG<|Je<|zw 1 2 JN g true (w.heap.size+1) (w.heap.size+2) k5 ⟨by rw[hend (by rw[hq,h];simp)];rfl,k5.touch.below⟩
abbrev fnS (f:FuncId)(s:Value):Value:=.func (.func f) #[s] #[]
def QKs (s:Value):List MapEntry:=[{ key:=.int .i64 0,val:=fnS 154 s,born:=0 },{ key:=.int .i64 1,val:=fnS 155 s,born:=1 },{ key:=.int .i64 2,val:=fnS 156 s,born:=2 }]
theorem QOj (s:Value){m:Int}(h0:m≠0)(h1:m≠1)(h2:m≠2):Instr.findNow (.int .i64) (.int .i64 m) (QKs s) 0=some none:=by
 have e0:(m==0)=false:=by simpa using h0
 have e1:(m==1)=false:=by simpa using h1
 have e2:(m==2)=false:=by simpa using h2
 simp only[QKs,Instr.findNow,Instr.sameNow,e0,e1,e2,if_true]
def QBP (g:Rg)(v:Int)(ys:List Int):T3:=if g.mode=0 then QC5 g v ys else if g.mode=1 then XF (XR g.sp g.pc) (Z9 g 56) ys.length else QEF g v ys
theorem QMW (g0:Rg)(hg:RgB g0)(v:Int)(hv:B8 v)(A:Option Addr)(cap:Nat)(ys:List Int)(hc:ys.length≤cap)(h8:Bytes8 ys)(hl:ys.length≤1000000000)(w:World)(hin:BytesIn w w.heap.size A ys)(ht:Tabs w w.heap.size):Calls Tryz.prog 138 #[svV g0 v A ys.length cap] w fun e w'=>e=.returned (QBP { g0 with iff1:=false,iff2:=false } v ys).v∧Below w.heap.size w w':=by
 go_enter Tryz.func138,Tryz.ntmps138
 obtain⟨g,hgE⟩:∃ g:Rg,g={ g0 with iff1:=false,iff2:=false }:=⟨_,rfl⟩
 have hb:RgB g:=by rw[hgE];exact⟨hg.af,hg.bc,hg.de,hg.hl,hg.af2,hg.bc2,hg.de2,hg.hl2,hg.ix,hg.iy,hg.sp,hg.pc,hg.wz,hg.i,hg.r,hg.mode⟩
 have hs:svV { g0 with iff1:=false,iff2:=false } v A ys.length cap=svV g v A ys.length cap:=by rw[hgE]
 have hm:g.mode=g0.mode:=by rw[hgE]
 obtain⟨T,hT⟩:∃ T,T=QBP g v ys:=⟨_,rfl⟩
 have eT:QBP { g0 with iff1:=false,iff2:=false } v ys=T:=by rw[hT,hgE]
 rw[eT]
 have K0:g.mode=0→∀ W,Below w.heap.size w W→Calls Tryz.prog 154 #[svV { g0 with iff1:=false,iff2:=false } v A ys.length cap] W fun e w'=>e=.returned T.v∧Below W.heap.size W w':=fun h W hW=>by
  have:=QDf g hb v hv A cap ys hc h8 W ((hin.below hW).more hW.size) (ht.below hW)
  rw[hs,hT];unfold QBP;rwa [if_pos h]
 have K1:g.mode=1→∀ W,Calls Tryz.prog 155 #[svV { g0 with iff1:=false,iff2:=false } v A ys.length cap] W fun e w'=>e=.returned T.v∧Below W.heap.size W w':=fun h W=>by
  have:=QN9 g hb.pc v A ys.length cap hl W
  rw[hs,hT];unfold QBP;rwa [if_neg (by omega),if_pos h]
 have K2:g.mode≠0→g.mode≠1→∀ W,Below w.heap.size w W→Calls Tryz.prog 156 #[svV { g0 with iff1:=false,iff2:=false } v A ys.length cap] W fun e w'=>e=.returned T.v∧Below W.heap.size W w':=fun h h' W hW=>by
  have:=QIn g hb.pc hb.i v hv A cap ys h8 hl W ((hin.below hW).more hW.size)
  rw[hs,hT];unfold QBP;rwa [if_neg h,if_neg h']
 rw[hm] at K0 K1 K2
 clear hT eT hs hb hm hgE
 obtain⟨S,hS⟩:∃ S,S=svV { g0 with iff1:=false,iff2:=false } v A ys.length cap:=⟨_,rfl⟩
 refine JA<|qQ [] (Many.begin w) fun w1 k1=>qQ [0,0] k1 fun w2 k2=>coR<|wM (QHu (run_makeMap _ w2))<|?_
 obtain⟨M,hM⟩:∃ M,M=w2.heap.size:=⟨_,rfl⟩
 have hw2:w.heap.size+2 < M:=by rw[hM];exact k2.lt 2 ⟨w.heap.size+2,24,(JO Jf).toList.map some⟩ (by kernel_rfl)
 have nin:M ∉ [w.heap.size,w.heap.size+1,w.heap.size+2]:=fun h=>by simp only[List.mem_cons,List.not_mem_nil,or_false] at h;omega
 have hL0:∀ b∈[w.heap.size,w.heap.size+1,w.heap.size+2],w.heap.size≤b:=fun b h=>by simp only[List.mem_cons,List.not_mem_nil,or_false] at h;omega
 have hne:∀ b∈[w.heap.size,w.heap.size+1,w.heap.size+2],b≠M:=fun b h=>by simp only[List.mem_cons,List.not_mem_nil,or_false] at h;omega
 have m1:(w2.alloc (.map #[] 0)).heap[M]? = some (.map #[] 0):=by rw[hM];exact World.alloc_heap_new w2 _
 have B1:=ja k2.touch.below (.map #[] 0)
 have lt1:M < (w2.alloc (.map #[] 0)).heap.size:=(Array.getElem?_eq_some_iff.1 m1).1
 have kb1:=(k2.allocO (.map #[] 0)).rebaseL [w.heap.size,w.heap.size+1,w.heap.size+2]
 rw[←hM]
 generalize w2.alloc (.map #[] 0)=W1 at *
 refine qR 2 [0] kb1 fun w3 k3=>?_
 have m3:=(k3.touch.block M lt1 nin).trans m1
 have B3:=k3.touch.underL B1 hL0 B1.size
 obtain⟨w4,r4,m4,g4⟩:=jT w3 186 _ _ Tryz.underlying186 Tryz.underlying3 [] 0 0 (fnS 154 (svV { g0 with iff1:=false,iff2:=false } v A ys.length cap)) M m3 rfl
 refine wD (QHb r4) ?_
 have B4:=jM B3 g4 (by omega) B3.size
 have kb4:=k3.anewL g4 [w.heap.size,w.heap.size+1,w.heap.size+2] hne
 have lt4:=(Array.getElem?_eq_some_iff.1 m4).1
 refine qR 2 [0] kb4 fun w5 k5=>?_
 have m5:=(k5.touch.block M lt4 nin).trans m4
 have B5:=k5.touch.underL B4 hL0 B4.size
 obtain⟨w6,r6,m6,g6⟩:=jT w5 186 _ _ Tryz.underlying186 Tryz.underlying3 _ 1 1 (fnS 155 (svV { g0 with iff1:=false,iff2:=false } v A ys.length cap)) M m5 rfl
 refine wD (QHb r6) ?_
 have B6:=jM B5 g6 (by omega) B5.size
 have kb6:=k5.anewL g6 [w.heap.size,w.heap.size+1,w.heap.size+2] hne
 have lt6:=(Array.getElem?_eq_some_iff.1 m6).1
 refine qR 2 [0] kb6 fun w7 k7=>?_
 have m7:=(k7.touch.block M lt6 nin).trans m6
 have B7:=k7.touch.underL B6 hL0 B6.size
 obtain⟨w8,r8,m8,g8⟩:=jT w7 186 _ _ Tryz.underlying186 Tryz.underlying3 _ 2 2 (fnS 156 (svV { g0 with iff1:=false,iff2:=false } v A ys.length cap)) M m7 rfl
 refine wD (QHb r8) ?_
 have B8':=jM B7 g8 (by omega) B7.size
 have kb8:=k7.anewL g8 [w.heap.size,w.heap.size+1,w.heap.size+2] hne
 have lt8:=(Array.getElem?_eq_some_iff.1 m8).1
 have m8:w8.heap[M]? = some (.map (QKs (svV { g0 with iff1:=false,iff2:=false } v A ys.length cap)).toArray 3):=m8
 clear r4 r6 r8 m1 m3 m4 m5 m6 m7 g4 g6 g8 B1 B3 B4 B5 B6 B7 kb1 kb4 kb6 k1 k2 k3 k5 k7 lt1 lt4 lt6 hM
 refine qE [] kb8 fun w9 k9=>coR<|qR 4 [0] k9 fun wA kA=>?_
 have mA:=(kA.touch.block M lt8 nin).trans m8
 have BA:=kA.touch.underL B8' hL0 B8'.size
 have ht:=Tryz.underlying186
 have hk:=Tryz.underlying3
 by_cases h0:g0.mode=0
 · refine wM (QDu (V:=.map (some M)) (W:=.int .i64 g0.mode) (by rw[h0];exact J4 ht hk mA rfl))<|qE [] kA fun wB kB=>coS<|qQ [] kB fun wC kC=>coF<|JC<|eoT<|coR<|qR 1 [] kC fun wD kD=>qC (K0 h0 wD (kD.touch.underL B8' hL0 B8'.size)) kD fun wE kE=>qE [1,2] kE fun wF kF=>JE<|zw 1 2 T.c T.g T.b (w.heap.size+1) (w.heap.size+2) kF ⟨rfl,kF.touch.underL B8' hL0 B8'.size⟩
 by_cases h1:g0.mode=1
 · refine wM (QDu (V:=.map (some M)) (W:=.int .i64 g0.mode) (by rw[h1];exact J4 ht hk mA rfl))<|qE [] kA fun wB kB=>coS<|qQ [] kB fun wC kC=>coF<|JC<|eoT<|coR<|qR 1 [] kC fun wD kD=>qC (K1 h1 wD) kD fun wE kE=>qE [1,2] kE fun wF kF=>JE<|zw 1 2 T.c T.g T.b (w.heap.size+1) (w.heap.size+2) kF ⟨rfl,kF.touch.underL B8' hL0 B8'.size⟩
 by_cases h2:g0.mode=2
 · refine wM (QDu (V:=.map (some M)) (W:=.int .i64 g0.mode) (by rw[h2];exact J4 ht hk mA rfl))<|qE [] kA fun wB kB=>coS<|qQ [] kB fun wC kC=>coF<|JC<|eoT<|coR<|qR 1 [] kC fun wD kD=>qC (K2 h0 h1 wD (kD.touch.underL B8' hL0 B8'.size)) kD fun wE kE=>qE [1,2] kE fun wF kF=>JE<|zw 1 2 T.c T.g T.b (w.heap.size+1) (w.heap.size+2) kF ⟨rfl,kF.touch.underL B8' hL0 B8'.size⟩
 · refine wM (QDu (V:=.map (some M)) (W:=.int .i64 g0.mode) (qB (z:=.nilFunc) ht hk mA (QOj _ h0 h1 h2) (by kernel_rfl)))<|qE [] kA fun wB kB=>coS<|qQ [] kB fun wC kC=>coT<|coZ<|qF [0] kC fun wC kC=>eoT<|coR<|qR 1 [] kC fun wD kD=>qC (K2 h0 h1 wD (kD.touch.underL B8' hL0 B8'.size)) kD fun wE kE=>qE [1,2] kE fun wF kF=>JE<|zw 1 2 T.c T.g T.b (w.heap.size+1) (w.heap.size+2) kF ⟨rfl,kF.touch.underL B8' hL0 B8'.size⟩
theorem QLO (g:Rg)(hg:RgB g)(which:Int)(A:Option Addr)(cap:Nat)(xs:List Int)(hc:xs.length≤cap)(h8:Bytes8 xs)(hl:xs.length≤1000000000)(w:World)(hin:BytesIn w w.heap.size A xs)(ht:Tabs w w.heap.size):Calls Tryz.prog 125 #[JM g,.int .i64 which,.slice A xs.length cap] w fun e w'=>e=.returned (J5 g which xs).v∧Below w.heap.size w w':=by
 go_enter Tryz.func125,Tryz.ntmps125
 obtain⟨X,hX⟩:∃ X,X=ofX (Xj g xs):=⟨_,rfl⟩
 have KX:∀ W,Below w.heap.size w W→Calls Tryz.prog 134 #[JM g,.slice A xs.length cap] W fun e w'=>e=.returned X.v∧Below W.heap.size W w':=by rw[hX];exact QRG g hg A cap xs hc h8 w hin ht
 refine JA<|qQ [] (Many.begin w) fun w1 k1=>coR<|qR 3 [0] k1 fun w2 k2=>qC (QHx g.pc which w2) k2 fun w3 k3=>qE [3] k3 fun w4 k4=>coS<|qQ [] k4 fun w5 k5=>coI (!(which==1||which==2)) (fun h=>?_) fun h=>JC<|eoT<|coS<|qQ [] k5 fun w6 k6=>coI ((xs.length:Int)==0) (fun h0=>?_) fun h0=>JC<|eoT<|?_
 · have h1:which≠1:=by intro e;subst e;cases h
   have h2:which≠2:=by intro e;subst e;cases h
   refine coR<|qR 2 [0] k5 fun w6 k6=>qC (KX w6 k6.touch.below) k6 fun w7 k7=>qE [1,2] k7 fun w8 k8=>JE<|Je<|zw 1 2 X.c X.g X.b (w.heap.size+1) (w.heap.size+2) k8 ⟨?_,k8.touch.below⟩
   unfold J5
   rw[if_neg h1,if_neg h2,←hX]
   rfl
 · have hx:xs=[]:=List.eq_nil_of_length_eq_zero (by have:(xs.length:Int)=0:=by simpa using h0
                                                    omega)
   refine coR<|qR 1 [3] k6 fun w7 k7=>qC (QCn (QEs g.pc which) w7) k7 fun w8 k8=>qE [1,2] k8 fun w9 k9=>JE<|Je<|zw 1 2 (QEs g.pc which) Jf false (w.heap.size+1) (w.heap.size+2) k9 ⟨?_,k9.touch.below⟩
   subst hx
   unfold J5 QEs
   by_cases h1:which=1
   · rw[if_pos h1,if_pos h1];rfl
   · have h2:which=2:=by
      have:(which==1||which==2)=true:=by cases hq:(which==1||which==2) with|true=>rfl|false=>(rw[hq] at h;cases h)
      simpa [h1] using this
     rw[if_neg h1,if_neg h1,if_pos h2,if_pos h2];rfl
 · obtain⟨v,ys,rfl⟩:∃ v ys,xs=v :: ys:=by
    cases xs with
    | nil=>cases h0
    | cons v ys=>exact⟨v,ys,rfl⟩
   have hcy:ys.length+1≤cap:=hc
   have hly:ys.length≤1000000000:=by have:ys.length+1≤1000000000:=hl
                                     omega
   have hv:B8 v:=h8.head
   have hy8:Bytes8 ys:=h8.tail
   obtain⟨A',hA'⟩:∃ A',A'=(if cap=1 then A else A.map (·.add 1)):=⟨_,rfl⟩
   have hiny:BytesIn w w.heap.size A' ys:=by rw[hA'];exact hin.drop (k:=1) (by simp) hc
   have KB:=fun (W:World) (hW:Below w.heap.size w W)=>QNO g hg v ys A cap hcy W ((hin.below hW).more hW.size)
   rw[←hA'] at KB
   obtain⟨g1,hg1⟩:∃ g1:Rg,g1=jB { g with halted:=false,late:=false } 1:=⟨_,rfl⟩
   have b1:RgB g1:=by
    have:=hg.tick 1
    rw[hg1]
    exact⟨this.af,this.bc,this.de,this.hl,this.af2,this.bc2,this.de2,this.hl2,this.ix,this.iy,this.sp,this.pc,this.wz,this.i,this.r,this.mode⟩
   rw[←hg1] at KB
   refine coR<|qR 2 [0] k6 fun w7 k7=>qC (KB w7 k7.touch.below) k7 fun w8 k8=>qE [4] k8 fun w9 k9=>coS<|qQ [] k9 fun wA kA=>coI (which==1) (fun h1=>?_) fun h1=>JC<|eoT<|?_
   · obtain⟨T,hT⟩:∃ T,T=XF (XR g1.sp g1.pc) (Z9 { g1 with iff1:=false } 102) ys.length:=⟨_,rfl⟩
     have KN:=fun W=>QTo g1 b1.pc v A' ys.length (cap-1) hly W
     rw[←hT] at KN
     refine coR<|qR 1 [4] kA fun wB kB=>qC (KN wB) kB fun wC kC=>qE [1,2] kC fun wD kD=>JE<|Je<|zw 1 2 T.c T.g T.b (w.heap.size+1) (w.heap.size+2) kD ⟨?_,kD.touch.below⟩
     have e:J5 g which (v :: ys)=T:=by
      unfold J5
      rw[if_pos (by simpa using h1),hT,hg1]
      rfl
     rw[e];rfl
   · have h1':which≠1:=by simpa using h1
     have h2:which=2:=by
      have:(which==1||which==2)=true:=by cases hq:(which==1||which==2) with|true=>rfl|false=>(rw[hq] at h;cases h)
      simpa [h1'] using this
     obtain⟨T,hT⟩:∃ T,T=QBP { g1 with iff1:=false,iff2:=false } v ys:=⟨_,rfl⟩
     have KN:=fun (W:World) (hW:Below w.heap.size w W)=>QMW g1 b1 v hv A' (cap-1) ys (by omega) hy8 hly W ((hiny.below hW).more hW.size) (ht.below hW)
     rw[←hT] at KN
     refine coR<|qR 1 [4] kA fun wB kB=>qC (KN wB kB.touch.below) kB fun wC kC=>qE [1,2] kC fun wD kD=>JE<|zw 1 2 T.c T.g T.b (w.heap.size+1) (w.heap.size+2) kD ⟨?_,kD.touch.below⟩
     have e:J5 g which (v :: ys)=T:=by
      unfold J5
      rw[if_neg h1',if_pos h2,hT,hg1]
      rfl
     rw[e];rfl
structure QC6 (F:Fence):Prop where
 fn:∀ f,F.fn f
 depth:F.depth=none
 calls:∀ {n:Nat} {P:Program} {f:FuncId} {args:Array Value} {w:World} {R:Ending→World→Prop},Calls P f args w R→CallsIn F n P f args w R
theorem QJ:QC6 Fence.wide:=⟨fun _=>trivial,rfl,fun h=>callsIn_wide.2 h⟩
theorem ZG (l:Nat):QC6 (Fence.wide.inRound l):=⟨fun _=>trivial,rfl,fun h=>CallsIn.inRound l (callsIn_wide.2 h)⟩
def Qd (ds:List Deferred)(Q:Exit→Act→World→Prop):Exit→Act→World→Prop:=fun e a w=>Q e { a with defers:=ds } w
def Tame (Q:Exit→Act→World→Prop):Prop:=∀ a w,¬Q .outgrown a w
theorem Tame.thn {Q:Exit→Act→World→Prop} {N:Act→World→Prop}(h:Tame Q):Tame (Exit.then N Q):=fun a w k=>h a w k
theorem Tame.blk {Q:Exit→Act→World→Prop} {i:Nat}(h:Tame Q):Tame (Exit.inBlock i Q):=fun a w k=>h a w k
def zV (o:Oper):Bool:=match o.op with
 | .move _|.assign _|.pick _ _ _|.alloc _|.box _ _|.build _ _|.buildSlice _ _ _|.load _ _|.store _ _ _|.binOp _ _ _ _ _|.unOp _ _ _|.convert _ _ _|.fieldAddr _ _ _|.indexAddr _ _ _|.index _ _ _|.slice _ _ _ _ _|.extract _ _=>true
 | .nilCheck _=>true
 | .call c=>match c.callee with|.builtin .append|.builtin .len=>true|_=>false
 | _=>false
theorem QTb {P:Program} {s:Sem Value} {x:Next} {w w':World}(h:(do pure (Next.value (←s)):Sem Next).run P w=.ok x w'):∃ v,x=.value v:=by
 rw[Sem.run_bind] at h
 cases e:s.run P w with
 | ok a w1 =>
   rw[e] at h
   simp only[Result.andThen_ok,Sem.run_pure] at h
   injection h with h1 h2
   exact⟨a,h1.symm⟩
 | halt a w1=>rw[e] at h;simp[Result.andThen] at h
theorem QIY {r:Result Value} {x:Next} {w':World}(h:(r.andThen fun a w'=>Result.ok (Next.value a) w')=.ok x w'):∃ v,x=.value v:=by
 cases r with
 | ok a w1=>simp only[Result.andThen_ok] at h;injection h with h1 h2;exact⟨a,h1.symm⟩
 | halt a w1=>simp[Result.andThen] at h
theorem QRA {P:Program} {s:Sem Unit} {x:Next} {w w':World}(h:(do s;pure Next.skip:Sem Next).run P w=.ok x w'):x=.skip:=by
 rw[Sem.run_bind] at h
 cases e:s.run P w with
 | ok a w1 =>
   rw[e] at h
   simp only[Result.andThen_ok,Sem.run_pure] at h
   injection h with h1 h2
   exact h1.symm
 | halt a w1=>rw[e] at h;simp[Result.andThen] at h
theorem QQ4 {P:Program} {o:Oper}(hm:zV o=true){ρ:Operand→Value} {w w':World} {x:Next}(h:(execOp ρ o).run P w=.ok x w'):(∃ v,x=.value v)∨x=.skip:=by
 unfold zV at hm
 unfold execOp at h
 cases ho:o.op with
 | move y|assign y=>rw[ho] at h;simp only[Sem.run_pure] at h;injection h with h1 h2;exact .inl ⟨_,h1.symm⟩
 | pick c y z =>
   rw[ho] at h
   simp only[Sem.run_bind] at h
   cases e:(asBool (ρ c)).run P w with
   | ok a w1=>rw[e] at h;simp only[Result.andThen_ok,Sem.run_pure] at h;injection h with h1 h2;exact .inl ⟨_,h1.symm⟩
   | halt a w1=>rw[e] at h;simp[Result.andThen] at h
 | alloc _|box _ _|build _ _|buildSlice _ _ _|load _ _|binOp _ _ _ _ _|unOp _ _ _|convert _ _ _|fieldAddr _ _ _|indexAddr _ _ _|index _ _ _|slice _ _ _ _ _|extract _ _=>rw[ho] at h;exact .inl (QTb h)
 | store _ _ _=>rw[ho] at h;exact .inr (QRA h)
 | nilCheck y =>
   rw[ho] at h
   simp only at h
   split at h
   · simp[runtimePanic] at h
   · simp[runtimePanic] at h
   · simp[runtimePanic] at h
   · split at h
     · simp[runtimePanic] at h
     · simp only[Sem.run_bind] at h
       refine .inl ?_
       revert h
       generalize (program.run P w)=r1
       cases r1 with
       | halt a w1=>intro h;simp[Result.andThen] at h
       | ok a w1 =>
         simp only[Result.andThen_ok]
         generalize (nilAhead _ _ _ _).run P w1=r2
         cases r2 with
         | halt a w2=>intro h;simp[Result.andThen] at h
         | ok b w2 =>
           simp only[Result.andThen_ok]
           intro h
           split at h
           · simp[unsupported,Sem.run_bind,Result.andThen] at h
           · simp only[Sem.run_pure,Sem.run_bind,Result.andThen_ok] at h;injection h with h1 h2;exact⟨_,h1.symm⟩
     · simp only[Sem.run_pure] at h;injection h with h1 h2;exact .inl ⟨_,h1.symm⟩
   · simp only[Sem.run_pure] at h;injection h with h1 h2;exact .inl ⟨_,h1.symm⟩
 | call c =>
   rw[ho] at h hm
   simp only at h hm
   split at hm
   · rename_i hc
     simp only[resolve,hc,Sem.run_bind,Sem.run_pure,Result.andThen_ok,invoke,builtin] at h
     exact .inl (QIY h)
   · rename_i hc
     simp only[resolve,hc,Sem.run_bind,Sem.run_pure,Result.andThen_ok,invoke,builtin] at h
     exact .inl (QIY h)
   · cases hm
 | _=>rw[ho] at hm;cases hm
theorem QLe {F:Fence} {o:Oper}(h:zV o=true)(ρ:Operand→Value):o.semAt F.round ρ=execOp ρ o:=Oper.semAt_plain F ρ o fun c e=>by simp[zV,e] at h
section
variable {F:Fence} {n:Nat} {ds:List Deferred} {P:Program} {ops:Array Oper} {Q:Exit→Act→World→Prop}
theorem QHR (a:Act)(d:Option Nat)(v:Value):({ a with defers:=ds }:Act).put d v={ a.put d v with defers:=ds }:=by cases d<;>rfl
theorem QLX (hF:QC6 F)(hT:Tame Q){o:Oper}(hm:zV o=true){a:Act} {w:World} {K K':Act→World→Prop}(hK:∀ a w,K a w→K' { a with defers:=ds } w)
 (h:o.wp P a w K (Qd ds Q)∨(o.asks P a w∧LetsOut (Qd ds Q))):o.wpIn F n P { a with defers:=ds } w K' Q:=by
 rcases h with h|⟨-,a0,w0,h⟩
 · refine⟨fun f _=>hF.fn f,?_⟩
   have ev:({ a with defers:=ds }:Act).eval=a.eval:=rfl
   rw[QLe hm,ev]
   unfold Oper.wp at h
   cases e:(execOp a.eval o).run P w with
   | ok x w' =>
     rw[e] at h
     rcases QQ4 hm e with ⟨v,rfl⟩|rfl
     · show K' _ _
       rw[QHR]
       exact hK _ _ h
     · show K' (Act.put _ _ _) _
       rw[QHR]
       exact hK _ _ h
   | halt x w' =>
     rw[e] at h
     cases x<;>first|exact h|exact h.elim
 · exact (hT _ _ h).elim
theorem QHL (hF:QC6 F)(hT:Tame Q):∀ (l:List Oper),l.all zV=true→∀ (a:Act) (w:World),wpList P ops (Qd ds Q) l a w→wpListIn F n P ops Q l { a with defers:=ds } w
 | [],_,a,w,h=>h
 | o :: r,hm,a,w,h=>by
   simp only[List.all_cons,Bool.and_eq_true] at hm
   unfold wpList at h
   unfold wpListIn
   by_cases hw:Region.wanted o (yielded ops a.tmps)=true
   · rw[if_pos hw] at h
     rw[if_pos (show Region.wanted o (yielded ops ({ a with defers:=ds }:Act).tmps)=true from hw)]
     exact QLX hF hT hm.1 (fun a w h=>QHL hF hT r hm.2 a w h) h
   · rw[if_neg hw] at h
     rw[if_neg (show ¬Region.wanted o (yielded ops ({ a with defers:=ds }:Act).tmps)=true from hw)]
     refine⟨fun f _=>hF.fn f,?_⟩
     rw[QHR]
     exact QHL hF hT r hm.2 _ w h
theorem QGj (hF:QC6 F)(hT:Tame Q){md:Region.Mode}(hm:∀ (i:Nat) (o:Oper),ops[i]? = some o→zV o=true):∀ (f:Nat) (listed:Array Bool) (a:Act) (w:World),wpAny P md ops (Qd ds Q) f listed a w→wpAnyIn F n P md ops Q f listed { a with defers:=ds } w
 | 0,listed,a,w,h=>h
 | f+1,listed,a,w,h=>by
   refine⟨fun e=>h.1 e,fun i hi=>?_⟩
   have h2:=h.2 i hi
   unfold wpOp at h2
   unfold wpOpIn
   cases ho:ops[i]? with
   | none=>rw[ho] at h2;exact QGj hF hT hm f _ a w h2
   | some o =>
     rw[ho] at h2
     dsimp only at h2 ⊢
     by_cases hw:Region.wanted o (yielded ops a.tmps)=true
     · rw[if_pos hw] at h2
       rw[if_pos (show Region.wanted o (yielded ops ({ a with defers:=ds }:Act).tmps)=true from hw)]
       exact QLX hF hT (hm i o ho) (fun a w h=>QGj hF hT hm f _ a w h) h2
     · rw[if_neg hw] at h2
       rw[if_neg (show ¬Region.wanted o (yielded ops ({ a with defers:=ds }:Act).tmps)=true from hw)]
       refine⟨fun f _=>hF.fn f,?_⟩
       rw[QHR]
       exact QGj hF hT hm f _ _ w h2
end
def QAX (ds:List Deferred)(base:List Value)(l:JY):Act:=⟨(ovO base l).toArray,ds⟩
structure WI (F:Fence)(n:Nat)(ds:List Deferred)(P:Program)(ops:Array Oper)(Q:Exit→Act→World→Prop)(base:List Value)(rest:List Oper)(l:JY)(w:World):Prop where
 h:inO base.length l→wpListIn F n P ops Q rest (QAX ds base l) w
structure CI (F:Fence)(n:Nat)(ds:List Deferred)(P:Program)(c:Code)(Q:Exit→Act→World→Prop)(base:List Value)(l:JY)(w:World):Prop where
 h:inO base.length l→c.wpIn F n P Q (QAX ds base l) w
structure EI (ds:List Deferred)(Q:Exit→Act→World→Prop)(e:Exit)(base:List Value)(l:JY)(w:World):Prop where
 h:inO base.length l→Q e (QAX ds base l) w
theorem QCj (ds:List Deferred){base:List Value} {l:JY}(h:inO base.length l):(QAX ds base l).eval=evO base l:=Jj h
theorem QD8 (ds:List Deferred)(base:List Value)(l:JY)(d:Option Nat)(v:Value):(QAX ds base l).put d v=QAX ds base (Qz d v l):=by
 cases d with
 | none=>rfl
 | some d=>simp[Act.put,QAX,Qz,ovO]
section
variable {F:Fence} {n:Nat} {ds:List Deferred} {P:Program} {ops:Array Oper} {Q:Exit→Act→World→Prop} {base:List Value} {rest:List Oper} {l:JY} {w w0:World} {o:Oper} {rs:List RowK} {L:List Nat}
theorem wiM (hF:QC6 F){V:Value} {w':World}(he:(execOp (evO base l) o).run P w=.ok (.value V) w')(h:WI F n ds P ops Q base rest (Qz o.dst V l) w')
 (hg:J0 ops base.length base l o=some true:=by kernel_rfl)(hd:Q2 o.dst base.length=true:=by kernel_rfl)(hn:zV o=true:=by kernel_rfl):WI F n ds P ops Q base (o :: rest) l w :=
 ⟨fun hi=>wpListIn_step fun K hK=>by
  rw[if_pos (show Region.wanted o (yielded ops (QAX ds base l).tmps)=true from Jd hg hi)]
  refine⟨fun f _=>hF.fn f,?_⟩
  rw[QLe hn,QCj ds hi,he]
  show K _ _
  rw[QD8]
  exact hK _ _ (h.h (XI hd hi))⟩
theorem wiY (hF:QC6 F){lo:Nat} {f:FuncId} {tmps:Array Value} {assign body:Code} {R:Ending→World→Prop}(hc:RoundIn F (n-1) P lo f tmps assign body w R)(h:∀ e w',R e w'→∃ V,e=.returned V∧WI F n ds P ops Q base rest (Qz o.dst V l) w')
 (he:(execOp (evO base l) o).run P w=.ok (.round lo f tmps assign body) w)
 (hg:J0 ops base.length base l o=some true:=by kernel_rfl)(hd:Q2 o.dst base.length=true:=by kernel_rfl)(hn:∀ c,o.op≠.defer c:=by intro c e;cases e):WI F n ds P ops Q base (o :: rest) l w :=
 ⟨fun hi=>wpListIn_step fun K hK=>by
  rw[if_pos (show Region.wanted o (yielded ops (QAX ds base l).tmps)=true from Jd hg hi)]
  refine⟨fun f _=>hF.fn f,?_⟩
  rw[Oper.semAt_plain F _ _ hn,QCj ds hi,he]
  refine⟨fun hx=>(by rw[hF.depth] at hx;cases hx),hc.mono fun e w' hR=>?_⟩
  obtain⟨V,rfl,hV⟩:=h e w' hR
  show K _ _
  rw[QD8]
  exact hK _ _ (hV.h (XI hd hi))⟩
theorem wiC (hF:QC6 F){g:FuncId} {args:Array Value} {R:Ending→World→Prop}(hc:Calls P g args w R)(h:∀ e w',R e w'→∃ V,e=.returned V∧WI F n ds P ops Q base rest (Qz o.dst V l) w')
 (hg:J0 ops base.length base l o=some true:=by kernel_rfl)(he:(execOp (evO base l) o).run P w=.ok (.enter g args) w:=by kernel_rfl)(hd:Q2 o.dst base.length=true:=by kernel_rfl)(hn:∀ c,o.op≠.defer c:=by intro c e;cases e):WI F n ds P ops Q base (o :: rest) l w :=
 ⟨fun hi=>wpListIn_step fun K hK=>by
  rw[if_pos (show Region.wanted o (yielded ops (QAX ds base l).tmps)=true from Jd hg hi)]
  refine⟨fun f _=>hF.fn f,?_⟩
  rw[Oper.semAt_plain F _ _ hn,QCj ds hi,he]
  refine⟨fun hx=>(by rw[hF.depth] at hx;cases hx),(hF.calls hc).mono fun e w' hR=>?_⟩
  obtain⟨V,rfl,hV⟩:=h e w' hR
  show K _ _
  rw[QD8]
  exact hK _ _ (hV.h (XI hd hi))⟩
theorem wiW (hF:QC6 F)(hT:Tame Q)(h:WO P ops (Qd ds Q) base rest l w)(hm:rest.all zV=true:=by kernel_rfl):WI F n ds P ops Q base rest l w:=⟨fun hi=>QHL hF hT rest hm (XW base l) w (h.h hi).h⟩
theorem eiO {e:Exit}(h:EI ds Q e base l w):EO (Qd ds Q) e base l w:=⟨fun hi=>h.h hi⟩
theorem QTC {id:Nat} {l0:List Oper} {y:Code}(h:WI F n ds P l0.toArray (Exit.then (y.wpIn F n P Q) Q) base l0 l w):CI F n ds P (.seq (.region id l0.toArray false) y) Q base l w:=⟨fun hi=>wpIn_seq (wpIn_region_lit (h.h hi))⟩
theorem ciZ' {id:Nat} {l0:List Oper}(h:WI F n ds P l0.toArray Q base l0 l w):CI F n ds P (.region id l0.toArray false) Q base l w:=⟨fun hi=>wpIn_region_lit (h.h hi)⟩
theorem ciR (hF:QC6 F)(hT:Tame Q){id:Nat} {l0:List Oper} {y:Code}(h:WO P l0.toArray (Qd ds (Exit.then (y.wpIn F n P Q) Q)) base l0 l w)(hm:l0.all zV=true:=by kernel_rfl):CI F n ds P (.seq (.region id l0.toArray false) y) Q base l w:=QTC (wiW hF hT.thn h hm)
theorem ciZ (hF:QC6 F)(hT:Tame Q){id:Nat} {l0:List Oper}(h:WO P l0.toArray (Qd ds Q) base l0 l w)(hm:l0.all zV=true:=by kernel_rfl):CI F n ds P (.region id l0.toArray false) Q base l w:=ciZ' (wiW hF hT h hm)
theorem QTd (hF:QC6 F)(hT:Tame Q){S:World→Prop} {id:Nat}(m:Nat)(hS:S w.drew)(h:PO P ops (Qd ds Q) S m base m (Array.replicate ops.size false) l w.drew)
 (hm:ops.all zV=true)(hB:Qg ops m=true)(hx:P.follows .mixedOrders=true)(hi:inO base.length l):(Code.region id ops true).wpIn F n P Q (QAX ds base l) w:=by
 have hp:=h.h hi
 simp only[Qg,Bool.and_eq_true,decide_eq_true_eq] at hB
 obtain⟨hsel,hn,hs,hc⟩:=hB
 have inv0:HeadInv .any ops m (Array.replicate ops.size false) :=
  ⟨by simp,fun j oj _ hl=>(by rw[getD_replicate_false] at hl;cases hl),fun t _ ht=>getD_in (by simpa using ht) (getD_replicate_false _ _)⟩
 have H:=hp inv0
 refine wpIn_region_any hx ?_
 have:=qO (g:=ops.size-m) (fun listed a w hL=>by
  have:=wpAny_of_seq (md:=.any) (Q':=Qd ds Q) (ops.toList.drop m) m listed a w (fun j=>by simp[List.getElem?_drop]) (by simpa using hL.1) hL.2
  simpa using this) _ _ _ _ H
 rw[show m+(ops.size-m)=ops.size by omega] at this
 refine QGj hF hT (fun i o ho=>?_) _ _ (XW base l) _ this
 have:=Array.all_eq_true_iff_forall_mem.1 hm o (Array.mem_of_getElem? ho)
 exact this
theorem ciP (hF:QC6 F)(hT:Tame Q){S:World→Prop} {id:Nat} {y:Code}(m:Nat)(hS:S w.drew)(h:PO P ops (Qd ds (Exit.then (y.wpIn F n P Q) Q)) S m base m (Array.replicate ops.size false) l w.drew)
 (hm:ops.all zV=true:=by kernel_rfl)(hB:Qg ops m=true:=by kernel_rfl)(hx:P.follows .mixedOrders=true:=by kernel_rfl):CI F n ds P (.seq (.region id ops true) y) Q base l w:=⟨fun hi=>wpIn_seq (QTd hF hT.thn m hS h hm hB hx hi)⟩
theorem QFD (h:EI ds Q .normal base l w):CI F n ds P .skip Q base l w:=⟨fun hi=>wpIn_skip (h.h hi)⟩
theorem QUa (h:EI ds Q .ret base l w):CI F n ds P .ret Q base l w:=⟨fun hi=>wpIn_ret (h.h hi)⟩
theorem ciX {id:Nat}(h:EI ds Q (.exit id) base l w):CI F n ds P (.exit id) Q base l w:=⟨fun hi=>wpIn_exit (h.h hi)⟩
theorem ciB {id:Nat} {c:Code}(h:CI F n ds P c (Exit.inBlock id Q) base l w):CI F n ds P (.block id c) Q base l w:=⟨fun hi=>wpIn_block (h.h hi)⟩
theorem ciI (t:Bool){c:Operand} {x y:Code}(ht:t=true→CI F n ds P x Q base l w)(hf:t=false→CI F n ds P y Q base l w)(hc:evO base l c=.bool t:=by kernel_rfl):CI F n ds P (.cond c x y) Q base l w :=
 ⟨fun hi=>wpIn_cond_split (by rw[QCj ds hi];exact hc) (fun e=>(ht e).h hi) fun e=>(hf e).h hi⟩
theorem ciF {c:Operand} {x y:Code}(hf:CI F n ds P y Q base l w)(hc:evO base l c=.bool false:=by kernel_rfl):CI F n ds P (.cond c x y) Q base l w:=ciI false (fun e=>by cases e) (fun _=>hf) hc
theorem eiT {y:Code}(h:CI F n ds P y Q base l w):EI ds (Exit.then (y.wpIn F n P Q) Q) .normal base l w:=⟨fun hi=>h.h hi⟩
theorem eiB {i:Nat}(h:EI ds Q .normal base l w):EI ds (Exit.inBlock i Q) .normal base l w:=⟨fun hi=>h.h hi⟩
theorem eiBx {i:Nat}(h:EI ds Q .normal base l w):EI ds (Exit.inBlock i Q) (.exit i) base l w:=⟨fun hi=>by simp only[Exit.inBlock,if_true];exact h.h hi⟩
theorem QFb {y:Code}(h:CI F n ds P y Q base l w):EO (Qd ds (Exit.then (y.wpIn F n P Q) Q)) .normal base l w:=eiO (eiT h)
theorem QO2 {c:Code}(m:Nat)(h:CI Fence.wide m [] P c Q base l w):CO P c Q base l w:=⟨fun hi=>wpIn_wide.1 (h.h hi)⟩
theorem eiE {e:Exit}(h:EO Q e base l w):EI [] Q e base l w:=⟨fun hi=>h.h hi⟩
theorem eiTo {y:Code} {m:Nat}(h:CI Fence.wide m ds P y Q base l w):EI ds (Exit.then (y.wp P Q) Q) .normal base l w:=⟨fun hi=>wpIn_wide.1 (h.h hi)⟩
theorem QRX {gf:FuncId} {lb:Array Value} {gop:Operand} {ps:Array Tmp} {assign body:Code}(eg:∀ args w,(callFunc gf args).run P w=.ok (.enter gf args) w)
 (h:∀ (fn:FuncId) (W1:World),Below w.heap.size w W1→W1.heap[w.heap.size]? = some (.deferred (some []))→W1.heap[w.heap.size+1]? = some (.loop { state:=.ready,pending:=none,fn,tmps:=(ovO base l).toArray,params:=ps,assign,body,defers:=w.heap.size }) →
   Calls P gf (#[.func (.yield (w.heap.size+1)) #[] #[]]++lb) W1 fun e W3=>∃ v W4,e=.returned v∧(Instr.endLoop (w.heap.size+1)).run P W3=.ok none W4∧EI [{ target:=.collected w.heap.size,args:=#[] }] Q .normal base l W4)
 (hg:evO base l gop=.func (.func gf) #[] lb:=by kernel_rfl):CI Fence.wide 0 [] P (.rangeFunc gop ps assign body) Q base l w :=
 ⟨fun hi=>by
  refine wpIn_rangeFunc fun fn _=>?_
  have hev:(QAX [] base l).eval gop=.func (.func gf) #[] lb:=by rw[QCj [] hi];exact hg
  obtain⟨W1,hW1⟩:∃ W1,W1=(w.alloc (.deferred (some []))).alloc (.loop { state:=.ready,pending:=none,fn,tmps:=(ovO base l).toArray,params:=ps,assign,body,defers:=w.heap.size }):=⟨_,rfl⟩
  have hb1:Below w.heap.size w W1:=by
   rw[hW1]
   exact Below.alloc (Below.alloc (Below.refl _ _) (Nat.le_refl _) _) (by simp) _
  have hD1:W1.heap[w.heap.size]? = some (.deferred (some [])):=by
   rw[hW1]
   exact (Below.heap_alloc _ _ _ (by simp)).trans (World.alloc_heap_new w _)
  have hL1:W1.heap[w.heap.size+1]? = some (.loop { state:=.ready,pending:=none,fn,tmps:=(ovO base l).toArray,params:=ps,assign,body,defers:=w.heap.size }):=by
   rw[hW1]
   have:=World.alloc_heap_new (w.alloc (.deferred (some []))) (.loop { state:=.ready,pending:=none,fn,tmps:=(ovO base l).toArray,params:=ps,assign,body,defers:=w.heap.size })
   rw[World.size_alloc] at this
   exact this
  have h0:(Instr.enterLoop fn (QAX [] base l).tmps ps assign body Fence.wide.round).run P w=.ok (w.heap.size+1,[{ target:=.collected w.heap.size,args:=#[] }]) W1:=by
   rw[hW1]
   exact run_enterLoop_outer _ _ _ _ _
  refine⟨w.heap.size+1,[{ target:=.collected w.heap.size,args:=#[] }],W1,{ target:=.fn (.func gf) lb,args:=#[.func (.yield (w.heap.size+1)) #[] #[]] },W1,gf,#[.func (.yield (w.heap.size+1)) #[] #[]]++lb,W1,h0,?_,?_,?_,?_,?_⟩
  · simp only[resolve,hev]
    simp[go_sem]
  · intro f' _;exact trivial
  · simp[invoke,go_sem,eg]
  · intro hx;cases hx
  · refine callsIn_wide.2 ((h fn W1 hb1 hD1 hL1).mono fun e W3 ⟨v,W4,he,hend,hq⟩=>?_)
    subst he
    exact⟨none,W4,hend,hq.h hi⟩⟩
theorem QLS {lo:Nat} {f:FuncId} {tmps:Array Value} {assign body:Code} {R:Ending→World→Prop}(ht:tmps=(ovO base l).toArray)(hi:inO base.length l)
 (h:CI (Fence.wide.inRound lo) 0 [] P assign (Exit.then (fun a₁ w₁=>∃ w₂,(Instr.beginRound lo).run P w₁=.ok () w₂∧body.wpIn (Fence.wide.inRound lo) 0 P (roundPost P lo R) a₁ w₂) (fun _ _ _=>False)) base l w):RoundIn Fence.wide 0 P lo f tmps assign body w R :=
 roundIn_of_wpIn trivial (by subst ht;exact h.h hi)
theorem QTp {lo:Nat} {body:Code} {R:Ending→World→Prop} {w2:World} {N:Exit→Act→World→Prop}(hb:(Instr.beginRound lo).run P w=.ok () w2)(h:CI (Fence.wide.inRound lo) 0 [] P body (roundPost P lo R) base l w2) :
 EI [] (Exit.then (fun a₁ w₁=>∃ w₂,(Instr.beginRound lo).run P w₁=.ok () w₂∧body.wpIn (Fence.wide.inRound lo) 0 P (roundPost P lo R) a₁ w₂) N) .normal base l w:=⟨fun hi=>⟨w2,hb,h.h hi⟩⟩
theorem QWT {lo:Nat} {R:Ending→World→Prop} {v:Value} {w':World}(he:(Instr.endRound lo none).run P w=.ok v w')(hR:R (.returned v) w'):EI [] (roundPost P lo R) .normal base l w:=⟨fun _=>⟨v,w',he,hR⟩⟩
theorem QIR {lo:Nat} {rc:Loop} {body:Code} {R:Ending→World→Prop} {N:Exit→Act→World→Prop}(hl:w.heap[lo]? = some (.loop rc))(hr:rc.state=.ready)
 (h:∀ w2,w.grownBy w2 (some lo)→w2.heap[lo]? = some (.loop { rc with state:=.busy })→CI (Fence.wide.inRound lo) 0 [] P body (roundPost P lo R) base l w2) :
 EI [] (Exit.then (fun a₁ w₁=>∃ w₂,(Instr.beginRound lo).run P w₁=.ok () w₂∧body.wpIn (Fence.wide.inRound lo) 0 P (roundPost P lo R) a₁ w₂) N) .normal base l w :=
 QTp (run_beginRound hl hr) (h _ (grownBy_putObj' w lo _) (World.putObj_heap_same (Array.getElem?_eq_some_iff.1 hl).1))
theorem QKY {lo:Nat} {rc:Loop} {R:Ending→World→Prop}(hl:w.heap[lo]? = some (.loop rc))(hR:∀ w',w.grownBy w' (some lo)→w'.heap[lo]? = some (.loop { rc with state:=.ready,pending:=none })→R (.returned (.bool true)) w'):EI [] (roundPost P lo R) .normal base l w :=
 QWT (run_endRound none hl) (hR _ (grownBy_putObj' w lo _) (World.putObj_heap_same (Array.getElem?_eq_some_iff.1 hl).1))
theorem QJf {lo:Nat} {rc:Loop}(hl:w.heap[lo]? = some (.loop rc))(hs:rc.state≠.busy)(hp:rc.pending=none):∃ w',(Instr.endLoop lo).run P w=.ok none w'∧w.grownBy w' (some lo) :=
 ⟨_,by rw[run_endLoop hl hs,hp],grownBy_putObj' w lo _⟩
theorem QOk {fn:Func} {R:Ending→World→Prop} {t:Tmp} {D:Nat}(V:Value)(hD:w.heap[D]? = some (.deferred (some [])))(hR:R (.returned V) (w.putObj D (.deferred none)))(h:fn.results=#[.tmp t]:=by exact rfl)(hv:lkO base t l=V:=by kernel_rfl) :
 EI [{ target:=.collected D,args:=#[] }] (bodyPostM Fence.wide 0 P fn R) .ret base l w :=
 ⟨fun hi=>⟨by simp,.inl ⟨D,_,rfl,run_takeDeferred hD,V,by rw[results_tmp h,show (QAX [{ target:=.collected D,args:=#[] }] base l).tmps.getD t undef=V from (congrFun (Jj hi) (.tmp t)).trans hv],hR⟩⟩⟩
end
end Go.Proofs.YtmgcgiecimnncaaGreatDoor
