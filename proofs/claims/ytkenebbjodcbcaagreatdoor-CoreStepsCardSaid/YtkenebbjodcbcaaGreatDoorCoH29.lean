/- Contracts and facts that the claim's proof wants (several texts in one). -/
import Derived.Test.YtkenebbjodcbcaaGreatDoorCoH28
namespace Go.Proofs.YtkenebbjodcbcaaGreatDoor
open Go.RowKit
set_option linter.unusedVariables false
set_option linter.unusedSimpArgs false
set_option maxRecDepth 20000
set_option maxHeartbeats 20000000
theorem Many.belowB {w0 w w':World} {L:List Nat} {rs:List RowK} {n:Nat}(h:Many w0 L rs w)(k:Below n w w')(hn:∀ (i:Nat) (r:RowK),rs[i]? = some r→r.b < n)(h0:w0.heap.size≤n):Many w0 L rs w' :=
 ⟨fun i r hr=>by obtain⟨full,h1,h2⟩:=h.rows i r hr;exact⟨full,h1.of (k.block r.b (hn i r hr)),h2⟩,h.dis,h.own,
  ⟨k.os.trans h.touch.os,k.tape.trans h.touch.tape,k.output.trans h.touch.output,Nat.le_trans h.touch.size k.size,fun c hc hL=>(k.block c (Nat.lt_of_lt_of_le hc h0)).trans (h.touch.block c hc hL)⟩⟩
theorem QBk {a b c x:Nat} {t u v:TypeId} {cs ds es:Xf}(h:a < x)(k:b < x)(m:c < x):∀ (i:Nat) (r:RowK),([⟨a,t,cs⟩,⟨b,u,ds⟩,⟨c,v,es⟩]:List RowK)[i]? = some r→r.b < x:=fun i r hi=>by
 match i with
 | 0=>cases hi;exact h
 | 1=>cases hi;exact k
 | 2=>cases hi;exact m
 | i+3=>cases hi
theorem QEH (A:Option Addr)(cap:Nat)(xs:List Int)(k:Nat)(w:World)(hin:BytesIn w w.heap.size A xs):Calls Tryz.prog 39 #[.slice A xs.length cap,.int .i64 (k:Int)] w fun e w'=>e=.returned (.int .u8 (xs.getD k 0))∧Below w.heap.size w w':=by
 go_enter Tryz.func39,Tryz.ntmps39
 refine JB<|qQ [] (Many.begin w) fun w1 k1=>coS<|qQ [] k1 fun w2 k2=>coI (decide ((k:Int) < (xs.length:Int))) (fun h=>?_) fun h=>JC<|eoT<|qQ [] k2 fun w3 k3=>JF<|Jj (.int .u8 0) ⟨?_,k3.touch.below⟩
 · have hk:k < xs.length:=by have:(k:Int) < (xs.length:Int):=by simpa using h
                             omega
   obtain⟨p,rfl⟩:=hin.addr hk
   refine coR<|qR 2 [] k2 fun w3 k3=>wM (jG (ixB p xs.length cap k hk w3))<|wM (qb (BytesIn.ld (hin.below k3.touch.below) hk))<|qE [] k3 fun w4 k4=>JF<|Jp<|Jj (.int .u8 xs[k]) ⟨by rw[List.getD_eq_getElem?_getD,List.getElem?_eq_getElem hk];rfl,k4.touch.below⟩
 · have hk:¬k < xs.length:=by have:¬(k:Int) < (xs.length:Int):=by simpa using h
                              omega
   rw[List.getD_eq_getElem?_getD,List.getElem?_eq_none (by omega)]
   rfl
theorem QA9 (p:Addr)(c m:Nat)(l:List Cy)(hm:l.length=m)(g:Rg)(A:Option Addr)(cap n:Nat)(w:World)(hcy:CysIn w w.heap.size (some p) l):Calls Tryz.prog 51 #[.slice (some p) m c,JH g,.slice A n cap] w fun e w'=>e=.returned (Qj l g n).v∧Below w.heap.size w w':=by
 subst hm
 go_enter Tryz.func51,Tryz.ntmps51
 refine JB<|qQ [] (Many.begin w) fun w1 k1=>coS<|qQ [] k1 fun w2 k2=>coI (decide ((n:Int) < (l.length:Int))) (fun h=>?_) fun h=>JC<|eoT<|qP 3 k2 fun w3 k3=>qD 0 [0,1] k3<|jn 2<|soZ 1 (w.heap.size+1) k3 fun w4 k4=>poE<|qE [2] k4 fun w5 k5=>JF<|Zz 1 2 JL g true (w.heap.size+1) (w.heap.size+2) k5 ⟨?_,k5.touch.below⟩
 · have hk:n < l.length:=by have:(n:Int) < (l.length:Int):=by simpa using h
                            omega
   refine coR<|qR 3 [] k2 fun w3 k3=>wM (jG (QTK p l.length c n hk w3))<|wM (qb ((hcy.below k3.touch.below).ld hk))<|qE [1,2] k3 fun w4 k4=>JF<|Jp<|Zz 1 2 l[n] Ja false (w.heap.size+1) (w.heap.size+2) k4 ⟨?_,k4.touch.below⟩
   unfold Qj
   rw[if_pos hk,List.getD_eq_getElem?_getD,List.getElem?_eq_getElem hk]
   rfl
 · have hk:¬n < l.length:=by have:¬(n:Int) < (l.length:Int):=by simpa using h
                             omega
   unfold Qj
   rw[if_neg hk]
   rfl
theorem QDQ (b:Nat)(v0:Value)(c:Cy)(sp pc:Int)(hp:0≤pc∧pc≤65535)(w:World)(hb:b≤w.heap.size)(hown:w.ownsRow b 29 4 v0 1 (Qi [c])):Calls Tryz.prog 50 #[v0,.int .u16 sp,.int .u16 pc] w fun e w'=>∃ v,e=.returned v∧w'.ownsRow b 29 4 v 4 (Qi ([c]++Q7 sp pc))∧Below b w w':=by
 go_enter Tryz.func50,Tryz.ntmps50
 refine JB<|qQ [] (Many.begin w) fun w1 k1=>coR<|qR 2 [] k1 fun w2 k2=>wM (jd (QJg ⟨7,0,0,1⟩ w2))<|qAy (.tmp 7) (.tmp 9) b _ v0 1 [c] ⟨w2.heap.size,0,none⟩ 1 1 [⟨7,0,0,1⟩] (Nat.le_trans hb (Nat.le_trans k2.touch.size (by simp))) ((own_below hown k2.touch.below).alloc _) (QAf w2 [⟨7,0,0,1⟩] _) rfl (by omega) fun v3 w3 own3 g3=>?_
 have B3:Below b w w3:=zH ((jq k2.touch.below (.cells (Qi [⟨7,0,0,1⟩]).toArray 29)).mono hb) g3 ((own_below hown k2.touch.below).alloc _) (Nat.le_refl _) (Nat.le_trans hb (Nat.le_trans k2.touch.size (by simp)))
 have s3:b≤w3.heap.size:=Nat.le_trans hb B3.size
 refine qE [] (Many.begin w3) fun w4 k4=>coR<|qR 4 [] k4 fun w5 k5=>qCe (Xd pc hp.1 hp.2 w5)<|qR 1 [] k5 fun w6 k6=>wM (jd (QJg ⟨3,(sp-1)%65536,pc / 256,3⟩ w6))<|qAy (.tmp 11) (.tmp 17) b _ v3 2 [c,⟨7,0,0,1⟩] ⟨w6.heap.size,0,none⟩ 1 1 [⟨3,(sp-1)%65536,pc / 256,3⟩] (Nat.le_trans s3 (Nat.le_trans k6.touch.size (by simp))) ((own_below own3 k6.touch.below).alloc _) (QAf w6 [⟨3,(sp-1)%65536,pc / 256,3⟩] _) rfl (by omega) fun v7 w7 own7 g7=>?_
 have B7:Below b w w7:=zH (B3.trans ((jq k6.touch.below (.cells (Qi [⟨3,(sp-1)%65536,pc / 256,3⟩]).toArray 29)).mono s3)) g7 ((own_below own3 k6.touch.below).alloc _) (Nat.le_refl _) (Nat.le_trans s3 (Nat.le_trans k6.touch.size (by simp)))
 have s7:b≤w7.heap.size:=Nat.le_trans hb B7.size
 refine qE [] (Many.begin w7) fun w8 k8=>coR<|qR 4 [] k8 fun w9 k9=>qCe (Q4 pc hp.1 hp.2 w9)<|qR 1 [] k9 fun wA kA=>wM (jd (QJg ⟨3,(sp-2)%65536,pc%256,3⟩ wA))<|qAy (.tmp 19) (.tmp 25) b _ v7 3 [c,⟨7,0,0,1⟩,⟨3,(sp-1)%65536,pc / 256,3⟩] ⟨wA.heap.size,0,none⟩ 1 1 [⟨3,(sp-2)%65536,pc%256,3⟩] (Nat.le_trans s7 (Nat.le_trans kA.touch.size (by simp))) ((own_below own7 kA.touch.below).alloc _) (QAf wA [⟨3,(sp-2)%65536,pc%256,3⟩] _) rfl (by omega) fun vB wB ownB gB=>?_
 have BB:Below b w wB:=zH (B7.trans ((jq kA.touch.below (.cells (Qi [⟨3,(sp-2)%65536,pc%256,3⟩]).toArray 29)).mono s7)) gB ((own_below own7 kA.touch.below).alloc _) (Nat.le_refl _) (Nat.le_trans s7 (Nat.le_trans kA.touch.size (by simp)))
 exact qE [] (Many.begin wB) fun wC kC=>JF<|Jj vB ⟨vB,rfl,own_below ownB kC.touch.below,BB.trans (kC.touch.below.mono (Nat.le_trans hb BB.size))⟩
theorem zn {ys:List Int}(h:Bytes8 ys)(k:Nat):B8 (ys.getD k 0):=by
 rw[List.getD_eq_getElem?_getD]
 by_cases hk:k < ys.length
 · rw[List.getElem?_eq_getElem hk];exact QOi h hk
 · rw[List.getElem?_eq_none (by omega)];exact B8.zero
theorem QAc (c:Cy)(l:List Cy)(g:Rg)(n:Nat):Qj (c :: l) g (n+1)=Qj l g n:=by
 unfold Qj
 simp only[List.length_cons,Nat.add_lt_add_iff_right]
 rfl
theorem QJK (g:Rg)(hg:RgB g)(A:Option Addr)(cap:Nat)(xs:List Int)(w:World):Calls Tryz.prog 38 #[JH g,.int .i64 1,.slice A xs.length cap] w fun e w'=>e=.returned (Jr g 1 xs).v∧Below w.heap.size w w':=by
 go_enter Tryz.func38,Tryz.ntmps38
 obtain⟨T,hT⟩:∃ T,T=Qj ([⟨1,g.pc,0,4⟩]++Q7 g.sp g.pc) (X4 (jf g false g.iff2) 102) xs.length:=⟨_,rfl⟩
 have eT:Jr g 1 xs=T:=by
  rw[hT]
  cases xs with
  | nil=>rfl
  | cons v ys=>exact (QAc _ _ _ _).symm
 rw[eT]
 have KT:=fun p c W h=>QA9 p c 4 ([⟨1,g.pc,0,4⟩]++Q7 g.sp g.pc) rfl (X4 (jf g false g.iff2) 102) A cap xs.length W h
 rw[←hT] at KT
 refine JB<|qQ [] (Many.begin w) fun w1 k1=>coS<|qQ [] k1 fun w2 k2=>coF<|JC<|eoT<|qQ [0] k2 fun w3 k3=>qQ [0] k3 fun w4 k4=>coR<|qR 1 [0] k4 fun w5 k5=>qC (QCm g 1 hg.r w5) k5 fun w6 k6=>qE [0] k6 fun w7 k7=>qQ [0] k7 fun w8 k8=>qQ [0] k8 fun w9 k9=>qQ [0] k9 fun wa ka=>coS<|qQ [] ka fun wb kb=>coT<|coR<|qR 2 [] kb fun wc kc=>wM (jd (QJg ⟨1,g.pc,0,4⟩ wc))<|?_
 have kd:=kc.alloc 29 (Qi [⟨1,g.pc,0,4⟩]).toArray
 obtain⟨b,hb⟩:∃ b,b=wc.heap.size:=⟨_,rfl⟩
 have h2b:w.heap.size+2 < b:=by rw[hb];exact kc.lt 2 ⟨w.heap.size+2,24,(JJ Ja).toList.map some⟩ (by kernel_rfl)
 rw[←hb] at kd ⊢
 refine qR 2 [] kd fun we ke=>?_
 have re:=ke.row 3 (b:=b) (t:=29) (Qi [⟨1,g.pc,0,4⟩]) (by kernel_rfl)
 refine kX (QDQ b _ ⟨1,g.pc,0,4⟩ g.sp g.pc hg.pc we (Nat.le_of_lt re.lt) (QFW 1 re (Nat.le_refl b) rfl (by omega))) ?_
 rintro e wf ⟨v,rfl,own,hB⟩
 have kf:=(ke.take 3 [⟨w.heap.size,24,(JJ (jf g false g.iff2)).toList.map some⟩,⟨w.heap.size+1,29,(cyC JL).toList.map some⟩,⟨w.heap.size+2,24,(JJ Ja).toList.map some⟩]).belowB hB (QBk (by omega) (by omega) (by omega)) (by omega)
 rcases own.2 with ⟨-,e0⟩|⟨g',c',cur,rfl,hbg,hh,hle,hmx,hcs,htk⟩
 · cases e0
 have kg:=kf.add (b:=g') (t:=29) (cells:=cur) hh (by omega) (q5 (by omega) (by omega) (by omega))
 clear kf re ke kd kc kb ka k9 k8 k7 k6 k5 k4 k3 k2 k1 hb own hB
 refine⟨_,rfl,qE [] kg fun wh kh=>qQ [0] kh fun wi ki=>qQ [0] ki fun wj kj=>qQ [0] kj fun wk kk=>coR<|qR 3 [0] kk fun wl kl=>qC (KT ⟨g',0,none⟩ c' wl (QDo _ (kl.row 3 (b:=g') (t:=29) cur.toList (by kernel_rfl)) htk)) kl fun wm km=>qE [1,2] km fun wn kn=>JF<|Jp<|Zz 1 2 T.c T.g T.b (w.heap.size+1) (w.heap.size+2) kn ⟨rfl,kn.touch.below⟩⟩
def rnB (h:Nat)(g:Rg)(A:Option Addr)(n cap:Nat)(S:Value)(v:Int)(x:js):List Value:=[x.y 0,.int .i64 2,.slice A n cap,.pointer (some ⟨h,0,none⟩),x.y 4,x.y 5,.pointer (some ⟨h+1,0,none⟩),.pointer (some ⟨h+2,0,none⟩),x.y 8,.int .u16 g.pc,.int .u16 g.sp,x.y 11,S,.int .u8 v,x.y 14,x.y 15,x.y 16,x.y 17,x.y 18,x.y 19,x.y 20,x.y 21,x.y 22,x.y 23,x.y 24,x.y 25,x.y 26,x.y 27,x.y 28,x.y 29,x.y 30,x.y 31,x.y 32,x.y 33,x.y 34,x.y 35,x.y 36,x.y 37,x.y 38,x.y 39,x.y 40,x.y 41,x.y 42,x.y 43,x.y 44,x.y 45,x.y 46,x.y 47,x.y 48,x.y 49,x.y 50,x.y 51,x.y 52,x.y 53,x.y 54,x.y 55,x.y 56,x.y 57,x.y 58,x.y 59,x.y 60,x.y 61,x.y 62,x.y 63,x.y 64,x.y 65,x.y 66,x.y 67,x.y 68,x.y 69,x.y 70,x.y 71,x.y 72,x.y 73,x.y 74,x.y 75,x.y 76,x.y 77,x.y 78,x.y 79,x.y 80,x.y 81,x.y 82,x.y 83,x.y 84,x.y 85,x.y 86,x.y 87,x.y 88,x.y 89,x.y 90,x.y 91,x.y 92,x.y 93,x.y 94,x.y 95,x.y 96,x.y 97,x.y 98,x.y 99,x.y 100,x.y 101,x.y 102,x.y 103,x.y 104,x.y 105,x.y 106,x.y 107,x.y 108,x.y 109,x.y 110,x.y 111,x.y 112,x.y 113,x.y 114,x.y 115,x.y 116,x.y 117,x.y 118,x.y 119,x.y 120,x.y 121,x.y 122,x.y 123,x.y 124,x.y 125,x.y 126,x.y 127,x.y 128,x.y 129,x.y 130,x.y 131,x.y 132,x.y 133,x.y 134,x.y 135,x.y 136,x.y 137,x.y 138,x.y 139,x.y 140,x.y 141,x.y 142,x.y 143,x.y 144,x.y 145,x.y 146,x.y 147,x.y 148]
def rnC (h:Nat)(g:Rg)(A:Option Addr)(n cap:Nat)(S:Value)(v u:Int)(x:js):List Value:=[x.y 0,.int .i64 2,.slice A n cap,.pointer (some ⟨h,0,none⟩),x.y 4,x.y 5,.pointer (some ⟨h+1,0,none⟩),.pointer (some ⟨h+2,0,none⟩),x.y 8,.int .u16 g.pc,.int .u16 g.sp,x.y 11,S,.int .u8 v,.int .u16 u,x.y 15,x.y 16,x.y 17,x.y 18,x.y 19,x.y 20,x.y 21,x.y 22,x.y 23,x.y 24,x.y 25,x.y 26,x.y 27,x.y 28,x.y 29,x.y 30,x.y 31,x.y 32,x.y 33,x.y 34,x.y 35,x.y 36,x.y 37,x.y 38,x.y 39,x.y 40,x.y 41,x.y 42,x.y 43,x.y 44,x.y 45,x.y 46,x.y 47,x.y 48,x.y 49,x.y 50,x.y 51,x.y 52,x.y 53,x.y 54,x.y 55,x.y 56,x.y 57,x.y 58,x.y 59,x.y 60,x.y 61,x.y 62,x.y 63,x.y 64,x.y 65,x.y 66,x.y 67,x.y 68,x.y 69,x.y 70,x.y 71,x.y 72,x.y 73,x.y 74,x.y 75,x.y 76,x.y 77,x.y 78,x.y 79,x.y 80,x.y 81,x.y 82,x.y 83,x.y 84,x.y 85,x.y 86,x.y 87,x.y 88,x.y 89,x.y 90,x.y 91,x.y 92,x.y 93,x.y 94,x.y 95,x.y 96,x.y 97,x.y 98,x.y 99,x.y 100,x.y 101,x.y 102,x.y 103,x.y 104,x.y 105,x.y 106,x.y 107,x.y 108,x.y 109,x.y 110,x.y 111,x.y 112,x.y 113,x.y 114,x.y 115,x.y 116,x.y 117,x.y 118,x.y 119,x.y 120,x.y 121,x.y 122,x.y 123,x.y 124,x.y 125,x.y 126,x.y 127,x.y 128,x.y 129,x.y 130,x.y 131,x.y 132,x.y 133,x.y 134,x.y 135,x.y 136,x.y 137,x.y 138,x.y 139,x.y 140,x.y 141,x.y 142,x.y 143,x.y 144,x.y 145,x.y 146,x.y 147,x.y 148]
def QFq (g:Rg):List Cy:=[⟨6,g.pc,0,6⟩]++Q7 g.sp g.pc
theorem QNC (g:Rg)(n:Nat):Qj [] g n=QJP g:=by unfold Qj;rw[if_neg (by simp)]
theorem QQe {g:Rg}(h:g.mode=1)(xs:List Int):Jr g 2 xs=Qj ([⟨6,g.pc,0,6⟩]++Q7 g.sp g.pc) (X4 (jf g false false) 56) xs.length:=by
 cases xs with
 | nil=>rfl
 | cons v ys =>
   refine Eq.trans ?_ (QAc _ _ _ _).symm
   show QCG g v ys=_
   unfold QCG
   rw[if_neg (by omega),if_pos h]
   rfl
theorem QNF {g:Rg}(h:g.mode≠0)(h1:g.mode≠1)(xs:List Int):Jr g 2 xs=Qj ([⟨6,g.pc,0,6⟩]++Q7 g.sp g.pc++Z1 (256*g.i+xs.getD 0 0)) (X4 (jf g false false) (256*xs.getD 5 0+xs.getD 4 0)) xs.length:=by
 cases xs with
 | nil=>rfl
 | cons v ys =>
   refine Eq.trans ?_ (QAc _ _ _ _).symm
   show QCG g v ys=_
   unfold QCG
   rw[if_neg h,if_neg h1]
   rfl
theorem QJG (g:Rg)(hg:RgB g)(A:Option Addr)(cap:Nat)(xs:List Int)(hc:xs.length≤cap)(h8:Bytes8 xs)(hl:xs.length≤1000000000)(w:World)(hin:BytesIn w w.heap.size A xs):Calls Tryz.prog 38 #[JH g,.int .i64 2,.slice A xs.length cap] w fun e w'=>e=.returned (Jr g 2 xs).v∧Below w.heap.size w w':=by
 have KA:∀ (k:Nat) (W:World),Below w.heap.size w W→Calls Tryz.prog 39 #[.slice A xs.length cap,.int .i64 (k:Int)] W fun e w'=>e=.returned (.int .u8 (xs.getD k 0))∧Below W.heap.size W w':=fun k W hW=>QEH A cap xs k W ((hin.below hW).more hW.size)
 obtain⟨T,hT⟩:∃ T,T=Jr g 2 xs:=⟨_,rfl⟩
 rw[←hT]
 go_enter Tryz.func38,Tryz.ntmps38
 obtain⟨v,hv⟩:∃ v,v=xs.getD 0 0:=⟨_,rfl⟩
 have bv:B8 v:=by rw[hv];exact zn h8 0
 have K0:=KA 0
 rw[←hv] at K0
 refine JB<|qQ [] (Many.begin w) fun w1 k1=>coS<|qQ [] k1 fun w2 k2=>coF<|JC<|eoT<|qQ [0] k2 fun w3 k3=>qQ [0] k3 fun w4 k4=>coR<|qR 1 [0] k4 fun w5 k5=>qC (QCm g 1 hg.r w5) k5 fun w6 k6=>qE [0] k6 fun w7 k7=>qQ [0] k7 fun w8 k8=>qQ [0] k8 fun w9 k9=>qQ [0] k9 fun wa ka=>coS<|qQ [] ka fun wb kb=>coF<|JC<|eoT<|qQ [0] kb fun wb kb=>coR<|qR 2 [] kb fun wc kc=>wM (jd (QJg ⟨6,g.pc,0,6⟩ wc))<|?_
 have kd:=kc.alloc 29 (Qi [⟨6,g.pc,0,6⟩]).toArray
 obtain⟨b,hb⟩:∃ b,b=wc.heap.size:=⟨_,rfl⟩
 have h2b:w.heap.size+2 < b:=by rw[hb];exact kc.lt 2 ⟨w.heap.size+2,24,(JJ Ja).toList.map some⟩ (by kernel_rfl)
 rw[←hb] at kd ⊢
 clear kc kb ka k9 k8 k7 k6 k5 k4 k3 k2 k1 hb
 refine qE [] kd fun we ke=>coR<|qR 1 [] ke fun wf kf=>qC (K0 wf kf.touch.below) kf fun wg kg=>qE [] kg fun wh kh=>QCE (rnB w.heap.size g A xs.length cap (.slice (some ⟨b,0,none⟩) 1 1) v) fun x=>?_
 have kh:=kh.take 4 [⟨w.heap.size,24,(JJ (jf g false false)).toList.map some⟩,⟨w.heap.size+1,29,(cyC JL).toList.map some⟩,⟨w.heap.size+2,24,(JJ Ja).toList.map some⟩,⟨b,29,(Qi [⟨6,g.pc,0,6⟩]).map some⟩]
 refine coS<|qQ [0] kh fun wi ki=>coI (g.mode==0) (fun hm=>?_) fun hm=>JC<|eoT<|coR<|qR 3 [] ki fun wj kj=>?_
 · have hm:g.mode=0:=by simpa using hm
   obtain⟨U,hU⟩:∃ U,U=Qj [⟨6,g.pc,0,6⟩] (jf g false false) xs.length:=⟨_,rfl⟩
   have KT:=fun p c W h=>QA9 p c 1 [⟨6,g.pc,0,6⟩] rfl (jf g false false) A cap xs.length W h
   rw[←hU] at KT
   have HT:(xs=[]∨Z2 v=true)→T=U:=fun h=>by
    rw[hT,hU]
    cases xs with
    | nil=>rfl
    | cons x ys =>
      have e:x=v:=hv.symm
      subst e
      rw[QHu hm,if_pos (h.resolve_left (by simp))]
      exact ((QAc _ _ _ _).trans (QNC _ _)).symm
   refine coS<|coR<|?_
   cases xs with
   | nil=>exact qE [] ki fun wj kj=>coT<|coR<|qR 3 [0] kj fun wk kk=>qC (KT ⟨b,0,none⟩ 1 wk (QAl (b:=b) (t:=29) (kk.row 3 (Qi [⟨6,g.pc,0,6⟩]) (by kernel_rfl)))) kk fun wl kl=>qE [1,2] kl fun wm km=>JF<|Jp<|Jp<|Zz 1 2 U.c U.g U.b (w.heap.size+1) (w.heap.size+2) km ⟨by rw[HT (.inl rfl)];rfl,km.touch.below⟩
   | cons x ys =>
     have e:x=v:=hv.symm
     subst e
     have hq:Z2 x=(x==203||(x==221||(x==237||x==253))):=rfl
     have hz:((((ys.length+1:Nat):Int))==0)=false:=by simp;omega
     refine qR 3 [] ki fun wj kj=>tell 67 hz<|qR 3 [] kj fun wj kj=>?_
     by_cases h1:x=203
     · refine tell 70 (show (x==203)=true by simp[h1])<|qE [] kj fun wj kj=>coT<|coR<|qR 3 [0] kj fun wk kk=>qC (KT ⟨b,0,none⟩ 1 wk (QAl (b:=b) (t:=29) (kk.row 3 (Qi [⟨6,g.pc,0,6⟩]) (by kernel_rfl)))) kk fun wl kl=>qE [1,2] kl fun wm km=>JF<|Jp<|Jp<|Zz 1 2 U.c U.g U.b (w.heap.size+1) (w.heap.size+2) km ⟨by rw[HT (.inr (by rw[h1];rfl))];rfl,km.touch.below⟩
     refine tell 70 (show (x==203)=false by simp[h1])<|qR 4 [] kj fun wj kj=>?_
     by_cases h2:x=221
     · refine tell 74 (show (x==221)=true by simp[h2])<|qE [] kj fun wj kj=>coT<|coR<|qR 3 [0] kj fun wk kk=>qC (KT ⟨b,0,none⟩ 1 wk (QAl (b:=b) (t:=29) (kk.row 3 (Qi [⟨6,g.pc,0,6⟩]) (by kernel_rfl)))) kk fun wl kl=>qE [1,2] kl fun wm km=>JF<|Jp<|Jp<|Zz 1 2 U.c U.g U.b (w.heap.size+1) (w.heap.size+2) km ⟨by rw[HT (.inr (by rw[h2];rfl))];rfl,km.touch.below⟩
     refine tell 74 (show (x==221)=false by simp[h2])<|qR 4 [] kj fun wj kj=>?_
     by_cases h3:x=237
     · refine tell 78 (show (x==237)=true by simp[h3])<|qE [] kj fun wj kj=>coT<|coR<|qR 3 [0] kj fun wk kk=>qC (KT ⟨b,0,none⟩ 1 wk (QAl (b:=b) (t:=29) (kk.row 3 (Qi [⟨6,g.pc,0,6⟩]) (by kernel_rfl)))) kk fun wl kl=>qE [1,2] kl fun wm km=>JF<|Jp<|Jp<|Zz 1 2 U.c U.g U.b (w.heap.size+1) (w.heap.size+2) km ⟨by rw[HT (.inr (by rw[h3];rfl))];rfl,km.touch.below⟩
     refine tell 78 (show (x==237)=false by simp[h3])<|qR 4 [] kj fun wj kj=>?_
     by_cases h4:x=253
     · refine tell 82 (show (x==253)=true by simp[h4])<|qE [] kj fun wj kj=>coT<|coR<|qR 3 [0] kj fun wk kk=>qC (KT ⟨b,0,none⟩ 1 wk (QAl (b:=b) (t:=29) (kk.row 3 (Qi [⟨6,g.pc,0,6⟩]) (by kernel_rfl)))) kk fun wl kl=>qE [1,2] kl fun wm km=>JF<|Jp<|Jp<|Zz 1 2 U.c U.g U.b (w.heap.size+1) (w.heap.size+2) km ⟨by rw[HT (.inr (by rw[h4];rfl))];rfl,km.touch.below⟩
     have hnp:Z2 x=false:=by rw[hq];simp[h1,h2,h3,h4]
     obtain⟨X,hX⟩:∃ X,X=ofX (Xx (jf g false false) x ys):=⟨_,rfl⟩
     have hB:RgB (jf g false false):=hg.beg false false
     have hcy:ys.length+1≤cap:=hc
     have hly:ys.length+1≤1000000000:=hl
     have KX:∀ W,Below w.heap.size w W→Calls Tryz.prog 52 #[JH (jf g false false),.int .u8 x,.slice (if cap=1 then A else A.map (·.add 1)) ys.length (cap-1)] W fun e w'=>e=.returned X.v∧Below W.heap.size W w':=fun W hW=>by
      have:=QJi (jf g false false) hB x bv (if cap=1 then A else A.map (·.add 1)) (cap-1) ys (by omega) h8.tail (by omega) W ((((hin.drop (k:=1) (by simp) hc).below hW).more hW.size))
      rw[←QJ1 hB bv h8.tail,XU] at this
      rw[hX]
      exact this
     refine tell 82 (show (x==253)=false by simp[h4])<|qE [] kj fun wj kj=>coF<|JC<|eoT<|qP 8 kj fun wk kk=>qD 0 [0,1,2] kk<|qT 3 kk (fun w' _=>QOl (QLA A (x :: ys).length cap (by simp) hc _))<|qDc 4 (KX wk kk.touch.below) kk fun wl kl=>qM [5,6,7] kl<|poE<|qE [1,2] kl fun wm km=>JF<|Jp<|Zz 1 2 X.c X.g X.b (w.heap.size+1) (w.heap.size+2) km ⟨?_,km.touch.below⟩
     have e:T=X:=by rw[hT,hX,QHu hm,if_neg (by rw[hnp];simp)]
     rw[e]
     rfl
 · have hm:g.mode≠0:=by simpa using hm
   have rj:=kj.row 3 (b:=b) (t:=29) (Qi [⟨6,g.pc,0,6⟩]) (by kernel_rfl)
   refine kX (QDQ b _ ⟨6,g.pc,0,6⟩ g.sp g.pc hg.pc wj (Nat.le_of_lt rj.lt) (QFW 1 rj (Nat.le_refl b) rfl (by omega))) ?_
   rintro e wk ⟨u,rfl,own,hB⟩
   have kk:=(kj.take 3 [⟨w.heap.size,24,(JJ (jf g false false)).toList.map some⟩,⟨w.heap.size+1,29,(cyC JL).toList.map some⟩,⟨w.heap.size+2,24,(JJ Ja).toList.map some⟩]).belowB hB (QBk (by omega) (by omega) (by omega)) (by omega)
   rcases own.2 with ⟨-,e0⟩|⟨g',c',cur,rfl,hbg,hh,hle,hmx,hcs,htk⟩
   · cases e0
   have kl:=kk.add (b:=g') (t:=29) (cells:=cur) hh (by omega) (q5 (by omega) (by omega) (by omega))
   have hlen:=own.1
   clear kk rj kj ki kh kg kf ke kd own hB hh
   refine⟨_,rfl,qE [] kl fun wm km=>QCE (rnB w.heap.size g A xs.length cap (.slice (some ⟨g',0,none⟩) 4 c') v) fun x=>qQ [0] km fun wn kn=>coS<|qQ [0] kn fun wo ko=>coI (g.mode==1) (fun h1=>?_) fun h1=>JC<|eoT<|coR<|qR 3 [0] ko fun wp kp=>qCe (QV g.i v hg.i.1 hg.i.2 bv.1 bv.2 wp)<|qE [] kp fun wq kq=>QCE (rnC w.heap.size g A xs.length cap (.slice (some ⟨g',0,none⟩) 4 c') v (256*g.i+v)) fun x=>?_⟩
   · have KT:=fun p c W h=>QA9 p c 4 ([⟨6,g.pc,0,6⟩]++Q7 g.sp g.pc) rfl (X4 (jf g false false) 56) A cap xs.length W h
     rw[←QQe (by simpa using h1),←hT] at KT
     refine qQ [0] ko fun wi ki=>qQ [0] ki fun wk kk=>coR<|qR 3 [0] kk fun wl kl=>qC (KT ⟨g',0,none⟩ c' wl (QDo _ (kl.row 3 (b:=g') (t:=29) cur.toList (by kernel_rfl)) htk)) kl fun wm km=>qE [1,2] km fun wn kn=>JF<|Jp<|Zz 1 2 T.c T.g T.b (w.heap.size+1) (w.heap.size+2) kn ⟨rfl,kn.touch.below⟩
   have h1:g.mode≠1:=by simpa using h1
   have KT:∀ (p:Addr) (c:Nat) (W:World),CysIn W W.heap.size (some p) (QFq g++Z1 (256*g.i+v))→Calls Tryz.prog 51 #[.slice (some p) 6 c,JH (X4 (jf g false false) (256*xs.getD 5 0+xs.getD 4 0)),.slice A xs.length cap] W fun e w'=>e=.returned T.v∧Below W.heap.size W w':=by
    rw[hT,QNF hm h1,←hv]
    exact fun p c W h=>QA9 p c 6 (QFq g++Z1 (256*g.i+v)) rfl _ A cap xs.length W h
   have htk:cur.toList.take (4*4)=Qi (QFq g):=htk
   have hlen:(Qi (QFq g)).length=4*4:=hlen
   have kq:=kq.take 4 [⟨w.heap.size,24,(JJ { jf g false false with sp:=(g.sp-2)%65536 }).toList.map some⟩,⟨w.heap.size+1,29,(cyC JL).toList.map some⟩,⟨w.heap.size+2,24,(JJ Ja).toList.map some⟩,⟨g',29,cur.toList.map some⟩]
   refine coR<|qR 3 [] kq fun wr kr=>?_
   have rr:Row wr g' 29 cur:=by simpa using kr.row 3 (b:=g') (t:=29) cur.toList (by kernel_rfl)
   have own4:wr.ownsRow b 29 4 (.slice (some ⟨g',0,none⟩) 4 c') 4 (Qi (QFq g)):=⟨hlen,.inr ⟨g',c',cur,rfl,hbg,rr,hle,hmx,hcs,htk⟩⟩
   have bs:b≤wr.heap.size:=Nat.le_trans hbg (Nat.le_of_lt rr.lt)
   refine wM (jd (QJg ⟨2,256*g.i+v,0,3⟩ wr))<|qAy (.tmp 122) (.tmp 125) b _ (.slice (some ⟨g',0,none⟩) 4 c') 4 (QFq g) ⟨wr.heap.size,0,none⟩ 1 1 [⟨2,256*g.i+v,0,3⟩] (Nat.le_trans bs (by simp)) (own4.alloc _) (QAf wr [⟨2,256*g.i+v,0,3⟩] _) rfl (by omega) fun u5 ws own5 g5=>?_
   have ks:=(kr.take 3 [⟨w.heap.size,24,(JJ { jf g false false with sp:=(g.sp-2)%65536 }).toList.map some⟩,⟨w.heap.size+1,29,(cyC JL).toList.map some⟩,⟨w.heap.size+2,24,(JJ Ja).toList.map some⟩]).belowB (n:=b) (zH ((jq (Below.refl wr.heap.size wr) (.cells (Qi [⟨2,256*g.i+v,0,3⟩]).toArray 29)).mono bs) g5 (own4.alloc _) (Nat.le_refl _) (Nat.le_trans bs (by simp))) (QBk (by omega) (by omega) (by omega)) (by omega)
   have hlen5:=own5.1
   rcases own5.2 with ⟨-,e0⟩|⟨g6,c6,cur6,rfl,hbg6,hh6,hle6,hmx6,hcs6,htk6⟩
   · cases e0
   have kt:=ks.add (b:=g6) (t:=29) (cells:=cur6) hh6 (by omega) (q5 (by omega) (by omega) (by omega))
   clear ks kr kq kp ko kn km kl own4 own5 g5 rr hh6 bs
   refine qE [] kt fun wu ku=>QCE (rnC w.heap.size g A xs.length cap (.slice (some ⟨g6,0,none⟩) 5 c6) v (256*g.i+v)) fun x=>coR<|qR 4 [] ku fun wv kv=>?_
   have rv:Row wv g6 29 cur6:=by simpa using kv.row 3 (b:=g6) (t:=29) cur6.toList (by kernel_rfl)
   have own6:wv.ownsRow b 29 4 (.slice (some ⟨g6,0,none⟩) 5 c6) 5 (Qi ((QFq g)++[⟨2,256*g.i+v,0,3⟩])):=⟨hlen5,.inr ⟨g6,c6,cur6,rfl,hbg6,rv,hle6,hmx6,hcs6,htk6⟩⟩
   have bs:b≤wv.heap.size:=Nat.le_trans hbg6 (Nat.le_of_lt rv.lt)
   refine wM (jd (QJg ⟨2,(256*g.i+v+1)%65536,0,3⟩ wv))<|qAy (.tmp 127) (.tmp 131) b _ (.slice (some ⟨g6,0,none⟩) 5 c6) 5 ((QFq g)++[⟨2,256*g.i+v,0,3⟩]) ⟨wv.heap.size,0,none⟩ 1 1 [⟨2,(256*g.i+v+1)%65536,0,3⟩] (Nat.le_trans bs (by simp)) (own6.alloc _) (QAf wv [⟨2,(256*g.i+v+1)%65536,0,3⟩] _) rfl (by omega) fun u7 ww own7 g7=>?_
   have kw:=(kv.take 3 [⟨w.heap.size,24,(JJ { jf g false false with sp:=(g.sp-2)%65536 }).toList.map some⟩,⟨w.heap.size+1,29,(cyC JL).toList.map some⟩,⟨w.heap.size+2,24,(JJ Ja).toList.map some⟩]).belowB (n:=b) (zH ((jq (Below.refl wv.heap.size wv) (.cells (Qi [⟨2,(256*g.i+v+1)%65536,0,3⟩]).toArray 29)).mono bs) g7 (own6.alloc _) (Nat.le_refl _) (Nat.le_trans bs (by simp))) (QBk (by omega) (by omega) (by omega)) (by omega)
   have e7:(QFq g)++[⟨2,256*g.i+v,0,3⟩]++[⟨2,(256*g.i+v+1)%65536,0,3⟩]=(QFq g)++Z1 (256*g.i+v):=by rw[List.append_assoc];rfl
   rw[e7] at own7
   rcases own7.2 with ⟨-,e0⟩|⟨g8,c8,cur8,rfl,hbg8,hh8,hle8,hmx8,hcs8,htk8⟩
   · cases e0
   have kx:=kw.add (b:=g8) (t:=29) (cells:=cur8) hh8 (by omega) (q5 (by omega) (by omega) (by omega))
   clear kw kv ku kt own6 own7 g7 rv hh8 bs
   have b5:=zn h8 5
   have b4:=zn h8 4
   have K5:=KA 5
   have K4:=KA 4
   obtain⟨a5,ha5⟩:∃ a,a=xs.getD 5 0:=⟨_,rfl⟩
   obtain⟨a4,ha4⟩:∃ a,a=xs.getD 4 0:=⟨_,rfl⟩
   rw[←ha5] at b5 K5 KT
   rw[←ha4] at b4 K4 KT
   refine qE [] kx fun wy ky=>QCE (rnC w.heap.size g A xs.length cap (.slice (some ⟨g8,0,none⟩) 6 c8) v (256*g.i+v)) fun x=>coR<|qR 1 [] ky fun wz kz=>qC (K5 wz kz.touch.below) kz fun wA kA=>qR 1 [] kA fun wB kB=>qC (K4 wB kB.touch.below) kB fun wC kC=>qCe (QV a5 a4 b5.1 b5.2 b4.1 b4.2 wC)<|qE [0] kC fun wD kD=>qQ [0,0] kD fun wE kE=>coR<|qR 3 [0] kE fun wF kF=>qC (KT ⟨g8,0,none⟩ c8 wF (QDo _ (kF.row 3 (b:=g8) (t:=29) cur8.toList (by kernel_rfl)) htk8)) kF fun wG kG=>qE [1,2] kG fun wH kH=>JF<|Zz 1 2 T.c T.g T.b (w.heap.size+1) (w.heap.size+2) kH ⟨rfl,kH.touch.below⟩
theorem QFv (g:Rg)(hg:RgB g)(which:Int)(h1:which≠1)(h2:which≠2)(A:Option Addr)(cap:Nat)(xs:List Int)(hc:xs.length≤cap)(h8:Bytes8 xs)(hl:xs.length≤1000000000)(w:World)(hin:BytesIn w w.heap.size A xs):Calls Tryz.prog 38 #[JH g,.int .i64 which,.slice A xs.length cap] w fun e w'=>e=.returned (Jr g which xs).v∧Below w.heap.size w w':=by
 obtain⟨T,hT⟩:∃ T,T=Jr g which xs:=⟨_,rfl⟩
 rw[←hT]
 have KX:∀ W,Below w.heap.size w W→Calls Tryz.prog 48 #[JH g,.slice A xs.length cap] W fun e w'=>e=.returned T.v∧Below W.heap.size W w':=fun W hW=>by
  have:=QJ2 g hg A cap xs hc h8 (by omega) W ((hin.below hW).more hW.size)
  rw[←QLi hg h8,XU] at this
  have e:T=ofX (Qu g xs):=by rw[hT];unfold Jr;rw[if_neg h1,if_neg h2]
  rw[e]
  exact this
 go_enter Tryz.func38,Tryz.ntmps38
 refine JB<|qQ [] (Many.begin w) fun w1 k1=>coS<|coR<|qR 2 [] k1 fun w2 k2=>tell 16 (show (which != 1)=true by simp[h1])<|qR 3 [] k2 fun w2 k2=>tell 19 (show (which != 2)=true by simp[h2])<|qE [] k2 fun w3 k3=>coT<|coR<|qR 2 [0] k3 fun w4 k4=>qC (KX w4 k4.touch.below) k4 fun w5 k5=>qE [1,2] k5 fun w6 k6=>JF<|Jp<|Zz 1 2 T.c T.g T.b (w.heap.size+1) (w.heap.size+2) k6 ⟨rfl,k6.touch.below⟩
theorem QAX (g:Rg)(hg:RgB g)(which:Int)(A:Option Addr)(cap:Nat)(xs:List Int)(hc:xs.length≤cap)(h8:Bytes8 xs)(hl:xs.length≤1000000000)(w:World)(hin:BytesIn w w.heap.size A xs):Calls Tryz.prog 38 #[JH g,.int .i64 which,.slice A xs.length cap] w fun e w'=>e=.returned (Jr g which xs).v∧Below w.heap.size w w':=by
 by_cases h1:which=1
 · subst h1;exact QJK g hg A cap xs w
 by_cases h2:which=2
 · subst h2;exact QJG g hg A cap xs hc h8 hl w hin
 exact QFv g hg which h1 h2 A cap xs hc h8 hl w hin
theorem QGo (g:Rg)(w:World):Calls Tryz.prog 36 #[JH g] w fun e w'=>e=.returned (JH (jt g))∧Below w.heap.size w w':=by
 go_enter Tryz.func36,Tryz.ntmps36
 exact JB<|qQ [] (Many.begin w) fun w1 k=>qQ [0] k fun w1 k=>qQ [0] k fun w1 k=>qQ [0] k fun w1 k=>qQ [0] k fun w1 k=>qQ [0] k fun w1 k=>qQ [0] k fun w1 k=>qQ [0] k fun w1 k=>qQ [0] k fun w1 k=>qQ [0,1] k fun w5 k5=>JF<|Zk (k5.row 1 (b:=w.heap.size+1) (t:=24) (JJ (jt g)).toList (by kernel_rfl)) ⟨rfl,k5.touch.below⟩
theorem QIB (g:Rg)(hg:RgB g)(wh:Int)(w:World):Calls Tryz.prog 38 #[JH g,.int .i64 wh,.slice none 0 0] w fun e w'=>e=.returned (Jr g wh []).v∧Below w.heap.size w w' :=
 QAX g hg wh none 0 [] (Nat.le_refl _) QHi (by simp) w (BytesIn.nil _ _ _)
theorem QBx (c:CoT)(A:Option Addr)(n cap:Nat)(g:Rg)(hg:RgB g)(wh:Int)(w:World):Calls Tryz.prog 26 #[coV c (.slice A n cap),JH g,.int .i64 wh] w fun e w'=>e=.returned (coV (c.start g wh) (.slice none 0 0))∧Below w.heap.size w w':=by
 have KN:=fun W=>QIB g hg wh W
 obtain⟨T,hT⟩:∃ T,T=Jr g wh []:=⟨_,rfl⟩
 rw[←hT] at KN
 have e:c.start g wh={ c with r:=g,wh:=wh,got:=[],a:=at0 T.c }:=by rw[hT];rfl
 rw[e]
 go_enter Tryz.func26,Tryz.ntmps26
 exact JB<|qQ [] (Many.begin w) fun w1 k1=>coR<|qR 2 [1] k1 fun w2 k2=>qC (KN w2) k2 fun w3 k3=>qE [3,4] k3 fun w4 k=>qQ [1,0] k fun w4 k=>qQ [0] k fun w4 k=>qQ [0] k fun w4 k=>qQ [3,0] k fun w4 k=>qQ [0,2] k fun w8 k8=>JF<|Zk (k8.row 2 (b:=w.heap.size+2) (t:=37) (coC { c with r:=g,wh:=wh,got:=[],a:=at0 T.c } (.slice none 0 0)).toList (by kernel_rfl)) ⟨rfl,k8.touch.below⟩
theorem QE1 (g:Rg)(hg:RgB g)(w:World):Calls Tryz.prog 11 #[JH g] w fun e w'=>e=.returned (coV (QBc g) (.slice none 0 0))∧Below w.heap.size w w':=by
 have KN:=fun W=>QBx zeroCo none 0 0 g hg 0 W
 obtain⟨d,hd⟩:∃ d,d=QBc g:=⟨_,rfl⟩
 rw[show zeroCo.start g 0=d from hd.symm] at KN
 rw[←hd]
 go_enter Tryz.func11,Tryz.ntmps11
 exact JB<|qQ [] (Many.begin w) fun w1 k1=>coR<|qR 2 [0] k1 fun w2 k2=>qC (KN w2) k2 fun w3 k3=>qE [1] k3 fun w4 k4=>JF<|Zk (k4.row 1 (b:=w.heap.size+1) (t:=37) (coC d (.slice none 0 0)).toList (by kernel_rfl)) ⟨rfl,k4.touch.below⟩
theorem QNJ {W:World} {b bs:Nat} {e:TypeId} {s:Nat} {v:Value} {n:Nat} {xs:List Value}(h:W.ownsRow bs e s v n xs)(k:b≤bs):W.ownsRow b e s v n xs :=
 ⟨h.1,h.2.imp id fun⟨g,c,cur,e1,hb,r⟩=>⟨g,c,cur,e1,Nat.le_trans k hb,r⟩⟩
def rdnB (h:Nat)(x:js):List Value:=[x.y 0,x.y 1,pT h 0,pT (h+1) 0,pT (h+2) 0,x.y 5,x.y 6,x.y 7,x.y 8,x.y 9,x.y 10,x.y 11,x.y 12,x.y 13,x.y 14,x.y 15,x.y 16,x.y 17,x.y 18,x.y 19,x.y 20,x.y 21,x.y 22,x.y 23,x.y 24,x.y 25,x.y 26,x.y 27,x.y 28,x.y 29,x.y 30,x.y 31,x.y 32,x.y 33,x.y 34,x.y 35,x.y 36,x.y 37,x.y 38,x.y 39,x.y 40,x.y 41,x.y 42,x.y 43,x.y 44,x.y 45,x.y 46,x.y 47,x.y 48,x.y 49,x.y 50,x.y 51,x.y 52,x.y 53,x.y 54,x.y 55,x.y 56,x.y 57,x.y 58,x.y 59]
theorem QHt (hA:jJ)(c:CoT)(hc:OkC c)(ho:c.off=false)(l:LnT)(v:Value)(hlen:c.got.length≤100000)(w:World)(hin:GotIn w w.heap.size v c.got) :
 Calls Tryz.prog 37 #[coV c v,lnV l] w fun e w'=>∃ v',e=.returned (coV (c.fin l) v')∧w'.ownsRow w.heap.size 5 1 v' (c.fin l).got.length (bvs (c.fin l).got)∧Below w.heap.size w w':=by
 obtain⟨A,cap,rfl,hcap,hby,hnil⟩:=hin
 obtain⟨ys,hys⟩:∃ ys,ys=c.got++[c.b]:=⟨_,rfl⟩
 have hyl:ys.length=c.got.length+1:=by rw[hys];simp
 have hy8:Bytes8 ys:=by rw[hys];exact QGh hc.got hc.b
 obtain⟨T,hT⟩:∃ T,T=Jr c.r c.wh ys:=⟨_,rfl⟩
 have hTg:T.b=true→RgB T.g:=by rw[hT];exact (hA c.r c.wh ys hc.r hy8).1
 obtain⟨D,hD⟩:∃ D,D=c.fin1 l.irq:=⟨_,rfl⟩
 have eD:D=if T.b then ({ c with got:=ys,b:=0 }:CoT).choose T.g l.irq else { c with got:=ys,b:=0,a:=at0 T.c }:=by rw[hD,hT,hys];rfl
 have eF:c.fin l={ D with off:=l.bus&&D.leaves }:=by rw[hD];rfl
 have hDo:D.off=false:=by
  rw[eD]
  split
  · exact ho
  · exact ho
 rw[eF]
 go_enter Tryz.func37,Tryz.ntmps37
 refine JB<|qQ [] (Many.begin w) fun w1 k1=>qQ [] k1 fun w2 k2=>coR<|qR 3 [0] k2 fun w3 k3=>qA (.tmp 10) (.tmp 12) w3 w3.heap.size w3.heap.size (.slice none 0 0) 0 [] A cap c.got (Below.refl ..) (Nat.le_refl _) (Nat.le_refl _) (World.ownsRow_nil ..) ((hby.below k3.touch.below).more k3.touch.size) hnil (by omega) fun v4 w4 own4 hB4 hs4=>?_
 rw[Nat.zero_add,List.nil_append] at own4
 obtain⟨A4,cap4,rfl,-,-,-⟩:=Zx own4
 have hlt2:w.heap.size+2 < w3.heap.size:=k3.lt 2 ⟨w.heap.size+2,37,(coC zeroCo (.slice none 0 0)).toList.map some⟩ (by kernel_rfl)
 have k4:=k3.below hB4
 have low4:Below w.heap.size w w4:=k4.touch.below
 obtain⟨bs,hbs⟩:∃ bs,bs=w3.heap.size:=⟨_,rfl⟩
 rw[←hbs] at own4 hlt2 hs4
 have km4:=Many.three (k4.row 0 (b:=w.heap.size) (t:=37) (coC c (.slice A c.got.length cap)).toList (by kernel_rfl)) (k4.row 1 (b:=w.heap.size+1) (t:=44) (lnC l).toList (by kernel_rfl)) (k4.row 2 (b:=w.heap.size+2) (t:=37) (coC zeroCo (.slice none 0 0)).toList (by kernel_rfl)) (by omega) (by omega) (by omega)
 clear k1 k2 k3 k4 hB4
 refine qE [] km4 fun w5 k5=>coR<|qR 4 [0] k5 fun w6 k6=>?_
 have t6:=Kept.of_touch k6.touch
 have hrow:∀ {W:World} {v:Value} {n:Nat} {xs:List Value},W.ownsRow bs 5 1 v n xs→∀ x,v.ownBlock=some x→¬x∈[w.heap.size,w.heap.size+1,w.heap.size+2]:=fun h x e hx=>by
  have:=h.lt x e
  simp at hx
  omega
 have own6:=Kept.own t6 own4 (hrow own4)
 have rb:=k6.row 3 (b:=w5.heap.size) (t:=5) [.int .u8 c.b] (by kernel_rfl)
 have r0:Row w6 w.heap.size 37 (coC c (.slice A c.got.length cap)):=k6.row 0 (coC c (.slice A c.got.length cap)).toList (by kernel_rfl)
 have r1:Row w6 (w.heap.size+1) 44 (lnC l):=k6.row 1 (lnC l).toList (by kernel_rfl)
 have r2:Row w6 (w.heap.size+2) 37 (coC zeroCo (.slice none 0 0)):=k6.row 2 (coC zeroCo (.slice none 0 0)).toList (by kernel_rfl)
 have low6:Below w.heap.size w w6:=Kept.low low4 t6 low4.size fun x e=>by simp at e;omega
 have s6:=t6.size
 refine qOwn (.tmp 14) (.tmp 17) 26 5 1 1 (.int .u8 0) bs _ c.got.length (bvs c.got) ⟨w5.heap.size,0,none⟩ 1 1 [.int .u8 c.b] (by omega) own6 rfl (fun j u hu=>rb.values j u hu) (fun u hu=>by rw[List.mem_singleton.1 hu];rfl) (by omega) (by omega) fun v7 w7 own7 gr hnew=>?_
 have q7:=Kept.of_grown gr
 have vlt6:=own6.lt
 have low7:Below w.heap.size w w7:=Kept.low low6 q7 low6.size fun x e=>by have:=vlt6 x e;omega
 have e7:bvs c.got++[.int .u8 c.b]=bvs ys:=by rw[hys,←QBT];rfl
 rw[e7,←hyl] at own7
 obtain⟨A',cap',rfl,hcap',-,hn'⟩:=Zx own7
 have km:=Many.three (q7.row r0 fun e=>by have:=vlt6 _ e;omega) (q7.row r1 fun e=>by have:=vlt6 _ e;omega) (q7.row r2 fun e=>by have:=vlt6 _ e;omega) (by omega) (by omega) (by omega)
 clear k5 k6 rb r0 r1 r2 q7 gr hnew km4 own6 own4 low6 low4 t6
 have KN:=fun (W:World) (h:BytesIn W W.heap.size A' ys)=>QAX c.r hc.r c.wh A' cap' ys hcap' hy8 (by omega) W h
 rw[←hT] at KN
 have ownK:∀ {W rs},Many w7 [w.heap.size,w.heap.size+1,w.heap.size+2] rs W→W.ownsRow bs 5 1 (.slice A' ys.length cap') ys.length (bvs ys):=fun k=>Kept.own (Kept.of_touch k.touch) own7 (hrow own7)
 refine qE [] km fun w8 k8=>qQ [0] k8 fun w9 k9=>coR<|qR 5 [0,0] k9 fun wa ka=>qC (KN wa (jP (ownK ka))) ka fun wb kb=>qE [3,4] kb fun wc kc=>?_
 refine QBJ (rdnB w.heap.size) (fun _ W=>∃ A'' cap'',Many w7 [w.heap.size,w.heap.size+1,w.heap.size+2] [⟨w.heap.size,37,(coC D (.slice A'' D.got.length cap'')).toList.map some⟩,⟨w.heap.size+1,44,(lnC l).toList.map some⟩,⟨w.heap.size+2,37,(coC zeroCo (.slice none 0 0)).toList.map some⟩] W∧W.ownsRow bs 5 1 (.slice A'' D.got.length cap'') D.got.length (bvs D.got)) ?_ ?_
 · refine qQ [] kc fun wd kd=>coI T.b (fun hb=>?_) fun hb=>?_
   · rw[hb,if_pos rfl] at eD
     have hgot:D.got=[]:=by rw[eD];rfl
     have KW:=fun W=>QKE T.g c.nmi l.irq W
     obtain⟨q,hq⟩:∃ q,q=ZS T.g c.nmi l.irq:=⟨_,rfl⟩
     rw[←hq] at KW
     have eD2:({ c with got:=ys,b:=0,nmi:=if q=1 then false else c.nmi }:CoT).start T.g q=D:=by rw[eD,hq];rfl
     have KB:=fun W=>QBx { c with got:=ys,b:=0,nmi:=if q=1 then false else c.nmi } A c.got.length cap T.g (hTg hb) q W
     rw[eD2] at KB
     have fin:∀ {W rs},Many w7 [w.heap.size,w.heap.size+1,w.heap.size+2] rs W→rs.take 3=[⟨w.heap.size,37,(coC D (.slice none 0 0)).toList.map some⟩,⟨w.heap.size+1,44,(lnC l).toList.map some⟩,⟨w.heap.size+2,37,(coC zeroCo (.slice none 0 0)).toList.map some⟩]→∃ A'' cap'',Many w7 [w.heap.size,w.heap.size+1,w.heap.size+2] [⟨w.heap.size,37,(coC D (.slice A'' D.got.length cap'')).toList.map some⟩,⟨w.heap.size+1,44,(lnC l).toList.map some⟩,⟨w.heap.size+2,37,(coC zeroCo (.slice none 0 0)).toList.map some⟩] W∧W.ownsRow bs 5 1 (.slice A'' D.got.length cap'') D.got.length (bvs D.got):=fun k e=>⟨none,0,by
      rw[hgot]
      exact⟨k.take 3 _ e,World.ownsRow_nil ..⟩⟩
     refine coR<|qR 5 [4,0,1] kd fun we ke=>qC (KW we) ke fun wf kf=>qE [] kf fun wg kg=>coS<|coR<|qR 2 [] kg fun wh kh=>?_
     by_cases h1:q=1
     · rw[if_pos h1] at KB
       exact tell 38 (show (q==1)=true by simp[h1])<|qE [] kh fun wi ki=>coT<|coZ<|qF [0] ki fun wj kj=>eoT<|coZ<|qR 3 [0,4] kj fun wk kk=>qC (KB wk) kk fun wl kl=>qF [0] kl fun wm km=>XD (fun y=>⟨y⟩) (fin km (by kernel_rfl))
     · rw[if_neg h1] at KB
       exact tell 38 (show (q==1)=false by simp[h1])<|qE [] kh fun wi ki=>coF<|JC<|eoT<|coZ<|qR 3 [0,4] ki fun wk kk=>qC (KB wk) kk fun wl kl=>qF [0] kl fun wm km=>XD (fun y=>⟨y⟩) (fin km (by kernel_rfl))
   · rw[hb,if_neg (by simp)] at eD
     refine qQ [0] kd fun we ke=>coZ<|qF [3,0] ke fun wf kf=>XD (fun y=>⟨y⟩) ⟨A',cap',?_⟩
     rw[eD]
     exact⟨kf.take 3 _,ownK kf⟩
 clear k8 k9 ka kb kc km ownK own7
 rintro ⟨y⟩ wd ⟨A'',cap'',kd,ownd⟩
 have lowd:Below w.heap.size w wd:=Kept.low low7 (Kept.of_touch kd.touch) low7.size fun x e=>by simp at e;omega
 have fin:∀ {W rs},Many wd [w.heap.size,w.heap.size+1,w.heap.size+2] rs W→W.ownsRow w.heap.size 5 1 (.slice A'' D.got.length cap'') D.got.length (bvs D.got)∧Below w.heap.size w W:=fun kk =>
  ⟨QNJ (Kept.own (Kept.of_touch kk.touch) ownd (hrow ownd)) (by omega),Kept.low lowd (Kept.of_touch kk.touch) lowd.size fun x e=>by simp at e;omega⟩
 obtain⟨wait,bus,irq,ln,rs⟩:=l
 have kk:=kd.anewK (Kept.refl (fun _=>False) wd) [w.heap.size,w.heap.size+1,w.heap.size+2] (fun _ _ h=>h)
 have eN:({ D with off:=false }:CoT)=D:=by rw[←hDo]
 have hDl:D.leaves=(D.a.c.kind != 7):=rfl
 refine coS<|coR<|qR 5 [0] kk fun we ke=>?_
 cases hl:(D.a.c.kind != 7) with
 | false =>
   rw[hDl,hl,Bool.and_false,eN]
   exact tell 53 hl<|qE [] ke fun wf kf=>coF<|JC<|eoT<|qQ [0,2] kf fun wg kg=>JF<|Zk (kg.row 2 (b:=w.heap.size+2) (t:=37) (coC D (.slice A'' D.got.length cap'')).toList (by kernel_rfl)) ⟨_,rfl,fin kg⟩
 | true =>
   rw[hDl,hl,Bool.and_true]
   cases bus with
   | false =>
     rw[eN]
     exact tell 53 hl<|qE [1] ke fun wf kf=>coF<|JC<|eoT<|qQ [0,2] kf fun wg kg=>JF<|Zk (kg.row 2 (b:=w.heap.size+2) (t:=37) (coC D (.slice A'' D.got.length cap'')).toList (by kernel_rfl)) ⟨_,rfl,fin kg⟩
   | true=>exact tell 53 hl<|qE [1] ke fun wf kf=>coT<|coZ<|qF [0] kf fun wg kg=>eoT<|qQ [0,2] kg fun wh kh=>JF<|Zk (kh.row 2 (b:=w.heap.size+2) (t:=37) (coC { D with off:=true } (.slice A'' D.got.length cap'')).toList (by kernel_rfl)) ⟨_,rfl,fin kh⟩
def rtkB (h:Nat)(b:Int)(x:js):List Value:=[x.y 0,x.y 1,.int .u8 b,pT h 0,pT (h+1) 0,x.y 5,pT (h+2) 0,x.y 7,x.y 8,x.y 9,x.y 10,x.y 11,x.y 12,x.y 13,x.y 14,x.y 15,x.y 16,x.y 17,x.y 18,x.y 19,x.y 20,x.y 21,x.y 22,x.y 23,x.y 24,x.y 25,x.y 26,x.y 27,x.y 28,x.y 29,x.y 30,x.y 31,x.y 32,x.y 33,x.y 34,x.y 35,x.y 36,x.y 37,x.y 38,x.y 39,x.y 40,x.y 41,x.y 42,x.y 43,x.y 44,x.y 45,x.y 46,x.y 47,x.y 48,x.y 49,x.y 50,x.y 51,x.y 52,x.y 53,x.y 54,x.y 55,x.y 56,x.y 57,x.y 58,x.y 59,x.y 60,x.y 61,x.y 62,x.y 63,x.y 64,x.y 65,x.y 66,x.y 67]
def rtkC (h:Nat)(b:Int)(t:Bool)(x:js):List Value:=[x.y 0,x.y 1,.int .u8 b,pT h 0,pT (h+1) 0,x.y 5,pT (h+2) 0,x.y 7,x.y 8,x.y 9,.bool t,x.y 11,x.y 12,x.y 13,x.y 14,x.y 15,x.y 16,x.y 17,x.y 18,x.y 19,x.y 20,x.y 21,x.y 22,x.y 23,x.y 24,x.y 25,x.y 26,x.y 27,x.y 28,x.y 29,x.y 30,x.y 31,x.y 32,x.y 33,x.y 34,x.y 35,x.y 36,x.y 37,x.y 38,x.y 39,x.y 40,x.y 41,x.y 42,x.y 43,x.y 44,x.y 45,x.y 46,x.y 47,x.y 48,x.y 49,x.y 50,x.y 51,x.y 52,x.y 53,x.y 54,x.y 55,x.y 56,x.y 57,x.y 58,x.y 59,x.y 60,x.y 61,x.y 62,x.y 63,x.y 64,x.y 65,x.y 66,x.y 67]
theorem QAG (hA:jJ)(c:CoT)(hc:OkC c)(l:LnT)(b:Int)(hb8:B8 b)(v:Value)(hlen:c.got.length≤100000)(w:World)(hin:GotIn w w.heap.size v c.got) :
 Calls Tryz.prog 22 #[coV c v,lnV l,.int .u8 b] w fun e w'=>∃ v',e=.returned (coV (Xr c l b) v')∧GotIn w' w'.heap.size v' (Xr c l b).got∧(∀ x,v'.ownBlock=some x→w.heap.size≤x∨v.ownBlock=some x∧(Xr c l b).got=c.got)∧Below w.heap.size w w':=by
 have hin0:=hin
 obtain⟨A,cap,rfl,hcap,hby,hnil⟩:=hin
 obtain⟨D,hD⟩:∃ D,D=Xr c l b:=⟨_,rfl⟩
 rw[←hD]
 go_enter Tryz.func22,Tryz.ntmps22
 refine JB<|qQ [] (Many.begin w) fun w1 k1=>?_
 have QM:∀ {W rs} (d:CoT),Many w [] rs W→d.got=[]→GotIn W W.heap.size (.slice none 0 0) d.got∧(∀ x,(Value.slice none 0 0).ownBlock=some x→w.heap.size≤x∨(Value.slice A c.got.length cap).ownBlock=some x∧d.got=c.got)∧Below w.heap.size w W:=fun d k e=>⟨by rw[e];exact QB1 _ _,fun x e=>(by cases e),k.touch.below⟩
 have outA:∀ {W rs} (d:CoT),Many w [] rs W→d.got=c.got→GotIn W W.heap.size (.slice A c.got.length cap) d.got∧(∀ x,(Value.slice A c.got.length cap).ownBlock=some x→w.heap.size≤x∨(Value.slice A c.got.length cap).ownBlock=some x∧d.got=c.got)∧Below w.heap.size w W:=fun d k e=>⟨by rw[e];exact hin0.on k.touch.below,fun x e'=>.inr ⟨e',e⟩,k.touch.below⟩
 cases hr:l.reset with
 | true =>
   rw[QEb hr] at hD
   obtain⟨F,hF⟩:∃ F,F=QBc (jt c.r):=⟨_,rfl⟩
   have KN:=fun (W:World)=>QE1 (jt c.r) (QG5 hc.r) W
   rw[←hF] at KN hD
   have hg:D.got=[]:=by rw[hD,hF];rfl
   rw[hD] at hg ⊢
   exact coS<|coR<|qR 2 [1] k1 fun w2 k2=>tell 12 hr<|qE [] k2 fun w2 k2=>coT<|coR<|qR 2 [0] k2 fun w3 k3=>qC (QGo c.r w3) k3 fun w4 k4=>qC (KN w4) k4 fun w5 k5=>qE [3] k5 fun w6 k6=>qQ [1,3] k6 fun w7 k7=>qQ [3,2] k7 fun w8 k8=>JF<|Jp<|Zk (k8.row 2 (b:=w.heap.size+2) (t:=37) (coC { F with was:=l.nmi } (.slice none 0 0)).toList (by kernel_rfl)) ⟨.slice none 0 0,rfl,QM _ k8 hg⟩
 | false =>
   refine coS<|coR<|qR 2 [1] k1 fun w2 k2=>tell 12 hr<|qE [] k2 fun w3 k3=>coF<|JC<|eoT<|?_
   obtain⟨F,hF⟩:∃ F,F=c.note l.nmi:=⟨_,rfl⟩
   have hFc:OkC F:=by rw[hF];exact⟨hc.r,hc.got,hc.b⟩
   have hFg:F.got=c.got:=by rw[hF];rfl
   have hFo:F.off=c.off:=by rw[hF];rfl
   have hFa:F.a=c.a:=by rw[hF];rfl
   refine QBJ (rtkB w.heap.size b) (fun _ W=>Many w [] [⟨w.heap.size,37,(coC { c with nmi:=c.nmi||(l.nmi&&!c.was) } (.slice A c.got.length cap)).toList.map some⟩,⟨w.heap.size+1,44,(lnC l).toList.map some⟩,⟨w.heap.size+2,37,(coC zeroCo (.slice none 0 0)).toList.map some⟩] W) ?_ ?_
   · clear hD hF hFc hFg hFo hFa hin0 hby hr QM outA
     obtain⟨r,wh,got,a,by_,nmi,was,off⟩:=c
     obtain⟨wait,bus,irq,ln,rs⟩:=l
     cases ln with
     | false =>
       refine qQ [1] k3 fun w4 k4=>coF<|JC<|XD (fun y=>⟨y⟩) ?_
       cases nmi<;>exact k4.take 3 _
     | true =>
       cases was with
       | true =>
         refine qQ [1,0] k3 fun w4 k4=>coF<|JC<|XD (fun y=>⟨y⟩) ?_
         cases nmi<;>exact k4.take 3 _
       | false =>
         refine qQ [1,0] k3 fun w4 k4=>coT<|coZ<|qF [0] k4 fun w5 k5=>XD (fun y=>⟨y⟩) ?_
         cases nmi<;>exact k5.take 3 _
   clear k1 k2 k3
   rintro ⟨y⟩ w3 k3
   refine qQ [1,0] k3 fun w4 k4=>?_
   have k4:=k4.take 3 [⟨w.heap.size,37,(coC F (.slice A c.got.length cap)).toList.map some⟩,⟨w.heap.size+1,44,(lnC l).toList.map some⟩,⟨w.heap.size+2,37,(coC zeroCo (.slice none 0 0)).toList.map some⟩] (by rw[hF];kernel_rfl)
   cases ho:c.off with
   | true =>
     rw[QBD hr ho,←hF] at hD
     rw[hD]
     exact coS<|coR<|qR 2 [0] k4 fun w5 k5=>tell 33 (hFo.trans ho)<|qE [] k5 fun w5 k5=>coT<|qQ [1,0] k5 fun w6 k6=>qQ [0,2] k6 fun w7 k7=>JF<|Jp<|Zk (k7.row 2 (b:=w.heap.size+2) (t:=37) (coC { F with off:=l.bus } (.slice A c.got.length cap)).toList (by kernel_rfl)) ⟨.slice A c.got.length cap,rfl,outA _ k7 hFg⟩
   | false =>
     obtain⟨T,hT⟩:∃ T,T=QJ F.a l.wait:=⟨_,rfl⟩
     have hT':QJ c.a l.wait=T:=by rw[hT,hFa]
     have KT:=fun W=>QBd F.a l.wait W
     unfold zw at KT
     rw[←hT] at KT
     obtain⟨a,m,t⟩:=T
     dsimp only at KT
     obtain⟨G,hG⟩:∃ G,G=F.pass a m b:=⟨_,rfl⟩
     have hGc:OkC G:=by rw[hG];exact hFc.pass a m hb8
     have hGg:G.got=c.got:=by rw[hG];exact hFg
     have hGo:G.off=false:=by rw[hG];exact hFo.trans ho
     refine coS<|coR<|qR 2 [0] k4 fun w5 k5=>tell 33 (hFo.trans ho)<|qE [] k5 fun w6 k6=>coF<|JC<|eoT<|coR<|qR 4 [0,1] k6 fun w7 k7=>qC (KT w7) k7 fun w8 k8=>qE [3] k8 fun w9 k9=>qQ [3,0] k9 fun wa ka=>?_
     refine QBJ (rtkC w.heap.size b t) (fun _ W=>Many w [] [⟨w.heap.size,37,(coC G (.slice A c.got.length cap)).toList.map some⟩,⟨w.heap.size+1,44,(lnC l).toList.map some⟩,⟨w.heap.size+2,37,(coC zeroCo (.slice none 0 0)).toList.map some⟩] W) ?_ ?_
     · clear k4 k5 k6 k7 k8 k9
       cases m with
       | false=>exact qQ [] ka fun wb kb=>coF<|JC<|XD (fun y=>⟨y⟩) (kb.take 3 _ (by rw[hG];kernel_rfl))
       | true =>
         have eG:G={ F with a:=a,b:=if QAC a.c.kind=true then 0 else b }:=hG
         have eP:QAC a.c.kind=(a.c.kind==3||a.c.kind==5):=rfl
         refine qQ [] ka fun wb kb=>coT<|qQ [0] kb fun wc kc=>coR<|qR 4 [3] kc fun wd kd=>?_
         cases h1:(a.c.kind==3) with
         | true =>
           rw[eP,h1,Bool.true_or,if_pos rfl] at eG
           exact tell 55 h1<|qE [] kd fun we ke=>coT<|coZ<|qF [0] ke fun wf kf=>XD (fun y=>⟨y⟩) (kf.take 3 _ (by rw[eG];kernel_rfl))
         | false =>
           refine tell 55 h1<|qR 5 [3] kd fun we ke=>?_
           cases h2:(a.c.kind==5) with
           | true =>
             rw[eP,h1,h2,Bool.false_or,if_pos rfl] at eG
             exact tell 60 h2<|qE [] ke fun we ke=>coT<|coZ<|qF [0] ke fun wf kf=>XD (fun y=>⟨y⟩) (kf.take 3 _ (by rw[eG];kernel_rfl))
           | false =>
             rw[eP,h1,h2,Bool.false_or,if_neg (by simp)] at eG
             exact tell 60 h2<|qE [] ke fun we ke=>coF<|JC<|XD (fun y=>⟨y⟩) (ke.take 3 _ (by rw[eG];kernel_rfl))
     clear k4 k5 k6 k7 k8 k9 ka
     rintro ⟨y⟩ wb kb
     cases t with
     | false =>
       rw[QB5 hr ho hT' rfl,←hF,←hG] at hD
       rw[hD]
       exact coS<|qQ [] kb fun wc kc=>coF<|JC<|eoT<|qQ [0,2] kc fun wd kd=>JF<|Zk (kd.row 2 (b:=w.heap.size+2) (t:=37) (coC G (.slice A c.got.length cap)).toList (by kernel_rfl)) ⟨.slice A c.got.length cap,rfl,outA G kd hGg⟩
     | true =>
       rw[QBE hr ho hT' rfl,←hF,←hG] at hD
       refine coS<|qQ [] kb fun wc kc=>coT<|coR<|qR 2 [0,1] kc fun wd kd=>?_
       have hlt2:w.heap.size+2 < wd.heap.size:=kd.lt 2 ⟨w.heap.size+2,37,(coC zeroCo (.slice none 0 0)).toList.map some⟩ (by kernel_rfl)
       have hgi:=(outA G kd hGg).1
       refine kX (QHt hA G hGc hGo l (.slice A c.got.length cap) (by rw[hGg];exact hlen) wd hgi) fun e we ⟨v',he,own,hb⟩=>⟨_,he,?_⟩
       rw[←hD] at own ⊢
       obtain⟨A'',cap'',rfl,hcap'',-,hn''⟩:=Zx own
       have ke:=kd.below hb
       have km:=Many.two (ke.row 0 (b:=w.heap.size) (t:=37) (coC G (.slice A c.got.length cap)).toList (by kernel_rfl)) (ke.row 2 (b:=w.heap.size+2) (t:=37) (coC zeroCo (.slice none 0 0)).toList (by kernel_rfl)) (by omega)
       have lowe:Below w.heap.size w we:=ke.touch.below
       refine qE [1] km fun wf kf=>JF<|Jp<|Zk (kf.row 1 (b:=w.heap.size+2) (t:=37) (coC D (.slice A'' D.got.length cap'')).toList (by kernel_rfl)) ⟨_,rfl,⟨A'',cap'',rfl,hcap'',jP (Kept.own (Kept.of_touch kf.touch) own fun x e h=>?_),hn''⟩,fun x e=>(by have:=own.lt x e;exact .inl (by omega)),Kept.low lowe (Kept.of_touch kf.touch) lowe.size fun x e=>by simp at e;omega⟩
       have:=own.lt x e
       simp at h
       omega
theorem QDN (c:CoT)(A:Option Addr)(n cap:Nat)(l:LnT)(w:World):Calls Tryz.prog 13 #[coV c (.slice A n cap),lnV l] w fun e w'=>e=.returned (.tuple #[cyV (ju c l),.bool (Xh c l)])∧Below w.heap.size w w':=by
 have KT:=fun W=>QBd c.a l.wait W
 unfold zw at KT
 have no:Xh c l=false→.returned (.tuple #[cyV JL,.bool false])=Ending.returned (.tuple #[cyV (ju c l),.bool (Xh c l)]):=fun h=>by
  unfold ju
  rw[h]
  rfl
 have yes:Xh c l=true→.returned (.tuple #[cyV c.a.c,.bool true])=Ending.returned (.tuple #[cyV (ju c l),.bool (Xh c l)]):=fun h=>by
  unfold ju
  rw[h]
  rfl
 have hq:Xh c l=(!l.reset&&(!c.off&&(QJ c.a l.wait).2.1)):=rfl
 generalize QJ c.a l.wait=T at KT hq
 obtain⟨a,m,t⟩:=T
 dsimp only at KT hq
 go_enter Tryz.func13,Tryz.ntmps13
 refine JB<|qQ [] (Many.begin w) fun w1 k1=>coR<|qR 4 [0,1] k1 fun w2 k2=>qC (KT w2) k2 fun w3 k3=>qE [3] k3 fun w4 k4=>coS<|coR<|qR 2 [1] k4 fun w5 k5=>?_
 cases hr:l.reset with
 | true =>
   rw[hr] at hq
   exact tell 19 hr<|qE [] k5 fun w6 k6=>coT<|qQ [2] k6 fun w7 k7=>JF<|Jp<|QJO (k7.row 2 (b:=w.heap.size+2) (t:=29) (cyC JL).toList (by kernel_rfl)) ⟨no hq,k7.touch.below⟩
 | false =>
   refine tell 19 hr<|qR 3 [0] k5 fun w6 k6=>?_
   cases ho:c.off with
   | true =>
     rw[hr,ho] at hq
     exact tell 22 ho<|qE [] k6 fun w6 k6=>coT<|qQ [2] k6 fun w7 k7=>JF<|Jp<|QJO (k7.row 2 (b:=w.heap.size+2) (t:=29) (cyC JL).toList (by kernel_rfl)) ⟨no hq,k7.touch.below⟩
   | false =>
     rw[hr,ho] at hq
     cases m with
     | false=>exact tell 22 ho<|qE [] k6 fun w6 k6=>coT<|qQ [2] k6 fun w7 k7=>JF<|Jp<|QJO (k7.row 2 (b:=w.heap.size+2) (t:=29) (cyC JL).toList (by kernel_rfl)) ⟨no hq,k7.touch.below⟩
     | true=>exact tell 22 ho<|qE [] k6 fun w6 k6=>coF<|JC<|eoT<|qQ [0,2] k6 fun w7 k7=>JF<|QJO (k7.row 2 (b:=w.heap.size+2) (t:=29) (cyC c.a.c).toList (by kernel_rfl)) ⟨yes hq,k7.touch.below⟩
theorem QDO (hA:jJ)(c:CoT)(hc:OkC c)(l:LnT)(b:Int)(hb8:B8 b)(v:Value)(hlen:c.got.length≤100000)(w:World)(hin:GotIn w w.heap.size v c.got) :
 Calls Tryz.prog 16 #[coV c v,lnV l,.int .u8 b] w fun e w'=>e=.returned (.bool (QF4 c l b))∧Below w.heap.size w w':=by
 have hin0:=hin
 obtain⟨A,cap,rfl,hcap,hby,hnil⟩:=hin
 have K18:=fun (W:World) (h:Below w.heap.size w W)=>QAG hA c hc l b hb8 (.slice A c.got.length cap) hlen W (hin0.on h)
 obtain⟨D,hD⟩:∃ D,D=Xr c l b:=⟨_,rfl⟩
 unfold QF4
 rw[←hD] at K18 ⊢
 have hq:QC6 c l=(!l.reset&&(!c.off&&(QJ c.a l.wait).2.2)):=rfl
 have KT:=fun W=>QBd c.a l.wait W
 unfold zw at KT
 clear hD
 generalize QJ c.a l.wait=T at KT hq
 obtain⟨a,m,t⟩:=T
 dsimp only at KT hq
 go_enter Tryz.func16,Tryz.ntmps16
 refine JB<|qQ [] (Many.begin w) fun w1 k1=>coR<|qR 4 [0,1] k1 fun w2 k2=>qC (KT w2) k2 fun w3 k3=>qE [2] k3 fun w4 k4=>coS<|coR<|qR 2 [1] k4 fun w5 k5=>?_
 cases hr:l.reset with
 | true =>
   rw[hr] at hq
   rw[hq]
   exact tell 20 hr<|qE [] k5 fun w6 k6=>coT<|qQ [] k6 fun w7 k7=>JF<|Jp<|Jj (.bool false) ⟨rfl,k7.touch.below⟩
 | false =>
   refine tell 20 hr<|qR 3 [0] k5 fun w6 k6=>?_
   cases ho:c.off with
   | true =>
     rw[hr,ho] at hq
     rw[hq]
     exact tell 23 ho<|qE [] k6 fun w6 k6=>coT<|qQ [] k6 fun w7 k7=>JF<|Jp<|Jj (.bool false) ⟨rfl,k7.touch.below⟩
   | false =>
     rw[hr,ho] at hq
     rw[hq]
     cases t with
     | false=>exact tell 23 ho<|qE [] k6 fun w6 k6=>coT<|qQ [] k6 fun w7 k7=>JF<|Jp<|Jj (.bool false) ⟨rfl,k7.touch.below⟩
     | true =>
       refine tell 23 ho<|qE [] k6 fun w6 k6=>coF<|JC<|eoT<|coR<|qR 3 [0,1] k6 fun w7 k7=>kX (K18 w7 k7.touch.below) fun e w8 ⟨v',he,hgo,_,hb⟩=>⟨_,he,?_⟩
       obtain⟨A',cap',rfl,-⟩:=hgo
       exact qE [] (k7.below hb) fun w9 k9=>JF<|Jj (.bool D.leaves) ⟨rfl,k9.touch.below⟩
theorem e18Q (x y:Int)(b:Bool)(e:(x==y)=b)(w:World):(binOp .eql 3 (.int .i64 x) (.int .i64 y)).run Tryz.prog w=.ok (.bool b) w:=by subst e;simp[go_sem]
theorem QHf (c:CoT)(A:Option Addr)(cap:Nat)(w:World):Calls Tryz.prog 18 #[coV c (.slice A c.got.length cap)] w fun e w'=>e=.returned (.bool (XG c))∧Below w.heap.size w w':=by
 go_enter Tryz.func18,Tryz.ntmps18
 obtain⟨r,wh,got,a,b,nmi,was,off⟩:=c
 refine JB<|qQ [] (Many.begin w) fun w1 k1=>?_
 cases got with
 | nil =>
   have e:XG ⟨r,wh,[],a,b,nmi,was,off⟩=(a.k==0&&a.w==0):=rfl
   rw[e]
   refine coR<|qR 9 [0,0] k1 fun w2 k2=>?_
   cases h1:(a.k==0) with
   | false=>exact tell 11 h1<|qE [] k2 fun w4 k4=>JF<|Jj (.bool false) ⟨rfl,k4.touch.below⟩
   | true=>exact tell 11 h1<|qE [0] k2 fun w4 k4=>JF<|Jj (.bool (true&&a.w==0)) ⟨rfl,k4.touch.below⟩
 | cons x xs=>exact coR<|qR 3 [0] k1 fun w2 k2=>kBj 6 (.int .i64 ((x :: xs).length:Nat)) (.int .i64 0) (.bool false) (egI _ _ _ _ _) (e18Q ((x :: xs).length:Nat) 0 false (by simp;omega))<|qE [] k2 fun w4 k4=>JF<|Jj (.bool false) ⟨rfl,k4.touch.below⟩
end Go.Proofs.YtkenebbjodcbcaaGreatDoor
