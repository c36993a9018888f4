/- Contracts and facts that the claim's proof wants (several texts in one). -/
import Derived.Test.YtkgaeamdhhceiaaGreatDoorSrG29
namespace Go.Proofs.YtkgaeamdhhceiaaGreatDoor
open Go.RowKit
set_option linter.unusedVariables false
set_option linter.unusedSimpArgs false
set_option maxRecDepth 20000
set_option maxHeartbeats 20000000
theorem QIM {ys:List Int}(h:Bytes8 ys)(k:Nat):B8 (ys.getD k 0):=by
 rw[List.getD_eq_getElem?_getD]
 by_cases hk:k < ys.length
 · rw[List.getElem?_eq_getElem hk];exact QOZ h hk
 · rw[List.getElem?_eq_none (by omega)];exact B8.zero
theorem QBz (c:Cy)(l:List Cy)(g:Rg)(n:Nat):Qg (c :: l) g (n+1)=Qg l g n:=by
 unfold Qg
 simp only[List.length_cons,Nat.add_lt_add_iff_right]
 rfl
theorem QKD (g:Rg)(hg:RgB g)(A:Option Addr)(cap:Nat)(xs:List Int)(w:World):Calls Tryz.prog 29 #[JG g,.int .i64 1,.slice A xs.length cap] w fun e w'=>e=.returned (Jp g 1 xs).v∧Below w.heap.size w w':=by
 go_enter Tryz.func29,Tryz.ntmps29
 obtain⟨T,hT⟩:∃ T,T=Qg ([⟨1,g.pc,0,4⟩]++Qx g.sp g.pc) (ZU (jp g false g.iff2) 102) xs.length:=⟨_,rfl⟩
 have eT:Jp g 1 xs=T:=by
  rw[hT]
  cases xs with
  | nil=>rfl
  | cons v ys=>exact (QBz _ _ _ _).symm
 rw[eT]
 have KT:=fun p c W h=>QBY p c 4 ([⟨1,g.pc,0,4⟩]++Qx g.sp g.pc) rfl (ZU (jp g false g.iff2) 102) A cap xs.length W h
 rw[←hT] at KT
 refine JB<|qQ [] (Many.begin w) fun w1 k1=>coS<|qQ [] k1 fun w2 k2=>coF<|JE<|eoT<|qQ [0] k2 fun w3 k3=>qQ [0] k3 fun w4 k4=>coR<|qR 1 [0] k4 fun w5 k5=>qC (QDU g 1 hg.r w5) k5 fun w6 k6=>qE [0] k6 fun w7 k7=>qQ [0] k7 fun w8 k8=>qQ [0] k8 fun w9 k9=>qQ [0] k9 fun wa ka=>coS<|qQ [] ka fun wb kb=>coT<|coR<|qR 2 [] kb fun wc kc=>wM (XD (QGc ⟨1,g.pc,0,4⟩ wc))<|?_
 have kd:=kc.alloc 54 (QH [⟨1,g.pc,0,4⟩]).toArray
 obtain⟨b,hb⟩:∃ b,b=wc.heap.size:=⟨_,rfl⟩
 have h2b:w.heap.size+2 < b:=by rw[hb];exact kc.lt 2 ⟨w.heap.size+2,24,(JH JV).toList.map some⟩ (by kernel_rfl)
 rw[←hb] at kd ⊢
 refine qR 2 [] kd fun we ke=>?_
 have re:=ke.row 3 (b:=b) (t:=54) (QH [⟨1,g.pc,0,4⟩]) (by kernel_rfl)
 refine kX (QD2 b _ ⟨1,g.pc,0,4⟩ g.sp g.pc hg.pc we (Nat.le_of_lt re.lt) (QEu 1 re (Nat.le_refl b) rfl (by omega))) ?_
 rintro e wf ⟨v,rfl,own,hB⟩
 have kf:=(ke.take 3 [⟨w.heap.size,24,(JH (jp g false g.iff2)).toList.map some⟩,⟨w.heap.size+1,54,(cyC JM).toList.map some⟩,⟨w.heap.size+2,24,(JH JV).toList.map some⟩]).belowB hB (QCy (by omega) (by omega) (by omega)) (by omega)
 rcases own.2 with ⟨-,e0⟩|⟨g',c',cur,rfl,hbg,hh,hle,hmx,hcs,htk⟩
 · cases e0
 have kg:=kf.add (b:=g') (t:=54) (cells:=cur) hh (by omega) (QAM (by omega) (by omega) (by omega))
 clear kf re ke kd kc kb ka k9 k8 k7 k6 k5 k4 k3 k2 k1 hb own hB
 refine⟨_,rfl,qE [] kg fun wh kh=>qQ [0] kh fun wi ki=>qQ [0] ki fun wj kj=>qQ [0] kj fun wk kk=>coR<|qR 3 [0] kk fun wl kl=>qC (KT ⟨g',0,none⟩ c' wl (QEd _ (kl.row 3 (b:=g') (t:=54) cur.toList (by kernel_rfl)) htk)) kl fun wm km=>qE [1,2] km fun wn kn=>JJ<|QF<|jI 1 2 T.c T.g T.b (w.heap.size+1) (w.heap.size+2) kn ⟨rfl,kn.touch.below⟩⟩
structure QFo where
 y:Nat→Value
theorem Zg {P:Program} {Q:Exit→Act→World→Prop} {base:List Value} {l:Jy} {w:World} {c:Code}(B:QFo→List Value)(h:∀ x,CO P c Q (B x) [] w)(e:ovO base l=B ⟨zp base l⟩:=by kernel_rfl):CO P c Q base l w:=QUx (B ⟨zp base l⟩) (h _) e
def rnB (h:Nat)(g:Rg)(A:Option Addr)(n cap:Nat)(S:Value)(v:Int)(x:QFo):List Value:=[x.y 0,.int .i64 2,.slice A n cap,.pointer (some ⟨h,0,none⟩),x.y 4,x.y 5,.pointer (some ⟨h+1,0,none⟩),.pointer (some ⟨h+2,0,none⟩),x.y 8,.int .u16 g.pc,.int .u16 g.sp,x.y 11,S,.int .u8 v,x.y 14,x.y 15,x.y 16,x.y 17,x.y 18,x.y 19,x.y 20,x.y 21,x.y 22,x.y 23,x.y 24,x.y 25,x.y 26,x.y 27,x.y 28,x.y 29,x.y 30,x.y 31,x.y 32,x.y 33,x.y 34,x.y 35,x.y 36,x.y 37,x.y 38,x.y 39,x.y 40,x.y 41,x.y 42,x.y 43,x.y 44,x.y 45,x.y 46,x.y 47,x.y 48,x.y 49,x.y 50,x.y 51,x.y 52,x.y 53,x.y 54,x.y 55,x.y 56,x.y 57,x.y 58,x.y 59,x.y 60,x.y 61,x.y 62,x.y 63,x.y 64,x.y 65,x.y 66,x.y 67,x.y 68,x.y 69,x.y 70,x.y 71,x.y 72,x.y 73,x.y 74,x.y 75,x.y 76,x.y 77,x.y 78,x.y 79,x.y 80,x.y 81,x.y 82,x.y 83,x.y 84,x.y 85,x.y 86,x.y 87,x.y 88,x.y 89,x.y 90,x.y 91,x.y 92,x.y 93,x.y 94,x.y 95,x.y 96,x.y 97,x.y 98,x.y 99,x.y 100,x.y 101,x.y 102,x.y 103,x.y 104,x.y 105,x.y 106,x.y 107,x.y 108,x.y 109,x.y 110,x.y 111,x.y 112,x.y 113,x.y 114,x.y 115,x.y 116,x.y 117,x.y 118,x.y 119,x.y 120,x.y 121,x.y 122,x.y 123,x.y 124,x.y 125,x.y 126,x.y 127,x.y 128,x.y 129,x.y 130,x.y 131,x.y 132,x.y 133,x.y 134,x.y 135,x.y 136,x.y 137,x.y 138,x.y 139,x.y 140,x.y 141,x.y 142,x.y 143,x.y 144,x.y 145,x.y 146,x.y 147,x.y 148]
def rnC (h:Nat)(g:Rg)(A:Option Addr)(n cap:Nat)(S:Value)(v u:Int)(x:QFo):List Value:=[x.y 0,.int .i64 2,.slice A n cap,.pointer (some ⟨h,0,none⟩),x.y 4,x.y 5,.pointer (some ⟨h+1,0,none⟩),.pointer (some ⟨h+2,0,none⟩),x.y 8,.int .u16 g.pc,.int .u16 g.sp,x.y 11,S,.int .u8 v,.int .u16 u,x.y 15,x.y 16,x.y 17,x.y 18,x.y 19,x.y 20,x.y 21,x.y 22,x.y 23,x.y 24,x.y 25,x.y 26,x.y 27,x.y 28,x.y 29,x.y 30,x.y 31,x.y 32,x.y 33,x.y 34,x.y 35,x.y 36,x.y 37,x.y 38,x.y 39,x.y 40,x.y 41,x.y 42,x.y 43,x.y 44,x.y 45,x.y 46,x.y 47,x.y 48,x.y 49,x.y 50,x.y 51,x.y 52,x.y 53,x.y 54,x.y 55,x.y 56,x.y 57,x.y 58,x.y 59,x.y 60,x.y 61,x.y 62,x.y 63,x.y 64,x.y 65,x.y 66,x.y 67,x.y 68,x.y 69,x.y 70,x.y 71,x.y 72,x.y 73,x.y 74,x.y 75,x.y 76,x.y 77,x.y 78,x.y 79,x.y 80,x.y 81,x.y 82,x.y 83,x.y 84,x.y 85,x.y 86,x.y 87,x.y 88,x.y 89,x.y 90,x.y 91,x.y 92,x.y 93,x.y 94,x.y 95,x.y 96,x.y 97,x.y 98,x.y 99,x.y 100,x.y 101,x.y 102,x.y 103,x.y 104,x.y 105,x.y 106,x.y 107,x.y 108,x.y 109,x.y 110,x.y 111,x.y 112,x.y 113,x.y 114,x.y 115,x.y 116,x.y 117,x.y 118,x.y 119,x.y 120,x.y 121,x.y 122,x.y 123,x.y 124,x.y 125,x.y 126,x.y 127,x.y 128,x.y 129,x.y 130,x.y 131,x.y 132,x.y 133,x.y 134,x.y 135,x.y 136,x.y 137,x.y 138,x.y 139,x.y 140,x.y 141,x.y 142,x.y 143,x.y 144,x.y 145,x.y 146,x.y 147,x.y 148]
def QGj (g:Rg):List Cy:=[⟨6,g.pc,0,6⟩]++Qx g.sp g.pc
theorem QMw (g:Rg)(n:Nat):Qg [] g n=QLX g:=by unfold Qg;rw[if_neg (by simp)]
theorem QRU {g:Rg}(h:g.mode=1)(xs:List Int):Jp g 2 xs=Qg ([⟨6,g.pc,0,6⟩]++Qx g.sp g.pc) (ZU (jp g false false) 56) xs.length:=by
 cases xs with
 | nil=>rfl
 | cons v ys =>
   refine Eq.trans ?_ (QBz _ _ _ _).symm
   show QBJ g v ys=_
   unfold QBJ
   rw[if_neg (by omega),if_pos h]
   rfl
theorem QNH {g:Rg}(h:g.mode≠0)(h1:g.mode≠1)(xs:List Int):Jp g 2 xs=Qg ([⟨6,g.pc,0,6⟩]++Qx g.sp g.pc++ZO (256*g.i+xs.getD 0 0)) (ZU (jp g false false) (256*xs.getD 5 0+xs.getD 4 0)) xs.length:=by
 cases xs with
 | nil=>rfl
 | cons v ys =>
   refine Eq.trans ?_ (QBz _ _ _ _).symm
   show QBJ g v ys=_
   unfold QBJ
   rw[if_neg h,if_neg h1]
   rfl
theorem QJr (g:Rg)(hg:RgB g)(A:Option Addr)(cap:Nat)(xs:List Int)(hc:xs.length≤cap)(h8:Bytes8 xs)(hl:xs.length≤1000000000)(w:World)(hin:BytesIn w w.heap.size A xs):Calls Tryz.prog 29 #[JG g,.int .i64 2,.slice A xs.length cap] w fun e w'=>e=.returned (Jp g 2 xs).v∧Below w.heap.size w w':=by
 have KA:∀ (k:Nat) (W:World),Below w.heap.size w W→Calls Tryz.prog 38 #[.slice A xs.length cap,.int .i64 (k:Int)] W fun e w'=>e=.returned (.int .u8 (xs.getD k 0))∧Below W.heap.size W w':=fun k W hW=>QLC A cap xs k W ((hin.below hW).more hW.size)
 obtain⟨T,hT⟩:∃ T,T=Jp g 2 xs:=⟨_,rfl⟩
 rw[←hT]
 go_enter Tryz.func29,Tryz.ntmps29
 obtain⟨v,hv⟩:∃ v,v=xs.getD 0 0:=⟨_,rfl⟩
 have bv:B8 v:=by rw[hv];exact QIM h8 0
 have K0:=KA 0
 rw[←hv] at K0
 refine JB<|qQ [] (Many.begin w) fun w1 k1=>coS<|qQ [] k1 fun w2 k2=>coF<|JE<|eoT<|qQ [0] k2 fun w3 k3=>qQ [0] k3 fun w4 k4=>coR<|qR 1 [0] k4 fun w5 k5=>qC (QDU g 1 hg.r w5) k5 fun w6 k6=>qE [0] k6 fun w7 k7=>qQ [0] k7 fun w8 k8=>qQ [0] k8 fun w9 k9=>qQ [0] k9 fun wa ka=>coS<|qQ [] ka fun wb kb=>coF<|JE<|eoT<|qQ [0] kb fun wb kb=>coR<|qR 2 [] kb fun wc kc=>wM (XD (QGc ⟨6,g.pc,0,6⟩ wc))<|?_
 have kd:=kc.alloc 54 (QH [⟨6,g.pc,0,6⟩]).toArray
 obtain⟨b,hb⟩:∃ b,b=wc.heap.size:=⟨_,rfl⟩
 have h2b:w.heap.size+2 < b:=by rw[hb];exact kc.lt 2 ⟨w.heap.size+2,24,(JH JV).toList.map some⟩ (by kernel_rfl)
 rw[←hb] at kd ⊢
 clear kc kb ka k9 k8 k7 k6 k5 k4 k3 k2 k1 hb
 refine qE [] kd fun we ke=>coR<|qR 1 [] ke fun wf kf=>qC (K0 wf kf.touch.below) kf fun wg kg=>qE [] kg fun wh kh=>Zg (rnB w.heap.size g A xs.length cap (.slice (some ⟨b,0,none⟩) 1 1) v) fun x=>?_
 have kh:=kh.take 4 [⟨w.heap.size,24,(JH (jp g false false)).toList.map some⟩,⟨w.heap.size+1,54,(cyC JM).toList.map some⟩,⟨w.heap.size+2,24,(JH JV).toList.map some⟩,⟨b,54,(QH [⟨6,g.pc,0,6⟩]).map some⟩]
 refine coS<|qQ [0] kh fun wi ki=>coI (g.mode==0) (fun hm=>?_) fun hm=>JE<|eoT<|coR<|qR 3 [] ki fun wj kj=>?_
 · have hm:g.mode=0:=by simpa using hm
   obtain⟨U,hU⟩:∃ U,U=Qg [⟨6,g.pc,0,6⟩] (jp g false false) xs.length:=⟨_,rfl⟩
   have KT:=fun p c W h=>QBY p c 1 [⟨6,g.pc,0,6⟩] rfl (jp g false false) A cap xs.length W h
   rw[←hU] at KT
   have HT:(xs=[]∨Zv v=true)→T=U:=fun h=>by
    rw[hT,hU]
    cases xs with
    | nil=>rfl
    | cons x ys =>
      have e:x=v:=hv.symm
      subst e
      rw[QKK hm,if_pos (h.resolve_left (by simp))]
      exact ((QBz _ _ _ _).trans (QMw _ _)).symm
   refine coS<|coR<|?_
   cases xs with
   | nil=>exact qE [] ki fun wj kj=>coT<|coR<|qR 3 [0] kj fun wk kk=>qC (KT ⟨b,0,none⟩ 1 wk (QBl (b:=b) (t:=54) (kk.row 3 (QH [⟨6,g.pc,0,6⟩]) (by kernel_rfl)))) kk fun wl kl=>qE [1,2] kl fun wm km=>JJ<|QF<|QF<|jI 1 2 U.c U.g U.b (w.heap.size+1) (w.heap.size+2) km ⟨by rw[HT (.inl rfl)];rfl,km.touch.below⟩
   | cons x ys =>
     have e:x=v:=hv.symm
     subst e
     have hq:Zv x=(x==203||(x==221||(x==237||x==253))):=rfl
     have hz:((((ys.length+1:Nat):Int))==0)=false:=by simp;omega
     refine qR 3 [] ki fun wj kj=>tell 67 hz<|qR 3 [] kj fun wj kj=>?_
     by_cases h1:x=203
     · refine tell 70 (show (x==203)=true by simp[h1])<|qE [] kj fun wj kj=>coT<|coR<|qR 3 [0] kj fun wk kk=>qC (KT ⟨b,0,none⟩ 1 wk (QBl (b:=b) (t:=54) (kk.row 3 (QH [⟨6,g.pc,0,6⟩]) (by kernel_rfl)))) kk fun wl kl=>qE [1,2] kl fun wm km=>JJ<|QF<|QF<|jI 1 2 U.c U.g U.b (w.heap.size+1) (w.heap.size+2) km ⟨by rw[HT (.inr (by rw[h1];rfl))];rfl,km.touch.below⟩
     refine tell 70 (show (x==203)=false by simp[h1])<|qR 4 [] kj fun wj kj=>?_
     by_cases h2:x=221
     · refine tell 74 (show (x==221)=true by simp[h2])<|qE [] kj fun wj kj=>coT<|coR<|qR 3 [0] kj fun wk kk=>qC (KT ⟨b,0,none⟩ 1 wk (QBl (b:=b) (t:=54) (kk.row 3 (QH [⟨6,g.pc,0,6⟩]) (by kernel_rfl)))) kk fun wl kl=>qE [1,2] kl fun wm km=>JJ<|QF<|QF<|jI 1 2 U.c U.g U.b (w.heap.size+1) (w.heap.size+2) km ⟨by rw[HT (.inr (by rw[h2];rfl))];rfl,km.touch.below⟩
     refine tell 74 (show (x==221)=false by simp[h2])<|qR 4 [] kj fun wj kj=>?_
     by_cases h3:x=237
     · refine tell 78 (show (x==237)=true by simp[h3])<|qE [] kj fun wj kj=>coT<|coR<|qR 3 [0] kj fun wk kk=>qC (KT ⟨b,0,none⟩ 1 wk (QBl (b:=b) (t:=54) (kk.row 3 (QH [⟨6,g.pc,0,6⟩]) (by kernel_rfl)))) kk fun wl kl=>qE [1,2] kl fun wm km=>JJ<|QF<|QF<|jI 1 2 U.c U.g U.b (w.heap.size+1) (w.heap.size+2) km ⟨by rw[HT (.inr (by rw[h3];rfl))];rfl,km.touch.below⟩
     refine tell 78 (show (x==237)=false by simp[h3])<|qR 4 [] kj fun wj kj=>?_
     by_cases h4:x=253
     · refine tell 82 (show (x==253)=true by simp[h4])<|qE [] kj fun wj kj=>coT<|coR<|qR 3 [0] kj fun wk kk=>qC (KT ⟨b,0,none⟩ 1 wk (QBl (b:=b) (t:=54) (kk.row 3 (QH [⟨6,g.pc,0,6⟩]) (by kernel_rfl)))) kk fun wl kl=>qE [1,2] kl fun wm km=>JJ<|QF<|QF<|jI 1 2 U.c U.g U.b (w.heap.size+1) (w.heap.size+2) km ⟨by rw[HT (.inr (by rw[h4];rfl))];rfl,km.touch.below⟩
     have hnp:Zv x=false:=by rw[hq];simp[h1,h2,h3,h4]
     obtain⟨X,hX⟩:∃ X,X=ofX (X4 (jp g false false) x ys):=⟨_,rfl⟩
     have hB:RgB (jp g false false):=hg.beg false false
     have hcy:ys.length+1≤cap:=hc
     have hly:ys.length+1≤1000000000:=hl
     have KX:∀ W,Below w.heap.size w W→Calls Tryz.prog 39 #[JG (jp g false false),.int .u8 x,.slice (if cap=1 then A else A.map (·.add 1)) ys.length (cap-1)] W fun e w'=>e=.returned X.v∧Below W.heap.size W w':=fun W hW=>by
      have:=QLA (jp g false false) hB x bv (if cap=1 then A else A.map (·.add 1)) (cap-1) ys (by omega) h8.tail (by omega) W ((((hin.drop (k:=1) (by simp) hc).below hW).more hW.size))
      rw[←QK7 hB bv h8.tail,Xh] at this
      rw[hX]
      exact this
     refine tell 82 (show (x==253)=false by simp[h4])<|qE [] kj fun wj kj=>coF<|JE<|eoT<|qP 8 kj fun wk kk=>qD 0 [0,1,2] kk<|qT 3 kk (fun w' _=>QDG (QEk A (x :: ys).length cap (by simp) hc _))<|qDc 4 (KX wk kk.touch.below) kk fun wl kl=>qM [5,6,7] kl<|poE<|qE [1,2] kl fun wm km=>JJ<|QF<|jI 1 2 X.c X.g X.b (w.heap.size+1) (w.heap.size+2) km ⟨?_,km.touch.below⟩
     have e:T=X:=by rw[hT,hX,QKK hm,if_neg (by rw[hnp];simp)]
     rw[e]
     rfl
 · have hm:g.mode≠0:=by simpa using hm
   have rj:=kj.row 3 (b:=b) (t:=54) (QH [⟨6,g.pc,0,6⟩]) (by kernel_rfl)
   refine kX (QD2 b _ ⟨6,g.pc,0,6⟩ g.sp g.pc hg.pc wj (Nat.le_of_lt rj.lt) (QEu 1 rj (Nat.le_refl b) rfl (by omega))) ?_
   rintro e wk ⟨u,rfl,own,hB⟩
   have kk:=(kj.take 3 [⟨w.heap.size,24,(JH (jp g false false)).toList.map some⟩,⟨w.heap.size+1,54,(cyC JM).toList.map some⟩,⟨w.heap.size+2,24,(JH JV).toList.map some⟩]).belowB hB (QCy (by omega) (by omega) (by omega)) (by omega)
   rcases own.2 with ⟨-,e0⟩|⟨g',c',cur,rfl,hbg,hh,hle,hmx,hcs,htk⟩
   · cases e0
   have kl:=kk.add (b:=g') (t:=54) (cells:=cur) hh (by omega) (QAM (by omega) (by omega) (by omega))
   have hlen:=own.1
   clear kk rj kj ki kh kg kf ke kd own hB hh
   refine⟨_,rfl,qE [] kl fun wm km=>Zg (rnB w.heap.size g A xs.length cap (.slice (some ⟨g',0,none⟩) 4 c') v) fun x=>qQ [0] km fun wn kn=>coS<|qQ [0] kn fun wo ko=>coI (g.mode==1) (fun h1=>?_) fun h1=>JE<|eoT<|coR<|qR 3 [0] ko fun wp kp=>qCe (Qe g.i v hg.i.1 hg.i.2 bv.1 bv.2 wp)<|qE [] kp fun wq kq=>Zg (rnC w.heap.size g A xs.length cap (.slice (some ⟨g',0,none⟩) 4 c') v (256*g.i+v)) fun x=>?_⟩
   · have KT:=fun p c W h=>QBY p c 4 ([⟨6,g.pc,0,6⟩]++Qx g.sp g.pc) rfl (ZU (jp g false false) 56) A cap xs.length W h
     rw[←QRU (by simpa using h1),←hT] at KT
     refine qQ [0] ko fun wi ki=>qQ [0] ki fun wk kk=>coR<|qR 3 [0] kk fun wl kl=>qC (KT ⟨g',0,none⟩ c' wl (QEd _ (kl.row 3 (b:=g') (t:=54) cur.toList (by kernel_rfl)) htk)) kl fun wm km=>qE [1,2] km fun wn kn=>JJ<|QF<|jI 1 2 T.c T.g T.b (w.heap.size+1) (w.heap.size+2) kn ⟨rfl,kn.touch.below⟩
   have h1:g.mode≠1:=by simpa using h1
   have KT:∀ (p:Addr) (c:Nat) (W:World),CysIn W W.heap.size (some p) (QGj g++ZO (256*g.i+v))→Calls Tryz.prog 37 #[.slice (some p) 6 c,JG (ZU (jp g false false) (256*xs.getD 5 0+xs.getD 4 0)),.slice A xs.length cap] W fun e w'=>e=.returned T.v∧Below W.heap.size W w':=by
    rw[hT,QNH hm h1,←hv]
    exact fun p c W h=>QBY p c 6 (QGj g++ZO (256*g.i+v)) rfl _ A cap xs.length W h
   have htk:cur.toList.take (4*4)=QH (QGj g):=htk
   have hlen:(QH (QGj g)).length=4*4:=hlen
   have kq:=kq.take 4 [⟨w.heap.size,24,(JH { jp g false false with sp:=(g.sp-2)%65536 }).toList.map some⟩,⟨w.heap.size+1,54,(cyC JM).toList.map some⟩,⟨w.heap.size+2,24,(JH JV).toList.map some⟩,⟨g',54,cur.toList.map some⟩]
   refine coR<|qR 3 [] kq fun wr kr=>?_
   have rr:Row wr g' 54 cur:=by simpa using kr.row 3 (b:=g') (t:=54) cur.toList (by kernel_rfl)
   have own4:wr.ownsRow b 54 4 (.slice (some ⟨g',0,none⟩) 4 c') 4 (QH (QGj g)):=⟨hlen,.inr ⟨g',c',cur,rfl,hbg,rr,hle,hmx,hcs,htk⟩⟩
   have bs:b≤wr.heap.size:=Nat.le_trans hbg (Nat.le_of_lt rr.lt)
   refine wM (XD (QGc ⟨2,256*g.i+v,0,3⟩ wr))<|qAy (.tmp 122) (.tmp 125) b _ (.slice (some ⟨g',0,none⟩) 4 c') 4 (QGj g) ⟨wr.heap.size,0,none⟩ 1 1 [⟨2,256*g.i+v,0,3⟩] (Nat.le_trans bs (by simp)) (own4.alloc _) (QAo wr [⟨2,256*g.i+v,0,3⟩] _) rfl (by omega) fun u5 ws own5 g5=>?_
   have ks:=(kr.take 3 [⟨w.heap.size,24,(JH { jp g false false with sp:=(g.sp-2)%65536 }).toList.map some⟩,⟨w.heap.size+1,54,(cyC JM).toList.map some⟩,⟨w.heap.size+2,24,(JH JV).toList.map some⟩]).belowB (n:=b) (XA ((XT (Below.refl wr.heap.size wr) (.cells (QH [⟨2,256*g.i+v,0,3⟩]).toArray 54)).mono bs) g5 (own4.alloc _) (Nat.le_refl _) (Nat.le_trans bs (by simp))) (QCy (by omega) (by omega) (by omega)) (by omega)
   have hlen5:=own5.1
   rcases own5.2 with ⟨-,e0⟩|⟨g6,c6,cur6,rfl,hbg6,hh6,hle6,hmx6,hcs6,htk6⟩
   · cases e0
   have kt:=ks.add (b:=g6) (t:=54) (cells:=cur6) hh6 (by omega) (QAM (by omega) (by omega) (by omega))
   clear ks kr kq kp ko kn km kl own4 own5 g5 rr hh6 bs
   refine qE [] kt fun wu ku=>Zg (rnC w.heap.size g A xs.length cap (.slice (some ⟨g6,0,none⟩) 5 c6) v (256*g.i+v)) fun x=>coR<|qR 4 [] ku fun wv kv=>?_
   have rv:Row wv g6 54 cur6:=by simpa using kv.row 3 (b:=g6) (t:=54) cur6.toList (by kernel_rfl)
   have own6:wv.ownsRow b 54 4 (.slice (some ⟨g6,0,none⟩) 5 c6) 5 (QH ((QGj g)++[⟨2,256*g.i+v,0,3⟩])):=⟨hlen5,.inr ⟨g6,c6,cur6,rfl,hbg6,rv,hle6,hmx6,hcs6,htk6⟩⟩
   have bs:b≤wv.heap.size:=Nat.le_trans hbg6 (Nat.le_of_lt rv.lt)
   refine wM (XD (QGc ⟨2,(256*g.i+v+1)%65536,0,3⟩ wv))<|qAy (.tmp 127) (.tmp 131) b _ (.slice (some ⟨g6,0,none⟩) 5 c6) 5 ((QGj g)++[⟨2,256*g.i+v,0,3⟩]) ⟨wv.heap.size,0,none⟩ 1 1 [⟨2,(256*g.i+v+1)%65536,0,3⟩] (Nat.le_trans bs (by simp)) (own6.alloc _) (QAo wv [⟨2,(256*g.i+v+1)%65536,0,3⟩] _) rfl (by omega) fun u7 ww own7 g7=>?_
   have kw:=(kv.take 3 [⟨w.heap.size,24,(JH { jp g false false with sp:=(g.sp-2)%65536 }).toList.map some⟩,⟨w.heap.size+1,54,(cyC JM).toList.map some⟩,⟨w.heap.size+2,24,(JH JV).toList.map some⟩]).belowB (n:=b) (XA ((XT (Below.refl wv.heap.size wv) (.cells (QH [⟨2,(256*g.i+v+1)%65536,0,3⟩]).toArray 54)).mono bs) g7 (own6.alloc _) (Nat.le_refl _) (Nat.le_trans bs (by simp))) (QCy (by omega) (by omega) (by omega)) (by omega)
   have e7:(QGj g)++[⟨2,256*g.i+v,0,3⟩]++[⟨2,(256*g.i+v+1)%65536,0,3⟩]=(QGj g)++ZO (256*g.i+v):=by rw[List.append_assoc];rfl
   rw[e7] at own7
   rcases own7.2 with ⟨-,e0⟩|⟨g8,c8,cur8,rfl,hbg8,hh8,hle8,hmx8,hcs8,htk8⟩
   · cases e0
   have kx:=kw.add (b:=g8) (t:=54) (cells:=cur8) hh8 (by omega) (QAM (by omega) (by omega) (by omega))
   clear kw kv ku kt own6 own7 g7 rv hh8 bs
   have b5:=QIM h8 5
   have b4:=QIM h8 4
   have K5:=KA 5
   have K4:=KA 4
   obtain⟨a5,ha5⟩:∃ a,a=xs.getD 5 0:=⟨_,rfl⟩
   obtain⟨a4,ha4⟩:∃ a,a=xs.getD 4 0:=⟨_,rfl⟩
   rw[←ha5] at b5 K5 KT
   rw[←ha4] at b4 K4 KT
   refine qE [] kx fun wy ky=>Zg (rnC w.heap.size g A xs.length cap (.slice (some ⟨g8,0,none⟩) 6 c8) v (256*g.i+v)) fun x=>coR<|qR 1 [] ky fun wz kz=>qC (K5 wz kz.touch.below) kz fun wA kA=>qR 1 [] kA fun wB kB=>qC (K4 wB kB.touch.below) kB fun wC kC=>qCe (Qe a5 a4 b5.1 b5.2 b4.1 b4.2 wC)<|qE [0] kC fun wD kD=>qQ [0,0] kD fun wE kE=>coR<|qR 3 [0] kE fun wF kF=>qC (KT ⟨g8,0,none⟩ c8 wF (QEd _ (kF.row 3 (b:=g8) (t:=54) cur8.toList (by kernel_rfl)) htk8)) kF fun wG kG=>qE [1,2] kG fun wH kH=>JJ<|jI 1 2 T.c T.g T.b (w.heap.size+1) (w.heap.size+2) kH ⟨rfl,kH.touch.below⟩
theorem QGf (g:Rg)(hg:RgB g)(which:Int)(h1:which≠1)(h2:which≠2)(A:Option Addr)(cap:Nat)(xs:List Int)(hc:xs.length≤cap)(h8:Bytes8 xs)(hl:xs.length≤1000000000)(w:World)(hin:BytesIn w w.heap.size A xs):Calls Tryz.prog 29 #[JG g,.int .i64 which,.slice A xs.length cap] w fun e w'=>e=.returned (Jp g which xs).v∧Below w.heap.size w w':=by
 obtain⟨T,hT⟩:∃ T,T=Jp g which xs:=⟨_,rfl⟩
 rw[←hT]
 have KX:∀ W,Below w.heap.size w W→Calls Tryz.prog 34 #[JG g,.slice A xs.length cap] W fun e w'=>e=.returned T.v∧Below W.heap.size W w':=fun W hW=>by
  have:=QKz g hg A cap xs hc h8 (by omega) W ((hin.below hW).more hW.size)
  rw[←QOV hg h8,Xh] at this
  have e:T=ofX (XG g xs):=by rw[hT];unfold Jp;rw[if_neg h1,if_neg h2]
  rw[e]
  exact this
 go_enter Tryz.func29,Tryz.ntmps29
 refine JB<|qQ [] (Many.begin w) fun w1 k1=>coS<|coR<|qR 2 [] k1 fun w2 k2=>tell 16 (show (which != 1)=true by simp[h1])<|qR 3 [] k2 fun w2 k2=>tell 19 (show (which != 2)=true by simp[h2])<|qE [] k2 fun w3 k3=>coT<|coR<|qR 2 [0] k3 fun w4 k4=>qC (KX w4 k4.touch.below) k4 fun w5 k5=>qE [1,2] k5 fun w6 k6=>JJ<|QF<|jI 1 2 T.c T.g T.b (w.heap.size+1) (w.heap.size+2) k6 ⟨rfl,k6.touch.below⟩
theorem QJQ (g:Rg)(hg:RgB g)(which:Int)(A:Option Addr)(cap:Nat)(xs:List Int)(hc:xs.length≤cap)(h8:Bytes8 xs)(hl:xs.length≤1000000000)(w:World)(hin:BytesIn w w.heap.size A xs):Calls Tryz.prog 29 #[JG g,.int .i64 which,.slice A xs.length cap] w fun e w'=>e=.returned (Jp g which xs).v∧Below w.heap.size w w':=by
 by_cases h1:which=1
 · subst h1;exact QKD g hg A cap xs w
 by_cases h2:which=2
 · subst h2;exact QJr g hg A cap xs hc h8 hl w hin
 exact QGf g hg which h1 h2 A cap xs hc h8 hl w hin
theorem Kept.drop {S:Nat→Prop} {w w':World}(k:Kept S w w'){b:Nat} {t:TypeId} {cs:Array Value}(h:Row w b t cs)(h':Row w' b t cs):Kept (fun x=>S x∧x≠b) w w' :=
 ⟨k.os,k.tape,k.output,k.size,fun x hx n=>by
  by_cases e:x=b
  · subst e;exact Eq.trans h' (Eq.symm h)
  · exact k.block x hx fun c=>n ⟨c,e⟩⟩
theorem Kept.put {w:World} {b:Nat}(o:Obj):Kept (fun x=>x=b) w (w.putObj b o):=(Kept.of_grown (grownBy_putObj' w b o)).mono fun x _ e=>by injection e with e;exact e.symm
theorem QNA (J:Nat)(which v:Int)(W:World):Calls Tryz.prog 31 #[pT J 0,.int .i64 which,.int .u8 v] W fun e W'=>e=.returned (.func (.func 41) #[] #[pT W.heap.size 0,pT (W.heap.size+1) 0,pT (W.heap.size+2) 0])∧Row W' W.heap.size 79 #[pT J 0]∧Row W' (W.heap.size+1) 3 #[.int .i64 which]∧Row W' (W.heap.size+2) 5 #[.int .u8 v]∧Below W.heap.size W W':=by
 go_enter Tryz.func31,Tryz.ntmps31
 exact JB<|qQ [] (Many.begin W) fun w1 k1=>qQ [] k1 fun w2 k2=>JJ<|J8 (.func (.func 41) #[] #[pT W.heap.size 0,pT (W.heap.size+1) 0,pT (W.heap.size+2) 0]) ⟨rfl,k2.row 0 [pT J 0] (by kernel_rfl),k2.row 1 [.int .i64 which] (by kernel_rfl),k2.row 2 [.int .u8 v] (by kernel_rfl),k2.touch.below⟩
def advB (b3 lb:Nat)(which v:Int)(F:Value)(x:QFo):List Value:=[x.y 0,.int .i64 which,.int .u8 v,pT b3 0,x.y 4,x.y 5,x.y 6,pT lb 0,x.y 8,x.y 9,x.y 10,x.y 11,x.y 12,x.y 13,F,x.y 15,x.y 16,x.y 17,x.y 18,x.y 19,x.y 20,x.y 21,x.y 22,x.y 23,x.y 24,x.y 25,x.y 26,x.y 27,x.y 28,x.y 29,x.y 30,x.y 31,x.y 32,x.y 33,x.y 34,x.y 35,x.y 36,x.y 37,x.y 38,x.y 39]
section
variable {B J:Nat} {W:World} {g:Rg} {which v:Int} {M P:Value} {ob:Option Nat} {m:List (Int×Int)} {p:List Int} {k n:Int}
theorem QCc (hA:jK)(hg:RgB g)(which:Int)(hv:B8 v)(h:Jny B J W g M P ob m p k n)(ht:Tabs W B)(hn:0≤n∧n≤900000)(hk:0≤k∧k≤1000)(hm:m.length≤800000)(hm16:QL m)(hp8:Bytes8 p) :
 Calls Tryz.prog 27 #[pT J 0,.int .i64 which,.int .u8 v] W fun e W'=>∃ A c,e=.returned (.slice A (Jj ⟨g,m,p⟩ which v).l.length c)∧CysIn W' W'.heap.size A (Jj ⟨g,m,p⟩ which v).l∧(A=none→c=0)∧(Jj ⟨g,m,p⟩ which v).l.length≤c∧(∀ q,A=some q→W.heap.size≤q.block) ∧
  ∃ M' P' ob',Jny B J W' (qn g which (Jj ⟨g,m,p⟩ which v)) M' P' ob' (Jj ⟨g,m,p⟩ which v).m (Jj ⟨g,m,p⟩ which v).p (k+1) (n+(Jj ⟨g,m,p⟩ which v).n)∧Kept (JS J ob) W W'∧NewR W ob ob':=by
 have hJ:=h.row.lt
 have hBW:=h.lt
 refine callsIn_wide.1 (callsIn_of_wp_marks (n:=0) Tryz.func27 rfl trivial ?_)
 simp only[Tryz.ntmps27,List.size_toArray,List.length_cons,List.length_nil,Nat.reduceAdd,Nat.reduceSub,Array.replicate_succ,Array.replicate_zero,List.push_toArray,List.append_toArray,List.nil_append,List.cons_append]
 refine wpIn_wide.2 (JB<|qQ [] (Many.begin W) fun w1 k1=>qQ [] k1 fun w2 k2=>coS<|coR<|qR 5 [0] k2 fun w3 k3=>kX (QNA J which v w3) fun e w4 ⟨he,r1,r2,r3,hb4⟩=>⟨_,he,qE [] (Many.begin w4) fun w5 k5=>coB<|Zg (advB W.heap.size w1.heap.size which v (.func (.func 41) #[] #[pT w3.heap.size 0,pT (w3.heap.size+1) 0,pT (w3.heap.size+2) 0])) fun sl=>QUN 0 ?_⟩)
 have b3:Row w3 W.heap.size 58 #[pT J 0]:=k3.row 0 [pT J 0] (by kernel_rfl)
 have hlb1:=k1.lt 0 _ rfl
 have hlb1:W.heap.size < w1.heap.size:=hlb1
 have bl:Row w3 w1.heap.size 31 #[.slice none 0 0]:=k3.row 1 [.slice none 0 0] (by kernel_rfl)
 have hb3:=k3.touch.below
 have hb5:=k5.touch.below
 have hs3:=bl.lt
 have hs4:=hb4.size
 have hs5:=hb5.size
 have hl3:=r3.lt
 have h35:Below w3.heap.size w3 w5:=hb4.trans (hb5.mono hs4)
 have r1:=r1.below hb5 r1.lt
 have r2:=r2.below hb5 r2.lt
 have r3:=r3.below hb5 r3.lt
 have b3:=b3.below h35 b3.lt
 have bl:=bl.below h35 bl.lt
 have hWb:Below W.heap.size W w5:=hb3.trans (h35.mono hb3.size)
 have j5:=h.bel hWb
 clear k1 k2 k3 k5 hb4 hb5
 refine QRv (gf:=41) (lb:=#[pT w3.heap.size 0,pT (w3.heap.size+1) 0,pT (w3.heap.size+2) 0]) (fun args w=>by kernel_rfl) fun fn Z hbZ hD hL=>?_
 have hsZ:w5.heap.size+1 < Z.heap.size:=(Array.getElem?_eq_some_iff.1 hL).1
 have r1:=r1.below hbZ r1.lt
 have r2:=r2.below hbZ r2.lt
 have r3:=r3.below hbZ r3.lt
 have b3:=b3.below hbZ b3.lt
 have bl:=bl.below hbZ bl.lt
 have jZ:=j5.bel hbZ
 have hWZ:Below W.heap.size W Z:=hWb.trans (hbZ.mono hWb.size)
 have obW:∀ b,ob=some b→b < W.heap.size:=fun b e=>(h.mem.lt b e).2
 have hKS:∀ x,¬(x=J∨x=w1.heap.size∨x=w5.heap.size+1∨ob=some x)→¬CS J w1.heap.size (w5.heap.size+1) ob x:=fun x h=>h
 have hCSn:∀ x,W.heap.size≤x→x≠w1.heap.size→x≠w5.heap.size+1→¬CS J w1.heap.size (w5.heap.size+1) ob x:=fun x h1 h2 h3 e=>by
  rcases e with e|e|e|e
  · omega
  · exact h2 e
  · exact h3 e
  · have:=obW x e;omega
 refine (QRb (Zs:=Z.heap.size) hA hg hv w3.heap.size (w3.heap.size+1) (w3.heap.size+2) rfl r1 r2 r3 (hCSn _ (by omega) (by omega) (by omega)) (hCSn _ (by omega) (by omega) (by omega)) (hCSn _ (by omega) (by omega) (by omega)) bl.lt hsZ ⟨by omega,by omega⟩ (fun b e=>by have:=obW b e;exact⟨by omega,by omega⟩) (by omega) (by omega) jZ ⟨bl,World.ownsRow_nil ..,hL⟩ hn hm hm16 hp8 (ht.keep fun b hb=>hWZ.block b (by omega)) ?_).mono ?_
 · intro Wr c g' M' P' ob' m' p' k' n' vl l hkept hj hcon hZs hl hn' hct hap
   refine⟨fn,_,_,_,run_yield (args:=#[cyV c]) hcon.lop rfl,QR4 (base:=advB W.heap.size w1.heap.size which v (.func (.func 41) #[] #[pT w3.heap.size 0,pT (w3.heap.size+1) 0,pT (w3.heap.size+2) 0]) sl) (l:=[(15,cyV c)]) (by kernel_rfl) ⟨by show 15 < 40;omega,trivial⟩ ?_⟩
   have hJ':=hj.row.lt
   have hlr:=hcon.box.lt
   have rb3:Row Wr W.heap.size 58 #[pT J 0]:=hkept.row b3 (hCSn _ (by omega) (by omega) (by omega))
   have obr:=hj.mem.lt
   have vlr:=hcon.own.lt
   refine ciZ (QAx _) (Tame.thn fun _ _ h=>h) (qF [0] (Many.begin Wr) fun wa ka=>eiO ?_)
   have rC:Row wa Wr.heap.size 54 (cyC c):=ka.row 0 (cyC c).toList (by kernel_rfl)
   have hba:=ka.touch.below
   have hsa:=rC.lt
   have lopa:=(hba.block _ (Array.getElem?_eq_some_iff.1 hcon.lop).1).trans hcon.lop
   refine QO0 lopa rfl fun wb gb lopb=>ciB ?_
   have qb:=Kept.of_grown gb
   have hsb:=gb.size
   have qba:Kept (fun x=>x=w5.heap.size+1) Wr wb:=(Kept.of_below (S:=fun _=>False) hba).trans qb (fun _ e=>e.elim) fun x _ e=>by injection e with e;exact e.symm
   have hlob:w5.heap.size+1 < Wr.heap.size:=(Array.getElem?_eq_some_iff.1 hcon.lop).1
   have rb3b:Row wb W.heap.size 58 #[pT J 0]:=qba.row rb3 (by omega)
   have rCb:Row wb Wr.heap.size 54 (cyC c):=qb.row rC (fun e=>by injection e with e;omega)
   have jb:Jny B J wb g' M' P' ob' m' p' k' n':=hj.kept qba (fun b e=>by omega) (by omega) fun b e x=>(hap b e).2.1 x
   have hm3:=Many.three rb3b jb.row rCb (by omega) (by omega) (by omega)
   refine ciP (S:=Many wb [W.heap.size,J,Wr.heap.size] _) (QAx _) (Tame.blk fun _ _ h=>h) 7 hm3.drew (qD 0 [0] hm3.drew<|qD 1 [1,2,3] hm3.drew<|qD 2 [4,5] hm3.drew<|qT 6 hm3.drew (V:=.int .i64 (n'+c.t)) (fun w' _=>QOs (egI _ _ _ _ _ _) (QIH n' c.t (by omega) (by omega) _))<|poE<|qF [1] hm3.drew fun wc kc=>QNn<|ciR (QAx _) (Tame.blk fun _ _ h=>h) (qF [2] kc fun wd kd=>QNn<|ciI (c.kind != 7) (fun h7=>?_) fun h7=>QLQ<|eiB ?_))
   all_goals
    have rb3d:Row wd W.heap.size 58 #[pT J 0]:=kd.row 0 [pT J 0] (by kernel_rfl)
    have rJd:Row wd J 63 (XU g' M' P' k' (n'+c.t)):=kd.row 1 (XU g' M' P' k' (n'+c.t)).toList (by kernel_rfl)
    have rCd:Row wd Wr.heap.size 54 (cyC c):=kd.row 2 (cyC c).toList (by kernel_rfl)
    have qd:Kept (fun x=>x=w5.heap.size+1∨x=J) Wr wd:=(((qba.trans (Kept.of_touch kd.touch) (U:=fun x=>x=w5.heap.size+1∨x=W.heap.size∨x=J∨x=Wr.heap.size) (fun _ e=>.inl e) fun x _ e=>by
     simp only[List.mem_cons,List.not_mem_nil,or_false] at e
     exact .inr e).drop rb3 rb3d)).mono fun x hx e=>by omega
    have lopd:=((Kept.of_touch kd.touch).block (w5.heap.size+1) (by omega) (by simp;omega)).trans lopb
    have hsd:=qd.size
    have hlow:=hj.low
    have fin:∀ {w':World} {vl':Value} {l':List Cy},Kept (RS J w1.heap.size (w5.heap.size+1) vl) Wr w'→Row w' J 63 (XU g' M' P' k' (n'+c.t))→Jny B J w' g' M' P' ob' m' p' k' (n'+c.t):=fun q hr =>
     ⟨hr,hj.low,hj.mem.kept q hj.lt (fun b e=>by
      rcases e with e|e|e|e
      · omega
      · omega
      · omega
      · have:=(vlr b e).1;omega) (fun b e x=>by
      have:=hap b e
      rcases x with x|x|x|x
      · exact hj.off (x▸e)
      · exact this.1 x
      · exact this.2.1 x
      · exact this.2.2 x),hj.off,hj.por.kept q hj.lt fun b e=>by
      rcases e with e|e|e|e
      · omega
      · omega
      · omega
      · have:=(vlr b e).1;omega⟩
   · have e7:c.kind≠7:=by simpa using h7
     have boxd:Row wd w1.heap.size 31 #[vl]:=qd.row hcon.box (by omega)
     have ownd:wd.ownsRow Z.heap.size 54 4 vl l.length (QH l):=qd.own hcon.own fun x e c=>by have:=(vlr x e).1;omega
     obtain⟨Av,cv,rfl,hcv,-,hAv⟩:=qV hcon.own
     have qA:Below wd.heap.size wd (wd.alloc (.cells (QH [c]).toArray 54)):=Below.alloc (Below.refl _ _) (Nat.le_refl _) _
     refine ciZ (QAx _) (Tame.blk fun _ _ h=>h)<|wM (J3 (qU (boxd.cell 0)))<|wM (J3 (QMf rCd))<|wM (XD (QGc c wd)) <|
      QOt (.tmp 28) (.tmp 30) 31 54 4 24 (cyV JM) Z.heap.size (.slice Av l.length cv) l.length (QH l) ⟨wd.heap.size,0,none⟩ 1 1 (QH [c]) (by simp;omega) (own_below ownd qA) rfl (fun j u hu=>(Row.new wd 54 (QH [c]).toArray).values j u hu) (fun u hu=>QCx [c] u hu) (by omega) (by omega) fun vn wf own' gr hnew=>?_
     have e2:QH l++QH [c]=QH (l++[c]):=zg l [c]
     rw[e2] at own'
     have qf:=Kept.of_grown gr
     obtain⟨An,cn,rfl,hcn,-,hAn⟩:=qV own'
     have boxf:Row wf w1.heap.size 31 #[.slice Av l.length cv]:=qf.row (boxd.below qA boxd.lt) fun e=>by have:=(vlr _ e).1;omega
     refine qF [0] (Many.start boxf) fun wg kg=>eiO<|eiB ?_
     have qg:=Kept.of_touch kg.touch
     have lopf:wf.heap[w5.heap.size+1]?=_:=(qf.block (w5.heap.size+1) (by have:=qA.size;omega) fun e=>by have:=(vlr _ e).1;omega).trans ((qA.block _ (by omega)).trans lopd)
     have lopg:=(qg.block (w5.heap.size+1) (by have:=qA.size;have:=qf.size;omega) (by simp;omega)).trans lopf
     refine QPp lopg fun we ge lope=>?_
     have qx:Kept (RS J w1.heap.size (w5.heap.size+1) (.slice Av l.length cv)) Wr we:=(((qd.trans (Kept.of_below (S:=fun _=>False) qA) (U:=RS J w1.heap.size (w5.heap.size+1) (.slice Av l.length cv)) (fun x e=>by
      rcases e with e|e
      · exact .inr (.inr (.inl e))
      · exact .inl e) fun _ _ e=>e.elim).trans qf (fun _ e=>e) fun x _ e=>.inr (.inr (.inr e))).trans qg (fun _ e=>e) fun x _ e=>.inr (.inl (List.mem_singleton.1 e))).trans (Kept.of_grown ge) (fun _ e=>e) fun x _ e=>by injection e with e;exact .inr (.inr (.inl e.symm))
     have rJf:Row we J 63 (XU g' M' P' k' (n'+c.t)):=(Kept.of_grown ge).row (qg.row (qf.row (rJd.below qA rJd.lt) fun e=>by have:=(vlr _ e).1;omega) (by simp;omega)) fun e=>by injection e with e;omega
     have rBg:Row wg w1.heap.size 31 #[.slice An (l.length+1) cn]:=kg.row 0 [.slice An (l.length+1) cn] (by kernel_rfl)
     have hl7:QJH c l=l++[c]:=by unfold QJH;rw[if_neg e7]
     have nlt:∀ x,(Value.slice An (l.length+1) cn).ownBlock=some x→Z.heap.size≤x:=fun x e=>(own'.lt x e).1
     refine⟨rfl,.slice An (l.length+1) cn,fin (vl':=.slice An (l.length+1) cn) (l':=l) qx rJf,⟨(Kept.of_grown ge).row rBg fun e=>by injection e with e;omega,?_,lope⟩,qx,?_⟩
     · rw[hl7,List.length_append]
       exact (Kept.of_grown ge).own (qg.own own' fun x e c=>by have:=nlt x e;have:=List.mem_singleton.1 c;omega) fun x e c=>by injection c with c;have:=nlt x e;omega
     · rcases hnew with e|⟨y,e,hy⟩
       · exact .inl e
       · refine .inr ⟨y,e,?_⟩
         have:=qA.size
         omega
   · have e7:c.kind=7:=by simpa using h7
     refine QPp lopd fun we ge lope=>?_
     have qe:Kept (fun x=>x=w5.heap.size+1∨x=J) Wr we:=qd.trans (Kept.of_grown ge) (fun _ e=>e) fun x _ e=>by injection e with e;exact .inl e.symm
     refine⟨rfl,vl,fin (vl':=vl) (l':=l) (qe.mono fun x _ e=>?_) ((Kept.of_grown ge).row rJd fun e=>by injection e with e;omega),⟨qe.row hcon.box (by omega),?_,lope⟩,qe.mono fun x _ e=>?_,.inl rfl⟩
     · rcases e with e|e
       · exact .inr (.inr (.inl e))
       · exact .inl e
     · have:QJH c l=l:=by unfold QJH;rw[if_pos e7]
       rw[this]
       exact qe.own hcon.own fun x e c=>by have:=(vlr x e).1;omega
     · rcases e with e|e
       · exact .inr (.inr (.inl e))
       · exact .inl e
 · rintro e W3 ⟨he,M',P',ob',vl',j3,c3,k3,n3⟩
   obtain⟨W4,hend,g4⟩:=QJd (P:=Tryz.prog) c3.lop (by intro e;cases e) rfl
   refine⟨_,W4,he,hend,eiB<|eiTo (m:=0) ?_⟩
   have q4:=Kept.of_grown g4
   have hs3':=k3.size
   have hs4':=q4.size
   have obn:∀ b,ob'=some b→B≤b∧(b < W.heap.size∨Z.heap.size≤b):=fun b e=>⟨(j3.mem.lt b e).1,by
    rcases n3.ge e with e|e
    · exact .inl (obW b e)
    · exact .inr e⟩
   have hl4:¬(some (w5.heap.size+1)=some W.heap.size):=fun e=>by injection e with e;omega
   have rb4:Row W4 W.heap.size 58 #[pT J 0]:=q4.row (k3.row b3 (hCSn _ (by omega) (by omega) (by omega))) (fun e=>by injection e with e;omega)
   have j4:=j3.kept q4 (fun b e=>by injection e with e;omega) (fun e=>by injection e with e;omega) (fun b e x=>by injection x with x;have:=(obn b e).2;omega)
   have bx4:Row W4 w1.heap.size 31 #[vl']:=q4.row c3.box (fun e=>by injection e with e;omega)
   have vl4:∀ b,vl'.ownBlock=some b→Z.heap.size≤b:=fun b e=>(c3.own.lt b e).1
   have own4:=q4.own c3.own (fun b e x=>by injection x with x;have:=vl4 b e;omega)
   have hD4:W4.heap[w5.heap.size]?=some (.deferred (some [])):=(q4.block _ (by omega) (fun e=>by injection e with e;omega)).trans ((k3.block _ (by omega) (hCSn _ (by omega) (by omega) (by omega))).trans hD)
   have hT:∀ {R:Ending→World→Prop},(∀ w,¬R .outgrown w)→Tame (bodyPostM Fence.wide 0 Tryz.prog Tryz.f27 R):=fun hR a w h=>hR w h
   have hN:∀ w':World,¬(∃ A c,Ending.outgrown=.returned (.slice A (Jj ⟨g,m,p⟩ which v).l.length c)∧CysIn w' w'.heap.size A (Jj ⟨g,m,p⟩ which v).l∧(A=none→c=0)∧(Jj ⟨g,m,p⟩ which v).l.length≤c∧(∀ q,A=some q→W.heap.size≤q.block) ∧
    ∃ M' P' ob',Jny B J w' (qn g which (Jj ⟨g,m,p⟩ which v)) M' P' ob' (Jj ⟨g,m,p⟩ which v).m (Jj ⟨g,m,p⟩ which v).p (k+1) (n+(Jj ⟨g,m,p⟩ which v).n)∧Kept (JS J ob) W w'∧NewR W ob ob'):=fun w' ⟨A,c,he,_⟩=>by cases he
   refine ciR ZA (hT hN) (qR 4 [0,1] (Many.two rb4 j4.row (by omega)) fun wa ka=>kBj 36 (.int .i64 k) (.int .i64 1) (.int .i64 (k+1)) (egI _ _ _ _ _) (QIH _ _ (by omega) (by omega))<|qF [1] ka fun wb kb=>QNn ?_)
   have qb:=Kept.of_touch kb.touch
   have hsb:=qb.size
   have rJb:Row wb J 63 (XU (qn g which (Jj ⟨g,m,p⟩ which v)) M' P' (k+1) (n+(Jj ⟨g,m,p⟩ which v).n)):=kb.row 1 (XU (qn g which (Jj ⟨g,m,p⟩ which v)) M' P' (k+1) (n+(Jj ⟨g,m,p⟩ which v).n)).toList (by kernel_rfl)
   have memb:∀ x,x∈[W.heap.size,J]→x=W.heap.size∨x=J:=fun x h=>by simpa using h
   have bxb:Row wb w1.heap.size 31 #[vl']:=qb.row bx4 fun e=>by rcases memb _ e with e|e<;>omega
   have ownb:=qb.own own4 fun b e x=>by have:=vl4 b e;rcases memb _ x with x|x<;>omega
   have hDb:wb.heap[w5.heap.size]?=some (.deferred (some [])):=(qb.block _ (by omega) fun e=>by rcases memb _ e with e|e<;>omega).trans hD4
   obtain⟨A,cc,rfl,-,-,-⟩:=qV ownb
   refine ciR ZA (hT hN)<|wM (J3 (qU (bxb.cell 0)))<|qF [] (Many.begin wb) fun wc kc=>QNn<|QV0<|QUo (.slice A (Jj ⟨g,m,p⟩ which v).l.length cc) ((kc.touch.below.block _ (Array.getElem?_eq_some_iff.1 hDb).1).trans hDb) ?_
   have qp:Kept (fun x=>x=w5.heap.size) wc (wc.putObj w5.heap.size (.deferred none)):=.put _
   have hbc:=kc.touch.below
   have hsc:=hbc.size
   have ownc:=qp.own (own_below ownb hbc) fun b e x=>by have:=vl4 b e;have x:b=w5.heap.size:=x;omega
   obtain⟨A2,c2,e2,hle,hcy,hnn⟩:=qV ownc
   injection e2 with e2 e3 e4
   subst e2 e4
   have qJ:Kept (fun x=>x=W.heap.size∨x=J∨x=w5.heap.size) W4 (wc.putObj w5.heap.size (.deferred none)):=(qb.trans (Kept.of_below (S:=fun _=>False) hbc) (U:=fun x=>x=W.heap.size∨x=J∨x=w5.heap.size) (fun x e=>by rcases memb _ e with e|e<;>simp[e]) fun _ _ e=>e.elim).trans qp (fun _ e=>e) fun x _ e=>.inr (.inr e)
   refine⟨A,cc,rfl,hcy,hnn,hle,fun q e=>by have:=vl4 q.block (by rw[e];rfl);omega,M',P',ob',⟨qp.row (rJb.below hbc rJb.lt) (by show ¬J=_;omega),h.low,j4.mem.kept qJ (by omega) (fun b e=>by have:=h.low;omega) (fun b e x=>?_),j4.off,j4.por.kept qJ (by omega) (fun b e=>by have:=h.low;omega)⟩,?_,?_⟩
   · have hh:=(obn b e).2
     rcases x with x|x|x
     · omega
     · exact j4.off (x▸e)
     · omega
   · refine (((Kept.of_below (S:=JS J ob) hWZ).trans k3 (fun _ e=>e) fun x hx e=>?_).trans q4 (fun _ e=>e) fun x hx e=>by injection e with e;omega).trans qJ (fun _ e=>e) fun x hx e=>?_
     · rcases e with e|e|e|e
       · exact .inl e
       · omega
       · omega
       · exact .inr e
     · rcases e with e|e|e
       · omega
       · exact .inl e
       · omega
   · exact n3.trans (.inl rfl) (Nat.le_refl _) |> fun h=>by
      rcases h with h|⟨y,e,hy⟩
      · exact .inl h
      · exact .inr ⟨y,e,by omega⟩
end
def Gives (w:World)(m:List (Int×Int))(e:Ending)(w':World):Prop:=∃ A' c,e=.returned (.slice A' m.length c)∧CellsIn w' w'.heap.size A' m∧m.length≤c∧(A'=none→c=0)∧Below w.heap.size w w'
theorem QMv (A:Option Addr)(cap:Nat)(l:List (Int×Int))(a b:Int)(hl:l.length≤100000000)(h16:QL l)(ha:0≤a∧a≤65535)(hb:0≤b∧b≤255)(w:World)(hin:CellsIn w w.heap.size A l)(hn:A=none→cap=0) :
 Calls Tryz.prog 23 #[.slice A l.length cap,.int .u16 a,.int .u8 b] w fun e w'=>∃ v,e=.returned v∧w'.ownsRow w.heap.size 67 2 v (mkS (l++[(a,b)])).length (cvs (mkS (l++[(a,b)])))∧Below w.heap.size w w':=by
 go_enter Tryz.func23,Tryz.ntmps23
 refine JB<|qQ [] (Many.begin w) fun w1 k1=>qQ [] k1 fun w2 k2=>coR<|qR 2 [] k2 fun w3 k3=>qAc (.tmp 8) (.tmp 9) w.heap.size _ (.slice none 0 0) 0 [] A cap l k3.touch.size (World.ownsRow_nil ..) ((hin.below k3.touch.below).more k3.touch.size) hn (by omega) fun v4 w4 own4 g4=>?_
 have hB4:Below w.heap.size w w4:=XA k3.touch.below g4 (World.ownsRow_nil _ w.heap.size 67 2) (Nat.le_refl _) k3.touch.size
 rw[Nat.zero_add,List.nil_append] at own4
 refine qE [] (Many.begin w4) fun w5 k5=>coR<|qR 4 [] k5 fun w6 k6=>wM (XD (bsC a b w6))<|qAc (.tmp 11) (.tmp 15) w.heap.size _ v4 l.length l (some ⟨w6.heap.size,0,none⟩) 1 [(a,b)] (XT (bOn hB4 k6) _).size ((own_below own4 k6.touch.below).alloc _) (QAZ w6 a b _) (fun e=>by cases e) (by show l.length+1≤_;omega) fun v7 w7 own7 g7=>?_
 have hB7:=XA (XT (bOn hB4 k6) _) g7 ((own_below own4 k6.touch.below).alloc _) (Nat.le_refl _) (XT (bOn hB4 k6) _).size
 have e7:l.length+[(a,b)].length=(l++[(a,b)]).length:=by simp
 rw[e7] at own7
 refine qE [] (Many.begin w7) fun w8 k8=>coR<|qR 1 [] k8 fun w9 k9=>?_
 obtain⟨A9,c9,rfl,hc9,hci9,hn9⟩:=Qq (own_below own7 k9.touch.below)
 refine kX (zM A9 c9 (l++[(a,b)]) (by simp;omega) (QCR h16 fun c hc=>by simp at hc;rw[hc];exact⟨ha.1,ha.2,hb.1,hb.2⟩) w9 hci9) ?_
 rintro e wA ⟨v,rfl,g1,g4⟩
 exact⟨_,rfl,qE [] (Many.begin wA) fun wB kB=>JJ<|J8 v ⟨v,rfl,own_below (QAu g1 (bOn hB7 k9).size) kB.touch.below,bOn ((bOn hB7 k9).trans (g4.mono (bOn hB7 k9).size)) kB⟩⟩
def QSp (A:Option Addr)(n cap:Nat)(at_:Int)(A':Option Addr)(n' cap':Nat)(x:QTh):List Value:=[.slice A n cap,.int .u16 at_,.slice A' n' cap',x.y 3,x.y 4,x.y 5,x.y 6,x.v,.int .i64 (x.k:Int),x.y 9,x.y 10,x.y 11,x.y 12,x.y 13,x.y 14,x.y 15,x.y 16,x.y 17,x.y 18,x.y 19,x.y 20,x.y 21,x.y 22,x.y 23,x.y 24,x.y 25,x.y 26,x.y 27,x.y 28,x.y 29,x.y 30,x.y 31,x.y 32]
def QSV (w:World)(l:List (Int×Int))(at_:Int)(bs:List Int)(x:QTh)(W:World):Prop:=Below w.heap.size w W∧W.ownsRow w.heap.size 67 2 x.v (l.length+x.k) (cvs (l++X7 at_ (bs.take x.k)))∧x.k≤bs.length
theorem QLs (A:Option Addr)(cap:Nat)(l:List (Int×Int))(at_:Int)(A':Option Addr)(cap':Nat)(bs:List Int)(hl:l.length≤100000000)(h16:QL l)(ha:0≤at_∧at_≤65535)(hbl:bs.length≤65000)(hb:∀ b∈bs,0≤b∧b≤255)(w:World)(hin:CellsIn w w.heap.size A l)(hn:A=none→cap=0)(hy:BytesIn w w.heap.size A' bs) :
 Calls Tryz.prog 25 #[.slice A l.length cap,.int .u16 at_,.slice A' bs.length cap'] w (Gives w (mkS (l++X7 at_ bs))):=by
 go_enter Tryz.func25,Tryz.ntmps25
 refine JB<|qQ [] (Many.begin w) fun w1 k1=>qQ [] k1 fun w2 k2=>coR<|qR 2 [] k2 fun w3 k3=>qAc (.tmp 9) (.tmp 10) w.heap.size _ (.slice none 0 0) 0 [] A cap l k3.touch.size (World.ownsRow_nil ..) ((hin.below k3.touch.below).more k3.touch.size) hn (by omega) fun v4 w4 own4 g4=>?_
 have hB4:Below w.heap.size w w4:=XA k3.touch.below g4 (World.ownsRow_nil _ w.heap.size 67 2) (Nat.le_refl _) k3.touch.size
 rw[Nat.zero_add,List.nil_append] at own4
 refine qE [] (Many.begin w4) fun w5 k5=>coS<|qQ [] k5 fun w6 k6=>coB<|ZN (QSp A l.length cap at_ A' bs.length cap') (QSV w l at_ bs) (fun x=>bs.length-x.k) (fun y=>⟨0,v4,y⟩) ⟨bOn hB4 k6,?_,Nat.zero_le _⟩ ?_
 · have:=own_below own4 k6.touch.below
   show w6.ownsRow _ _ _ v4 (l.length+0) (cvs (l++X7 at_ (bs.take 0)))
   simpa [X7] using this
 rintro ⟨k,v,y⟩ W ⟨hB,hown,hk⟩
 have hk:k≤bs.length:=hk
 have hown:W.ownsRow w.heap.size 67 2 v (l.length+k) (cvs (l++X7 at_ (bs.take k))):=hown
 refine coS<|qQ [] (Many.begin W) fun wa ka=>coI (decide ((k:Int) < (bs.length:Int))) (fun hlt=>JE<|eoT<|coS<|coB<|?_) fun hge=>coX<|X8<|X8<|QAe<|eoT ?_
 · have hlt:k < bs.length:=by have:(k:Int) < (bs.length:Int):=by simpa using hlt
                              omega
   obtain⟨p,rfl⟩:=hy.addr hlt
   refine coZ<|qR 3 [] ka fun wb kb=>wM (QOs (QUv _ _ _ (k:Int) 65536 _) (QRx k (by omega) _))<|wM (QHP (QO7 (k:Int) (by omega) _))<|wM (QOs (QSX _ _ _ at_ (k:Int) _) (QVt at_ (k:Int) _))<|qR 2 [] kb fun wc kc=>wM (XF (ixB p bs.length cap' k hlt _))<|wM (J3 ((hy.below (bOn hB kc)).ld hlt))<|qR 1 [] kc fun wd kd=>wM (XD (bsC ((at_+(k:Int))%65536) bs[k] wd))<|qAc (.tmp 18) (.tmp 29) w.heap.size _ v (l.length+k) (l++X7 at_ (bs.take k)) (some ⟨wd.heap.size,0,none⟩) 1 [((at_+(k:Int))%65536,bs[k])] (XT (bOn hB kd) _).size ((own_below hown kd.touch.below).alloc _) (QAZ wd _ _ _) (fun e=>by cases e) (by show l.length+k+1≤_;omega) fun v' we own' g'=>?_
   have hBe:=XA (XT (bOn hB kd) _) g' ((own_below hown kd.touch.below).alloc _) (Nat.le_refl _) (XT (bOn hB kd) _).size
   refine qF [] (Many.begin we) fun wf kf=>eoB<|eoT<|coZ<|qR 1 [] kf fun wg kg=>wM (QA3 k (by omega))<|qF [] kg fun wh kh=>Qk (fun y=>⟨k+1,v',y⟩) ⟨bOn hBe kh,?_,hlt⟩ (by show bs.length-(k+1) < bs.length-k;omega)
   show wh.ownsRow _ _ _ v' (l.length+(k+1)) (cvs (l++X7 at_ (bs.take (k+1))))
   rw[QKo bs at_ ha k hlt,←List.append_assoc]
   exact own_below own' kh.touch.below
 · have hkl:k=bs.length:=by have:¬((k:Int) < (bs.length:Int)):=by simpa using hge
                            omega
   subst hkl
   rw[List.take_length] at hown
   have e7:l.length+bs.length=(l++X7 at_ bs).length:=by rw[List.length_append,QCX]
   rw[e7] at hown
   refine coR<|qR 1 [] ka fun wb kb=>?_
   obtain⟨A9,c9,rfl,hc9,hci9,hn9⟩:=Qq (own_below hown kb.touch.below)
   refine kX (QLr A9 c9 (l++X7 at_ bs) (by rw[←e7];omega) (QCR h16 (QHX bs at_ hb ha)) wb hci9) ?_
   rintro e wA ⟨A',c,rfl,g1,g2,g3,g4⟩
   refine⟨_,rfl,qE [] (Many.begin wA) fun wB kB=>JJ<|J8 (.slice A' (mkS (l++X7 at_ bs)).length c) ⟨A',c,rfl,(g1.below kB.touch.below).more kB.touch.size,g2,g3,bOn ((bOn hB kb).trans (g4.mono (bOn hB kb).size)) kB⟩⟩
end Go.Proofs.YtkgaeamdhhceiaaGreatDoor
