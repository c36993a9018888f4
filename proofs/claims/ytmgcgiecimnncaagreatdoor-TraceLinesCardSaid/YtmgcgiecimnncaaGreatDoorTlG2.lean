/- Contracts and facts that the claim's proof wants (several texts in one). -/
import Derived.OrdersHeld
import Derived.StillTail
import Derived.Test.YtmgcgiecimnncaaGreatDoorTlG1
namespace Go.Proofs.YtmgcgiecimnncaaGreatDoor
open Go.RowKit
set_option linter.unusedVariables false
set_option linter.unusedSimpArgs false
set_option maxRecDepth 20000
set_option maxHeartbeats 20000000
theorem QRW (P:Nat→Prop)(h:P 0∧P 1∧P 2∧P 3∧P 4∧P 5∧P 6∧P 7)(n:Nat)(hn:n < 8):P n:=by
 obtain⟨h0,h1,h2,h3,h4,h5,h6,h7⟩:=h
 match n,hn with
 | 0,_=>exact h0
 | 1,_=>exact h1
 | 2,_=>exact h2
 | 3,_=>exact h3
 | 4,_=>exact h4
 | 5,_=>exact h5
 | 6,_=>exact h6
 | 7,_=>exact h7
theorem QLz (b0 b1 b2 b3 b4 b5 b6 b7:Bool)(n:Nat)(hn:n < 8):isM (mkM b0 b1 b2 b3 b4 b5 b6 b7) (n:Int)=[b7,b6,b5,b4,b3,b2,b1,b0].getD n false:=by
 obtain⟨h0,h1,h2,h3,h4,h5,h6,h7⟩:=Zw b0 b1 b2 b3 b4 b5 b6 b7
 exact QRW (fun n=>isM (mkM b0 b1 b2 b3 b4 b5 b6 b7) (n:Int)=[b7,b6,b5,b4,b3,b2,b1,b0].getD n false) ⟨h7,h6,h5,h4,h3,h2,h1,h0⟩ n hn
theorem QQX (f o m:Int)(h0:0≤f)(h1:f≤255)(h2:0≤o)(h3:o≤255)(h4:0≤m)(h5:m≤255) :
 bits .or .u8 (bits .andNot .u8 f m) (bits .and .u8 o m)=Q1 f o m:=by
 have a:=QIw f m h0 h1 h4 h5
 have b:=QCL o m h2 h3 h4 h5
 have c:=QHF _ _ a.1 a.2 b.1 b.2
 have d:=QKQ f o m
 refine QJJ _ _ c.1 c.2 d.1 d.2 fun n hn=>?_
 rw[QO1 _ _ n hn a.1 a.2 b.1 b.2,QKj _ _ n hn h0 h1 h4 h5,QDr _ _ n hn h2 h3 h4 h5]
 unfold Q1
 rw[QLz _ _ _ _ _ _ _ _ n hn]
 refine QRW (fun n=>((isM f n&&!isM m n)||(isM o n&&isM m n))=[_,_,_,_,_,_,_,_].getD n false) ?_ n hn
 simp only[List.getD_cons_zero,List.getD_cons_succ,sel]
 refine⟨?_,?_,?_,?_,?_,?_,?_,?_⟩
 · cases isM m 0<;>simp
 · cases isM m 1<;>simp
 · cases isM m 2<;>simp
 · cases isM m 3<;>simp
 · cases isM m 4<;>simp
 · cases isM m 5<;>simp
 · cases isM m 6<;>simp
 · cases isM m 7<;>simp
theorem Xc (f o m:Int)(h0:0≤f)(h1:f≤255)(h2:0≤o)(h3:o≤255)(h4:0≤m)(h5:m≤255)(w:World) :
 Calls Tryz.prog 252 #[.int .u8 f,.int .u8 o,.int .u8 m] w fun e w'=>e=.returned (.int .u8 (Q1 f o m))∧w=w':=by
 have H:=Lib.hid (QQX f o m h0 h1 h2 h3 h4 h5)
 go_enter Tryz.func252,Tryz.ntmps252
 go_wp2
 go_ret
 exact⟨Jy H.out,rfl⟩
def fl (f:Int)(j:Nat):Bool:=isM f (7-(j:Int))
def kept (f o m:Int)(k j:Nat):Bool:=if j < k then sel (fl m j) (fl f j) (fl o j) else fl f j
def one (c:Bool):Int:=if c then 1 else 0
theorem XL (c:Bool):0≤one c∧one c≤1:=by cases c<;>decide
def QCK (n:Int):Bool:=decide (n < -128)||decide (127 < n)
def Xx (a b:Int)(c:Bool):Int:=(a+b+one c)%256
def ZF (a b:Int)(c:Bool):Int :=
 mkM (isM (Xx a b c) 7) (Xx a b c==0) (isM (Xx a b c) 5) (decide (15 < a%16+b%16+one c)) (isM (Xx a b c) 3) (QCK (JL a+JL b+one c)) false (decide (255 < a+b+one c))
def Qj (a b:Int)(c:Bool):Int:=(a-b-one c)%256
def Qm (a b:Int)(c:Bool):Int :=
 mkM (isM (Qj a b c) 7) (Qj a b c==0) (isM (Qj a b c) 5) (decide (a%16-b%16-one c < 0)) (isM (Qj a b c) 3) (QCK (JL a-JL b-one c)) true (decide (a-b-one c < 0))
def QJp (a b:Int):Int :=
 mkM (isM (Qj a b false) 7) (Qj a b false==0) (isM b 5) (decide (a%16-b%16-one false < 0)) (isM b 3) (QCK (JL a-JL b-one false)) true (decide (a-b-one false < 0))
def QIy (a f:Int):Int :=
 mkM (isM (Xx a 1 false) 7) (Xx a 1 false==0) (isM (Xx a 1 false) 5) (decide (15 < a%16+1%16+one false)) (isM (Xx a 1 false) 3) (QCK (JL a+JL 1+one false)) false (isM f 0)
def QJQ (a f:Int):Int :=
 mkM (isM (Qj a 1 false) 7) (Qj a 1 false==0) (isM (Qj a 1 false) 5) (decide (a%16-1%16-one false < 0)) (isM (Qj a 1 false) 3) (QCK (JL a-JL 1-one false)) true (isM f 0)
theorem QU (a b:Int)(c:Bool):B8 (Xx a b c):=by unfold Xx B8;omega
theorem QA (a b:Int)(c:Bool):B8 (Qj a b c):=by unfold Qj B8;omega
theorem Q8 (a b:Int)(c:Bool):B8 (ZF a b c):=QF ..
theorem QB (a b:Int)(c:Bool):B8 (Qm a b c):=QF ..
theorem QCf (a b:Int):B8 (QJp a b):=QF ..
theorem QGH (a b:Int):B8 (QIy a b):=QF ..
theorem QF7 (a b:Int):B8 (QJQ a b):=QF ..
def cK (a b:Int)(c:Bool)(k:Nat):Bool:=decide (2 ^ k≤a%2 ^ k+b%2 ^ k+one c)
theorem QTI (a b:Int)(c:Bool):cK a b c 0=c:=by
 unfold cK one
 cases c<;>simp<;>omega
theorem QTN (a b:Int)(c:Bool)(k:Nat)(hk:k < 8):cK a b c (k+1)=if cK a b c k then (isM a k||isM b k) else (isM a k&&isM b k):=by
 have key:=XL c
 refine QRW (fun k=>cK a b c (k+1)=if cK a b c k then (isM a k||isM b k) else (isM a k&&isM b k)) ?_ k hk
 unfold cK isM
 generalize one c=o at key ⊢
 refine⟨?_,?_,?_,?_,?_,?_,?_,?_⟩
 all_goals
  rw[Bool.eq_iff_iff]
  simp
  split<;>omega
def jw (a b:Int)(c:Bool):Nat→Int
 | 0=>0
 | k+1=>if cK a b c (k+1) then JU (jw a b c k) k true else jw a b c k
theorem QAn (a b:Int)(c:Bool):∀ k,B8 (jw a b c k)
 | 0=>B8.zero
 | k+1=>by
   unfold jw
   split
   · exact (QAn a b c k).with _ _
   · exact QAn a b c k
theorem QMY:∀ c1 c2 c3 c4 c5 c6 c7 c8:Bool,
 let w:=fun (x:Int) (k:Int) (c:Bool)=>if c then JU x k true else x
 let o:=w (w (w (w (w (w (w (w 0 0 c1) 1 c2) 2 c3) 3 c4) 4 c5) 5 c6) 6 c7) 7 c8
 isM o 3=c4∧isM o 6=c7∧isM o 7=c8:=by decide +kernel
theorem QRL (a b:Int)(c:Bool):isM (jw a b c 8) 3=cK a b c 4∧isM (jw a b c 8) 6=cK a b c 7∧isM (jw a b c 8) 7=cK a b c 8 :=
 QMY (cK a b c 1) (cK a b c 2) (cK a b c 3) (cK a b c 4) (cK a b c 5) (cK a b c 6) (cK a b c 7) (cK a b c 8)
theorem QTM (a b:Int)(c:Bool)(ha:B8 a)(hb:B8 b):cK a b c 4=decide (15 < a%16+b%16+one c)∧cK a b c 8=decide (255 < a+b+one c)∧(cK a b c 7 != cK a b c 8)=QCK (JL a+JL b+one c):=by
 obtain⟨a0,a1⟩:=ha
 obtain⟨b0,b1⟩:=hb
 have key:=XL c
 unfold cK QCK JL
 generalize one c=o at key ⊢
 refine⟨?_,?_,?_⟩
 · rw[Bool.eq_iff_iff];simp;omega
 · rw[Bool.eq_iff_iff];simp;omega
 · rw[Bool.eq_iff_iff]
   simp
   split<;>split<;>omega
def W16 (x:Int):Prop:=0≤x∧x≤65535
theorem W16.lo {x:Int}(h:W16 x):0≤x:=h.1
theorem W16.hi {x:Int}(h:W16 x):x≤65535:=h.2
theorem W16.low {x:Int}(h:W16 x):B8 (x%256):=by unfold B8;omega
theorem W16.high {x:Int}(h:W16 x):B8 (x / 256):=by obtain⟨h0,h1⟩:=h;unfold B8;omega
def Z0 (w:Int):Int:=if w < 32768 then w else w-65536
def QOO (n:Int):Bool:=decide (n < -32768)||decide (32767 < n)
def qi (a b:Int)(c:Bool):Int:=(a+b+one c)%65536
def QA8 (a b:Int)(c:Bool):Int:=(a-b-one c)%65536
def QJh (r:Int)(half over minus out:Bool):Int :=
 mkM (isM (r / 256) 7) (r==0) (isM (r / 256) 5) half (isM (r / 256) 3) over minus out
def QBD (a b:Int)(c:Bool):Int :=
 QJh (qi a b c) (decide (4095 < a%4096+b%4096+one c)) (QOO (Z0 a+Z0 b+one c)) false (decide (65535 < a+b+one c))
def QBy (a b:Int)(c:Bool):Int :=
 QJh (QA8 a b c) (decide (a%4096-b%4096-one c < 0)) (QOO (Z0 a-Z0 b-one c)) true (decide (a-b-one c < 0))
def QF0 (a b f:Int):Int :=
 mkM (isM f 7) (isM f 6) (isM (qi a b false / 256) 5) (decide (4095 < a%4096+b%4096)) (isM (qi a b false / 256) 3) (isM f 2) false (decide (65535 < a+b))
def JH (w y:Int):Int:=(w+y)%65536
theorem QGO (a b:Int)(c:Bool):B8 (QBD a b c):=QF ..
theorem QMq (a b:Int)(c:Bool):B8 (QBy a b c):=QF ..
theorem QKM (a b f:Int):B8 (QF0 a b f):=QF ..
def QBh (a b:Int)(c:Bool):Bool:=isM (ZF (a%256) (b%256) c) 0
def QBf (a b:Int)(c:Bool):Bool:=isM (Qm (a%256) (b%256) c) 0
theorem QFR (a b:Int)(c:Bool):isM (ZF a b c) 0=decide (255 < a+b+one c):=(Zw _ _ _ _ _ _ _ _).2.2.2.2.2.2.2
theorem QEq (a b:Int)(c:Bool):isM (Qm a b c) 0=decide (a-b-one c < 0):=(Zw _ _ _ _ _ _ _ _).2.2.2.2.2.2.2
theorem QDt (p:Prop) [Decidable p]:one (decide p)=if p then 1 else 0:=by unfold one;by_cases h:p<;>simp[h]
theorem QTy (x0 x1 x2 x3 x4 x5 x6 x7:Bool)(f:Int):Q1 (mkM x0 x1 x2 x3 x4 x5 x6 x7) f 64=mkM x0 (isM f 6) x2 x3 x4 x5 x6 x7:=by
 unfold Q1
 obtain⟨h0,h1,h2,h3,h4,h5,h6,h7⟩:=Zw x0 x1 x2 x3 x4 x5 x6 x7
 obtain⟨z0,z1,z2,z3,z4,z5,z6,z7⟩:isM 64 0=false∧isM 64 1=false∧isM 64 2=false∧isM 64 3=false∧isM 64 4=false∧isM 64 5=false∧isM 64 6=true∧isM 64 7=false:=by decide +kernel
 rw[h0,h1,h2,h3,h4,h5,h6,h7,z0,z1,z2,z3,z4,z5,z6,z7]
 rfl
theorem QS7 (x0 x1 x2 x3 x4 x5 x6 x7:Bool)(f:Int):Q1 (mkM x0 x1 x2 x3 x4 x5 x6 x7) f 196=mkM (isM f 7) (isM f 6) x2 x3 x4 (isM f 2) x6 x7:=by
 unfold Q1
 obtain⟨h0,h1,h2,h3,h4,h5,h6,h7⟩:=Zw x0 x1 x2 x3 x4 x5 x6 x7
 obtain⟨z0,z1,z2,z3,z4,z5,z6,z7⟩:isM 196 0=false∧isM 196 1=false∧isM 196 2=true∧isM 196 3=false∧isM 196 4=false∧isM 196 5=false∧isM 196 6=true∧isM 196 7=true:=by decide +kernel
 rw[h0,h1,h2,h3,h4,h5,h6,h7,z0,z1,z2,z3,z4,z5,z6,z7]
 rfl
theorem QJU (a b:Int)(c:Bool)(ha:W16 a)(hb:W16 b):256*Xx (a / 256) (b / 256) (QBh a b c)+Xx (a%256) (b%256) c=qi a b c:=by
 obtain⟨a0,a1⟩:=ha
 obtain⟨b0,b1⟩:=hb
 have key:=XL c
 unfold QBh
 rw[QFR]
 unfold Xx qi
 rw[QDt]
 split<;>omega
theorem QJK (a b:Int)(c:Bool)(ha:W16 a)(hb:W16 b):256*Qj (a / 256) (b / 256) (QBf a b c)+Qj (a%256) (b%256) c=QA8 a b c:=by
 obtain⟨a0,a1⟩:=ha
 obtain⟨b0,b1⟩:=hb
 have key:=XL c
 unfold QBf
 rw[QEq]
 unfold Qj QA8
 rw[QDt]
 split<;>omega
theorem QTu (x y:Int)(hx:B8 x)(hy:B8 y):(x==0&&y==0)=(256*x+y==0):=by
 obtain⟨x0,x1⟩:=hx
 obtain⟨y0,y1⟩:=hy
 rw[Bool.eq_iff_iff];simp;omega
theorem QMs (a b:Int)(c:Bool)(ha:W16 a)(hb:W16 b) :
 Q1 (ZF (a / 256) (b / 256) (QBh a b c)) (bits .and .u8 (ZF (a / 256) (b / 256) (QBh a b c)) (ZF (a%256) (b%256) c)) 64=QBD a b c:=by
 have hw:=QJU a b c ha hb
 have r1:=QU (a / 256) (b / 256) (QBh a b c)
 have r2:=QU (a%256) (b%256) c
 have z:isM (bits .and .u8 (ZF (a / 256) (b / 256) (QBh a b c)) (ZF (a%256) (b%256) c)) 6=(qi a b c==0):=by
  rw[←hw,←QTu _ _ r1 r2]
  have f1:=Q8 (a / 256) (b / 256) (QBh a b c)
  have f2:=Q8 (a%256) (b%256) c
  have:=QDr _ _ 6 (by omega) f1.1 f1.2 f2.1 f2.2
  rw[show ((6:Nat):Int)=6 from rfl] at this
  rw[this]
  exact congr (congrArg _ (Zw _ _ _ _ _ _ _ _).2.1) (Zw _ _ _ _ _ _ _ _).2.1
 have hh:Xx (a / 256) (b / 256) (QBh a b c)=qi a b c / 256:=by
  obtain⟨x0,x1⟩:=r2
  rw[←hw];omega
 generalize bits .and .u8 (ZF (a / 256) (b / 256) (QBh a b c)) (ZF (a%256) (b%256) c)=y at z ⊢
 unfold ZF
 rw[QTy,z,hh]
 unfold QBD QJh
 obtain⟨a0,a1⟩:=ha
 obtain⟨b0,b1⟩:=hb
 have key:=XL c
 have m:one (QBh a b c)=if 255 < a%256+b%256+one c then 1 else 0:=by unfold QBh;rw[QFR,QDt]
 have n4:decide (15 < a / 256%16+b / 256%16+one (QBh a b c))=decide (4095 < a%4096+b%4096+one c):=by
  rw[m,Bool.eq_iff_iff];simp;split<;>omega
 have n8:decide (255 < a / 256+b / 256+one (QBh a b c))=decide (65535 < a+b+one c):=by
  rw[m,Bool.eq_iff_iff];simp;split<;>omega
 have n7:QCK (JL (a / 256)+JL (b / 256)+one (QBh a b c))=QOO (Z0 a+Z0 b+one c):=by
  unfold QCK QOO JL Z0
  rw[m,Bool.eq_iff_iff]
  simp
  split<;>split<;>split<;>split<;>split<;>omega
 rw[n4,n8,n7]
theorem QMc (a b:Int)(c:Bool)(ha:W16 a)(hb:W16 b) :
 Q1 (Qm (a / 256) (b / 256) (QBf a b c)) (bits .and .u8 (Qm (a / 256) (b / 256) (QBf a b c)) (Qm (a%256) (b%256) c)) 64=QBy a b c:=by
 have hw:=QJK a b c ha hb
 have r1:=QA (a / 256) (b / 256) (QBf a b c)
 have r2:=QA (a%256) (b%256) c
 have z:isM (bits .and .u8 (Qm (a / 256) (b / 256) (QBf a b c)) (Qm (a%256) (b%256) c)) 6=(QA8 a b c==0):=by
  rw[←hw,←QTu _ _ r1 r2]
  have f1:=QB (a / 256) (b / 256) (QBf a b c)
  have f2:=QB (a%256) (b%256) c
  have:=QDr _ _ 6 (by omega) f1.1 f1.2 f2.1 f2.2
  rw[show ((6:Nat):Int)=6 from rfl] at this
  rw[this]
  exact congr (congrArg _ (Zw _ _ _ _ _ _ _ _).2.1) (Zw _ _ _ _ _ _ _ _).2.1
 have hh:Qj (a / 256) (b / 256) (QBf a b c)=QA8 a b c / 256:=by
  obtain⟨x0,x1⟩:=r2
  rw[←hw];omega
 generalize bits .and .u8 (Qm (a / 256) (b / 256) (QBf a b c)) (Qm (a%256) (b%256) c)=y at z ⊢
 unfold Qm
 rw[QTy,z,hh]
 unfold QBy QJh
 obtain⟨a0,a1⟩:=ha
 obtain⟨b0,b1⟩:=hb
 have key:=XL c
 have m:one (QBf a b c)=if a%256-b%256-one c < 0 then 1 else 0:=by unfold QBf;rw[QEq,QDt]
 have n4:decide (a / 256%16-b / 256%16-one (QBf a b c) < 0)=decide (a%4096-b%4096-one c < 0):=by
  rw[m,Bool.eq_iff_iff];simp;split<;>omega
 have n8:decide (a / 256-b / 256-one (QBf a b c) < 0)=decide (a-b-one c < 0):=by
  rw[m,Bool.eq_iff_iff];simp;split<;>omega
 have n7:QCK (JL (a / 256)-JL (b / 256)-one (QBf a b c))=QOO (Z0 a-Z0 b-one c):=by
  unfold QCK QOO JL Z0
  rw[m,Bool.eq_iff_iff]
  simp
  split<;>split<;>split<;>split<;>split<;>omega
 rw[n4,n8,n7]
theorem QMv (a b f:Int):Q1 (QBD a b false) f 196=QF0 a b f:=by
 unfold QBD QJh
 rw[QS7]
 have o:one false=0:=rfl
 unfold QF0
 rw[o,Int.add_zero,Int.add_zero]
def QFB (op:Bool→Bool→Bool)(a b:Int):Int :=
 mkM (op (isM a 7) (isM b 7)) (op (isM a 6) (isM b 6)) (op (isM a 5) (isM b 5)) (op (isM a 4) (isM b 4)) (op (isM a 3) (isM b 3)) (op (isM a 2) (isM b 2)) (op (isM a 1) (isM b 1)) (op (isM a 0) (isM b 0))
theorem J6 (op:Bool→Bool→Bool)(a b:Int):B8 (QFB op a b):=QF ..
def upM (b0 b1 b2 b3 b4 b5 b6 b7:Bool):Int :=
 JU (JU (JU (JU (JU (JU (JU (JU 0 0 b0) 1 b1) 2 b2) 3 b3) 4 b4) 5 b5) 6 b6) 7 b7
theorem QPL:∀ b0 b1 b2 b3 b4 b5 b6 b7:Bool,upM b0 b1 b2 b3 b4 b5 b6 b7=mkM b7 b6 b5 b4 b3 b2 b1 b0:=by decide +kernel
def andB (x y:Bool):Bool:=x&&y
def orB (x y:Bool):Bool:=x||y
def QU0 (x y:Bool):Bool:=x != y
def QDe (a b:Int):Int:=QFB andB a b
def orR (a b:Int):Int:=QFB orB a b
def zc (a b:Int):Int:=QFB QU0 a b
def QBm (r:Int):Int:=mkM (isM r 7) (r==0) (isM r 5) true (isM r 3) (jz r) false false
theorem QBb (r:Int):B8 (QBm r):=QF ..
theorem QNI:∀ x:Fin 256,bits .or .u8 (J2 (x.val:Int)) 16=QBm (x.val:Int):=by decide +kernel
theorem QNE (r:Int)(h:B8 r):bits .or .u8 (J2 r) 16=QBm r:=Ji (P:=fun r=>bits .or .u8 (J2 r) 16=QBm r) QNI r h.1 h.2
def Xy (f a:Int)(h n c:Bool):Int:=mkM (isM f 7) (isM f 6) (isM a 5) h (isM a 3) (isM f 2) n c
theorem Qh (f a:Int)(h n c:Bool):B8 (Xy f a h n c):=QF ..
def QK5 (a f:Int):Int:=Xy f (255-a) true true (isM f 0)
def QHS (a f:Int):Int:=Xy f a false false true
def QHA (a f:Int):Int:=Xy f a (isM f 0) false (!isM f 0)
theorem QA5 (b f:Int):Q1 (JV b) f 196=Xy f b false false false:=by
 obtain⟨z0,z1,z2,z3,z4,z5,z6,z7⟩:isM 196 0=false∧isM 196 1=false∧isM 196 2=true∧isM 196 3=false∧isM 196 4=false∧isM 196 5=false∧isM 196 6=true∧isM 196 7=true:=by decide +kernel
 obtain⟨e7,e6,e5,e4,e3,e2,e1,e0⟩:isM (JV b) 7=_∧isM (JV b) 6=_∧isM (JV b) 5=_∧isM (JV b) 4=_∧isM (JV b) 3=_∧isM (JV b) 2=_∧isM (JV b) 1=_∧isM (JV b) 0=_:=Zw _ _ _ _ _ _ _ _
 unfold Q1 Xy
 rw[z0,z1,z2,z3,z4,z5,z6,z7,e0,e1,e3,e4,e5]
 rfl
theorem QGU:∀ b0 b1 b2 b3 b4 b5 b6 b7:Bool,bits .or .u8 (mkM b0 b1 b2 b3 b4 b5 b6 b7) 1=mkM b0 b1 b2 b3 b4 b5 b6 true∧bits .or .u8 (mkM b0 b1 b2 b3 b4 b5 b6 b7) 16=mkM b0 b1 b2 true b4 b5 b6 b7∧bits .or .u8 (mkM b0 b1 b2 b3 b4 b5 b6 b7) 2=mkM b0 b1 b2 b3 b4 b5 true b7∧bits .or .u8 (mkM b0 b1 b2 b3 b4 b5 b6 b7) 0=mkM b0 b1 b2 b3 b4 b5 b6 b7:=by decide +kernel
theorem QTl:∀ x:Fin 256,bits .and .u8 (x.val:Int) 1=one (isM (x.val:Int) 0):=by decide +kernel
theorem ze (f:Int)(h:B8 f):bits .and .u8 f 1=one (isM f 0):=Ji (P:=fun f=>bits .and .u8 f 1=one (isM f 0)) QTl f h.1 h.2
theorem or_one (b0 b1 b2 b3 b4 b5 b6 c:Bool):bits .or .u8 (mkM b0 b1 b2 b3 b4 b5 b6 false) (one c)=mkM b0 b1 b2 b3 b4 b5 b6 c:=by
 cases c
 · exact (QGU b0 b1 b2 b3 b4 b5 b6 false).2.2.2
 · exact (QGU b0 b1 b2 b3 b4 b5 b6 false).1
theorem QPl (a f:Int)(hf:B8 f):bits .or .u8 (bits .or .u8 (bits .or .u8 (Q1 (JV (255-a)) f 196) (bits .and .u8 f 1)) 16) 2=QK5 a f:=by
 rw[QA5,ze f hf]
 unfold Xy QK5 Xy
 rw[or_one,(QGU _ _ _ _ _ _ _ _).2.1,(QGU _ _ _ _ _ _ _ _).2.2.1]
theorem QQr (a f:Int):bits .or .u8 (Q1 (JV a) f 196) 1=QHS a f:=by
 rw[QA5]
 unfold Xy QHS Xy
 rw[(QGU _ _ _ _ _ _ _ _).1]
theorem QUg (a f:Int)(h:isM f 0=false):QHS a f=QHA a f:=by
 unfold QHS QHA
 rw[h]
 rfl
theorem QTf (a f:Int)(h:isM f 0=true):bits .or .u8 (Q1 (JV a) f 196) 16=QHA a f:=by
 rw[QA5]
 unfold Xy QHA Xy
 rw[h,(QGU _ _ _ _ _ _ _ _).2.1]
 rfl
def QEc (a f:Int):Bool:=isM f 4||decide (9 < a%16)
def zK (a f:Int):Bool:=isM f 0||decide (153 < a)
def byM (a f:Int):Int:=(if QEc a f then 6 else 0)+(if zK a f then 96 else 0)
def jf (a f:Int):Int:=if isM f 1 then (a-byM a f)%256 else (a+byM a f)%256
def QLG (a f:Int):Int :=
 mkM (isM (jf a f) 7) (jf a f==0) (isM (jf a f) 5) (isM a 4 != isM (jf a f) 4) (isM (jf a f) 3) (jz (jf a f)) (isM f 1) (zK a f)
theorem zN (a f:Int):B8 (jf a f):=by unfold jf B8;split<;>omega
theorem QDB (a f:Int):B8 (QLG a f):=QF ..
theorem QPd (a f:Int):0≤byM a f∧byM a f≤102:=by unfold byM;split<;>split<;>omega
def inM (kind b f:Int):Bool :=
 if kind=0 then isM b 7 else if kind=1 then isM b 0 else if kind=2 then isM f 0 else if kind=3 then isM f 0 else
 if kind=4 then false else if kind=5 then isM b 7 else if kind=6 then true else false
def jR (kind b:Int):Bool:=if kind%2=0 then isM b 7 else isM b 0
def shlM (b:Int)(i:Bool):Int:=JU (XE b 1) 0 i
def shrM (b:Int)(i:Bool):Int:=JU (XE b (-1)) 7 i
def shM (kind b f:Int):Int:=if kind%2=0 then shlM b (inM kind b f) else shrM b (inM kind b f)
def doR (kind b f:Int):Int:=if 0≤kind∧kind < 8 then shM kind b f else b
def doF (kind b f:Int):Int:=if 0≤kind∧kind < 8 then JU (J2 (shM kind b f)) 0 (jR kind b) else f
def QHN (kind b f:Int):Int:=if 0≤kind∧kind < 4 then shM kind b f else b
def QHm (kind b f:Int):Int:=if 0≤kind∧kind < 4 then Xy f (shM kind b f) false false (jR kind b) else f
theorem QBn (kind b f:Int)(hb:B8 b):B8 (shM kind b f):=by
 unfold shM shlM shrM
 split
 · exact B8.with (Qv b 1 hb.1 hb.2) _ _
 · exact B8.with (Qv b (-1) hb.1 hb.2) _ _
theorem QPx (kind b f:Int)(hb:B8 b):B8 (doR kind b f):=by
 unfold doR
 split
 · exact QBn _ _ _ hb
 · exact hb
theorem QOg (kind b f:Int)(hf:B8 f):B8 (doF kind b f):=by
 unfold doF
 split
 · exact B8.with (Qs _) _ _
 · exact hf
theorem QDA (kind b f:Int)(hb:B8 b):B8 (QHN kind b f):=by
 unfold QHN
 split
 · exact QBn _ _ _ hb
 · exact hb
theorem QCs (kind b f:Int)(hf:B8 f):B8 (QHm kind b f):=by
 unfold QHm
 split
 · exact Qh ..
 · exact hf
def QBl (r:Int)(c:Bool):Int:=JU (J2 r) 0 c
theorem QBZ (r:Int)(c:Bool):B8 (QBl r c):=B8.with (Qs r) _ _
theorem mk_c:∀ b0 b1 b2 b3 b4 b5 b6 c:Bool,JU (mkM b0 b1 b2 b3 b4 b5 b6 false) 0 c=mkM b0 b1 b2 b3 b4 b5 b6 c:=by decide +kernel
theorem QHi (r:Int)(c:Bool):bits .or .u8 (J2 r) (one c)=QBl r c:=by
 unfold QBl J2
 rw[or_one,mk_c]
theorem QQJ (r f:Int)(c:Bool):bits .or .u8 (Q1 (JV r) f 196) (one c)=Xy f r false false c:=by
 rw[QA5]
 unfold Xy
 rw[or_one]
def QB7 (right:Bool)(a b:Int):Int:=a / 16*16+(if right then b%16 else b / 16)
def QKB (right:Bool)(a b:Int):Int:=(if right then a%16 else b%16)*16+(if right then b / 16 else a%16)
theorem zP (right:Bool)(a b:Int)(ha:B8 a)(hb:B8 b):B8 (QB7 right a b):=by
 have a0:=ha.1;have a1:=ha.2;have b0:=hb.1;have b1:=hb.2
 cases right<;>(simp only[QB7,B8,if_true,if_false,Bool.false_eq_true];omega)
theorem QM6 (right:Bool)(a b:Int)(ha:B8 a)(hb:B8 b):B8 (QKB right a b):=by
 have a0:=ha.1;have a1:=ha.2;have b0:=hb.1;have b1:=hb.2
 cases right<;>(simp only[QKB,B8,if_true,if_false,Bool.false_eq_true];omega)
theorem QQC:∀ x:Fin 256,bits .and .u8 (x.val:Int) 15=(x.val:Int)%16∧bits .andNot .u8 (x.val:Int) 15=(x.val:Int) / 16*16:=by decide +kernel
theorem QHz (b:Int)(hb:B8 b):bits .and .u8 b 15=b%16∧bits .andNot .u8 b 15=b / 16*16 :=
 Ji (P:=fun b=>bits .and .u8 b 15=b%16∧bits .andNot .u8 b 15=b / 16*16) QQC b hb.1 hb.2
theorem QNM:∀ x y:Fin 16,bits .or .u8 ((x.val:Int)*16) (y.val:Int)=(x.val:Int)*16+(y.val:Int):=by decide +kernel
theorem QAg (x y:Int)(h0:0≤x)(h1:x < 16)(h2:0≤y)(h3:y < 16):bits .or .u8 (x*16) y=x*16+y:=by
 have:=QNM ⟨x.toNat,by omega⟩ ⟨y.toNat,by omega⟩
 simpa [Int.toNat_of_nonneg h0,Int.toNat_of_nonneg h2] using this
def QDm (n b lines f:Int):Int:=mkM ((n==7)&&isM b n) (!isM b n) (isM lines 5) true (isM lines 3) (!isM b n) false (isM f 0)
theorem QF4 (n b lines f:Int):B8 (QDm n b lines f):=QF ..
def QH9 (lines f:Int):Int:=mkM false false (isM lines 5) true (isM lines 3) false false (isM f 0)
theorem or16:∀ c:Bool,bits .or .u8 16 (one c)=mkM false false false true false false false c:=by decide +kernel
theorem QQj (lines f:Int)(hf:B8 f):Q1 (bits .or .u8 16 (bits .and .u8 f 1)) lines 40=QH9 lines f:=by
 obtain⟨z0,z1,z2,z3,z4,z5,z6,z7⟩:isM 40 0=false∧isM 40 1=false∧isM 40 2=false∧isM 40 3=true∧isM 40 4=false∧isM 40 5=true∧isM 40 6=false∧isM 40 7=false:=by decide +kernel
 rw[ze f hf,or16]
 obtain⟨e7,e6,e5,e4,e3,e2,e1,e0⟩:=Zw false false false true false false false (isM f 0)
 unfold Q1 QH9
 rw[z0,z1,z2,z3,z4,z5,z6,z7,e0,e1,e2,e4,e6,e7]
 rfl
theorem QRK:∀ y x c:Bool,bits .or .u8 (bits .or .u8 (mkM false false y true x false false c) 64) 4=mkM false true y true x true false c∧bits .or .u8 (mkM false false y true x false false c) 128=mkM true false y true x false false c:=by decide +kernel
theorem QUf (n b lines f:Int)(h:isM b n=false):bits .or .u8 (bits .or .u8 (QH9 lines f) 64) 4=QDm n b lines f:=by
 unfold QDm QH9
 rw[h,(QRK _ _ _).1]
 simp
theorem QMw (b lines f:Int)(h:isM b 7=true):bits .or .u8 (QH9 lines f) 128=QDm 7 b lines f:=by
 unfold QDm QH9
 rw[h,(QRK _ _ _).2]
 rfl
theorem QRp (n b lines f:Int)(h:isM b n=true)(hn:¬n=7):QH9 lines f=QDm n b lines f:=by
 unfold QDm QH9
 rw[h,show (n==7)=false from by simpa using hn]
 rfl
def QFz (a b:Int):Int:=(a+b)%256
theorem QJt (a b:Int):B8 (QFz a b):=by unfold QFz B8;omega
def lessM (a b:Int):Int:=if isM (Qm a b false) 4 then (Qj a b false+255)%256 else Qj a b false
theorem QK1 (a b:Int):B8 (lessM a b):=by
 unfold lessM
 split
 · unfold B8;omega
 · exact QA ..
theorem QNK (a b:Int)(h:isM (Qm a b false) 4=true):(Qj a b false+255)%256=lessM a b:=by unfold lessM;rw[if_pos h]
theorem QK8 (a b:Int)(h:isM (Qm a b false) 4=true):(Qj a b false-1)%256=lessM a b:=by
 rw[←QNK a b h];omega
theorem QPE (a b:Int)(h:isM (Qm a b false) 4=false):Qj a b false=lessM a b:=by unfold lessM;rw[if_neg (by simp[h])]
def moveF (a b bc f:Int):Int:=mkM (isM f 7) (isM f 6) (isM (QFz a b) 1) false (isM (QFz a b) 3) (bc != 0) false (isM f 0)
def QI2 (a b bc f:Int):Int :=
 mkM (isM (Qm a b false) 7) (isM (Qm a b false) 6) (isM (lessM a b) 1) (isM (Qm a b false) 4) (isM (lessM a b) 3) (bc != 0) true (isM f 0)
def QCE (b k left:Int):Int :=
 mkM (isM left 7) (left==0) (isM left 5) (decide (255 < k)) (isM left 3) (jz (zc (k%8) left)) (isM b 7) (decide (255 < k))
def byC (c s:Int):Int:=(c+s)%256
theorem QPN (c s:Int):B8 (byC c s):=by unfold byC B8;omega
theorem QLH (a b bc f:Int):B8 (moveF a b bc f):=QF ..
theorem QKC (a b bc f:Int):B8 (QI2 a b bc f):=QF ..
theorem QEh (b k left:Int):B8 (QCE b k left):=QF ..
def Jz (kind f:Int):Bool :=
 if kind=0 then isM f 2 else if kind=1 then isM f 2&&!isM f 6 else if kind=2 then !isM f 6 else if kind=3 then !isM f 6 else false
theorem QJ9 (kind f:Int)(h:kind < 0∨4≤kind):Jz kind f=false:=by
 unfold Jz
 repeat (rw[if_neg (by omega)])
theorem QMJ (a b:Int)(ha:B8 a)(hb:B8 b):bits .xor .u8 a b=zc a b:=by
 have q:=QId a b ha.1 ha.2 hb.1 hb.2
 have r:B8 (zc a b):=J6 ..
 refine QJJ _ _ q.1 q.2 r.1 r.2 fun n hn=>?_
 rw[QL2 a b n hn ha.1 ha.2 hb.1 hb.2]
 unfold zc QFB
 rw[QLz _ _ _ _ _ _ _ _ n hn]
 refine QRW (fun n=>(isM a n ^^ isM b n)=[_,_,_,_,_,_,_,_].getD n false) ?_ n hn
 simp only[List.getD_cons_zero,List.getD_cons_succ,QU0]
 exact⟨rfl,rfl,rfl,rfl,rfl,rfl,rfl,rfl⟩
structure Ms where
 r:Rg
 plane:Int
 x:Int
 y:Int
 z:Int
 p:Int
 q:Int
 spot:Int
 near:Bool
structure MsB (s:Ms):Prop where
 r:RgB s.r
 plane:s.plane=0∨s.plane=3∨s.plane=4
 x:0≤s.x∧s.x≤3
 y:0≤s.y∧s.y≤7
 z:0≤s.z∧s.z≤7
 p:0≤s.p∧s.p≤3
 q:0≤s.q∧s.q≤1
 spot:Wd16 s.spot
def QJb (c:Cy)(s:Ms):Tr (Int×Ms):=.ask c fun b=>.done (b,s)
def Z6 (a:Int)(s:Ms):Tr (Int×Ms):=QJb ⟨2,a,0,3⟩ s
def Xv (a b:Int)(s:Ms):Tr Ms:=(QJb ⟨3,a,b,3⟩ s).bind fun b=>.done b.2
def inN (a:Int)(s:Ms):Tr (Int×Ms):=QJb ⟨4,a,0,4⟩ s
def QJ5 (a b:Int)(s:Ms):Tr Ms:=(QJb ⟨5,a,b,4⟩ s).bind fun b=>.done b.2
def J1 (n:Int)(s:Ms):Tr Ms:=(QJb ⟨7,0,0,n⟩ s).bind fun b=>.done b.2
def Ms.pc (s:Ms)(v:Int):Ms:={ s with r:={ s.r with pc:=v } }
def Ms.sp (s:Ms)(v:Int):Ms:={ s with r:={ s.r with sp:=v } }
def Ms.wz (s:Ms)(v:Int):Ms:={ s with r:={ s.r with wz:=v } }
def Ms.af (s:Ms)(a f:Int):Ms:={ s with r:={ s.r with af:=256*a+f } }
def Ms.pcUp (s:Ms):Ms:=s.pc ((s.r.pc+1)%65536)
def Zz (s:Ms):Tr (Int×Ms):=(QJb ⟨1,s.r.pc,0,4⟩ s).bind fun b=>.done (b.1,{ b.2 with r:=jB b.2.r 1 })
def Zi (s:Ms):Tr (Int×Ms):=(Zz s).bind fun b=>.done (b.1,b.2.pcUp)
def Xq (s:Ms):Tr (Int×Ms):=(Z6 s.r.pc s).bind fun b=>.done (b.1,b.2.pcUp)
def qs (s:Ms):Tr (Int×Ms):=(Xq s).bind fun l=>(Xq l.2).bind fun h=>.done (256*h.1+l.1,h.2)
def zk (a:Int)(s:Ms):Tr (Int×Ms):=(Z6 a s).bind fun l=>(Z6 ((a+1)%65536) l.2).bind fun h=>.done (256*h.1+l.1,h.2)
def Ms.spDown (s:Ms):Ms:=s.sp ((s.r.sp-1)%65536)
def QDO (w:Int)(s:Ms):Tr Ms:=(Xv s.spDown.r.sp (w / 256) s.spDown).bind fun s=>Xv s.spDown.r.sp (w%256) s.spDown
def QGm (s:Ms):Tr (Int×Ms):=(zk s.r.sp s).bind fun w=>.done (w.1,w.2.sp ((w.2.r.sp+2)%65536))
def Ms.goTo (s:Ms)(w:Int):Ms:=(s.pc w).wz w
def Ms.a (s:Ms):Int:=s.r.af / 256
def Ms.f (s:Ms):Int:=s.r.af%256
def Ms.setA (s:Ms)(a:Int):Ms:=s.af a s.f
def Ms.setF (s:Ms)(f:Int):Ms:=s.af s.a f
def Ms.carry (s:Ms):Int:=one (isM s.f 0)
def Ms.hl (s:Ms):Int:=ZY s.r s.plane 2
def Ms.setHL (s:Ms)(w:Int):Ms:={ s with r:=XO s.r s.plane 2 w }
def Ms.pair (s:Ms):Int:=ZY s.r s.plane s.p
def Ms.setPair (s:Ms)(w:Int):Ms:={ s with r:=XO s.r s.plane s.p w }
def QC1 (k:Int)(s:Ms):Tr (Int×Ms):=if k=6 then Z6 s.spot s else .done (QBT s.r s.plane k,s)
def QEj (k b:Int)(s:Ms):Tr Ms:=if k=6 then Xv s.spot b s else .done { s with r:=QHn s.r s.plane k b }
def Ms.left (s:Ms):Int:=(QBT s.r s.plane 0-1)%256
def Ms.lessB (s:Ms):Ms:={ s with r:=QHn s.r s.plane 0 s.left }
def QNj (s:Ms):Tr Ms:=(Xq s).bind fun n=>.done { n.2.wz (JH s.hl (JL n.1)) with spot:=JH s.hl (JL n.1),near:=true,plane:=0 }
def Ms.split (s:Ms)(c:Int):Ms:={ s with x:=fx c,y:=fy c,z:=fz c,p:=fp c,q:=fq c }
def Ms.holds (s:Ms)(c:Int):Bool:=QGY s.f c
def zg (holds:Bool)(s:Ms):Tr Ms:=(Xq s).bind fun e=>if holds then (J1 5 e.2).bind fun s=>.done (s.goTo (JH s.r.pc (JL e.1))) else .done e.2
def QBe (s:Ms):Tr Ms :=
 if s.y=0 then .done s else if s.y=1 then .done { s with r:=QLx s.r } else
 if s.y=2 then (J1 1 s).bind fun s=>zg (s.left != 0) s.lessB else
 if s.y=3 then zg true s else zg (s.holds (s.y-4)) s
def jr (s:Ms):Tr Ms :=
 if s.q=0 then (qs s).bind fun w=>.done (w.2.setPair w.1) else
 (J1 7 s).bind fun s =>
   let t:=s.wz ((s.hl+1)%65536)
   .done ((t.setHL (qi t.hl t.pair false)).setF (QF0 t.hl t.pair t.f))
def QLF (s:Ms)(at_:Int):Ms:=s.wz (256*s.a+(at_%256+1)%256)
def QAb (at_:Int)(s:Ms):Tr Ms:=(Xv at_ s.a s).bind fun s=>.done (QLF s at_)
def QC4 (at_:Int)(s:Ms):Tr Ms:=(Z6 at_ s).bind fun b=>.done ((b.2.setA b.1).wz ((at_+1)%65536))
def Zo (at_ w:Int)(s:Ms):Tr Ms:=(Xv at_ (w%256) s).bind fun s=>(Xv ((at_+1)%65536) (w / 256) s).bind fun s=>.done (s.wz ((at_+1)%65536))
def jI (at_:Int)(s:Ms):Tr (Int×Ms):=(zk at_ s).bind fun w=>.done (w.1,w.2.wz ((at_+1)%65536))
def X3 (s:Ms):Tr Ms :=
 if s.y=0∨s.y=2 then QAb s.pair s else if s.y=1∨s.y=3 then QC4 s.pair s else
 if s.y=4 then (qs s).bind fun w=>Zo w.1 w.2.hl w.2 else
 if s.y=5 then (qs s).bind fun w=>(jI w.1 w.2).bind fun v=>.done (v.2.setHL v.1) else
 if s.y=6 then (qs s).bind fun w=>QAb w.1 w.2 else
 if s.y=7 then (qs s).bind fun w=>QC4 w.1 w.2 else .done s
def zS (s:Ms):Tr Ms:=(J1 2 s).bind fun s=>if s.q=0 then .done (s.setPair ((s.pair+1)%65536)) else .done (s.setPair ((s.pair-1)%65536))
def zi (d:Bool)(s:Ms):Tr Ms:=(QC1 s.y s).bind fun b=>(if b.2.y=6 then J1 1 b.2 else .done b.2).bind fun s =>
 QEj s.y (if d then Qj b.1 1 false else Xx b.1 1 false) (s.setF (if d then QJQ b.1 s.f else QIy b.1 s.f))
def Z4 (s:Ms):Tr Ms:=(Xq s).bind fun n=>(if n.2.near then J1 2 n.2 else .done n.2).bind fun s=>QEj s.y n.1 s
def X9 (s:Ms):Ms :=
 if s.y=4 then s.af (jf s.a s.f) (QLG s.a s.f) else if s.y=5 then s.af (255-s.a) (QK5 s.a s.f) else
 if s.y=6 then s.af s.a (QHS s.a s.f) else if s.y=7 then s.af s.a (QHA s.a s.f) else s.af (QHN s.y s.a s.f) (QHm s.y s.a s.f)
def Qy (b:Int)(s:Ms):Ms :=
 if s.y=0 then s.af (Xx s.a b false) (ZF s.a b false) else if s.y=1 then s.af (Xx s.a b (s.carry != 0)) (ZF s.a b (s.carry != 0)) else
 if s.y=2 then s.af (Qj s.a b false) (Qm s.a b false) else if s.y=3 then s.af (Qj s.a b (s.carry != 0)) (Qm s.a b (s.carry != 0)) else
 if s.y=4 then s.af (QDe s.a b) (QBm (QDe s.a b)) else if s.y=5 then s.af (zc s.a b) (J2 (zc s.a b)) else
 if s.y=6 then s.af (orR s.a b) (J2 (orR s.a b)) else if s.y=7 then s.af s.a (QJp s.a b) else s.af s.a s.f
def QAJ (s:Ms):Tr Ms :=
 if s.z=0 then QBe s else if s.z=1 then jr s else if s.z=2 then X3 s else if s.z=3 then zS s else
 if s.z=4 then zi false s else if s.z=5 then zi true s else if s.z=6 then Z4 s else if s.z=7 then .done (X9 s) else .done s
def QH1 (s:Ms):Tr Ms:=if s.y=6∧s.z=6 then .done { s with r:={ s.r with halted:=true } } else (QC1 s.z s).bind fun b=>QEj s.y b.1 b.2
def QBg (s:Ms):Tr Ms:=(QC1 s.z s).bind fun b=>.done (Qy b.1 b.2)
def QIT (s:Ms):Tr Ms :=
 if s.q=0 then (if s.p=3 then (QGm s).bind fun w=>.done { w.2 with r:={ w.2.r with af:=w.1 } } else (QGm s).bind fun w=>.done (w.2.setPair w.1)) else
 if s.p=0 then (QGm s).bind fun w=>.done (w.2.goTo w.1) else if s.p=1 then .done { s with r:=QSs s.r } else
 if s.p=2 then .done (s.pc s.hl) else if s.p=3 then (J1 2 s).bind fun s=>.done (s.sp s.hl) else .done s
def QF2 (holds:Bool)(s:Ms):Tr Ms:=(qs s).bind fun w=>if holds then (J1 1 (w.2.wz w.1)).bind fun s=>(QDO s.r.pc s).bind fun s=>.done (s.pc s.r.wz) else .done (w.2.wz w.1)
def QCR (s:Ms):Tr Ms:=if s.q=0 then (J1 1 s).bind fun s=>if s.p=3 then QDO s.r.af s else QDO s.pair s else QF2 true s
def Zc (s:Ms):Tr Ms:=(zk s.r.sp s).bind fun w=>(J1 1 w.2).bind fun t=>(Xv ((t.r.sp+1)%65536) (w.2.hl / 256) t).bind fun t =>
 (Xv t.r.sp (w.2.hl%256) t).bind fun t=>(J1 2 t).bind fun t=>.done ((t.setHL w.1).wz w.1)
def QB4 (s:Ms):Tr Ms :=
 if s.y=0 then (qs s).bind fun w=>.done (w.2.goTo w.1) else
 if s.y=2 then (Xq s).bind fun n=>(QJ5 (256*s.a+n.1) n.2.a n.2).bind fun t=>.done (QLF t (256*s.a+n.1)) else
 if s.y=3 then (Xq s).bind fun n=>(inN (256*s.a+n.1) n.2).bind fun b=>.done ((b.2.setA b.1).wz ((256*s.a+n.1+1)%65536)) else
 if s.y=4 then Zc s else if s.y=5 then .done { s with r:={ s.r with de:=s.r.hl,hl:=s.r.de } } else
 if s.y=6 then .done { s with r:={ s.r with iff1:=false,iff2:=false } } else if s.y=7 then .done { s with r:={ s.r with iff1:=true,iff2:=true,late:=true } } else .done s
def QAG (s:Ms):Tr Ms :=
 if s.z=0 then (J1 1 s).bind fun s=>if s.holds s.y then (QGm s).bind fun w=>.done (w.2.goTo w.1) else .done s else
 if s.z=1 then QIT s else
 if s.z=2 then (qs s).bind fun w=>if w.2.holds w.2.y then .done ((w.2.wz w.1).pc w.1) else .done (w.2.wz w.1) else
 if s.z=3 then QB4 s else if s.z=4 then QF2 (s.holds s.y) s else if s.z=5 then QCR s else
 if s.z=6 then (Xq s).bind fun n=>.done (Qy n.1 n.2) else
 if s.z=7 then (J1 1 s).bind fun s=>(QDO s.r.pc s).bind fun s=>.done (s.goTo ((8*s.y)%65536)) else .done s
def QB3 (s:Ms):Tr Ms:=(inN s.r.bc s).bind fun b =>
 let t:=(b.2.wz ((b.2.r.bc+1)%65536)).setF (JU (J2 b.1) 0 (isM b.2.f 0))
 if t.y=6 then .done t else QEj t.y b.1 t
def QAE (s:Ms):Tr Ms:=(if s.y=6 then .done (0,s) else QC1 s.y s).bind fun b=>(QJ5 b.2.r.bc b.1 b.2).bind fun s=>.done (s.wz ((s.r.bc+1)%65536))
def Z2 (s:Ms):Tr Ms:=(J1 7 s).bind fun s =>
 let t:=s.wz ((s.r.hl+1)%65536)
 if t.q=0 then .done (({ t with r:={ t.r with hl:=QA8 t.r.hl t.pair (isM t.f 0) } }:Ms).setF (QBy t.r.hl t.pair (isM t.f 0)))
 else .done (({ t with r:={ t.r with hl:=qi t.r.hl t.pair (isM t.f 0) } }:Ms).setF (QBD t.r.hl t.pair (isM t.f 0)))
def ZT (s:Ms):Tr Ms:=(qs s).bind fun at_=>if at_.2.q=0 then Zo at_.1 at_.2.pair at_.2 else (jI at_.1 at_.2).bind fun w=>.done (w.2.setPair w.1)
def QEW (b:Int)(s:Ms):Ms:=s.af b (JU (JU (JV b) 0 (isM s.f 0)) 2 s.r.iff2)
def Z5 (s:Ms):Tr Ms:=(Z6 s.r.hl s).bind fun b=>(J1 4 b.2).bind fun s =>
 (Xv s.r.hl (QKB (s.y==4) s.a b.1) (s.af (QB7 (s.y==4) s.a b.1) (QBl (QB7 (s.y==4) s.a b.1) (isM s.f 0)))).bind fun s=>.done (s.wz ((s.r.hl+1)%65536))
def QAA (s:Ms):Tr Ms :=
 if s.y=0 then (J1 1 s).bind fun s=>.done { s with r:={ s.r with i:=s.a } } else
 if s.y=1 then (J1 1 s).bind fun s=>.done { s with r:={ s.r with r:=s.a } } else
 if s.y=2 then (J1 1 s).bind fun s=>.done (QEW s.r.i s) else
 if s.y=3 then (J1 1 s).bind fun s=>.done (QEW s.r.r s) else
 if s.y=4∨s.y=5 then Z5 s else .done s
def Ms.mode (s:Ms)(m:Int):Ms:={ s with r:={ s.r with mode:=m } }
def zH (s:Ms):Tr Ms :=
 if s.z=0 then QB3 s else if s.z=1 then QAE s else if s.z=2 then Z2 s else if s.z=3 then ZT s else
 if s.z=4 then .done (s.af (Qj 0 s.a false) (Qm 0 s.a false)) else
 if s.z=5 then (QGm s).bind fun w=>.done { (w.2.goTo w.1) with r:={ (w.2.goTo w.1).r with iff1:=w.2.r.iff2 } } else
 if s.z=6 then (if s.y%4=2 then .done (s.mode 1) else if s.y%4=3 then .done (s.mode 2) else .done (s.mode 0)) else if s.z=7 then QAA s else .done s
def Ms.hlBy (s:Ms)(d:Int):Ms:={ s with r:={ s.r with hl:=JH s.r.hl d } }
def Ms.deBy (s:Ms)(d:Int):Ms:={ s with r:={ s.r with de:=JH s.r.de d } }
def Ms.bcDown (s:Ms):Ms:={ s with r:={ s.r with bc:=(s.r.bc-1)%65536 } }
def jk (d:Int)(s:Ms):Tr Ms:=(Z6 s.r.hl s).bind fun b=>(Xv b.2.r.de b.1 b.2).bind fun s=>(J1 2 s).bind fun s =>
 let t:=((s.hlBy d).deBy d).bcDown
 .done (t.setF (moveF t.a b.1 t.r.bc t.f))
def jS (d:Int)(s:Ms):Tr Ms:=(Z6 s.r.hl s).bind fun b=>(J1 5 b.2).bind fun s =>
 let t:=((s.hlBy d).wz (JH s.r.wz d)).bcDown
 .done (t.setF (QI2 t.a b.1 t.r.bc t.f))
def jm (d:Int)(s:Ms):Tr Ms:=(J1 1 s).bind fun s=>(inN s.r.bc s).bind fun b =>
 let t:=b.2.wz (JH b.2.r.bc d)
 (Xv t.lessB.r.hl b.1 t.lessB).bind fun s=>.done ((s.hlBy d).setF (QCE b.1 (b.1+byC (QBT (s.hlBy d).r (s.hlBy d).plane 1) d) t.left))
def jO (d:Int)(s:Ms):Tr Ms:=(J1 1 s).bind fun s=>(Z6 s.r.hl s).bind fun b =>
 let t:=b.2.lessB.wz (JH b.2.lessB.r.bc d)
 (QJ5 t.r.bc b.1 t).bind fun s=>.done ((s.hlBy d).setF (QCE b.1 (b.1+(s.hlBy d).r.hl%256) b.2.left))
def QCI (s:Ms):Tr Ms:=(J1 5 s).bind fun s=>if s.z=0∨s.z=1 then .done ((s.pc ((s.r.pc-2)%65536)).wz (((s.r.pc-2)%65536+1)%65536)) else .done (s.pc ((s.r.pc-2)%65536))
def QEt (d:Int)(s:Ms):Tr Ms:=(if s.z=0 then jk d s else if s.z=1 then jS d s else if s.z=2 then jm d s else if s.z=3 then jO d s else .done s).bind fun s =>
 if 6≤s.y∧Jz s.z s.f=true then QCI s else .done s
def QCA (s:Ms):Tr Ms:=if 4≤s.z∨s.y < 4 then .done s else if s.q=0 then QEt 1 s else QEt (-1) s
def Ms.inMem (s:Ms):Bool:=s.near||(s.z==6)
def Za (s:Ms):Tr (Int×Ms):=if s.inMem=true then (Z6 s.spot s).bind fun b=>(J1 1 b.2).bind fun t=>.done (b.1,t) else QC1 s.z s
def QAp (b:Int)(s:Ms):Tr Ms:=(if s.inMem=true then Xv s.spot b s else .done s).bind fun s=>if s.z=6 then .done s else QEj s.z b s
def QAF (s:Ms):Tr Ms:=(Za s).bind fun b=>QAp (doR b.2.y b.1 b.2.f) (b.2.setF (doF b.2.y b.1 b.2.f))
def QB5 (s:Ms):Tr Ms:=(Za s).bind fun b=>if b.2.inMem=true then .done (b.2.setF (QDm b.2.y b.1 (b.2.r.wz / 256) b.2.f)) else .done (b.2.setF (QDm b.2.y b.1 b.1 b.2.f))
def ZV (on:Bool)(s:Ms):Tr Ms:=(Za s).bind fun b=>QAp (JU b.1 b.2.y on) b.2
def j0 (s:Ms):Tr (Int×Ms):=if s.plane=0 then Zi s else (QNj s).bind fun s=>(Xq s).bind fun c=>(J1 2 c.2).bind fun s=>.done (c.1,s)
def qy (c:Int)(s:Ms):Tr Ms:=if JP s.plane c=true then (QNj (s.split c)).bind fun s=>if s.x≠0∨s.z≠6 then J1 5 s else .done s else .done (s.split c)
def QE7 (s:Ms):Tr Ms:=if s.x=0 then QAJ s else if s.x=1 then QH1 s else if s.x=2 then QBg s else QAG s
def QFE (s:Ms):Tr Ms:=if s.x=1 then zH s else if s.x=2 then QCA s else .done s
def QER (s:Ms):Tr Ms:=if s.x=0 then QAF s else if s.x=1 then QB5 s else if s.x=2 then ZV false s else ZV true s
def Ms.atHL (s:Ms):Ms:={ s with spot:=s.r.hl }
def Ms.toPlane (s:Ms)(v:Int):Ms:={ s with plane:=v }
def Ms.noLate (s:Ms):Ms:={ s with r:={ s.r with late:=false } }
def QJo (c:Int)(s:Ms):Tr Ms :=
 if c=203 then ((j0 s.atHL).bind fun c=>.done (c.2.split c.1)).bind QER else
 if c=237 then ((Zi (s.atHL.toPlane 0)).bind fun c=>.done (c.2.split c.1)).bind QFE else
 (qy c s.atHL).bind QE7
def XX:List Int→Int→Ms→Except Cy (Ms×List Int)
 | [],c,s=>if c=221∨c=253 then .error ⟨1,s.r.pc,0,4⟩ else (QJo c s).run []
 | b :: bs,c,s=>if c=221∨c=253 then XX bs b ({ s.toPlane (if c=253 then 4 else 3) with r:=jB s.r 1 }:Ms).pcUp else (QJo c s).run (b :: bs)
theorem QCp {c:Int}(h:¬(c=221∨c=253))(s:Ms)(xs:List Int):XX xs c s=(QJo c s).run xs:=by
 cases xs with
 | nil=>rw[XX,if_neg h]
 | cons b bs=>rw[XX,if_neg h]
theorem QEO {c:Int}(h:c=221∨c=253){s t:Ms}(ht:t=s.toPlane (if c=253 then 4 else 3))(xs:List Int):XX xs c s=match (Zi t).run xs with|.ok ((b,u),ys)=>XX ys b u|.error e=>.error e:=by
 subst ht
 cases xs with
 | nil=>rw[XX,if_pos h];rfl
 | cons b bs =>
   rw[XX,if_pos h]
   have e:(Zi (s.toPlane (if c=253 then 4 else 3))).run (b :: bs)=.ok ((b,({ s.toPlane (if c=253 then 4 else 3) with r:=jB s.r 1 }:Ms).pcUp),bs):=Tr.run_done _ _
   rw[e]
theorem QCe {s s':Ms} {xs ys:List Int} {b:Int}(h:(Zi s).run xs=.ok ((b,s'),ys)):ys.length < xs.length:=by
 cases xs with
 | nil=>cases h
 | cons c cs =>
   have e:(Zi s).run (c :: cs)=.ok ((c,({ s with r:=jB s.r 1 }:Ms).pcUp),cs):=Tr.run_done _ _
   rw[e] at h
   cases h
   simp
section
variable {P:Program} {ops:Array Oper} {md:Region.Mode} {Q:Exit→Act→World→Prop} {S:World→Prop} {n:Nat} {L:Array Bool→Act→World→Prop}
def QAU (P:Program)(md:Region.Mode)(ops:Array Oper)(Q:Exit→Act→World→Prop)(S:World→Prop)(n:Nat)(L:Array Bool→Act→World→Prop):Nat→Array Bool→Act→World→Prop
 | 0,listed,a,w=>L listed a w
 | f+1,listed,a,w=>Region.ready md ops listed≠[] ∧
   ∀ i∈Region.ready md ops listed,i < n∧wpOp P ops Q i (fun a' w'=>S w'∧QAU P md ops Q S n L f (listed.setIfInBounds i true) a' w') a w
theorem qO {g:Nat}(hL:∀ listed a w,L listed a w→wpAny P md ops Q g listed a w) :
 ∀ (f:Nat) (listed:Array Bool) (a:Act) (w:World),QAU P md ops Q S n L f listed a w→wpAny P md ops Q (f+g) listed a w
 | 0,listed,a,w,h=>by rw[Nat.zero_add];exact hL _ _ _ h
 | f+1,listed,a,w,h=>by
   rw[show f+1+g=(f+g)+1 by omega]
   exact⟨fun h0=>absurd h0 h.1,fun i hi=>wpOp_mono (fun a' w' h'=>qO hL f _ a' w' h'.2) (h.2 i hi).2⟩
theorem QB2 {i:Nat} {oi:Oper} {v:Value}(hi:ops[i]? = some oi)(hsel:∀ (j:Nat) (o:Oper) cs b,ops[j]? = some o→o.op≠.select cs b)
 (hs:Region.sinkB md ops n=true)(hc:Region.chainB md ops n=true)(hn:n < ops.size)(hin:i < n)
 (hQ:∀ c a w,Q (.panic c) (a.put oi.dst v) w→Q (.panic c) a w)
 (hdone:∀ listed a w,L listed a w→∀ j∈Region.ready md ops listed,n≤j) :
 ∀ (f:Nat) (listed:Array Bool) (a:Act) (w:World),HeadInv md ops n listed →
  (∀ j oj,ops[j]? = some oj→j≠i→listed.getD j true=false→(∀ e∈oj.after,Region.binds md e=true→e.on≠i)→oi.apart ops oj=true) →
  i∈Region.ready md ops listed→YieldsIf P ops S oi v a→S w →
  QAU P md ops Q S n L f (listed.setIfInBounds i true) (a.put oi.dst v) w→QAU P md ops Q S n L (f+1) listed a w:=by
 intro f
 induction f with
 | zero =>
   intro listed a w inv _ hr hy hS H
   refine⟨fun h=>(by rw[h] at hr;cases hr),fun j hj=>?_⟩
   have hjn:j < n:=Nat.lt_of_not_le fun h=>tail_waits hs hc hn inv _ i rfl hin (mem_ready.1 hr).1 j h hj
   refine⟨hjn,?_⟩
   by_cases hji:j=i
   · subst hji;exact hy.wpOp hi hS ⟨hS,H⟩
   · have:=hdone _ _ _ H j (ready_mono hj hji)
     omega
 | succ f ih =>
   intro listed a w inv hfree hr hy hS H
   refine⟨fun h=>(by rw[h] at hr;cases hr),fun j hj=>?_⟩
   have hjn:j < n:=Nat.lt_of_not_le fun h=>tail_waits hs hc hn inv _ i rfl hin (mem_ready.1 hr).1 j h hj
   refine⟨hjn,?_⟩
   by_cases hji:j=i
   · subst hji;exact hy.wpOp hi hS ⟨hS,H⟩
   · have h1:=(H.2 j (ready_mono hj hji)).2
     obtain⟨hjun,oj,hoj,hall⟩:=mem_ready.1 hj
     have hnot:∀ e∈oj.after,Region.binds md e=true→e.on≠i:=fun e he hb heq=>by
      have h1:=hall e he hb
      rw[heq,getD_both (mem_ready.1 hr).1] at h1
      cases h1
     have h2:=wpOp_putIf hoj (hfree j oj hoj hji hjun hnot) (fun cs b=>hsel i oi cs b hi) (fun cs b=>hsel j oj cs b hoj) hQ hy h1
     have hfree':∀ k ok,ops[k]? = some ok→k≠i→(listed.setIfInBounds j true).getD k true=false →
      (∀ e∈ok.after,Region.binds md e=true→e.on≠i)→oi.apart ops ok=true:=fun k ok hk hki hun hno=>by
      refine hfree k ok hk hki ?_ hno
      by_cases hjk:j=k
      · subst hjk;exact hjun
      · rw[getD_set_ne true hjk] at hun;exact hun
     refine wpOp_mono (fun a' w' h3=>⟨h3.2.1,ih (listed.setIfInBounds j true) a' w' (inv.set hj hjn) hfree' (ready_mono hr (Ne.symm hji)) h3.1 h3.2.1 ?_⟩) h2
     rw[Array.setIfInBounds_comm _ _ hji]
     exact h3.2.2
def QPa (P:Program)(ops:Array Oper)(Q:Exit→Act→World→Prop)(n:Nat)(listed:Array Bool)(a:Act)(w:World):Prop :=
 Region.seqB .any ops (ops.size-n) n listed=true∧wpList P ops Q (ops.toList.drop n) a w
def X0 (P:Program)(ops:Array Oper)(Q:Exit→Act→World→Prop)(S:World→Prop)(n f:Nat)(listed:Array Bool)(a:Act)(w:World):Prop :=
 HeadInv .any ops n listed→QAU P .any ops Q S n (QPa P ops Q n) f listed a w
def Qg (ops:Array Oper)(n:Nat):Bool:=Region.noSelect ops&&(decide (n < ops.size)&&(Region.sinkB .any ops n&&Region.chainB .any ops n))
theorem QBR {id:Nat} {a:Act} {w:World}(n:Nat)(S:World→Prop)(hm:P.follows .mixedOrders=true)(hB:Qg ops n=true)(hS:S w.drew)
 (h:∀ w',w'=w.drew→S w'→X0 P ops Q S n n (Array.replicate ops.size false) a w'):(Code.region id ops true).wp P Q a w:=by
 simp only[Qg,Bool.and_eq_true,decide_eq_true_eq] at hB
 obtain⟨hsel,hn,hs,hc⟩:=hB
 have inv0:HeadInv .any ops n (Array.replicate ops.size false) :=
  ⟨by simp,fun j oj _ hl=>(by rw[getD_replicate_false] at hl;cases hl),fun t _ ht=>getD_in (by simpa using ht) (getD_replicate_false _ _)⟩
 have H:=h _ rfl hS inv0
 refine wp_region_any hm ?_
 have:=qO (g:=ops.size-n) (fun listed a w hL=>by
  have:=wpAny_of_seq (md:=.any) (Q':=Q) (ops.toList.drop n) n listed a w (fun j=>by simp[List.getElem?_drop]) (by simpa using hL.1) hL.2
  simpa using this) _ _ _ _ H
 rwa [show n+(ops.size-n)=ops.size by omega] at this
theorem ZM {i f:Nat} {listed:Array Bool} {a:Act} {w:World} {o:Oper}(d:Tmp)(v:Value)(hd:o.dst=some d)(ho:ops[i]? = some o)(hB:Qg ops n=true)(hin:decide (i < n)=true)(hf:Region.free .any ops listed i=true)
 (hr:(Region.ready .any ops listed).contains i=true)(hQ:∀ c a w,Q (.panic c) (a.put o.dst v) w→Q (.panic c) a w)(hw:Region.wanted o (yielded ops a.tmps)=true)
 (he:∀ w,S w→(execOp a.eval o).run P w=.ok (.value v) w)(hS:S w)
 (h:X0 P ops Q S n f (listed.setIfInBounds i true) (a.put (some d) v) w):X0 P ops Q S n (f+1) listed a w:=by
 simp only[Qg,Bool.and_eq_true,decide_eq_true_eq] at hB
 obtain⟨hsel,hn,hs,hc⟩:=hB
 intro inv
 have hr':i∈Region.ready .any ops listed:=by simpa using hr
 exact QB2 ho (Region.noSelect_spec hsel) hs hc hn (of_decide_eq_true hin) hQ (fun listed' a' w' hL=>seqB_ready hL.1) f listed a w inv (Region.free_spec ho hf) hr' (.inl ⟨hw,he⟩) hS
  (by rw[hd];exact h (inv.set hr' (of_decide_eq_true hin)))
theorem QF5 {i f:Nat} {listed:Array Bool} {a:Act} {w:World} {o:Oper}(d:Tmp)(hd:o.dst=some d)(ho:ops[i]? = some o)(hB:Qg ops n=true)(hin:decide (i < n)=true)(hf:Region.free .any ops listed i=true)
 (hr:(Region.ready .any ops listed).contains i=true)(hQ:∀ c a w,Q (.panic c) (a.put o.dst undef) w→Q (.panic c) a w)(hw:Region.wanted o (yielded ops a.tmps)=false)(hS:S w)
 (h:X0 P ops Q S n f (listed.setIfInBounds i true) (a.put (some d) undef) w):X0 P ops Q S n (f+1) listed a w:=by
 simp only[Qg,Bool.and_eq_true,decide_eq_true_eq] at hB
 obtain⟨hsel,hn,hs,hc⟩:=hB
 intro inv
 have hr':i∈Region.ready .any ops listed:=by simpa using hr
 exact QB2 ho (Region.noSelect_spec hsel) hs hc hn (of_decide_eq_true hin) hQ (fun listed' a' w' hL=>seqB_ready hL.1) f listed a w inv (Region.free_spec ho hf) hr' (.inr ⟨hw,rfl⟩) hS
  (by rw[hd];exact h (inv.set hr' (of_decide_eq_true hin)))
theorem QND {i f:Nat} {listed:Array Bool} {a:Act} {w:World} {o:Oper} {g:FuncId} {args:Array Value} {R:Ending→World→Prop}(ho:ops[i]? = some o)(hr:Region.ready .any ops listed=[i])(hin:decide (i < n)=true)
 (hw:Region.wanted o (yielded ops a.tmps)=true)(he:(execOp a.eval o).run P w=.ok (.enter g args) w)(hc:Calls P g args w R)
 (h:∀ e w',R e w'→match e with
   | .returned v=>S w'∧X0 P ops Q S n f (listed.setIfInBounds i true) (a.put o.dst v) w'
   | .panicked c=>Q (.panic c) a w'
   | .outgrown=>False):X0 P ops Q S n (f+1) listed a w:=by
 intro inv
 have hr':i∈Region.ready .any ops listed:=by rw[hr];simp
 refine⟨by rw[hr];simp,fun j hj=>?_⟩
 rw[hr] at hj
 have hji:j=i:=by simpa using hj
 subst hji
 refine⟨of_decide_eq_true hin,?_⟩
 unfold wpOp
 simp only[ho,hw,if_true]
 refine .inl ?_
 unfold Oper.wp
 rw[he,Oper.upon_enter]
 refine hc.mono fun e w' hR=>?_
 have:=h e w' hR
 cases e with
 | returned v=>exact⟨this.1,this.2 (inv.set hr' (of_decide_eq_true hin))⟩
 | panicked c=>exact this
 | outgrown=>exact this.elim
structure WL (P:Program)(ops:Array Oper)(Q:Exit→Act→World→Prop)(l:List Oper)(a:Act)(w:World):Prop where
 h:wpList P ops Q l a w
theorem JG {id:Nat} {l:List Oper} {a:Act} {w:World}(h:WL P l.toArray Q l a w):(Code.region id l.toArray false).wp P Q a w:=wp_region_lit h.h
theorem Jg {a:Act} {w:World}(h:Q .normal a w):WL P ops Q [] a w:=⟨wpList_nil h⟩
theorem QIW {listed:Array Bool} {a:Act} {w:World}(hB:Region.seqB .any ops (ops.size-n) n listed=true)(h:WL P ops Q (ops.toList.drop n) a w):X0 P ops Q S n 0 listed a w:=fun _=>⟨hB,h.h⟩
theorem zR {a:Act} {w:World} {o:Oper} {rest:List Oper} {g:FuncId} {args:Array Value} {R:Ending→World→Prop}(hw:Region.wanted o (yielded ops a.tmps)=true)
 (he:(execOp a.eval o).run P w=.ok (.enter g args) w)(hc:Calls P g args w R)
 (h:∀ e w',R e w'→match e with
   | .returned v=>WL P ops Q rest (a.put o.dst v) w'
   | .panicked c=>Q (.panic c) a w'
   | .outgrown=>False):WL P ops Q (o :: rest) a w :=
 ⟨wpList_step fun K hK=>by
  rw[if_pos hw]
  unfold Oper.wp
  rw[he,Oper.upon_enter]
  refine hc.mono fun e w' hR=>?_
  have:=h e w' hR
  cases e with
  | returned v=>exact hK _ _ this.h
  | panicked c=>exact this
  | outgrown=>exact this.elim⟩
theorem JQ {rest:List Oper} {o:Oper} {a:Act} {w:World}(d:Tmp)(v:Value)(hd:o.dst=some d)(hw:Region.wanted o (yielded ops a.tmps)=true)(he:(execOp a.eval o).run P w=.ok (.value v) w)
 (h:WL P ops Q rest (a.put (some d) v) w):WL P ops Q (o :: rest) a w :=
 ⟨wpList_step fun K hK=>by
  rw[if_pos hw]
  unfold Oper.wp
  rw[he,Oper.upon_value,hd]
  exact hK _ _ h.h⟩
theorem QCS {rest:List Oper} {o:Oper} {a:Act} {w:World}(d:Tmp)(hd:o.dst=some d)(hw:Region.wanted o (yielded ops a.tmps)=false)
 (h:WL P ops Q rest (a.put (some d) undef) w):WL P ops Q (o :: rest) a w :=
 ⟨wpList_step fun K hK=>by
  rw[if_neg (by rw[hw];simp),hd]
  exact hK _ _ h.h⟩
theorem Xo {rest:List Oper} {o:Oper} {a:Act} {w w':World}(hd:o.dst=none)(hw:Region.wanted o (yielded ops a.tmps)=true)(he:(execOp a.eval o).run P w=.ok .skip w')
 (h:WL P ops Q rest (a.put none undef) w'):WL P ops Q (o :: rest) a w :=
 ⟨wpList_step fun K hK=>by
  rw[if_pos hw]
  unfold Oper.wp
  rw[he,Oper.upon_skip,hd]
  exact hK _ _ h.h⟩
theorem QK {rest:List Oper} {o:Oper} {a:Act} {w w':World}(d:Tmp)(v:Value)(hd:o.dst=some d)(hw:Region.wanted o (yielded ops a.tmps)=true)(he:(execOp a.eval o).run P w=.ok (.value v) w')
 (h:WL P ops Q rest (a.put (some d) v) w'):WL P ops Q (o :: rest) a w :=
 ⟨wpList_step fun K hK=>by
  rw[if_pos hw]
  unfold Oper.wp
  rw[he,Oper.upon_value,hd]
  exact hK _ _ h.h⟩
end
end Go.Proofs.YtmgcgiecimnncaaGreatDoor
