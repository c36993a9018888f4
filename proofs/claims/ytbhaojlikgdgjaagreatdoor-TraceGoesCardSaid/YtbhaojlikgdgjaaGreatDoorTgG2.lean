/- Contracts and facts that the claim's proof wants (several texts in one). -/
import Derived.OrdersHeld
import Derived.StillTail
import Derived.Test.YtbhaojlikgdgjaaGreatDoorTgG1
namespace Go.Proofs.YtbhaojlikgdgjaaGreatDoor
open Go.RowKit
set_option linter.unusedVariables false
set_option linter.unusedSimpArgs false
set_option maxRecDepth 20000
set_option maxHeartbeats 20000000
def one (c:Bool):Int:=if c then 1 else 0
theorem Q4 (c:Bool):0≤one c∧one c≤1:=by cases c<;>decide
def QAt (n:Int):Bool:=decide (n < -128)||decide (127 < n)
def Xe (a b:Int)(c:Bool):Int:=(a+b+one c)%256
def Xr (a b:Int)(c:Bool):Int :=
 mkM (isM (Xe a b c) 7) (Xe a b c==0) (isM (Xe a b c) 5) (decide (15 < a%16+b%16+one c)) (isM (Xe a b c) 3) (QAt (JP a+JP b+one c)) false (decide (255 < a+b+one c))
def QT (a b:Int)(c:Bool):Int:=(a-b-one c)%256
def QX (a b:Int)(c:Bool):Int :=
 mkM (isM (QT a b c) 7) (QT a b c==0) (isM (QT a b c) 5) (decide (a%16-b%16-one c < 0)) (isM (QT a b c) 3) (QAt (JP a-JP b-one c)) true (decide (a-b-one c < 0))
def QHK (a b:Int):Int :=
 mkM (isM (QT a b false) 7) (QT a b false==0) (isM b 5) (decide (a%16-b%16-one false < 0)) (isM b 3) (QAt (JP a-JP b-one false)) true (decide (a-b-one false < 0))
def QIR (a f:Int):Int :=
 mkM (isM (Xe a 1 false) 7) (Xe a 1 false==0) (isM (Xe a 1 false) 5) (decide (15 < a%16+1%16+one false)) (isM (Xe a 1 false) 3) (QAt (JP a+JP 1+one false)) false (isM f 0)
def QId (a f:Int):Int :=
 mkM (isM (QT a 1 false) 7) (QT a 1 false==0) (isM (QT a 1 false) 5) (decide (a%16-1%16-one false < 0)) (isM (QT a 1 false) 3) (QAt (JP a-JP 1-one false)) true (isM f 0)
theorem QL (a b:Int)(c:Bool):B8 (Xe a b c):=by unfold Xe B8;omega
theorem J7 (a b:Int)(c:Bool):B8 (QT a b c):=by unfold QT B8;omega
theorem Qt (a b:Int)(c:Bool):B8 (Xr a b c):=J9 ..
theorem J6 (a b:Int)(c:Bool):B8 (QX a b c):=J9 ..
theorem QBk (a b:Int):B8 (QHK a b):=J9 ..
theorem QFX (a b:Int):B8 (QIR a b):=J9 ..
theorem QEn (a b:Int):B8 (QId a b):=J9 ..
def cK (a b:Int)(c:Bool)(k:Nat):Bool:=decide (2 ^ k≤a%2 ^ k+b%2 ^ k+one c)
theorem QRR (a b:Int)(c:Bool):cK a b c 0=c:=by
 unfold cK one
 cases c<;>simp<;>omega
theorem QRf (a b:Int)(c:Bool)(k:Nat)(hk:k < 8):cK a b c (k+1)=if cK a b c k then (isM a k||isM b k) else (isM a k&&isM b k):=by
 have key:=Q4 c
 refine QP9 (fun k=>cK a b c (k+1)=if cK a b c k then (isM a k||isM b k) else (isM a k&&isM b k)) ?_ k hk
 unfold cK isM
 generalize one c=o at key ⊢
 refine⟨?_,?_,?_,?_,?_,?_,?_,?_⟩
 all_goals
  rw[Bool.eq_iff_iff]
  simp
  split<;>omega
def jN (a b:Int)(c:Bool):Nat→Int
 | 0=>0
 | k+1=>if cK a b c (k+1) then JR (jN a b c k) k true else jN a b c k
theorem zm (a b:Int)(c:Bool):∀ k,B8 (jN a b c k)
 | 0=>B8.zero
 | k+1=>by
   unfold jN
   split
   · exact (zm a b c k).with _ _
   · exact zm a b c k
theorem QMp:∀ c1 c2 c3 c4 c5 c6 c7 c8:Bool,
 let w:=fun (x:Int) (k:Int) (c:Bool)=>if c then JR x k true else x
 let o:=w (w (w (w (w (w (w (w 0 0 c1) 1 c2) 2 c3) 3 c4) 4 c5) 5 c6) 6 c7) 7 c8
 isM o 3=c4∧isM o 6=c7∧isM o 7=c8:=by decide +kernel
theorem QOs (a b:Int)(c:Bool):isM (jN a b c 8) 3=cK a b c 4∧isM (jN a b c 8) 6=cK a b c 7∧isM (jN a b c 8) 7=cK a b c 8 :=
 QMp (cK a b c 1) (cK a b c 2) (cK a b c 3) (cK a b c 4) (cK a b c 5) (cK a b c 6) (cK a b c 7) (cK a b c 8)
theorem QQq (a b:Int)(c:Bool)(ha:B8 a)(hb:B8 b):cK a b c 4=decide (15 < a%16+b%16+one c)∧cK a b c 8=decide (255 < a+b+one c)∧(cK a b c 7 != cK a b c 8)=QAt (JP a+JP b+one c):=by
 obtain⟨a0,a1⟩:=ha
 obtain⟨b0,b1⟩:=hb
 have key:=Q4 c
 unfold cK QAt JP
 generalize one c=o at key ⊢
 refine⟨?_,?_,?_⟩
 · rw[Bool.eq_iff_iff];simp;omega
 · rw[Bool.eq_iff_iff];simp;omega
 · rw[Bool.eq_iff_iff]
   simp
   split<;>split<;>omega
def W16 (x:Int):Prop:=0≤x∧x≤65535
theorem W16.lo {x:Int}(h:W16 x):0≤x:=h.1
theorem W16.hi {x:Int}(h:W16 x):x≤65535:=h.2
theorem W16.low {x:Int}(h:W16 x):B8 (x%256):=by unfold B8;omega
theorem W16.high {x:Int}(h:W16 x):B8 (x / 256):=by obtain⟨h0,h1⟩:=h;unfold B8;omega
def ZW (w:Int):Int:=if w < 32768 then w else w-65536
def QL6 (n:Int):Bool:=decide (n < -32768)||decide (32767 < n)
def jo (a b:Int)(c:Bool):Int:=(a+b+one c)%65536
def QAS (a b:Int)(c:Bool):Int:=(a-b-one c)%65536
def QG7 (r:Int)(half over minus out:Bool):Int :=
 mkM (isM (r / 256) 7) (r==0) (isM (r / 256) 5) half (isM (r / 256) 3) over minus out
def QAO (a b:Int)(c:Bool):Int :=
 QG7 (jo a b c) (decide (4095 < a%4096+b%4096+one c)) (QL6 (ZW a+ZW b+one c)) false (decide (65535 < a+b+one c))
def QA8 (a b:Int)(c:Bool):Int :=
 QG7 (QAS a b c) (decide (a%4096-b%4096-one c < 0)) (QL6 (ZW a-ZW b-one c)) true (decide (a-b-one c < 0))
def QFF (a b f:Int):Int :=
 mkM (isM f 7) (isM f 6) (isM (jo a b false / 256) 5) (decide (4095 < a%4096+b%4096)) (isM (jo a b false / 256) 3) (isM f 2) false (decide (65535 < a+b))
def JG (w y:Int):Int:=(w+y)%65536
theorem QEw (a b:Int)(c:Bool):B8 (QAO a b c):=J9 ..
theorem QLp (a b:Int)(c:Bool):B8 (QA8 a b c):=J9 ..
theorem QJV (a b f:Int):B8 (QFF a b f):=J9 ..
def QBP (a b:Int)(c:Bool):Bool:=isM (Xr (a%256) (b%256) c) 0
def QAr (a b:Int)(c:Bool):Bool:=isM (QX (a%256) (b%256) c) 0
theorem QDJ (a b:Int)(c:Bool):isM (Xr a b c) 0=decide (255 < a+b+one c):=(ZT _ _ _ _ _ _ _ _).2.2.2.2.2.2.2
theorem QDC (a b:Int)(c:Bool):isM (QX a b c) 0=decide (a-b-one c < 0):=(ZT _ _ _ _ _ _ _ _).2.2.2.2.2.2.2
theorem QCr (p:Prop) [Decidable p]:one (decide p)=if p then 1 else 0:=by unfold one;by_cases h:p<;>simp[h]
theorem QSw (x0 x1 x2 x3 x4 x5 x6 x7:Bool)(f:Int):Ql (mkM x0 x1 x2 x3 x4 x5 x6 x7) f 64=mkM x0 (isM f 6) x2 x3 x4 x5 x6 x7:=by
 unfold Ql
 obtain⟨h0,h1,h2,h3,h4,h5,h6,h7⟩:=ZT x0 x1 x2 x3 x4 x5 x6 x7
 obtain⟨z0,z1,z2,z3,z4,z5,z6,z7⟩:isM 64 0=false∧isM 64 1=false∧isM 64 2=false∧isM 64 3=false∧isM 64 4=false∧isM 64 5=false∧isM 64 6=true∧isM 64 7=false:=by decide +kernel
 rw[h0,h1,h2,h3,h4,h5,h6,h7,z0,z1,z2,z3,z4,z5,z6,z7]
 rfl
theorem QQD (x0 x1 x2 x3 x4 x5 x6 x7:Bool)(f:Int):Ql (mkM x0 x1 x2 x3 x4 x5 x6 x7) f 196=mkM (isM f 7) (isM f 6) x2 x3 x4 (isM f 2) x6 x7:=by
 unfold Ql
 obtain⟨h0,h1,h2,h3,h4,h5,h6,h7⟩:=ZT x0 x1 x2 x3 x4 x5 x6 x7
 obtain⟨z0,z1,z2,z3,z4,z5,z6,z7⟩:isM 196 0=false∧isM 196 1=false∧isM 196 2=true∧isM 196 3=false∧isM 196 4=false∧isM 196 5=false∧isM 196 6=true∧isM 196 7=true:=by decide +kernel
 rw[h0,h1,h2,h3,h4,h5,h6,h7,z0,z1,z2,z3,z4,z5,z6,z7]
 rfl
theorem QHm (a b:Int)(c:Bool)(ha:W16 a)(hb:W16 b):256*Xe (a / 256) (b / 256) (QBP a b c)+Xe (a%256) (b%256) c=jo a b c:=by
 obtain⟨a0,a1⟩:=ha
 obtain⟨b0,b1⟩:=hb
 have key:=Q4 c
 unfold QBP
 rw[QDJ]
 unfold Xe jo
 rw[QCr]
 split<;>omega
theorem QHH (a b:Int)(c:Bool)(ha:W16 a)(hb:W16 b):256*QT (a / 256) (b / 256) (QAr a b c)+QT (a%256) (b%256) c=QAS a b c:=by
 obtain⟨a0,a1⟩:=ha
 obtain⟨b0,b1⟩:=hb
 have key:=Q4 c
 unfold QAr
 rw[QDC]
 unfold QT QAS
 rw[QCr]
 split<;>omega
theorem QSd (x y:Int)(hx:B8 x)(hy:B8 y):(x==0&&y==0)=(256*x+y==0):=by
 obtain⟨x0,x1⟩:=hx
 obtain⟨y0,y1⟩:=hy
 rw[Bool.eq_iff_iff];simp;omega
theorem QLb (a b:Int)(c:Bool)(ha:W16 a)(hb:W16 b) :
 Ql (Xr (a / 256) (b / 256) (QBP a b c)) (bits .and .u8 (Xr (a / 256) (b / 256) (QBP a b c)) (Xr (a%256) (b%256) c)) 64=QAO a b c:=by
 have hw:=QHm a b c ha hb
 have r1:=QL (a / 256) (b / 256) (QBP a b c)
 have r2:=QL (a%256) (b%256) c
 have z:isM (bits .and .u8 (Xr (a / 256) (b / 256) (QBP a b c)) (Xr (a%256) (b%256) c)) 6=(jo a b c==0):=by
  rw[←hw,←QSd _ _ r1 r2]
  have f1:=Qt (a / 256) (b / 256) (QBP a b c)
  have f2:=Qt (a%256) (b%256) c
  have:=QCt _ _ 6 (by omega) f1.1 f1.2 f2.1 f2.2
  rw[show ((6:Nat):Int)=6 from rfl] at this
  rw[this]
  exact congr (congrArg _ (ZT _ _ _ _ _ _ _ _).2.1) (ZT _ _ _ _ _ _ _ _).2.1
 have hh:Xe (a / 256) (b / 256) (QBP a b c)=jo a b c / 256:=by
  obtain⟨x0,x1⟩:=r2
  rw[←hw];omega
 generalize bits .and .u8 (Xr (a / 256) (b / 256) (QBP a b c)) (Xr (a%256) (b%256) c)=y at z ⊢
 unfold Xr
 rw[QSw,z,hh]
 unfold QAO QG7
 obtain⟨a0,a1⟩:=ha
 obtain⟨b0,b1⟩:=hb
 have key:=Q4 c
 have m:one (QBP a b c)=if 255 < a%256+b%256+one c then 1 else 0:=by unfold QBP;rw[QDJ,QCr]
 have n4:decide (15 < a / 256%16+b / 256%16+one (QBP a b c))=decide (4095 < a%4096+b%4096+one c):=by
  rw[m,Bool.eq_iff_iff];simp;split<;>omega
 have n8:decide (255 < a / 256+b / 256+one (QBP a b c))=decide (65535 < a+b+one c):=by
  rw[m,Bool.eq_iff_iff];simp;split<;>omega
 have n7:QAt (JP (a / 256)+JP (b / 256)+one (QBP a b c))=QL6 (ZW a+ZW b+one c):=by
  unfold QAt QL6 JP ZW
  rw[m,Bool.eq_iff_iff]
  simp
  split<;>split<;>split<;>split<;>split<;>omega
 rw[n4,n8,n7]
theorem QLJ (a b:Int)(c:Bool)(ha:W16 a)(hb:W16 b) :
 Ql (QX (a / 256) (b / 256) (QAr a b c)) (bits .and .u8 (QX (a / 256) (b / 256) (QAr a b c)) (QX (a%256) (b%256) c)) 64=QA8 a b c:=by
 have hw:=QHH a b c ha hb
 have r1:=J7 (a / 256) (b / 256) (QAr a b c)
 have r2:=J7 (a%256) (b%256) c
 have z:isM (bits .and .u8 (QX (a / 256) (b / 256) (QAr a b c)) (QX (a%256) (b%256) c)) 6=(QAS a b c==0):=by
  rw[←hw,←QSd _ _ r1 r2]
  have f1:=J6 (a / 256) (b / 256) (QAr a b c)
  have f2:=J6 (a%256) (b%256) c
  have:=QCt _ _ 6 (by omega) f1.1 f1.2 f2.1 f2.2
  rw[show ((6:Nat):Int)=6 from rfl] at this
  rw[this]
  exact congr (congrArg _ (ZT _ _ _ _ _ _ _ _).2.1) (ZT _ _ _ _ _ _ _ _).2.1
 have hh:QT (a / 256) (b / 256) (QAr a b c)=QAS a b c / 256:=by
  obtain⟨x0,x1⟩:=r2
  rw[←hw];omega
 generalize bits .and .u8 (QX (a / 256) (b / 256) (QAr a b c)) (QX (a%256) (b%256) c)=y at z ⊢
 unfold QX
 rw[QSw,z,hh]
 unfold QA8 QG7
 obtain⟨a0,a1⟩:=ha
 obtain⟨b0,b1⟩:=hb
 have key:=Q4 c
 have m:one (QAr a b c)=if a%256-b%256-one c < 0 then 1 else 0:=by unfold QAr;rw[QDC,QCr]
 have n4:decide (a / 256%16-b / 256%16-one (QAr a b c) < 0)=decide (a%4096-b%4096-one c < 0):=by
  rw[m,Bool.eq_iff_iff];simp;split<;>omega
 have n8:decide (a / 256-b / 256-one (QAr a b c) < 0)=decide (a-b-one c < 0):=by
  rw[m,Bool.eq_iff_iff];simp;split<;>omega
 have n7:QAt (JP (a / 256)-JP (b / 256)-one (QAr a b c))=QL6 (ZW a-ZW b-one c):=by
  unfold QAt QL6 JP ZW
  rw[m,Bool.eq_iff_iff]
  simp
  split<;>split<;>split<;>split<;>split<;>omega
 rw[n4,n8,n7]
theorem QMF (a b f:Int):Ql (QAO a b false) f 196=QFF a b f:=by
 unfold QAO QG7
 rw[QQD]
 have o:one false=0:=rfl
 unfold QFF
 rw[o,Int.add_zero,Int.add_zero]
def QDF (op:Bool→Bool→Bool)(a b:Int):Int :=
 mkM (op (isM a 7) (isM b 7)) (op (isM a 6) (isM b 6)) (op (isM a 5) (isM b 5)) (op (isM a 4) (isM b 4)) (op (isM a 3) (isM b 3)) (op (isM a 2) (isM b 2)) (op (isM a 1) (isM b 1)) (op (isM a 0) (isM b 0))
theorem Jw (op:Bool→Bool→Bool)(a b:Int):B8 (QDF op a b):=J9 ..
def upM (b0 b1 b2 b3 b4 b5 b6 b7:Bool):Int :=
 JR (JR (JR (JR (JR (JR (JR (JR 0 0 b0) 1 b1) 2 b2) 3 b3) 4 b4) 5 b5) 6 b6) 7 b7
theorem QPL:∀ b0 b1 b2 b3 b4 b5 b6 b7:Bool,upM b0 b1 b2 b3 b4 b5 b6 b7=mkM b7 b6 b5 b4 b3 b2 b1 b0:=by decide +kernel
def andB (x y:Bool):Bool:=x&&y
def orB (x y:Bool):Bool:=x||y
def QTW (x y:Bool):Bool:=x != y
def QCl (a b:Int):Int:=QDF andB a b
def orR (a b:Int):Int:=QDF orB a b
def zD (a b:Int):Int:=QDF QTW a b
def QBD (r:Int):Int:=mkM (isM r 7) (r==0) (isM r 5) true (isM r 3) (jV r) false false
theorem QAd (r:Int):B8 (QBD r):=J9 ..
theorem QM1:∀ x:Fin 256,bits .or .u8 (Jq (x.val:Int)) 16=QBD (x.val:Int):=by decide +kernel
theorem QMc (r:Int)(h:B8 r):bits .or .u8 (Jq r) 16=QBD r:=Je (P:=fun r=>bits .or .u8 (Jq r) 16=QBD r) QM1 r h.1 h.2
def Xd (f a:Int)(h n c:Bool):Int:=mkM (isM f 7) (isM f 6) (isM a 5) h (isM a 3) (isM f 2) n c
theorem QR (f a:Int)(h n c:Bool):B8 (Xd f a h n c):=J9 ..
def QJX (a f:Int):Int:=Xd f (255-a) true true (isM f 0)
def QGN (a f:Int):Int:=Xd f a false false true
def QGV (a f:Int):Int:=Xd f a (isM f 0) false (!isM f 0)
theorem zw (b f:Int):Ql (JT b) f 196=Xd f b false false false:=by
 obtain⟨z0,z1,z2,z3,z4,z5,z6,z7⟩:isM 196 0=false∧isM 196 1=false∧isM 196 2=true∧isM 196 3=false∧isM 196 4=false∧isM 196 5=false∧isM 196 6=true∧isM 196 7=true:=by decide +kernel
 obtain⟨e7,e6,e5,e4,e3,e2,e1,e0⟩:isM (JT b) 7=_∧isM (JT b) 6=_∧isM (JT b) 5=_∧isM (JT b) 4=_∧isM (JT b) 3=_∧isM (JT b) 2=_∧isM (JT b) 1=_∧isM (JT b) 0=_:=ZT _ _ _ _ _ _ _ _
 unfold Ql Xd
 rw[z0,z1,z2,z3,z4,z5,z6,z7,e0,e1,e3,e4,e5]
 rfl
theorem QE4:∀ b0 b1 b2 b3 b4 b5 b6 b7:Bool,bits .or .u8 (mkM b0 b1 b2 b3 b4 b5 b6 b7) 1=mkM b0 b1 b2 b3 b4 b5 b6 true∧bits .or .u8 (mkM b0 b1 b2 b3 b4 b5 b6 b7) 16=mkM b0 b1 b2 true b4 b5 b6 b7∧bits .or .u8 (mkM b0 b1 b2 b3 b4 b5 b6 b7) 2=mkM b0 b1 b2 b3 b4 b5 true b7∧bits .or .u8 (mkM b0 b1 b2 b3 b4 b5 b6 b7) 0=mkM b0 b1 b2 b3 b4 b5 b6 b7:=by decide +kernel
theorem QQd:∀ x:Fin 256,bits .and .u8 (x.val:Int) 1=one (isM (x.val:Int) 0):=by decide +kernel
theorem qm (f:Int)(h:B8 f):bits .and .u8 f 1=one (isM f 0):=Je (P:=fun f=>bits .and .u8 f 1=one (isM f 0)) QQd f h.1 h.2
theorem or_one (b0 b1 b2 b3 b4 b5 b6 c:Bool):bits .or .u8 (mkM b0 b1 b2 b3 b4 b5 b6 false) (one c)=mkM b0 b1 b2 b3 b4 b5 b6 c:=by
 cases c
 · exact (QE4 b0 b1 b2 b3 b4 b5 b6 false).2.2.2
 · exact (QE4 b0 b1 b2 b3 b4 b5 b6 false).1
theorem QNd (a f:Int)(hf:B8 f):bits .or .u8 (bits .or .u8 (bits .or .u8 (Ql (JT (255-a)) f 196) (bits .and .u8 f 1)) 16) 2=QJX a f:=by
 rw[zw,qm f hf]
 unfold Xd QJX Xd
 rw[or_one,(QE4 _ _ _ _ _ _ _ _).2.1,(QE4 _ _ _ _ _ _ _ _).2.2.1]
theorem QNr (a f:Int):bits .or .u8 (Ql (JT a) f 196) 1=QGN a f:=by
 rw[zw]
 unfold Xd QGN Xd
 rw[(QE4 _ _ _ _ _ _ _ _).1]
theorem QTc (a f:Int)(h:isM f 0=false):QGN a f=QGV a f:=by
 unfold QGN QGV
 rw[h]
 rfl
theorem QP5 (a f:Int)(h:isM f 0=true):bits .or .u8 (Ql (JT a) f 196) 16=QGV a f:=by
 rw[zw]
 unfold Xd QGV Xd
 rw[h,(QE4 _ _ _ _ _ _ _ _).2.1]
 rfl
def QDS (a f:Int):Bool:=isM f 4||decide (9 < a%16)
def qV (a f:Int):Bool:=isM f 0||decide (153 < a)
def byM (a f:Int):Int:=(if QDS a f then 6 else 0)+(if qV a f then 96 else 0)
def Z7 (a f:Int):Int:=if isM f 1 then (a-byM a f)%256 else (a+byM a f)%256
def QJK (a f:Int):Int :=
 mkM (isM (Z7 a f) 7) (Z7 a f==0) (isM (Z7 a f) 5) (isM a 4 != isM (Z7 a f) 4) (isM (Z7 a f) 3) (jV (Z7 a f)) (isM f 1) (qV a f)
theorem qU (a f:Int):B8 (Z7 a f):=by unfold Z7 B8;split<;>omega
theorem QBq (a f:Int):B8 (QJK a f):=J9 ..
theorem QNA (a f:Int):0≤byM a f∧byM a f≤102:=by unfold byM;split<;>split<;>omega
def inM (kind b f:Int):Bool :=
 if kind=0 then isM b 7 else if kind=1 then isM b 0 else if kind=2 then isM f 0 else if kind=3 then isM f 0 else
 if kind=4 then false else if kind=5 then isM b 7 else if kind=6 then true else false
def Z5 (kind b:Int):Bool:=if kind%2=0 then isM b 7 else isM b 0
def shlM (b:Int)(i:Bool):Int:=JR (Q2 b 1) 0 i
def shrM (b:Int)(i:Bool):Int:=JR (Q2 b (-1)) 7 i
def shM (kind b f:Int):Int:=if kind%2=0 then shlM b (inM kind b f) else shrM b (inM kind b f)
def doR (kind b f:Int):Int:=if 0≤kind∧kind < 8 then shM kind b f else b
def doF (kind b f:Int):Int:=if 0≤kind∧kind < 8 then JR (Jq (shM kind b f)) 0 (Z5 kind b) else f
def QFh (kind b f:Int):Int:=if 0≤kind∧kind < 4 then shM kind b f else b
def QFb (kind b f:Int):Int:=if 0≤kind∧kind < 4 then Xd f (shM kind b f) false false (Z5 kind b) else f
theorem QBV (kind b f:Int)(hb:B8 b):B8 (shM kind b f):=by
 unfold shM shlM shrM
 split
 · exact B8.with (Qg b 1 hb.1 hb.2) _ _
 · exact B8.with (Qg b (-1) hb.1 hb.2) _ _
theorem QOL (kind b f:Int)(hb:B8 b):B8 (doR kind b f):=by
 unfold doR
 split
 · exact QBV _ _ _ hb
 · exact hb
theorem QNZ (kind b f:Int)(hf:B8 f):B8 (doF kind b f):=by
 unfold doF
 split
 · exact B8.with (Qc _) _ _
 · exact hf
theorem QB1 (kind b f:Int)(hb:B8 b):B8 (QFh kind b f):=by
 unfold QFh
 split
 · exact QBV _ _ _ hb
 · exact hb
theorem QBp (kind b f:Int)(hf:B8 f):B8 (QFb kind b f):=by
 unfold QFb
 split
 · exact QR ..
 · exact hf
def QA0 (r:Int)(c:Bool):Int:=JR (Jq r) 0 c
theorem QAn (r:Int)(c:Bool):B8 (QA0 r c):=B8.with (Qc r) _ _
theorem mk_c:∀ b0 b1 b2 b3 b4 b5 b6 c:Bool,JR (mkM b0 b1 b2 b3 b4 b5 b6 false) 0 c=mkM b0 b1 b2 b3 b4 b5 b6 c:=by decide +kernel
theorem QGQ (r:Int)(c:Bool):bits .or .u8 (Jq r) (one c)=QA0 r c:=by
 unfold QA0 Jq
 rw[or_one,mk_c]
theorem QOt (r f:Int)(c:Bool):bits .or .u8 (Ql (JT r) f 196) (one c)=Xd f r false false c:=by
 rw[zw]
 unfold Xd
 rw[or_one]
def QAz (right:Bool)(a b:Int):Int:=a / 16*16+(if right then b%16 else b / 16)
def QJW (right:Bool)(a b:Int):Int:=(if right then a%16 else b%16)*16+(if right then b / 16 else a%16)
theorem qY (right:Bool)(a b:Int)(ha:B8 a)(hb:B8 b):B8 (QAz right a b):=by
 have a0:=ha.1;have a1:=ha.2;have b0:=hb.1;have b1:=hb.2
 cases right<;>(simp only[QAz,B8,if_true,if_false,Bool.false_eq_true];omega)
theorem QMe (right:Bool)(a b:Int)(ha:B8 a)(hb:B8 b):B8 (QJW right a b):=by
 have a0:=ha.1;have a1:=ha.2;have b0:=hb.1;have b1:=hb.2
 cases right<;>(simp only[QJW,B8,if_true,if_false,Bool.false_eq_true];omega)
theorem QOB:∀ x:Fin 256,bits .and .u8 (x.val:Int) 15=(x.val:Int)%16∧bits .andNot .u8 (x.val:Int) 15=(x.val:Int) / 16*16:=by decide +kernel
theorem QHi (b:Int)(hb:B8 b):bits .and .u8 b 15=b%16∧bits .andNot .u8 b 15=b / 16*16 :=
 Je (P:=fun b=>bits .and .u8 b 15=b%16∧bits .andNot .u8 b 15=b / 16*16) QOB b hb.1 hb.2
theorem QK7:∀ x y:Fin 16,bits .or .u8 ((x.val:Int)*16) (y.val:Int)=(x.val:Int)*16+(y.val:Int):=by decide +kernel
theorem QAB (x y:Int)(h0:0≤x)(h1:x < 16)(h2:0≤y)(h3:y < 16):bits .or .u8 (x*16) y=x*16+y:=by
 have:=QK7 ⟨x.toNat,by omega⟩ ⟨y.toNat,by omega⟩
 simpa [Int.toNat_of_nonneg h0,Int.toNat_of_nonneg h2] using this
def QCk (n b lines f:Int):Int:=mkM ((n==7)&&isM b n) (!isM b n) (isM lines 5) true (isM lines 3) (!isM b n) false (isM f 0)
theorem QEo (n b lines f:Int):B8 (QCk n b lines f):=J9 ..
def QID (lines f:Int):Int:=mkM false false (isM lines 5) true (isM lines 3) false false (isM f 0)
theorem or16:∀ c:Bool,bits .or .u8 16 (one c)=mkM false false false true false false false c:=by decide +kernel
theorem QOF (lines f:Int)(hf:B8 f):Ql (bits .or .u8 16 (bits .and .u8 f 1)) lines 40=QID lines f:=by
 obtain⟨z0,z1,z2,z3,z4,z5,z6,z7⟩:isM 40 0=false∧isM 40 1=false∧isM 40 2=false∧isM 40 3=true∧isM 40 4=false∧isM 40 5=true∧isM 40 6=false∧isM 40 7=false:=by decide +kernel
 rw[qm f hf,or16]
 obtain⟨e7,e6,e5,e4,e3,e2,e1,e0⟩:=ZT false false false true false false false (isM f 0)
 unfold Ql QID
 rw[z0,z1,z2,z3,z4,z5,z6,z7,e0,e1,e2,e4,e6,e7]
 rfl
theorem QN3:∀ y x c:Bool,bits .or .u8 (bits .or .u8 (mkM false false y true x false false c) 64) 4=mkM false true y true x true false c∧bits .or .u8 (mkM false false y true x false false c) 128=mkM true false y true x false false c:=by decide +kernel
theorem QT1 (n b lines f:Int)(h:isM b n=false):bits .or .u8 (bits .or .u8 (QID lines f) 64) 4=QCk n b lines f:=by
 unfold QCk QID
 rw[h,(QN3 _ _ _).1]
 simp
theorem QLj (b lines f:Int)(h:isM b 7=true):bits .or .u8 (QID lines f) 128=QCk 7 b lines f:=by
 unfold QCk QID
 rw[h,(QN3 _ _ _).2]
 rfl
theorem QRc (n b lines f:Int)(h:isM b n=true)(hn:¬n=7):QID lines f=QCk n b lines f:=by
 unfold QCk QID
 rw[h,show (n==7)=false from by simpa using hn]
 rfl
def QEs (a b:Int):Int:=(a+b)%256
theorem QJq (a b:Int):B8 (QEs a b):=by unfold QEs B8;omega
def lessM (a b:Int):Int:=if isM (QX a b false) 4 then (QT a b false+255)%256 else QT a b false
theorem QJI (a b:Int):B8 (lessM a b):=by
 unfold lessM
 split
 · unfold B8;omega
 · exact J7 ..
theorem QLU (a b:Int)(h:isM (QX a b false) 4=true):(QT a b false+255)%256=lessM a b:=by unfold lessM;rw[if_pos h]
theorem QJd (a b:Int)(h:isM (QX a b false) 4=true):(QT a b false-1)%256=lessM a b:=by
 rw[←QLU a b h];omega
theorem QON (a b:Int)(h:isM (QX a b false) 4=false):QT a b false=lessM a b:=by unfold lessM;rw[if_neg (by simp[h])]
def moveF (a b bc f:Int):Int:=mkM (isM f 7) (isM f 6) (isM (QEs a b) 1) false (isM (QEs a b) 3) (bc != 0) false (isM f 0)
def QHr (a b bc f:Int):Int :=
 mkM (isM (QX a b false) 7) (isM (QX a b false) 6) (isM (lessM a b) 1) (isM (QX a b false) 4) (isM (lessM a b) 3) (bc != 0) true (isM f 0)
def QBZ (b k left:Int):Int :=
 mkM (isM left 7) (left==0) (isM left 5) (decide (255 < k)) (isM left 3) (jV (zD (k%8) left)) (isM b 7) (decide (255 < k))
def byC (c s:Int):Int:=(c+s)%256
theorem QNL (c s:Int):B8 (byC c s):=by unfold byC B8;omega
theorem QJn (a b bc f:Int):B8 (moveF a b bc f):=J9 ..
theorem QJD (a b bc f:Int):B8 (QHr a b bc f):=J9 ..
theorem QDw (b k left:Int):B8 (QBZ b k left):=J9 ..
def Jo (kind f:Int):Bool :=
 if kind=0 then isM f 2 else if kind=1 then isM f 2&&!isM f 6 else if kind=2 then !isM f 6 else if kind=3 then !isM f 6 else false
theorem QJg (kind f:Int)(h:kind < 0∨4≤kind):Jo kind f=false:=by
 unfold Jo
 repeat (rw[if_neg (by omega)])
theorem QMN (a b:Int)(ha:B8 a)(hb:B8 b):bits .xor .u8 a b=zD a b:=by
 have q:=QH9 a b ha.1 ha.2 hb.1 hb.2
 have r:B8 (zD a b):=Jw ..
 refine QHq _ _ q.1 q.2 r.1 r.2 fun n hn=>?_
 rw[QKF a b n hn ha.1 ha.2 hb.1 hb.2]
 unfold zD QDF
 rw[QKz _ _ _ _ _ _ _ _ n hn]
 refine QP9 (fun n=>(isM a n ^^ isM b n)=[_,_,_,_,_,_,_,_].getD n false) ?_ n hn
 simp only[List.getD_cons_zero,List.getD_cons_succ,QTW]
 exact⟨rfl,rfl,rfl,rfl,rfl,rfl,rfl,rfl⟩
structure Ms where
 r:Rg
 plane:Int
 x:Int
 y:Int
 z:Int
 p:Int
 q:Int
 spot:Int
 near:Bool
structure MsB (s:Ms):Prop where
 r:RgB s.r
 plane:s.plane=0∨s.plane=3∨s.plane=4
 x:0≤s.x∧s.x≤3
 y:0≤s.y∧s.y≤7
 z:0≤s.z∧s.z≤7
 p:0≤s.p∧s.p≤3
 q:0≤s.q∧s.q≤1
 spot:Wd16 s.spot
def QGz (c:Cy)(s:Ms):Tr (Int×Ms):=.ask c fun b=>.done (b,s)
def Zd (a:Int)(s:Ms):Tr (Int×Ms):=QGz ⟨2,a,0,3⟩ s
def Xb (a b:Int)(s:Ms):Tr Ms:=(QGz ⟨3,a,b,3⟩ s).bind fun b=>.done b.2
def inN (a:Int)(s:Ms):Tr (Int×Ms):=QGz ⟨4,a,0,4⟩ s
def QIv (a b:Int)(s:Ms):Tr Ms:=(QGz ⟨5,a,b,4⟩ s).bind fun b=>.done b.2
def Js (n:Int)(s:Ms):Tr Ms:=(QGz ⟨7,0,0,n⟩ s).bind fun b=>.done b.2
def Ms.pc (s:Ms)(v:Int):Ms:={ s with r:={ s.r with pc:=v } }
def Ms.sp (s:Ms)(v:Int):Ms:={ s with r:={ s.r with sp:=v } }
def Ms.wz (s:Ms)(v:Int):Ms:={ s with r:={ s.r with wz:=v } }
def Ms.af (s:Ms)(a f:Int):Ms:={ s with r:={ s.r with af:=256*a+f } }
def Ms.pcUp (s:Ms):Ms:=s.pc ((s.r.pc+1)%65536)
def ZV (s:Ms):Tr (Int×Ms):=(QGz ⟨1,s.r.pc,0,4⟩ s).bind fun b=>.done (b.1,{ b.2 with r:=Zm b.2.r 1 })
def ZC (s:Ms):Tr (Int×Ms):=(ZV s).bind fun b=>.done (b.1,b.2.pcUp)
def XZ (s:Ms):Tr (Int×Ms):=(Zd s.r.pc s).bind fun b=>.done (b.1,b.2.pcUp)
def qG (s:Ms):Tr (Int×Ms):=(XZ s).bind fun l=>(XZ l.2).bind fun h=>.done (256*h.1+l.1,h.2)
def qo (a:Int)(s:Ms):Tr (Int×Ms):=(Zd a s).bind fun l=>(Zd ((a+1)%65536) l.2).bind fun h=>.done (256*h.1+l.1,h.2)
def Ms.spDown (s:Ms):Ms:=s.sp ((s.r.sp-1)%65536)
def QCQ (w:Int)(s:Ms):Tr Ms:=(Xb s.spDown.r.sp (w / 256) s.spDown).bind fun s=>Xb s.spDown.r.sp (w%256) s.spDown
def QGb (s:Ms):Tr (Int×Ms):=(qo s.r.sp s).bind fun w=>.done (w.1,w.2.sp ((w.2.r.sp+2)%65536))
def Ms.goTo (s:Ms)(w:Int):Ms:=(s.pc w).wz w
def Ms.a (s:Ms):Int:=s.r.af / 256
def Ms.f (s:Ms):Int:=s.r.af%256
def Ms.setA (s:Ms)(a:Int):Ms:=s.af a s.f
def Ms.setF (s:Ms)(f:Int):Ms:=s.af s.a f
def Ms.carry (s:Ms):Int:=one (isM s.f 0)
def Ms.hl (s:Ms):Int:=X3 s.r s.plane 2
def Ms.setHL (s:Ms)(w:Int):Ms:={ s with r:=Q7 s.r s.plane 2 w }
def Ms.pair (s:Ms):Int:=X3 s.r s.plane s.p
def Ms.setPair (s:Ms)(w:Int):Ms:={ s with r:=Q7 s.r s.plane s.p w }
def QBe (k:Int)(s:Ms):Tr (Int×Ms):=if k=6 then Zd s.spot s else .done (QAq s.r s.plane k,s)
def QDb (k b:Int)(s:Ms):Tr Ms:=if k=6 then Xb s.spot b s else .done { s with r:=QF4 s.r s.plane k b }
def Ms.left (s:Ms):Int:=(QAq s.r s.plane 0-1)%256
def Ms.lessB (s:Ms):Ms:={ s with r:=QF4 s.r s.plane 0 s.left }
def QMt (s:Ms):Tr Ms:=(XZ s).bind fun n=>.done { n.2.wz (JG s.hl (JP n.1)) with spot:=JG s.hl (JP n.1),near:=true,plane:=0 }
def Ms.split (s:Ms)(c:Int):Ms:={ s with x:=fx c,y:=fy c,z:=fz c,p:=fp c,q:=fq c }
def Ms.holds (s:Ms)(c:Int):Bool:=QFR s.f c
def zC (holds:Bool)(s:Ms):Tr Ms:=(XZ s).bind fun e=>if holds then (Js 5 e.2).bind fun s=>.done (s.goTo (JG s.r.pc (JP e.1))) else .done e.2
def QA2 (s:Ms):Tr Ms :=
 if s.y=0 then .done s else if s.y=1 then .done { s with r:=QKS s.r } else
 if s.y=2 then (Js 1 s).bind fun s=>zC (s.left != 0) s.lessB else
 if s.y=3 then zC true s else zC (s.holds (s.y-4)) s
def jE (s:Ms):Tr Ms :=
 if s.q=0 then (qG s).bind fun w=>.done (w.2.setPair w.1) else
 (Js 7 s).bind fun s =>
   let t:=s.wz ((s.hl+1)%65536)
   .done ((t.setHL (jo t.hl t.pair false)).setF (QFF t.hl t.pair t.f))
def QI1 (s:Ms)(at_:Int):Ms:=s.wz (256*s.a+(at_%256+1)%256)
def QAH (at_:Int)(s:Ms):Tr Ms:=(Xb at_ s.a s).bind fun s=>.done (QI1 s at_)
def QBj (at_:Int)(s:Ms):Tr Ms:=(Zd at_ s).bind fun b=>.done ((b.2.setA b.1).wz ((at_+1)%65536))
def ZQ (at_ w:Int)(s:Ms):Tr Ms:=(Xb at_ (w%256) s).bind fun s=>(Xb ((at_+1)%65536) (w / 256) s).bind fun s=>.done (s.wz ((at_+1)%65536))
def Zz (at_:Int)(s:Ms):Tr (Int×Ms):=(qo at_ s).bind fun w=>.done (w.1,w.2.wz ((at_+1)%65536))
def Xm (s:Ms):Tr Ms :=
 if s.y=0∨s.y=2 then QAH s.pair s else if s.y=1∨s.y=3 then QBj s.pair s else
 if s.y=4 then (qG s).bind fun w=>ZQ w.1 w.2.hl w.2 else
 if s.y=5 then (qG s).bind fun w=>(Zz w.1 w.2).bind fun v=>.done (v.2.setHL v.1) else
 if s.y=6 then (qG s).bind fun w=>QAH w.1 w.2 else
 if s.y=7 then (qG s).bind fun w=>QBj w.1 w.2 else .done s
def j7 (s:Ms):Tr Ms:=(Js 2 s).bind fun s=>if s.q=0 then .done (s.setPair ((s.pair+1)%65536)) else .done (s.setPair ((s.pair-1)%65536))
def qu (d:Bool)(s:Ms):Tr Ms:=(QBe s.y s).bind fun b=>(if b.2.y=6 then Js 1 b.2 else .done b.2).bind fun s =>
 QDb s.y (if d then QT b.1 1 false else Xe b.1 1 false) (s.setF (if d then QId b.1 s.f else QIR b.1 s.f))
def Zf (s:Ms):Tr Ms:=(XZ s).bind fun n=>(if n.2.near then Js 2 n.2 else .done n.2).bind fun s=>QDb s.y n.1 s
def Xn (s:Ms):Ms :=
 if s.y=4 then s.af (Z7 s.a s.f) (QJK s.a s.f) else if s.y=5 then s.af (255-s.a) (QJX s.a s.f) else
 if s.y=6 then s.af s.a (QGN s.a s.f) else if s.y=7 then s.af s.a (QGV s.a s.f) else s.af (QFh s.y s.a s.f) (QFb s.y s.a s.f)
def Qj (b:Int)(s:Ms):Ms :=
 if s.y=0 then s.af (Xe s.a b false) (Xr s.a b false) else if s.y=1 then s.af (Xe s.a b (s.carry != 0)) (Xr s.a b (s.carry != 0)) else
 if s.y=2 then s.af (QT s.a b false) (QX s.a b false) else if s.y=3 then s.af (QT s.a b (s.carry != 0)) (QX s.a b (s.carry != 0)) else
 if s.y=4 then s.af (QCl s.a b) (QBD (QCl s.a b)) else if s.y=5 then s.af (zD s.a b) (Jq (zD s.a b)) else
 if s.y=6 then s.af (orR s.a b) (Jq (orR s.a b)) else if s.y=7 then s.af s.a (QHK s.a b) else s.af s.a s.f
def zY (s:Ms):Tr Ms :=
 if s.z=0 then QA2 s else if s.z=1 then jE s else if s.z=2 then Xm s else if s.z=3 then j7 s else
 if s.z=4 then qu false s else if s.z=5 then qu true s else if s.z=6 then Zf s else if s.z=7 then .done (Xn s) else .done s
def QIA (s:Ms):Tr Ms:=if s.y=6∧s.z=6 then .done { s with r:={ s.r with halted:=true } } else (QBe s.z s).bind fun b=>QDb s.y b.1 b.2
def QA1 (s:Ms):Tr Ms:=(QBe s.z s).bind fun b=>.done (Qj b.1 b.2)
def QHW (s:Ms):Tr Ms :=
 if s.q=0 then (if s.p=3 then (QGb s).bind fun w=>.done { w.2 with r:={ w.2.r with af:=w.1 } } else (QGb s).bind fun w=>.done (w.2.setPair w.1)) else
 if s.p=0 then (QGb s).bind fun w=>.done (w.2.goTo w.1) else if s.p=1 then .done { s with r:=QSG s.r } else
 if s.p=2 then .done (s.pc s.hl) else if s.p=3 then (Js 2 s).bind fun s=>.done (s.sp s.hl) else .done s
def QEr (holds:Bool)(s:Ms):Tr Ms:=(qG s).bind fun w=>if holds then (Js 1 (w.2.wz w.1)).bind fun s=>(QCQ s.r.pc s).bind fun s=>.done (s.pc s.r.wz) else .done (w.2.wz w.1)
def QAs (s:Ms):Tr Ms:=if s.q=0 then (Js 1 s).bind fun s=>if s.p=3 then QCQ s.r.af s else QCQ s.pair s else QEr true s
def X6 (s:Ms):Tr Ms:=(qo s.r.sp s).bind fun w=>(Js 1 w.2).bind fun t=>(Xb ((t.r.sp+1)%65536) (w.2.hl / 256) t).bind fun t =>
 (Xb t.r.sp (w.2.hl%256) t).bind fun t=>(Js 2 t).bind fun t=>.done ((t.setHL w.1).wz w.1)
def QAy (s:Ms):Tr Ms :=
 if s.y=0 then (qG s).bind fun w=>.done (w.2.goTo w.1) else
 if s.y=2 then (XZ s).bind fun n=>(QIv (256*s.a+n.1) n.2.a n.2).bind fun t=>.done (QI1 t (256*s.a+n.1)) else
 if s.y=3 then (XZ s).bind fun n=>(inN (256*s.a+n.1) n.2).bind fun b=>.done ((b.2.setA b.1).wz ((256*s.a+n.1+1)%65536)) else
 if s.y=4 then X6 s else if s.y=5 then .done { s with r:={ s.r with de:=s.r.hl,hl:=s.r.de } } else
 if s.y=6 then .done { s with r:={ s.r with iff1:=false,iff2:=false } } else if s.y=7 then .done { s with r:={ s.r with iff1:=true,iff2:=true,late:=true } } else .done s
def zf (s:Ms):Tr Ms :=
 if s.z=0 then (Js 1 s).bind fun s=>if s.holds s.y then (QGb s).bind fun w=>.done (w.2.goTo w.1) else .done s else
 if s.z=1 then QHW s else
 if s.z=2 then (qG s).bind fun w=>if w.2.holds w.2.y then .done ((w.2.wz w.1).pc w.1) else .done (w.2.wz w.1) else
 if s.z=3 then QAy s else if s.z=4 then QEr (s.holds s.y) s else if s.z=5 then QAs s else
 if s.z=6 then (XZ s).bind fun n=>.done (Qj n.1 n.2) else
 if s.z=7 then (Js 1 s).bind fun s=>(QCQ s.r.pc s).bind fun s=>.done (s.goTo ((8*s.y)%65536)) else .done s
def QBS (s:Ms):Tr Ms:=(inN s.r.bc s).bind fun b =>
 let t:=(b.2.wz ((b.2.r.bc+1)%65536)).setF (JR (Jq b.1) 0 (isM b.2.f 0))
 if t.y=6 then .done t else QDb t.y b.1 t
def zZ (s:Ms):Tr Ms:=(if s.y=6 then .done (0,s) else QBe s.y s).bind fun b=>(QIv b.2.r.bc b.1 b.2).bind fun s=>.done (s.wz ((s.r.bc+1)%65536))
def Zh (s:Ms):Tr Ms:=(Js 7 s).bind fun s =>
 let t:=s.wz ((s.r.hl+1)%65536)
 if t.q=0 then .done (({ t with r:={ t.r with hl:=QAS t.r.hl t.pair (isM t.f 0) } }:Ms).setF (QA8 t.r.hl t.pair (isM t.f 0)))
 else .done (({ t with r:={ t.r with hl:=jo t.r.hl t.pair (isM t.f 0) } }:Ms).setF (QAO t.r.hl t.pair (isM t.f 0)))
def ZF (s:Ms):Tr Ms:=(qG s).bind fun at_=>if at_.2.q=0 then ZQ at_.1 at_.2.pair at_.2 else (Zz at_.1 at_.2).bind fun w=>.done (w.2.setPair w.1)
def QDk (b:Int)(s:Ms):Ms:=s.af b (JR (JR (JT b) 0 (isM s.f 0)) 2 s.r.iff2)
def Zg (s:Ms):Tr Ms:=(Zd s.r.hl s).bind fun b=>(Js 4 b.2).bind fun s =>
 (Xb s.r.hl (QJW (s.y==4) s.a b.1) (s.af (QAz (s.y==4) s.a b.1) (QA0 (QAz (s.y==4) s.a b.1) (isM s.f 0)))).bind fun s=>.done (s.wz ((s.r.hl+1)%65536))
def zP (s:Ms):Tr Ms :=
 if s.y=0 then (Js 1 s).bind fun s=>.done { s with r:={ s.r with i:=s.a } } else
 if s.y=1 then (Js 1 s).bind fun s=>.done { s with r:={ s.r with r:=s.a } } else
 if s.y=2 then (Js 1 s).bind fun s=>.done (QDk s.r.i s) else
 if s.y=3 then (Js 1 s).bind fun s=>.done (QDk s.r.r s) else
 if s.y=4∨s.y=5 then Zg s else .done s
def Ms.mode (s:Ms)(m:Int):Ms:={ s with r:={ s.r with mode:=m } }
def qO (s:Ms):Tr Ms :=
 if s.z=0 then QBS s else if s.z=1 then zZ s else if s.z=2 then Zh s else if s.z=3 then ZF s else
 if s.z=4 then .done (s.af (QT 0 s.a false) (QX 0 s.a false)) else
 if s.z=5 then (QGb s).bind fun w=>.done { (w.2.goTo w.1) with r:={ (w.2.goTo w.1).r with iff1:=w.2.r.iff2 } } else
 if s.z=6 then (if s.y%4=2 then .done (s.mode 1) else if s.y%4=3 then .done (s.mode 2) else .done (s.mode 0)) else if s.z=7 then zP s else .done s
def Ms.hlBy (s:Ms)(d:Int):Ms:={ s with r:={ s.r with hl:=JG s.r.hl d } }
def Ms.deBy (s:Ms)(d:Int):Ms:={ s with r:={ s.r with de:=JG s.r.de d } }
def Ms.bcDown (s:Ms):Ms:={ s with r:={ s.r with bc:=(s.r.bc-1)%65536 } }
def Z6 (d:Int)(s:Ms):Tr Ms:=(Zd s.r.hl s).bind fun b=>(Xb b.2.r.de b.1 b.2).bind fun s=>(Js 2 s).bind fun s =>
 let t:=((s.hlBy d).deBy d).bcDown
 .done (t.setF (moveF t.a b.1 t.r.bc t.f))
def jK (d:Int)(s:Ms):Tr Ms:=(Zd s.r.hl s).bind fun b=>(Js 5 b.2).bind fun s =>
 let t:=((s.hlBy d).wz (JG s.r.wz d)).bcDown
 .done (t.setF (QHr t.a b.1 t.r.bc t.f))
def Z2 (d:Int)(s:Ms):Tr Ms:=(Js 1 s).bind fun s=>(inN s.r.bc s).bind fun b =>
 let t:=b.2.wz (JG b.2.r.bc d)
 (Xb t.lessB.r.hl b.1 t.lessB).bind fun s=>.done ((s.hlBy d).setF (QBZ b.1 (b.1+byC (QAq (s.hlBy d).r (s.hlBy d).plane 1) d) t.left))
def jM (d:Int)(s:Ms):Tr Ms:=(Js 1 s).bind fun s=>(Zd s.r.hl s).bind fun b =>
 let t:=b.2.lessB.wz (JG b.2.lessB.r.bc d)
 (QIv t.r.bc b.1 t).bind fun s=>.done ((s.hlBy d).setF (QBZ b.1 (b.1+(s.hlBy d).r.hl%256) b.2.left))
def QAw (s:Ms):Tr Ms:=(Js 5 s).bind fun s=>if s.z=0∨s.z=1 then .done ((s.pc ((s.r.pc-2)%65536)).wz (((s.r.pc-2)%65536+1)%65536)) else .done (s.pc ((s.r.pc-2)%65536))
def QDi (d:Int)(s:Ms):Tr Ms:=(if s.z=0 then Z6 d s else if s.z=1 then jK d s else if s.z=2 then Z2 d s else if s.z=3 then jM d s else .done s).bind fun s =>
 if 6≤s.y∧Jo s.z s.f=true then QAw s else .done s
def QAu (s:Ms):Tr Ms:=if 4≤s.z∨s.y < 4 then .done s else if s.q=0 then QDi 1 s else QDi (-1) s
def Ms.inMem (s:Ms):Bool:=s.near||(s.z==6)
def X2 (s:Ms):Tr (Int×Ms):=if s.inMem=true then (Zd s.spot s).bind fun b=>(Js 1 b.2).bind fun t=>.done (b.1,t) else QBe s.z s
def zt (b:Int)(s:Ms):Tr Ms:=(if s.inMem=true then Xb s.spot b s else .done s).bind fun s=>if s.z=6 then .done s else QDb s.z b s
def zM (s:Ms):Tr Ms:=(X2 s).bind fun b=>zt (doR b.2.y b.1 b.2.f) (b.2.setF (doF b.2.y b.1 b.2.f))
def QBL (s:Ms):Tr Ms:=(X2 s).bind fun b=>if b.2.inMem=true then .done (b.2.setF (QCk b.2.y b.1 (b.2.r.wz / 256) b.2.f)) else .done (b.2.setF (QCk b.2.y b.1 b.1 b.2.f))
def ZA (on:Bool)(s:Ms):Tr Ms:=(X2 s).bind fun b=>zt (JR b.1 b.2.y on) b.2
def jX (s:Ms):Tr (Int×Ms):=if s.plane=0 then ZC s else (QMt s).bind fun s=>(XZ s).bind fun c=>(Js 2 c.2).bind fun s=>.done (c.1,s)
def jw (c:Int)(s:Ms):Tr Ms:=if Jp s.plane c=true then (QMt (s.split c)).bind fun s=>if s.x≠0∨s.z≠6 then Js 5 s else .done s else .done (s.split c)
def QD6 (s:Ms):Tr Ms:=if s.x=0 then zY s else if s.x=1 then QIA s else if s.x=2 then QA1 s else zf s
def QDE (s:Ms):Tr Ms:=if s.x=1 then qO s else if s.x=2 then QAu s else .done s
def QC9 (s:Ms):Tr Ms:=if s.x=0 then zM s else if s.x=1 then QBL s else if s.x=2 then ZA false s else ZA true s
def Ms.atHL (s:Ms):Ms:={ s with spot:=s.r.hl }
def Ms.toPlane (s:Ms)(v:Int):Ms:={ s with plane:=v }
def Ms.noLate (s:Ms):Ms:={ s with r:={ s.r with late:=false } }
def QHY (c:Int)(s:Ms):Tr Ms :=
 if c=203 then ((jX s.atHL).bind fun c=>.done (c.2.split c.1)).bind QC9 else
 if c=237 then ((ZC (s.atHL.toPlane 0)).bind fun c=>.done (c.2.split c.1)).bind QDE else
 (jw c s.atHL).bind QD6
def XH:List Int→Int→Ms→Except Cy (Ms×List Int)
 | [],c,s=>if c=221∨c=253 then .error ⟨1,s.r.pc,0,4⟩ else (QHY c s).run []
 | b :: bs,c,s=>if c=221∨c=253 then XH bs b ({ s.toPlane (if c=253 then 4 else 3) with r:=Zm s.r 1 }:Ms).pcUp else (QHY c s).run (b :: bs)
theorem QBt {c:Int}(h:¬(c=221∨c=253))(s:Ms)(xs:List Int):XH xs c s=(QHY c s).run xs:=by
 cases xs with
 | nil=>rw[XH,if_neg h]
 | cons b bs=>rw[XH,if_neg h]
theorem QDv {c:Int}(h:c=221∨c=253){s t:Ms}(ht:t=s.toPlane (if c=253 then 4 else 3))(xs:List Int):XH xs c s=match (ZC t).run xs with|.ok ((b,u),ys)=>XH ys b u|.error e=>.error e:=by
 subst ht
 cases xs with
 | nil=>rw[XH,if_pos h];rfl
 | cons b bs =>
   rw[XH,if_pos h]
   have e:(ZC (s.toPlane (if c=253 then 4 else 3))).run (b :: bs)=.ok ((b,({ s.toPlane (if c=253 then 4 else 3) with r:=Zm s.r 1 }:Ms).pcUp),bs):=Tr.run_done _ _
   rw[e]
theorem QB2 {s s':Ms} {xs ys:List Int} {b:Int}(h:(ZC s).run xs=.ok ((b,s'),ys)):ys.length < xs.length:=by
 cases xs with
 | nil=>cases h
 | cons c cs =>
   have e:(ZC s).run (c :: cs)=.ok ((c,({ s with r:=Zm s.r 1 }:Ms).pcUp),cs):=Tr.run_done _ _
   rw[e] at h
   cases h
   simp
section
variable {P:Program} {ops:Array Oper} {md:Region.Mode} {Q:Exit→Act→World→Prop} {S:World→Prop} {n:Nat} {L:Array Bool→Act→World→Prop}
def QBr (P:Program)(md:Region.Mode)(ops:Array Oper)(Q:Exit→Act→World→Prop)(S:World→Prop)(n:Nat)(L:Array Bool→Act→World→Prop):Nat→Array Bool→Act→World→Prop
 | 0,listed,a,w=>L listed a w
 | f+1,listed,a,w=>Region.ready md ops listed≠[] ∧
   ∀ i∈Region.ready md ops listed,i < n∧wpOp P ops Q i (fun a' w'=>S w'∧QBr P md ops Q S n L f (listed.setIfInBounds i true) a' w') a w
theorem jg {g:Nat}(hL:∀ listed a w,L listed a w→wpAny P md ops Q g listed a w) :
 ∀ (f:Nat) (listed:Array Bool) (a:Act) (w:World),QBr P md ops Q S n L f listed a w→wpAny P md ops Q (f+g) listed a w
 | 0,listed,a,w,h=>by rw[Nat.zero_add];exact hL _ _ _ h
 | f+1,listed,a,w,h=>by
   rw[show f+1+g=(f+g)+1 by omega]
   exact⟨fun h0=>absurd h0 h.1,fun i hi=>wpOp_mono (fun a' w' h'=>jg hL f _ a' w' h'.2) (h.2 i hi).2⟩
theorem QBB {i:Nat} {oi:Oper} {v:Value}(hi:ops[i]? = some oi)(hsel:∀ (j:Nat) (o:Oper) cs b,ops[j]? = some o→o.op≠.select cs b)
 (hs:Region.sinkB md ops n=true)(hc:Region.chainB md ops n=true)(hn:n < ops.size)(hin:i < n)
 (hQ:∀ c a w,Q (.panic c) (a.put oi.dst v) w→Q (.panic c) a w)
 (hdone:∀ listed a w,L listed a w→∀ j∈Region.ready md ops listed,n≤j) :
 ∀ (f:Nat) (listed:Array Bool) (a:Act) (w:World),HeadInv md ops n listed →
  (∀ j oj,ops[j]? = some oj→j≠i→listed.getD j true=false→(∀ e∈oj.after,Region.binds md e=true→e.on≠i)→oi.apart ops oj=true) →
  i∈Region.ready md ops listed→YieldsIf P ops S oi v a→S w →
  QBr P md ops Q S n L f (listed.setIfInBounds i true) (a.put oi.dst v) w→QBr P md ops Q S n L (f+1) listed a w:=by
 intro f
 induction f with
 | zero =>
   intro listed a w inv _ hr hy hS H
   refine⟨fun h=>(by rw[h] at hr;cases hr),fun j hj=>?_⟩
   have hjn:j < n:=Nat.lt_of_not_le fun h=>tail_waits hs hc hn inv _ i rfl hin (mem_ready.1 hr).1 j h hj
   refine⟨hjn,?_⟩
   by_cases hji:j=i
   · subst hji;exact hy.wpOp hi hS ⟨hS,H⟩
   · have:=hdone _ _ _ H j (ready_mono hj hji)
     omega
 | succ f ih =>
   intro listed a w inv hfree hr hy hS H
   refine⟨fun h=>(by rw[h] at hr;cases hr),fun j hj=>?_⟩
   have hjn:j < n:=Nat.lt_of_not_le fun h=>tail_waits hs hc hn inv _ i rfl hin (mem_ready.1 hr).1 j h hj
   refine⟨hjn,?_⟩
   by_cases hji:j=i
   · subst hji;exact hy.wpOp hi hS ⟨hS,H⟩
   · have h1:=(H.2 j (ready_mono hj hji)).2
     obtain⟨hjun,oj,hoj,hall⟩:=mem_ready.1 hj
     have hnot:∀ e∈oj.after,Region.binds md e=true→e.on≠i:=fun e he hb heq=>by
      have h1:=hall e he hb
      rw[heq,getD_both (mem_ready.1 hr).1] at h1
      cases h1
     have h2:=wpOp_putIf hoj (hfree j oj hoj hji hjun hnot) (fun cs b=>hsel i oi cs b hi) (fun cs b=>hsel j oj cs b hoj) hQ hy h1
     have hfree':∀ k ok,ops[k]? = some ok→k≠i→(listed.setIfInBounds j true).getD k true=false →
      (∀ e∈ok.after,Region.binds md e=true→e.on≠i)→oi.apart ops ok=true:=fun k ok hk hki hun hno=>by
      refine hfree k ok hk hki ?_ hno
      by_cases hjk:j=k
      · subst hjk;exact hjun
      · rw[getD_set_ne true hjk] at hun;exact hun
     refine wpOp_mono (fun a' w' h3=>⟨h3.2.1,ih (listed.setIfInBounds j true) a' w' (inv.set hj hjn) hfree' (ready_mono hr (Ne.symm hji)) h3.1 h3.2.1 ?_⟩) h2
     rw[Array.setIfInBounds_comm _ _ hji]
     exact h3.2.2
def QNE (P:Program)(ops:Array Oper)(Q:Exit→Act→World→Prop)(n:Nat)(listed:Array Bool)(a:Act)(w:World):Prop :=
 Region.seqB .any ops (ops.size-n) n listed=true∧wpList P ops Q (ops.toList.drop n) a w
def Xf (P:Program)(ops:Array Oper)(Q:Exit→Act→World→Prop)(S:World→Prop)(n f:Nat)(listed:Array Bool)(a:Act)(w:World):Prop :=
 HeadInv .any ops n listed→QBr P .any ops Q S n (QNE P ops Q n) f listed a w
def QV (ops:Array Oper)(n:Nat):Bool:=Region.noSelect ops&&(decide (n < ops.size)&&(Region.sinkB .any ops n&&Region.chainB .any ops n))
theorem QAb {id:Nat} {a:Act} {w:World}(n:Nat)(S:World→Prop)(hm:P.follows .mixedOrders=true)(hB:QV ops n=true)(hS:S w.drew)
 (h:∀ w',w'=w.drew→S w'→Xf P ops Q S n n (Array.replicate ops.size false) a w'):(Code.region id ops true).wp P Q a w:=by
 simp only[QV,Bool.and_eq_true,decide_eq_true_eq] at hB
 obtain⟨hsel,hn,hs,hc⟩:=hB
 have inv0:HeadInv .any ops n (Array.replicate ops.size false) :=
  ⟨by simp,fun j oj _ hl=>(by rw[getD_replicate_false] at hl;cases hl),fun t _ ht=>getD_in (by simpa using ht) (getD_replicate_false _ _)⟩
 have H:=h _ rfl hS inv0
 refine wp_region_any hm ?_
 have:=jg (g:=ops.size-n) (fun listed a w hL=>by
  have:=wpAny_of_seq (md:=.any) (Q':=Q) (ops.toList.drop n) n listed a w (fun j=>by simp[List.getElem?_drop]) (by simpa using hL.1) hL.2
  simpa using this) _ _ _ _ H
 rwa [show n+(ops.size-n)=ops.size by omega] at this
theorem X0 {i f:Nat} {listed:Array Bool} {a:Act} {w:World} {o:Oper}(d:Tmp)(v:Value)(hd:o.dst=some d)(ho:ops[i]? = some o)(hB:QV ops n=true)(hin:decide (i < n)=true)(hf:Region.free .any ops listed i=true)
 (hr:(Region.ready .any ops listed).contains i=true)(hQ:∀ c a w,Q (.panic c) (a.put o.dst v) w→Q (.panic c) a w)(hw:Region.wanted o (yielded ops a.tmps)=true)
 (he:∀ w,S w→(execOp a.eval o).run P w=.ok (.value v) w)(hS:S w)
 (h:Xf P ops Q S n f (listed.setIfInBounds i true) (a.put (some d) v) w):Xf P ops Q S n (f+1) listed a w:=by
 simp only[QV,Bool.and_eq_true,decide_eq_true_eq] at hB
 obtain⟨hsel,hn,hs,hc⟩:=hB
 intro inv
 have hr':i∈Region.ready .any ops listed:=by simpa using hr
 exact QBB ho (Region.noSelect_spec hsel) hs hc hn (of_decide_eq_true hin) hQ (fun listed' a' w' hL=>seqB_ready hL.1) f listed a w inv (Region.free_spec ho hf) hr' (.inl ⟨hw,he⟩) hS
  (by rw[hd];exact h (inv.set hr' (of_decide_eq_true hin)))
theorem QEu {i f:Nat} {listed:Array Bool} {a:Act} {w:World} {o:Oper}(d:Tmp)(hd:o.dst=some d)(ho:ops[i]? = some o)(hB:QV ops n=true)(hin:decide (i < n)=true)(hf:Region.free .any ops listed i=true)
 (hr:(Region.ready .any ops listed).contains i=true)(hQ:∀ c a w,Q (.panic c) (a.put o.dst undef) w→Q (.panic c) a w)(hw:Region.wanted o (yielded ops a.tmps)=false)(hS:S w)
 (h:Xf P ops Q S n f (listed.setIfInBounds i true) (a.put (some d) undef) w):Xf P ops Q S n (f+1) listed a w:=by
 simp only[QV,Bool.and_eq_true,decide_eq_true_eq] at hB
 obtain⟨hsel,hn,hs,hc⟩:=hB
 intro inv
 have hr':i∈Region.ready .any ops listed:=by simpa using hr
 exact QBB ho (Region.noSelect_spec hsel) hs hc hn (of_decide_eq_true hin) hQ (fun listed' a' w' hL=>seqB_ready hL.1) f listed a w inv (Region.free_spec ho hf) hr' (.inr ⟨hw,rfl⟩) hS
  (by rw[hd];exact h (inv.set hr' (of_decide_eq_true hin)))
theorem QK0 {i f:Nat} {listed:Array Bool} {a:Act} {w:World} {o:Oper} {g:FuncId} {args:Array Value} {R:Ending→World→Prop}(ho:ops[i]? = some o)(hr:Region.ready .any ops listed=[i])(hin:decide (i < n)=true)
 (hw:Region.wanted o (yielded ops a.tmps)=true)(he:(execOp a.eval o).run P w=.ok (.enter g args) w)(hc:Calls P g args w R)
 (h:∀ e w',R e w'→match e with
   | .returned v=>S w'∧Xf P ops Q S n f (listed.setIfInBounds i true) (a.put o.dst v) w'
   | .panicked c=>Q (.panic c) a w'
   | .outgrown=>False):Xf P ops Q S n (f+1) listed a w:=by
 intro inv
 have hr':i∈Region.ready .any ops listed:=by rw[hr];simp
 refine⟨by rw[hr];simp,fun j hj=>?_⟩
 rw[hr] at hj
 have hji:j=i:=by simpa using hj
 subst hji
 refine⟨of_decide_eq_true hin,?_⟩
 unfold wpOp
 simp only[ho,hw,if_true]
 refine .inl ?_
 unfold Oper.wp
 rw[he,Oper.upon_enter]
 refine hc.mono fun e w' hR=>?_
 have:=h e w' hR
 cases e with
 | returned v=>exact⟨this.1,this.2 (inv.set hr' (of_decide_eq_true hin))⟩
 | panicked c=>exact this
 | outgrown=>exact this.elim
structure WL (P:Program)(ops:Array Oper)(Q:Exit→Act→World→Prop)(l:List Oper)(a:Act)(w:World):Prop where
 h:wpList P ops Q l a w
theorem JD {id:Nat} {l:List Oper} {a:Act} {w:World}(h:WL P l.toArray Q l a w):(Code.region id l.toArray false).wp P Q a w:=wp_region_lit h.h
theorem Ja {a:Act} {w:World}(h:Q .normal a w):WL P ops Q [] a w:=⟨wpList_nil h⟩
theorem QIG {listed:Array Bool} {a:Act} {w:World}(hB:Region.seqB .any ops (ops.size-n) n listed=true)(h:WL P ops Q (ops.toList.drop n) a w):Xf P ops Q S n 0 listed a w:=fun _=>⟨hB,h.h⟩
theorem qi {a:Act} {w:World} {o:Oper} {rest:List Oper} {g:FuncId} {args:Array Value} {R:Ending→World→Prop}(hw:Region.wanted o (yielded ops a.tmps)=true)
 (he:(execOp a.eval o).run P w=.ok (.enter g args) w)(hc:Calls P g args w R)
 (h:∀ e w',R e w'→match e with
   | .returned v=>WL P ops Q rest (a.put o.dst v) w'
   | .panicked c=>Q (.panic c) a w'
   | .outgrown=>False):WL P ops Q (o :: rest) a w :=
 ⟨wpList_step fun K hK=>by
  rw[if_pos hw]
  unfold Oper.wp
  rw[he,Oper.upon_enter]
  refine hc.mono fun e w' hR=>?_
  have:=h e w' hR
  cases e with
  | returned v=>exact hK _ _ this.h
  | panicked c=>exact this
  | outgrown=>exact this.elim⟩
theorem JO {rest:List Oper} {o:Oper} {a:Act} {w:World}(d:Tmp)(v:Value)(hd:o.dst=some d)(hw:Region.wanted o (yielded ops a.tmps)=true)(he:(execOp a.eval o).run P w=.ok (.value v) w)
 (h:WL P ops Q rest (a.put (some d) v) w):WL P ops Q (o :: rest) a w :=
 ⟨wpList_step fun K hK=>by
  rw[if_pos hw]
  unfold Oper.wp
  rw[he,Oper.upon_value,hd]
  exact hK _ _ h.h⟩
theorem QBh {rest:List Oper} {o:Oper} {a:Act} {w:World}(d:Tmp)(hd:o.dst=some d)(hw:Region.wanted o (yielded ops a.tmps)=false)
 (h:WL P ops Q rest (a.put (some d) undef) w):WL P ops Q (o :: rest) a w :=
 ⟨wpList_step fun K hK=>by
  rw[if_neg (by rw[hw];simp),hd]
  exact hK _ _ h.h⟩
theorem XX {rest:List Oper} {o:Oper} {a:Act} {w w':World}(hd:o.dst=none)(hw:Region.wanted o (yielded ops a.tmps)=true)(he:(execOp a.eval o).run P w=.ok .skip w')
 (h:WL P ops Q rest (a.put none undef) w'):WL P ops Q (o :: rest) a w :=
 ⟨wpList_step fun K hK=>by
  rw[if_pos hw]
  unfold Oper.wp
  rw[he,Oper.upon_skip,hd]
  exact hK _ _ h.h⟩
theorem QD {rest:List Oper} {o:Oper} {a:Act} {w w':World}(d:Tmp)(v:Value)(hd:o.dst=some d)(hw:Region.wanted o (yielded ops a.tmps)=true)(he:(execOp a.eval o).run P w=.ok (.value v) w')
 (h:WL P ops Q rest (a.put (some d) v) w'):WL P ops Q (o :: rest) a w :=
 ⟨wpList_step fun K hK=>by
  rw[if_pos hw]
  unfold Oper.wp
  rw[he,Oper.upon_value,hd]
  exact hK _ _ h.h⟩
end
end Go.Proofs.YtbhaojlikgdgjaaGreatDoor
