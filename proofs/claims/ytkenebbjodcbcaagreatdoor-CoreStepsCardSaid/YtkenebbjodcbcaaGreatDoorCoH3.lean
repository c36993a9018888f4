/- Contracts and facts that the claim's proof wants (several texts in one). -/
import Derived.OrdersHeld
import Derived.StillTail
import Derived.Deep.MidRow
import Derived.Laws.NewBlocks
import Derived.Laws.Tables
import Derived.Test.YtkenebbjodcbcaaGreatDoorCoH2
namespace Go.Proofs.YtkenebbjodcbcaaGreatDoor
open Go.RowKit
set_option linter.unusedVariables false
set_option linter.unusedSimpArgs false
set_option maxRecDepth 20000
set_option maxHeartbeats 20000000
structure Ms where
 r:Rg
 plane:Int
 x:Int
 y:Int
 z:Int
 p:Int
 q:Int
 spot:Int
 near:Bool
structure MsB (s:Ms):Prop where
 r:RgB s.r
 plane:s.plane=0∨s.plane=3∨s.plane=4
 x:0≤s.x∧s.x≤3
 y:0≤s.y∧s.y≤7
 z:0≤s.z∧s.z≤7
 p:0≤s.p∧s.p≤3
 q:0≤s.q∧s.q≤1
 spot:Wd16 s.spot
def QT (c:Cy)(s:Ms):Tr (Int×Ms):=.ask c fun b=>.done (b,s)
def Jq (a:Int)(s:Ms):Tr (Int×Ms):=QT ⟨2,a,0,3⟩ s
def Jc (a b:Int)(s:Ms):Tr Ms:=(QT ⟨3,a,b,3⟩ s).bind fun b=>.done b.2
def inN (a:Int)(s:Ms):Tr (Int×Ms):=QT ⟨4,a,0,4⟩ s
def QM (a b:Int)(s:Ms):Tr Ms:=(QT ⟨5,a,b,4⟩ s).bind fun b=>.done b.2
def JT (n:Int)(s:Ms):Tr Ms:=(QT ⟨7,0,0,n⟩ s).bind fun b=>.done b.2
def Ms.pc (s:Ms)(v:Int):Ms:={ s with r:={ s.r with pc:=v } }
def Ms.sp (s:Ms)(v:Int):Ms:={ s with r:={ s.r with sp:=v } }
def Ms.wz (s:Ms)(v:Int):Ms:={ s with r:={ s.r with wz:=v } }
def Ms.af (s:Ms)(a f:Int):Ms:={ s with r:={ s.r with af:=256*a+f } }
def Ms.pcUp (s:Ms):Ms:=s.pc ((s.r.pc+1)%65536)
def JW (s:Ms):Tr (Int×Ms):=(QT ⟨1,s.r.pc,0,4⟩ s).bind fun b=>.done (b.1,{ b.2 with r:=ZI b.2.r 1 })
def Jd (s:Ms):Tr (Int×Ms):=(JW s).bind fun b=>.done (b.1,b.2.pcUp)
def JV (s:Ms):Tr (Int×Ms):=(Jq s.r.pc s).bind fun b=>.done (b.1,b.2.pcUp)
def Jt (s:Ms):Tr (Int×Ms):=(JV s).bind fun l=>(JV l.2).bind fun h=>.done (256*h.1+l.1,h.2)
def JY (a:Int)(s:Ms):Tr (Int×Ms):=(Jq a s).bind fun l=>(Jq ((a+1)%65536) l.2).bind fun h=>.done (256*h.1+l.1,h.2)
def Ms.spDown (s:Ms):Ms:=s.sp ((s.r.sp-1)%65536)
def Jv (w:Int)(s:Ms):Tr Ms:=(Jc s.spDown.r.sp (w / 256) s.spDown).bind fun s=>Jc s.spDown.r.sp (w%256) s.spDown
def QS (s:Ms):Tr (Int×Ms):=(JY s.r.sp s).bind fun w=>.done (w.1,w.2.sp ((w.2.r.sp+2)%65536))
def Ms.goTo (s:Ms)(w:Int):Ms:=(s.pc w).wz w
def Ms.a (s:Ms):Int:=s.r.af / 256
def Ms.f (s:Ms):Int:=s.r.af%256
def Ms.setA (s:Ms)(a:Int):Ms:=s.af a s.f
def Ms.setF (s:Ms)(f:Int):Ms:=s.af s.a f
def Ms.carry (s:Ms):Int:=one (isM s.f 0)
def Ms.hl (s:Ms):Int:=Jk s.r s.plane 2
def Ms.setHL (s:Ms)(w:Int):Ms:={ s with r:=J8 s.r s.plane 2 w }
def Ms.pair (s:Ms):Int:=Jk s.r s.plane s.p
def Ms.setPair (s:Ms)(w:Int):Ms:={ s with r:=J8 s.r s.plane s.p w }
def ZN (k:Int)(s:Ms):Tr (Int×Ms):=if k=6 then Jq s.spot s else .done (qd s.r s.plane k,s)
def ZW (k b:Int)(s:Ms):Tr Ms:=if k=6 then Jc s.spot b s else .done { s with r:=QCF s.r s.plane k b }
def Ms.left (s:Ms):Int:=(qd s.r s.plane 0-1)%256
def Ms.lessB (s:Ms):Ms:={ s with r:=QCF s.r s.plane 0 s.left }
def QET (s:Ms):Tr Ms:=(JV s).bind fun n=>.done { n.2.wz (JA s.hl (JR n.1)) with spot:=JA s.hl (JR n.1),near:=true,plane:=0 }
def Ms.split (s:Ms)(c:Int):Ms:={ s with x:=fx c,y:=fy c,z:=fz c,p:=fp c,q:=fq c }
def Ms.holds (s:Ms)(c:Int):Bool:=Z4 s.f c
def j3 (holds:Bool)(s:Ms):Tr Ms:=(JV s).bind fun e=>if holds then (JT 5 e.2).bind fun s=>.done (s.goTo (JA s.r.pc (JR e.1))) else .done e.2
def zd (s:Ms):Tr Ms :=
 if s.y=0 then .done s else if s.y=1 then .done { s with r:=QEp s.r } else
 if s.y=2 then (JT 1 s).bind fun s=>j3 (s.left != 0) s.lessB else
 if s.y=3 then j3 true s else j3 (s.holds (s.y-4)) s
def Zi (s:Ms):Tr Ms :=
 if s.q=0 then (Jt s).bind fun w=>.done (w.2.setPair w.1) else
 (JT 7 s).bind fun s =>
   let t:=s.wz ((s.hl+1)%65536)
   .done ((t.setHL (X0 t.hl t.pair false)).setF (QBv t.hl t.pair t.f))
def QDy (s:Ms)(at_:Int):Ms:=s.wz (256*s.a+(at_%256+1)%256)
def jz (at_:Int)(s:Ms):Tr Ms:=(Jc at_ s.a s).bind fun s=>.done (QDy s at_)
def QAU (at_:Int)(s:Ms):Tr Ms:=(Jq at_ s).bind fun b=>.done ((b.2.setA b.1).wz ((at_+1)%65536))
def XW (at_ w:Int)(s:Ms):Tr Ms:=(Jc at_ (w%256) s).bind fun s=>(Jc ((at_+1)%65536) (w / 256) s).bind fun s=>.done (s.wz ((at_+1)%65536))
def Xu (at_:Int)(s:Ms):Tr (Int×Ms):=(JY at_ s).bind fun w=>.done (w.1,w.2.wz ((at_+1)%65536))
def XX (s:Ms):Tr Ms :=
 if s.y=0∨s.y=2 then jz s.pair s else if s.y=1∨s.y=3 then QAU s.pair s else
 if s.y=4 then (Jt s).bind fun w=>XW w.1 w.2.hl w.2 else
 if s.y=5 then (Jt s).bind fun w=>(Xu w.1 w.2).bind fun v=>.done (v.2.setHL v.1) else
 if s.y=6 then (Jt s).bind fun w=>jz w.1 w.2 else
 if s.y=7 then (Jt s).bind fun w=>QAU w.1 w.2 else .done s
def jS (s:Ms):Tr Ms:=(JT 2 s).bind fun s=>if s.q=0 then .done (s.setPair ((s.pair+1)%65536)) else .done (s.setPair ((s.pair-1)%65536))
def ZT (d:Bool)(s:Ms):Tr Ms:=(ZN s.y s).bind fun b=>(if b.2.y=6 then JT 1 b.2 else .done b.2).bind fun s =>
 ZW s.y (if d then QQ b.1 1 false else XJ b.1 1 false) (s.setF (if d then QDW b.1 s.f else QDc b.1 s.f))
def Q8 (s:Ms):Tr Ms:=(JV s).bind fun n=>(if n.2.near then JT 2 n.2 else .done n.2).bind fun s=>ZW s.y n.1 s
def ZQ (s:Ms):Ms :=
 if s.y=4 then s.af (Xj s.a s.f) (QDe s.a s.f) else if s.y=5 then s.af (255-s.a) (QED s.a s.f) else
 if s.y=6 then s.af s.a (QCt s.a s.f) else if s.y=7 then s.af s.a (QCZ s.a s.f) else s.af (QBW s.y s.a s.f) (QBa s.y s.a s.f)
def Qz (b:Int)(s:Ms):Ms :=
 if s.y=0 then s.af (XJ s.a b false) (XI s.a b false) else if s.y=1 then s.af (XJ s.a b (s.carry != 0)) (XI s.a b (s.carry != 0)) else
 if s.y=2 then s.af (QQ s.a b false) (QE s.a b false) else if s.y=3 then s.af (QQ s.a b (s.carry != 0)) (QE s.a b (s.carry != 0)) else
 if s.y=4 then s.af (qX s.a b) (qO (qX s.a b)) else if s.y=5 then s.af (Zf s.a b) (Jn (Zf s.a b)) else
 if s.y=6 then s.af (orR s.a b) (Jn (orR s.a b)) else if s.y=7 then s.af s.a (QDa s.a b) else s.af s.a s.f
def ZV (s:Ms):Tr Ms :=
 if s.z=0 then zd s else if s.z=1 then Zi s else if s.z=2 then XX s else if s.z=3 then jS s else
 if s.z=4 then ZT false s else if s.z=5 then ZT true s else if s.z=6 then Q8 s else if s.z=7 then .done (ZQ s) else .done s
def zM (s:Ms):Tr Ms:=if s.y=6∧s.z=6 then .done { s with r:={ s.r with halted:=true } } else (ZN s.z s).bind fun b=>ZW s.y b.1 b.2
def jE (s:Ms):Tr Ms:=(ZN s.z s).bind fun b=>.done (Qz b.1 b.2)
def QD0 (s:Ms):Tr Ms :=
 if s.q=0 then (if s.p=3 then (QS s).bind fun w=>.done { w.2 with r:={ w.2.r with af:=w.1 } } else (QS s).bind fun w=>.done (w.2.setPair w.1)) else
 if s.p=0 then (QS s).bind fun w=>.done (w.2.goTo w.1) else if s.p=1 then .done { s with r:=QKR s.r } else
 if s.p=2 then .done (s.pc s.hl) else if s.p=3 then (JT 2 s).bind fun s=>.done (s.sp s.hl) else .done s
def QBn (holds:Bool)(s:Ms):Tr Ms:=(Jt s).bind fun w=>if holds then (JT 1 (w.2.wz w.1)).bind fun s=>(Jv s.r.pc s).bind fun s=>.done (s.pc s.r.wz) else .done (w.2.wz w.1)
def j4 (s:Ms):Tr Ms:=if s.q=0 then (JT 1 s).bind fun s=>if s.p=3 then Jv s.r.af s else Jv s.pair s else QBn true s
def Xl (s:Ms):Tr Ms:=(JY s.r.sp s).bind fun w=>(JT 1 w.2).bind fun t=>(Jc ((t.r.sp+1)%65536) (w.2.hl / 256) t).bind fun t =>
 (Jc t.r.sp (w.2.hl%256) t).bind fun t=>(JT 2 t).bind fun t=>.done ((t.setHL w.1).wz w.1)
def zk (s:Ms):Tr Ms :=
 if s.y=0 then (Jt s).bind fun w=>.done (w.2.goTo w.1) else
 if s.y=2 then (JV s).bind fun n=>(QM (256*s.a+n.1) n.2.a n.2).bind fun t=>.done (QDy t (256*s.a+n.1)) else
 if s.y=3 then (JV s).bind fun n=>(inN (256*s.a+n.1) n.2).bind fun b=>.done ((b.2.setA b.1).wz ((256*s.a+n.1+1)%65536)) else
 if s.y=4 then Xl s else if s.y=5 then .done { s with r:={ s.r with de:=s.r.hl,hl:=s.r.de } } else
 if s.y=6 then .done { s with r:={ s.r with iff1:=false,iff2:=false } } else if s.y=7 then .done { s with r:={ s.r with iff1:=true,iff2:=true,late:=true } } else .done s
def ji (s:Ms):Tr Ms :=
 if s.z=0 then (JT 1 s).bind fun s=>if s.holds s.y then (QS s).bind fun w=>.done (w.2.goTo w.1) else .done s else
 if s.z=1 then QD0 s else
 if s.z=2 then (Jt s).bind fun w=>if w.2.holds w.2.y then .done ((w.2.wz w.1).pc w.1) else .done (w.2.wz w.1) else
 if s.z=3 then zk s else if s.z=4 then QBn (s.holds s.y) s else if s.z=5 then j4 s else
 if s.z=6 then (JV s).bind fun n=>.done (Qz n.1 n.2) else
 if s.z=7 then (JT 1 s).bind fun s=>(Jv s.r.pc s).bind fun s=>.done (s.goTo ((8*s.y)%65536)) else .done s
def qo (s:Ms):Tr Ms:=(inN s.r.bc s).bind fun b =>
 let t:=(b.2.wz ((b.2.r.bc+1)%65536)).setF (JQ (Jn b.1) 0 (isM b.2.f 0))
 if t.y=6 then .done t else ZW t.y b.1 t
def jh (s:Ms):Tr Ms:=(if s.y=6 then .done (0,s) else ZN s.y s).bind fun b=>(QM b.2.r.bc b.1 b.2).bind fun s=>.done (s.wz ((s.r.bc+1)%65536))
def X6 (s:Ms):Tr Ms:=(JT 7 s).bind fun s =>
 let t:=s.wz ((s.r.hl+1)%65536)
 if t.q=0 then .done (({ t with r:={ t.r with hl:=jr t.r.hl t.pair (isM t.f 0) } }:Ms).setF (QAB t.r.hl t.pair (isM t.f 0)))
 else .done (({ t with r:={ t.r with hl:=X0 t.r.hl t.pair (isM t.f 0) } }:Ms).setF (zZ t.r.hl t.pair (isM t.f 0)))
def Xp (s:Ms):Tr Ms:=(Jt s).bind fun at_=>if at_.2.q=0 then XW at_.1 at_.2.pair at_.2 else (Xu at_.1 at_.2).bind fun w=>.done (w.2.setPair w.1)
def QDD (b:Int)(s:Ms):Ms:=s.af b (JQ (JQ (JE b) 0 (isM s.f 0)) 2 s.r.iff2)
def ZJ (s:Ms):Tr Ms:=(Jq s.r.hl s).bind fun b=>(JT 4 b.2).bind fun s =>
 (Jc s.r.hl (QDf (s.y==4) s.a b.1) (s.af (ZY (s.y==4) s.a b.1) (jx (ZY (s.y==4) s.a b.1) (isM s.f 0)))).bind fun s=>.done (s.wz ((s.r.hl+1)%65536))
def qf (s:Ms):Tr Ms :=
 if s.y=0 then (JT 1 s).bind fun s=>.done { s with r:={ s.r with i:=s.a } } else
 if s.y=1 then (JT 1 s).bind fun s=>.done { s with r:={ s.r with r:=s.a } } else
 if s.y=2 then (JT 1 s).bind fun s=>.done (QDD s.r.i s) else
 if s.y=3 then (JT 1 s).bind fun s=>.done (QDD s.r.r s) else
 if s.y=4∨s.y=5 then ZJ s else .done s
def Ms.mode (s:Ms)(m:Int):Ms:={ s with r:={ s.r with mode:=m } }
def jL (s:Ms):Tr Ms :=
 if s.z=0 then qo s else if s.z=1 then jh s else if s.z=2 then X6 s else if s.z=3 then Xp s else
 if s.z=4 then .done (s.af (QQ 0 s.a false) (QE 0 s.a false)) else
 if s.z=5 then (QS s).bind fun w=>.done { (w.2.goTo w.1) with r:={ (w.2.goTo w.1).r with iff1:=w.2.r.iff2 } } else
 if s.z=6 then (if s.y%4=2 then .done (s.mode 1) else if s.y%4=3 then .done (s.mode 2) else .done (s.mode 0)) else if s.z=7 then qf s else .done s
def Ms.hlBy (s:Ms)(d:Int):Ms:={ s with r:={ s.r with hl:=JA s.r.hl d } }
def Ms.deBy (s:Ms)(d:Int):Ms:={ s with r:={ s.r with de:=JA s.r.de d } }
def Ms.bcDown (s:Ms):Ms:={ s with r:={ s.r with bc:=(s.r.bc-1)%65536 } }
def Zl (d:Int)(s:Ms):Tr Ms:=(Jq s.r.hl s).bind fun b=>(Jc b.2.r.de b.1 b.2).bind fun s=>(JT 2 s).bind fun s =>
 let t:=((s.hlBy d).deBy d).bcDown
 .done (t.setF (moveF t.a b.1 t.r.bc t.f))
def Zn (d:Int)(s:Ms):Tr Ms:=(Jq s.r.hl s).bind fun b=>(JT 5 b.2).bind fun s =>
 let t:=((s.hlBy d).wz (JA s.r.wz d)).bcDown
 .done (t.setF (Zu t.a b.1 t.r.bc t.f))
def Zm (d:Int)(s:Ms):Tr Ms:=(JT 1 s).bind fun s=>(inN s.r.bc s).bind fun b =>
 let t:=b.2.wz (JA b.2.r.bc d)
 (Jc t.lessB.r.hl b.1 t.lessB).bind fun s=>.done ((s.hlBy d).setF (Qs b.1 (b.1+byC (qd (s.hlBy d).r (s.hlBy d).plane 1) d) t.left))
def Zj (d:Int)(s:Ms):Tr Ms:=(JT 1 s).bind fun s=>(Jq s.r.hl s).bind fun b =>
 let t:=b.2.lessB.wz (JA b.2.lessB.r.bc d)
 (QM t.r.bc b.1 t).bind fun s=>.done ((s.hlBy d).setF (Qs b.1 (b.1+(s.hlBy d).r.hl%256) b.2.left))
def ja (s:Ms):Tr Ms:=(JT 5 s).bind fun s=>if s.z=0∨s.z=1 then .done ((s.pc ((s.r.pc-2)%65536)).wz (((s.r.pc-2)%65536+1)%65536)) else .done (s.pc ((s.r.pc-2)%65536))
def zW (d:Int)(s:Ms):Tr Ms:=(if s.z=0 then Zl d s else if s.z=1 then Zn d s else if s.z=2 then Zm d s else if s.z=3 then Zj d s else .done s).bind fun s =>
 if 6≤s.y∧Ji s.z s.f=true then ja s else .done s
def qq (s:Ms):Tr Ms:=if 4≤s.z∨s.y < 4 then .done s else if s.q=0 then zW 1 s else zW (-1) s
def Ms.inMem (s:Ms):Bool:=s.near||(s.z==6)
def XO (s:Ms):Tr (Int×Ms):=if s.inMem=true then (Jq s.spot s).bind fun b=>(JT 1 b.2).bind fun t=>.done (b.1,t) else ZN s.z s
def jF (b:Int)(s:Ms):Tr Ms:=(if s.inMem=true then Jc s.spot b s else .done s).bind fun s=>if s.z=6 then .done s else ZW s.z b s
def Za (s:Ms):Tr Ms:=(XO s).bind fun b=>jF (doR b.2.y b.1 b.2.f) (b.2.setF (doF b.2.y b.1 b.2.f))
def jb (s:Ms):Tr Ms:=(XO s).bind fun b=>if b.2.inMem=true then .done (b.2.setF (zr b.2.y b.1 (b.2.r.wz / 256) b.2.f)) else .done (b.2.setF (zr b.2.y b.1 b.1 b.2.f))
def XQ (on:Bool)(s:Ms):Tr Ms:=(XO s).bind fun b=>jF (JQ b.1 b.2.y on) b.2
def Zd (s:Ms):Tr (Int×Ms):=if s.plane=0 then Jd s else (QET s).bind fun s=>(JV s).bind fun c=>(JT 2 c.2).bind fun s=>.done (c.1,s)
def Xg (c:Int)(s:Ms):Tr Ms:=if XT s.plane c=true then (QET (s.split c)).bind fun s=>if s.x≠0∨s.z≠6 then JT 5 s else .done s else .done (s.split c)
def XV (s:Ms):Tr Ms:=if s.x=0 then ZV s else if s.x=1 then zM s else if s.x=2 then jE s else ji s
def qL (s:Ms):Tr Ms:=if s.x=1 then jL s else if s.x=2 then qq s else .done s
def Z6 (s:Ms):Tr Ms:=if s.x=0 then Za s else if s.x=1 then jb s else if s.x=2 then XQ false s else XQ true s
def Ms.atHL (s:Ms):Ms:={ s with spot:=s.r.hl }
def Ms.toPlane (s:Ms)(v:Int):Ms:={ s with plane:=v }
def Ms.noLate (s:Ms):Ms:={ s with r:={ s.r with late:=false } }
def QBP (c:Int)(s:Ms):Tr Ms :=
 if c=203 then ((Zd s.atHL).bind fun c=>.done (c.2.split c.1)).bind Z6 else
 if c=237 then ((Jd (s.atHL.toPlane 0)).bind fun c=>.done (c.2.split c.1)).bind qL else
 (Xg c s.atHL).bind XV
def XK:List Int→Int→Ms→Except Cy (Ms×List Int)
 | [],c,s=>if c=221∨c=253 then .error ⟨1,s.r.pc,0,4⟩ else (QBP c s).run []
 | b :: bs,c,s=>if c=221∨c=253 then XK bs b ({ s.toPlane (if c=253 then 4 else 3) with r:=ZI s.r 1 }:Ms).pcUp else (QBP c s).run (b :: bs)
theorem zU {c:Int}(h:¬(c=221∨c=253))(s:Ms)(xs:List Int):XK xs c s=(QBP c s).run xs:=by
 cases xs with
 | nil=>rw[XK,if_neg h]
 | cons b bs=>rw[XK,if_neg h]
theorem QFB {c:Int}(h:c=221∨c=253){s t:Ms}(ht:t=s.toPlane (if c=253 then 4 else 3))(xs:List Int):XK xs c s=match (Jd t).run xs with|.ok ((b,u),ys)=>XK ys b u|.error e=>.error e:=by
 subst ht
 cases xs with
 | nil=>rw[XK,if_pos h];rfl
 | cons b bs =>
   rw[XK,if_pos h]
   have e:(Jd (s.toPlane (if c=253 then 4 else 3))).run (b :: bs)=.ok ((b,({ s.toPlane (if c=253 then 4 else 3) with r:=ZI s.r 1 }:Ms).pcUp),bs):=Tr.run_done _ _
   rw[e]
theorem QCw {s s':Ms} {xs ys:List Int} {b:Int}(h:(Jd s).run xs=.ok ((b,s'),ys)):ys.length < xs.length:=by
 cases xs with
 | nil=>cases h
 | cons c cs =>
   have e:(Jd s).run (c :: cs)=.ok ((c,({ s with r:=ZI s.r 1 }:Ms).pcUp),cs):=Tr.run_done _ _
   rw[e] at h
   cases h
   simp
section
variable {P:Program} {ops:Array Oper} {md:Region.Mode} {Q:Exit→Act→World→Prop} {S:World→Prop} {n:Nat} {L:Array Bool→Act→World→Prop}
def QCR (P:Program)(md:Region.Mode)(ops:Array Oper)(Q:Exit→Act→World→Prop)(S:World→Prop)(n:Nat)(L:Array Bool→Act→World→Prop):Nat→Array Bool→Act→World→Prop
 | 0,listed,a,w=>L listed a w
 | f+1,listed,a,w=>Region.ready md ops listed≠[] ∧
   ∀ i∈Region.ready md ops listed,i < n∧wpOp P ops Q i (fun a' w'=>S w'∧QCR P md ops Q S n L f (listed.setIfInBounds i true) a' w') a w
theorem QBM {g:Nat}(hL:∀ listed a w,L listed a w→wpAny P md ops Q g listed a w) :
 ∀ (f:Nat) (listed:Array Bool) (a:Act) (w:World),QCR P md ops Q S n L f listed a w→wpAny P md ops Q (f+g) listed a w
 | 0,listed,a,w,h=>by rw[Nat.zero_add];exact hL _ _ _ h
 | f+1,listed,a,w,h=>by
   rw[show f+1+g=(f+g)+1 by omega]
   exact⟨fun h0=>absurd h0 h.1,fun i hi=>wpOp_mono (fun a' w' h'=>QBM hL f _ a' w' h'.2) (h.2 i hi).2⟩
theorem QB9 {i:Nat} {oi:Oper} {v:Value}(hi:ops[i]? = some oi)(hsel:∀ (j:Nat) (o:Oper) cs b,ops[j]? = some o→o.op≠.select cs b)
 (hs:Region.sinkB md ops n=true)(hc:Region.chainB md ops n=true)(hn:n < ops.size)(hin:i < n)
 (hQ:∀ c a w,Q (.panic c) (a.put oi.dst v) w→Q (.panic c) a w)
 (hdone:∀ listed a w,L listed a w→∀ j∈Region.ready md ops listed,n≤j) :
 ∀ (f:Nat) (listed:Array Bool) (a:Act) (w:World),HeadInv md ops n listed →
  (∀ j oj,ops[j]? = some oj→j≠i→listed.getD j true=false→(∀ e∈oj.after,Region.binds md e=true→e.on≠i)→oi.apart ops oj=true) →
  i∈Region.ready md ops listed→YieldsIf P ops S oi v a→S w →
  QCR P md ops Q S n L f (listed.setIfInBounds i true) (a.put oi.dst v) w→QCR P md ops Q S n L (f+1) listed a w:=by
 intro f
 induction f with
 | zero =>
   intro listed a w inv _ hr hy hS H
   refine⟨fun h=>(by rw[h] at hr;cases hr),fun j hj=>?_⟩
   have hjn:j < n:=Nat.lt_of_not_le fun h=>tail_waits hs hc hn inv _ i rfl hin (mem_ready.1 hr).1 j h hj
   refine⟨hjn,?_⟩
   by_cases hji:j=i
   · subst hji;exact hy.wpOp hi hS ⟨hS,H⟩
   · have:=hdone _ _ _ H j (ready_mono hj hji)
     omega
 | succ f ih =>
   intro listed a w inv hfree hr hy hS H
   refine⟨fun h=>(by rw[h] at hr;cases hr),fun j hj=>?_⟩
   have hjn:j < n:=Nat.lt_of_not_le fun h=>tail_waits hs hc hn inv _ i rfl hin (mem_ready.1 hr).1 j h hj
   refine⟨hjn,?_⟩
   by_cases hji:j=i
   · subst hji;exact hy.wpOp hi hS ⟨hS,H⟩
   · have h1:=(H.2 j (ready_mono hj hji)).2
     obtain⟨hjun,oj,hoj,hall⟩:=mem_ready.1 hj
     have hnot:∀ e∈oj.after,Region.binds md e=true→e.on≠i:=fun e he hb heq=>by
      have h1:=hall e he hb
      rw[heq,getD_both (mem_ready.1 hr).1] at h1
      cases h1
     have h2:=wpOp_putIf hoj (hfree j oj hoj hji hjun hnot) (fun cs b=>hsel i oi cs b hi) (fun cs b=>hsel j oj cs b hoj) hQ hy h1
     have hfree':∀ k ok,ops[k]? = some ok→k≠i→(listed.setIfInBounds j true).getD k true=false →
      (∀ e∈ok.after,Region.binds md e=true→e.on≠i)→oi.apart ops ok=true:=fun k ok hk hki hun hno=>by
      refine hfree k ok hk hki ?_ hno
      by_cases hjk:j=k
      · subst hjk;exact hjun
      · rw[getD_set_ne true hjk] at hun;exact hun
     refine wpOp_mono (fun a' w' h3=>⟨h3.2.1,ih (listed.setIfInBounds j true) a' w' (inv.set hj hjn) hfree' (ready_mono hr (Ne.symm hji)) h3.1 h3.2.1 ?_⟩) h2
     rw[Array.setIfInBounds_comm _ _ hji]
     exact h3.2.2
def QOW (P:Program)(ops:Array Oper)(Q:Exit→Act→World→Prop)(n:Nat)(listed:Array Bool)(a:Act)(w:World):Prop :=
 Region.seqB .any ops (ops.size-n) n listed=true∧wpList P ops Q (ops.toList.drop n) a w
def Zc (P:Program)(ops:Array Oper)(Q:Exit→Act→World→Prop)(S:World→Prop)(n f:Nat)(listed:Array Bool)(a:Act)(w:World):Prop :=
 HeadInv .any ops n listed→QCR P .any ops Q S n (QOW P ops Q n) f listed a w
def Q0 (ops:Array Oper)(n:Nat):Bool:=Region.noSelect ops&&(decide (n < ops.size)&&(Region.sinkB .any ops n&&Region.chainB .any ops n))
theorem qW {id:Nat} {a:Act} {w:World}(n:Nat)(S:World→Prop)(hm:P.follows .mixedOrders=true)(hB:Q0 ops n=true)(hS:S w.drew)
 (h:∀ w',w'=w.drew→S w'→Zc P ops Q S n n (Array.replicate ops.size false) a w'):(Code.region id ops true).wp P Q a w:=by
 simp only[Q0,Bool.and_eq_true,decide_eq_true_eq] at hB
 obtain⟨hsel,hn,hs,hc⟩:=hB
 have inv0:HeadInv .any ops n (Array.replicate ops.size false) :=
  ⟨by simp,fun j oj _ hl=>(by rw[getD_replicate_false] at hl;cases hl),fun t _ ht=>getD_in (by simpa using ht) (getD_replicate_false _ _)⟩
 have H:=h _ rfl hS inv0
 refine wp_region_any hm ?_
 have:=QBM (g:=ops.size-n) (fun listed a w hL=>by
  have:=wpAny_of_seq (md:=.any) (Q':=Q) (ops.toList.drop n) n listed a w (fun j=>by simp[List.getElem?_drop]) (by simpa using hL.1) hL.2
  simpa using this) _ _ _ _ H
 rwa [show n+(ops.size-n)=ops.size by omega] at this
theorem Zy {i f:Nat} {listed:Array Bool} {a:Act} {w:World} {o:Oper}(d:Tmp)(v:Value)(hd:o.dst=some d)(ho:ops[i]? = some o)(hB:Q0 ops n=true)(hin:decide (i < n)=true)(hf:Region.free .any ops listed i=true)
 (hr:(Region.ready .any ops listed).contains i=true)(hQ:∀ c a w,Q (.panic c) (a.put o.dst v) w→Q (.panic c) a w)(hw:Region.wanted o (yielded ops a.tmps)=true)
 (he:∀ w,S w→(execOp a.eval o).run P w=.ok (.value v) w)(hS:S w)
 (h:Zc P ops Q S n f (listed.setIfInBounds i true) (a.put (some d) v) w):Zc P ops Q S n (f+1) listed a w:=by
 simp only[Q0,Bool.and_eq_true,decide_eq_true_eq] at hB
 obtain⟨hsel,hn,hs,hc⟩:=hB
 intro inv
 have hr':i∈Region.ready .any ops listed:=by simpa using hr
 exact QB9 ho (Region.noSelect_spec hsel) hs hc hn (of_decide_eq_true hin) hQ (fun listed' a' w' hL=>seqB_ready hL.1) f listed a w inv (Region.free_spec ho hf) hr' (.inl ⟨hw,he⟩) hS
  (by rw[hd];exact h (inv.set hr' (of_decide_eq_true hin)))
theorem QGT {i f:Nat} {listed:Array Bool} {a:Act} {w:World} {o:Oper}(d:Tmp)(hd:o.dst=some d)(ho:ops[i]? = some o)(hB:Q0 ops n=true)(hin:decide (i < n)=true)(hf:Region.free .any ops listed i=true)
 (hr:(Region.ready .any ops listed).contains i=true)(hQ:∀ c a w,Q (.panic c) (a.put o.dst undef) w→Q (.panic c) a w)(hw:Region.wanted o (yielded ops a.tmps)=false)(hS:S w)
 (h:Zc P ops Q S n f (listed.setIfInBounds i true) (a.put (some d) undef) w):Zc P ops Q S n (f+1) listed a w:=by
 simp only[Q0,Bool.and_eq_true,decide_eq_true_eq] at hB
 obtain⟨hsel,hn,hs,hc⟩:=hB
 intro inv
 have hr':i∈Region.ready .any ops listed:=by simpa using hr
 exact QB9 ho (Region.noSelect_spec hsel) hs hc hn (of_decide_eq_true hin) hQ (fun listed' a' w' hL=>seqB_ready hL.1) f listed a w inv (Region.free_spec ho hf) hr' (.inr ⟨hw,rfl⟩) hS
  (by rw[hd];exact h (inv.set hr' (of_decide_eq_true hin)))
theorem QMX {i f:Nat} {listed:Array Bool} {a:Act} {w:World} {o:Oper} {g:FuncId} {args:Array Value} {R:Ending→World→Prop}(ho:ops[i]? = some o)(hr:Region.ready .any ops listed=[i])(hin:decide (i < n)=true)
 (hw:Region.wanted o (yielded ops a.tmps)=true)(he:(execOp a.eval o).run P w=.ok (.enter g args) w)(hc:Calls P g args w R)
 (h:∀ e w',R e w'→match e with
   | .returned v=>S w'∧Zc P ops Q S n f (listed.setIfInBounds i true) (a.put o.dst v) w'
   | .panicked c=>Q (.panic c) a w'
   | .outgrown=>False):Zc P ops Q S n (f+1) listed a w:=by
 intro inv
 have hr':i∈Region.ready .any ops listed:=by rw[hr];simp
 refine⟨by rw[hr];simp,fun j hj=>?_⟩
 rw[hr] at hj
 have hji:j=i:=by simpa using hj
 subst hji
 refine⟨of_decide_eq_true hin,?_⟩
 unfold wpOp
 simp only[ho,hw,if_true]
 refine .inl ?_
 unfold Oper.wp
 rw[he,Oper.upon_enter]
 refine hc.mono fun e w' hR=>?_
 have:=h e w' hR
 cases e with
 | returned v=>exact⟨this.1,this.2 (inv.set hr' (of_decide_eq_true hin))⟩
 | panicked c=>exact this
 | outgrown=>exact this.elim
structure WL (P:Program)(ops:Array Oper)(Q:Exit→Act→World→Prop)(l:List Oper)(a:Act)(w:World):Prop where
 h:wpList P ops Q l a w
theorem JD {id:Nat} {l:List Oper} {a:Act} {w:World}(h:WL P l.toArray Q l a w):(Code.region id l.toArray false).wp P Q a w:=wp_region_lit h.h
theorem JS {a:Act} {w:World}(h:Q .normal a w):WL P ops Q [] a w:=⟨wpList_nil h⟩
theorem QB4 {listed:Array Bool} {a:Act} {w:World}(hB:Region.seqB .any ops (ops.size-n) n listed=true)(h:WL P ops Q (ops.toList.drop n) a w):Zc P ops Q S n 0 listed a w:=fun _=>⟨hB,h.h⟩
theorem Q9 {a:Act} {w:World} {o:Oper} {rest:List Oper} {g:FuncId} {args:Array Value} {R:Ending→World→Prop}(hw:Region.wanted o (yielded ops a.tmps)=true)
 (he:(execOp a.eval o).run P w=.ok (.enter g args) w)(hc:Calls P g args w R)
 (h:∀ e w',R e w'→match e with
   | .returned v=>WL P ops Q rest (a.put o.dst v) w'
   | .panicked c=>Q (.panic c) a w'
   | .outgrown=>False):WL P ops Q (o :: rest) a w :=
 ⟨wpList_step fun K hK=>by
  rw[if_pos hw]
  unfold Oper.wp
  rw[he,Oper.upon_enter]
  refine hc.mono fun e w' hR=>?_
  have:=h e w' hR
  cases e with
  | returned v=>exact hK _ _ this.h
  | panicked c=>exact this
  | outgrown=>exact this.elim⟩
theorem Jf {rest:List Oper} {o:Oper} {a:Act} {w:World}(d:Tmp)(v:Value)(hd:o.dst=some d)(hw:Region.wanted o (yielded ops a.tmps)=true)(he:(execOp a.eval o).run P w=.ok (.value v) w)
 (h:WL P ops Q rest (a.put (some d) v) w):WL P ops Q (o :: rest) a w :=
 ⟨wpList_step fun K hK=>by
  rw[if_pos hw]
  unfold Oper.wp
  rw[he,Oper.upon_value,hd]
  exact hK _ _ h.h⟩
theorem QCO {rest:List Oper} {o:Oper} {a:Act} {w:World}(d:Tmp)(hd:o.dst=some d)(hw:Region.wanted o (yielded ops a.tmps)=false)
 (h:WL P ops Q rest (a.put (some d) undef) w):WL P ops Q (o :: rest) a w :=
 ⟨wpList_step fun K hK=>by
  rw[if_neg (by rw[hw];simp),hd]
  exact hK _ _ h.h⟩
theorem Xo {rest:List Oper} {o:Oper} {a:Act} {w w':World}(hd:o.dst=none)(hw:Region.wanted o (yielded ops a.tmps)=true)(he:(execOp a.eval o).run P w=.ok .skip w')
 (h:WL P ops Q rest (a.put none undef) w'):WL P ops Q (o :: rest) a w :=
 ⟨wpList_step fun K hK=>by
  rw[if_pos hw]
  unfold Oper.wp
  rw[he,Oper.upon_skip,hd]
  exact hK _ _ h.h⟩
theorem Jw {rest:List Oper} {o:Oper} {a:Act} {w w':World}(d:Tmp)(v:Value)(hd:o.dst=some d)(hw:Region.wanted o (yielded ops a.tmps)=true)(he:(execOp a.eval o).run P w=.ok (.value v) w')
 (h:WL P ops Q rest (a.put (some d) v) w'):WL P ops Q (o :: rest) a w :=
 ⟨wpList_step fun K hK=>by
  rw[if_pos hw]
  unfold Oper.wp
  rw[he,Oper.upon_value,hd]
  exact hK _ _ h.h⟩
end
section
variable {P:Program} {ops:Array Oper} {md:Region.Mode} {Q:Exit→Act→World→Prop} {S:World→Prop} {q n:Nat} {L:Array Bool→Act→World→Prop}
def QEV (P:Program)(md:Region.Mode)(ops:Array Oper)(Q:Exit→Act→World→Prop)(S:World→Prop)(q n:Nat)(L:Array Bool→Act→World→Prop):Nat→Array Bool→Act→World→Prop
 | 0,listed,a,w=>L listed a w
 | f+1,listed,a,w=>Region.ready md ops listed≠[] ∧
   ∀ i∈Region.ready md ops listed,i < n∧wpOp P ops Q i (fun a' w'=>((listed.setIfInBounds i true).getD q false=false→S w')∧QEV P md ops Q S q n L f (listed.setIfInBounds i true) a' w') a w
theorem QBN {g:Nat}(hL:∀ listed a w,L listed a w→wpAny P md ops Q g listed a w) :
 ∀ (f:Nat) (listed:Array Bool) (a:Act) (w:World),QEV P md ops Q S q n L f listed a w→wpAny P md ops Q (f+g) listed a w
 | 0,listed,a,w,h=>by rw[Nat.zero_add];exact hL _ _ _ h
 | f+1,listed,a,w,h=>by
   rw[show f+1+g=(f+g)+1 by omega]
   exact⟨fun h0=>absurd h0 h.1,fun i hi=>wpOp_mono (fun a' w' h'=>QBN hL f _ a' w' h'.2) (h.2 i hi).2⟩
theorem qs {listed:Array Bool} {i q:Nat}(h:i≠q):(listed.setIfInBounds i true).getD q false=listed.getD q false:=getD_set_ne false h
theorem QBs {i:Nat} {oi:Oper} {v:Value} {T:World→Prop}(hi:ops[i]? = some oi)(hsel:∀ (j:Nat) (o:Oper) cs b,ops[j]? = some o→o.op≠.select cs b)
 (hs:Region.sinkB md ops n=true)(hc:Region.chainB md ops n=true)(hn:n < ops.size)(hin:i < n)(hiq:i≠q)
 (hQ:∀ c a w,Q (.panic c) (a.put oi.dst v) w→Q (.panic c) a w)
 (hdone:∀ listed a w,L listed a w→∀ j∈Region.ready md ops listed,n≤j)
 (hT:∀ listed w,HeadInv md ops n listed→listed.getD i true=false→(listed.getD q false=false→S w)→T w) :
 ∀ (f:Nat) (listed:Array Bool) (a:Act) (w:World),HeadInv md ops n listed →
  (∀ j oj,ops[j]? = some oj→j≠i→listed.getD j true=false→(∀ e∈oj.after,Region.binds md e=true→e.on≠i)→oi.apart ops oj=true) →
  i∈Region.ready md ops listed→YieldsIf P ops T oi v a→(listed.getD q false=false→S w) →
  QEV P md ops Q S q n L f (listed.setIfInBounds i true) (a.put oi.dst v) w→QEV P md ops Q S q n L (f+1) listed a w:=by
 intro f
 induction f with
 | zero =>
   intro listed a w inv _ hr hy hS H
   refine⟨fun h=>(by rw[h] at hr;cases hr),fun j hj=>?_⟩
   have hjn:j < n:=Nat.lt_of_not_le fun h=>tail_waits hs hc hn inv _ i rfl hin (mem_ready.1 hr).1 j h hj
   refine⟨hjn,?_⟩
   by_cases hji:j=i
   · subst hji
     exact hy.wpOp hi (hT _ _ inv (mem_ready.1 hr).1 hS) ⟨fun h=>hS (by rw[←qs hiq];exact h),H⟩
   · have:=hdone _ _ _ H j (ready_mono hj hji)
     omega
 | succ f ih =>
   intro listed a w inv hfree hr hy hS H
   refine⟨fun h=>(by rw[h] at hr;cases hr),fun j hj=>?_⟩
   have hjn:j < n:=Nat.lt_of_not_le fun h=>tail_waits hs hc hn inv _ i rfl hin (mem_ready.1 hr).1 j h hj
   refine⟨hjn,?_⟩
   by_cases hji:j=i
   · subst hji
     exact hy.wpOp hi (hT _ _ inv (mem_ready.1 hr).1 hS) ⟨fun h=>hS (by rw[←qs hiq];exact h),H⟩
   · have h1:=(H.2 j (ready_mono hj hji)).2
     obtain⟨hjun,oj,hoj,hall⟩:=mem_ready.1 hj
     have hnot:∀ e∈oj.after,Region.binds md e=true→e.on≠i:=fun e he hb heq=>by
      have h1:=hall e he hb
      rw[heq,getD_both (mem_ready.1 hr).1] at h1
      cases h1
     have h2:=wpOp_putIf hoj (hfree j oj hoj hji hjun hnot) (fun cs b=>hsel i oi cs b hi) (fun cs b=>hsel j oj cs b hoj) hQ hy h1
     have hfree':∀ k ok,ops[k]? = some ok→k≠i→(listed.setIfInBounds j true).getD k true=false →
      (∀ e∈ok.after,Region.binds md e=true→e.on≠i)→oi.apart ops ok=true:=fun k ok hk hki hun hno=>by
      refine hfree k ok hk hki ?_ hno
      by_cases hjk:j=k
      · subst hjk;exact hjun
      · rw[getD_set_ne true hjk] at hun;exact hun
     refine wpOp_mono (fun a' w' h3=>?_) h2
     have hS':(listed.setIfInBounds j true).getD q false=false→S w':=fun h=>h3.2.1 (by
      rw[Array.setIfInBounds_comm _ _ (Ne.symm hji),qs hiq]
      exact h)
     refine⟨hS',ih (listed.setIfInBounds j true) a' w' (inv.set hj hjn) hfree' (ready_mono hr (Ne.symm hji)) h3.1 hS' ?_⟩
     rw[Array.setIfInBounds_comm _ _ hji]
     exact h3.2.2
def QBH (P:Program)(ops:Array Oper)(Q:Exit→Act→World→Prop)(S:World→Prop)(q n f:Nat)(listed:Array Bool)(a:Act)(w:World):Prop :=
 HeadInv .any ops n listed→QEV P .any ops Q S q n (QOW P ops Q n) f listed a w
theorem QEz {id:Nat} {a:Act} {w:World}(q n:Nat)(S:World→Prop)(hm:P.follows .mixedOrders=true)(hB:Q0 ops n=true)(hS:S w.drew)
 (h:∀ w',w'=w.drew→S w'→QBH P ops Q S q n n (Array.replicate ops.size false) a w'):(Code.region id ops true).wp P Q a w:=by
 simp only[Q0,Bool.and_eq_true,decide_eq_true_eq] at hB
 obtain⟨hsel,hn,hs,hc⟩:=hB
 have inv0:HeadInv .any ops n (Array.replicate ops.size false) :=
  ⟨by simp,fun j oj _ hl=>(by rw[getD_replicate_false] at hl;cases hl),fun t _ ht=>getD_in (by simpa using ht) (getD_replicate_false _ _)⟩
 have H:=h _ rfl hS inv0
 refine wp_region_any hm ?_
 have:=QBN (g:=ops.size-n) (fun listed a w hL=>by
  have:=wpAny_of_seq (md:=.any) (Q':=Q) (ops.toList.drop n) n listed a w (fun j=>by simp[List.getElem?_drop]) (by simpa using hL.1) hL.2
  simpa using this) _ _ _ _ H
 rwa [show n+(ops.size-n)=ops.size by omega] at this
theorem QC {i f:Nat} {listed:Array Bool} {a:Act} {w:World} {o:Oper}(d:Tmp)(v:Value)(hd:o.dst=some d)(ho:ops[i]? = some o)(hB:Q0 ops n=true)(hin:decide (i < n)=true)(hq:(decide (i≠q)&&(decide (q < n)&&Region.waitsFor .any ops q i))=true)(hf:Region.free .any ops listed i=true)
 (hr:(Region.ready .any ops listed).contains i=true)(hQ:∀ c a w,Q (.panic c) (a.put o.dst v) w→Q (.panic c) a w)(hw:Region.wanted o (yielded ops a.tmps)=true)
 (he:∀ w,S w→(execOp a.eval o).run P w=.ok (.value v) w)(hS:S w)
 (h:QBH P ops Q S q n f (listed.setIfInBounds i true) (a.put (some d) v) w):QBH P ops Q S q n (f+1) listed a w:=by
 simp only[Q0,Bool.and_eq_true,decide_eq_true_eq] at hB hq
 obtain⟨hsel,hn,hs,hc⟩:=hB
 intro inv
 have hr':i∈Region.ready .any ops listed:=by simpa using hr
 refine QBs (T:=S) ho (Region.noSelect_spec hsel) hs hc hn (of_decide_eq_true hin) hq.1 hQ (fun listed' a' w' hL=>seqB_ready hL.1) ?_ f listed a w inv (Region.free_spec ho hf) hr' (.inl ⟨hw,he⟩) (fun _=>hS)
  (by rw[hd];exact h (inv.set hr' (of_decide_eq_true hin)))
 intro listed w inv hun hSw
 obtain⟨oq,hoq,e,hem,hb,hon⟩:=Region.waitsFor_spec hq.2.2
 refine hSw ?_
 cases hl:listed.getD q false with
 | false=>rfl
 | true =>
   have:=inv.closed q oq hoq hl e hem hb
   rw[hon,getD_both hun] at this
   cases this
theorem j9 {i f:Nat} {listed:Array Bool} {a:Act} {w:World} {o:Oper}(d:Tmp)(v:Value)(hd:o.dst=some d)(ho:ops[i]? = some o)(hB:Q0 ops n=true)(hin:decide (i < n)=true)(hq:decide (i≠q)=true)(hf:Region.free .any ops listed i=true)
 (hr:(Region.ready .any ops listed).contains i=true)(hQ:∀ c a w,Q (.panic c) (a.put o.dst v) w→Q (.panic c) a w)(hw:Region.wanted o (yielded ops a.tmps)=true)
 (he:∀ w,(execOp a.eval o).run P w=.ok (.value v) w)(hS:listed.getD q false=false→S w)
 (h:QBH P ops Q S q n f (listed.setIfInBounds i true) (a.put (some d) v) w):QBH P ops Q S q n (f+1) listed a w:=by
 simp only[Q0,Bool.and_eq_true,decide_eq_true_eq] at hB hq
 obtain⟨hsel,hn,hs,hc⟩:=hB
 intro inv
 have hr':i∈Region.ready .any ops listed:=by simpa using hr
 exact QBs (T:=fun _=>True) ho (Region.noSelect_spec hsel) hs hc hn (of_decide_eq_true hin) hq hQ (fun listed' a' w' hL=>seqB_ready hL.1) (fun _ _ _ _ _=>trivial) f listed a w inv (Region.free_spec ho hf) hr' (.inl ⟨hw,fun w _=>he w⟩) hS
  (by rw[hd];exact h (inv.set hr' (of_decide_eq_true hin)))
theorem QF1 {a:Act} {w:World} {o:Oper} {i f:Nat} {listed:Array Bool}(V:Value){g:FuncId} {args:Array Value} {N:World→Prop}(ho:ops[i]? = some o)(hr:Region.ready .any ops listed=[i])(hin:decide (i < n)=true)
 (hw:Region.wanted o (yielded ops a.tmps)=true)(he:(execOp a.eval o).run P w=.ok (.enter g args) w)(hc:Calls P g args w fun e w'=>e=.returned V∧N w')(hS:∀ w',N w'→S w')
 (hK:∀ w',N w'→QBH P ops Q S q n f (listed.setIfInBounds i true) (a.put o.dst V) w'):QBH P ops Q S q n (f+1) listed a w:=by
 intro inv
 have hr':i∈Region.ready .any ops listed:=by rw[hr];simp
 refine⟨by rw[hr];simp,fun j hj=>?_⟩
 rw[hr] at hj
 have hji:j=i:=by simpa using hj
 subst hji
 refine⟨of_decide_eq_true hin,?_⟩
 unfold wpOp
 simp only[ho,hw,if_true]
 refine .inl ?_
 unfold Oper.wp
 rw[he,Oper.upon_enter]
 refine hc.mono fun e w' ⟨h1,h2⟩=>?_
 subst h1
 exact⟨fun _=>hS w' h2,hK w' h2 (inv.set hr' (of_decide_eq_true hin))⟩
theorem QLe {a:Act} {w w':World} {o:Oper} {f:Nat} {listed:Array Bool}(hd:o.dst=none)(ho:ops[q]? = some o)(hr:Region.ready .any ops listed=[q])(hin:decide (q < n)=true)
 (hw:Region.wanted o (yielded ops a.tmps)=true)(he:(execOp a.eval o).run P w=.ok .skip w')
 (hK:QBH P ops Q S q n f (listed.setIfInBounds q true) (a.put none undef) w'):QBH P ops Q S q n (f+1) listed a w:=by
 intro inv
 have hr':q∈Region.ready .any ops listed:=by rw[hr];simp
 refine⟨by rw[hr];simp,fun j hj=>?_⟩
 rw[hr] at hj
 have hji:j=q:=by simpa using hj
 subst hji
 refine⟨of_decide_eq_true hin,?_⟩
 unfold wpOp
 simp only[ho,hw,if_true]
 refine .inl ?_
 unfold Oper.wp
 rw[he,Oper.upon_skip,hd]
 refine⟨fun h=>?_,hK (inv.set hr' (of_decide_eq_true hin))⟩
 have hlt:j < listed.size:=by rw[inv.size];exact (Array.getElem?_eq_some_iff.1 ho).1
 simp[hlt] at h
theorem QII {listed:Array Bool} {a:Act} {w:World}(hB:Region.seqB .any ops (ops.size-n) n listed=true)(h:WL P ops Q (ops.toList.drop n) a w):QBH P ops Q S q n 0 listed a w:=fun _=>⟨hB,h.h⟩
end
theorem add_block (a:Addr)(n:Nat):(a.add n).block=a.block:=by unfold Addr.add;split<;>rfl
theorem QLw (a:Addr)(i j:Nat):(a.add i).add j=a.add (i+j):=by
 unfold Addr.add
 by_cases hi:i=0<;>by_cases hj:j=0<;>simp[hi,hj,Nat.add_assoc]
def BytesIn (w:World)(B:Nat)(A:Option Addr)(xs:List Int):Prop :=
 ∀ j x,xs[j]? = some x→∃ ad,A=some ad∧ad.block < B∧w.cell? (ad.add j)=some (.int .u8 x)
theorem BytesIn.nil (w:World)(B:Nat)(A:Option Addr):BytesIn w B A []:=fun j x h=>by simp at h
theorem BytesIn.keep {w w':World} {B:Nat} {A:Option Addr} {xs:List Int}(h:BytesIn w B A xs)(k:∀ b,b < B→w'.heap[b]? = w.heap[b]?):BytesIn w' B A xs:=fun j x hx=>by
 obtain⟨ad,e,hb,hc⟩:=h j x hx
 exact⟨ad,e,hb,(World.cell?_of_block (by rw[add_block];exact k _ hb)).trans hc⟩
theorem BytesIn.more {w:World} {B B':Nat} {A:Option Addr} {xs:List Int}(h:BytesIn w B A xs)(k:B≤B'):BytesIn w B' A xs:=fun j x hx=>by
 obtain⟨ad,e,hb,hc⟩:=h j x hx
 exact⟨ad,e,by omega,hc⟩
theorem BytesIn.below {w w':World} {B:Nat} {A:Option Addr} {xs:List Int}(h:BytesIn w B A xs)(k:Below B w w'):BytesIn w' B A xs:=h.keep fun b hb=>k.block b hb
theorem BytesIn.drop {w:World} {B:Nat} {A:Option Addr} {xs:List Int}(h:BytesIn w B A xs){k cap:Nat}(hk:k≤xs.length)(hc:xs.length≤cap) :
 BytesIn w B (if cap=k then A else A.map (·.add k)) (xs.drop k):=fun j x hx=>by
 rw[List.getElem?_drop] at hx
 obtain⟨ad,rfl,hb,hcell⟩:=h _ x hx
 have hl:k+j < xs.length:=(List.getElem?_eq_some_iff.1 hx).1
 rw[if_neg (by omega)]
 exact⟨ad.add k,rfl,by rw[add_block];exact hb,by rw[QLw];exact hcell⟩
theorem BytesIn.take {w:World} {B:Nat} {A:Option Addr} {xs:List Int}(h:BytesIn w B A xs)(k:Nat):BytesIn w B A (xs.take k):=fun j x hx=>by
 rw[List.getElem?_take] at hx
 split at hx
 · exact h j x hx
 · cases hx
theorem BytesIn.at_ {w:World} {B:Nat} {A:Option Addr} {xs:List Int}(h:BytesIn w B A xs){k:Nat}(hk:k < xs.length):∃ ad,A=some ad∧ad.block < B∧w.cell? (ad.add k)=some (.int .u8 (xs.getD k 0)):=by
 obtain⟨ad,e,hb,hc⟩:=h k _ (List.getElem?_eq_getElem hk)
 refine⟨ad,e,hb,?_⟩
 rw[hc,List.getD_eq_getElem?_getD,List.getElem?_eq_getElem hk]
 rfl
structure Besides (A S:Nat)(w w':World):Prop where
 os:w'.os=w.os
 tape:w'.tape=w.tape
 output:w'.output=w.output
 size:w.heap.size≤w'.heap.size
 block:∀ b,b < w.heap.size→b≠A→b≠S→w'.heap[b]? = w.heap[b]?
theorem Besides.refl (A S:Nat)(w:World):Besides A S w w:=⟨rfl,rfl,rfl,Nat.le_refl _,fun _ _ _ _=>rfl⟩
theorem Besides.trans {A S:Nat} {a b c:World}(h:Besides A S a b)(k:Besides A S b c):Besides A S a c :=
 ⟨k.os.trans h.os,k.tape.trans h.tape,k.output.trans h.output,Nat.le_trans h.size k.size,fun i hi n1 n2=>(k.block i (Nat.lt_of_lt_of_le hi h.size) n1 n2).trans (h.block i hi n1 n2)⟩
theorem Besides.of_below {A S:Nat} {w w':World}(h:Below w.heap.size w w'):Besides A S w w':=⟨h.os,h.tape,h.output,h.size,fun b hb _ _=>h.block b hb⟩
theorem Besides.alloc {A S:Nat} {a w:World}(h:Besides A S a w)(o:Obj):Besides A S a (w.alloc o) :=
 h.trans (.of_below (Below.alloc (Below.refl _ _) (Nat.le_refl _) o))
theorem Besides.setCell {A S:Nat} {a w:World}(h:Besides A S a w){p:Addr}(hp:p.block=A∨p.block=S∨a.heap.size≤p.block)(u:Value):Besides A S a (w.setCell p u) :=
 ⟨h.os,h.tape,h.output,by simpa [World.setCell] using h.size,fun b hb n1 n2=>(Below.heap_setCell w p u b (by rcases hp with e|e|e<;>omega)).trans (h.block b hb n1 n2)⟩
theorem Besides.below {A S B:Nat} {w w':World}(h:Besides A S w w')(hA:B≤A)(hS:B≤S)(hB:B≤w.heap.size):Below B w w' :=
 ⟨h.os,h.tape,h.output,h.size,fun b hb=>h.block b (by omega) (by omega) (by omega)⟩
def Row (w:World)(g:Nat)(t:TypeId)(cs:Array Value):Prop:=w.heap[g]? = some (.cells cs t (0,0))
theorem Row.lt {w:World} {g:Nat} {t:TypeId} {cs:Array Value}(h:Row w g t cs):g < w.heap.size:=(Array.getElem?_eq_some_iff.1 h).1
theorem Row.cell {w:World} {g:Nat} {t:TypeId} {cs:Array Value}(h:Row w g t cs)(i:Nat):w.cell? ⟨g,i,none⟩=cs[i]?:=by simp[World.cell?,show w.heap[g]? = _ from h]
theorem Row.frozen {w:World} {g:Nat} {t:TypeId} {cs:Array Value}(h:Row w g t cs)(i:Nat):w.frozen? ⟨g,i,none⟩=false:=by simp[World.frozen?,show w.heap[g]? = _ from h]
theorem Row.new (w:World)(t:TypeId)(cs:Array Value):Row (w.alloc (.cells cs t)) w.heap.size t cs:=World.alloc_heap_new w _
theorem Row.of {w w':World} {g:Nat} {t:TypeId} {cs:Array Value}(h:Row w g t cs)(k:w'.heap[g]? = w.heap[g]?):Row w' g t cs:=k.trans h
theorem Row.alloc {w:World} {g:Nat} {t:TypeId} {cs:Array Value}(h:Row w g t cs)(o:Obj):Row (w.alloc o) g t cs:=(Below.heap_alloc w o g h.lt).trans h
theorem Row.set {w:World} {g:Nat} {t:TypeId} {cs:Array Value}(h:Row w g t cs)(i:Nat)(u:Value):Row (w.setCell ⟨g,i,none⟩ u) g t (cs.setIfInBounds i u):=by
 unfold Row at h ⊢
 simp[World.setCell,Array.getElem?_modify,h]
theorem Row.far {w:World} {g:Nat} {t:TypeId} {cs:Array Value}(h:Row w g t cs){p:Addr}(hp:g≠p.block)(u:Value):Row (w.setCell p u) g t cs:=(Below.heap_setCell w p u g hp).trans h
theorem Row.besides {A S:Nat} {w w':World} {g:Nat} {t:TypeId} {cs:Array Value}(h:Row w g t cs)(k:Besides A S w w')(hA:g≠A)(hS:g≠S):Row w' g t cs:=(k.block g h.lt hA hS).trans h
theorem Row.below {B:Nat} {w w':World} {g:Nat} {t:TypeId} {cs:Array Value}(h:Row w g t cs)(k:Below B w w')(hB:g < B):Row w' g t cs:=(k.block g hB).trans h
def ovr (cs:Array Value):Nat→List Value→Array Value
 | _,[]=>cs
 | o,v :: r=>ovr (cs.setIfInBounds o v) (o+1) r
theorem QLS:∀ (vs:List Value) (o:Nat) (cs:Array Value) (i:Nat),(ovr cs o vs)[i]? = if o≤i∧i < o+vs.length∧i < cs.size then vs[i-o]? else cs[i]?
 | [],o,cs,i=>by
   rw[if_neg (by rintro ⟨h1,h2,h3⟩;simp at h2;omega)]
   rfl
 | v :: r,o,cs,i=>by
   rw[ovr,QLS r (o+1) (cs.setIfInBounds o v) i,List.length_cons,Array.size_setIfInBounds,Array.getElem?_setIfInBounds]
   by_cases h1:o=i
   · subst h1
     rw[if_neg (by omega),if_pos rfl]
     by_cases h3:o < cs.size
     · rw[if_pos h3,if_pos (by omega),Nat.sub_self]
       rfl
     · rw[if_neg h3,if_neg (by omega),Array.getElem?_eq_none (by omega)]
   · rw[if_neg h1]
     by_cases h2:o+1≤i∧i < o+1+r.length∧i < cs.size
     · rw[if_pos h2,if_pos (by omega),show i-o=(i-(o+1))+1 by omega,List.getElem?_cons_succ]
     · rw[if_neg h2,if_neg (by omega)]
theorem QK8 (cs vs:Array Value)(h:cs.size=vs.size):ovr cs 0 vs.toList=vs:=by
 apply Array.ext_getElem?
 intro i
 rw[QLS,Nat.zero_add,Array.length_toList,Nat.sub_zero]
 by_cases hi:i < vs.size
 · rw[if_pos ⟨Nat.zero_le _,hi,by omega⟩]
   simp
 · rw[if_neg (by omega),Array.getElem?_eq_none (by omega),Array.getElem?_eq_none (by omega)]
theorem QBj (w:World)(t:TypeId):∀ (vs:List Value) (o:Nat) (cs:Array Value),(w.alloc (.cells cs t)).setCells w.heap.size o vs=w.alloc (.cells (ovr cs o vs) t)
 | [],_,_=>rfl
 | v :: r,o,cs=>by
   rw[World.setCells,World.setCell_alloc_new,QBj w t r (o+1)]
   rfl
theorem QBy (w:World)(t:TypeId)(cs vs:Array Value)(h:cs.size=vs.size):(w.alloc (.cells cs t)).setCells w.heap.size 0 vs.toList=w.alloc (.cells vs t):=by
 rw[QBj,QK8 cs vs h]
theorem Row.range {w:World} {b:Nat} {cs:Array Value} {t:TypeId}(h:Row w b t cs):w.rangeAt b 0 cs.toList:=fun j v hv=>by
 rw[Nat.zero_add,h.cell j]
 simpa using hv
theorem Row.there {w:World} {b:Nat} {cs:Array Value} {t:TypeId}(h:Row w b t cs):w.there b 0 cs.size:=fun j hj=>by
 rw[Nat.zero_add,h.cell j]
 exact⟨by simp[hj],h.frozen j⟩
section
variable {P:Program}
theorem QNd {t u:TypeId} {w:World} {g:Nat} {cs:Array Value} {d:TypeDesc}(h:Row w g u cs)(hu:P.underlying t=some d)(hd:d.isRow=true)(hi:(P.info? t).map (·.size)=some cs.size) :
 (Instr.loadAt t (.pointer (some ⟨g,0,none⟩))).run P w=.ok (.agg cs) w :=
 run_loadAt_mid w g 0 t cs.toList d h.range hu hd (by simpa using hi)
theorem X5 {t u:TypeId} {w:World} {g:Nat} {cs:Array Value} {d:TypeDesc}(h:Row w g u cs)(hu:P.underlying t=some d)(hd:d.isRow=true)(hi:(P.info? t).map (·.size)=some cs.size) :
 (loadVar t ⟨g,0,none⟩).run P w=.ok (.agg cs) w :=
 run_loadVar_mid w g 0 t cs.toList d h.range hu hd (by simpa using hi)
theorem XC {ops:Array Oper} {rest:List Oper} {op:Oper} {a:Act} {Q:Exit→Act→World→Prop}(hgd:op.guard=none)(ty:TypeId)(x y:Operand)(ho:op.op=.store ty x y)
 (w:World)(g:Nat)(u:TypeId)(cs vs:Array Value)(hx:a.eval x=.pointer (some ⟨g,0,none⟩))(hy:a.eval y=.agg vs)(hg:g=w.heap.size)(h:cs.size=vs.size)(hi:(P.info? ty).map (·.size)=some vs.size)(h1:vs.toList.all (·.oneCell')=true)
 (hK:wpList P ops Q rest (a.put op.dst undef) (w.alloc (.cells vs u))):wpList P ops Q (op :: rest) a (w.alloc (.cells cs u)):=by
 subst hg
 refine wpList_store_mid hgd ty x y ho w.heap.size 0 vs hx hy (by rw[←h];exact (Row.new w u cs).there) hi (by rw[←Array.all_toList];exact h1) ?_
 rw[QBy _ _ _ _ h]
 exact hK
theorem wpList_load_row {ops:Array Oper} {rest:List Oper} {op:Oper} {a:Act} {w:World} {Q:Exit→Act→World→Prop}(hgd:op.guard=none)(ty:TypeId)(x:Operand)(ho:op.op=.load ty x)
 (g:Nat)(u:TypeId)(cs:Array Value)(hx:a.eval x=.pointer (some ⟨g,0,none⟩))(h:Row w g u cs)(d:TypeDesc)(hu:P.underlying ty=some d)(hd:d.isRow=true)(hi:(P.info? ty).map (·.size)=some cs.size)
 (hK:wpList P ops Q rest (a.put op.dst (.agg cs)) w):wpList P ops Q (op :: rest) a w :=
 wpList_load_mid hgd ty x ho g 0 hx cs.toList d h.range hu hd (by simpa using hi) hK
theorem Qk {fn:Func} {t:Tmp} {ty u:TypeId}(h:fn.results=#[.cell t ty]){tmps:Array Value} {w:World} {g:Nat} {cs:Array Value}(ht:tmps.getD t undef=.pointer (some ⟨g,0,none⟩))(hr:Row w g u cs)
 (d:TypeDesc)(hu:P.underlying ty=some d)(hd:d.isRow=true)(hi:(P.info? ty).map (·.size)=some cs.size):(results fn tmps).run P w=.ok (.agg cs) w:=by
 have ht':tmps[t]?.getD undef=.pointer (some ⟨g,0,none⟩):=by simpa using ht
 simp[results,h,ht',asAddr,X5 hr hu hd hi]
end
theorem Below.setCellsAll {n:Nat} {w w':World}(h:Below n w w'){b:Nat}(hb:n≤b):∀ (vs:List Value) (o:Nat),Below n w (w'.setCells b o vs):=by
 intro vs
 induction vs generalizing w' with
 | nil=>intro o;exact h
 | cons v r ih=>intro o;exact ih (Go.RowKit.Below.setCell h hb _) (o+1)
theorem Row.setOver {w:World} {g:Nat} {t:TypeId}:∀ (vs:List Value) (o:Nat) {w:World} {cs:Array Value},Row w g t cs→Row (w.setCells g o vs) g t (ovr cs o vs)
 | [],_,_,_,h=>h
 | v :: r,o,_,_,h=>Row.setOver (w:=w) r (o+1) (h.set o v)
theorem Row.setAll {w:World} {g:Nat} {t:TypeId} {cs vs:Array Value}(h:Row w g t cs)(hs:cs.size=vs.size):Row (w.setCells g 0 vs.toList) g t vs:=by
 have:=Row.setOver (w:=w) vs.toList 0 h
 rwa [QK8 cs vs hs] at this
theorem Row.setFar {g b:Nat} {t:TypeId} {cs:Array Value}(hb:g≠b):∀ (vs:List Value) (o:Nat) {w:World},Row w g t cs→Row (w.setCells b o vs) g t cs
 | [],_,_,h=>h
 | v :: r,o,_,h=>Row.setFar hb r (o+1) (h.far (p:=⟨b,o,none⟩) hb v)
section
variable {P:Program}
theorem wpList_store_row {ops:Array Oper} {rest:List Oper} {op:Oper} {a:Act} {w:World} {Q:Exit→Act→World→Prop}(hgd:op.guard=none)(ty:TypeId)(x y:Operand)(ho:op.op=.store ty x y)
 (g:Nat)(u:TypeId)(cs vs:Array Value)(hx:a.eval x=.pointer (some ⟨g,0,none⟩))(hy:a.eval y=.agg vs)(hr:Row w g u cs)(h:cs.size=vs.size)(hi:(P.info? ty).map (·.size)=some vs.size)(h1:vs.toList.all (·.oneCell')=true)
 (hK:wpList P ops Q rest (a.put op.dst undef) (w.setCells g 0 vs.toList)):wpList P ops Q (op :: rest) a w :=
 wpList_store_mid hgd ty x y ho g 0 vs hx hy (by rw[←h];exact hr.there) hi (by rw[←Array.all_toList];exact h1) hK
end
end Go.Proofs.YtkenebbjodcbcaaGreatDoor
