/- Contracts and facts that the claim's proof wants (several texts in one). -/
import Derived.Test.YtkenebbjodcbcaaGreatDoorCoH18
namespace Go.Proofs.YtkenebbjodcbcaaGreatDoor
open Go.RowKit
set_option linter.unusedVariables false
set_option linter.unusedSimpArgs false
set_option maxRecDepth 20000
set_option maxHeartbeats 20000000
theorem QLD (c:Cy)(w:World):(Op.equalIn 10000 29 (cyV c) (cyV c)).run Tryz.prog w=.ok true w:=by
 unfold cyV cyC
 rw[run_equalIn_agg (P:=Tryz.prog) w 9999 29 _ _ (by kernel_rfl) (by kernel_rfl)]
 simp[go_sem]
theorem QSD (c:Cy)(w:World):(binOp .eql 29 (cyV c) (cyV c)).run Tryz.prog w=.ok (.bool true) w:=by
 have h:=QLD c w
 unfold cyV at *
 rw[run_eql_struct,h]
 rfl
theorem QSE (c:Cy)(w:World):(binOp .neq 29 (cyV c) (cyV c)).run Tryz.prog w=.ok (.bool false) w:=by
 have h:=QLD c w
 unfold cyV at *
 rw[run_neq_struct,h]
 rfl
theorem QCI (op:BinOp)(c d:Cy)(x y:Operand)(w:World):(eqGuard op 29 x y (cyV c) (cyV d)).run Tryz.prog w=.ok () w:=by
 unfold cyV
 exact run_eqGuard_agg (P:=Tryz.prog) w op _ x y _ _ (by kernel_rfl)
structure NextTabs (w:World):Prop where
 masks:Masks w
 courses:Courses w
 digits:Digits w
 modes:QBl w
theorem NextTabs.tabs {w:World}(h:NextTabs w):Tabs w w.heap.size :=
 ⟨h.masks,h.courses,h.digits,h.modes,World.block_lt_of_cell? _ _ h.masks.1,World.block_lt_of_cell? _ _ h.courses.1,World.block_lt_of_cell? _ _ h.digits.1,World.block_lt_of_cell? _ _ h.modes.1⟩
theorem Tabs.more {w:World} {B B':Nat}(h:Tabs w B)(k:B≤B'):Tabs w B':=⟨h.masks,h.courses,h.digits,h.modes,Nat.lt_of_lt_of_le h.gMasks k,Nat.lt_of_lt_of_le h.gCourses k,Nat.lt_of_lt_of_le h.gDigits k,Nat.lt_of_lt_of_le h.gModes k⟩
theorem Tabs.below {w w':World}(h:Tabs w w.heap.size)(k:Below w.heap.size w w'):Tabs w' w'.heap.size:=(h.keep fun b hb=>k.block b hb).more k.size
theorem QNZ (g:Rg)(hg:RgB g)(A:Option Addr)(cap:Nat)(xs:List Int)(hc:xs.length≤cap)(h8:Bytes8 xs)(w:World)(hin:BytesIn w w.heap.size A xs)(ht:Tabs w w.heap.size) :
 ∀ W,Below w.heap.size w W→Calls Tryz.prog 55 #[JH g,.slice A xs.length cap] W fun e w'=>e=.returned (.tuple #[cyV (ZB (Qu g xs)),JH (ZU (Qu g xs)),.bool (Xe (Qu g xs))])∧Below W.heap.size W w':=fun W hW=>by
 have h:=QLr g hg A cap xs hc h8 W ((hin.below hW).more hW.size) (ht.below hW)
 rwa [XU] at h
theorem QMc (g:Rg)(hg:RgB g)(c:Int)(hcb:B8 c)(A:Option Addr)(cap:Nat)(xs:List Int)(hc:xs.length≤cap)(h8:Bytes8 xs)(w:World)(hin:BytesIn w w.heap.size A xs)(ht:Tabs w w.heap.size) :
 ∀ W,Below w.heap.size w W→Calls Tryz.prog 96 #[JH g,.int .u8 c,.slice A xs.length cap] W fun e w'=>e=.returned (.tuple #[cyV (ZB (Xx g c xs)),JH (ZU (Xx g c xs)),.bool (Xe (Xx g c xs))])∧Below W.heap.size W w':=fun W hW=>by
 have h:=QJf g hg c hcb A cap xs hc h8 W ((hin.below hW).more hW.size) (ht.below hW)
 rwa [XU] at h
theorem Row.at {w:World} {g:Nat} {t:TypeId} {cs:Array Value}(h:Row w g t cs)(i:Nat)(V:Value)(e:cs[i]? = some V:=by exact rfl):w.cell? ⟨g,i,none⟩=some V:=(h.cell i).trans e
theorem QLA (A:Option Addr)(n c:Nat)(h:1≤n)(hc:n≤c)(w:World):(Instr.sliceAt 26 (.slice A n c) (some (.int .i64 1)) none none).run Tryz.prog w=.ok (.slice (if c=1 then A else A.map (·.add 1)) (n-1) (c-1)) w:=by
 have h1:¬((n:Int) < 1):=by omega
 simp[go_sem,h1]
theorem QTN (x y:Int)(h:-9223372036854775808≤x+y)(h':x+y≤9223372036854775807)(w:World):(binOp .add 3 (.int .i64 x) (.int .i64 y)).run Tryz.prog w=.ok (.int .i64 (x+y)) w:=by
 have e:IntKind.i64.wrap (x+y)=x+y:=by rw[IntKind.wrap_i64];omega
 simp[go_sem,e]
theorem oE {ops:Array Oper} {Q:Exit→Act→World→Prop} {a:Act} {w:World} {o:Oper} {rest:List Oper} {s x:Operand}(w0:World)(base:Nat){B:Nat} {v:Value} {n:Nat} {l:List Int} {A:Option Addr} {c:Nat}(ys:List Int)(hB:Below w0.heap.size w0 w)(hb0:w0.heap.size≤base)(hbase:base≤w.heap.size)(hown:w.ownsRow base 5 1 v n (bvs l))(hy:BytesIn w B A ys)(hn:A=none→c=0)(hmax:n+ys.length≤140737488355328)
 (h:∀ v' w',w'.ownsRow base 5 1 v' (n+ys.length) (bvs (l++ys))→Below w0.heap.size w0 w'→base≤w'.heap.size→WL Tryz.prog ops Q rest (a.put o.dst v') w')
 (hg:o.guard=none:=by exact rfl)(ho:o.op=.call { callee:=.builtin .append,args:=#[s,x],argTypes:=#[26,26] }:=by exact rfl)(hs:a.eval s=v:=by kernel_rfl)(hx:a.eval x=.slice A ys.length c:=by kernel_rfl):WL Tryz.prog ops Q (o :: rest) a w :=
 ⟨jv hg s x ho w0 base B hB hb0 hbase v n l hs hown A c ys hx hy hn hmax fun v' w' h1 h2 h3=>(h v' w' h1 h2 h3).h⟩
structure Ws where
 r:Rg
 plane:Int
 code:Int
 m:Int
 known:Bool
structure WsB (s:Ws):Prop where
 r:RgB s.r
 code:B8 s.code
 m:Wd16 s.m
def QF (c:Cy)(s:Ws):Tr (Int×Ws):=.ask c fun b=>.done (b,s)
def JO (n:Int)(s:Ws):Tr Ws:=(QF ⟨7,0,0,n⟩ s).bind fun b=>.done b.2
def Jm (a:Int)(s:Ws):Tr (Int×Ws):=QF ⟨2,a,0,3⟩ s
def Jb (a b:Int)(s:Ws):Tr Ws:=(QF ⟨3,a,b,3⟩ s).bind fun b=>.done b.2
def Ws.pc (s:Ws)(v:Int):Ws:={ s with r:={ s.r with pc:=v } }
def Ws.sp (s:Ws)(v:Int):Ws:={ s with r:={ s.r with sp:=v } }
def Ws.wz (s:Ws)(v:Int):Ws:={ s with r:={ s.r with wz:=v } }
def Ws.hlTo (s:Ws)(v:Int):Ws:={ s with r:={ s.r with hl:=v } }
def Ws.af (s:Ws)(a f:Int):Ws:={ s with r:={ s.r with af:=256*a+f } }
def Ws.tick (s:Ws):Ws:={ s with r:=ZI s.r 1 }
def Ws.pcUp (s:Ws):Ws:=s.pc ((s.r.pc+1)%65536)
def Ws.a (s:Ws):Int:=s.r.af / 256
def Ws.f (s:Ws):Int:=s.r.af%256
def Je (s:Ws):Tr (Int×Ws):=(QF ⟨1,s.r.pc,0,4⟩ s).bind fun b=>.done (b.1,b.2.pcUp.tick)
def JU (s:Ws):Tr (Int×Ws):=(Jm s.r.pc s).bind fun b=>.done (b.1,b.2.pcUp)
def Ju (s:Ws):Tr (Int×Ws):=(JU s).bind fun l=>(JU l.2).bind fun h=>.done (256*h.1+l.1,h.2)
def Ws.spDown (s:Ws):Ws:=s.sp ((s.r.sp-1)%65536)
def Ws.spUp (s:Ws):Ws:=s.sp ((s.r.sp+1)%65536)
def Jy (x:Int)(s:Ws):Tr Ws:=(Jb s.spDown.r.sp (x / 256) s.spDown).bind fun s=>Jb s.spDown.r.sp (x%256) s.spDown
def QX (s:Ws):Tr (Int×Ws):=(Jm s.r.sp s).bind fun l=>(Jm l.2.spUp.r.sp l.2.spUp).bind fun h=>.done (256*h.1+l.1,h.2.spUp)
def Ws.hl (s:Ws):Int:=Jk s.r s.plane 2
def Ws.setHl (s:Ws)(w:Int):Ws:={ s with r:=J8 s.r s.plane 2 w }
def Ws.know (s:Ws)(v:Int):Ws:={ s with known:=true,m:=v }
def Ws.mTo (s:Ws)(v:Int):Ws:={ s with m:=v }
def Xn (s:Ws):Tr (Int×Ws) :=
 if s.known=true then .done (s.m,s) else
 if s.plane=3∨s.plane=4 then (JU (s.know s.r.hl)).bind fun e=>(JO 5 e.2).bind fun t=>.done (JA t.hl (JR e.1),(t.mTo (JA t.hl (JR e.1))).wz (JA t.hl (JR e.1)))
 else .done (s.r.hl,s.know s.r.hl)
def QG (s:Ws):Int:=if XT s.plane s.code=true then 0 else s.plane
def jH (k:Int)(s:Ws):Tr (Int×Ws):=if k=6 then (Xn s).bind fun a=>Jm a.1 a.2 else .done (qd s.r (QG s) k,s)
def setW (k b:Int)(s:Ws):Tr Ws:=if k=6 then (Xn s).bind fun a=>Jb a.1 b a.2 else .done { s with r:=QCF s.r (QG s) k b }
def j7 (y b:Int)(s:Ws):Ws :=
 if y=0 then s.af (XJ s.a b false) (XI s.a b false) else if y=1 then s.af (XJ s.a b (isM s.f 0)) (XI s.a b (isM s.f 0)) else
 if y=2 then s.af (QQ s.a b false) (QE s.a b false) else if y=3 then s.af (QQ s.a b (isM s.f 0)) (QE s.a b (isM s.f 0)) else
 if y=4 then s.af (qX s.a b) (qO (qX s.a b)) else if y=5 then s.af (Zf s.a b) (Jn (Zf s.a b)) else
 if y=6 then s.af (orR s.a b) (Jn (orR s.a b)) else s.af s.a (QDa s.a b)
def QKG (is:Bool)(s:Ws):Tr Ws:=(JU s).bind fun e=>if is=true then (JO 5 e.2).bind fun s=>.done ((s.pc (JA s.r.pc (JR e.1))).wz (JA s.r.pc (JR e.1))) else .done e.2
def Ws.left (s:Ws):Int:=(s.r.bc / 256-1)%256
def Ws.less (s:Ws):Ws:={ s with r:={ s.r with bc:=256*s.left+s.r.bc%256 } }
def QIf (y:Int)(s:Ws):Tr Ws :=
 if y=0 then .done s else if y=1 then .done { s with r:=QEp s.r } else
 if y=2 then (JO 1 s).bind fun s=>QKG (s.left != 0) s.less else if y=3 then QKG true s else QKG (Z4 s.f (y-4)) s
def QDn (a:Int)(s:Ws):Tr Ws:=(Jb a s.a s).bind fun s=>.done (s.wz (256*s.a+(a%256+1)%256))
def QGz (a:Int)(s:Ws):Tr Ws:=(Jm a s).bind fun b=>.done ((b.2.af b.1 b.2.f).wz ((a+1)%65536))
def QB3 (y:Int)(s:Ws):Tr Ws :=
 if y=2 then QDn s.r.de s else if y=3 then QGz s.r.de s else
 if 3 < y then (Ju s).bind fun a =>
  if y=6 then QDn a.1 a.2 else if y=7 then QGz a.1 a.2 else
  if y=4 then (Jb a.1 (a.2.hl%256) a.2).bind fun s=>(Jb ((a.1+1)%65536) (s.hl / 256) s).bind fun s=>.done (s.wz ((a.1+1)%65536)) else
  if y=5 then (Jm a.1 a.2).bind fun l=>(Jm ((a.1+1)%65536) l.2).bind fun h=>.done ((h.2.setHl (256*h.1+l.1)).wz ((a.1+1)%65536)) else .done (a.2.wz ((a.1+1)%65536))
 else if y=0 then QDn s.r.bc s else if y=1 then QGz s.r.bc s else .done (s.wz ((s.r.bc+1)%65536))
def stepW (y z:Int)(s:Ws):Tr Ws:=(jH y s).bind fun b=>(if y=6 then JO 1 b.2 else .done b.2).bind fun s =>
 if z=5 then setW y (QQ b.1 1 false) (s.af s.a (QDW b.1 s.f)) else setW y (XJ b.1 1 false) (s.af s.a (QDc b.1 s.f))
def zb (y:Int)(s:Ws):Ws :=
 if y=4 then s.af (Xj s.a s.f) (QDe s.a s.f) else if y=5 then s.af (255-s.a) (QED s.a s.f) else
 if y=6 then s.af s.a (QCt s.a s.f) else if y=7 then s.af s.a (QCZ s.a s.f) else s.af (QBW y s.a s.f) (QBa y s.a s.f)
def Ws.setP (s:Ws)(p w:Int):Ws:={ s with r:=J8 s.r s.plane p w }
def Ws.setP0 (s:Ws)(p w:Int):Ws:={ s with r:=J8 s.r 0 p w }
def QJs (y z p q:Int)(s:Ws):Tr Ws :=
 if z=0 then QIf y s else
 if z=1 then (if q=0 then (Ju s).bind fun x=>.done (x.2.setP p x.1) else
  (JO 7 s).bind fun s=>.done (((s.wz ((s.hl+1)%65536)).setHl (X0 (s.wz ((s.hl+1)%65536)).hl (Jk (s.wz ((s.hl+1)%65536)).r s.plane p) false)).af
    ((s.wz ((s.hl+1)%65536)).setHl (X0 (s.wz ((s.hl+1)%65536)).hl (Jk (s.wz ((s.hl+1)%65536)).r s.plane p) false)).a (QBv (s.wz ((s.hl+1)%65536)).hl (Jk (s.wz ((s.hl+1)%65536)).r s.plane p) (s.wz ((s.hl+1)%65536)).f))) else
 if z=2 then QB3 y s else
 if z=3 then (JO 2 s).bind fun s=>if q=0 then .done (s.setP p ((Jk s.r s.plane p+1)%65536)) else .done (s.setP p ((Jk s.r s.plane p-1)%65536)) else
 if z=4∨z=5 then stepW y z s else
 if z=6 then (if y=6∧s.plane≠0 then (JU s).bind fun e=>(JU ((e.2.know (JA e.2.hl (JR e.1))).wz (JA e.2.hl (JR e.1)))).bind fun b=>(JO 2 b.2).bind fun s=>Jb s.m b.1 s
  else (JU s).bind fun b=>setW y b.1 b.2) else .done (zb y s)
def QCK (s:Ws):Tr Ws:=(QX s).bind fun x=>.done ((x.2.pc x.1).wz x.1)
def QFL (is:Bool)(s:Ws):Tr Ws:=(Ju s).bind fun x=>if is=true then (JO 1 (x.2.wz x.1)).bind fun s=>(Jy s.r.pc s).bind fun s=>.done (s.pc s.r.wz) else .done (x.2.wz x.1)
def QIW (p q:Int)(s:Ws):Tr Ws :=
 if q=0 then (if p=3 then (QX s).bind fun x=>.done { x.2 with r:={ x.2.r with af:=x.1 } } else (QX s).bind fun x=>.done (x.2.setP p x.1)) else
 if p=0 then QCK s else if p=1 then .done { s with r:=QKR s.r } else if p=2 then .done (s.pc s.hl) else (JO 2 s).bind fun s=>.done (s.sp s.hl)
def QEA (y:Int)(s:Ws):Tr Ws :=
 if y=0 then (Ju s).bind fun x=>.done ((x.2.pc x.1).wz x.1) else
 if y=2 then (JU s).bind fun n=>(QF ⟨5,256*n.2.a+n.1,n.2.a,4⟩ n.2).bind fun b=>.done (b.2.wz (256*b.2.a+(n.1+1)%256)) else
 if y=3 then (JU s).bind fun n=>(QF ⟨4,256*n.2.a+n.1,0,4⟩ n.2).bind fun b=>.done ((b.2.af b.1 b.2.f).wz ((256*n.2.a+n.1+1)%65536)) else
 if y=4 then (Jm s.r.sp s).bind fun l=>(Jm ((l.2.r.sp+1)%65536) l.2).bind fun h=>(JO 1 h.2).bind fun s=>(Jb ((s.r.sp+1)%65536) (s.hl / 256) s).bind fun s =>
  (Jb s.r.sp (s.hl%256) s).bind fun s=>(JO 2 s).bind fun s=>.done ((s.wz (256*h.1+l.1)).setHl (256*h.1+l.1)) else
 if y=5 then .done { s with r:={ s.r with de:=s.r.hl,hl:=s.r.de } } else
 if y=6 then .done { s with r:={ s.r with iff1:=false,iff2:=false } } else if y=7 then .done { s with r:={ s.r with iff1:=true,iff2:=true,late:=true } } else .done s
def QGY (y z p q:Int)(s:Ws):Tr Ws :=
 if z=0 then (JO 1 s).bind fun t=>if Z4 s.f y=true then QCK t else .done t else
 if z=1 then QIW p q s else
 if z=2 then (Ju s).bind fun x=>if Z4 s.f y=true then .done ((x.2.wz x.1).pc x.1) else .done (x.2.wz x.1) else
 if z=3 then QEA y s else if z=4 then QFL (Z4 s.f y) s else
 if z=5 then (if q=1 then QFL true s else (JO 1 s).bind fun s=>if p=3 then Jy s.r.af s else Jy (Jk s.r s.plane p) s) else
 if z=6 then (JU s).bind fun b=>.done (j7 y b.1 b.2) else
 (JO 1 s).bind fun s=>(Jy s.r.pc s).bind fun s=>.done ((s.pc ((8*y)%65536)).wz ((8*y)%65536))
def Ws.at_ (s:Ws)(plane code:Int):Ws:={ s with plane:=plane,code:=code }
def QAY (plane c:Int)(s:Ws):Tr Ws :=
 if fx c=0 then QJs (fy c) (fz c) (fp c) (fq c) (s.at_ plane c) else
 if fx c=1 then (if fy c=6∧fz c=6 then .done { (s.at_ plane c) with r:={ s.r with halted:=true } } else (jH (fz c) (s.at_ plane c)).bind fun b=>setW (fy c) b.1 b.2) else
 if fx c=2 then (jH (fz c) (s.at_ plane c)).bind fun b=>.done (j7 (fy c) b.1 b.2) else QGY (fy c) (fz c) (fp c) (fq c) (s.at_ plane c)
def zu (far:Bool)(k z b:Int)(s:Ws):Tr Ws:=(setW k b s).bind fun s=>if far=true∧z≠6 then setW z b s else .done s
def QBb (far:Bool)(x y z k b lines:Int)(s:Ws):Tr Ws :=
 if x=0 then zu far k z (doR y b s.f) (s.af s.a (doF y b s.f)) else if x=1 then .done (s.af s.a (zr y b lines s.f)) else
 if x=2 then zu far k z (JQ b y false) s else zu far k z (JQ b y true) s
def QHX (far:Bool)(c:Int)(s:Ws):Tr Ws :=
 if far=true then (jH 6 (s.at_ 0 0)).bind fun b=>(JO 1 b.2).bind fun t=>QBb far (fx c) (fy c) (fz c) 6 b.1 (t.r.wz / 256) t else
 (jH (fz c) (s.at_ 0 0)).bind fun b=>if fz c=6 then (JO 1 b.2).bind fun t=>QBb far (fx c) (fy c) (fz c) (fz c) b.1 (t.r.wz / 256) t else QBb far (fx c) (fy c) (fz c) (fz c) b.1 b.1 b.2
def QFQ (p q:Int)(s:Ws):Tr Ws:=(Ju s).bind fun a =>
 if q=0 then (Jb a.1 (Jk a.2.r 0 p%256) a.2).bind fun s=>(Jb ((a.1+1)%65536) (Jk a.2.r 0 p / 256) s).bind fun s=>.done (s.wz ((a.1+1)%65536))
 else (Jm a.1 a.2).bind fun l=>(Jm ((a.1+1)%65536) l.2).bind fun h=>.done ((h.2.setP0 p (256*h.1+l.1)).wz ((a.1+1)%65536))
def QKL (b:Int)(s:Ws):Ws:=s.af b (mkM (isM (JE b) 7) (isM (JE b) 6) (isM (JE b) 5) (isM (JE b) 4) (isM (JE b) 3) s.r.iff2 (isM (JE b) 1) (isM s.f 0))
def QN2 (y:Int)(s:Ws):Tr Ws :=
 if y < 4 then (JO 1 s).bind fun s =>
  if y=0 then .done { s with r:={ s.r with i:=s.a } } else if y=1 then .done { s with r:={ s.r with r:=s.a } } else
  if y=3 then .done (QKL s.r.r s) else if y=2 then .done (QKL s.r.i s) else .done s
 else if y=4 then (Jm s.r.hl s).bind fun b=>(JO 4 b.2).bind fun s=>(Jb s.r.hl (QDf true s.a b.1) s).bind fun t=>.done ((t.af (ZY true s.a b.1) (jx (ZY true s.a b.1) (isM s.f 0))).wz ((t.r.hl+1)%65536))
 else if y=5 then (Jm s.r.hl s).bind fun b=>(JO 4 b.2).bind fun s=>(Jb s.r.hl (QDf false s.a b.1) s).bind fun t=>.done ((t.af (ZY false s.a b.1) (jx (ZY false s.a b.1) (isM s.f 0))).wz ((t.r.hl+1)%65536))
 else .done s
@[reducible] def wC (s:Ws)(A:Option Addr)(n cap:Nat)(z:Zs):Array Value:=#[.int .u16 s.r.af,.int .u16 s.r.bc,.int .u16 s.r.de,.int .u16 s.r.hl,.int .u16 s.r.af2,.int .u16 s.r.bc2,.int .u16 s.r.de2,.int .u16 s.r.hl2,.int .u16 s.r.ix,.int .u16 s.r.iy,.int .u16 s.r.sp,.int .u16 s.r.pc,.int .u16 s.r.wz,.int .u8 s.r.i,.int .u8 s.r.r,.bool s.r.iff1,.bool s.r.iff2,.bool s.r.halted,.bool s.r.late,.int .i64 s.r.mode,.slice A n cap,.int .i64 (z.pos:Int),.bool z.lacks,.int .i64 z.asked.kind,.int .u16 z.asked.addr,.int .u8 z.asked.data,.int .i64 z.asked.t,.int .i64 s.plane,.int .u8 s.code,.int .u16 s.m,.bool s.known]
structure AtW (w:World)(p B:Nat)(s:Ws)(xs:List Int)(z:Zs):Prop where
 row:∃ A cap,xs.length≤cap∧Row w p 112 (wC s A xs.length cap z)∧BytesIn w B A xs
 low:B≤p
 bytes:Bytes8 xs
 ms:WsB s
 pos:z.pos≤xs.length
 big:xs.length≤1000000000000000
theorem AtW.lt {w:World} {p B:Nat} {s:Ws} {xs:List Int} {z:Zs}(h:AtW w p B s xs z):p < w.heap.size:=by
 obtain⟨A,cap,hc,hr,hb⟩:=h.row
 exact hr.lt
theorem AtW.below {w w':World} {p B:Nat} {s:Ws} {xs:List Int} {z:Zs}(h:AtW w p B s xs z)(k:Below w.heap.size w w'):AtW w' p B s xs z:=by
 have hp:=h.lt
 obtain⟨⟨A,cap,hc,hr,hb⟩,hl,h8,hm,ht,hg⟩:=h
 exact⟨⟨A,cap,hc,hr.below k hp,hb.keep fun b hlt=>k.block b (by omega)⟩,hl,h8,hm,ht,hg⟩
theorem AtW.drew {w:World} {p B:Nat} {s:Ws} {xs:List Int} {z:Zs}(h:AtW w p B s xs z):AtW w.drew p B s xs z:=by
 obtain⟨⟨A,cap,hc,hr,hb⟩,hl,h8,hm,ht,hg⟩:=h
 exact⟨⟨A,cap,hc,hr,hb⟩,hl,h8,hm,ht,hg⟩
theorem AtW.cell {w:World} {p B:Nat} {s:Ws} {xs:List Int} {z:Zs}(h:AtW w p B s xs z)(i:Nat)(V:Value)(hV:∀ A n cap,(wC s A n cap z)[i]? = some V):w.cell? ⟨p,i,none⟩=some V:=by
 obtain⟨A,cap,hc,hr,hb⟩:=h.row
 rw[hr.cell i]
 exact hV ..
theorem AtW.frozen {w:World} {p B:Nat} {s:Ws} {xs:List Int} {z:Zs}(h:AtW w p B s xs z)(i:Nat):w.frozen? ⟨p,i,none⟩=false:=by
 obtain⟨A,cap,hc,hr,hb⟩:=h.row
 exact hr.frozen i
theorem AtW.regs {w:World} {p B:Nat} {s:Ws} {xs:List Int} {z:Zs}(h:AtW w p B s xs z):w.rangeAt p 0 (JJ s.r).toList:=by
 obtain⟨A,cap,hc,hr,hb⟩:=h.row
 intro j v hv
 rw[Nat.zero_add,hr.cell j]
 have hj:j < 20:=(List.getElem?_eq_some_iff.1 hv).1
 revert hv
 match j,hj with
 | 0,_=>exact id
 | 1,_=>exact id
 | 2,_=>exact id
 | 3,_=>exact id
 | 4,_=>exact id
 | 5,_=>exact id
 | 6,_=>exact id
 | 7,_=>exact id
 | 8,_=>exact id
 | 9,_=>exact id
 | 10,_=>exact id
 | 11,_=>exact id
 | 12,_=>exact id
 | 13,_=>exact id
 | 14,_=>exact id
 | 15,_=>exact id
 | 16,_=>exact id
 | 17,_=>exact id
 | 18,_=>exact id
 | 19,_=>exact id
 | n+20,h=>omega
theorem AtW.set {w:World} {p B:Nat} {s:Ws} {xs:List Int} {z:Zs}(h:AtW w p B s xs z)(i:Nat)(v:Value)(s':Ws)(hs:∀ A n cap,(wC s A n cap z).setIfInBounds i v=wC s' A n cap z)(hb:WsB s'):AtW (w.setCell ⟨p,i,none⟩ v) p B s' xs z:=by
 have hp:=h.lt
 obtain⟨⟨A,cap,hc,hr,hby⟩,hl,h8,hm,ht,hg⟩:=h
 have k:∀ b,b < B→(w.setCell ⟨p,i,none⟩ v).heap[b]? = w.heap[b]?:=fun b hlt=>Below.heap_setCell w _ v b (by show b≠p;omega)
 refine⟨⟨A,cap,hc,?_,hby.keep k⟩,hl,h8,hb,ht,hg⟩
 have:=hr.set i v
 rwa [hs] at this
structure NowW (w0:World)(p B:Nat)(s:Ws)(xs:List Int)(z:Zs)(w:World):Prop where
 at_:AtW w p B s xs z
 bes:Besides p p w0 w
theorem NowW.begin {w:World} {p B:Nat} {s:Ws} {xs:List Int} {z:Zs}(h:AtW w p B s xs z):NowW w p B s xs z w:=⟨h,.refl ..⟩
theorem NowW.below {w0 w w':World} {p B:Nat} {s:Ws} {xs:List Int} {z:Zs}(h:NowW w0 p B s xs z w)(k:Below w.heap.size w w'):NowW w0 p B s xs z w':=⟨h.at_.below k,h.bes.trans (.of_below k)⟩
theorem NowW.drew {w0 w:World} {p B:Nat} {s:Ws} {xs:List Int} {z:Zs}(h:NowW w0 p B s xs z w):NowW w0 p B s xs z w.drew:=⟨h.at_.drew,h.bes.drew⟩
theorem NowW.set {w0 w:World} {p B:Nat} {s:Ws} {xs:List Int} {z:Zs}(h:NowW w0 p B s xs z w)(i:Nat)(v:Value)(s':Ws)(hs:∀ A n cap,(wC s A n cap z).setIfInBounds i v=wC s' A n cap z)(hb:WsB s'):NowW w0 p B s' xs z (w.setCell ⟨p,i,none⟩ v) :=
 ⟨h.at_.set i v s' hs hb,h.bes.setCell (.inl rfl) v⟩
theorem NowW.after {w0 w w':World} {p B:Nat} {s s':Ws} {xs xs':List Int} {z z':Zs}(h:NowW w0 p B s xs z w)(k:NowW w p B s' xs' z' w'):NowW w0 p B s' xs' z' w':=⟨k.at_,h.bes.trans k.bes⟩
def OutX (w0:World)(p B:Nat)(k:IntKind)(xs:List Int)(X:(Int×Ws)×Zs):Ending→World→Prop:=fun e w'=>e=.returned (.int k X.1.1)∧kB k X.1.1∧NowW w0 p B X.1.2 xs X.2 w'
def OutY (w0:World)(p B:Nat)(xs:List Int)(X:Ws×Zs):Ending→World→Prop:=fun e w'=>e=.returned (.tuple #[])∧NowW w0 p B X.1 xs X.2 w'
theorem OutX.ok {w0 w:World} {p B:Nat} {k:IntKind} {xs:List Int} {X:(Int×Ws)×Zs} {v:Int} {s:Ws} {z:Zs}(h:X=((v,s),z))(hk:kB k v)(hn:NowW w0 p B s xs z w):OutX w0 p B k xs X (.returned (.int k v)) w:=by
 subst h
 exact⟨rfl,hk,hn⟩
theorem OutY.ok {w0 w:World} {p B:Nat} {xs:List Int} {X:Ws×Zs} {s:Ws} {z:Zs}(h:X=(s,z))(hn:NowW w0 p B s xs z w):OutY w0 p B xs X (.returned (.tuple #[])) w:=by
 subst h
 exact⟨rfl,hn⟩
section
variable {ops:Array Oper} {Q:Exit→Act→World→Prop} {a:Act} {w w0:World} {o:Oper} {rest:List Oper} {p B:Nat} {s0:Ws} {xs:List Int} {z0:Zs} {x y:Operand}
theorem QAD {k:IntKind} {X:(Int×Ws)×Zs} {g:FuncId} {args:Array Value}(hn:NowW w0 p B s0 xs z0 w)(hg:o.guard=none)(he:(execOp a.eval o).run Tryz.prog w=.ok (.enter g args) w)(hc:Calls Tryz.prog g args w (OutX w p B k xs X))
 (hK:∀ v s z w',X=((v,s),z)→kB k v→NowW w0 p B s xs z w'→WL Tryz.prog ops Q rest (a.put o.dst (.int k v)) w'):WL Tryz.prog ops Q (o :: rest) a w :=
 Q9 (JN hg) he hc fun e w' ho=>by
  obtain⟨rfl,hk,hN⟩:=ho
  exact hK _ _ _ w' rfl hk (hn.after hN)
theorem QCu {X:Ws×Zs} {g:FuncId} {args:Array Value}(hn:NowW w0 p B s0 xs z0 w)(hg:o.guard=none)(he:(execOp a.eval o).run Tryz.prog w=.ok (.enter g args) w)(hc:Calls Tryz.prog g args w (OutY w p B xs X))
 (hK:∀ s z w',X=(s,z)→NowW w0 p B s xs z w'→WL Tryz.prog ops Q rest (a.put o.dst (.tuple #[])) w'):WL Tryz.prog ops Q (o :: rest) a w :=
 Q9 (JN hg) he hc fun e w' ho=>by
  obtain⟨rfl,hN⟩:=ho
  exact hK _ _ w' rfl (hn.after hN)
theorem QAA (hn:NowW w0 p B s0 xs z0 w)(i:Nat)(V:Value)(s':Ws){t:TypeId}(hd:o.dst=none)(hg:o.guard=none)(ho:o.op=.store t x y)(hx:a.eval x=.pointer (some ⟨p,i,none⟩))(hy:a.eval y=V)
 (hl:(Instr.storeAt t (.pointer (some ⟨p,i,none⟩)) V).run Tryz.prog w=.ok () (w.setCell ⟨p,i,none⟩ V))(hs:∀ A n cap,(wC s0 A n cap z0).setIfInBounds i V=wC s' A n cap z0)(hb:WsB s')
 (h:∀ w',NowW w0 p B s' xs z0 w'→WL Tryz.prog ops Q rest (a.put none undef) w'):WL Tryz.prog ops Q (o :: rest) a w:=QKe _ _ hd hg ho hx hy hl (h _ (hn.set i V s' hs hb))
end
section
variable {α β:Type}
theorem QBi {t:Tr α} {xs:List Int} {z z':Zs} {a:α}(h:t.runZ xs z=(a,z'))(f:α→Tr β):(t.bind f).runZ xs z=(f a).runZ xs z':=by rw[Tr.runZ_bind,h]
theorem QDB (a:α)(xs:List Int)(z:Zs):(Tr.done a).runZ xs z=(a,z):=rfl
theorem JX {c:Prop} [Decidable c] {t e:Tr α} {xs:List Int} {z:Zs}(hc:c):(if c then t else e).runZ xs z=t.runZ xs z:=by rw[if_pos hc]
theorem JP {c:Prop} [Decidable c] {t e:Tr α} {xs:List Int} {z:Zs}(hc:¬c):(if c then t else e).runZ xs z=e.runZ xs z:=by rw[if_neg hc]
theorem zG {c:Prop} [Decidable c] {t e:Tr α} {f:α→Tr β} {xs:List Int} {z:Zs}(hc:c):((if c then t else e).bind f).runZ xs z=(t.bind f).runZ xs z:=by rw[if_pos hc]
theorem q9 {c:Prop} [Decidable c] {t e:Tr α} {f:α→Tr β} {xs:List Int} {z:Zs}(hc:¬c):((if c then t else e).bind f).runZ xs z=(e.bind f).runZ xs z:=by rw[if_neg hc]
end
def Ws.u_af (s:Ws)(v:Int):Ws:={ s with r:={ s.r with af:=v } }
theorem WsB.u_af {s:Ws}(h:WsB s){v:Int}(hv:Wd16 v):WsB (s.u_af v):=⟨⟨hv,h.r.bc,h.r.de,h.r.hl,h.r.af2,h.r.bc2,h.r.de2,h.r.hl2,h.r.ix,h.r.iy,h.r.sp,h.r.pc,h.r.wz,h.r.i,h.r.r,h.r.mode⟩,h.code,h.m⟩
def Ws.u_bc (s:Ws)(v:Int):Ws:={ s with r:={ s.r with bc:=v } }
theorem WsB.u_bc {s:Ws}(h:WsB s){v:Int}(hv:Wd16 v):WsB (s.u_bc v):=⟨⟨h.r.af,hv,h.r.de,h.r.hl,h.r.af2,h.r.bc2,h.r.de2,h.r.hl2,h.r.ix,h.r.iy,h.r.sp,h.r.pc,h.r.wz,h.r.i,h.r.r,h.r.mode⟩,h.code,h.m⟩
def Ws.u_de (s:Ws)(v:Int):Ws:={ s with r:={ s.r with de:=v } }
theorem WsB.u_de {s:Ws}(h:WsB s){v:Int}(hv:Wd16 v):WsB (s.u_de v):=⟨⟨h.r.af,h.r.bc,hv,h.r.hl,h.r.af2,h.r.bc2,h.r.de2,h.r.hl2,h.r.ix,h.r.iy,h.r.sp,h.r.pc,h.r.wz,h.r.i,h.r.r,h.r.mode⟩,h.code,h.m⟩
def Ws.u_hl (s:Ws)(v:Int):Ws:={ s with r:={ s.r with hl:=v } }
theorem WsB.u_hl {s:Ws}(h:WsB s){v:Int}(hv:Wd16 v):WsB (s.u_hl v):=⟨⟨h.r.af,h.r.bc,h.r.de,hv,h.r.af2,h.r.bc2,h.r.de2,h.r.hl2,h.r.ix,h.r.iy,h.r.sp,h.r.pc,h.r.wz,h.r.i,h.r.r,h.r.mode⟩,h.code,h.m⟩
def Ws.u_sp (s:Ws)(v:Int):Ws:={ s with r:={ s.r with sp:=v } }
theorem WsB.u_sp {s:Ws}(h:WsB s){v:Int}(hv:Wd16 v):WsB (s.u_sp v):=⟨⟨h.r.af,h.r.bc,h.r.de,h.r.hl,h.r.af2,h.r.bc2,h.r.de2,h.r.hl2,h.r.ix,h.r.iy,hv,h.r.pc,h.r.wz,h.r.i,h.r.r,h.r.mode⟩,h.code,h.m⟩
def Ws.u_pc (s:Ws)(v:Int):Ws:={ s with r:={ s.r with pc:=v } }
theorem WsB.u_pc {s:Ws}(h:WsB s){v:Int}(hv:Wd16 v):WsB (s.u_pc v):=⟨⟨h.r.af,h.r.bc,h.r.de,h.r.hl,h.r.af2,h.r.bc2,h.r.de2,h.r.hl2,h.r.ix,h.r.iy,h.r.sp,hv,h.r.wz,h.r.i,h.r.r,h.r.mode⟩,h.code,h.m⟩
def Ws.u_wz (s:Ws)(v:Int):Ws:={ s with r:={ s.r with wz:=v } }
theorem QTo (s:Ws)(v:Int)(z:Zs)(A:Option Addr)(n cap:Nat):(wC s A n cap z).setIfInBounds 12 (.int .u16 v)=wC (s.u_wz v) A n cap z:=rfl
theorem WsB.u_wz {s:Ws}(h:WsB s){v:Int}(hv:Wd16 v):WsB (s.u_wz v):=⟨⟨h.r.af,h.r.bc,h.r.de,h.r.hl,h.r.af2,h.r.bc2,h.r.de2,h.r.hl2,h.r.ix,h.r.iy,h.r.sp,h.r.pc,hv,h.r.i,h.r.r,h.r.mode⟩,h.code,h.m⟩
def Ws.u_i (s:Ws)(v:Int):Ws:={ s with r:={ s.r with i:=v } }
theorem WsB.u_i {s:Ws}(h:WsB s){v:Int}(hv:B8 v):WsB (s.u_i v):=⟨⟨h.r.af,h.r.bc,h.r.de,h.r.hl,h.r.af2,h.r.bc2,h.r.de2,h.r.hl2,h.r.ix,h.r.iy,h.r.sp,h.r.pc,h.r.wz,hv,h.r.r,h.r.mode⟩,h.code,h.m⟩
def Ws.u_r (s:Ws)(v:Int):Ws:={ s with r:={ s.r with r:=v } }
theorem WsB.u_r {s:Ws}(h:WsB s){v:Int}(hv:B8 v):WsB (s.u_r v):=⟨⟨h.r.af,h.r.bc,h.r.de,h.r.hl,h.r.af2,h.r.bc2,h.r.de2,h.r.hl2,h.r.ix,h.r.iy,h.r.sp,h.r.pc,h.r.wz,h.r.i,hv,h.r.mode⟩,h.code,h.m⟩
def Ws.u_iff1 (s:Ws)(v:Bool):Ws:={ s with r:={ s.r with iff1:=v } }
theorem WsB.u_iff1 {s:Ws}(h:WsB s){v:Bool}:WsB (s.u_iff1 v):=⟨⟨h.r.af,h.r.bc,h.r.de,h.r.hl,h.r.af2,h.r.bc2,h.r.de2,h.r.hl2,h.r.ix,h.r.iy,h.r.sp,h.r.pc,h.r.wz,h.r.i,h.r.r,h.r.mode⟩,h.code,h.m⟩
def Ws.u_iff2 (s:Ws)(v:Bool):Ws:={ s with r:={ s.r with iff2:=v } }
theorem WsB.u_iff2 {s:Ws}(h:WsB s){v:Bool}:WsB (s.u_iff2 v):=⟨⟨h.r.af,h.r.bc,h.r.de,h.r.hl,h.r.af2,h.r.bc2,h.r.de2,h.r.hl2,h.r.ix,h.r.iy,h.r.sp,h.r.pc,h.r.wz,h.r.i,h.r.r,h.r.mode⟩,h.code,h.m⟩
def Ws.u_halted (s:Ws)(v:Bool):Ws:={ s with r:={ s.r with halted:=v } }
theorem WsB.u_halted {s:Ws}(h:WsB s){v:Bool}:WsB (s.u_halted v):=⟨⟨h.r.af,h.r.bc,h.r.de,h.r.hl,h.r.af2,h.r.bc2,h.r.de2,h.r.hl2,h.r.ix,h.r.iy,h.r.sp,h.r.pc,h.r.wz,h.r.i,h.r.r,h.r.mode⟩,h.code,h.m⟩
def Ws.u_late (s:Ws)(v:Bool):Ws:={ s with r:={ s.r with late:=v } }
theorem QLQ (s:Ws)(v:Bool)(z:Zs)(A:Option Addr)(n cap:Nat):(wC s A n cap z).setIfInBounds 18 (.bool v)=wC (s.u_late v) A n cap z:=rfl
theorem WsB.u_late {s:Ws}(h:WsB s){v:Bool}:WsB (s.u_late v):=⟨⟨h.r.af,h.r.bc,h.r.de,h.r.hl,h.r.af2,h.r.bc2,h.r.de2,h.r.hl2,h.r.ix,h.r.iy,h.r.sp,h.r.pc,h.r.wz,h.r.i,h.r.r,h.r.mode⟩,h.code,h.m⟩
def Ws.u_mode (s:Ws)(v:Int):Ws:={ s with r:={ s.r with mode:=v } }
theorem QDr (s:Ws)(v:Int)(z:Zs)(A:Option Addr)(n cap:Nat):(wC s A n cap z).setIfInBounds 19 (.int .i64 v)=wC (s.u_mode v) A n cap z:=rfl
theorem WsB.u_mode {s:Ws}(h:WsB s){v:Int}(hv:-9223372036854775808≤v∧v≤9223372036854775807):WsB (s.u_mode v):=⟨⟨h.r.af,h.r.bc,h.r.de,h.r.hl,h.r.af2,h.r.bc2,h.r.de2,h.r.hl2,h.r.ix,h.r.iy,h.r.sp,h.r.pc,h.r.wz,h.r.i,h.r.r,hv⟩,h.code,h.m⟩
theorem WsB.u_rg {s:Ws}(h:WsB s){g:Rg}(hg:RgB g):WsB { s with r:=g }:=⟨hg,h.code,h.m⟩
def Ws.u_plane (s:Ws)(v:Int):Ws:={ s with plane:=v }
theorem QIh (s:Ws)(v:Int)(z:Zs)(A:Option Addr)(n cap:Nat):(wC s A n cap z).setIfInBounds 27 (.int .i64 v)=wC (s.u_plane v) A n cap z:=rfl
theorem WsB.u_plane {s:Ws}(h:WsB s){v:Int}:WsB (s.u_plane v):=⟨h.r,h.code,h.m⟩
def Ws.u_code (s:Ws)(v:Int):Ws:={ s with code:=v }
theorem QQF (s:Ws)(v:Int)(z:Zs)(A:Option Addr)(n cap:Nat):(wC s A n cap z).setIfInBounds 28 (.int .u8 v)=wC (s.u_code v) A n cap z:=rfl
theorem WsB.u_code {s:Ws}(h:WsB s){v:Int}(hv:B8 v):WsB (s.u_code v):=⟨h.r,hv,h.m⟩
def Ws.u_m (s:Ws)(v:Int):Ws:={ s with m:=v }
theorem wu_m (s:Ws)(v:Int)(z:Zs)(A:Option Addr)(n cap:Nat):(wC s A n cap z).setIfInBounds 29 (.int .u16 v)=wC (s.u_m v) A n cap z:=rfl
theorem WsB.u_m {s:Ws}(h:WsB s){v:Int}(hv:Wd16 v):WsB (s.u_m v):=⟨h.r,h.code,hv⟩
def Ws.u_known (s:Ws)(v:Bool):Ws:={ s with known:=v }
theorem QOf (s:Ws)(v:Bool)(z:Zs)(A:Option Addr)(n cap:Nat):(wC s A n cap z).setIfInBounds 30 (.bool v)=wC (s.u_known v) A n cap z:=rfl
theorem WsB.u_known {s:Ws}(h:WsB s){v:Bool}:WsB (s.u_known v):=⟨h.r,h.code,h.m⟩
theorem fW0 (b:Nat)(w:World):(Instr.fieldAt 112 (.pointer (some ⟨b,0,none⟩)) 0).run Tryz.prog w=.ok (.pointer (some ⟨b,0,none⟩)) w:=by simp[go_sem]
theorem fW1 (b:Nat)(w:World):(Instr.fieldAt 112 (.pointer (some ⟨b,0,none⟩)) 1).run Tryz.prog w=.ok (.pointer (some ⟨b,20,none⟩)) w:=by simp[go_sem]
theorem fW2 (b:Nat)(w:World):(Instr.fieldAt 112 (.pointer (some ⟨b,0,none⟩)) 2).run Tryz.prog w=.ok (.pointer (some ⟨b,21,none⟩)) w:=by simp[go_sem]
theorem fW3 (b:Nat)(w:World):(Instr.fieldAt 112 (.pointer (some ⟨b,0,none⟩)) 3).run Tryz.prog w=.ok (.pointer (some ⟨b,22,none⟩)) w:=by simp[go_sem]
theorem fW4 (b:Nat)(w:World):(Instr.fieldAt 112 (.pointer (some ⟨b,0,none⟩)) 4).run Tryz.prog w=.ok (.pointer (some ⟨b,23,none⟩)) w:=by simp[go_sem]
theorem fW5 (b:Nat)(w:World):(Instr.fieldAt 112 (.pointer (some ⟨b,0,none⟩)) 5).run Tryz.prog w=.ok (.pointer (some ⟨b,27,none⟩)) w:=by simp[go_sem]
theorem fW6 (b:Nat)(w:World):(Instr.fieldAt 112 (.pointer (some ⟨b,0,none⟩)) 6).run Tryz.prog w=.ok (.pointer (some ⟨b,28,none⟩)) w:=by simp[go_sem]
theorem fW7 (b:Nat)(w:World):(Instr.fieldAt 112 (.pointer (some ⟨b,0,none⟩)) 7).run Tryz.prog w=.ok (.pointer (some ⟨b,29,none⟩)) w:=by simp[go_sem]
theorem fW8 (b:Nat)(w:World):(Instr.fieldAt 112 (.pointer (some ⟨b,0,none⟩)) 8).run Tryz.prog w=.ok (.pointer (some ⟨b,30,none⟩)) w:=by simp[go_sem]
theorem bGtI (x y:Int)(w:World):(binOp .gtr 3 (.int .i64 x) (.int .i64 y)).run Tryz.prog w=.ok (.bool (decide (y < x))) w:=by simp[go_sem]
theorem QNG (g:Rg)(p:Int)(w:World) :
 Calls Tryz.prog 109 #[JH g,.int .i64 p,.int .i64 0] w fun e w'=>e=.returned (.int .u16 g.bc)∧Below w.heap.size w w':=by
 go_enter Tryz.func109,Tryz.ntmps109
 refine JB<|qQ [] (Many.begin w) fun w hm=>coS<|coB<|qQ [] hm fun w hm=>coT<|qQ [0] hm fun w hm=>JF<|Z3<|Jp<|Jj (.int .u16 g.bc) ⟨rfl,hm.touch.below⟩
theorem QM1 (g:Rg)(p:Int)(w:World) :
 Calls Tryz.prog 109 #[JH g,.int .i64 p,.int .i64 1] w fun e w'=>e=.returned (.int .u16 g.de)∧Below w.heap.size w w':=by
 go_enter Tryz.func109,Tryz.ntmps109
 refine JB<|qQ [] (Many.begin w) fun w hm=>coS<|coB<|qQ [] hm fun w hm=>coF<|qQ [] hm fun w hm=>coT<|qQ [0] hm fun w hm=>JF<|Z3<|Jp<|Jj (.int .u16 g.de) ⟨rfl,hm.touch.below⟩
theorem QMG (g:Rg)(w:World) :
 Calls Tryz.prog 109 #[JH g,.int .i64 3,.int .i64 2] w fun e w'=>e=.returned (.int .u16 g.ix)∧Below w.heap.size w w':=by
 go_enter Tryz.func109,Tryz.ntmps109
 refine JB<|qQ [] (Many.begin w) fun w hm=>coS<|coB<|qQ [] hm fun w hm=>coF<|qQ [] hm fun w hm=>coF<|qQ [] hm fun w hm=>coT<|qQ [0] hm fun w hm=>JF<|Z3<|Jp<|Jj (.int .u16 g.ix) ⟨rfl,hm.touch.below⟩
theorem QMD (g:Rg)(w:World) :
 Calls Tryz.prog 109 #[JH g,.int .i64 4,.int .i64 2] w fun e w'=>e=.returned (.int .u16 g.iy)∧Below w.heap.size w w':=by
 go_enter Tryz.func109,Tryz.ntmps109
 refine JB<|qQ [] (Many.begin w) fun w hm=>coS<|coB<|qQ [] hm fun w hm=>coF<|qQ [] hm fun w hm=>coF<|qQ [] hm fun w hm=>coF<|qQ [] hm fun w hm=>coT<|qQ [0] hm fun w hm=>JF<|Z3<|Jp<|Jj (.int .u16 g.iy) ⟨rfl,hm.touch.below⟩
theorem QMa (g:Rg)(p:Int)(h3:p≠3)(h4:p≠4)(w:World) :
 Calls Tryz.prog 109 #[JH g,.int .i64 p,.int .i64 2] w fun e w'=>e=.returned (.int .u16 g.hl)∧Below w.heap.size w w':=by
 go_enter Tryz.func109,Tryz.ntmps109
 refine JB<|qQ [] (Many.begin w) fun w hm=>coS<|coB<|qQ [] hm fun w hm=>coF<|qQ [] hm fun w hm=>coF<|qQ [] hm fun w hm=>coK (p==3) (fun h=>by simp at h;omega) fun _=>qQ [] hm fun w hm=>coK (p==4) (fun h=>by simp at h;omega) fun _=>qQ [] hm fun w hm=>coT<|qQ [0] hm fun w hm=>JF<|Z3<|Jp<|Jj (.int .u16 g.hl) ⟨rfl,hm.touch.below⟩
theorem QL6 (g:Rg)(p:Int)(w:World) :
 Calls Tryz.prog 109 #[JH g,.int .i64 p,.int .i64 3] w fun e w'=>e=.returned (.int .u16 g.sp)∧Below w.heap.size w w':=by
 go_enter Tryz.func109,Tryz.ntmps109
 refine JB<|qQ [] (Many.begin w) fun w hm=>coS<|coB<|qQ [] hm fun w hm=>coF<|qQ [] hm fun w hm=>coF<|qQ [] hm fun w hm=>coF<|qQ [] hm fun w hm=>coF<|qQ [] hm fun w hm=>coF<|qQ [] hm fun w hm=>coT<|qQ [0] hm fun w hm=>JF<|Z3<|Jp<|Jj (.int .u16 g.sp) ⟨rfl,hm.touch.below⟩
theorem QOv (g:Rg)(p k:Int)(hk:k < 0∨3 < k)(w:World) :
 Calls Tryz.prog 109 #[JH g,.int .i64 p,.int .i64 k] w fun e w'=>e=.returned (.int .u16 0)∧Below w.heap.size w w':=by
 have e2:(k==2)=false:=by simp;omega
 go_enter Tryz.func109,Tryz.ntmps109
 refine JB<|qQ [] (Many.begin w) fun w hm=>coS<|coB<|qQ [] hm fun w hm=>coK (k==0) (fun h=>by simp at h;omega) fun _=>qQ [] hm fun w hm=>coK (k==1) (fun h=>by simp at h;omega) fun _=>coR<|qR 3 [] hm fun w hm=>tell 20 e2<|qE [] hm fun w hm=>coF<|coR<|qR 3 [] hm fun w hm=>tell 29 e2<|qE [] hm fun w hm=>coF<|qQ [] hm fun w hm=>coK (k==2) (fun h=>by simp at h;omega) fun _=>qQ [] hm fun w hm=>coK (k==3) (fun h=>by simp at h;omega) fun _=>JC<|eoB<|eoT<|qQ [] hm fun w hm=>JF<|Jj (.int .u16 0) ⟨rfl,hm.touch.below⟩
theorem Qo (g:Rg)(p k:Int)(w:World) :
 Calls Tryz.prog 109 #[JH g,.int .i64 p,.int .i64 k] w fun e w'=>e=.returned (.int .u16 (Jk g p k))∧Below w.heap.size w w':=by
 by_cases hn:k < 0∨3 < k
 · rw[QJL g p k hn]
   exact QOv g p k hn w
 obtain rfl|rfl|rfl|rfl:k=0∨k=1∨k=2∨k=3:=by omega
 · exact QNG g p w
 · exact QM1 g p w
 · rw[QA2]
   by_cases h3:p=3
   · subst h3
     exact QMG g w
   by_cases h4:p=4
   · subst h4
     exact QMD g w
   · rw[if_neg h3,if_neg h4]
     exact QMa g p h3 h4 w
 · exact QL6 g p w
theorem QHd (g:Rg)(p:Int)(v:Int)(w:World) :
 Calls Tryz.prog 164 #[JH g,.int .i64 p,.int .i64 0,.int .u16 v] w fun e w'=>e=.returned (JH ({ g with bc:=v }))∧Below w.heap.size w w':=by
 go_enter Tryz.func164,Tryz.ntmps164
 refine JB<|qQ [] (Many.begin w) fun w hm=>coS<|coB<|qQ [] hm fun w hm=>coT<|coZ<|qF [0] hm fun w hm=>eoB<|eoT<|qQ [0,1] hm fun w hm=>JF<|eoC 1 (JJ ({ g with bc:=v })).toList hm ⟨rfl,hm.touch.below⟩
theorem QHV (g:Rg)(p:Int)(v:Int)(w:World) :
 Calls Tryz.prog 164 #[JH g,.int .i64 p,.int .i64 1,.int .u16 v] w fun e w'=>e=.returned (JH ({ g with de:=v }))∧Below w.heap.size w w':=by
 go_enter Tryz.func164,Tryz.ntmps164
 refine JB<|qQ [] (Many.begin w) fun w hm=>coS<|coB<|qQ [] hm fun w hm=>coF<|qQ [] hm fun w hm=>coT<|coZ<|qF [0] hm fun w hm=>eoB<|eoT<|qQ [0,1] hm fun w hm=>JF<|eoC 1 (JJ ({ g with de:=v })).toList hm ⟨rfl,hm.touch.below⟩
theorem QHY (g:Rg)(v:Int)(w:World) :
 Calls Tryz.prog 164 #[JH g,.int .i64 3,.int .i64 2,.int .u16 v] w fun e w'=>e=.returned (JH ({ g with ix:=v }))∧Below w.heap.size w w':=by
 go_enter Tryz.func164,Tryz.ntmps164
 refine JB<|qQ [] (Many.begin w) fun w hm=>coS<|coB<|qQ [] hm fun w hm=>coF<|qQ [] hm fun w hm=>coF<|qQ [] hm fun w hm=>coT<|coZ<|qF [0] hm fun w hm=>eoB<|eoT<|qQ [0,1] hm fun w hm=>JF<|eoC 1 (JJ ({ g with ix:=v })).toList hm ⟨rfl,hm.touch.below⟩
theorem QGd (g:Rg)(v:Int)(w:World) :
 Calls Tryz.prog 164 #[JH g,.int .i64 4,.int .i64 2,.int .u16 v] w fun e w'=>e=.returned (JH ({ g with iy:=v }))∧Below w.heap.size w w':=by
 go_enter Tryz.func164,Tryz.ntmps164
 refine JB<|qQ [] (Many.begin w) fun w hm=>coS<|coB<|qQ [] hm fun w hm=>coF<|qQ [] hm fun w hm=>coF<|qQ [] hm fun w hm=>coF<|qQ [] hm fun w hm=>coT<|coZ<|qF [0] hm fun w hm=>eoB<|eoT<|qQ [0,1] hm fun w hm=>JF<|eoC 1 (JJ ({ g with iy:=v })).toList hm ⟨rfl,hm.touch.below⟩
theorem QHC (g:Rg)(p:Int)(h3:p≠3)(h4:p≠4)(v:Int)(w:World) :
 Calls Tryz.prog 164 #[JH g,.int .i64 p,.int .i64 2,.int .u16 v] w fun e w'=>e=.returned (JH ({ g with hl:=v }))∧Below w.heap.size w w':=by
 go_enter Tryz.func164,Tryz.ntmps164
 refine JB<|qQ [] (Many.begin w) fun w hm=>coS<|coB<|qQ [] hm fun w hm=>coF<|qQ [] hm fun w hm=>coF<|qQ [] hm fun w hm=>coK (p==3) (fun h=>by simp at h;omega) fun _=>qQ [] hm fun w hm=>coK (p==4) (fun h=>by simp at h;omega) fun _=>qQ [] hm fun w hm=>coT<|coZ<|qF [0] hm fun w hm=>eoB<|eoT<|qQ [0,1] hm fun w hm=>JF<|eoC 1 (JJ ({ g with hl:=v })).toList hm ⟨rfl,hm.touch.below⟩
theorem QHb (g:Rg)(p:Int)(v:Int)(w:World) :
 Calls Tryz.prog 164 #[JH g,.int .i64 p,.int .i64 3,.int .u16 v] w fun e w'=>e=.returned (JH ({ g with sp:=v }))∧Below w.heap.size w w':=by
 go_enter Tryz.func164,Tryz.ntmps164
 refine JB<|qQ [] (Many.begin w) fun w hm=>coS<|coB<|qQ [] hm fun w hm=>coF<|qQ [] hm fun w hm=>coF<|qQ [] hm fun w hm=>coF<|qQ [] hm fun w hm=>coF<|qQ [] hm fun w hm=>coF<|qQ [] hm fun w hm=>coT<|coZ<|qF [0] hm fun w hm=>eoB<|eoT<|qQ [0,1] hm fun w hm=>JF<|eoC 1 (JJ ({ g with sp:=v })).toList hm ⟨rfl,hm.touch.below⟩
theorem QIc (g:Rg)(p k:Int)(hk:k < 0∨3 < k)(v:Int)(w:World) :
 Calls Tryz.prog 164 #[JH g,.int .i64 p,.int .i64 k,.int .u16 v] w fun e w'=>e=.returned (JH (g))∧Below w.heap.size w w':=by
 have e2:(k==2)=false:=by simp;omega
 go_enter Tryz.func164,Tryz.ntmps164
 refine JB<|qQ [] (Many.begin w) fun w hm=>coS<|coB<|qQ [] hm fun w hm=>coK (k==0) (fun h=>by simp at h;omega) fun _=>qQ [] hm fun w hm=>coK (k==1) (fun h=>by simp at h;omega) fun _=>coR<|qR 3 [] hm fun w hm=>tell 22 e2<|qE [] hm fun w hm=>coF<|coR<|qR 3 [] hm fun w hm=>tell 31 e2<|qE [] hm fun w hm=>coF<|qQ [] hm fun w hm=>coK (k==2) (fun h=>by simp at h;omega) fun _=>qQ [] hm fun w hm=>coK (k==3) (fun h=>by simp at h;omega) fun _=>JC<|eoB<|eoT<|qQ [0,1] hm fun w hm=>JF<|eoC 1 (JJ g).toList hm ⟨rfl,hm.touch.below⟩
theorem XN (g:Rg)(p k v:Int)(w:World) :
 Calls Tryz.prog 164 #[JH g,.int .i64 p,.int .i64 k,.int .u16 v] w fun e w'=>e=.returned (JH (J8 g p k v))∧Below w.heap.size w w':=by
 by_cases hn:k < 0∨3 < k
 · rw[QC3 g p k v hn]
   exact QIc g p k hn v w
 obtain rfl|rfl|rfl|rfl:k=0∨k=1∨k=2∨k=3:=by omega
 · exact QHd g p v w
 · exact QHV g p v w
 · rw[zp]
   by_cases h3:p=3
   · subst h3
     exact QHY g v w
   by_cases h4:p=4
   · subst h4
     exact QGd g v w
   · rw[if_neg h3,if_neg h4]
     exact QHC g p h3 h4 v w
 · exact QHb g p v w
abbrev jK (k:Int):Int:=IntKind.i64.wrap (k.tdiv 2)
theorem QCh (g:Rg)(p k v:Int)(h7:(k==7)=false)(hlo:decide (k < 0)=false)(hhi:decide (k > 5)=false)(hr:(k.tmod 2==0)=true)(hx:Wd16 (Jk g p (jK k)))(hv:B8 v)(w:World) :
 Calls Tryz.prog 157 #[JH g,.int .i64 p,.int .i64 k,.int .u8 v] w fun e w'=>e=.returned (JH (J8 g p (jK k) (256*v+Jk g p (jK k)%256)))∧Below w.heap.size w w':=by
 go_enter Tryz.func157,Tryz.ntmps157
 refine JB<|qQ [] (Many.begin w) fun w hm=>coS<|qQ [] hm fun w hm=>coK (k==7) (fun h=>by rw[h7] at h;cases h) fun _=>JC<|eoT<|coS<|coR<|qR 3 [] hm fun w hm=>tell 21 hlo<|qE [] hm fun w hm=>coK (decide (k > 5)) (fun h=>by rw[hhi] at h;cases h) fun _=>JC<|eoT<|coR<|qR 4 [0] hm fun w hm=>qC (Qo g p (jK k) w) hm fun w hm=>qE [] hm fun w hm=>coS<|qQ [] hm fun w hm=>coJ (k.tmod 2==0) (fun h=>by rw[hr] at h;cases h) fun _ =>
  qP 8 hm fun w hm=>qD 0 [0,1,2,3,4,5] hm<|qDe 6 (Q4 _ hx.1 hx.2 w) hm fun w hm=>qDe 7 (QV v (Jk g p (jK k)%256) hv.1 hv.2 (by have:=hx.1;omega) (by have:=hx.1;omega) w) hm fun w hm=>poE<|qC (XN g p (jK k) (256*v+Jk g p (jK k)%256) w) hm fun w hm=>qE [1] hm fun w hm=>JF<|Jp<|eoC 1 (JJ (J8 g p (jK k) (256*v+Jk g p (jK k)%256))).toList hm ⟨rfl,hm.touch.below⟩
theorem QEK (g:Rg)(p k v:Int)(h7:(k==7)=false)(hlo:decide (k < 0)=false)(hhi:decide (k > 5)=false)(hr:(k.tmod 2==0)=false)(hx:Wd16 (Jk g p (jK k)))(hv:B8 v)(w:World) :
 Calls Tryz.prog 157 #[JH g,.int .i64 p,.int .i64 k,.int .u8 v] w fun e w'=>e=.returned (JH (J8 g p (jK k) (256*(Jk g p (jK k) / 256)+v)))∧Below w.heap.size w w':=by
 go_enter Tryz.func157,Tryz.ntmps157
 refine JB<|qQ [] (Many.begin w) fun w hm=>coS<|qQ [] hm fun w hm=>coK (k==7) (fun h=>by rw[h7] at h;cases h) fun _=>JC<|eoT<|coS<|coR<|qR 3 [] hm fun w hm=>tell 21 hlo<|qE [] hm fun w hm=>coK (decide (k > 5)) (fun h=>by rw[hhi] at h;cases h) fun _=>JC<|eoT<|coR<|qR 4 [0] hm fun w hm=>qC (Qo g p (jK k) w) hm fun w hm=>qE [] hm fun w hm=>coS<|qQ [] hm fun w hm=>coK (k.tmod 2==0) (fun h=>by rw[hr] at h;cases h) fun _=>JC<|eoT <|
  qP 8 hm fun w hm=>qD 0 [0,1,2,3,4,6] hm<|qDe 5 (Xd _ hx.1 hx.2 w) hm fun w hm=>qDe 7 (QV (Jk g p (jK k) / 256) v (by have:=hx.1;omega) (by have:=hx.2;omega) hv.1 hv.2 w) hm fun w hm=>poE<|qC (XN g p (jK k) (256*(Jk g p (jK k) / 256)+v) w) hm fun w hm=>qE [1] hm fun w hm=>JF<|eoC 1 (JJ (J8 g p (jK k) (256*(Jk g p (jK k) / 256)+v))).toList hm ⟨rfl,hm.touch.below⟩
theorem QSe (g:Rg)(p v:Int)(hx:Wd16 g.af)(hv:B8 v)(w:World) :
 Calls Tryz.prog 157 #[JH g,.int .i64 p,.int .i64 7,.int .u8 v] w fun e w'=>e=.returned (JH ({ g with af:=256*v+g.af%256 }))∧Below w.heap.size w w':=by
 go_enter Tryz.func157,Tryz.ntmps157
 refine JB<|qQ [] (Many.begin w) fun w hm=>coS<|qQ [] hm fun w hm=>coT<|coR<|qR 3 [0] hm fun w hm=>qCe (Q4 _ hx.1 hx.2 w)<|qCe (QV v (g.af%256) hv.1 hv.2 (by have:=hx.1;omega) (by have:=hx.1;omega) w)<|qE [0] hm fun w hm=>qQ [0,1] hm fun w hm=>JF<|Jp<|eoC 1 (JJ ({ g with af:=256*v+g.af%256 })).toList hm ⟨rfl,hm.touch.below⟩
theorem QPQ (g:Rg)(p k v:Int)(h7:(k==7)=false)(hlo:decide (k < 0)=true)(w:World) :
 Calls Tryz.prog 157 #[JH g,.int .i64 p,.int .i64 k,.int .u8 v] w fun e w'=>e=.returned (JH (g))∧Below w.heap.size w w':=by
 go_enter Tryz.func157,Tryz.ntmps157
 refine JB<|qQ [] (Many.begin w) fun w hm=>coS<|qQ [] hm fun w hm=>coK (k==7) (fun h=>by rw[h7] at h;cases h) fun _=>JC<|eoT<|coS<|coR<|qR 3 [] hm fun w hm=>tell 21 hlo<|qE [] hm fun w hm=>coT<|qQ [0,1] hm fun w hm=>JF<|Jp<|eoC 1 (JJ (g)).toList hm ⟨rfl,hm.touch.below⟩
theorem QPh (g:Rg)(p k v:Int)(h7:(k==7)=false)(hlo:decide (k < 0)=false)(hhi:decide (k > 5)=true)(w:World) :
 Calls Tryz.prog 157 #[JH g,.int .i64 p,.int .i64 k,.int .u8 v] w fun e w'=>e=.returned (JH (g))∧Below w.heap.size w w':=by
 go_enter Tryz.func157,Tryz.ntmps157
 refine JB<|qQ [] (Many.begin w) fun w hm=>coS<|qQ [] hm fun w hm=>coK (k==7) (fun h=>by rw[h7] at h;cases h) fun _=>JC<|eoT<|coS<|coR<|qR 3 [] hm fun w hm=>tell 21 hlo<|qE [] hm fun w hm=>coJ (decide (k > 5)) (fun h=>by rw[hhi] at h;cases h) fun _=>qQ [0,1] hm fun w hm=>JF<|Jp<|eoC 1 (JJ (g)).toList hm ⟨rfl,hm.touch.below⟩
theorem QOK (g:Rg)(hg:RgB g)(p k v:Int)(hv:B8 v)(w:World) :
 Calls Tryz.prog 157 #[JH g,.int .i64 p,.int .i64 k,.int .u8 v] w fun e w'=>e=.returned (JH (QCF g p k v))∧Below w.heap.size w w':=by
 by_cases hn:k < 0∨k=6∨7 < k
 · rw[QKv g p k v hn]
   have h7:(k==7)=false:=by simp;omega
   by_cases h0:k < 0
   · exact QPQ g p k v h7 (by simpa using h0) w
   · exact QPh g p k v h7 (by simpa using h0) (by simp;omega) w
 obtain rfl|rfl|rfl|rfl|rfl|rfl|rfl:k=0∨k=1∨k=2∨k=3∨k=4∨k=5∨k=7:=by omega
 · exact QCh g p 0 v rfl rfl rfl rfl (hg.pair p 0) hv w
 · exact QEK g p 1 v rfl rfl rfl rfl (hg.pair p 0) hv w
 · exact QCh g p 2 v rfl rfl rfl rfl (hg.pair p 1) hv w
 · exact QEK g p 3 v rfl rfl rfl rfl (hg.pair p 1) hv w
 · exact QCh g p 4 v rfl rfl rfl rfl (hg.pair p 2) hv w
 · exact QEK g p 5 v rfl rfl rfl rfl (hg.pair p 2) hv w
 · exact QSe g p v hg.af hv w
theorem QSp (g:Rg)(p x:Int)(hx:Wd16 x)(he:Jk g p 0=x)(w:World) :
 Calls Tryz.prog 159 #[JH g,.int .i64 p,.int .i64 0] w fun e w'=>e=.returned (.int .u8 (x / 256))∧Below w.heap.size w w':=by
 obtain⟨cs,hcs⟩:∃ cs,cs=JJ g:=⟨_,rfl⟩
 have kp:Hid (∀ W,Calls Tryz.prog 109 #[.agg cs,.int .i64 p,.int .i64 0] W fun e w'=>e=.returned (.int .u16 x)∧Below W.heap.size W w'):=Lib.hid (by rw[hcs,←he];exact fun W=>Qo g p 0 W)
 have kb:=Lib.hid (fun w=>Xd x hx.1 hx.2 w)
 have i24:Hid ((Tryz.prog.info? 24).map (·.size)=some cs.size):=Lib.hid (by rw[hcs];exact ZF)
 show Calls _ _ #[.agg (JJ g),.int .i64 p,.int .i64 0] _ _
 rw[←hcs]
 clear hcs he hx
 have r0:=Row.new w 24 cs
 have HB:=Lib.hid ((Below.refl w.heap.size w).alloc (Nat.le_refl _) (.cells cs 24))
 go_enter Tryz.func159,Tryz.ntmps159
 go_upto_region 1 with (fail)
 generalize w.alloc (.cells cs 24)=W at *
 go_wp2_with (first
  | (refine wpList_load_row rfl 24 _ rfl _ _ _ rfl r0 _ Tryz.underlying24 rfl i24.out ?_)
  | (go_at_call 109;refine (kp.out _).mono ?_;rintro e w' ⟨rfl,hb⟩;have HB2:=Lib.hid (HB.out.trans (hb.mono HB.out.size));clear hb)
  | (go_at_call 68;refine (kb.out _).mono ?_;rintro e w' ⟨rfl,rfl⟩))
 go_ret
 exact⟨rfl,HB2.out⟩
theorem QTI (g:Rg)(p x:Int)(hx:Wd16 x)(he:Jk g p 0=x)(w:World) :
 Calls Tryz.prog 159 #[JH g,.int .i64 p,.int .i64 1] w fun e w'=>e=.returned (.int .u8 (x%256))∧Below w.heap.size w w':=by
 obtain⟨cs,hcs⟩:∃ cs,cs=JJ g:=⟨_,rfl⟩
 have kp:Hid (∀ W,Calls Tryz.prog 109 #[.agg cs,.int .i64 p,.int .i64 0] W fun e w'=>e=.returned (.int .u16 x)∧Below W.heap.size W w'):=Lib.hid (by rw[hcs,←he];exact fun W=>Qo g p 0 W)
 have kb:=Lib.hid (fun w=>Q4 x hx.1 hx.2 w)
 have i24:Hid ((Tryz.prog.info? 24).map (·.size)=some cs.size):=Lib.hid (by rw[hcs];exact ZF)
 show Calls _ _ #[.agg (JJ g),.int .i64 p,.int .i64 1] _ _
 rw[←hcs]
 clear hcs he hx
 have r0:=Row.new w 24 cs
 have HB:=Lib.hid ((Below.refl w.heap.size w).alloc (Nat.le_refl _) (.cells cs 24))
 go_enter Tryz.func159,Tryz.ntmps159
 go_upto_region 1 with (fail)
 generalize w.alloc (.cells cs 24)=W at *
 go_wp2_with (first
  | (refine wpList_load_row rfl 24 _ rfl _ _ _ rfl r0 _ Tryz.underlying24 rfl i24.out ?_)
  | (go_at_call 109;refine (kp.out _).mono ?_;rintro e w' ⟨rfl,hb⟩;have HB2:=Lib.hid (HB.out.trans (hb.mono HB.out.size));clear hb)
  | (go_at_call 69;refine (kb.out _).mono ?_;rintro e w' ⟨rfl,rfl⟩))
 go_ret
 exact⟨rfl,HB2.out⟩
theorem QSa (g:Rg)(p x:Int)(hx:Wd16 x)(he:Jk g p 1=x)(w:World) :
 Calls Tryz.prog 159 #[JH g,.int .i64 p,.int .i64 2] w fun e w'=>e=.returned (.int .u8 (x / 256))∧Below w.heap.size w w':=by
 obtain⟨cs,hcs⟩:∃ cs,cs=JJ g:=⟨_,rfl⟩
 have kp:Hid (∀ W,Calls Tryz.prog 109 #[.agg cs,.int .i64 p,.int .i64 1] W fun e w'=>e=.returned (.int .u16 x)∧Below W.heap.size W w'):=Lib.hid (by rw[hcs,←he];exact fun W=>Qo g p 1 W)
 have kb:=Lib.hid (fun w=>Xd x hx.1 hx.2 w)
 have i24:Hid ((Tryz.prog.info? 24).map (·.size)=some cs.size):=Lib.hid (by rw[hcs];exact ZF)
 show Calls _ _ #[.agg (JJ g),.int .i64 p,.int .i64 2] _ _
 rw[←hcs]
 clear hcs he hx
 have r0:=Row.new w 24 cs
 have HB:=Lib.hid ((Below.refl w.heap.size w).alloc (Nat.le_refl _) (.cells cs 24))
 go_enter Tryz.func159,Tryz.ntmps159
 go_upto_region 1 with (fail)
 generalize w.alloc (.cells cs 24)=W at *
 go_wp2_with (first
  | (refine wpList_load_row rfl 24 _ rfl _ _ _ rfl r0 _ Tryz.underlying24 rfl i24.out ?_)
  | (go_at_call 109;refine (kp.out _).mono ?_;rintro e w' ⟨rfl,hb⟩;have HB2:=Lib.hid (HB.out.trans (hb.mono HB.out.size));clear hb)
  | (go_at_call 68;refine (kb.out _).mono ?_;rintro e w' ⟨rfl,rfl⟩))
 go_ret
 exact⟨rfl,HB2.out⟩
theorem QTJ (g:Rg)(p x:Int)(hx:Wd16 x)(he:Jk g p 1=x)(w:World) :
 Calls Tryz.prog 159 #[JH g,.int .i64 p,.int .i64 3] w fun e w'=>e=.returned (.int .u8 (x%256))∧Below w.heap.size w w':=by
 obtain⟨cs,hcs⟩:∃ cs,cs=JJ g:=⟨_,rfl⟩
 have kp:Hid (∀ W,Calls Tryz.prog 109 #[.agg cs,.int .i64 p,.int .i64 1] W fun e w'=>e=.returned (.int .u16 x)∧Below W.heap.size W w'):=Lib.hid (by rw[hcs,←he];exact fun W=>Qo g p 1 W)
 have kb:=Lib.hid (fun w=>Q4 x hx.1 hx.2 w)
 have i24:Hid ((Tryz.prog.info? 24).map (·.size)=some cs.size):=Lib.hid (by rw[hcs];exact ZF)
 show Calls _ _ #[.agg (JJ g),.int .i64 p,.int .i64 3] _ _
 rw[←hcs]
 clear hcs he hx
 have r0:=Row.new w 24 cs
 have HB:=Lib.hid ((Below.refl w.heap.size w).alloc (Nat.le_refl _) (.cells cs 24))
 go_enter Tryz.func159,Tryz.ntmps159
 go_upto_region 1 with (fail)
 generalize w.alloc (.cells cs 24)=W at *
 go_wp2_with (first
  | (refine wpList_load_row rfl 24 _ rfl _ _ _ rfl r0 _ Tryz.underlying24 rfl i24.out ?_)
  | (go_at_call 109;refine (kp.out _).mono ?_;rintro e w' ⟨rfl,hb⟩;have HB2:=Lib.hid (HB.out.trans (hb.mono HB.out.size));clear hb)
  | (go_at_call 69;refine (kb.out _).mono ?_;rintro e w' ⟨rfl,rfl⟩))
 go_ret
 exact⟨rfl,HB2.out⟩
theorem QTL (g:Rg)(p x:Int)(hx:Wd16 x)(he:Jk g p 2=x)(w:World) :
 Calls Tryz.prog 159 #[JH g,.int .i64 p,.int .i64 4] w fun e w'=>e=.returned (.int .u8 (x / 256))∧Below w.heap.size w w':=by
 obtain⟨cs,hcs⟩:∃ cs,cs=JJ g:=⟨_,rfl⟩
 have kp:Hid (∀ W,Calls Tryz.prog 109 #[.agg cs,.int .i64 p,.int .i64 2] W fun e w'=>e=.returned (.int .u16 x)∧Below W.heap.size W w'):=Lib.hid (by rw[hcs,←he];exact fun W=>Qo g p 2 W)
 have kb:=Lib.hid (fun w=>Xd x hx.1 hx.2 w)
 have i24:Hid ((Tryz.prog.info? 24).map (·.size)=some cs.size):=Lib.hid (by rw[hcs];exact ZF)
 show Calls _ _ #[.agg (JJ g),.int .i64 p,.int .i64 4] _ _
 rw[←hcs]
 clear hcs he hx
 have r0:=Row.new w 24 cs
 have HB:=Lib.hid ((Below.refl w.heap.size w).alloc (Nat.le_refl _) (.cells cs 24))
 go_enter Tryz.func159,Tryz.ntmps159
 go_upto_region 1 with (fail)
 generalize w.alloc (.cells cs 24)=W at *
 go_wp2_with (first
  | (refine wpList_load_row rfl 24 _ rfl _ _ _ rfl r0 _ Tryz.underlying24 rfl i24.out ?_)
  | (go_at_call 109;refine (kp.out _).mono ?_;rintro e w' ⟨rfl,hb⟩;have HB2:=Lib.hid (HB.out.trans (hb.mono HB.out.size));clear hb)
  | (go_at_call 68;refine (kb.out _).mono ?_;rintro e w' ⟨rfl,rfl⟩))
 go_ret
 exact⟨rfl,HB2.out⟩
theorem QS6 (g:Rg)(p x:Int)(hx:Wd16 x)(he:Jk g p 2=x)(w:World) :
 Calls Tryz.prog 159 #[JH g,.int .i64 p,.int .i64 5] w fun e w'=>e=.returned (.int .u8 (x%256))∧Below w.heap.size w w':=by
 obtain⟨cs,hcs⟩:∃ cs,cs=JJ g:=⟨_,rfl⟩
 have kp:Hid (∀ W,Calls Tryz.prog 109 #[.agg cs,.int .i64 p,.int .i64 2] W fun e w'=>e=.returned (.int .u16 x)∧Below W.heap.size W w'):=Lib.hid (by rw[hcs,←he];exact fun W=>Qo g p 2 W)
 have kb:=Lib.hid (fun w=>Q4 x hx.1 hx.2 w)
 have i24:Hid ((Tryz.prog.info? 24).map (·.size)=some cs.size):=Lib.hid (by rw[hcs];exact ZF)
 show Calls _ _ #[.agg (JJ g),.int .i64 p,.int .i64 5] _ _
 rw[←hcs]
 clear hcs he hx
 have r0:=Row.new w 24 cs
 have HB:=Lib.hid ((Below.refl w.heap.size w).alloc (Nat.le_refl _) (.cells cs 24))
 go_enter Tryz.func159,Tryz.ntmps159
 go_upto_region 1 with (fail)
 generalize w.alloc (.cells cs 24)=W at *
 go_wp2_with (first
  | (refine wpList_load_row rfl 24 _ rfl _ _ _ rfl r0 _ Tryz.underlying24 rfl i24.out ?_)
  | (go_at_call 109;refine (kp.out _).mono ?_;rintro e w' ⟨rfl,hb⟩;have HB2:=Lib.hid (HB.out.trans (hb.mono HB.out.size));clear hb)
  | (go_at_call 69;refine (kb.out _).mono ?_;rintro e w' ⟨rfl,rfl⟩))
 go_ret
 exact⟨rfl,HB2.out⟩
theorem QS9 (p:Int)(cs:Array Value)(x:Int)(hx:Wd16 x)(hc:cs[0]? = some (.int .u16 x))(w:World) :
 Calls Tryz.prog 159 #[.agg cs,.int .i64 p,.int .i64 7] w fun e w'=>e=.returned (.int .u8 (x / 256))∧Below w.heap.size w w':=by
 have kb:=Lib.hid (fun w=>Xd x hx.1 hx.2 w)
 have c1:=((Row.new w 24 cs).cell 0).trans hc
 have HB:=Lib.hid ((Below.refl w.heap.size w).alloc (Nat.le_refl _) (.cells cs 24))
 clear hx hc
 go_enter Tryz.func159,Tryz.ntmps159
 go_wp2_with (first
  | (go_at_call 68;refine (kb.out _).mono ?_;rintro e w' ⟨rfl,rfl⟩))
 go_ret
 exact⟨rfl,HB.out⟩
theorem QPv (p k:Int)(hk:k < 0∨k=6∨7 < k)(cs:Array Value)(w:World) :
 Calls Tryz.prog 159 #[.agg cs,.int .i64 p,.int .i64 k] w fun e w'=>e=.returned (.int .u8 0)∧Below w.heap.size w w':=by
 have e7:(k==7)=false:=by simp;omega
 have HB:=Lib.hid ((Below.refl w.heap.size w).alloc (Nat.le_refl _) (.cells cs 24))
 by_cases h0:k < 0
 · clear hk
   go_enter Tryz.func159,Tryz.ntmps159
   go_wp2
   go_ret
   exact⟨rfl,HB.out⟩
 · have h5:5 < k:=by omega
   clear hk
   go_enter Tryz.func159,Tryz.ntmps159
   go_wp2
   go_ret
   exact⟨rfl,HB.out⟩
theorem QOc (g:Rg)(hg:RgB g)(p k:Int)(w:World) :
 Calls Tryz.prog 159 #[JH g,.int .i64 p,.int .i64 k] w fun e w'=>e=.returned (.int .u8 (qd g p k))∧Below w.heap.size w w':=by
 by_cases hn:k < 0∨k=6∨7 < k
 · rw[QLb g p k hn]
   exact QPv p k hn _ w
 obtain rfl|rfl|rfl|rfl|rfl|rfl|rfl:k=0∨k=1∨k=2∨k=3∨k=4∨k=5∨k=7:=by omega
 · exact QSp g p _ (hg.pair p 0) rfl w
 · exact QTI g p _ (hg.pair p 0) rfl w
 · exact QSa g p _ (hg.pair p 1) rfl w
 · exact QTJ g p _ (hg.pair p 1) rfl w
 · exact QTL g p _ (hg.pair p 2) rfl w
 · exact QS6 g p _ (hg.pair p 2) rfl w
 · exact QS9 p _ g.af hg.af rfl w
end Go.Proofs.YtkenebbjodcbcaaGreatDoor
