/- Contracts and facts that the claim's proof wants (several texts in one). -/
import Derived.Lib.LaidTab
import Derived.Lib.ItoaNum
import Derived.FnData
import Derived.Shelf.Strings.Builder1
import Derived.Shelf.Strings.Builder2
import Derived.Shelf.Strings.BuilderF
import Derived.Shelf.Strings.BuilderK
import Derived.Shelf.Strconv.Itoa0
import Derived.Shelf.Strconv.Itoa1
import Derived.Shelf.LaysM
import Derived.Shelf.Strconv.Itoa2
import Derived.Shelf.Strconv.Itoa3
import Derived.Shelf.Strings.Prefix
import Derived.Shelf.Bits.Mul64
import Derived.Shelf.Strings.Repeat
import Derived.Test.YtmgcgiecimnncaaGreatDoorProg
import Derived.LoopN
import Derived.Lib.SlBytesRow
import Derived.Test.YtmgcgiecimnncaaGreatDoorTlG3
namespace Go.Proofs.YtmgcgiecimnncaaGreatDoor
open Go.RowKit
set_option linter.unusedVariables false
set_option linter.unusedSimpArgs false
set_option maxRecDepth 20000
set_option maxHeartbeats 20000000
def dg (k:Int):UInt8:=UInt8.ofNat (if k < 10 then 48+k else 87+k).toNat
def QEw (n:Int):List UInt8:=[dg (n / 16),dg (n%16),104]
def QBC (n:Int):List UInt8:=[dg (n / 4096),dg (n / 256%16),dg (n / 16%16),dg (n%16),104]
def QDj (n:Int):List UInt8:=if n < 10 then [dg n] else if n < 100 then [dg (n / 10),dg (n%10)] else [dg (n / 100),dg (n / 10%10),dg (n%10)]
def ZI (n:Int):List UInt8:=if n < 0 then 45 :: QDj (-n) else 43 :: QDj n
def ixC (p:Int):Nat:=if p=3∨p=5 then 120 else 121
def QBQ (p d:Int):List UInt8:=[40,105,UInt8.ofNat (ixC p)]++(ZI (JL d)++[41])
def toL (m:Int):List UInt8:=36 :: ZI (JL (m%256)+2)
def tok (p d m:Int)(k:Nat):List UInt8:=if k=256 then QEw (m%256) else if k=257 then QBC m else if k=258 then toL m else if k=259 then QBQ p d else [UInt8.ofNat k]
def say (p d m:Int)(l:List Nat):List UInt8:=l.flatMap (tok p d m)
theorem QLy (p d m:Int)(a b:List Nat):say p d m (a++b)=say p d m a++say p d m b:=by simp[say]
theorem QAV (p d m:Int)(k:Nat)(b:List Nat):say p d m (k :: b)=tok p d m k++say p d m b:=by simp[say]
theorem QG5 (p d m:Int):say p d m []=[]:=rfl
def pick (l:List (List Nat))(k:Int):List Nat:=l.getD k.toNat []
def QL:List (List Nat):=[[98],[99],[100],[101],[104],[108],[40,104,108,41],[97]]
def QX:List (List Nat):=[[98,99],[100,101],[104,108],[115,112]]
def Xw:List (List Nat):=[[98,99],[100,101],[104,108],[97,102]]
def QY:List (List Nat):=[[110,122],[122],[110,99],[99],[112,111],[112,101],[112],[109]]
def QBB:List (List Nat):=[[97,100,100,32,97,44],[97,100,99,32,97,44],[115,117,98,32],[115,98,99,32,97,44],[97,110,100,32],[120,111,114,32],[111,114,32],[99,112,32]]
def ZW:List (List Nat):=[[114,108,99],[114,114,99],[114,108],[114,114],[115,108,97],[115,114,97],[115,108,108],[115,114,108]]
def QI7:List (List Nat):=[[48],[48],[49],[50],[48],[48],[49],[50]]
def zl:List (List Nat):=[[48],[49],[50],[51],[52],[53],[54],[55]]
def QFc:List (List Nat):=[[48,48,104],[48,56,104],[49,48,104],[49,56,104],[50,48,104],[50,56,104],[51,48,104],[51,56,104]]
def QJs:List (List Nat):=[[110,111,112],[101,120,32,97,102,44,97,102,39],[100,106,110,122,32,84],[106,114,32,84],[106,114,32,74,44,84],[106,114,32,74,44,84],[106,114,32,74,44,84],[106,114,32,74,44,84]]
def QEX:List (List Nat):=[[108,100,32,80,44,87],[97,100,100,32,72,44,80]]
def QKS:List (List Nat):=[[108,100,32,40,98,99,41,44,97],[108,100,32,97,44,40,98,99,41],[108,100,32,40,100,101,41,44,97],[108,100,32,97,44,40,100,101,41],[108,100,32,40,87,41,44,72],[108,100,32,72,44,40,87,41],[108,100,32,40,87,41,44,97],[108,100,32,97,44,40,87,41]]
def QHe:List (List Nat):=[[105,110,99,32,80],[100,101,99,32,80]]
def QPh:List (List Nat):=[[114,108,99,97],[114,114,99,97],[114,108,97],[114,114,97],[100,97,97],[99,112,108],[115,99,102],[99,99,102]]
def QES:List (List Nat):=[[114,101,116],[101,120,120],[106,112,32,40,72,41],[108,100,32,115,112,44,72]]
def QKV:List (List Nat):=[[106,112,32,87],[112,114,101,102,105,120],[111,117,116,32,40,78,41,44,97],[105,110,32,97,44,40,78,41],[101,120,32,40,115,112,41,44,72],[101,120,32,100,101,44,104,108],[100,105],[101,105]]
def onBitsF:List (List Nat):=[[75,32],[98,105,116,32,89,44],[114,101,115,32,89,44],[115,101,116,32,89,44]]
def QD7:List (List Nat):=[[115,98,99,32,72,44,80],[97,100,99,32,72,44,80]]
def QG0:List (List Nat):=[[108,100,32,40,87,41,44,80],[108,100,32,80,44,40,87,41]]
def zE:List (List Nat):=[[108,100,32,105,44,97],[108,100,32,114,44,97],[108,100,32,97,44,105],[108,100,32,97,44,114],[114,114,100],[114,108,100],[110,111,112,42],[110,111,112,42]]
def QGh:List (List Nat):=[[108,100,105],[108,100,100],[108,100,105,114],[108,100,100,114],[99,112,105],[99,112,100],[99,112,105,114],[99,112,100,114],[105,110,105],[105,110,100],[105,110,105,114],[105,110,100,114],[111,117,116,105],[111,117,116,100],[111,116,105,114],[111,116,100,114]]
def QJ4 (y z q:Int):List Nat:=if z=0 then pick QJs y else if z=1 then pick QEX q else if z=2 then pick QKS y else if z=3 then pick QHe q else if z=4 then [105,110,99,32,82] else if z=5 then [100,101,99,32,82] else if z=6 then [108,100,32,82,44,78] else pick QPh y
def QHD (p q:Int):List Nat:=if q=0 then [112,117,115,104,32,81] else if p=0 then [99,97,108,108,32,87] else [112,114,101,102,105,120]
def QQA (y z p q:Int):List Nat:=if z=0 then [114,101,116,32,67] else if z=1 then (if q=0 then [112,111,112,32,81] else pick QES p) else if z=2 then [106,112,32,67,44,87] else if z=3 then pick QKV y else if z=4 then [99,97,108,108,32,67,44,87] else if z=5 then QHD p q else if z=6 then [65,78] else [114,115,116,32,86]
def QPz (x y z p q:Int):List Nat:=if x=0 then QJ4 y z q else if x=1 then (if y=6∧z=6 then [104,97,108,116] else [108,100,32,82,44,83]) else if x=2 then [65,83] else QQA y z p q
def QQu (x z:Int):List Nat:=if x=1∨z=6 then pick onBitsF x++[73] else pick onBitsF x++[73]++[44,83]
def QG8 (y z q:Int):List Nat:=if z=0 then (if y=6 then [105,110,32,102,44,40,99,41] else [105,110,32,82,44,40,99,41]) else if z=1 then (if y=6 then [111,117,116,32,40,99,41,44,48] else [111,117,116,32,40,99,41,44,82]) else if z=2 then pick QD7 q else if z=3 then pick QG0 q else if z=4 then [110,101,103] else if z=5 then (if y=1 then [114,101,116,105] else [114,101,116,110]) else if z=6 then [105,109,32,77] else pick zE y
def ZJ (x y z q:Int):List Nat:=if x=1 then QG8 y z q else if x=2∧z < 4∧4≤y then pick QGh (4*z+(y-4)) else [110,111,112,42]
def X2 (pl x y z p q:Int):List Nat:=if pl=0∨pl=3∨pl=4 then QPz x y z p q else if pl=1 then pick onBitsF x++[83] else if pl=2 then ZJ x y z q else if pl=5∨pl=6 then QQu x z else [63]
def ixT (p:Int):List Nat:=[105,ixC p]
def XC (pl:Int)(near:Bool)(s:List Nat):List Nat:=if pl=3∨pl=4 then (if s=[104,108] then ixT pl else if s=[40,104,108,41] then [259] else if s=[104]∨s=[108] then (if near then s else ixT pl++s) else s) else s
def opT (pl:Int)(near:Bool)(y z p:Int)(k:Nat):List Nat :=
 if k=82 then XC pl near (pick QL y) else if k=83 then XC pl near (pick QL z) else if k=80 then XC pl near (pick QX p) else if k=81 then XC pl near (pick Xw p)
 else if k=72 then XC pl near [104,108] else if k=73 then [259] else if k=67 then pick QY y else if k=74 then pick QY (y%4) else if k=65 then pick QBB y else if k=75 then pick ZW y
 else if k=77 then pick QI7 y else if k=89 then pick zl y else if k=86 then pick QFc y else if k=78 then [256] else if k=87 then [257] else if k=84 then [258] else [k]
def j6 (pl c:Int):List Nat:=(X2 pl (fx c) (fy c) (fz c) (fp c) (fq c)).flatMap (opT pl (JP pl c) (fy c) (fz c) (fp c))
def on (pl:Int):Bool:=pl==3||pl==4
def ZQ (pl:Int)(near:Bool)(k:Int):List Nat:=if on pl&&k==6 then [259] else if on pl&&!near&&(k==4||k==5) then ixT pl++pick QL k else pick QL k
def pairT (pl k:Int)(last:List Nat):List Nat:=if on pl&&k==2 then ixT pl else pick [[98,99],[100,101],[104,108],last] k
def qz (pl:Int)(near:Bool)(y z p q:Int):List Nat :=
 if z=0 then (if y < 4 then pick [[110,111,112],[101,120,32,97,102,44,97,102,39],[100,106,110,122,32]++[258],[106,114,32]++[258]] y else [106,114,32]++pick QY (y-4)++[44]++[258])
 else if z=1 then (if q=0 then [108,100,32]++pairT pl p [115,112]++[44]++[257] else [97,100,100,32]++pairT pl 2 [115,112]++[44]++pairT pl p [115,112])
 else if z=2 then pick [[108,100,32,40,98,99,41,44,97],[108,100,32,97,44,40,98,99,41],[108,100,32,40,100,101,41,44,97],[108,100,32,97,44,40,100,101,41],[108,100,32]++([40]++[257]++[41])++[44]++pairT pl 2 [115,112],[108,100,32]++pairT pl 2 [115,112]++[44]++([40]++[257]++[41]),[108,100,32]++([40]++[257]++[41])++[44,97],[108,100,32,97,44]++([40]++[257]++[41])] y
 else if z=3 then pick [[105,110,99,32],[100,101,99,32]] q++pairT pl p [115,112]
 else if z=4 then [105,110,99,32]++ZQ pl near y else if z=5 then [100,101,99,32]++ZQ pl near y else if z=6 then [108,100,32]++ZQ pl near y++[44]++[256] else pick QPh y
def ZS (pl:Int)(y z p q:Int):List Nat :=
 if z=0 then [114,101,116,32]++pick QY y
 else if z=1 then (if q=0 then [112,111,112,32]++pairT pl p [97,102] else pick [[114,101,116],[101,120,120],[106,112,32,40]++pairT pl 2 [115,112]++[41],[108,100,32,115,112,44]++pairT pl 2 [115,112]] p)
 else if z=2 then [106,112,32]++pick QY y++[44]++[257]
 else if z=3 then pick [[106,112,32]++[257],[112,114,101,102,105,120],[111,117,116,32,40]++[256]++[41,44,97],[105,110,32,97,44,40]++[256]++[41],[101,120,32,40,115,112,41,44]++pairT pl 2 [115,112],[101,120,32,100,101,44,104,108],[100,105],[101,105]] y
 else if z=4 then [99,97,108,108,32]++pick QY y++[44]++[257]
 else if z=5 then (if q=0 then [112,117,115,104,32]++pairT pl p [97,102] else if p=0 then [99,97,108,108,32]++[257] else [112,114,101,102,105,120])
 else if z=6 then pick QBB y++[256] else [114,115,116,32]++pick QFc y
def QBE (pl x y z:Int):List Nat :=
 let r:=if pl=1 then pick QL z else if x≠1∧z≠6 then [259]++[44]++pick QL z else [259]
 if x=0 then pick ZW y++[32]++r else pick [[],[98,105,116,32],[114,101,115,32],[115,101,116,32]] x++pick zl y++[44]++r
def edT (x y z p q:Int):List Nat :=
 if x=2∧z < 4∧3 < y then (if z=3∧y < 6 then [111,117,116] else pick [[108,100],[99,112],[105,110],[111,116]] z)++pick [[105],[100],[105,114],[100,114]] (y-4)
 else if x≠1 then [110,111,112,42]
 else if z=0 then [105,110,32]++(if y=6 then [102] else pick QL y)++[44,40,99,41]
 else if z=1 then [111,117,116,32,40,99,41,44]++(if y=6 then [48] else pick QL y)
 else if z=2 then pick [[115,98,99,32,104,108,44],[97,100,99,32,104,108,44]] q++pick QX p
 else if z=3 then (if q=0 then [108,100,32,40]++[257]++[41,44]++pick QX p else [108,100,32]++pick QX p++[44,40]++[257]++[41])
 else if z=4 then [110,101,103] else if z=5 then (if y=1 then [114,101,116,105] else [114,101,116,110]) else if z=6 then [105,109,32]++pick [[48],[48],[49],[50]] (y%4) else pick zE y
def jL (pl c:Int):List Nat :=
 if pl=1∨pl=5∨pl=6 then QBE pl (fx c) (fy c) (fz c) else if pl=2 then edT (fx c) (fy c) (fz c) (fp c) (fq c)
 else if pl=0∨pl=3∨pl=4 then (if fx c=0 then qz pl (JP pl c) (fy c) (fz c) (fp c) (fq c) else if fx c=1 then (if fy c=6∧fz c=6 then [104,97,108,116] else [108,100,32]++ZQ pl (JP pl c) (fy c)++[44]++ZQ pl (JP pl c) (fz c)) else if fx c=2 then pick QBB (fy c)++ZQ pl (JP pl c) (fz c) else ZS pl (fy c) (fz c) (fp c) (fq c))
 else [63]
theorem QOS:∀ (p:Fin 7) (c:Fin 256),j6 (p.val:Int) (c.val:Int)=jL (p.val:Int) (c.val:Int):=by decide +kernel
theorem QMP (pl c:Int)(hc:B8 c):j6 pl c=jL pl c:=by
 by_cases h:0≤pl∧pl≤6
 · refine Ji (P:=fun c=>j6 pl c=jL pl c) (fun x=>?_) c hc.1 hc.2
   have:=QOS ⟨pl.toNat,by omega⟩ x
   rwa [show ((⟨pl.toNat,by omega⟩:Fin 7).val:Int)=pl by show (pl.toNat:Int)=pl;omega] at this
 · have e:X2 pl (fx c) (fy c) (fz c) (fp c) (fq c)=[63]:=by unfold X2;rw[if_neg (by omega),if_neg (by omega),if_neg (by omega),if_neg (by omega)]
   unfold j6 jL
   rw[e,if_neg (by omega),if_neg (by omega),if_neg (by omega)]
   rfl
def sb (l:List Nat):ByteArray:=⟨(l.map UInt8.ofNat).toArray⟩
def Tab (w:World)(name:String)(l:List (List Nat)):Prop:=w.var? Tryz.prog name=some (l.map (fun x=>Value.string (sb x))).toArray
theorem Jq {P:Program} {w w':World} {name:String} {cs:Array Value}(h:w.var? P name=some cs)(k:Below w.heap.size w w'):w'.var? P name=some cs:=by
 unfold World.var? at h ⊢
 obtain⟨g,hg,h⟩:=Option.bind_eq_some_iff.1 h
 rw[hg,Option.bind_some]
 have hlt:g < w.heap.size:=by
  rcases Nat.lt_or_ge g w.heap.size with e|e
  · exact e
  · rw[Array.getElem?_eq_none e] at h;cases h
 rw[k.block g hlt]
 exact h
theorem Tab.at_ {w:World} {name:String} {l:List (List Nat)} {g:Nat}(h:Tab w name l)(hg:Tryz.prog.globalNamed name=some g)(i:Nat)(hi:i < l.length):w.cell? ⟨g,i,none⟩=some (.string (sb (pick l (i:Int)))):=by
 rw[World.var?_cell hg h i]
 simp[pick,hi]
theorem Tab.of {w:World} {name:String} {l:List (List Nat)} {g:Nat}(h:Tab w name l)(hg:Tryz.prog.globalNamed name=some g)(i:Int)(h0:0≤i)(h1:i < l.length):w.cell? ⟨g,i.toNat,none⟩=some (.string (sb (pick l i))):=by
 have:=h.at_ hg i.toNat (by omega)
 rwa [show ((i.toNat:Nat):Int)=i by omega] at this
structure TextTabs (w:World):Prop where
 regs:Tab w "charabanc/text.registers" QL
 pairs:Tab w "charabanc/text.pairs" QX
 stacked:Tab w "charabanc/text.stacked" Xw
 conds:Tab w "charabanc/text.conditions" QY
 sums:Tab w "charabanc/text.arithmetic" QBB
 shifts:Tab w "charabanc/text.shifts" ZW
 modes:Tab w "charabanc/text.modes" QI7
 jumps:Tab w "charabanc/text.jumps" QJs
 ofPairs:Tab w "charabanc/text.ofPairs" QEX
 moves:Tab w "charabanc/text.moves" QKS
 counts:Tab w "charabanc/text.counts" QHe
 onA:Tab w "charabanc/text.onA" QPh
 returns:Tab w "charabanc/text.returns" QES
 mixed:Tab w "charabanc/text.mixed" QKV
 onBits:Tab w "charabanc/text.onBits" onBitsF
 carried:Tab w "charabanc/text.carried" QD7
 stores:Tab w "charabanc/text.stores" QG0
 special:Tab w "charabanc/text.special" zE
 blocks:Tab w "charabanc/text.blocks" QGh
 pow:Lib.TabIs Tryz.prog w "internal/strconv.uint64pow10" .u64 Lib.pow10Tab
 bru:w.cell? ⟨23,15,none⟩=some (.int .u8 4)
theorem TextTabs.below {w w':World}(h:TextTabs w)(k:Below w.heap.size w w'):TextTabs w' :=
 ⟨Jq h.regs k,Jq h.pairs k,Jq h.stacked k,Jq h.conds k,Jq h.sums k,Jq h.shifts k,Jq h.modes k,Jq h.jumps k,Jq h.ofPairs k,Jq h.moves k,Jq h.counts k,Jq h.onA k,Jq h.returns k,Jq h.mixed k,Jq h.onBits k,Jq h.carried k,Jq h.stores k,Jq h.special k,Jq h.blocks k,Jq h.pow k,cell_kept h.bru k⟩
theorem QGc:Tryz.prog.globalNamed "charabanc/text.registers"=some 3:=by kernel_rfl
theorem QLU:Tryz.prog.globalNamed "charabanc/text.pairs"=some 4:=by kernel_rfl
theorem QGE:Tryz.prog.globalNamed "charabanc/text.stacked"=some 5:=by kernel_rfl
theorem QME:Tryz.prog.globalNamed "charabanc/text.conditions"=some 6:=by kernel_rfl
theorem QVD:Tryz.prog.globalNamed "charabanc/text.arithmetic"=some 7:=by kernel_rfl
theorem QQa:Tryz.prog.globalNamed "charabanc/text.shifts"=some 8:=by kernel_rfl
theorem QRk:Tryz.prog.globalNamed "charabanc/text.modes"=some 9:=by kernel_rfl
theorem QRN:Tryz.prog.globalNamed "charabanc/text.jumps"=some 12:=by kernel_rfl
theorem QNm:Tryz.prog.globalNamed "charabanc/text.ofPairs"=some 13:=by kernel_rfl
theorem QSY:Tryz.prog.globalNamed "charabanc/text.moves"=some 14:=by kernel_rfl
theorem QOv:Tryz.prog.globalNamed "charabanc/text.counts"=some 15:=by kernel_rfl
theorem QW0:Tryz.prog.globalNamed "charabanc/text.onA"=some 16:=by kernel_rfl
theorem QMk:Tryz.prog.globalNamed "charabanc/text.returns"=some 17:=by kernel_rfl
theorem QRl:Tryz.prog.globalNamed "charabanc/text.mixed"=some 18:=by kernel_rfl
theorem QJT:Tryz.prog.globalNamed "charabanc/text.onBits"=some 1:=by kernel_rfl
theorem QNz:Tryz.prog.globalNamed "charabanc/text.carried"=some 19:=by kernel_rfl
theorem QP5:Tryz.prog.globalNamed "charabanc/text.stores"=some 20:=by kernel_rfl
theorem QMh:Tryz.prog.globalNamed "charabanc/text.special"=some 21:=by kernel_rfl
theorem QQY:Tryz.prog.globalNamed "charabanc/text.blocks"=some 10:=by kernel_rfl
theorem QLr (l:List Nat):(sb l).size=l.length:=by
 show (l.map UInt8.ofNat).toArray.size=_
 simp
theorem QO0 (a b:List Nat):sb a++sb b=sb (a++b):=by
 apply ByteArray.ext
 simp[sb]
section
open Go.Shelf Go.RowKit
def Sh.lays169_ren:Go.Shelf.Ren:=⟨fun|169=>59|n=>n,fun|70=>89|9=>9|0=>0|72=>91|37=>26|127=>131|3=>3|5=>5|n=>n,fun|n=>n⟩
theorem Sh.lays169:Go.Proofs.Lays.n169 Tryz.prog Sh.lays169_ren:={
 mixed:=by kernel_rfl
 f169:=Tryz.func59.trans (congrArg some (by kernel_rfl))
 t0:=Tryz.underlying0
 a0:=Tryz.isAgg0
 z0:=Tryz.sizeOf0
 v0:=Tryz.zeroValue0
 t3:=Tryz.underlying3
 a3:=Tryz.isAgg3
 z3:=Tryz.sizeOf3
 v3:=Tryz.zeroValue3
 t9:=Tryz.underlying9
 a9:=Tryz.isAgg9
 z9:=Tryz.sizeOf9
 v9:=Tryz.zeroValue9
 t37:=Tryz.underlying26
 a37:=Tryz.isAgg26
 z37:=Tryz.sizeOf26
 v37:=Tryz.zeroValue26
 t70:=Tryz.underlying89
 a70:=Tryz.isAgg89
 z70:=Tryz.sizeOf89
 v70:=Tryz.zeroValue89
 t72:=Tryz.underlying91
 a72:=Tryz.isAgg91
 z72:=Tryz.sizeOf91
 v72:=Tryz.zeroValue91
 t127:=Tryz.underlying131
 a127:=Tryz.isAgg131
 z127:=Tryz.sizeOf131
 v127:=Tryz.zeroValue131 }
theorem Sh.Builder_Extra_169:Builder.Extra Tryz.prog Sh.lays169_ren:={
 sizeBuilder:=by kernel_rfl
 liesBuilder:=by kernel_rfl
 t5:=Tryz.underlying5
 a5:=Tryz.isAgg5
 z5:=Tryz.sizeOf5
 v5:=Tryz.zeroValue5
 infoByte:=by kernel_rfl
 cellsByte:=by kernel_rfl
 sizeByte:=by kernel_rfl
 neB5:=by decide }
theorem Sh.Builder_String_any_k (B b:Nat)(l:List UInt8)(w:World)(h:Lib.IsBuilderF 91 5 B b (Lib.byteCells l) w)(hBw:B≤w.heap.size) :
 Calls Tryz.prog 59 #[.pointer (some ⟨b,0,none⟩)] w fun e w'=>e=.returned (.string ⟨l.toArray⟩)∧(Lib.IsBuilderF 91 5 B b (Lib.byteCells l) w'∧Below B w w'∧Lib.OthersKept 5 (some b) w w'):=Any.Builder_String_any_k Sh.lays169 Sh.Builder_Extra_169 B b l w h hBw
def Sh.laysM171_ren:Go.Shelf.Ren:=⟨fun|171=>26|243=>50|246=>81|283=>85|284=>86|285=>87|286=>88|129=>110|317=>109|318=>111|319=>112|320=>113|337=>130|338=>131|n=>n,fun|3=>3|9=>9|2=>2|4=>4|171=>121|0=>0|53=>60|37=>26|5=>5|173=>124|212=>145|51=>126|20=>20|213=>146|46=>85|232=>178|233=>179|n=>n,fun|17=>2|18=>22|19=>23|n=>n⟩
theorem Sh.laysM171:Go.Proofs.LaysM.n171 Tryz.prog Sh.laysM171_ren:={
 mixed:=by kernel_rfl
 f129:=Tryz.func110.trans (congrArg some (by kernel_rfl))
 f171:=Tryz.func26.trans (congrArg some (by kernel_rfl))
 f243:=Tryz.func50.trans (congrArg some (by kernel_rfl))
 f246:=Tryz.func81.trans (congrArg some (by kernel_rfl))
 f283:=Tryz.func85.trans (congrArg some (by kernel_rfl))
 f284:=Tryz.func86.trans (congrArg some (by kernel_rfl))
 f285:=Tryz.func87.trans (congrArg some (by kernel_rfl))
 f286:=Tryz.func88.trans (congrArg some (by kernel_rfl))
 f317:=Tryz.func109.trans (congrArg some (by kernel_rfl))
 f318:=Tryz.func111.trans (congrArg some (by kernel_rfl))
 f319:=Tryz.func112.trans (congrArg some (by kernel_rfl))
 f320:=Tryz.func113.trans (congrArg some (by kernel_rfl))
 f337:=Tryz.func130.trans (congrArg some (by kernel_rfl))
 f338:=Tryz.func131.trans (congrArg some (by kernel_rfl))
 t0:=Tryz.underlying0
 a0:=Tryz.isAgg0
 z0:=Tryz.sizeOf0
 v0:=Tryz.zeroValue0
 t2:=Tryz.underlying2
 a2:=Tryz.isAgg2
 z2:=Tryz.sizeOf2
 v2:=Tryz.zeroValue2
 t3:=Tryz.underlying3
 a3:=Tryz.isAgg3
 z3:=Tryz.sizeOf3
 v3:=Tryz.zeroValue3
 t4:=Tryz.underlying4
 a4:=Tryz.isAgg4
 z4:=Tryz.sizeOf4
 v4:=Tryz.zeroValue4
 t5:=Tryz.underlying5
 a5:=Tryz.isAgg5
 z5:=Tryz.sizeOf5
 v5:=Tryz.zeroValue5
 t9:=Tryz.underlying9
 a9:=Tryz.isAgg9
 z9:=Tryz.sizeOf9
 v9:=Tryz.zeroValue9
 t20:=Tryz.underlying20
 a20:=Tryz.isAgg20
 z20:=Tryz.sizeOf20
 v20:=Tryz.zeroValue20
 t37:=Tryz.underlying26
 a37:=Tryz.isAgg26
 z37:=Tryz.sizeOf26
 v37:=Tryz.zeroValue26
 t46:=Tryz.underlying85
 a46:=Tryz.isAgg85
 z46:=Tryz.sizeOf85
 v46:=Tryz.zeroValue85
 t51:=Tryz.underlying126
 a51:=Tryz.isAgg126
 z51:=Tryz.sizeOf126
 v51:=Tryz.zeroValue126
 t53:=Tryz.underlying60
 a53:=Tryz.isAgg60
 z53:=Tryz.sizeOf60
 v53:=Tryz.zeroValue60
 t171:=Tryz.underlying121
 a171:=Tryz.isAgg121
 z171:=Tryz.sizeOf121
 v171:=Tryz.zeroValue121
 t173:=Tryz.underlying124
 a173:=Tryz.isAgg124
 z173:=Tryz.sizeOf124
 v173:=Tryz.zeroValue124
 t212:=Tryz.underlying145
 a212:=Tryz.isAgg145
 z212:=Tryz.sizeOf145
 v212:=Tryz.zeroValue145
 t213:=Tryz.underlying146
 a213:=Tryz.isAgg146
 z213:=Tryz.sizeOf146
 t232:=Tryz.underlying178
 a232:=Tryz.isAgg178
 z232:=Tryz.sizeOf178
 v232:=Tryz.zeroValue178
 t233:=Tryz.underlying179
 a233:=Tryz.isAgg179
 z233:=Tryz.sizeOf179
 v233:=Tryz.zeroValue179
 g17:=by kernel_rfl
 g18:=by kernel_rfl
 g19:=by kernel_rfl
 i0:=by kernel_rfl
 i2:=by kernel_rfl
 i3:=by kernel_rfl
 i4:=by kernel_rfl
 i5:=by kernel_rfl
 i9:=by kernel_rfl
 i20:=by kernel_rfl
 i37:=by kernel_rfl
 i46:=by kernel_rfl
 i51:=by kernel_rfl
 i53:=by kernel_rfl
 i171:=by kernel_rfl
 i173:=by kernel_rfl
 i212:=by kernel_rfl
 i232:=by kernel_rfl
 i233:=by kernel_rfl
 m17:=by kernel_rfl
 m18:=by kernel_rfl
 m19:=by kernel_rfl }
open Go.RowKit Go.Sort Go.Lib in
theorem Sh.strconv_Itoa (n:Int)(h0:-9223372036854775808≤n)(h1:n≤9223372036854775807)(w:World)(htab:Lib.TabIs Tryz.prog w "internal/strconv.uint64pow10" .u64 Lib.pow10Tab) :
 Calls Tryz.prog 26 #[.int .i64 n] w fun e w'=>e=.returned (.string ⟨(Lib.itoa n).toArray⟩)∧∃ k os,w'=grow (w.drewN k) os:=Any.strconv_Itoa Sh.laysM171 n h0 h1 w htab
open Go.RowKit Go.Sort Go.Lib in
def Sh.lays105_ren:Go.Shelf.Ren:=⟨fun|105=>31|212=>54|99=>55|165=>56|166=>57|170=>58|169=>59|263=>89|264=>90|206=>91|240=>92|241=>93|276=>114|277=>115|n=>n,fun|9=>9|3=>3|4=>4|20=>20|0=>0|46=>85|109=>86|5=>5|72=>91|76=>95|51=>126|146=>127|53=>60|148=>129|70=>89|37=>26|75=>94|127=>131|164=>148|80=>98|n=>n,fun|n=>n⟩
theorem Sh.lays105:Go.Proofs.Lays.n105 Tryz.prog Sh.lays105_ren:={
 mixed:=by kernel_rfl
 f99:=Tryz.func55.trans (congrArg some (by kernel_rfl))
 f105:=Tryz.func31.trans (congrArg some (by kernel_rfl))
 f165:=Tryz.func56.trans (congrArg some (by kernel_rfl))
 f166:=Tryz.func57.trans (congrArg some (by kernel_rfl))
 f169:=Tryz.func59.trans (congrArg some (by kernel_rfl))
 f170:=Tryz.func58.trans (congrArg some (by kernel_rfl))
 f206:=Tryz.func91.trans (congrArg some (by kernel_rfl))
 f212:=Tryz.func54.trans (congrArg some (by kernel_rfl))
 f240:=Tryz.func92.trans (congrArg some (by kernel_rfl))
 f241:=Tryz.func93.trans (congrArg some (by kernel_rfl))
 f263:=Tryz.func89.trans (congrArg some (by kernel_rfl))
 f264:=Tryz.func90.trans (congrArg some (by kernel_rfl))
 f276:=Tryz.func114.trans (congrArg some (by kernel_rfl))
 f277:=Tryz.func115.trans (congrArg some (by kernel_rfl))
 t0:=Tryz.underlying0
 a0:=Tryz.isAgg0
 z0:=Tryz.sizeOf0
 v0:=Tryz.zeroValue0
 t3:=Tryz.underlying3
 a3:=Tryz.isAgg3
 z3:=Tryz.sizeOf3
 v3:=Tryz.zeroValue3
 t4:=Tryz.underlying4
 a4:=Tryz.isAgg4
 z4:=Tryz.sizeOf4
 v4:=Tryz.zeroValue4
 t5:=Tryz.underlying5
 a5:=Tryz.isAgg5
 z5:=Tryz.sizeOf5
 v5:=Tryz.zeroValue5
 t9:=Tryz.underlying9
 a9:=Tryz.isAgg9
 z9:=Tryz.sizeOf9
 v9:=Tryz.zeroValue9
 t20:=Tryz.underlying20
 a20:=Tryz.isAgg20
 z20:=Tryz.sizeOf20
 v20:=Tryz.zeroValue20
 t37:=Tryz.underlying26
 a37:=Tryz.isAgg26
 z37:=Tryz.sizeOf26
 v37:=Tryz.zeroValue26
 t46:=Tryz.underlying85
 a46:=Tryz.isAgg85
 z46:=Tryz.sizeOf85
 v46:=Tryz.zeroValue85
 t51:=Tryz.underlying126
 a51:=Tryz.isAgg126
 z51:=Tryz.sizeOf126
 v51:=Tryz.zeroValue126
 t53:=Tryz.underlying60
 a53:=Tryz.isAgg60
 z53:=Tryz.sizeOf60
 v53:=Tryz.zeroValue60
 t70:=Tryz.underlying89
 a70:=Tryz.isAgg89
 z70:=Tryz.sizeOf89
 v70:=Tryz.zeroValue89
 t72:=Tryz.underlying91
 a72:=Tryz.isAgg91
 z72:=Tryz.sizeOf91
 v72:=Tryz.zeroValue91
 t75:=Tryz.underlying94
 a75:=Tryz.isAgg94
 z75:=Tryz.sizeOf94
 v75:=Tryz.zeroValue94
 t76:=Tryz.underlying95
 a76:=Tryz.isAgg95
 z76:=Tryz.sizeOf95
 v76:=Tryz.zeroValue95
 t109:=Tryz.underlying86
 a109:=Tryz.isAgg86
 z109:=Tryz.sizeOf86
 v109:=Tryz.zeroValue86
 t127:=Tryz.underlying131
 a127:=Tryz.isAgg131
 z127:=Tryz.sizeOf131
 v127:=Tryz.zeroValue131
 t146:=Tryz.underlying127
 a146:=Tryz.isAgg127
 z146:=Tryz.sizeOf127
 v146:=Tryz.zeroValue127
 t148:=Tryz.underlying129
 a148:=Tryz.isAgg129
 z148:=Tryz.sizeOf129
 v148:=Tryz.zeroValue129
 t164:=Tryz.underlying148
 a164:=Tryz.isAgg148
 z164:=Tryz.sizeOf148
 v164:=Tryz.zeroValue148 }
theorem Sh.Builder_Extra_105:Builder.Extra Tryz.prog Sh.lays105_ren:={
 sizeBuilder:=by kernel_rfl
 liesBuilder:=by kernel_rfl
 t5:=Tryz.underlying5
 a5:=Tryz.isAgg5
 z5:=Tryz.sizeOf5
 v5:=Tryz.zeroValue5
 infoByte:=by kernel_rfl
 cellsByte:=by kernel_rfl
 sizeByte:=by kernel_rfl
 neB5:=by decide }
open Go.RowKit Go.Lib in
theorem Sh.strings_Repeat (s:ByteArray)(c:Nat)(w:World)(hc:c≤9223372036854775807)(hlen:s.size*c≤140737488355328) :
 Calls Tryz.prog 31 #[.string s,.int .i64 c] w fun e w'=>e=.returned (.string ⟨(Lib.repeatL s.data.toList c).toArray⟩)∧Below w.heap.size w w':=Any.strings_Repeat Sh.lays105 Sh.Builder_Extra_105 s c w hc hlen
def Sh.lays166_ren:Go.Shelf.Ren:=⟨fun|166=>57|240=>92|276=>114|n=>n,fun|0=>0|3=>3|4=>4|5=>5|9=>9|20=>20|37=>26|70=>89|72=>91|75=>94|164=>148|80=>98|n=>n,fun|n=>n⟩
theorem Sh.lays166:Go.Proofs.Lays.n166 Tryz.prog Sh.lays166_ren:={
 mixed:=by kernel_rfl
 f166:=Tryz.func57.trans (congrArg some (by kernel_rfl))
 f240:=Tryz.func92.trans (congrArg some (by kernel_rfl))
 f276:=Tryz.func114.trans (congrArg some (by kernel_rfl))
 t0:=Tryz.underlying0
 a0:=Tryz.isAgg0
 z0:=Tryz.sizeOf0
 v0:=Tryz.zeroValue0
 t3:=Tryz.underlying3
 a3:=Tryz.isAgg3
 z3:=Tryz.sizeOf3
 v3:=Tryz.zeroValue3
 t4:=Tryz.underlying4
 a4:=Tryz.isAgg4
 z4:=Tryz.sizeOf4
 v4:=Tryz.zeroValue4
 t9:=Tryz.underlying9
 a9:=Tryz.isAgg9
 z9:=Tryz.sizeOf9
 v9:=Tryz.zeroValue9
 t20:=Tryz.underlying20
 a20:=Tryz.isAgg20
 z20:=Tryz.sizeOf20
 v20:=Tryz.zeroValue20
 t37:=Tryz.underlying26
 a37:=Tryz.isAgg26
 z37:=Tryz.sizeOf26
 v37:=Tryz.zeroValue26
 t70:=Tryz.underlying89
 a70:=Tryz.isAgg89
 z70:=Tryz.sizeOf89
 v70:=Tryz.zeroValue89
 t72:=Tryz.underlying91
 a72:=Tryz.isAgg91
 z72:=Tryz.sizeOf91
 v72:=Tryz.zeroValue91
 t75:=Tryz.underlying94
 a75:=Tryz.isAgg94
 z75:=Tryz.sizeOf94
 v75:=Tryz.zeroValue94
 t164:=Tryz.underlying148
 a164:=Tryz.isAgg148
 z164:=Tryz.sizeOf148
 v164:=Tryz.zeroValue148 }
theorem Sh.Builder_Extra_166:Builder.Extra Tryz.prog Sh.lays166_ren:={
 sizeBuilder:=by kernel_rfl
 liesBuilder:=by kernel_rfl
 t5:=Tryz.underlying5
 a5:=Tryz.isAgg5
 z5:=Tryz.sizeOf5
 v5:=Tryz.zeroValue5
 infoByte:=by kernel_rfl
 cellsByte:=by kernel_rfl
 sizeByte:=by kernel_rfl
 neB5:=by decide }
theorem Sh.Builder_WriteString_k (B b:Nat)(bs:List Value)(s:ByteArray)(w:World)(h:Lib.IsBuilderF 91 5 B b bs w)(hlen:bs.length+s.size≤140737488355328)(hBw:B≤w.heap.size) :
 Calls Tryz.prog 57 #[.pointer (some ⟨b,0,none⟩),.string s] w fun e w'=>e=.returned (.tuple #[.int .i64 s.size,.nilIface])∧(Lib.BuilderAtF 91 5 B b (.pointer (some ⟨b,0,none⟩)) (bs++Lib.strCells s) w'∧Below B w w'∧Lib.OthersKept 5 (some b) w w'):=Any.Builder_WriteString_k Sh.lays166 Sh.Builder_Extra_166 B b bs s w h hlen hBw
end
theorem QHJ (w:World)(h:w.cell? ⟨23,15,none⟩=some (.int .u8 4)) :
 Calls Tryz.prog 113 #[.int .u64 16] w fun e w'=>e=.returned (.int .i64 4)∧w=w':=by
 have k1:bits BinOp.and IntKind.u64 16 (IntKind.u64.wrap (-16))=16:=by decide +kernel
 go_enter Tryz.func113,Tryz.ntmps113
 go_wp2
 go_ret
 exact⟨rfl,rfl⟩
theorem QGp (w:World) :
 Calls Tryz.prog 112 #[.int .i64 16] w fun e w'=>e=.returned (.bool true)∧w=w':=by
 have k1:(bits BinOp.and IntKind.i64 16 15==0)=true:=by decide +kernel
 go_enter Tryz.func112,Tryz.ntmps112
 go_wp2
 go_ret
 exact⟨by first|rfl|rw[k1],rfl⟩
def allDigits:ByteArray:=⟨#[48,49,50,51,52,53,54,55,56,57,97,98,99,100,101,102,103,104,105,106,107,108,109,110,111,112,113,114,115,116,117,118,119,120,121,122]⟩
theorem QNf:∀ x:Fin 16,allDigits.data[x.val]? = some (dg (x.val:Int)):=by decide +kernel
theorem qS (q:IntKind)(k:Int)(h0:0≤k)(h1:k < 16)(W:World):(Instr.index 9 (.string ⟨#[48,49,50,51,52,53,54,55,56,57,97,98,99,100,101,102,103,104,105,106,107,108,109,110,111,112,113,114,115,116,117,118,119,120,121,122]⟩) (.int q k)).run Tryz.prog W=.ok (.int .u8 ((dg k).toNat:Int)) W:=by
 rw[run_index_string (h:=Tryz.underlying9),dif_pos ⟨h0,by show k < ((36:Nat):Int);omega⟩]
 have:=QNf ⟨k.toNat,by omega⟩
 rw[show (((⟨k.toNat,by omega⟩:Fin 16).val:Nat):Int)=k by show (k.toNat:Int)=k;omega] at this
 have hb:k.toNat < allDigits.data.size:=by show k.toNat < 36;omega
 rw[Array.getElem?_eq_getElem hb] at this
 rw[←Option.some.inj this]
 rfl
theorem QAk (w:World)(cs:Array Value)(t:TypeId)(i:Nat)(l:List UInt8)(n cap:Nat)(hn:l.length=n)(h:∀ (j:Nat) (hj:j < l.length),cs[i+j]? = some (.int .u8 ((l[j]'hj).toNat:Int))) :
 (convert 26 9 (.slice (some ⟨w.heap.size,i,none⟩) n cap)).run Tryz.prog (w.alloc (.cells cs t))=.ok (.string ⟨l.toArray⟩) (w.alloc (.cells cs t)):=by
 subst hn
 refine run_convert_bytes_back (P:=Tryz.prog) (w.alloc (.cells cs t)) 26 9 5 ⟨w.heap.size,i,none⟩ cap l Tryz.underlying26 Tryz.underlying5 Tryz.underlying9 (fun j hj=>?_)
 have e:(⟨w.heap.size,i,none⟩:Addr).add j=⟨w.heap.size,i+j,none⟩:=by unfold Addr.add;split<;>simp_all
 rw[e,←h j hj]
 have e2:(w.alloc (.cells cs t)).heap[w.heap.size]? = some (.cells cs t (0,0)):=by show (w.heap.push _)[w.heap.size]? = _;simp
 simp only[World.cell?,e2]
 rfl
theorem QB6:Tryz.zeroCells146.size=65:=by kernel_rfl
def QBS (u:Int):List UInt8:=if u < 16 then [dg u] else if u < 256 then [dg (u / 16),dg (u%16)] else if u < 4096 then [dg (u / 256),dg (u / 16%16),dg (u%16)] else [dg (u / 4096),dg (u / 256%16),dg (u / 16%16),dg (u%16)]
theorem QWt (u:Int)(h0:0≤u):bits BinOp.and IntKind.u64 u 15=u%16:=by
 have e:(BitVec.ofInt 64 u &&& BitVec.ofInt 64 15).toNat=(u%16).toNat:=by
  rw[BitVec.toNat_and,show (BitVec.ofInt 64 15).toNat=2 ^ 4-1 by decide,Nat.and_two_pow_sub_one_eq_mod,BitVec.toNat_ofInt]
  omega
 show IntKind.u64.wrap ((BitVec.ofInt 64 u &&& BitVec.ofInt 64 15).toNat:Int)=_
 rw[e,IntKind.wrap_u64]
 omega
theorem QTt (u:Int)(h0:0≤u)(h1:u < 16)(w:World)(h:w.cell? ⟨23,15,none⟩=some (.int .u8 4)) :
 Calls Tryz.prog 88 #[.slice none 0 0,.int .u64 u,.int .i64 16,.bool false,.bool false] w fun e w'=>e=.returned (.tuple #[.slice none 0 0,.string ⟨[dg u].toArray⟩])∧Below w.heap.size w w':=by
 have k1:=qS .u64 u h0 h1
 have hc:=fun o=>JI w o h
 have hv:=QAk w (Tryz.zeroCells146.setIfInBounds 64 (.int .u8 ((dg u).toNat:Int))) 146 64 [dg u] 1 1 rfl (by
  intro j hj
  obtain rfl:j=0:=by simpa using hj
  simp[Array.getElem?_setIfInBounds,QB6])
 go_enter Tryz.func88,Tryz.ntmps88
 go_wp2_with (first
  | (go_at_call 112;refine (QGp _).mono ?_;rintro e w' ⟨rfl,rfl⟩)
  | (go_at_call 113;refine (QHJ _ (hc _)).mono ?_;rintro e w' ⟨rfl,rfl⟩))
 refine wp_loop_rounds 1 ?_
 rw[rounds_succ]
 go_wp2
 go_ret2
 exact⟨rfl,(by repeat (first|exact Below.refl _ _|assumption|refine JF ?_ (by assumption)|refine Below.drew ?_|refine Below.alloc ?_ (by first|(simp;done)|(simp;omega)|omega) _|refine Below.setCell ?_ (by first|(simp;done)|(simp;omega)|omega) _))⟩
theorem QTg (u d0 a:Int)(hd0:bits BinOp.and IntKind.u64 u 15=d0)(hq0:u / 16=a)(hg0:16≤u)(hl0:u < 65536)(hb0:0≤d0)(hc0:d0 < 16)(ha0:0 < a)(ha1:a < 16)(w:World)(h:w.cell? ⟨23,15,none⟩=some (.int .u8 4)) :
 Calls Tryz.prog 88 #[.slice none 0 0,.int .u64 u,.int .i64 16,.bool false,.bool false] w fun e w'=>e=.returned (.tuple #[.slice none 0 0,.string ⟨[dg a,dg d0].toArray⟩])∧Below w.heap.size w w':=by
 have k0:=qS .u64 a (by omega) ha1
 have k1:=qS .u64 d0 hb0 hc0
 have hc:=fun o=>JI w o h
 have hv:=QAk w ((Tryz.zeroCells146.setIfInBounds 64 (.int .u8 ((dg d0).toNat:Int))).setIfInBounds 63 (.int .u8 ((dg a).toNat:Int))) 146 63 [dg a,dg d0] 2 2 rfl (by
  intro j hj
  have hj:j < 2:=by simpa using hj
  obtain rfl|rfl:j=0∨j=1:=by omega
  all_goals simp[Array.getElem?_setIfInBounds,QB6])
 clear hb0 hc0
 go_enter Tryz.func88,Tryz.ntmps88
 go_wp2_with (first
  | (go_at_call 112;refine (QGp _).mono ?_;rintro e w' ⟨rfl,rfl⟩)
  | (go_at_call 113;refine (QHJ _ (hc _)).mono ?_;rintro e w' ⟨rfl,rfl⟩))
 refine wp_loop_rounds 2 ?_
 rw[rounds_succ]
 go_wp2
 rw[rounds_succ]
 go_wp2
 go_ret2
 exact⟨rfl,(by repeat (first|exact Below.refl _ _|assumption|refine JF ?_ (by assumption)|refine Below.drew ?_|refine Below.alloc ?_ (by first|(simp;done)|(simp;omega)|omega) _|refine Below.setCell ?_ (by first|(simp;done)|(simp;omega)|omega) _))⟩
theorem QSI (u v1 d0 d1 a:Int)(hd0:bits BinOp.and IntKind.u64 u 15=d0)(hq0:u / 16=v1)(hg0:16≤u)(hl0:u < 65536)(hb0:0≤d0)(hc0:d0 < 16)(hd1:bits BinOp.and IntKind.u64 v1 15=d1)(hq1:v1 / 16=a)(hg1:16≤v1)(hl1:v1 < 65536)(hb1:0≤d1)(hc1:d1 < 16)(ha0:0 < a)(ha1:a < 16)(w:World)(h:w.cell? ⟨23,15,none⟩=some (.int .u8 4)) :
 Calls Tryz.prog 88 #[.slice none 0 0,.int .u64 u,.int .i64 16,.bool false,.bool false] w fun e w'=>e=.returned (.tuple #[.slice none 0 0,.string ⟨[dg a,dg d1,dg d0].toArray⟩])∧Below w.heap.size w w':=by
 have k0:=qS .u64 a (by omega) ha1
 have k1:=qS .u64 d0 hb0 hc0
 have k2:=qS .u64 d1 hb1 hc1
 have hc:=fun o=>JI w o h
 have hv:=QAk w (((Tryz.zeroCells146.setIfInBounds 64 (.int .u8 ((dg d0).toNat:Int))).setIfInBounds 63 (.int .u8 ((dg d1).toNat:Int))).setIfInBounds 62 (.int .u8 ((dg a).toNat:Int))) 146 62 [dg a,dg d1,dg d0] 3 3 rfl (by
  intro j hj
  have hj:j < 3:=by simpa using hj
  obtain rfl|rfl|rfl:j=0∨j=1∨j=2:=by omega
  all_goals simp[Array.getElem?_setIfInBounds,QB6])
 clear hb0 hc0 hb1 hc1
 go_enter Tryz.func88,Tryz.ntmps88
 go_wp2_with (first
  | (go_at_call 112;refine (QGp _).mono ?_;rintro e w' ⟨rfl,rfl⟩)
  | (go_at_call 113;refine (QHJ _ (hc _)).mono ?_;rintro e w' ⟨rfl,rfl⟩))
 refine wp_loop_rounds 3 ?_
 rw[rounds_succ]
 go_wp2
 rw[rounds_succ]
 go_wp2
 rw[rounds_succ]
 go_wp2
 go_ret2
 exact⟨rfl,(by repeat (first|exact Below.refl _ _|assumption|refine JF ?_ (by assumption)|refine Below.drew ?_|refine Below.alloc ?_ (by first|(simp;done)|(simp;omega)|omega) _|refine Below.setCell ?_ (by first|(simp;done)|(simp;omega)|omega) _))⟩
theorem QSl (u v1 v2 d0 d1 d2 a:Int)(hd0:bits BinOp.and IntKind.u64 u 15=d0)(hq0:u / 16=v1)(hg0:16≤u)(hl0:u < 65536)(hb0:0≤d0)(hc0:d0 < 16)(hd1:bits BinOp.and IntKind.u64 v1 15=d1)(hq1:v1 / 16=v2)(hg1:16≤v1)(hl1:v1 < 65536)(hb1:0≤d1)(hc1:d1 < 16)(hd2:bits BinOp.and IntKind.u64 v2 15=d2)(hq2:v2 / 16=a)(hg2:16≤v2)(hl2:v2 < 65536)(hb2:0≤d2)(hc2:d2 < 16)(ha0:0 < a)(ha1:a < 16)(w:World)(h:w.cell? ⟨23,15,none⟩=some (.int .u8 4)) :
 Calls Tryz.prog 88 #[.slice none 0 0,.int .u64 u,.int .i64 16,.bool false,.bool false] w fun e w'=>e=.returned (.tuple #[.slice none 0 0,.string ⟨[dg a,dg d2,dg d1,dg d0].toArray⟩])∧Below w.heap.size w w':=by
 have k0:=qS .u64 a (by omega) ha1
 have k1:=qS .u64 d0 hb0 hc0
 have k2:=qS .u64 d1 hb1 hc1
 have k3:=qS .u64 d2 hb2 hc2
 have hc:=fun o=>JI w o h
 have hv:=QAk w ((((Tryz.zeroCells146.setIfInBounds 64 (.int .u8 ((dg d0).toNat:Int))).setIfInBounds 63 (.int .u8 ((dg d1).toNat:Int))).setIfInBounds 62 (.int .u8 ((dg d2).toNat:Int))).setIfInBounds 61 (.int .u8 ((dg a).toNat:Int))) 146 61 [dg a,dg d2,dg d1,dg d0] 4 4 rfl (by
  intro j hj
  have hj:j < 4:=by simpa using hj
  obtain rfl|rfl|rfl|rfl:j=0∨j=1∨j=2∨j=3:=by omega
  all_goals simp[Array.getElem?_setIfInBounds,QB6])
 clear hb0 hc0 hb1 hc1 hb2 hc2
 go_enter Tryz.func88,Tryz.ntmps88
 go_wp2_with (first
  | (go_at_call 112;refine (QGp _).mono ?_;rintro e w' ⟨rfl,rfl⟩)
  | (go_at_call 113;refine (QHJ _ (hc _)).mono ?_;rintro e w' ⟨rfl,rfl⟩))
 refine wp_loop_rounds 4 ?_
 rw[rounds_succ]
 go_wp2
 rw[rounds_succ]
 go_wp2
 rw[rounds_succ]
 go_wp2
 rw[rounds_succ]
 go_wp2
 go_ret2
 exact⟨rfl,(by repeat (first|exact Below.refl _ _|assumption|refine JF ?_ (by assumption)|refine Below.drew ?_|refine Below.alloc ?_ (by first|(simp;done)|(simp;omega)|omega) _|refine Below.setCell ?_ (by first|(simp;done)|(simp;omega)|omega) _))⟩
theorem QIU (u:Int):1≤(QBS u).length∧(QBS u).length≤4:=by
 unfold QBS
 split
 · simp
 · split
   · simp
   · split<;>simp
theorem QIx (u:Int)(h0:0≤u)(h1:u≤65535)(w:World)(h:w.cell? ⟨23,15,none⟩=some (.int .u8 4)) :
 Calls Tryz.prog 88 #[.slice none 0 0,.int .u64 u,.int .i64 16,.bool false,.bool false] w fun e w'=>e=.returned (.tuple #[.slice none 0 0,.string ⟨(QBS u).toArray⟩])∧Below w.heap.size w w':=by
 have A:=fun (x:Int) (hx:0≤x)=>QWt x hx
 unfold QBS
 by_cases c1:u < 16
 · rw[if_pos c1]
   exact QTt u h0 c1 w h
 rw[if_neg c1]
 by_cases c2:u < 256
 · rw[if_pos c2]
   exact QTg u (u%16) (u / 16) (A u h0) rfl (by omega) (by omega) (by omega) (by omega) (by omega) (by omega) w h
 rw[if_neg c2]
 by_cases c3:u < 4096
 · rw[if_pos c3]
   exact QSI u (u / 16) (u%16) (u / 16%16) (u / 256) (A u h0) rfl (by omega) (by omega) (by omega) (by omega) (A (u / 16) (by omega)) (by omega) (by omega) (by omega) (by omega) (by omega) (by omega) (by omega) w h
 rw[if_neg c3]
 exact QSl u (u / 16) (u / 256) (u%16) (u / 16%16) (u / 256%16) (u / 4096) (A u h0) rfl (by omega) (by omega) (by omega) (by omega) (A (u / 16) (by omega)) (by omega) (by omega) (by omega) (by omega) (by omega) (A (u / 256) (by omega)) (by omega) (by omega) (by omega) (by omega) (by omega) (by omega) (by omega) w h
theorem QNA (u:Int)(h0:0≤u)(h1:u≤65535)(w:World)(h:w.cell? ⟨23,15,none⟩=some (.int .u8 4)) :
 Calls Tryz.prog 53 #[.int .u64 u,.int .i64 16] w fun e w'=>e=.returned (.string ⟨(QBS u).toArray⟩)∧Below w.heap.size w w':=by
 have hk:=fun w h=>QIx u h0 h1 w h
 have hk:=Lib.hid hk
 go_enter Tryz.func53,Tryz.ntmps53
 go_wp2_with (first
  | (go_at_call 88;refine (hk.out _ (by assumption)).mono ?_;rintro e w' ⟨rfl,hb⟩;have hsz:=hb.size))
 go_ret
 exact⟨rfl,(by repeat (first|exact Below.refl _ _|assumption|refine JF ?_ (by assumption)|refine Below.drew ?_|refine Below.alloc ?_ (by first|(simp;done)|(simp;omega)|omega) _|refine Below.setCell ?_ (by first|(simp;done)|(simp;omega)|omega) _))⟩
theorem QPI (u:Int)(h0:0≤u)(h1:u≤65535)(w:World)(h:w.cell? ⟨23,15,none⟩=some (.int .u8 4)) :
 Calls Tryz.prog 30 #[.int .u64 u,.int .i64 16] w fun e w'=>e=.returned (.string ⟨(QBS u).toArray⟩)∧Below w.heap.size w w':=by
 have hk:=fun w h=>QNA u h0 h1 w h
 have hk:=Lib.hid hk
 go_enter Tryz.func30,Tryz.ntmps30
 go_wp2_with (first
  | (go_at_call 53;refine (hk.out _ (by assumption)).mono ?_;rintro e w' ⟨rfl,hb⟩;have hsz:=hb.size))
 go_ret
 exact⟨rfl,(by repeat (first|exact Below.refl _ _|assumption|refine JF ?_ (by assumption)|refine Below.drew ?_|refine Below.alloc ?_ (by first|(simp;done)|(simp;omega)|omega) _|refine Below.setCell ?_ (by first|(simp;done)|(simp;omega)|omega) _))⟩
def QEe (n d:Int):List UInt8:=Lib.repeatL [48] (d-(QBS n).length).toNat++QBS n++[104]
theorem Qa {a b:ByteArray}(h:a=b):Ending.returned (.string a)=.returned (.string b):=by rw[h]
theorem Xu (a b:List UInt8):(⟨a.toArray⟩:ByteArray)++⟨b.toArray⟩=⟨(a++b).toArray⟩:=by
 apply ByteArray.ext
 simp
theorem QR9 (d:Int)(L:Nat)(hd0:0≤d)(hd1:d≤8)(w:World) :
 Calls Tryz.prog 31 #[.string ⟨#[48]⟩,.int .i64 (max (min (max d 0) 8-(L:Int)) 0)] w fun e w'=>e=.returned (.string ⟨(Lib.repeatL [48] (d-L).toNat).toArray⟩)∧Below w.heap.size w w':=by
 have h:=Sh.strings_Repeat ⟨#[48]⟩ (d-L).toNat w (by omega) (by show 1*_≤_;omega)
 rw[show (((d-L).toNat:Nat):Int)=max (min (max d 0) 8-(L:Int)) 0 by omega] at h
 exact h
theorem Q4 (l:List UInt8):(⟨l.toArray⟩:ByteArray).size=l.length:=by show l.toArray.size=_;simp
theorem QCo (n d:Int)(h0:0≤n)(h1:n≤65535)(hd0:0≤d)(hd1:d≤8)(w:World)(h:w.cell? ⟨23,15,none⟩=some (.int .u8 4)) :
 Calls Tryz.prog 16 #[.int .i64 n,.int .i64 d] w fun e w'=>e=.returned (.string ⟨(QEe n d).toArray⟩)∧Below w.heap.size w w':=by
 have hk:=Lib.hid (QPI n h0 h1 w h)
 have hl:=QIU n
 have hr:=Lib.hid (fun w=>QR9 d (QBS n).length hd0 hd1 w)
 have hR:(Lib.repeatL [48] (d-(QBS n).length).toNat).length≤8:=by
  rw[Lib.repeatL_length]
  simp
  omega
 unfold QEe
 generalize Lib.repeatL [48] (d-(QBS n).length).toNat=R at *
 generalize QBS n=H at *
 have s1:=Q4 H
 have s2:=Q4 R
 have s3:(⟨R.toArray⟩++⟨H.toArray⟩:ByteArray)=⟨(R++H).toArray⟩:=Xu R H
 have s4:(⟨(R++H).toArray⟩:ByteArray).size=R.length+H.length:=by rw[Q4];simp
 go_enter Tryz.func16,Tryz.ntmps16
 go_wp2_with (first
  | (go_at_call 30;refine (hk.out).mono ?_;rintro e w' ⟨rfl,hb⟩;have hsz:=hb.size)
  | (go_at_call 31;refine (hr.out _).mono ?_;rintro e w' ⟨rfl,hb⟩;have hsz:=hb.size))
 go_ret
 refine⟨Qa ?_,(by repeat (first|exact Below.refl _ _|assumption|refine JF ?_ (by assumption)|refine Below.drew ?_|refine Below.alloc ?_ (by first|(simp;done)|(simp;omega)|omega) _|refine Below.setCell ?_ (by first|(simp;done)|(simp;omega)|omega) _))⟩
 show (⟨([]:List UInt8).toArray⟩++⟨R.toArray⟩++⟨H.toArray⟩++⟨[104].toArray⟩:ByteArray)=_
 rw[Xu,Xu,Xu]
 rfl
theorem QEB (n d:Int)(h0:0≤n)(h1:n≤65535)(hd0:0≤d)(hd1:d≤8)(w:World)(h:TextTabs w) :
 Calls Tryz.prog 16 #[.int .i64 n,.int .i64 d] w fun e w'=>e=.returned (.string ⟨(QEe n d).toArray⟩)∧Below w.heap.size w w' :=
 QCo n d h0 h1 hd0 hd1 w h.bru
theorem QUE (n:Int)(h0:0≤n)(h1:n≤255):QEe n 2=QEw n:=by
 unfold QEe QBS QEw
 by_cases c1:n < 16
 · rw[if_pos c1,show n / 16=0 by omega,show n%16=n by omega]
   rfl
 · rw[if_neg c1,if_pos (by omega)]
   rfl
theorem QT0 (n:Int)(h0:0≤n)(h1:n≤65535):QEe n 4=QBC n:=by
 unfold QEe QBS QBC
 by_cases c1:n < 16
 · rw[if_pos c1,show n / 4096=0 by omega,show n / 256%16=0 by omega,show n / 16%16=0 by omega,show n%16=n by omega]
   rfl
 rw[if_neg c1]
 by_cases c2:n < 256
 · rw[if_pos c2,show n / 4096=0 by omega,show n / 256%16=0 by omega,show n / 16%16=n / 16 by omega]
   rfl
 rw[if_neg c2]
 by_cases c3:n < 4096
 · rw[if_pos c3,show n / 4096=0 by omega,show n / 256%16=n / 256 by omega]
   rfl
 rw[if_neg c3]
 rfl
def zu (n:Int):List UInt8:=if n < 0 then 45 :: QDj (-n) else QDj n
theorem QLu (u:Nat)(h:u < 1000):Lib.decDigits u=QDj (u:Int):=by
 unfold QDj
 by_cases c1:u < 10
 · rw[Lib.decDigits,dif_pos c1,if_pos (by omega)]
   unfold dg
   rw[if_pos (by omega)]
   congr 2
 rw[Lib.decDigits,dif_neg c1,if_neg (by omega)]
 by_cases c2:u < 100
 · rw[Lib.decDigits,dif_pos (by omega),if_pos (by omega)]
   unfold dg
   rw[if_pos (by omega),if_pos (by omega)]
   show [_,_]=[_,_]
   congr 2
 · rw[Lib.decDigits,dif_neg (by omega),Lib.decDigits,dif_pos (by omega),if_neg (by omega)]
   unfold dg
   rw[if_pos (by omega),if_pos (by omega),if_pos (by omega)]
   show [_,_,_]=[_,_,_]
   congr 2
   · omega
theorem QQ7 (n:Int)(h0:-999≤n)(h1:n≤999):Lib.itoa n=zu n:=by
 unfold Lib.itoa zu
 by_cases c:n < 0
 · rw[if_pos c,if_pos c,QLu _ (by omega),show ((n.natAbs:Nat):Int)=-n by omega]
 · rw[if_neg c,if_neg c,QLu _ (by omega),show ((n.toNat:Nat):Int)=n by omega]
theorem QEk (w:World)(k:Nat)(os:Array Obj):Below w.heap.size w (Sort.grow (w.drewN k) os) :=
 ⟨rfl,rfl,rfl,by show w.heap.size≤(w.heap++os).size;rw[Array.size_append];omega,fun j hj=>by
  show (w.heap++os)[j]? = w.heap[j]?
  rw[Array.getElem?_append_left hj]⟩
theorem QID (n:Int)(h0:-999≤n)(h1:n≤999)(w:World)(h:TextTabs w) :
 Calls Tryz.prog 26 #[.int .i64 n] w fun e w'=>e=.returned (.string ⟨(zu n).toArray⟩)∧Below w.heap.size w w':=by
 refine (Sh.strconv_Itoa n (by omega) (by omega) w h.pow).mono ?_
 rintro e w' ⟨rfl,k,os,rfl⟩
 rw[QQ7 n h0 h1]
 exact⟨rfl,QEk w k os⟩
theorem ZP (n:Int):(QDj n).length≤3:=by
 unfold QDj
 split
 · simp
 · split<;>simp
theorem QGs (n:Int):(zu n).length≤4:=by
 have h1:=ZP n
 have h2:=ZP (-n)
 unfold zu
 split<;>simp<;>omega
theorem QDJ (n:Int)(h0:-999≤n)(h1:n≤999)(w:World)(h:TextTabs w) :
 Calls Tryz.prog 119 #[.int .i64 n] w fun e w'=>e=.returned (.string ⟨(ZI n).toArray⟩)∧Below w.heap.size w w':=by
 have hk:=Lib.hid (QID n h0 h1 w h)
 have s1:=Q4 (zu n)
 have s2:=QGs n
 have e1:ZI n=if n < 0 then zu n else 43 :: zu n:=by unfold ZI zu;split<;>rfl
 rw[e1]
 clear e1
 generalize zu n=I at *
 by_cases c:n < 0
 · rw[if_pos c]
   go_enter Tryz.func119,Tryz.ntmps119
   go_wp2_with (first
    | (go_at_call 26;refine (hk.out).mono ?_;rintro e w' ⟨rfl,hb⟩;have hsz:=hb.size))
   go_ret
   exact⟨rfl,(by repeat (first|exact Below.refl _ _|assumption|refine JF ?_ (by assumption)|refine Below.drew ?_|refine Below.alloc ?_ (by first|(simp;done)|(simp;omega)|omega) _|refine Below.setCell ?_ (by first|(simp;done)|(simp;omega)|omega) _))⟩
 · rw[if_neg c]
   have c':0≤n:=by omega
   go_enter Tryz.func119,Tryz.ntmps119
   go_wp2_with (first
    | (go_at_call 26;refine (hk.out).mono ?_;rintro e w' ⟨rfl,hb⟩;have hsz:=hb.size))
   go_ret
   exact⟨Qa (Xu [43] I),(by repeat (first|exact Below.refl _ _|assumption|refine JF ?_ (by assumption)|refine Below.drew ?_|refine Below.alloc ?_ (by first|(simp;done)|(simp;omega)|omega) _|refine Below.setCell ?_ (by first|(simp;done)|(simp;omega)|omega) _))⟩
theorem QEf (p:Int)(w:World) :
 Calls Tryz.prog 116 #[.int .i64 p] w fun e w'=>e=.returned (.string ⟨[105,UInt8.ofNat (ixC p)].toArray⟩)∧w=w':=by
 unfold ixC
 by_cases h3:p=3
 · subst h3
   go_enter Tryz.func116,Tryz.ntmps116
   go_wp2
   go_ret
   exact⟨rfl,rfl⟩
 by_cases h5:p=5
 · subst h5
   go_enter Tryz.func116,Tryz.ntmps116
   go_wp2
   go_ret
   exact⟨rfl,rfl⟩
 rw[if_neg (by omega)]
 have e3:(p==3)=false:=by simpa using h3
 have e5:(p==5)=false:=by simpa using h5
 go_enter Tryz.func116,Tryz.ntmps116
 go_wp2
 go_ret
 exact⟨rfl,rfl⟩
theorem Xp (n:Int):1≤(ZI n).length∧(ZI n).length≤4:=by
 have h1:=ZP n
 have h2:=ZP (-n)
 unfold ZI
 split<;>simp<;>omega
theorem QAl (b:Int)(h:B8 b):-128≤JL b∧JL b≤127:=by
 obtain⟨h0,h1⟩:=h
 unfold JL
 split<;>omega
theorem QEv (p d:Int)(hd:B8 d)(w:World)(h:TextTabs w) :
 Calls Tryz.prog 117 #[.int .i64 p,.int .u8 d] w fun e w'=>e=.returned (.string ⟨(QBQ p d).toArray⟩)∧Below w.heap.size w w':=by
 have hb:=QAl d hd
 have k1:=Lib.hid (fun w=>QEf p w)
 have k2:=Lib.hid (fun w=>QBa d hd.1 hd.2 w)
 have k3:=Lib.hid (QDJ (JL d) (by omega) (by omega) w h)
 have s2:=Xp (JL d)
 have s1:=Q4 (ZI (JL d))
 unfold QBQ
 generalize ZI (JL d)=G at *
 have s3:(⟨#[105,UInt8.ofNat (ixC p)]⟩:ByteArray).size=2:=rfl
 go_enter Tryz.func117,Tryz.ntmps117
 go_wp2_with (first
  | (go_at_call 116;refine (k1.out _).mono ?_;rintro e w' ⟨rfl,rfl⟩)
  | (go_at_call 120;refine (k2.out _).mono ?_;rintro e w' ⟨rfl,rfl⟩)
  | (go_at_call 119;refine (k3.out).mono ?_;rintro e w' ⟨rfl,hb⟩;have hsz:=hb.size))
 go_ret
 refine⟨Qa ?_,(by repeat (first|exact Below.refl _ _|assumption|refine JF ?_ (by assumption)|refine Below.drew ?_|refine Below.alloc ?_ (by first|(simp;done)|(simp;omega)|omega) _|refine Below.setCell ?_ (by first|(simp;done)|(simp;omega)|omega) _))⟩
 show (⟨[40].toArray⟩++⟨[105,UInt8.ofNat (ixC p)].toArray⟩++⟨G.toArray⟩++⟨[41].toArray⟩:ByteArray)=_
 rw[Xu,Xu,Xu]
 simp
end Go.Proofs.YtmgcgiecimnncaaGreatDoor
