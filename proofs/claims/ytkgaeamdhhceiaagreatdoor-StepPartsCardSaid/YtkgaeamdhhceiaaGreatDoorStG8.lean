/- Contracts and facts that the claim's proof wants (several texts in one). -/
import Derived.Deep.MidRow
import Derived.Test.YtkgaeamdhhceiaaGreatDoorStG1
import Derived.Test.YtkgaeamdhhceiaaGreatDoorStG2
import Derived.Test.YtkgaeamdhhceiaaGreatDoorStG3
import Derived.Test.YtkgaeamdhhceiaaGreatDoorStG4
import Derived.Test.YtkgaeamdhhceiaaGreatDoorStG6
import Derived.Test.YtkgaeamdhhceiaaGreatDoorStG7
namespace Go.Proofs.YtkgaeamdhhceiaaGreatDoor
open Go.RowKit
set_option linter.unusedVariables false
set_option linter.unusedSimpArgs false
set_option maxRecDepth 20000
set_option maxHeartbeats 20000000
structure Ws where
  r : Rg
  plane : Int
  code : Int
  m : Int
  known : Bool
structure WsB (s : Ws) : Prop where
  r : RgB s.r
  code : B8 s.code
  m : Wd16 s.m
def cycW (c : Cy) (s : Ws) : Tr (Int × Ws) := .ask c fun b => .done (b, s)
def statesW (n : Int) (s : Ws) : Tr Ws := (cycW ⟨7, 0, 0, n⟩ s).bind fun b => .done b.2
def readW (a : Int) (s : Ws) : Tr (Int × Ws) := cycW ⟨2, a, 0, 3⟩ s
def writeW (a b : Int) (s : Ws) : Tr Ws := (cycW ⟨3, a, b, 3⟩ s).bind fun b => .done b.2
def Ws.pc (s : Ws) (v : Int) : Ws := { s with r := { s.r with pc := v } }
def Ws.sp (s : Ws) (v : Int) : Ws := { s with r := { s.r with sp := v } }
def Ws.wz (s : Ws) (v : Int) : Ws := { s with r := { s.r with wz := v } }
def Ws.hlTo (s : Ws) (v : Int) : Ws := { s with r := { s.r with hl := v } }
def Ws.af (s : Ws) (a f : Int) : Ws := { s with r := { s.r with af := 256 * a + f } }
def Ws.tick (s : Ws) : Ws := { s with r := tickG s.r 1 }
def Ws.pcUp (s : Ws) : Ws := s.pc ((s.r.pc + 1) % 65536)
def Ws.a (s : Ws) : Int := s.r.af / 256
def Ws.f (s : Ws) : Int := s.r.af % 256
def fetchW (s : Ws) : Tr (Int × Ws) := (cycW ⟨1, s.r.pc, 0, 4⟩ s).bind fun b => .done (b.1, b.2.pcUp.tick)
def numberW (s : Ws) : Tr (Int × Ws) := (readW s.r.pc s).bind fun b => .done (b.1, b.2.pcUp)
def wordW (s : Ws) : Tr (Int × Ws) := (numberW s).bind fun l => (numberW l.2).bind fun h => .done (256 * h.1 + l.1, h.2)
def Ws.spDown (s : Ws) : Ws := s.sp ((s.r.sp - 1) % 65536)
def Ws.spUp (s : Ws) : Ws := s.sp ((s.r.sp + 1) % 65536)
def pushW (x : Int) (s : Ws) : Tr Ws := (writeW s.spDown.r.sp (x / 256) s.spDown).bind fun s => writeW s.spDown.r.sp (x % 256) s.spDown
def popW (s : Ws) : Tr (Int × Ws) := (readW s.r.sp s).bind fun l => (readW l.2.spUp.r.sp l.2.spUp).bind fun h => .done (256 * h.1 + l.1, h.2.spUp)
def Ws.hl (s : Ws) : Int := pairG s.r s.plane 2
def Ws.setHl (s : Ws) (w : Int) : Ws := { s with r := setPairG s.r s.plane 2 w }
def Ws.know (s : Ws) (v : Int) : Ws := { s with known := true, m := v }
def Ws.mTo (s : Ws) (v : Int) : Ws := { s with m := v }
def whereW (s : Ws) : Tr (Int × Ws) :=
  if s.known = true then .done (s.m, s) else
  if s.plane = 3 ∨ s.plane = 4 then (numberW (s.know s.r.hl)).bind fun e => (statesW 5 e.2).bind fun t => .done (moveM t.hl (signedM e.1), (t.mTo (moveM t.hl (signedM e.1))).wz (moveM t.hl (signedM e.1)))
  else .done (s.r.hl, s.know s.r.hl)
def throughW (s : Ws) : Int := if nearM s.plane s.code = true then 0 else s.plane
def getW (k : Int) (s : Ws) : Tr (Int × Ws) := if k = 6 then (whereW s).bind fun a => readW a.1 a.2 else .done (getG s.r (throughW s) k, s)
def setW (k b : Int) (s : Ws) : Tr Ws := if k = 6 then (whereW s).bind fun a => writeW a.1 b a.2 else .done { s with r := setG s.r (throughW s) k b }
def sumW (y b : Int) (s : Ws) : Ws :=
  if y = 0 then s.af (addR s.a b false) (addF s.a b false) else if y = 1 then s.af (addR s.a b (isM s.f 0)) (addF s.a b (isM s.f 0)) else
  if y = 2 then s.af (subR s.a b false) (subF s.a b false) else if y = 3 then s.af (subR s.a b (isM s.f 0)) (subF s.a b (isM s.f 0)) else
  if y = 4 then s.af (andR s.a b) (andFl (andR s.a b)) else if y = 5 then s.af (xorR s.a b) (evenFM (xorR s.a b)) else
  if y = 6 then s.af (orR s.a b) (evenFM (orR s.a b)) else s.af s.a (cmpF s.a b)
def hopW (is : Bool) (s : Ws) : Tr Ws := (numberW s).bind fun e => if is = true then (statesW 5 e.2).bind fun s => .done ((s.pc (moveM s.r.pc (signedM e.1))).wz (moveM s.r.pc (signedM e.1))) else .done e.2
def Ws.left (s : Ws) : Int := (s.r.bc / 256 - 1) % 256
def Ws.less (s : Ws) : Ws := { s with r := { s.r with bc := 256 * s.left + s.r.bc % 256 } }
def hopsW (y : Int) (s : Ws) : Tr Ws :=
  if y = 0 then .done s else if y = 1 then .done { s with r := swapG s.r } else
  if y = 2 then (statesW 1 s).bind fun s => hopW (s.left != 0) s.less else if y = 3 then hopW true s else hopW (testM s.f (y - 4)) s
def storeAW (a : Int) (s : Ws) : Tr Ws := (writeW a s.a s).bind fun s => .done (s.wz (256 * s.a + (a % 256 + 1) % 256))
def loadAW (a : Int) (s : Ws) : Tr Ws := (readW a s).bind fun b => .done ((b.2.af b.1 b.2.f).wz ((a + 1) % 65536))
def storesW (y : Int) (s : Ws) : Tr Ws :=
  if y = 2 then storeAW s.r.de s else if y = 3 then loadAW s.r.de s else
  if 3 < y then (wordW s).bind fun a =>
    if y = 6 then storeAW a.1 a.2 else if y = 7 then loadAW a.1 a.2 else
    if y = 4 then (writeW a.1 (a.2.hl % 256) a.2).bind fun s => (writeW ((a.1 + 1) % 65536) (s.hl / 256) s).bind fun s => .done (s.wz ((a.1 + 1) % 65536)) else
    if y = 5 then (readW a.1 a.2).bind fun l => (readW ((a.1 + 1) % 65536) l.2).bind fun h => .done ((h.2.setHl (256 * h.1 + l.1)).wz ((a.1 + 1) % 65536)) else .done (a.2.wz ((a.1 + 1) % 65536))
  else if y = 0 then storeAW s.r.bc s else if y = 1 then loadAW s.r.bc s else .done (s.wz ((s.r.bc + 1) % 65536))
def stepW (y z : Int) (s : Ws) : Tr Ws := (getW y s).bind fun b => (if y = 6 then statesW 1 b.2 else .done b.2).bind fun s =>
  if z = 5 then setW y (subR b.1 1 false) (s.af s.a (decF b.1 s.f)) else setW y (addR b.1 1 false) (s.af s.a (incF b.1 s.f))
def turnW (y : Int) (s : Ws) : Ws :=
  if y = 4 then s.af (daaR s.a s.f) (daaF s.a s.f) else if y = 5 then s.af (255 - s.a) (cplF s.a s.f) else
  if y = 6 then s.af s.a (scfF s.a s.f) else if y = 7 then s.af s.a (ccfF s.a s.f) else s.af (accR y s.a s.f) (accF y s.a s.f)
def Ws.setP (s : Ws) (p w : Int) : Ws := { s with r := setPairG s.r s.plane p w }
def Ws.setP0 (s : Ws) (p w : Int) : Ws := { s with r := setPairG s.r 0 p w }
def lowW (y z p q : Int) (s : Ws) : Tr Ws :=
  if z = 0 then hopsW y s else
  if z = 1 then (if q = 0 then (wordW s).bind fun x => .done (x.2.setP p x.1) else
    (statesW 7 s).bind fun s => .done (((s.wz ((s.hl + 1) % 65536)).setHl (adcW (s.wz ((s.hl + 1) % 65536)).hl (pairG (s.wz ((s.hl + 1) % 65536)).r s.plane p) false)).af
      ((s.wz ((s.hl + 1) % 65536)).setHl (adcW (s.wz ((s.hl + 1) % 65536)).hl (pairG (s.wz ((s.hl + 1) % 65536)).r s.plane p) false)).a (addWF (s.wz ((s.hl + 1) % 65536)).hl (pairG (s.wz ((s.hl + 1) % 65536)).r s.plane p) (s.wz ((s.hl + 1) % 65536)).f))) else
  if z = 2 then storesW y s else
  if z = 3 then (statesW 2 s).bind fun s => if q = 0 then .done (s.setP p ((pairG s.r s.plane p + 1) % 65536)) else .done (s.setP p ((pairG s.r s.plane p - 1) % 65536)) else
  if z = 4 ∨ z = 5 then stepW y z s else
  if z = 6 then (if y = 6 ∧ s.plane ≠ 0 then (numberW s).bind fun e => (numberW ((e.2.know (moveM e.2.hl (signedM e.1))).wz (moveM e.2.hl (signedM e.1)))).bind fun b => (statesW 2 b.2).bind fun s => writeW s.m b.1 s
    else (numberW s).bind fun b => setW y b.1 b.2) else .done (turnW y s)
def backW (s : Ws) : Tr Ws := (popW s).bind fun x => .done ((x.2.pc x.1).wz x.1)
def callW (is : Bool) (s : Ws) : Tr Ws := (wordW s).bind fun x => if is = true then (statesW 1 (x.2.wz x.1)).bind fun s => (pushW s.r.pc s).bind fun s => .done (s.pc s.r.wz) else .done (x.2.wz x.1)
def popsW (p q : Int) (s : Ws) : Tr Ws :=
  if q = 0 then (if p = 3 then (popW s).bind fun x => .done { x.2 with r := { x.2.r with af := x.1 } } else (popW s).bind fun x => .done (x.2.setP p x.1)) else
  if p = 0 then backW s else if p = 1 then .done { s with r := exxG s.r } else if p = 2 then .done (s.pc s.hl) else (statesW 2 s).bind fun s => .done (s.sp s.hl)
def portsW (y : Int) (s : Ws) : Tr Ws :=
  if y = 0 then (wordW s).bind fun x => .done ((x.2.pc x.1).wz x.1) else
  if y = 2 then (numberW s).bind fun n => (cycW ⟨5, 256 * n.2.a + n.1, n.2.a, 4⟩ n.2).bind fun b => .done (b.2.wz (256 * b.2.a + (n.1 + 1) % 256)) else
  if y = 3 then (numberW s).bind fun n => (cycW ⟨4, 256 * n.2.a + n.1, 0, 4⟩ n.2).bind fun b => .done ((b.2.af b.1 b.2.f).wz ((256 * n.2.a + n.1 + 1) % 65536)) else
  if y = 4 then (readW s.r.sp s).bind fun l => (readW ((l.2.r.sp + 1) % 65536) l.2).bind fun h => (statesW 1 h.2).bind fun s => (writeW ((s.r.sp + 1) % 65536) (s.hl / 256) s).bind fun s =>
    (writeW s.r.sp (s.hl % 256) s).bind fun s => (statesW 2 s).bind fun s => .done ((s.wz (256 * h.1 + l.1)).setHl (256 * h.1 + l.1)) else
  if y = 5 then .done { s with r := { s.r with de := s.r.hl, hl := s.r.de } } else
  if y = 6 then .done { s with r := { s.r with iff1 := false, iff2 := false } } else if y = 7 then .done { s with r := { s.r with iff1 := true, iff2 := true, late := true } } else .done s
def highW (y z p q : Int) (s : Ws) : Tr Ws :=
  if z = 0 then (statesW 1 s).bind fun t => if testM s.f y = true then backW t else .done t else
  if z = 1 then popsW p q s else
  if z = 2 then (wordW s).bind fun x => if testM s.f y = true then .done ((x.2.wz x.1).pc x.1) else .done (x.2.wz x.1) else
  if z = 3 then portsW y s else if z = 4 then callW (testM s.f y) s else
  if z = 5 then (if q = 1 then callW true s else (statesW 1 s).bind fun s => if p = 3 then pushW s.r.af s else pushW (pairG s.r s.plane p) s) else
  if z = 6 then (numberW s).bind fun b => .done (sumW y b.1 b.2) else
  (statesW 1 s).bind fun s => (pushW s.r.pc s).bind fun s => .done ((s.pc ((8 * y) % 65536)).wz ((8 * y) % 65536))
def Ws.at_ (s : Ws) (plane code : Int) : Ws := { s with plane := plane, code := code }
def plainW (plane c : Int) (s : Ws) : Tr Ws :=
  if fx c = 0 then lowW (fy c) (fz c) (fp c) (fq c) (s.at_ plane c) else
  if fx c = 1 then (if fy c = 6 ∧ fz c = 6 then .done { (s.at_ plane c) with r := { s.r with halted := true } } else (getW (fz c) (s.at_ plane c)).bind fun b => setW (fy c) b.1 b.2) else
  if fx c = 2 then (getW (fz c) (s.at_ plane c)).bind fun b => .done (sumW (fy c) b.1 b.2) else highW (fy c) (fz c) (fp c) (fq c) (s.at_ plane c)
def bitsetW (far : Bool) (k z b : Int) (s : Ws) : Tr Ws := (setW k b s).bind fun s => if far = true ∧ z ≠ 6 then setW z b s else .done s
def bitopW (far : Bool) (x y z k b lines : Int) (s : Ws) : Tr Ws :=
  if x = 0 then bitsetW far k z (doR y b s.f) (s.af s.a (doF y b s.f)) else if x = 1 then .done (s.af s.a (bitF y b lines s.f)) else
  if x = 2 then bitsetW far k z (withM b y false) s else bitsetW far k z (withM b y true) s
def bitW (far : Bool) (c : Int) (s : Ws) : Tr Ws :=
  if far = true then (getW 6 (s.at_ 0 0)).bind fun b => (statesW 1 b.2).bind fun t => bitopW far (fx c) (fy c) (fz c) 6 b.1 (t.r.wz / 256) t else
  (getW (fz c) (s.at_ 0 0)).bind fun b => if fz c = 6 then (statesW 1 b.2).bind fun t => bitopW far (fx c) (fy c) (fz c) (fz c) b.1 (t.r.wz / 256) t else bitopW far (fx c) (fy c) (fz c) (fz c) b.1 b.1 b.2
def wordsW (p q : Int) (s : Ws) : Tr Ws := (wordW s).bind fun a =>
  if q = 0 then (writeW a.1 (pairG a.2.r 0 p % 256) a.2).bind fun s => (writeW ((a.1 + 1) % 65536) (pairG a.2.r 0 p / 256) s).bind fun s => .done (s.wz ((a.1 + 1) % 65536))
  else (readW a.1 a.2).bind fun l => (readW ((a.1 + 1) % 65536) l.2).bind fun h => .done ((h.2.setP0 p (256 * h.1 + l.1)).wz ((a.1 + 1) % 65536))
def shownW (b : Int) (s : Ws) : Ws := s.af b (mkM (isM (resultM b) 7) (isM (resultM b) 6) (isM (resultM b) 5) (isM (resultM b) 4) (isM (resultM b) 3) s.r.iff2 (isM (resultM b) 1) (isM s.f 0))
def oddW (y : Int) (s : Ws) : Tr Ws :=
  if y < 4 then (statesW 1 s).bind fun s =>
    if y = 0 then .done { s with r := { s.r with i := s.a } } else if y = 1 then .done { s with r := { s.r with r := s.a } } else
    if y = 3 then .done (shownW s.r.r s) else if y = 2 then .done (shownW s.r.i s) else .done s
  else if y = 4 then (readW s.r.hl s).bind fun b => (statesW 4 b.2).bind fun s => (writeW s.r.hl (digB true s.a b.1) s).bind fun t => .done ((t.af (digA true s.a b.1) (evenC (digA true s.a b.1) (isM s.f 0))).wz ((t.r.hl + 1) % 65536))
  else if y = 5 then (readW s.r.hl s).bind fun b => (statesW 4 b.2).bind fun s => (writeW s.r.hl (digB false s.a b.1) s).bind fun t => .done ((t.af (digA false s.a b.1) (evenC (digA false s.a b.1) (isM s.f 0))).wz ((t.r.hl + 1) % 65536))
  else .done s
@[reducible] def wC (s : Ws) (A : Option Addr) (n cap : Nat) (z : Zs) : Array Value := #[.int .u16 s.r.af, .int .u16 s.r.bc, .int .u16 s.r.de, .int .u16 s.r.hl, .int .u16 s.r.af2, .int .u16 s.r.bc2, .int .u16 s.r.de2, .int .u16 s.r.hl2, .int .u16 s.r.ix, .int .u16 s.r.iy, .int .u16 s.r.sp, .int .u16 s.r.pc, .int .u16 s.r.wz, .int .u8 s.r.i, .int .u8 s.r.r, .bool s.r.iff1, .bool s.r.iff2, .bool s.r.halted, .bool s.r.late, .int .i64 s.r.mode, .slice A n cap, .int .i64 (z.pos : Int), .bool z.lacks, .int .i64 z.asked.kind, .int .u16 z.asked.addr, .int .u8 z.asked.data, .int .i64 z.asked.t, .int .i64 s.plane, .int .u8 s.code, .int .u16 s.m, .bool s.known]
structure AtW (w : World) (p B : Nat) (s : Ws) (xs : List Int) (z : Zs) : Prop where
  row : ∃ A cap, xs.length ≤ cap ∧ Row w p 89 (wC s A xs.length cap z) ∧ BytesIn w B A xs
  low : B ≤ p
  bytes : Bytes8 xs
  ms : WsB s
  pos : z.pos ≤ xs.length
  big : xs.length ≤ 1000000000000000
theorem AtW.lt {w : World} {p B : Nat} {s : Ws} {xs : List Int} {z : Zs} (h : AtW w p B s xs z) : p < w.heap.size := by
  obtain ⟨A, cap, hc, hr, hb⟩ := h.row
  exact hr.lt
theorem AtW.below {w w' : World} {p B : Nat} {s : Ws} {xs : List Int} {z : Zs} (h : AtW w p B s xs z) (k : Below w.heap.size w w') : AtW w' p B s xs z := by
  have hp := h.lt
  obtain ⟨⟨A, cap, hc, hr, hb⟩, hl, h8, hm, ht, hg⟩ := h
  exact ⟨⟨A, cap, hc, hr.below k hp, hb.keep fun b hlt => k.block b (by omega)⟩, hl, h8, hm, ht, hg⟩
theorem AtW.drew {w : World} {p B : Nat} {s : Ws} {xs : List Int} {z : Zs} (h : AtW w p B s xs z) : AtW w.drew p B s xs z := by
  obtain ⟨⟨A, cap, hc, hr, hb⟩, hl, h8, hm, ht, hg⟩ := h
  exact ⟨⟨A, cap, hc, hr, hb⟩, hl, h8, hm, ht, hg⟩
theorem AtW.cell {w : World} {p B : Nat} {s : Ws} {xs : List Int} {z : Zs} (h : AtW w p B s xs z) (i : Nat) (V : Value) (hV : ∀ A n cap, (wC s A n cap z)[i]? = some V) : w.cell? ⟨p, i, none⟩ = some V := by
  obtain ⟨A, cap, hc, hr, hb⟩ := h.row
  rw [hr.cell i]
  exact hV ..
theorem AtW.frozen {w : World} {p B : Nat} {s : Ws} {xs : List Int} {z : Zs} (h : AtW w p B s xs z) (i : Nat) : w.frozen? ⟨p, i, none⟩ = false := by
  obtain ⟨A, cap, hc, hr, hb⟩ := h.row
  exact hr.frozen i
theorem AtW.regs {w : World} {p B : Nat} {s : Ws} {xs : List Int} {z : Zs} (h : AtW w p B s xs z) : w.rangeAt p 0 (regsC s.r).toList := by
  obtain ⟨A, cap, hc, hr, hb⟩ := h.row
  intro j v hv
  rw [Nat.zero_add, hr.cell j]
  have hj : j < 20 := (List.getElem?_eq_some_iff.1 hv).1
  revert hv
  match j, hj with
  | 0, _ => exact id
  | 1, _ => exact id
  | 2, _ => exact id
  | 3, _ => exact id
  | 4, _ => exact id
  | 5, _ => exact id
  | 6, _ => exact id
  | 7, _ => exact id
  | 8, _ => exact id
  | 9, _ => exact id
  | 10, _ => exact id
  | 11, _ => exact id
  | 12, _ => exact id
  | 13, _ => exact id
  | 14, _ => exact id
  | 15, _ => exact id
  | 16, _ => exact id
  | 17, _ => exact id
  | 18, _ => exact id
  | 19, _ => exact id
  | n + 20, h => omega
theorem AtW.set {w : World} {p B : Nat} {s : Ws} {xs : List Int} {z : Zs} (h : AtW w p B s xs z) (i : Nat) (v : Value) (s' : Ws) (hs : ∀ A n cap, (wC s A n cap z).setIfInBounds i v = wC s' A n cap z) (hb : WsB s') : AtW (w.setCell ⟨p, i, none⟩ v) p B s' xs z := by
  have hp := h.lt
  obtain ⟨⟨A, cap, hc, hr, hby⟩, hl, h8, hm, ht, hg⟩ := h
  have k : ∀ b, b < B → (w.setCell ⟨p, i, none⟩ v).heap[b]? = w.heap[b]? := fun b hlt => Below.heap_setCell w _ v b (by show b ≠ p; omega)
  refine ⟨⟨A, cap, hc, ?_, hby.keep k⟩, hl, h8, hb, ht, hg⟩
  have := hr.set i v
  rwa [hs] at this
structure NowW (w0 : World) (p B : Nat) (s : Ws) (xs : List Int) (z : Zs) (w : World) : Prop where
  at_ : AtW w p B s xs z
  bes : Besides p p w0 w
theorem NowW.begin {w : World} {p B : Nat} {s : Ws} {xs : List Int} {z : Zs} (h : AtW w p B s xs z) : NowW w p B s xs z w := ⟨h, .refl ..⟩
theorem NowW.below {w0 w w' : World} {p B : Nat} {s : Ws} {xs : List Int} {z : Zs} (h : NowW w0 p B s xs z w) (k : Below w.heap.size w w') : NowW w0 p B s xs z w' := ⟨h.at_.below k, h.bes.trans (.of_below k)⟩
theorem NowW.drew {w0 w : World} {p B : Nat} {s : Ws} {xs : List Int} {z : Zs} (h : NowW w0 p B s xs z w) : NowW w0 p B s xs z w.drew := ⟨h.at_.drew, h.bes.drew⟩
theorem NowW.set {w0 w : World} {p B : Nat} {s : Ws} {xs : List Int} {z : Zs} (h : NowW w0 p B s xs z w) (i : Nat) (v : Value) (s' : Ws) (hs : ∀ A n cap, (wC s A n cap z).setIfInBounds i v = wC s' A n cap z) (hb : WsB s') : NowW w0 p B s' xs z (w.setCell ⟨p, i, none⟩ v) :=
  ⟨h.at_.set i v s' hs hb, h.bes.setCell (.inl rfl) v⟩
theorem NowW.after {w0 w w' : World} {p B : Nat} {s s' : Ws} {xs xs' : List Int} {z z' : Zs} (h : NowW w0 p B s xs z w) (k : NowW w p B s' xs' z' w') : NowW w0 p B s' xs' z' w' := ⟨k.at_, h.bes.trans k.bes⟩
def OutX (w0 : World) (p B : Nat) (k : IntKind) (xs : List Int) (X : (Int × Ws) × Zs) : Ending → World → Prop := fun e w' => e = .returned (.int k X.1.1) ∧ kB k X.1.1 ∧ NowW w0 p B X.1.2 xs X.2 w'
def OutY (w0 : World) (p B : Nat) (xs : List Int) (X : Ws × Zs) : Ending → World → Prop := fun e w' => e = .returned (.tuple #[]) ∧ NowW w0 p B X.1 xs X.2 w'
theorem OutX.ok {w0 w : World} {p B : Nat} {k : IntKind} {xs : List Int} {X : (Int × Ws) × Zs} {v : Int} {s : Ws} {z : Zs} (h : X = ((v, s), z)) (hk : kB k v) (hn : NowW w0 p B s xs z w) : OutX w0 p B k xs X (.returned (.int k v)) w := by
  subst h
  exact ⟨rfl, hk, hn⟩
theorem OutY.ok {w0 w : World} {p B : Nat} {xs : List Int} {X : Ws × Zs} {s : Ws} {z : Zs} (h : X = (s, z)) (hn : NowW w0 p B s xs z w) : OutY w0 p B xs X (.returned (.tuple #[])) w := by
  subst h
  exact ⟨rfl, hn⟩
section
variable {α β : Type}
theorem zif_neg {c : Prop} [Decidable c] {t e : Tr α} {xs : List Int} {z : Zs} (hc : ¬ c) : (if c then t else e).runZ xs z = e.runZ xs z := by rw [if_neg hc]
end
def Ws.u_af (s : Ws) (v : Int) : Ws := { s with r := { s.r with af := v } }
theorem WsB.u_af {s : Ws} (h : WsB s) {v : Int} (hv : Wd16 v) : WsB (s.u_af v) := ⟨⟨hv, h.r.bc, h.r.de, h.r.hl, h.r.af2, h.r.bc2, h.r.de2, h.r.hl2, h.r.ix, h.r.iy, h.r.sp, h.r.pc, h.r.wz, h.r.i, h.r.r, h.r.mode⟩, h.code, h.m⟩
def Ws.u_bc (s : Ws) (v : Int) : Ws := { s with r := { s.r with bc := v } }
theorem WsB.u_bc {s : Ws} (h : WsB s) {v : Int} (hv : Wd16 v) : WsB (s.u_bc v) := ⟨⟨h.r.af, hv, h.r.de, h.r.hl, h.r.af2, h.r.bc2, h.r.de2, h.r.hl2, h.r.ix, h.r.iy, h.r.sp, h.r.pc, h.r.wz, h.r.i, h.r.r, h.r.mode⟩, h.code, h.m⟩
def Ws.u_de (s : Ws) (v : Int) : Ws := { s with r := { s.r with de := v } }
theorem WsB.u_de {s : Ws} (h : WsB s) {v : Int} (hv : Wd16 v) : WsB (s.u_de v) := ⟨⟨h.r.af, h.r.bc, hv, h.r.hl, h.r.af2, h.r.bc2, h.r.de2, h.r.hl2, h.r.ix, h.r.iy, h.r.sp, h.r.pc, h.r.wz, h.r.i, h.r.r, h.r.mode⟩, h.code, h.m⟩
def Ws.u_hl (s : Ws) (v : Int) : Ws := { s with r := { s.r with hl := v } }
theorem WsB.u_hl {s : Ws} (h : WsB s) {v : Int} (hv : Wd16 v) : WsB (s.u_hl v) := ⟨⟨h.r.af, h.r.bc, h.r.de, hv, h.r.af2, h.r.bc2, h.r.de2, h.r.hl2, h.r.ix, h.r.iy, h.r.sp, h.r.pc, h.r.wz, h.r.i, h.r.r, h.r.mode⟩, h.code, h.m⟩
def Ws.u_sp (s : Ws) (v : Int) : Ws := { s with r := { s.r with sp := v } }
theorem WsB.u_sp {s : Ws} (h : WsB s) {v : Int} (hv : Wd16 v) : WsB (s.u_sp v) := ⟨⟨h.r.af, h.r.bc, h.r.de, h.r.hl, h.r.af2, h.r.bc2, h.r.de2, h.r.hl2, h.r.ix, h.r.iy, hv, h.r.pc, h.r.wz, h.r.i, h.r.r, h.r.mode⟩, h.code, h.m⟩
def Ws.u_pc (s : Ws) (v : Int) : Ws := { s with r := { s.r with pc := v } }
theorem WsB.u_pc {s : Ws} (h : WsB s) {v : Int} (hv : Wd16 v) : WsB (s.u_pc v) := ⟨⟨h.r.af, h.r.bc, h.r.de, h.r.hl, h.r.af2, h.r.bc2, h.r.de2, h.r.hl2, h.r.ix, h.r.iy, h.r.sp, hv, h.r.wz, h.r.i, h.r.r, h.r.mode⟩, h.code, h.m⟩
def Ws.u_wz (s : Ws) (v : Int) : Ws := { s with r := { s.r with wz := v } }
theorem WsB.u_wz {s : Ws} (h : WsB s) {v : Int} (hv : Wd16 v) : WsB (s.u_wz v) := ⟨⟨h.r.af, h.r.bc, h.r.de, h.r.hl, h.r.af2, h.r.bc2, h.r.de2, h.r.hl2, h.r.ix, h.r.iy, h.r.sp, h.r.pc, hv, h.r.i, h.r.r, h.r.mode⟩, h.code, h.m⟩
def Ws.u_i (s : Ws) (v : Int) : Ws := { s with r := { s.r with i := v } }
theorem WsB.u_i {s : Ws} (h : WsB s) {v : Int} (hv : B8 v) : WsB (s.u_i v) := ⟨⟨h.r.af, h.r.bc, h.r.de, h.r.hl, h.r.af2, h.r.bc2, h.r.de2, h.r.hl2, h.r.ix, h.r.iy, h.r.sp, h.r.pc, h.r.wz, hv, h.r.r, h.r.mode⟩, h.code, h.m⟩
def Ws.u_r (s : Ws) (v : Int) : Ws := { s with r := { s.r with r := v } }
theorem WsB.u_r {s : Ws} (h : WsB s) {v : Int} (hv : B8 v) : WsB (s.u_r v) := ⟨⟨h.r.af, h.r.bc, h.r.de, h.r.hl, h.r.af2, h.r.bc2, h.r.de2, h.r.hl2, h.r.ix, h.r.iy, h.r.sp, h.r.pc, h.r.wz, h.r.i, hv, h.r.mode⟩, h.code, h.m⟩
def Ws.u_iff1 (s : Ws) (v : Bool) : Ws := { s with r := { s.r with iff1 := v } }
theorem WsB.u_iff1 {s : Ws} (h : WsB s) {v : Bool} : WsB (s.u_iff1 v) := ⟨⟨h.r.af, h.r.bc, h.r.de, h.r.hl, h.r.af2, h.r.bc2, h.r.de2, h.r.hl2, h.r.ix, h.r.iy, h.r.sp, h.r.pc, h.r.wz, h.r.i, h.r.r, h.r.mode⟩, h.code, h.m⟩
def Ws.u_iff2 (s : Ws) (v : Bool) : Ws := { s with r := { s.r with iff2 := v } }
theorem WsB.u_iff2 {s : Ws} (h : WsB s) {v : Bool} : WsB (s.u_iff2 v) := ⟨⟨h.r.af, h.r.bc, h.r.de, h.r.hl, h.r.af2, h.r.bc2, h.r.de2, h.r.hl2, h.r.ix, h.r.iy, h.r.sp, h.r.pc, h.r.wz, h.r.i, h.r.r, h.r.mode⟩, h.code, h.m⟩
def Ws.u_halted (s : Ws) (v : Bool) : Ws := { s with r := { s.r with halted := v } }
theorem WsB.u_halted {s : Ws} (h : WsB s) {v : Bool} : WsB (s.u_halted v) := ⟨⟨h.r.af, h.r.bc, h.r.de, h.r.hl, h.r.af2, h.r.bc2, h.r.de2, h.r.hl2, h.r.ix, h.r.iy, h.r.sp, h.r.pc, h.r.wz, h.r.i, h.r.r, h.r.mode⟩, h.code, h.m⟩
def Ws.u_late (s : Ws) (v : Bool) : Ws := { s with r := { s.r with late := v } }
theorem WsB.u_late {s : Ws} (h : WsB s) {v : Bool} : WsB (s.u_late v) := ⟨⟨h.r.af, h.r.bc, h.r.de, h.r.hl, h.r.af2, h.r.bc2, h.r.de2, h.r.hl2, h.r.ix, h.r.iy, h.r.sp, h.r.pc, h.r.wz, h.r.i, h.r.r, h.r.mode⟩, h.code, h.m⟩
def Ws.u_mode (s : Ws) (v : Int) : Ws := { s with r := { s.r with mode := v } }
theorem WsB.u_mode {s : Ws} (h : WsB s) {v : Int} (hv : -9223372036854775808 ≤ v ∧ v ≤ 9223372036854775807) : WsB (s.u_mode v) := ⟨⟨h.r.af, h.r.bc, h.r.de, h.r.hl, h.r.af2, h.r.bc2, h.r.de2, h.r.hl2, h.r.ix, h.r.iy, h.r.sp, h.r.pc, h.r.wz, h.r.i, h.r.r, hv⟩, h.code, h.m⟩
theorem WsB.u_rg {s : Ws} (h : WsB s) {g : Rg} (hg : RgB g) : WsB { s with r := g } := ⟨hg, h.code, h.m⟩
def Ws.u_plane (s : Ws) (v : Int) : Ws := { s with plane := v }
theorem WsB.u_plane {s : Ws} (h : WsB s) {v : Int} : WsB (s.u_plane v) := ⟨h.r, h.code, h.m⟩
section
attribute [local go_sem ↓] ix8_0 ix8_1 ix8_2 ix8_3 ix8_4 ix8_5 ix8_6 ix8_7
theorem ArrIs.there {w : World} {A n : Nat} {v : Nat → Value} (h : ArrIs w A n v) : w.there A 0 n := fun j hj => by
  rw [Nat.zero_add]; exact ⟨by rw [(h j hj).1]; rfl, (h j hj).2⟩
theorem Below.setCells {n : Nat} {w w' : World} (h : Below n w w') {b : Nat} (hb : n ≤ b) : ∀ (vs : List Value) (o : Nat), Below n w (w'.setCells b o vs) := by
  intro vs
  induction vs generalizing w' with
  | nil => intro o; exact h
  | cons v r ih => intro o; exact ih (h.setCell hb _) (o + 1)
end
section
variable {ops : Array Oper} {Q : Exit → Act → World → Prop} {w w0 : World} {o : Oper} {rest : List Oper} {base : List Value} {l : Slots} {p B : Nat} {s : Ws} {xs : List Int} {z : Zs}
theorem NowW.put {w' : World} {A : Option Addr} {cap : Nat} {s' : Ws} (hn : NowW w0 p B s xs z w) (hc : xs.length ≤ cap) (hby : BytesIn w B A xs) (hm : WsB s') (hr : Row w' p 89 (wC s' A xs.length cap z)) (hb : Besides p p w w') : NowW w0 p B s' xs z w' := by
  have k : ∀ b, b < B → w'.heap[b]? = w.heap[b]? := fun b hlt => hb.block b (by have := hn.at_.lt; have := hn.at_.low; omega) (by have := hn.at_.low; omega) (by have := hn.at_.low; omega)
  exact ⟨⟨⟨A, cap, hc, hr, hby.keep k⟩, hn.at_.low, hn.at_.bytes, hm, hn.at_.pos, hn.at_.big⟩, hn.bes.trans hb⟩
end
section
variable {α β : Type} {xs : List Int} {z : Zs} {G : β × Zs} {c : Prop} [Decidable c]
theorem qZ {t e : Tr β} (h : G = (if c then t else e).runZ xs z) (hc : ¬ c := by first | assumption | omega) : G = e.runZ xs z := h.trans (zif_neg hc)
variable {P : Program} {Q : Exit → Act → World → Prop} {base : List Value} {l : Slots} {w : World}
end
def Ws.hlBy (s : Ws) (d : Int) : Ws := { s with r := { s.r with hl := moveM s.r.hl d } }
def Ws.deBy (s : Ws) (d : Int) : Ws := { s with r := { s.r with de := moveM s.r.de d } }
def Ws.bcDown (s : Ws) : Ws := { s with r := { s.r with bc := (s.r.bc - 1) % 65536 } }
def tailW (y z f : Int) (s : Ws) : Tr Ws :=
  if 5 < y ∧ againM z f = true then (statesW 5 (s.af s.a f)).bind fun s => if z < 2 then .done ((s.pc ((s.r.pc - 2) % 65536)).wz (((s.r.pc - 2) % 65536 + 1) % 65536)) else .done (s.pc ((s.r.pc - 2) % 65536)) else .done (s.af s.a f)
def blockRunW (d y z : Int) (s : Ws) : Tr Ws :=
  if z = 0 then (readW s.r.hl s).bind fun b => (writeW b.2.r.de b.1 b.2).bind fun s => (statesW 2 s).bind fun s =>
    tailW y z (moveF (s.deBy d).bcDown.a b.1 (s.deBy d).bcDown.r.bc (s.deBy d).bcDown.f) ((s.deBy d).bcDown.hlBy d) else
  if z = 1 then (readW s.r.hl s).bind fun b => (statesW 5 b.2).bind fun s =>
    tailW y z (findF (s.wz (moveM s.r.wz d)).bcDown.a b.1 (s.wz (moveM s.r.wz d)).bcDown.r.bc (s.wz (moveM s.r.wz d)).bcDown.f) ((s.wz (moveM s.r.wz d)).bcDown.hlBy d) else
  if z = 2 then (statesW 1 s).bind fun s => (cycW ⟨4, s.r.bc, 0, 4⟩ s).bind fun b => (writeW (b.2.wz (moveM b.2.r.bc d)).less.r.hl b.1 (b.2.wz (moveM b.2.r.bc d)).less).bind fun s =>
    tailW y z (passF b.1 (b.1 + byC ((s.hlBy d).r.bc % 256) d) (b.2.wz (moveM b.2.r.bc d)).left) (s.hlBy d) else
  (statesW 1 s).bind fun s => (readW s.r.hl s).bind fun b => (cycW ⟨5, b.2.less.r.bc, b.1, 4⟩ (b.2.less.wz (moveM b.2.less.r.bc d))).bind fun c =>
    tailW y z (passF b.1 (b.1 + (c.2.hlBy d).r.hl % 256) b.2.left) (c.2.hlBy d)
def blockW (y z : Int) (s : Ws) : Tr Ws := if y % 2 = 1 then blockRunW (-1) y z s else blockRunW 1 y z s
def Ws.modeTo (s : Ws) (m : Int) : Ws := { s with r := { s.r with mode := m } }
def edW (c : Int) (s : Ws) : Tr Ws :=
  if fx c = 2 ∧ fz c < 4 ∧ 3 < fy c then blockW (fy c) (fz c) s else if fx c ≠ 1 then .done s else
  if fz c = 0 then (cycW ⟨4, s.r.bc, 0, 4⟩ s).bind fun b =>
    if fy c = 6 then .done ((b.2.wz ((b.2.r.bc + 1) % 65536)).af (b.2.wz ((b.2.r.bc + 1) % 65536)).a (withM (evenFM b.1) 0 (isM (b.2.wz ((b.2.r.bc + 1) % 65536)).f 0)))
    else setW (fy c) b.1 ((b.2.wz ((b.2.r.bc + 1) % 65536)).af (b.2.wz ((b.2.r.bc + 1) % 65536)).a (withM (evenFM b.1) 0 (isM (b.2.wz ((b.2.r.bc + 1) % 65536)).f 0))) else
  if fz c = 1 then (if fy c = 6 then (cycW ⟨5, s.r.bc, 0, 4⟩ s).bind fun r => .done (r.2.wz ((r.2.r.bc + 1) % 65536)) else (getW (fy c) s).bind fun b => (cycW ⟨5, b.2.r.bc, b.1, 4⟩ b.2).bind fun r => .done (r.2.wz ((r.2.r.bc + 1) % 65536))) else
  if fz c = 2 then (statesW 7 s).bind fun s =>
    if fq c = 1 then .done (((s.wz ((s.r.hl + 1) % 65536)).hlTo (adcW (s.wz ((s.r.hl + 1) % 65536)).r.hl (pairG (s.wz ((s.r.hl + 1) % 65536)).r 0 (fp c)) (isM (s.wz ((s.r.hl + 1) % 65536)).f 0))).af
        ((s.wz ((s.r.hl + 1) % 65536)).hlTo (adcW (s.wz ((s.r.hl + 1) % 65536)).r.hl (pairG (s.wz ((s.r.hl + 1) % 65536)).r 0 (fp c)) (isM (s.wz ((s.r.hl + 1) % 65536)).f 0))).a (adcF (s.wz ((s.r.hl + 1) % 65536)).r.hl (pairG (s.wz ((s.r.hl + 1) % 65536)).r 0 (fp c)) (isM (s.wz ((s.r.hl + 1) % 65536)).f 0)))
    else .done (((s.wz ((s.r.hl + 1) % 65536)).hlTo (sbcW (s.wz ((s.r.hl + 1) % 65536)).r.hl (pairG (s.wz ((s.r.hl + 1) % 65536)).r 0 (fp c)) (isM (s.wz ((s.r.hl + 1) % 65536)).f 0))).af
        ((s.wz ((s.r.hl + 1) % 65536)).hlTo (sbcW (s.wz ((s.r.hl + 1) % 65536)).r.hl (pairG (s.wz ((s.r.hl + 1) % 65536)).r 0 (fp c)) (isM (s.wz ((s.r.hl + 1) % 65536)).f 0))).a (sbcF (s.wz ((s.r.hl + 1) % 65536)).r.hl (pairG (s.wz ((s.r.hl + 1) % 65536)).r 0 (fp c)) (isM (s.wz ((s.r.hl + 1) % 65536)).f 0))) else
  if fz c = 3 then wordsW (fp c) (fq c) s else
  if fz c = 4 then .done (s.af (subR 0 s.a false) (subF 0 s.a false)) else
  if fz c = 5 then (backW s).bind fun s => .done { s with r := { s.r with iff1 := s.r.iff2 } } else
  if fz c = 6 then (if fy c % 4 = 2 then .done (s.modeTo 1) else if fy c % 4 = 3 then .done (s.modeTo 2) else .done (s.modeTo 0)) else oddW (fy c) s
def distW (plane : Int) (s : Ws) : Tr Ws := (numberW (s.at_ plane s.code)).bind fun e => (numberW ((e.2.know (moveM e.2.hl (signedM e.1))).wz (moveM e.2.hl (signedM e.1)))).bind fun c => (statesW 2 c.2).bind fun s => bitW true c.1 s
def restW (plane b : Int) (s : Ws) : Tr Ws :=
  if b = 237 then (fetchW s).bind fun c => edW c.1 (c.2.at_ 0 0) else
  if b = 203 ∧ plane = 0 then (fetchW s).bind fun c => bitW false c.1 c.2 else
  if b = 203 then distW plane s else plainW plane b s
section
variable {ops : Array Oper} {Q : Exit → Act → World → Prop} {a : Act} {w w0 : World} {o : Oper} {rest : List Oper} {p B : Nat} {s : Ws} {xs : List Int} {z : Zs} {x y : Operand}
theorem AtW.far {L : Nat} (h : AtW w p B s xs z) (hp : L ≠ p) (hB : B ≤ L) (vs : List Value) (o : Nat) : AtW (w.setCells L o vs) p B s xs z := by
  obtain ⟨⟨A, cap, hc, hr, hby⟩, hl, h8, hm, ht, hg⟩ := h
  have k : ∀ b, b < B → (w.setCells L o vs).heap[b]? = w.heap[b]? := fun b hlt => heap_setCells L b (by omega) _ _ _
  exact ⟨⟨A, cap, hc, hr.setFar (Ne.symm hp) vs o, hby.keep k⟩, hl, h8, hm, ht, hg⟩
theorem NowW.far {L : Nat} (h : NowW w0 p B s xs z w) (hp : L ≠ p) (hB : B ≤ L) (h0 : w0.heap.size ≤ L) (vs : List Value) (o : Nat) : NowW w0 p B s xs z (w.setCells L o vs) :=
  ⟨h.at_.far hp hB vs o, h.bes.setCells (.inr (.inr h0)) _ _⟩
end
def firstE : List Int → Int → Int → Ws → Except Cy (Ws × List Int)
  | [], n, b, s => if b = 221 ∨ b = 253 then .error ⟨1, s.r.pc, 0, 4⟩ else (restW n b s).run []
  | x :: ys, n, b, s => if b = 221 ∨ b = 253 then firstE ys (if b = 253 then 4 else 3) x s.pcUp.tick else (restW n b s).run (x :: ys)
def Inv (R0 : Except Cy (Ws × List Int)) (xs : List Int) (n b : Int) (s : Ws) (z : Zs) : Prop :=
  (z.lacks = false ∧ R0 = firstE (xs.drop z.pos) n b s) ∨ (z.lacks = true ∧ R0 = .error z.asked)
def OutE (w0 : World) (p B : Nat) (xs : List Int) (R : Except Cy (Ws × List Int)) : Ending → World → Prop := fun e w' =>
  e = .returned (.tuple #[]) ∧ ∃ s z, NowW w0 p B s xs z w' ∧ ((z.lacks = false ∧ ∃ ys, R = .ok (s, ys)) ∨ (z.lacks = true ∧ R = .error z.asked))
theorem OutE.rest {w0 w : World} {p B : Nat} {xs : List Int} {R : Except Cy (Ws × List Int)} {t : Tr Ws} {z z' : Zs} {s' : Ws} (hR : R = t.run (xs.drop z.pos)) (hl : z.lacks = false) (hp : z.pos ≤ xs.length) (hr : t.runZ xs z = (s', z')) (hn : NowW w0 p B s' xs z' w) : OutE w0 p B xs R (.returned (.tuple #[])) w := by
  have k := Tr.runZ_run xs t z hl hp
  rw [hr] at k
  refine ⟨rfl, s', z', hn, ?_⟩
  subst hR
  cases e : t.run (xs.drop z.pos) with
  | error c =>
    rw [e] at k
    exact .inr ⟨k.1, by rw [k.2]⟩
  | ok r =>
    obtain ⟨a, ys⟩ := r
    rw [e] at k
    have k1 : s' = a := k.1
    exact .inl ⟨k.2.1, ys, by rw [k1]⟩
theorem OutE.lacks {w0 w : World} {p B : Nat} {xs : List Int} {R : Except Cy (Ws × List Int)} {n b : Int} {s : Ws} {z : Zs} (hI : Inv R xs n b s z) (hl : z.lacks = true) (hn : NowW w0 p B s xs z w) : OutE w0 p B xs R (.returned (.tuple #[])) w :=
  ⟨rfl, s, z, hn, .inr ⟨hl, (hI.resolve_left (by rw [hl]; simp)).2⟩⟩
theorem AtW.asked {w : World} {p B : Nat} {s : Ws} {xs : List Int} {z : Zs} (h : AtW w p B s xs z) : w.rangeAt p 23 (cyC z.asked).toList := by
  obtain ⟨A, cap, hc, hr, hb⟩ := h.row
  intro j v hv
  rw [hr.cell]
  have hj : j < 4 := (List.getElem?_eq_some_iff.1 hv).1
  revert hv
  match j, hj with
  | 0, _ => exact id
  | 1, _ => exact id
  | 2, _ => exact id
  | 3, _ => exact id
  | n + 4, h => omega
def tellW : Except Cy (Ws × List Int) → Value
  | .ok (s, _) => .tuple #[cyV zeroCy, regsV s.r, .bool true]
  | .error c => .tuple #[cyV c, regsV zeroRg, .bool false]
def cyW : Except Cy (Ws × List Int) → Cy | .ok _ => zeroCy | .error c => c
def rgW : Except Cy (Ws × List Int) → Rg | .ok (s, _) => s.r | .error _ => zeroRg
def doneW : Except Cy (Ws × List Int) → Bool | .ok _ => true | .error _ => false
theorem tellW_eq (X : Except Cy (Ws × List Int)) : tellW X = .tuple #[cyV (cyW X), regsV (rgW X), .bool (doneW X)] := by
  rcases X with c | ⟨s, ys⟩ <;> rfl
def Tr.Rel {α β : Type} (R : α → β → Prop) : Tr α → Tr β → Prop
  | .done a, .done b => R a b
  | .ask c k, .ask d l => c = d ∧ ∀ b, B8 b → (k b).Rel R (l b)
  | _, _ => False
theorem Tr.Rel.mono {α β : Type} {R S : α → β → Prop} {t : Tr α} : ∀ {u : Tr β}, t.Rel R u → (∀ a b, R a b → S a b) → t.Rel S u := by
  induction t with
  | done a => intro u h hRS; cases u with
    | done b => exact hRS _ _ h
    | ask d l => exact h.elim
  | ask c k ih => intro u h hRS; cases u with
    | done b => exact h.elim
    | ask d l => exact ⟨h.1, fun b hb => ih b (h.2 b hb) hRS⟩
theorem Tr.Rel.bind {α β γ δ : Type} {R : α → β → Prop} {S : γ → δ → Prop} {t : Tr α} {f : α → Tr γ} {g : β → Tr δ} : ∀ {u : Tr β}, t.Rel R u → (∀ a b, R a b → (f a).Rel S (g b)) → (t.bind f).Rel S (u.bind g) := by
  induction t with
  | done a => intro u h hf; cases u with
    | done b => exact hf _ _ h
    | ask d l => exact h.elim
  | ask c k ih => intro u h hf; cases u with
    | done b => exact h.elim
    | ask d l => exact ⟨h.1, fun b hb => ih b (h.2 b hb) hf⟩
def Told : Except Cy (Ms × List Int) → Except Cy (Ws × List Int) → Prop
  | .ok (s, _), .ok (t, _) => s.r = t.r
  | .error c, .error d => c = d
  | _, _ => False
theorem Told.tell {X : Except Cy (Ms × List Int)} {Y : Except Cy (Ws × List Int)} (h : Told X Y) : tellV X = tellW Y := by
  rcases X with c | ⟨s, ys⟩ <;> rcases Y with d | ⟨t, zs⟩
  · have e : c = d := h
    subst e; rfl
  · exact h.elim
  · exact h.elim
  · have e : s.r = t.r := h
    rw [tellV_eq, tellW_eq]
    simp only [cyOf, rgOf, doneOf, cyW, rgW, doneW, e]
theorem grown_of_below {w w' : World} (h : Below w.heap.size w w') (row : Option Nat) : w.grownBy w' row := ⟨h.os, h.tape, h.output, h.size, fun i hi _ => h.block i hi⟩
theorem below_some {n b : Nat} {w W w1 : World} (h : Below n w W) (hg : W.grownBy w1 (some b)) (hb : n ≤ b) (hn : n ≤ W.heap.size) : Below n w w1 := h.grown hg hn fun k e => by cases e; exact hb
theorem below_own {n : Nat} {w W w1 : World} {base : Nat} {e : TypeId} {size : Nat} {v : Value} {m : Nat} {xs : List Value} (h : Below n w W) (hg : W.grownBy w1 v.ownBlock) (ho : W.ownsRow base e size v m xs) (hb : n ≤ base) (hn : n ≤ W.heap.size) : Below n w w1 :=
  h.grown hg hn fun k e => Nat.le_trans hb (ho.lt k e).1
theorem bAlloc {w W : World} (h : Below w.heap.size w W) (o : Obj) : Below w.heap.size w (W.alloc o) := Below.alloc h h.size _
theorem bOn {w W W' : World} {rs : List RowK} (h : Below w.heap.size w W) (k : Many W [] rs W') : Below w.heap.size w W' := h.trans (k.touch.below.mono h.size)
theorem Many.allocO {w0 w : World} {L : List Nat} {rs : List RowK} (h : Many w0 L rs w) (o : Obj) : Many w0 L rs (w.alloc o) := h.below (Below.alloc (Below.refl _ _) (Nat.le_refl _) _)
theorem Many.grown {w0 w w' : World} {L : List Nat} {rs : List RowK} {b : Nat} (h : Many w0 L rs w) (k : w.grownBy w' (some b)) (hb : w0.heap.size ≤ b) (hn : ∀ (i : Nat) (r : RowK), rs[i]? = some r → r.b ≠ b) : Many w0 L rs w' :=
  ⟨fun i r hr => by obtain ⟨full, h1, h2⟩ := h.rows i r hr; exact ⟨full, h1.of (k.block r.b h1.lt (by simpa using hn i r hr)), h2⟩, h.dis, h.own,
    ⟨k.os.trans h.touch.os, k.tape.trans h.touch.tape, k.output.trans h.touch.output, Nat.le_trans h.touch.size k.size, fun c hc hL => (k.block c (Nat.lt_of_lt_of_le hc h.touch.size) (by simp; omega)).trans (h.touch.block c hc hL)⟩⟩
theorem take_snoc {α : Type} (l : List α) (k : Nat) (h : k < l.length) : l.take (k + 1) = l.take k ++ [l[k]] := (List.take_append_getElem h).symm
structure LoopK where
  k : Nat
  y : Nat → Value
structure LoopV where
  k : Nat
  v : Int
  y : Nat → Value
structure LoopO where
  k : Nat
  v : Value
  y : Nat → Value
section
variable {P : Program} {ρ : Operand → Value} {o : Oper} {x y z : Operand} {V W R U : Value}
theorem xLookup {t : TypeId} {w : World} {c : Bool} (hl : (Instr.lookup t V W c).run P w = .ok R w) (ho : o.op = .lookup t x y c := by exact rfl) (hx : ρ x = V := by kernel_rfl) (hy : ρ y = W := by kernel_rfl) : (execOp ρ o).run P w = .ok (.value R) w := by
  unfold execOp
  simp only [ho, hx, hy, Sem.run_bind, Sem.run_pure, hl, Result.andThen_ok]
theorem xUpdate {t : TypeId} {w w' : World} (hl : (Instr.mapUpdate t V W U).run P w = .ok () w') (ho : o.op = .mapUpdate t x y z := by exact rfl) (hx : ρ x = V := by kernel_rfl) (hy : ρ y = W := by kernel_rfl) (hz : ρ z = U := by kernel_rfl) : (execOp ρ o).run P w = .ok .skip w' := by
  unfold execOp
  simp only [ho, hx, hy, hz, Sem.run_bind, Sem.run_pure, hl, Result.andThen_ok]
theorem xRange {t : TypeId} {w w' : World} (hl : (Instr.range t V).run P w = .ok R w') (ho : o.op = .range t x := by exact rfl) (hx : ρ x = V := by kernel_rfl) : (execOp ρ o).run P w = .ok (.value R) w' := by
  unfold execOp
  simp only [ho, hx, Sem.run_bind, Sem.run_pure, hl, Result.andThen_ok]
theorem xNext {w w' : World} (hl : (Instr.next V false o.type).run P w = .ok R w') (ho : o.op = .next x false := by exact rfl) (hx : ρ x = V := by kernel_rfl) : (execOp ρ o).run P w = .ok (.value R) w' := by
  unfold execOp
  simp only [ho, hx, Sem.run_bind, Sem.run_pure, hl, Result.andThen_ok]
theorem xEntry {w : World} (hl : (Instr.entry V).run P w = .ok R w) (ho : o.op = .entry x := by exact rfl) (hx : ρ x = V := by kernel_rfl) : (execOp ρ o).run P w = .ok (.value R) w := by
  unfold execOp
  simp only [ho, hx, Sem.run_bind, Sem.run_pure, hl, Result.andThen_ok]
theorem xMakeMap {t : TypeId} {w w' : World} (hl : (Instr.makeMap t none).run P w = .ok R w') (ho : o.op = .makeMap t none := by exact rfl) : (execOp ρ o).run P w = .ok (.value R) w' := by
  unfold execOp
  simp only [ho, Option.map_none, Sem.run_bind, Sem.run_pure, hl, Result.andThen_ok]
theorem xDelete {t u : TypeId} {w w' : World} (hl : (Builtin.delete_ #[t, u] o.type #[V, W]).run P w = .ok R w') (ho : o.op = .call { callee := .builtin .delete, args := #[x, y], argTypes := #[t, u] } := by exact rfl) (hx : ρ x = V := by kernel_rfl) (hy : ρ y = W := by kernel_rfl) : (execOp ρ o).run P w = .ok (.value R) w' := by
  unfold execOp
  simp [ho, hx, hy, resolve, invoke, builtin, Sem.run_bind, Sem.run_pure, hl, Result.andThen_ok]
theorem xIndex {t : TypeId} {w : World} (hl : (Instr.indexAt t V W).run P w = .ok R w) (ho : o.op = .indexAddr t x y := by exact rfl) (hx : ρ x = V := by kernel_rfl) (hy : ρ y = W := by kernel_rfl) : (execOp ρ o).run P w = .ok (.value R) w := by
  unfold execOp
  simp only [ho, hx, hy, Sem.run_bind, Sem.run_pure, hl, Result.andThen_ok]
theorem xBin {op : BinOp} {t r : TypeId} {w : World} (hg : (eqGuard op t x y V W).run P w = .ok () w) (hb : (binOp op t V W).run P w = .ok R w) (ho : o.op = .binOp op t x y r := by exact rfl) (hx : ρ x = V := by kernel_rfl) (hy : ρ y = W := by kernel_rfl) : (execOp ρ o).run P w = .ok (.value R) w := by
  unfold execOp
  simp only [ho, hx, hy, Sem.run_bind, Sem.run_pure, hg, hb, Result.andThen_ok]
theorem xField {t : TypeId} {f : Nat} {w : World} (hf : (Instr.fieldAt t V f).run P w = .ok R w) (ho : o.op = .fieldAddr t x f := by exact rfl) (hx : ρ x = V := by kernel_rfl) : (execOp ρ o).run P w = .ok (.value R) w := by
  unfold execOp
  simp only [ho, hx, Sem.run_bind, Sem.run_pure, hf, Result.andThen_ok]
theorem xLoad {t : TypeId} {w : World} (hl : (Instr.loadAt t V).run P w = .ok R w) (ho : o.op = .load t x := by exact rfl) (hx : ρ x = V := by kernel_rfl) : (execOp ρ o).run P w = .ok (.value R) w := by
  unfold execOp
  simp only [ho, hx, Sem.run_bind, Sem.run_pure, hl, Result.andThen_ok]
theorem xBuildS {t : TypeId} {n : Nat} {parts : Array (Nat × Operand)} {ps : Array (Nat × Value)} {w w' : World} (h : (Instr.buildSlice t n ps).run P w = .ok V w') (ho : o.op = .buildSlice t n parts := by exact rfl) (hx : (parts.map fun (i, x) => (i, ρ x)) = ps := by kernel_rfl) : (execOp ρ o).run P w = .ok (.value V) w' := by
  unfold execOp
  simp only [ho, hx, Sem.run_bind, Sem.run_pure, h, Result.andThen_ok]
theorem xConv {P : Program} {ρ : Operand → Value} {o : Oper} {x : Operand} {V R : Value} {s t : TypeId} {w : World} (hc : (convert s t V).run P w = .ok R w) (ho : o.op = .convert s t x := by exact rfl) (hx : ρ x = V := by kernel_rfl) : (execOp ρ o).run P w = .ok (.value R) w := by
  unfold execOp
  simp only [ho, hx, Sem.run_bind, Sem.run_pure, hc, Result.andThen_ok]
theorem xExtract {P : Program} {ρ : Operand → Value} {o : Oper} {x : Operand} {w : World} (V : Value) (vs : Array Value) {i : Nat} (hx : ρ x = .tuple vs := by kernel_rfl) (hi : vs[i]? = some V := by kernel_rfl) (ho : o.op = .extract x i := by exact rfl) : (execOp ρ o).run P w = .ok (.value V) w := by
  unfold execOp
  simp [ho, hx, Instr.extract, hi]
theorem xSlice {P : Program} {ρ : Operand → Value} {o : Oper} {x : Operand} {V R : Value} {t : TypeId} {lo hi mx : Option Operand} {l m n : Option Value} {w : World} (h : (Instr.sliceAt t V l m n).run P w = .ok R w) (ho : o.op = .slice t x lo hi mx := by exact rfl) (hx : ρ x = V := by kernel_rfl) (hl : lo.map ρ = l := by kernel_rfl) (hh : hi.map ρ = m := by kernel_rfl) (hm : mx.map ρ = n := by kernel_rfl) : (execOp ρ o).run P w = .ok (.value R) w := by
  unfold execOp
  simp only [ho, hx, hl, hh, hm, Sem.run_bind, Sem.run_pure, h, Result.andThen_ok]
theorem xStore {P : Program} {ρ : Operand → Value} {o : Oper} {x y : Operand} {V W : Value} {t : TypeId} {w w' : World} (h : (Instr.storeAt t V W).run P w = .ok () w') (ho : o.op = .store t x y := by exact rfl) (hx : ρ x = V := by kernel_rfl) (hy : ρ y = W := by kernel_rfl) : (execOp ρ o).run P w = .ok .skip w' := by
  unfold execOp
  simp only [ho, hx, hy, Sem.run_bind, Sem.run_pure, h, Result.andThen_ok]
end
section
variable {ρ : Operand → Value} {o : Oper} {x y : Operand}
theorem add_i64 (k : Nat) (h : k < 4611686018427387904) (w : World) : (binOp .add 3 (.int .i64 (k : Int)) (.int .i64 1)).run Tryz.prog w = .ok (.int .i64 ((k + 1 : Nat) : Int)) w := by
  have e : IntKind.i64.wrap ((k : Int) + 1) = ((k + 1 : Nat) : Int) := by simp [IntKind.wrap, IntKind.bits, IntKind.signed]; omega
  simp [go_sem, e]
theorem xInc (k : Nat) (h : k < 4611686018427387904) {r : TypeId} {w : World} (ho : o.op = .binOp .add 3 x y r := by exact rfl) (hx : ρ x = .int .i64 (k : Int) := by kernel_rfl) (hy : ρ y = .int .i64 1 := by kernel_rfl) : (execOp ρ o).run Tryz.prog w = .ok (.value (.int .i64 ((k + 1 : Nat) : Int))) w :=
  xBin (by simp [go_sem]) (add_i64 k h w) ho hx hy
theorem add_zero' (p : Addr) : p.add 0 = p := by cases p; simp [Addr.add]
theorem ldA {w : World} {p : Addr} {V : Value} (h : w.cell? p = some V) : (Instr.loadAt 22 (.pointer (some p))).run Tryz.prog w = .ok V w := by simp [go_sem, h]
theorem ldD {w : World} {p : Addr} {V : Value} (h : w.cell? p = some V) : (Instr.loadAt 5 (.pointer (some p))).run Tryz.prog w = .ok V w := by simp [go_sem, h]
theorem ixB (p : Addr) (n c k : Nat) (h : k < n) (w : World) : (Instr.indexAt 26 (.slice (some p) n c) (.int .i64 (k : Int))).run Tryz.prog w = .ok (.pointer (some (p.add k))) w := by
  simp [go_sem, h]
theorem cvI16 (a : Int) (h : 0 ≤ a ∧ a ≤ 65535) (w : World) : (convert 3 22 (.int .i64 a)).run Tryz.prog w = .ok (.int .u16 a) w := by
  have e : IntKind.u16.wrap a = a := by rw [IntKind.wrap_u16]; omega
  simp [go_sem, e]
theorem rem_i64 (k : Nat) (h : k < 65536) (w : World) : (binOp .rem 3 (.int .i64 (k : Int)) (.int .i64 65536)).run Tryz.prog w = .ok (.int .i64 (k : Int)) w := by
  have e1 : (k : Int).tmod 65536 = k := Int.tmod_eq_of_lt (by omega) (by omega)
  have e : IntKind.i64.wrap (k : Int) = (k : Int) := by rw [IntKind.wrap_i64]; omega
  simp [go_sem, e1, e]
theorem add16 (a b : Int) (w : World) : (binOp .add 22 (.int .u16 a) (.int .u16 b)).run Tryz.prog w = .ok (.int .u16 ((a + b) % 65536)) w := by simp [go_sem, IntKind.wrap_u16]
theorem guard16 (op : BinOp) (x y : Operand) (a b : Int) (w : World) : (eqGuard op 22 x y (.int .u16 a) (.int .u16 b)).run Tryz.prog w = .ok () w := by simp [go_sem]
theorem BytesIn.ld {w : World} {B : Nat} {p : Addr} {xs : List Int} (h : BytesIn w B (some p) xs) {k : Nat} (hk : k < xs.length) : (Instr.loadAt 5 (.pointer (some (p.add k)))).run Tryz.prog w = .ok (.int .u8 xs[k]) w := by
  obtain ⟨q, e, -, h1⟩ := h k _ (List.getElem?_eq_getElem hk)
  cases e
  exact ldD h1
theorem BytesIn.addr {w : World} {B : Nat} {A : Option Addr} {xs : List Int} (h : BytesIn w B A xs) {k : Nat} (hk : k < xs.length) : ∃ p, A = some p := by
  obtain ⟨q, e, -⟩ := h k _ (List.getElem?_eq_getElem hk)
  exact ⟨q, e⟩
end
structure EvQ where
  ok : Bool
  l : Slots
  fs : List ((World → Result Next) × (World → Result Next))
def evq (P : Program) (ops : Array Oper) (W : World) (n : Nat) (base : List Value) : List Oper → Slots → List ((World → Result Next) × (World → Result Next)) → EvQ
  | [], l, fs => ⟨true, l, fs⟩
  | o :: r, l, fs => match wantO ops n base l o with
    | some true => match evP P W n base l o with
      | some (l', gs) => evq P ops W n base r l' (gs ++ fs)
      | none => ⟨false, l, fs⟩
    | some false => match o.dst with
      | some d => bif Nat.blt d n then evq P ops W n base r ((d, undef) :: l) fs else ⟨false, l, fs⟩
      | none => ⟨false, l, fs⟩
    | none => ⟨false, l, fs⟩
def okQ (E : EvQ) : Prop := (E.ok, E.fs.map (·.1)) = (true, E.fs.map (·.2))
section
variable {P : Program} {ops : Array Oper} {Q : Exit → Act → World → Prop} {S : World → Prop} {base : List Value} {l : Slots} {w w0 : World} {o : Oper}
theorem evq_mem {W : World} : ∀ (os : List Oper) (l : Slots) (fs), (evq P ops W base.length base os l fs).ok = true → ∀ x ∈ fs, x ∈ (evq P ops W base.length base os l fs).fs
  | [], _, _, _ => fun _ h => h
  | o :: r, l, fs, hok => by
    unfold evq at hok ⊢
    split at hok
    · split at hok
      · rename_i l' gs he
        exact fun x hx => evq_mem r l' (gs ++ fs) hok x (List.mem_append_right _ hx)
      · cases hok
    · split at hok
      · rename_i d hd
        cases hn : Nat.blt d base.length <;> rw [hn] at hok
        · cases hok
        · exact evq_mem r _ fs hok
      · cases hok
    · cases hok
theorem pure_run {W : World} {n : Nat} (hB : partB ops n = true) (hQ : ∀ d v c a w, Q (.panic c) (a.put d v) w → Q (.panic c) a w) :
    ∀ (is : List Nat) (f : Nat) (listed : Array Bool) (l : Slots) (fs) (w : World), (evq P ops W base.length base (atO ops is) l fs).ok = true → (∀ x ∈ (evq P ops W base.length base (atO ops is) l fs).fs, x.1 = x.2) →
    ordB ops n is listed = true → S w → PO P ops Q S n base f (setO is listed) (evq P ops W base.length base (atO ops is) l fs).l w → PO P ops Q S n base (f + is.length) listed l w
  | [], f, listed, l, fs, w, _, _, _, _, h => h
  | i :: r, f, listed, l, fs, w, hok, hf, ho, hS, h => by
    simp only [ordB, Bool.and_eq_true] at ho
    obtain ⟨h1, h2, h3, h4, h5⟩ := ho
    obtain ⟨o, hoi⟩ := Option.isSome_iff_exists.1 h1
    have hat : atO ops (i :: r) = o :: atO ops r := by rw [atO, hoi]
    rw [hat] at hok hf h
    unfold evq at hok hf h
    split at hok
    case h_2 hw =>
      simp only [hw] at hf h
      split at hok
      · rename_i d hd
        simp only [hd] at hf h
        cases hn : Nat.blt d base.length <;> rw [hn] at hok
        · cases hok
        · simp only [hn, cond_true] at hf h
          have := pure_run hB hQ r f (listed.setIfInBounds i true) _ fs w hok hf h5 hS h
          refine ⟨fun hi => part_skip d hd hoi hB h2 h3 h4 (by rw [hd]; exact hQ (some d) undef) (wantO_sound hw hi) hS ?_⟩
          rw [put_actO]
          exact this.h ⟨by simpa [Nat.blt_eq] using hn, hi⟩
      · cases hok
    case h_3 => cases hok
    case h_1 hw =>
    simp only [hw] at hf h
    split at hok
    · rename_i l' gs he
      simp only [he] at hf h
      have hm := evq_mem (atO ops r) l' (gs ++ fs) hok
      have key : ∃ d v, o.dst = some d ∧ Nat.blt d base.length = true ∧ l' = (d, v) :: l ∧ ∀ w', (execOp (evO base l) o).run P w' = .ok (.value v) w' := by
        unfold evP at he
        split at he
        · rename_i d x hd hop
          cases hlt : Nat.blt d base.length <;> rw [hlt] at he
          · cases he
          · injection he with he; injection he with e1 e2
            exact ⟨d, _, hd, hlt, e1.symm, fun w' => exMove (.inl hop) w'⟩
        · rename_i d x hd hop
          cases hlt : Nat.blt d base.length <;> rw [hlt] at he
          · cases he
          · injection he with he; injection he with e1 e2
            exact ⟨d, _, hd, hlt, e1.symm, fun w' => exMove (.inr hop) w'⟩
        · rename_i d hd n1 n2
          split at he
          · rename_i v w1 hv
            cases hlt : Nat.blt d base.length <;> rw [hlt] at he
            · cases he
            · injection he with he; injection he with e1 e2
              exact ⟨d, v, hd, hlt, e1.symm, fun w' => congrFun (hf _ (hm _ (List.mem_append_left _ (by rw [← e2]; exact List.mem_cons_self)))) w'⟩
          · cases he
        · cases he
      obtain ⟨d, v, hd, hn, el, hv⟩ := key
      have := pure_run hB hQ r f (listed.setIfInBounds i true) l' (gs ++ fs) w hok hf h5 hS h
      rw [el] at this
      refine ⟨fun hi => part_take d v hd hoi hB h2 h3 h4 (by rw [hd]; exact hQ (some d) v) (wantO_sound hw hi) (fun w' hs => by rw [evO_eq hi]; exact hv w') hS ?_⟩
      rw [put_actO]
      exact this.h ⟨by simpa [Nat.blt_eq] using hn, hi⟩
    · cases hok
theorem qM {n f : Nat} {listed : Array Bool} (is : List Nat) (hS : S w) (h : PO P ops Q S n base (f - is.length) (setO is listed) (evq P ops w base.length base (atO ops is) l []).l w)
    (hk : okQ (evq P ops w base.length base (atO ops is) l []) := by unfold okQ; kernel_rfl) (ha : (ordB ops n is listed && (partB ops n && Nat.ble is.length f)) = true := by kernel_rfl)
    (hQ : ∀ d v c a w, Q (.panic c) (a.put d v) w → Q (.panic c) a w := by intro d _ _ _ _ h; cases d <;> exact h) : PO P ops Q S n base f listed l w := by
  simp only [Bool.and_eq_true] at ha
  obtain ⟨a2, a3, a4⟩ := ha
  simp only [okQ, Prod.mk.injEq] at hk
  obtain ⟨h1, h3⟩ := hk
  have hle : is.length ≤ f := by simpa using a4
  have := pure_run (S := S) (base := base) (W := w) a3 hQ is (f - is.length) listed l [] w h1 (pairs_eq h3) a2 hS h
  rwa [Nat.sub_add_cancel hle] at this
def opNo (ops : Array Oper) (i : Nat) : Oper := (ops[i]?).getD { dst := none, op := .move (.const undef), type := 0, pos := "", after := #[], guard := none }
theorem opNo_eq {ops : Array Oper} {i : Nat} (h : (ops[i]?).isSome = true) : ops[i]? = some (opNo ops i) := by
  unfold opNo
  cases e : ops[i]? with
  | none => rw [e] at h; cases h
  | some o => rfl
theorem qT {n f : Nat} {listed : Array Bool} {V : Value} (i : Nat) (hS : S w) (he : ∀ w', S w' → (execOp (evO base l) (opNo ops i)).run P w' = .ok (.value V) w') (h : PO P ops Q S n base (f - 1) (listed.setIfInBounds i true) (putO (opNo ops i).dst V l) w)
    (hd : ((opNo ops i).dst.isSome, dstO (opNo ops i).dst base.length, wantO ops base.length base l (opNo ops i)) = (true, true, some true) := by kernel_rfl) (ha : (ordB ops n [i] listed && (partB ops n && Nat.blt 0 f)) = true := by kernel_rfl)
    (hQ : ∀ d v c a w, Q (.panic c) (a.put d v) w → Q (.panic c) a w := by intro d _ _ _ _ h; cases d <;> exact h) : PO P ops Q S n base f listed l w := by
  simp only [Prod.mk.injEq] at hd
  obtain ⟨d1, d2, d3⟩ := hd
  simp only [ordB, Bool.and_eq_true] at ha
  obtain ⟨⟨a1, a2, a3, a4, -⟩, a5, a6⟩ := ha
  have ho := opNo_eq a1
  obtain ⟨d, hd⟩ := Option.isSome_iff_exists.1 d1
  have hf : f = (f - 1) + 1 := by have : 0 < f := by simpa [Nat.blt_eq] using a6
                                  omega
  rw [hf]
  refine ⟨fun hi => part_take d V hd ho a5 a2 a3 a4 (by rw [hd]; exact hQ (some d) V) (wantO_sound d3 hi) (fun w' hs => by rw [evO_eq hi]; exact he w' hs) hS ?_⟩
  rw [← hd, put_actO]
  exact h.h (inO_put d2 hi)
structure SO (P : Program) (ops : Array Oper) (Q : Exit → Act → World → Prop) (S : World → Prop) (n : Nat) (base : List Value) (f : Nat) (listed : Array Bool) (i : Nat) (l : Slots) (w : World) : Prop where
  h : inO base.length l → i ∈ Region.ready .any ops listed → HeadInv .any ops n listed → i < n ∧ wpOp P ops Q i (fun a' w' => S w' ∧ wpAnyT P .any ops Q S n (tailL P ops Q n) f (listed.setIfInBounds i true) a' w') (actO base l) w
theorem poOne {n f : Nat} {listed : Array Bool} (i : Nat) (h : SO P ops Q S n base (f - 1) listed i l w) (hr : (Region.ready .any ops listed, Nat.blt 0 f) = ([i], true) := by kernel_rfl) : PO P ops Q S n base f listed l w := by
  simp only [Prod.mk.injEq] at hr
  have hf : f = (f - 1) + 1 := by have : 0 < f := by simpa [Nat.blt_eq] using hr.2
                                  omega
  rw [hf]
  refine ⟨fun hi inv => ⟨by rw [hr.1]; simp, fun k hk => ?_⟩⟩
  have hk' := hk
  rw [hr.1] at hk
  obtain rfl : k = i := by simpa using hk
  exact h.h hi hk' inv
theorem soC {n f i : Nat} {listed : Array Bool} {g : FuncId} {args : Array Value} {R : Ending → World → Prop} (hc : Calls P g args w R) (h : ∀ e w', R e w' → ∃ V, e = .returned V ∧ S w' ∧ PO P ops Q S n base f (listed.setIfInBounds i true) (putO (opNo ops i).dst V l) w')
    (hd : (dstO (opNo ops i).dst base.length, decide (i < n), wantO ops base.length base l (opNo ops i), (ops[i]?).isSome) = (true, true, some true, true) := by kernel_rfl) (he : (execOp (evO base l) (opNo ops i)).run P w = .ok (.enter g args) w := by kernel_rfl) : SO P ops Q S n base f listed i l w := by
  simp only [Prod.mk.injEq] at hd
  obtain ⟨d1, d2, d3, d4⟩ := hd
  have ho := opNo_eq d4
  refine ⟨fun hi hr inv => ⟨of_decide_eq_true d2, ?_⟩⟩
  unfold wpOp
  simp only [ho, wantO_sound d3 hi, if_true]
  refine .inl ?_
  unfold Oper.wp
  rw [evO_eq hi, he, Oper.upon_enter]
  refine hc.mono fun e w' hR => ?_
  obtain ⟨V, rfl, hS, hp⟩ := h e w' hR
  dsimp only
  rw [put_actO]
  exact ⟨hS, hp.h (inO_put d1 hi) (inv.set hr (of_decide_eq_true d2))⟩
theorem coD {id : Nat} {y : Code} (n : Nat) (hB : Below w0.heap.size w0 w) (h : ∀ w', Below w.heap.size w w' → Below w0.heap.size w0 w' → PO P ops (Exit.then (y.wp P Q) Q) (fun w => Below w0.heap.size w0 w) n base n (Array.replicate ops.size false) l w')
    (hP : partB ops n = true := by kernel_rfl) (hm : P.follows .mixedOrders = true := by kernel_rfl) : CO P (.seq (.region id ops true) y) Q base l w :=
  coP n (hB.trans (((Below.refl w.heap.size w).drew).mono hB.size)) (h _ (Below.refl ..).drew (hB.trans (((Below.refl w.heap.size w).drew).mono hB.size))) hP hm
theorem coDz {id : Nat} (n : Nat) (hB : Below w0.heap.size w0 w) (h : ∀ w', Below w.heap.size w w' → Below w0.heap.size w0 w' → PO P ops Q (fun w => Below w0.heap.size w0 w) n base n (Array.replicate ops.size false) l w')
    (hP : partB ops n = true := by kernel_rfl) (hm : P.follows .mixedOrders = true := by kernel_rfl) : CO P (.region id ops true) Q base l w :=
  coPz n (hB.trans (((Below.refl w.heap.size w).drew).mono hB.size)) (h _ (Below.refl ..).drew (hB.trans (((Below.refl w.heap.size w).drew).mono hB.size))) hP hm
end
end Go.Proofs.YtkgaeamdhhceiaaGreatDoor
