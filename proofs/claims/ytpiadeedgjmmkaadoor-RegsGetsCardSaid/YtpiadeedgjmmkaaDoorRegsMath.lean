/- Layer 11 (regs): what the layer answers, as plain functions over a structure of registers; nothing of the program. -/
import Derived.Test.YtpiadeedgjmmkaaDoorTextMath
import Derived.Test.YtpiadeedgjmmkaaDoorFlagsMath
import Derived.Lib.Join
import Derived.Lib.ItoaNum
namespace Go.Proofs.YtpiadeedgjmmkaaDoor
open Go.RowKit
set_option linter.unusedVariables false

/-- registers -/
structure Rg where
  af : Int
  bc : Int
  de : Int
  hl : Int
  af2 : Int
  bc2 : Int
  de2 : Int
  hl2 : Int
  ix : Int
  iy : Int
  sp : Int
  pc : Int
  wz : Int
  i : Int
  r : Int
  iff1 : Bool
  iff2 : Bool
  halted : Bool
  late : Bool
  mode : Int
deriving DecidableEq
/-- as the cells of a block hold them -/
@[reducible] def regsC (g : Rg) : Array Value := #[.int .u16 g.af, .int .u16 g.bc, .int .u16 g.de, .int .u16 g.hl, .int .u16 g.af2, .int .u16 g.bc2, .int .u16 g.de2, .int .u16 g.hl2, .int .u16 g.ix, .int .u16 g.iy, .int .u16 g.sp, .int .u16 g.pc, .int .u16 g.wz,
  .int .u8 g.i, .int .u8 g.r, .bool g.iff1, .bool g.iff2, .bool g.halted, .bool g.late, .int .i64 g.mode]
@[reducible] def regsV (g : Rg) : Value := .agg (regsC g)
/-- a word -/
def W16 (x : Int) : Prop := 0 ≤ x ∧ x ≤ 65535
theorem W16.hi {x : Int} (h : W16 x) : B8 (x / 256) := ⟨by have := h.1; omega, by have := h.2; omega⟩
theorem W16.lo8 {x : Int} (h : W16 x) : B8 (x % 256) := ⟨by omega, by omega⟩
theorem W16.mk8 {a b : Int} (ha : B8 a) (hb : B8 b) : W16 (256 * a + b) := ⟨by have := ha.1; have := hb.1; omega, by have := ha.2; have := hb.2; omega⟩
theorem W16.zero : W16 0 := ⟨by omega, by omega⟩
/-- registers within their bounds -/
structure RgB (g : Rg) : Prop where
  af : W16 g.af
  bc : W16 g.bc
  de : W16 g.de
  hl : W16 g.hl
  af2 : W16 g.af2
  bc2 : W16 g.bc2
  de2 : W16 g.de2
  hl2 : W16 g.hl2
  ix : W16 g.ix
  iy : W16 g.iy
  sp : W16 g.sp
  pc : W16 g.pc
  wz : W16 g.wz
  i : B8 g.i
  r : B8 g.r
  mode : -9223372036854775808 ≤ g.mode ∧ g.mode ≤ 9223372036854775807
/-- pairs -/
def pairG (g : Rg) (plane p : Int) : Int :=
  if p = 0 then g.bc else if p = 1 then g.de else if p = 2 then (if plane = 3 then g.ix else if plane = 4 then g.iy else g.hl) else if p = 3 then g.sp else 0
def setPairG (g : Rg) (plane p w : Int) : Rg :=
  if p = 0 then { g with bc := w } else if p = 1 then { g with de := w } else
  if p = 2 then (if plane = 3 then { g with ix := w } else if plane = 4 then { g with iy := w } else { g with hl := w }) else if p = 3 then { g with sp := w } else g
/-- registers of a byte -/
def getG (g : Rg) (plane k : Int) : Int :=
  if k = 7 then g.af / 256 else if k < 0 ∨ 5 < k then 0 else if k % 2 = 0 then pairG g plane (k / 2) / 256 else pairG g plane (k / 2) % 256
def setG (g : Rg) (plane k b : Int) : Rg :=
  if k = 7 then { g with af := 256 * b + g.af % 256 } else if k < 0 ∨ 5 < k then g else
  if k % 2 = 0 then setPairG g plane (k / 2) (256 * b + pairG g plane (k / 2) % 256) else setPairG g plane (k / 2) (256 * (pairG g plane (k / 2) / 256) + b)
def exxG (g : Rg) : Rg := { g with bc := g.bc2, de := g.de2, hl := g.hl2, bc2 := g.bc, de2 := g.de, hl2 := g.hl }
def swapG (g : Rg) : Rg := { g with af := g.af2, af2 := g.af }
def tickR (r n : Int) : Int := r / 128 * 128 + (r + n) % 128
def tickG (g : Rg) (n : Int) : Rg := { g with r := tickR g.r n }
def resetG (g : Rg) : Rg := { g with pc := 0, i := 0, r := 0, mode := 0, iff1 := false, iff2 := false, halted := false, late := false }
/-- the text -/
def showItems (g : Rg) : List (List UInt8) :=
  [[97, 102, 61] ++ hex4 g.af, [98, 99, 61] ++ hex4 g.bc, [100, 101, 61] ++ hex4 g.de, [104, 108, 61] ++ hex4 g.hl, [105, 120, 61] ++ hex4 g.ix, [105, 121, 61] ++ hex4 g.iy, [115, 112, 61] ++ hex4 g.sp, [112, 99, 61] ++ hex4 g.pc,
    [105, 61] ++ hex2 g.i, [114, 61] ++ hex2 g.r, [105, 109] ++ Lib.itoa g.mode] ++ (if g.iff1 then [[105, 102, 102, 49]] else []) ++ (if g.iff2 then [[105, 102, 102, 50]] else []) ++ (if g.halted then [[104, 97, 108, 116]] else [])
def showG (g : Rg) : List UInt8 := Lib.join (showItems g) [32]

theorem RgB.pair {g : Rg} (h : RgB g) (plane p : Int) : W16 (pairG g plane p) := by
  unfold pairG
  repeat' split
  all_goals first | exact h.bc | exact h.de | exact h.ix | exact h.iy | exact h.hl | exact h.sp | exact W16.zero
theorem RgB.setPair {g : Rg} (h : RgB g) (plane p : Int) {w : Int} (hw : W16 w) : RgB (setPairG g plane p w) := by
  obtain ⟨h1, h2, h3, h4, h5, h6, h7, h8, h9, h10, h11, h12, h13, h14, h15, h16⟩ := h
  unfold setPairG
  repeat' split
  all_goals constructor <;> assumption
theorem getG_no (g : Rg) (plane k : Int) (h : k < 0 ∨ k = 6 ∨ 7 < k) : getG g plane k = 0 := by
  unfold getG
  rw [if_neg (by omega), if_pos (by omega)]
theorem setG_no (g : Rg) (plane k b : Int) (h : k < 0 ∨ k = 6 ∨ 7 < k) : setG g plane k b = g := by
  unfold setG
  rw [if_neg (by omega), if_pos (by omega)]
theorem RgB.get {g : Rg} (h : RgB g) (plane k : Int) : B8 (getG g plane k) := by
  unfold getG
  repeat' split
  · exact h.af.hi
  · exact B8.zero
  · exact (h.pair ..).hi
  · exact (h.pair ..).lo8
theorem RgB.set {g : Rg} (h : RgB g) (plane k : Int) {b : Int} (hb : B8 b) : RgB (setG g plane k b) := by
  unfold setG
  split
  · have h' := W16.mk8 hb h.af.lo8
    obtain ⟨h1, h2, h3, h4, h5, h6, h7, h8, h9, h10, h11, h12, h13, h14, h15, h16⟩ := h
    constructor <;> assumption
  split
  · exact h
  split
  · exact h.setPair _ _ (W16.mk8 hb (h.pair ..).lo8)
  · exact h.setPair _ _ (W16.mk8 (h.pair ..).hi hb)
theorem RgB.exx {g : Rg} (h : RgB g) : RgB (exxG g) := by
  obtain ⟨h1, h2, h3, h4, h5, h6, h7, h8, h9, h10, h11, h12, h13, h14, h15, h16⟩ := h
  constructor <;> assumption
theorem RgB.swap {g : Rg} (h : RgB g) : RgB (swapG g) := by
  obtain ⟨h1, h2, h3, h4, h5, h6, h7, h8, h9, h10, h11, h12, h13, h14, h15, h16⟩ := h
  constructor <;> assumption
theorem tickR_b {r : Int} (h : B8 r) (n : Int) : B8 (tickR r n) := by
  obtain ⟨h0, h1⟩ := h
  unfold tickR
  constructor <;> omega
theorem RgB.tick {g : Rg} (h : RgB g) (n : Int) : RgB (tickG g n) := by
  have h' := tickR_b h.r n
  obtain ⟨h1, h2, h3, h4, h5, h6, h7, h8, h9, h10, h11, h12, h13, h14, h15, h16⟩ := h
  constructor <;> assumption
theorem RgB.reset {g : Rg} (h : RgB g) : RgB (resetG g) := by
  have z := W16.zero
  have z8 := B8.zero
  have zm : (-9223372036854775808 : Int) ≤ 0 ∧ (0 : Int) ≤ 9223372036854775807 := by decide
  obtain ⟨h1, h2, h3, h4, h5, h6, h7, h8, h9, h10, h11, h12, h13, h14, h15, h16⟩ := h
  constructor <;> assumption
end Go.Proofs.YtpiadeedgjmmkaaDoor
