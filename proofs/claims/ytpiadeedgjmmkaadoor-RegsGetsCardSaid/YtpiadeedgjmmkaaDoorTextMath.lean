/- Layer 9 (text): texts as rows of signs and of places of operands: the program's forms filled, and the document's own texts. Nothing of the program. -/
import Derived.Test.YtpiadeedgjmmkaaDoorDecodeMath
namespace Go.Proofs.YtpiadeedgjmmkaaDoor
set_option linter.unusedVariables false

/-- a digit of 16 -/
def dg (k : Int) : UInt8 := UInt8.ofNat (if k < 10 then 48 + k else 87 + k).toNat
def hex2 (n : Int) : List UInt8 := [dg (n / 16), dg (n % 16), 104]
def hex4 (n : Int) : List UInt8 := [dg (n / 4096), dg (n / 256 % 16), dg (n / 16 % 16), dg (n % 16), 104]
/-- digits of ten, below 1000 -/
def dec3 (n : Int) : List UInt8 := if n < 10 then [dg n] else if n < 100 then [dg (n / 10), dg (n % 10)] else [dg (n / 100), dg (n / 10 % 10), dg (n % 10)]
def signL (n : Int) : List UInt8 := if n < 0 then 45 :: dec3 (-n) else 43 :: dec3 n
/-- x or y, of a plane -/
def ixC (p : Int) : Nat := if p = 3 ∨ p = 5 then 120 else 121
def indexL (p d : Int) : List UInt8 := [40, 105, UInt8.ofNat (ixC p)] ++ (signL (signedM d) ++ [41])
/-- where a displacement leads to -/
def toL (m : Int) : List UInt8 := 36 :: signL (signedM (m % 256) + 2)
/-- what stands at a place: a sign, or an operand (256: n, 257: nn, 258: the target, 259: Index) -/
def tok (p d m : Int) (k : Nat) : List UInt8 := if k = 256 then hex2 (m % 256) else if k = 257 then hex4 m else if k = 258 then toL m else if k = 259 then indexL p d else [UInt8.ofNat k]
def say (p d m : Int) (l : List Nat) : List UInt8 := l.flatMap (tok p d m)
theorem say_app (p d m : Int) (a b : List Nat) : say p d m (a ++ b) = say p d m a ++ say p d m b := by simp [say]
theorem say_cons (p d m : Int) (k : Nat) (b : List Nat) : say p d m (k :: b) = tok p d m k ++ say p d m b := by simp [say]
theorem say_nil (p d m : Int) : say p d m [] = [] := rfl

/-- one of a row -/
def pick (l : List (List Nat)) (k : Int) : List Nat := l.getD k.toNat []
def regN : List (List Nat) := [[98], [99], [100], [101], [104], [108], [40, 104, 108, 41], [97]]
def pairN : List (List Nat) := [[98, 99], [100, 101], [104, 108], [115, 112]]
def stackN : List (List Nat) := [[98, 99], [100, 101], [104, 108], [97, 102]]
def condN : List (List Nat) := [[110, 122], [122], [110, 99], [99], [112, 111], [112, 101], [112], [109]]
def sumN : List (List Nat) := [[97, 100, 100, 32, 97, 44], [97, 100, 99, 32, 97, 44], [115, 117, 98, 32], [115, 98, 99, 32, 97, 44], [97, 110, 100, 32], [120, 111, 114, 32], [111, 114, 32], [99, 112, 32]]
def shiftN : List (List Nat) := [[114, 108, 99], [114, 114, 99], [114, 108], [114, 114], [115, 108, 97], [115, 114, 97], [115, 108, 108], [115, 114, 108]]
def modeN : List (List Nat) := [[48], [48], [49], [50], [48], [48], [49], [50]]
def digN : List (List Nat) := [[48], [49], [50], [51], [52], [53], [54], [55]]
def rstN : List (List Nat) := [[48, 48, 104], [48, 56, 104], [49, 48, 104], [49, 56, 104], [50, 48, 104], [50, 56, 104], [51, 48, 104], [51, 56, 104]]

/- the program's: forms, and what fills them -/
def jumpsF : List (List Nat) := [[110, 111, 112], [101, 120, 32, 97, 102, 44, 97, 102, 39], [100, 106, 110, 122, 32, 84], [106, 114, 32, 84], [106, 114, 32, 74, 44, 84], [106, 114, 32, 74, 44, 84], [106, 114, 32, 74, 44, 84], [106, 114, 32, 74, 44, 84]]
def ofPairsF : List (List Nat) := [[108, 100, 32, 80, 44, 87], [97, 100, 100, 32, 72, 44, 80]]
def movesF : List (List Nat) := [[108, 100, 32, 40, 98, 99, 41, 44, 97], [108, 100, 32, 97, 44, 40, 98, 99, 41], [108, 100, 32, 40, 100, 101, 41, 44, 97], [108, 100, 32, 97, 44, 40, 100, 101, 41], [108, 100, 32, 40, 87, 41, 44, 72], [108, 100, 32, 72, 44, 40, 87, 41], [108, 100, 32, 40, 87, 41, 44, 97], [108, 100, 32, 97, 44, 40, 87, 41]]
def countsF : List (List Nat) := [[105, 110, 99, 32, 80], [100, 101, 99, 32, 80]]
def onAF : List (List Nat) := [[114, 108, 99, 97], [114, 114, 99, 97], [114, 108, 97], [114, 114, 97], [100, 97, 97], [99, 112, 108], [115, 99, 102], [99, 99, 102]]
def returnsF : List (List Nat) := [[114, 101, 116], [101, 120, 120], [106, 112, 32, 40, 72, 41], [108, 100, 32, 115, 112, 44, 72]]
def mixedF : List (List Nat) := [[106, 112, 32, 87], [112, 114, 101, 102, 105, 120], [111, 117, 116, 32, 40, 78, 41, 44, 97], [105, 110, 32, 97, 44, 40, 78, 41], [101, 120, 32, 40, 115, 112, 41, 44, 72], [101, 120, 32, 100, 101, 44, 104, 108], [100, 105], [101, 105]]
def onBitsF : List (List Nat) := [[75, 32], [98, 105, 116, 32, 89, 44], [114, 101, 115, 32, 89, 44], [115, 101, 116, 32, 89, 44]]
def carriedF : List (List Nat) := [[115, 98, 99, 32, 72, 44, 80], [97, 100, 99, 32, 72, 44, 80]]
def storesF : List (List Nat) := [[108, 100, 32, 40, 87, 41, 44, 80], [108, 100, 32, 80, 44, 40, 87, 41]]
def specialF : List (List Nat) := [[108, 100, 32, 105, 44, 97], [108, 100, 32, 114, 44, 97], [108, 100, 32, 97, 44, 105], [108, 100, 32, 97, 44, 114], [114, 114, 100], [114, 108, 100], [110, 111, 112, 42], [110, 111, 112, 42]]
def blocksF : List (List Nat) := [[108, 100, 105], [108, 100, 100], [108, 100, 105, 114], [108, 100, 100, 114], [99, 112, 105], [99, 112, 100], [99, 112, 105, 114], [99, 112, 100, 114], [105, 110, 105], [105, 110, 100], [105, 110, 105, 114], [105, 110, 100, 114], [111, 117, 116, 105], [111, 117, 116, 100], [111, 116, 105, 114], [111, 116, 100, 114]]
def firstF (y z q : Int) : List Nat := if z = 0 then pick jumpsF y else if z = 1 then pick ofPairsF q else if z = 2 then pick movesF y else if z = 3 then pick countsF q else if z = 4 then [105, 110, 99, 32, 82] else if z = 5 then [100, 101, 99, 32, 82] else if z = 6 then [108, 100, 32, 82, 44, 78] else pick onAF y
def pushedF (p q : Int) : List Nat := if q = 0 then [112, 117, 115, 104, 32, 81] else if p = 0 then [99, 97, 108, 108, 32, 87] else [112, 114, 101, 102, 105, 120]
def lastF (y z p q : Int) : List Nat := if z = 0 then [114, 101, 116, 32, 67] else if z = 1 then (if q = 0 then [112, 111, 112, 32, 81] else pick returnsF p) else if z = 2 then [106, 112, 32, 67, 44, 87] else if z = 3 then pick mixedF y else if z = 4 then [99, 97, 108, 108, 32, 67, 44, 87] else if z = 5 then pushedF p q else if z = 6 then [65, 78] else [114, 115, 116, 32, 86]
def mainF (x y z p q : Int) : List Nat := if x = 0 then firstF y z q else if x = 1 then (if y = 6 ∧ z = 6 then [104, 97, 108, 116] else [108, 100, 32, 82, 44, 83]) else if x = 2 then [65, 83] else lastF y z p q
def nearF (x z : Int) : List Nat := if x = 1 ∨ z = 6 then pick onBitsF x ++ [73] else pick onBitsF x ++ [73] ++ [44, 83]
def singleF (y z q : Int) : List Nat := if z = 0 then (if y = 6 then [105, 110, 32, 102, 44, 40, 99, 41] else [105, 110, 32, 82, 44, 40, 99, 41]) else if z = 1 then (if y = 6 then [111, 117, 116, 32, 40, 99, 41, 44, 48] else [111, 117, 116, 32, 40, 99, 41, 44, 82]) else if z = 2 then pick carriedF q else if z = 3 then pick storesF q else if z = 4 then [110, 101, 103] else if z = 5 then (if y = 1 then [114, 101, 116, 105] else [114, 101, 116, 110]) else if z = 6 then [105, 109, 32, 77] else pick specialF y
def extendedF (x y z q : Int) : List Nat := if x = 1 then singleF y z q else if x = 2 ∧ z < 4 ∧ 4 ≤ y then pick blocksF (4 * z + (y - 4)) else [110, 111, 112, 42]
def formF (pl x y z p q : Int) : List Nat := if pl = 0 ∨ pl = 3 ∨ pl = 4 then mainF x y z p q else if pl = 1 then pick onBitsF x ++ [83] else if pl = 2 then extendedF x y z q else if pl = 5 ∨ pl = 6 then nearF x z else [63]
def ixT (p : Int) : List Nat := [105, ixC p]
/-- a name, as the plane has it -/
def nameT (pl : Int) (near : Bool) (s : List Nat) : List Nat := if pl = 3 ∨ pl = 4 then (if s = [104, 108] then ixT pl else if s = [40, 104, 108, 41] then [259] else if s = [104] ∨ s = [108] then (if near then s else ixT pl ++ s) else s) else s
/-- what a letter stands for -/
def opT (pl : Int) (near : Bool) (y z p : Int) (k : Nat) : List Nat :=
  if k = 82 then nameT pl near (pick regN y) else if k = 83 then nameT pl near (pick regN z) else if k = 80 then nameT pl near (pick pairN p) else if k = 81 then nameT pl near (pick stackN p)
  else if k = 72 then nameT pl near [104, 108] else if k = 73 then [259] else if k = 67 then pick condN y else if k = 74 then pick condN (y % 4) else if k = 65 then pick sumN y else if k = 75 then pick shiftN y
  else if k = 77 then pick modeN y else if k = 89 then pick digN y else if k = 86 then pick rstN y else if k = 78 then [256] else if k = 87 then [257] else if k = 84 then [258] else [k]
def showT (pl c : Int) : List Nat := (formF pl (fx c) (fy c) (fz c) (fp c) (fq c)).flatMap (opT pl (nearM pl c) (fy c) (fz c) (fp c))

/- the document's own -/
def on (pl : Int) : Bool := pl == 3 || pl == 4
def regT (pl : Int) (near : Bool) (k : Int) : List Nat := if on pl && k == 6 then [259] else if on pl && !near && (k == 4 || k == 5) then ixT pl ++ pick regN k else pick regN k
def pairT (pl k : Int) (last : List Nat) : List Nat := if on pl && k == 2 then ixT pl else pick [[98, 99], [100, 101], [104, 108], last] k
def zeroT (pl : Int) (near : Bool) (y z p q : Int) : List Nat :=
  if z = 0 then (if y < 4 then pick [[110, 111, 112], [101, 120, 32, 97, 102, 44, 97, 102, 39], [100, 106, 110, 122, 32] ++ [258], [106, 114, 32] ++ [258]] y else [106, 114, 32] ++ pick condN (y - 4) ++ [44] ++ [258])
  else if z = 1 then (if q = 0 then [108, 100, 32] ++ pairT pl p [115, 112] ++ [44] ++ [257] else [97, 100, 100, 32] ++ pairT pl 2 [115, 112] ++ [44] ++ pairT pl p [115, 112])
  else if z = 2 then pick [[108, 100, 32, 40, 98, 99, 41, 44, 97], [108, 100, 32, 97, 44, 40, 98, 99, 41], [108, 100, 32, 40, 100, 101, 41, 44, 97], [108, 100, 32, 97, 44, 40, 100, 101, 41], [108, 100, 32] ++ ([40] ++ [257] ++ [41]) ++ [44] ++ pairT pl 2 [115, 112], [108, 100, 32] ++ pairT pl 2 [115, 112] ++ [44] ++ ([40] ++ [257] ++ [41]), [108, 100, 32] ++ ([40] ++ [257] ++ [41]) ++ [44, 97], [108, 100, 32, 97, 44] ++ ([40] ++ [257] ++ [41])] y
  else if z = 3 then pick [[105, 110, 99, 32], [100, 101, 99, 32]] q ++ pairT pl p [115, 112]
  else if z = 4 then [105, 110, 99, 32] ++ regT pl near y else if z = 5 then [100, 101, 99, 32] ++ regT pl near y else if z = 6 then [108, 100, 32] ++ regT pl near y ++ [44] ++ [256] else pick onAF y
def threeT (pl : Int) (y z p q : Int) : List Nat :=
  if z = 0 then [114, 101, 116, 32] ++ pick condN y
  else if z = 1 then (if q = 0 then [112, 111, 112, 32] ++ pairT pl p [97, 102] else pick [[114, 101, 116], [101, 120, 120], [106, 112, 32, 40] ++ pairT pl 2 [115, 112] ++ [41], [108, 100, 32, 115, 112, 44] ++ pairT pl 2 [115, 112]] p)
  else if z = 2 then [106, 112, 32] ++ pick condN y ++ [44] ++ [257]
  else if z = 3 then pick [[106, 112, 32] ++ [257], [112, 114, 101, 102, 105, 120], [111, 117, 116, 32, 40] ++ [256] ++ [41, 44, 97], [105, 110, 32, 97, 44, 40] ++ [256] ++ [41], [101, 120, 32, 40, 115, 112, 41, 44] ++ pairT pl 2 [115, 112], [101, 120, 32, 100, 101, 44, 104, 108], [100, 105], [101, 105]] y
  else if z = 4 then [99, 97, 108, 108, 32] ++ pick condN y ++ [44] ++ [257]
  else if z = 5 then (if q = 0 then [112, 117, 115, 104, 32] ++ pairT pl p [97, 102] else if p = 0 then [99, 97, 108, 108, 32] ++ [257] else [112, 114, 101, 102, 105, 120])
  else if z = 6 then pick sumN y ++ [256] else [114, 115, 116, 32] ++ pick rstN y
def bitsT (pl x y z : Int) : List Nat :=
  let r := if pl = 1 then pick regN z else if x ≠ 1 ∧ z ≠ 6 then [259] ++ [44] ++ pick regN z else [259]
  if x = 0 then pick shiftN y ++ [32] ++ r else pick [[], [98, 105, 116, 32], [114, 101, 115, 32], [115, 101, 116, 32]] x ++ pick digN y ++ [44] ++ r
def edT (x y z p q : Int) : List Nat :=
  if x = 2 ∧ z < 4 ∧ 3 < y then (if z = 3 ∧ y < 6 then [111, 117, 116] else pick [[108, 100], [99, 112], [105, 110], [111, 116]] z) ++ pick [[105], [100], [105, 114], [100, 114]] (y - 4)
  else if x ≠ 1 then [110, 111, 112, 42]
  else if z = 0 then [105, 110, 32] ++ (if y = 6 then [102] else pick regN y) ++ [44, 40, 99, 41]
  else if z = 1 then [111, 117, 116, 32, 40, 99, 41, 44] ++ (if y = 6 then [48] else pick regN y)
  else if z = 2 then pick [[115, 98, 99, 32, 104, 108, 44], [97, 100, 99, 32, 104, 108, 44]] q ++ pick pairN p
  else if z = 3 then (if q = 0 then [108, 100, 32, 40] ++ [257] ++ [41, 44] ++ pick pairN p else [108, 100, 32] ++ pick pairN p ++ [44, 40] ++ [257] ++ [41])
  else if z = 4 then [110, 101, 103] else if z = 5 then (if y = 1 then [114, 101, 116, 105] else [114, 101, 116, 110]) else if z = 6 then [105, 109, 32] ++ pick [[48], [48], [49], [50]] (y % 4) else pick specialF y
def rshowT (pl c : Int) : List Nat :=
  if pl = 1 ∨ pl = 5 ∨ pl = 6 then bitsT pl (fx c) (fy c) (fz c) else if pl = 2 then edT (fx c) (fy c) (fz c) (fp c) (fq c)
  else if pl = 0 ∨ pl = 3 ∨ pl = 4 then (if fx c = 0 then zeroT pl (nearM pl c) (fy c) (fz c) (fp c) (fq c) else if fx c = 1 then (if fy c = 6 ∧ fz c = 6 then [104, 97, 108, 116] else [108, 100, 32] ++ regT pl (nearM pl c) (fy c) ++ [44] ++ regT pl (nearM pl c) (fz c)) else if fx c = 2 then pick sumN (fy c) ++ regT pl (nearM pl c) (fz c) else threeT pl (fy c) (fz c) (fp c) (fq c))
  else [63]
theorem show_fin : ∀ (p : Fin 7) (c : Fin 256), showT (p.val : Int) (c.val : Int) = rshowT (p.val : Int) (c.val : Int) := by decide +kernel
theorem show_same (pl c : Int) (hc : B8 c) : showT pl c = rshowT pl c := by
  by_cases h : 0 ≤ pl ∧ pl ≤ 6
  · refine byte_all (P := fun c => showT pl c = rshowT pl c) (fun x => ?_) c hc.1 hc.2
    have := show_fin ⟨pl.toNat, by omega⟩ x
    rwa [show ((⟨pl.toNat, by omega⟩ : Fin 7).val : Int) = pl by show (pl.toNat : Int) = pl; omega] at this
  · have e : formF pl (fx c) (fy c) (fz c) (fp c) (fq c) = [63] := by unfold formF; rw [if_neg (by omega), if_neg (by omega), if_neg (by omega), if_neg (by omega)]
    unfold showT rshowT
    rw [e, if_neg (by omega), if_neg (by omega), if_neg (by omega)]
    rfl
end Go.Proofs.YtpiadeedgjmmkaaDoor
