/- Plain functions that say what layer 2 (flags) answers, and facts on them; nothing of the program. -/
import Derived.Test.YtahnejcfengljaaBitsMath
namespace Go.Proofs.Ytahnejcfengljaa
set_option linter.unusedVariables false

/-- a byte -/
def B8 (x : Int) : Prop := 0 ≤ x ∧ x ≤ 255
theorem B8.lo {b : Int} (h : B8 b) : 0 ≤ b := h.1
theorem B8.hi {b : Int} (h : B8 b) : b ≤ 255 := h.2
theorem B8.with {b : Int} (h : B8 b) (n : Int) (on : Bool) : B8 (withM b n on) := withM_byte b n on h.1 h.2
theorem B8.zero : B8 0 := ⟨by omega, by omega⟩

/-- the byte of eight flags, the first the highest bit -/
def mkM (b0 b1 b2 b3 b4 b5 b6 b7 : Bool) : Int :=
  withM (withM (withM (withM (withM (withM (withM (withM 0 7 b0) 6 b1) 5 b2) 4 b3) 3 b4) 2 b5) 1 b6) 0 b7
theorem mkM_byte (b0 b1 b2 b3 b4 b5 b6 b7 : Bool) : B8 (mkM b0 b1 b2 b3 b4 b5 b6 b7) :=
  (((((((B8.zero.with 7 b0).with 6 b1).with 5 b2).with 4 b3).with 3 b4).with 2 b5).with 1 b6).with 0 b7
theorem mkM_of_fin : ∀ x : Fin 256, mkM (isM (x.val : Int) 7) (isM (x.val : Int) 6) (isM (x.val : Int) 5) (isM (x.val : Int) 4) (isM (x.val : Int) 3) (isM (x.val : Int) 2) (isM (x.val : Int) 1) (isM (x.val : Int) 0) = (x.val : Int) := by decide +kernel
theorem mkM_of (f : Int) (h : B8 f) : mkM (isM f 7) (isM f 6) (isM f 5) (isM f 4) (isM f 3) (isM f 2) (isM f 1) (isM f 0) = f :=
  byte_all (P := fun f => mkM (isM f 7) (isM f 6) (isM f 5) (isM f 4) (isM f 3) (isM f 2) (isM f 1) (isM f 0) = f) mkM_of_fin f h.1 h.2
theorem of_mkM : ∀ b0 b1 b2 b3 b4 b5 b6 b7 : Bool, isM (mkM b0 b1 b2 b3 b4 b5 b6 b7) 7 = b0 ∧ isM (mkM b0 b1 b2 b3 b4 b5 b6 b7) 6 = b1 ∧ isM (mkM b0 b1 b2 b3 b4 b5 b6 b7) 5 = b2 ∧ isM (mkM b0 b1 b2 b3 b4 b5 b6 b7) 4 = b3 ∧
    isM (mkM b0 b1 b2 b3 b4 b5 b6 b7) 3 = b4 ∧ isM (mkM b0 b1 b2 b3 b4 b5 b6 b7) 2 = b5 ∧ isM (mkM b0 b1 b2 b3 b4 b5 b6 b7) 1 = b6 ∧ isM (mkM b0 b1 b2 b3 b4 b5 b6 b7) 0 = b7 := by decide +kernel

/-- whether a condition holds -/
def testM (f cond : Int) : Bool :=
  if cond = 0 then !isM f 6 else if cond = 1 then isM f 6 else if cond = 2 then !isM f 0 else if cond = 3 then isM f 0 else
  if cond = 4 then !isM f 2 else if cond = 5 then isM f 2 else if cond = 6 then !isM f 7 else if cond = 7 then isM f 7 else false
def resultM (r : Int) : Int := mkM (isM r 7) (r == 0) (isM r 5) false (isM r 3) false false false
def evenFM (r : Int) : Int := mkM (isM r 7) (r == 0) (isM r 5) false (isM r 3) (evenM r) false false
def sel (m a b : Bool) : Bool := if m then b else a
def keepM (f old mask : Int) : Int :=
  mkM (sel (isM mask 7) (isM f 7) (isM old 7)) (sel (isM mask 6) (isM f 6) (isM old 6)) (sel (isM mask 5) (isM f 5) (isM old 5)) (sel (isM mask 4) (isM f 4) (isM old 4))
    (sel (isM mask 3) (isM f 3) (isM old 3)) (sel (isM mask 2) (isM f 2) (isM old 2)) (sel (isM mask 1) (isM f 1) (isM old 1)) (sel (isM mask 0) (isM f 0) (isM old 0))
theorem resultM_byte (r : Int) : B8 (resultM r) := mkM_byte ..
theorem evenFM_byte (r : Int) : B8 (evenFM r) := mkM_byte ..
theorem keepM_byte (f old mask : Int) : B8 (keepM f old mask) := mkM_byte ..

/-- a flag's sign in a text -/
def ch (on : Bool) (c : UInt8) : UInt8 := if on then c else 45
def txt8 (b0 b1 b2 b3 b4 b5 b6 b7 : Bool) : ByteArray := ⟨#[ch b0 83, ch b1 90, ch b2 89, ch b3 72, ch b4 88, ch b5 80, ch b6 78, ch b7 67]⟩
def showM (f : Int) : ByteArray := txt8 (isM f 7) (isM f 6) (isM f 5) (isM f 4) (isM f 3) (isM f 2) (isM f 1) (isM f 0)
end Go.Proofs.Ytahnejcfengljaa
