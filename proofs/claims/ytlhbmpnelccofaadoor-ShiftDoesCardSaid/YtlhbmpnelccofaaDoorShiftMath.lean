/- Plain functions that say what layer 6 (shift) answers, and facts on them; nothing of the program. -/
import Derived.Test.YtlhbmpnelccofaaDoorLogicMath
namespace Go.Proofs.YtlhbmpnelccofaaDoor
set_option linter.unusedVariables false
set_option linter.unusedSimpArgs false

/-- the bit that is shifted in -/
def inM (kind b f : Int) : Bool :=
  if kind = 0 then isM b 7 else if kind = 1 then isM b 0 else if kind = 2 then isM f 0 else if kind = 3 then isM f 0 else
  if kind = 4 then false else if kind = 5 then isM b 7 else if kind = 6 then true else false
/-- the bit that is shifted out -/
def soutM (kind b : Int) : Bool := if kind % 2 = 0 then isM b 7 else isM b 0
def shlM (b : Int) (i : Bool) : Int := withM (turnM b 1) 0 i
def shrM (b : Int) (i : Bool) : Int := withM (turnM b (-1)) 7 i
def shM (kind b f : Int) : Int := if kind % 2 = 0 then shlM b (inM kind b f) else shrM b (inM kind b f)
def doR (kind b f : Int) : Int := if 0 ≤ kind ∧ kind < 8 then shM kind b f else b
def doF (kind b f : Int) : Int := if 0 ≤ kind ∧ kind < 8 then withM (evenFM (shM kind b f)) 0 (soutM kind b) else f
def accR (kind b f : Int) : Int := if 0 ≤ kind ∧ kind < 4 then shM kind b f else b
def accF (kind b f : Int) : Int := if 0 ≤ kind ∧ kind < 4 then linesM f (shM kind b f) false false (soutM kind b) else f
theorem shM_byte (kind b f : Int) (hb : B8 b) : B8 (shM kind b f) := by
  unfold shM shlM shrM
  split
  · exact B8.with (turnM_byte b 1 hb.1 hb.2) _ _
  · exact B8.with (turnM_byte b (-1) hb.1 hb.2) _ _
theorem doR_byte (kind b f : Int) (hb : B8 b) : B8 (doR kind b f) := by
  unfold doR
  split
  · exact shM_byte _ _ _ hb
  · exact hb
theorem doF_byte (kind b f : Int) (hf : B8 f) : B8 (doF kind b f) := by
  unfold doF
  split
  · exact B8.with (evenFM_byte _) _ _
  · exact hf
theorem accR_byte (kind b f : Int) (hb : B8 b) : B8 (accR kind b f) := by
  unfold accR
  split
  · exact shM_byte _ _ _ hb
  · exact hb
theorem accF_byte (kind b f : Int) (hf : B8 f) : B8 (accF kind b f) := by
  unfold accF
  split
  · exact linesM_byte ..
  · exact hf

/-- the document's way: bit by bit -/
def upTo (b : Int) : Int := withM (withM (withM (withM (withM (withM (withM (withM 0 1 (isM b 0)) 2 (isM b 1)) 3 (isM b 2)) 4 (isM b 3)) 5 (isM b 4)) 6 (isM b 5)) 7 (isM b 6)) 8 (isM b 7)
def downTo (b : Int) : Int := withM (withM (withM (withM (withM (withM (withM (withM 0 (-1) (isM b 0)) 0 (isM b 1)) 1 (isM b 2)) 2 (isM b 3)) 3 (isM b 4)) 4 (isM b 5)) 5 (isM b 6)) 6 (isM b 7)
theorem up_fin : ∀ (x : Fin 256) (i : Bool), withM (upTo (x.val : Int)) 0 i = shlM (x.val : Int) i ∧ withM (downTo (x.val : Int)) 7 i = shrM (x.val : Int) i := by decide +kernel
theorem up_all (b : Int) (hb : B8 b) (i : Bool) : withM (upTo b) 0 i = shlM b i ∧ withM (downTo b) 7 i = shrM b i :=
  byte_all (P := fun b => withM (upTo b) 0 i = shlM b i ∧ withM (downTo b) 7 i = shrM b i) (fun x => up_fin x i) b hb.1 hb.2

/-- the flags of a byte, and C -/
def evenC (r : Int) (c : Bool) : Int := withM (evenFM r) 0 c
theorem evenC_byte (r : Int) (c : Bool) : B8 (evenC r c) := B8.with (evenFM_byte r) _ _
theorem mk_c : ∀ b0 b1 b2 b3 b4 b5 b6 c : Bool, withM (mkM b0 b1 b2 b3 b4 b5 b6 false) 0 c = mkM b0 b1 b2 b3 b4 b5 b6 c := by decide +kernel
theorem even_or (r : Int) (c : Bool) : bits .or .u8 (evenFM r) (one c) = evenC r c := by
  unfold evenC evenFM
  rw [or_one, mk_c]
theorem lines_or (r f : Int) (c : Bool) : bits .or .u8 (keepM (resultM r) f 196) (one c) = linesM f r false false c := by
  rw [kept_math]
  unfold linesM
  rw [or_one]

/-- digits: what a gets, the high one and the low one of b -/
def digA (right : Bool) (a b : Int) : Int := a / 16 * 16 + (if right then b % 16 else b / 16)
def digB (right : Bool) (a b : Int) : Int := (if right then a % 16 else b % 16) * 16 + (if right then b / 16 else a % 16)
theorem digA_byte (right : Bool) (a b : Int) (ha : B8 a) (hb : B8 b) : B8 (digA right a b) := by
  have a0 := ha.1; have a1 := ha.2; have b0 := hb.1; have b1 := hb.2
  cases right <;> (simp only [digA, B8, if_true, if_false, Bool.false_eq_true]; omega)
theorem digB_byte (right : Bool) (a b : Int) (ha : B8 a) (hb : B8 b) : B8 (digB right a b) := by
  have a0 := ha.1; have a1 := ha.2; have b0 := hb.1; have b1 := hb.2
  cases right <;> (simp only [digB, B8, if_true, if_false, Bool.false_eq_true]; omega)
theorem low4_fin : ∀ x : Fin 256, bits .and .u8 (x.val : Int) 15 = (x.val : Int) % 16 ∧ bits .andNot .u8 (x.val : Int) 15 = (x.val : Int) / 16 * 16 := by decide +kernel
theorem low4_all (b : Int) (hb : B8 b) : bits .and .u8 b 15 = b % 16 ∧ bits .andNot .u8 b 15 = b / 16 * 16 :=
  byte_all (P := fun b => bits .and .u8 b 15 = b % 16 ∧ bits .andNot .u8 b 15 = b / 16 * 16) low4_fin b hb.1 hb.2
theorem join4_fin : ∀ x y : Fin 16, bits .or .u8 ((x.val : Int) * 16) (y.val : Int) = (x.val : Int) * 16 + (y.val : Int) := by decide +kernel
theorem join4_all (x y : Int) (h0 : 0 ≤ x) (h1 : x < 16) (h2 : 0 ≤ y) (h3 : y < 16) : bits .or .u8 (x * 16) y = x * 16 + y := by
  have := join4_fin ⟨x.toNat, by omega⟩ ⟨y.toNat, by omega⟩
  simpa [Int.toNat_of_nonneg h0, Int.toNat_of_nonneg h2] using this

/-- the flags of asking for a bit -/
def bitF (n b lines f : Int) : Int := mkM ((n == 7) && isM b n) (!isM b n) (isM lines 5) true (isM lines 3) (!isM b n) false (isM f 0)
theorem bitF_byte (n b lines f : Int) : B8 (bitF n b lines f) := mkM_byte ..
def bitG (lines f : Int) : Int := mkM false false (isM lines 5) true (isM lines 3) false false (isM f 0)
theorem bitG_byte (lines f : Int) : B8 (bitG lines f) := mkM_byte ..
theorem or16 : ∀ c : Bool, bits .or .u8 16 (one c) = mkM false false false true false false false c := by decide +kernel
theorem bit_math (lines f : Int) (hf : B8 f) : keepM (bits .or .u8 16 (bits .and .u8 f 1)) lines 40 = bitG lines f := by
  obtain ⟨z0, z1, z2, z3, z4, z5, z6, z7⟩ : isM 40 0 = false ∧ isM 40 1 = false ∧ isM 40 2 = false ∧ isM 40 3 = true ∧ isM 40 4 = false ∧ isM 40 5 = true ∧ isM 40 6 = false ∧ isM 40 7 = false := by decide +kernel
  rw [low_all f hf, or16]
  obtain ⟨e7, e6, e5, e4, e3, e2, e1, e0⟩ := of_mkM false false false true false false false (isM f 0)
  unfold keepM bitG
  rw [z0, z1, z2, z3, z4, z5, z6, z7, e0, e1, e2, e4, e6, e7]
  rfl
theorem bit_or : ∀ y x c : Bool, bits .or .u8 (bits .or .u8 (mkM false false y true x false false c) 64) 4 = mkM false true y true x true false c ∧ bits .or .u8 (mkM false false y true x false false c) 128 = mkM true false y true x false false c := by decide +kernel
theorem bit_no (n b lines f : Int) (h : isM b n = false) : bits .or .u8 (bits .or .u8 (bitG lines f) 64) 4 = bitF n b lines f := by
  unfold bitF bitG
  rw [h, (bit_or _ _ _).1]
  simp
theorem bit_seven (b lines f : Int) (h : isM b 7 = true) : bits .or .u8 (bitG lines f) 128 = bitF 7 b lines f := by
  unfold bitF bitG
  rw [h, (bit_or _ _ _).2]
  rfl
theorem bit_yes (n b lines f : Int) (h : isM b n = true) (hn : ¬ n = 7) : bitG lines f = bitF n b lines f := by
  unfold bitF bitG
  rw [h, show (n == 7) = false from by simpa using hn]
  rfl
end Go.Proofs.YtlhbmpnelccofaaDoor
