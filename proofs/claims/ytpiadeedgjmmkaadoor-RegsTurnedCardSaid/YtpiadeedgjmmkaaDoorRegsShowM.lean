/- Layer 11 (regs): the text of registers as a list of texts; nothing of the program's functions. -/
import Derived.Test.YtpiadeedgjmmkaaDoorRegsText
import Derived.Test.YtpiadeedgjmmkaaDoorOwnHelp
namespace Go.Proofs.YtpiadeedgjmmkaaDoor
open Go.RowKit
set_option linter.unusedVariables false
set_option linter.unusedSimpArgs false

/-- an item that stands there, or not -/
def maybe (b : Bool) (s : ByteArray) : List Value := if b then [.string s] else []
def maybeB (b : Bool) (s : ByteArray) : List ByteArray := if b then [s] else []
theorem maybe_len (b : Bool) (s : ByteArray) : (maybe b s).length ≤ 1 := by cases b <;> simp [maybe]
theorem maybe_eq (b : Bool) (s : ByteArray) : maybe b s = (maybeB b s).map Value.string := by cases b <;> rfl
def showBs (g : Rg) : List ByteArray :=
  [⟨#[97, 102, 61]⟩ ++ wordB g.af, ⟨#[98, 99, 61]⟩ ++ wordB g.bc, ⟨#[100, 101, 61]⟩ ++ wordB g.de, ⟨#[104, 108, 61]⟩ ++ wordB g.hl, ⟨#[105, 120, 61]⟩ ++ wordB g.ix, ⟨#[105, 121, 61]⟩ ++ wordB g.iy, ⟨#[115, 112, 61]⟩ ++ wordB g.sp, ⟨#[112, 99, 61]⟩ ++ wordB g.pc,
    ⟨#[105, 61]⟩ ++ byteB g.i, ⟨#[114, 61]⟩ ++ byteB g.r, ⟨#[105, 109]⟩ ++ numB g.mode] ++ maybeB g.iff1 ⟨#[105, 102, 102, 49]⟩ ++ maybeB g.iff2 ⟨#[105, 102, 102, 50]⟩ ++ maybeB g.halted ⟨#[104, 97, 108, 116]⟩
theorem showBs_items (g : Rg) : (showBs g).map (·.data.toList) = showItems g := by
  unfold showBs showItems maybeB wordB byteB numB
  cases g.iff1 <;> cases g.iff2 <;> cases g.halted <;> simp
theorem showBs_len (g : Rg) : (showBs g).length ≤ 14 := by
  unfold showBs maybeB
  cases g.iff1 <;> cases g.iff2 <;> cases g.halted <;> simp
theorem showBs_pos (g : Rg) : (showBs g).length ≠ 0 := by
  unfold showBs
  simp
theorem showG_len (g : Rg) (h : -9223372036854775808 ≤ g.mode ∧ g.mode ≤ 9223372036854775807) : (showG g).length ≤ 400 := by
  have := Lib.itoa_length_le g.mode h.1 h.2
  unfold showG showItems
  generalize Lib.itoa g.mode = I at *
  cases g.iff1 <;> cases g.iff2 <;> cases g.halted <;> simp [Lib.join, List.intercalate, hex4, hex2, List.intersperse] <;> omega
end Go.Proofs.YtpiadeedgjmmkaaDoor
