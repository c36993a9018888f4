/- Layer 9 (text): what the package's tables hold, and the library's two. -/
import Derived.Test.YtpiadeedgjmmkaaDoorTextMath
import Derived.Test.YtpiadeedgjmmkaaDoorBitsLeaf
import Derived.Test.YtpiadeedgjmmkaaDoorBox
import Derived.Lib.LaidTab
import Derived.Lib.ItoaNum
import Derived.FnData
import Derived.Below
namespace Go.Proofs.YtpiadeedgjmmkaaDoor
open Go.RowKit
set_option linter.unusedVariables false

/-- a row of signs, as a string holds it -/
def sb (l : List Nat) : ByteArray := ⟨(l.map UInt8.ofNat).toArray⟩
/-- a table of texts -/
def Tab (w : World) (name : String) (l : List (List Nat)) : Prop := w.var? Tryd.prog name = some (l.map (fun x => Value.string (sb x))).toArray
theorem var_below {P : Program} {w w' : World} {name : String} {cs : Array Value} (h : w.var? P name = some cs) (k : Below w.heap.size w w') : w'.var? P name = some cs := by
  unfold World.var? at h ⊢
  obtain ⟨g, hg, h⟩ := Option.bind_eq_some_iff.1 h
  rw [hg, Option.bind_some]
  have hlt : g < w.heap.size := by
    rcases Nat.lt_or_ge g w.heap.size with e | e
    · exact e
    · rw [Array.getElem?_eq_none e] at h; cases h
  rw [k.block g hlt]
  exact h
theorem Tab.at_ {w : World} {name : String} {l : List (List Nat)} {g : Nat} (h : Tab w name l) (hg : Tryd.prog.globalNamed name = some g) (i : Nat) (hi : i < l.length) : w.cell? ⟨g, i, none⟩ = some (.string (sb (pick l (i : Int)))) := by
  rw [World.var?_cell hg h i]
  simp [pick, hi]
theorem Tab.of {w : World} {name : String} {l : List (List Nat)} {g : Nat} (h : Tab w name l) (hg : Tryd.prog.globalNamed name = some g) (i : Int) (h0 : 0 ≤ i) (h1 : i < l.length) : w.cell? ⟨g, i.toNat, none⟩ = some (.string (sb (pick l i))) := by
  have := h.at_ hg i.toNat (by omega)
  rwa [show ((i.toNat : Nat) : Int) = i by omega] at this
/-- all that the layer reads -/
structure TextTabs (w : World) : Prop where
  regs : Tab w "charabanc/text.registers" regN
  pairs : Tab w "charabanc/text.pairs" pairN
  stacked : Tab w "charabanc/text.stacked" stackN
  conds : Tab w "charabanc/text.conditions" condN
  sums : Tab w "charabanc/text.arithmetic" sumN
  shifts : Tab w "charabanc/text.shifts" shiftN
  modes : Tab w "charabanc/text.modes" modeN
  jumps : Tab w "charabanc/text.jumps" jumpsF
  ofPairs : Tab w "charabanc/text.ofPairs" ofPairsF
  moves : Tab w "charabanc/text.moves" movesF
  counts : Tab w "charabanc/text.counts" countsF
  onA : Tab w "charabanc/text.onA" onAF
  returns : Tab w "charabanc/text.returns" returnsF
  mixed : Tab w "charabanc/text.mixed" mixedF
  onBits : Tab w "charabanc/text.onBits" onBitsF
  carried : Tab w "charabanc/text.carried" carriedF
  stores : Tab w "charabanc/text.stores" storesF
  special : Tab w "charabanc/text.special" specialF
  blocks : Tab w "charabanc/text.blocks" blocksF
  pow : Lib.TabIs Tryd.prog w "internal/strconv.uint64pow10" .u64 Lib.pow10Tab
  bru : w.cell? ⟨3, 15, none⟩ = some (.int .u8 4)
theorem TextTabs.below {w w' : World} (h : TextTabs w) (k : Below w.heap.size w w') : TextTabs w' :=
  ⟨var_below h.regs k, var_below h.pairs k, var_below h.stacked k, var_below h.conds k, var_below h.sums k, var_below h.shifts k, var_below h.modes k, var_below h.jumps k, var_below h.ofPairs k, var_below h.moves k, var_below h.counts k, var_below h.onA k, var_below h.returns k, var_below h.mixed k, var_below h.onBits k, var_below h.carried k, var_below h.stores k, var_below h.special k, var_below h.blocks k, var_below h.pow k, cell_kept h.bru k⟩
theorem sb_size (l : List Nat) : (sb l).size = l.length := by
  show (l.map UInt8.ofNat).toArray.size = _
  simp
theorem sb_app (a b : List Nat) : sb a ++ sb b = sb (a ++ b) := by
  apply ByteArray.ext
  simp [sb]
end Go.Proofs.YtpiadeedgjmmkaaDoor
