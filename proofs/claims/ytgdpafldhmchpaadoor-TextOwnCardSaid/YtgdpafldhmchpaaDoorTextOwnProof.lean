/- The statement 'TextOwn': for every input the law returns true, and each argument reads behind the call as it read before. The package's tables read as the program's text lays them (the card's tie). -/
import Derived.Test.YtgdpafldhmchpaaDoorRows
import Derived.Test.YtgdpafldhmchpaaDoorTextOwn
import Derived.WalkKit
import Derived.ProofKit
import Derived.OpenShut
import Derived.Below
import Derived.ChangeMaps5
import Derived.Carry
import Derived.Test.YtgdpafldhmchpaaDoorOpen
import Derived.Test.YtgdpafldhmchpaaDoorCards
import Derived.Test.YtgdpafldhmchpaaDoorTie
import Derived.Deep.DeepHandedRow
import Derived.Test.YtgdpafldhmchpaaDoorLaid
namespace Go.Proofs.YtgdpafldhmchpaaDoor.textOwnLaw
open Go.ChangeShapes Go.WideShapes Go.ChangeAt Go.RowKit
set_option linter.unusedVariables false
theorem own : ownKnob Tryd.prog.godebug = none := by kernel_rfl
theorem laidOut : laidOutB Tryd.prog = true := by kernel_rfl
theorem bits_deBruijn32tab_g : Tryd.prog.globalNamed "math/bits.deBruijn32tab" = some 21 := by kernel_rfl
theorem bits_deBruijn32tab_t : (Tryd.prog.globals[21]?).map (·.type) = some 118 := by kernel_rfl
theorem bits_deBruijn32tab_f : flat Tryd.prog 9 118 (Rows.laid_math_bits_deBruijn32tab : DataW Unit) = some [.int .u8 0, .int .u8 1, .int .u8 28, .int .u8 2, .int .u8 29, .int .u8 14, .int .u8 24, .int .u8 3, .int .u8 30, .int .u8 22, .int .u8 20, .int .u8 15, .int .u8 25, .int .u8 17, .int .u8 4, .int .u8 8, .int .u8 31, .int .u8 27, .int .u8 13, .int .u8 23, .int .u8 21, .int .u8 19, .int .u8 16, .int .u8 7, .int .u8 26, .int .u8 12, .int .u8 18, .int .u8 6, .int .u8 11, .int .u8 5, .int .u8 10, .int .u8 9] := by kernel_rfl
theorem bits_deBruijn32tab_var {W : World} (h : laidMetH Tryd.prog Rows.textOwnRow.laid W) : W.var? Tryd.prog "math/bits.deBruijn32tab" = some [(.int .u8 0 : Value), (.int .u8 1 : Value), (.int .u8 28 : Value), (.int .u8 2 : Value), (.int .u8 29 : Value), (.int .u8 14 : Value), (.int .u8 24 : Value), (.int .u8 3 : Value), (.int .u8 30 : Value), (.int .u8 22 : Value), (.int .u8 20 : Value), (.int .u8 15 : Value), (.int .u8 25 : Value), (.int .u8 17 : Value), (.int .u8 4 : Value), (.int .u8 8 : Value), (.int .u8 31 : Value), (.int .u8 27 : Value), (.int .u8 13 : Value), (.int .u8 23 : Value), (.int .u8 21 : Value), (.int .u8 19 : Value), (.int .u8 16 : Value), (.int .u8 7 : Value), (.int .u8 26 : Value), (.int .u8 12 : Value), (.int .u8 18 : Value), (.int .u8 6 : Value), (.int .u8 11 : Value), (.int .u8 5 : Value), (.int .u8 10 : Value), (.int .u8 9 : Value)].toArray :=
  laid_var 0 rfl bits_deBruijn32tab_g bits_deBruijn32tab_t bits_deBruijn32tab_f h
theorem bits_deBruijn64tab_g : Tryd.prog.globalNamed "math/bits.deBruijn64tab" = some 22 := by kernel_rfl
theorem bits_deBruijn64tab_t : (Tryd.prog.globals[22]?).map (·.type) = some 119 := by kernel_rfl
theorem bits_deBruijn64tab_f : flat Tryd.prog 9 119 (Rows.laid_math_bits_deBruijn64tab : DataW Unit) = some [.int .u8 0, .int .u8 1, .int .u8 56, .int .u8 2, .int .u8 57, .int .u8 49, .int .u8 28, .int .u8 3, .int .u8 61, .int .u8 58, .int .u8 42, .int .u8 50, .int .u8 38, .int .u8 29, .int .u8 17, .int .u8 4, .int .u8 62, .int .u8 47, .int .u8 59, .int .u8 36, .int .u8 45, .int .u8 43, .int .u8 51, .int .u8 22, .int .u8 53, .int .u8 39, .int .u8 33, .int .u8 30, .int .u8 24, .int .u8 18, .int .u8 12, .int .u8 5, .int .u8 63, .int .u8 55, .int .u8 48, .int .u8 27, .int .u8 60, .int .u8 41, .int .u8 37, .int .u8 16, .int .u8 46, .int .u8 35, .int .u8 44, .int .u8 21, .int .u8 52, .int .u8 32, .int .u8 23, .int .u8 11, .int .u8 54, .int .u8 26, .int .u8 40, .int .u8 15, .int .u8 34, .int .u8 20, .int .u8 31, .int .u8 10, .int .u8 25, .int .u8 14, .int .u8 19, .int .u8 9, .int .u8 13, .int .u8 8, .int .u8 7, .int .u8 6] := by kernel_rfl
theorem bits_deBruijn64tab_var {W : World} (h : laidMetH Tryd.prog Rows.textOwnRow.laid W) : W.var? Tryd.prog "math/bits.deBruijn64tab" = some [(.int .u8 0 : Value), (.int .u8 1 : Value), (.int .u8 56 : Value), (.int .u8 2 : Value), (.int .u8 57 : Value), (.int .u8 49 : Value), (.int .u8 28 : Value), (.int .u8 3 : Value), (.int .u8 61 : Value), (.int .u8 58 : Value), (.int .u8 42 : Value), (.int .u8 50 : Value), (.int .u8 38 : Value), (.int .u8 29 : Value), (.int .u8 17 : Value), (.int .u8 4 : Value), (.int .u8 62 : Value), (.int .u8 47 : Value), (.int .u8 59 : Value), (.int .u8 36 : Value), (.int .u8 45 : Value), (.int .u8 43 : Value), (.int .u8 51 : Value), (.int .u8 22 : Value), (.int .u8 53 : Value), (.int .u8 39 : Value), (.int .u8 33 : Value), (.int .u8 30 : Value), (.int .u8 24 : Value), (.int .u8 18 : Value), (.int .u8 12 : Value), (.int .u8 5 : Value), (.int .u8 63 : Value), (.int .u8 55 : Value), (.int .u8 48 : Value), (.int .u8 27 : Value), (.int .u8 60 : Value), (.int .u8 41 : Value), (.int .u8 37 : Value), (.int .u8 16 : Value), (.int .u8 46 : Value), (.int .u8 35 : Value), (.int .u8 44 : Value), (.int .u8 21 : Value), (.int .u8 52 : Value), (.int .u8 32 : Value), (.int .u8 23 : Value), (.int .u8 11 : Value), (.int .u8 54 : Value), (.int .u8 26 : Value), (.int .u8 40 : Value), (.int .u8 15 : Value), (.int .u8 34 : Value), (.int .u8 20 : Value), (.int .u8 31 : Value), (.int .u8 10 : Value), (.int .u8 25 : Value), (.int .u8 14 : Value), (.int .u8 19 : Value), (.int .u8 9 : Value), (.int .u8 13 : Value), (.int .u8 8 : Value), (.int .u8 7 : Value), (.int .u8 6 : Value)].toArray :=
  laid_var 1 rfl bits_deBruijn64tab_g bits_deBruijn64tab_t bits_deBruijn64tab_f h
theorem strconv_uint64pow10_g : Tryd.prog.globalNamed "internal/strconv.uint64pow10" = some 19 := by kernel_rfl
theorem strconv_uint64pow10_t : (Tryd.prog.globals[19]?).map (·.type) = some 104 := by kernel_rfl
theorem strconv_uint64pow10_f : flat Tryd.prog 9 104 (Rows.laid_internal_strconv_uint64pow10 : DataW Unit) = some [.int .u64 1, .int .u64 10, .int .u64 100, .int .u64 1000, .int .u64 10000, .int .u64 100000, .int .u64 1000000, .int .u64 10000000, .int .u64 100000000, .int .u64 1000000000, .int .u64 10000000000, .int .u64 100000000000, .int .u64 1000000000000, .int .u64 10000000000000, .int .u64 100000000000000, .int .u64 1000000000000000, .int .u64 10000000000000000, .int .u64 100000000000000000, .int .u64 1000000000000000000, .int .u64 10000000000000000000] := by kernel_rfl
theorem strconv_uint64pow10_var {W : World} (h : laidMetH Tryd.prog Rows.textOwnRow.laid W) : W.var? Tryd.prog "internal/strconv.uint64pow10" = some [(.int .u64 1 : Value), (.int .u64 10 : Value), (.int .u64 100 : Value), (.int .u64 1000 : Value), (.int .u64 10000 : Value), (.int .u64 100000 : Value), (.int .u64 1000000 : Value), (.int .u64 10000000 : Value), (.int .u64 100000000 : Value), (.int .u64 1000000000 : Value), (.int .u64 10000000000 : Value), (.int .u64 100000000000 : Value), (.int .u64 1000000000000 : Value), (.int .u64 10000000000000 : Value), (.int .u64 100000000000000 : Value), (.int .u64 1000000000000000 : Value), (.int .u64 10000000000000000 : Value), (.int .u64 100000000000000000 : Value), (.int .u64 1000000000000000000 : Value), (.int .u64 10000000000000000000 : Value)].toArray :=
  laid_var 2 rfl strconv_uint64pow10_g strconv_uint64pow10_t strconv_uint64pow10_f h
theorem text_registers_g : Tryd.prog.globalNamed "charabanc/text.registers" = some 1 := by kernel_rfl
theorem text_registers_t : (Tryd.prog.globals[1]?).map (·.type) = some 79 := by kernel_rfl
theorem text_registers_f : flat Tryd.prog 9 79 (Rows.laid_charabanc_text_registers : DataW Unit) = some [.string ⟨#[98]⟩, .string ⟨#[99]⟩, .string ⟨#[100]⟩, .string ⟨#[101]⟩, .string ⟨#[104]⟩, .string ⟨#[108]⟩, .string ⟨#[40, 104, 108, 41]⟩, .string ⟨#[97]⟩] := by kernel_rfl
theorem text_registers_var {W : World} (h : laidMetH Tryd.prog Rows.textOwnRow.laid W) : W.var? Tryd.prog "charabanc/text.registers" = some [(.string ⟨#[98]⟩ : Value), (.string ⟨#[99]⟩ : Value), (.string ⟨#[100]⟩ : Value), (.string ⟨#[101]⟩ : Value), (.string ⟨#[104]⟩ : Value), (.string ⟨#[108]⟩ : Value), (.string ⟨#[40, 104, 108, 41]⟩ : Value), (.string ⟨#[97]⟩ : Value)].toArray :=
  laid_var 3 rfl text_registers_g text_registers_t text_registers_f h
theorem text_pairs_g : Tryd.prog.globalNamed "charabanc/text.pairs" = some 2 := by kernel_rfl
theorem text_pairs_t : (Tryd.prog.globals[2]?).map (·.type) = some 66 := by kernel_rfl
theorem text_pairs_f : flat Tryd.prog 9 66 (Rows.laid_charabanc_text_pairs : DataW Unit) = some [.string ⟨#[98, 99]⟩, .string ⟨#[100, 101]⟩, .string ⟨#[104, 108]⟩, .string ⟨#[115, 112]⟩] := by kernel_rfl
theorem text_pairs_var {W : World} (h : laidMetH Tryd.prog Rows.textOwnRow.laid W) : W.var? Tryd.prog "charabanc/text.pairs" = some [(.string ⟨#[98, 99]⟩ : Value), (.string ⟨#[100, 101]⟩ : Value), (.string ⟨#[104, 108]⟩ : Value), (.string ⟨#[115, 112]⟩ : Value)].toArray :=
  laid_var 4 rfl text_pairs_g text_pairs_t text_pairs_f h
theorem text_stacked_g : Tryd.prog.globalNamed "charabanc/text.stacked" = some 3 := by kernel_rfl
theorem text_stacked_t : (Tryd.prog.globals[3]?).map (·.type) = some 66 := by kernel_rfl
theorem text_stacked_f : flat Tryd.prog 9 66 (Rows.laid_charabanc_text_stacked : DataW Unit) = some [.string ⟨#[98, 99]⟩, .string ⟨#[100, 101]⟩, .string ⟨#[104, 108]⟩, .string ⟨#[97, 102]⟩] := by kernel_rfl
theorem text_stacked_var {W : World} (h : laidMetH Tryd.prog Rows.textOwnRow.laid W) : W.var? Tryd.prog "charabanc/text.stacked" = some [(.string ⟨#[98, 99]⟩ : Value), (.string ⟨#[100, 101]⟩ : Value), (.string ⟨#[104, 108]⟩ : Value), (.string ⟨#[97, 102]⟩ : Value)].toArray :=
  laid_var 5 rfl text_stacked_g text_stacked_t text_stacked_f h
theorem text_conditions_g : Tryd.prog.globalNamed "charabanc/text.conditions" = some 4 := by kernel_rfl
theorem text_conditions_t : (Tryd.prog.globals[4]?).map (·.type) = some 79 := by kernel_rfl
theorem text_conditions_f : flat Tryd.prog 9 79 (Rows.laid_charabanc_text_conditions : DataW Unit) = some [.string ⟨#[110, 122]⟩, .string ⟨#[122]⟩, .string ⟨#[110, 99]⟩, .string ⟨#[99]⟩, .string ⟨#[112, 111]⟩, .string ⟨#[112, 101]⟩, .string ⟨#[112]⟩, .string ⟨#[109]⟩] := by kernel_rfl
theorem text_conditions_var {W : World} (h : laidMetH Tryd.prog Rows.textOwnRow.laid W) : W.var? Tryd.prog "charabanc/text.conditions" = some [(.string ⟨#[110, 122]⟩ : Value), (.string ⟨#[122]⟩ : Value), (.string ⟨#[110, 99]⟩ : Value), (.string ⟨#[99]⟩ : Value), (.string ⟨#[112, 111]⟩ : Value), (.string ⟨#[112, 101]⟩ : Value), (.string ⟨#[112]⟩ : Value), (.string ⟨#[109]⟩ : Value)].toArray :=
  laid_var 6 rfl text_conditions_g text_conditions_t text_conditions_f h
theorem text_arithmetic_g : Tryd.prog.globalNamed "charabanc/text.arithmetic" = some 5 := by kernel_rfl
theorem text_arithmetic_t : (Tryd.prog.globals[5]?).map (·.type) = some 79 := by kernel_rfl
theorem text_arithmetic_f : flat Tryd.prog 9 79 (Rows.laid_charabanc_text_arithmetic : DataW Unit) = some [.string ⟨#[97, 100, 100, 32, 97, 44]⟩, .string ⟨#[97, 100, 99, 32, 97, 44]⟩, .string ⟨#[115, 117, 98, 32]⟩, .string ⟨#[115, 98, 99, 32, 97, 44]⟩, .string ⟨#[97, 110, 100, 32]⟩, .string ⟨#[120, 111, 114, 32]⟩, .string ⟨#[111, 114, 32]⟩, .string ⟨#[99, 112, 32]⟩] := by kernel_rfl
theorem text_arithmetic_var {W : World} (h : laidMetH Tryd.prog Rows.textOwnRow.laid W) : W.var? Tryd.prog "charabanc/text.arithmetic" = some [(.string ⟨#[97, 100, 100, 32, 97, 44]⟩ : Value), (.string ⟨#[97, 100, 99, 32, 97, 44]⟩ : Value), (.string ⟨#[115, 117, 98, 32]⟩ : Value), (.string ⟨#[115, 98, 99, 32, 97, 44]⟩ : Value), (.string ⟨#[97, 110, 100, 32]⟩ : Value), (.string ⟨#[120, 111, 114, 32]⟩ : Value), (.string ⟨#[111, 114, 32]⟩ : Value), (.string ⟨#[99, 112, 32]⟩ : Value)].toArray :=
  laid_var 7 rfl text_arithmetic_g text_arithmetic_t text_arithmetic_f h
theorem text_shifts_g : Tryd.prog.globalNamed "charabanc/text.shifts" = some 6 := by kernel_rfl
theorem text_shifts_t : (Tryd.prog.globals[6]?).map (·.type) = some 79 := by kernel_rfl
theorem text_shifts_f : flat Tryd.prog 9 79 (Rows.laid_charabanc_text_shifts : DataW Unit) = some [.string ⟨#[114, 108, 99]⟩, .string ⟨#[114, 114, 99]⟩, .string ⟨#[114, 108]⟩, .string ⟨#[114, 114]⟩, .string ⟨#[115, 108, 97]⟩, .string ⟨#[115, 114, 97]⟩, .string ⟨#[115, 108, 108]⟩, .string ⟨#[115, 114, 108]⟩] := by kernel_rfl
theorem text_shifts_var {W : World} (h : laidMetH Tryd.prog Rows.textOwnRow.laid W) : W.var? Tryd.prog "charabanc/text.shifts" = some [(.string ⟨#[114, 108, 99]⟩ : Value), (.string ⟨#[114, 114, 99]⟩ : Value), (.string ⟨#[114, 108]⟩ : Value), (.string ⟨#[114, 114]⟩ : Value), (.string ⟨#[115, 108, 97]⟩ : Value), (.string ⟨#[115, 114, 97]⟩ : Value), (.string ⟨#[115, 108, 108]⟩ : Value), (.string ⟨#[115, 114, 108]⟩ : Value)].toArray :=
  laid_var 8 rfl text_shifts_g text_shifts_t text_shifts_f h
theorem text_modes_g : Tryd.prog.globalNamed "charabanc/text.modes" = some 7 := by kernel_rfl
theorem text_modes_t : (Tryd.prog.globals[7]?).map (·.type) = some 79 := by kernel_rfl
theorem text_modes_f : flat Tryd.prog 9 79 (Rows.laid_charabanc_text_modes : DataW Unit) = some [.string ⟨#[48]⟩, .string ⟨#[48]⟩, .string ⟨#[49]⟩, .string ⟨#[50]⟩, .string ⟨#[48]⟩, .string ⟨#[48]⟩, .string ⟨#[49]⟩, .string ⟨#[50]⟩] := by kernel_rfl
theorem text_modes_var {W : World} (h : laidMetH Tryd.prog Rows.textOwnRow.laid W) : W.var? Tryd.prog "charabanc/text.modes" = some [(.string ⟨#[48]⟩ : Value), (.string ⟨#[48]⟩ : Value), (.string ⟨#[49]⟩ : Value), (.string ⟨#[50]⟩ : Value), (.string ⟨#[48]⟩ : Value), (.string ⟨#[48]⟩ : Value), (.string ⟨#[49]⟩ : Value), (.string ⟨#[50]⟩ : Value)].toArray :=
  laid_var 9 rfl text_modes_g text_modes_t text_modes_f h
theorem text_jumps_g : Tryd.prog.globalNamed "charabanc/text.jumps" = some 9 := by kernel_rfl
theorem text_jumps_t : (Tryd.prog.globals[9]?).map (·.type) = some 79 := by kernel_rfl
theorem text_jumps_f : flat Tryd.prog 9 79 (Rows.laid_charabanc_text_jumps : DataW Unit) = some [.string ⟨#[110, 111, 112]⟩, .string ⟨#[101, 120, 32, 97, 102, 44, 97, 102, 39]⟩, .string ⟨#[100, 106, 110, 122, 32, 84]⟩, .string ⟨#[106, 114, 32, 84]⟩, .string ⟨#[106, 114, 32, 74, 44, 84]⟩, .string ⟨#[106, 114, 32, 74, 44, 84]⟩, .string ⟨#[106, 114, 32, 74, 44, 84]⟩, .string ⟨#[106, 114, 32, 74, 44, 84]⟩] := by kernel_rfl
theorem text_jumps_var {W : World} (h : laidMetH Tryd.prog Rows.textOwnRow.laid W) : W.var? Tryd.prog "charabanc/text.jumps" = some [(.string ⟨#[110, 111, 112]⟩ : Value), (.string ⟨#[101, 120, 32, 97, 102, 44, 97, 102, 39]⟩ : Value), (.string ⟨#[100, 106, 110, 122, 32, 84]⟩ : Value), (.string ⟨#[106, 114, 32, 84]⟩ : Value), (.string ⟨#[106, 114, 32, 74, 44, 84]⟩ : Value), (.string ⟨#[106, 114, 32, 74, 44, 84]⟩ : Value), (.string ⟨#[106, 114, 32, 74, 44, 84]⟩ : Value), (.string ⟨#[106, 114, 32, 74, 44, 84]⟩ : Value)].toArray :=
  laid_var 10 rfl text_jumps_g text_jumps_t text_jumps_f h
theorem text_ofPairs_g : Tryd.prog.globalNamed "charabanc/text.ofPairs" = some 10 := by kernel_rfl
theorem text_ofPairs_t : (Tryd.prog.globals[10]?).map (·.type) = some 99 := by kernel_rfl
theorem text_ofPairs_f : flat Tryd.prog 9 99 (Rows.laid_charabanc_text_ofPairs : DataW Unit) = some [.string ⟨#[108, 100, 32, 80, 44, 87]⟩, .string ⟨#[97, 100, 100, 32, 72, 44, 80]⟩] := by kernel_rfl
theorem text_ofPairs_var {W : World} (h : laidMetH Tryd.prog Rows.textOwnRow.laid W) : W.var? Tryd.prog "charabanc/text.ofPairs" = some [(.string ⟨#[108, 100, 32, 80, 44, 87]⟩ : Value), (.string ⟨#[97, 100, 100, 32, 72, 44, 80]⟩ : Value)].toArray :=
  laid_var 11 rfl text_ofPairs_g text_ofPairs_t text_ofPairs_f h
theorem text_moves_g : Tryd.prog.globalNamed "charabanc/text.moves" = some 11 := by kernel_rfl
theorem text_moves_t : (Tryd.prog.globals[11]?).map (·.type) = some 79 := by kernel_rfl
theorem text_moves_f : flat Tryd.prog 9 79 (Rows.laid_charabanc_text_moves : DataW Unit) = some [.string ⟨#[108, 100, 32, 40, 98, 99, 41, 44, 97]⟩, .string ⟨#[108, 100, 32, 97, 44, 40, 98, 99, 41]⟩, .string ⟨#[108, 100, 32, 40, 100, 101, 41, 44, 97]⟩, .string ⟨#[108, 100, 32, 97, 44, 40, 100, 101, 41]⟩, .string ⟨#[108, 100, 32, 40, 87, 41, 44, 72]⟩, .string ⟨#[108, 100, 32, 72, 44, 40, 87, 41]⟩, .string ⟨#[108, 100, 32, 40, 87, 41, 44, 97]⟩, .string ⟨#[108, 100, 32, 97, 44, 40, 87, 41]⟩] := by kernel_rfl
theorem text_moves_var {W : World} (h : laidMetH Tryd.prog Rows.textOwnRow.laid W) : W.var? Tryd.prog "charabanc/text.moves" = some [(.string ⟨#[108, 100, 32, 40, 98, 99, 41, 44, 97]⟩ : Value), (.string ⟨#[108, 100, 32, 97, 44, 40, 98, 99, 41]⟩ : Value), (.string ⟨#[108, 100, 32, 40, 100, 101, 41, 44, 97]⟩ : Value), (.string ⟨#[108, 100, 32, 97, 44, 40, 100, 101, 41]⟩ : Value), (.string ⟨#[108, 100, 32, 40, 87, 41, 44, 72]⟩ : Value), (.string ⟨#[108, 100, 32, 72, 44, 40, 87, 41]⟩ : Value), (.string ⟨#[108, 100, 32, 40, 87, 41, 44, 97]⟩ : Value), (.string ⟨#[108, 100, 32, 97, 44, 40, 87, 41]⟩ : Value)].toArray :=
  laid_var 12 rfl text_moves_g text_moves_t text_moves_f h
theorem text_counts_g : Tryd.prog.globalNamed "charabanc/text.counts" = some 12 := by kernel_rfl
theorem text_counts_t : (Tryd.prog.globals[12]?).map (·.type) = some 99 := by kernel_rfl
theorem text_counts_f : flat Tryd.prog 9 99 (Rows.laid_charabanc_text_counts : DataW Unit) = some [.string ⟨#[105, 110, 99, 32, 80]⟩, .string ⟨#[100, 101, 99, 32, 80]⟩] := by kernel_rfl
theorem text_counts_var {W : World} (h : laidMetH Tryd.prog Rows.textOwnRow.laid W) : W.var? Tryd.prog "charabanc/text.counts" = some [(.string ⟨#[105, 110, 99, 32, 80]⟩ : Value), (.string ⟨#[100, 101, 99, 32, 80]⟩ : Value)].toArray :=
  laid_var 13 rfl text_counts_g text_counts_t text_counts_f h
theorem text_onA_g : Tryd.prog.globalNamed "charabanc/text.onA" = some 13 := by kernel_rfl
theorem text_onA_t : (Tryd.prog.globals[13]?).map (·.type) = some 79 := by kernel_rfl
theorem text_onA_f : flat Tryd.prog 9 79 (Rows.laid_charabanc_text_onA : DataW Unit) = some [.string ⟨#[114, 108, 99, 97]⟩, .string ⟨#[114, 114, 99, 97]⟩, .string ⟨#[114, 108, 97]⟩, .string ⟨#[114, 114, 97]⟩, .string ⟨#[100, 97, 97]⟩, .string ⟨#[99, 112, 108]⟩, .string ⟨#[115, 99, 102]⟩, .string ⟨#[99, 99, 102]⟩] := by kernel_rfl
theorem text_onA_var {W : World} (h : laidMetH Tryd.prog Rows.textOwnRow.laid W) : W.var? Tryd.prog "charabanc/text.onA" = some [(.string ⟨#[114, 108, 99, 97]⟩ : Value), (.string ⟨#[114, 114, 99, 97]⟩ : Value), (.string ⟨#[114, 108, 97]⟩ : Value), (.string ⟨#[114, 114, 97]⟩ : Value), (.string ⟨#[100, 97, 97]⟩ : Value), (.string ⟨#[99, 112, 108]⟩ : Value), (.string ⟨#[115, 99, 102]⟩ : Value), (.string ⟨#[99, 99, 102]⟩ : Value)].toArray :=
  laid_var 14 rfl text_onA_g text_onA_t text_onA_f h
theorem text_returns_g : Tryd.prog.globalNamed "charabanc/text.returns" = some 14 := by kernel_rfl
theorem text_returns_t : (Tryd.prog.globals[14]?).map (·.type) = some 66 := by kernel_rfl
theorem text_returns_f : flat Tryd.prog 9 66 (Rows.laid_charabanc_text_returns : DataW Unit) = some [.string ⟨#[114, 101, 116]⟩, .string ⟨#[101, 120, 120]⟩, .string ⟨#[106, 112, 32, 40, 72, 41]⟩, .string ⟨#[108, 100, 32, 115, 112, 44, 72]⟩] := by kernel_rfl
theorem text_returns_var {W : World} (h : laidMetH Tryd.prog Rows.textOwnRow.laid W) : W.var? Tryd.prog "charabanc/text.returns" = some [(.string ⟨#[114, 101, 116]⟩ : Value), (.string ⟨#[101, 120, 120]⟩ : Value), (.string ⟨#[106, 112, 32, 40, 72, 41]⟩ : Value), (.string ⟨#[108, 100, 32, 115, 112, 44, 72]⟩ : Value)].toArray :=
  laid_var 15 rfl text_returns_g text_returns_t text_returns_f h
theorem text_mixed_g : Tryd.prog.globalNamed "charabanc/text.mixed" = some 15 := by kernel_rfl
theorem text_mixed_t : (Tryd.prog.globals[15]?).map (·.type) = some 79 := by kernel_rfl
theorem text_mixed_f : flat Tryd.prog 9 79 (Rows.laid_charabanc_text_mixed : DataW Unit) = some [.string ⟨#[106, 112, 32, 87]⟩, .string ⟨#[112, 114, 101, 102, 105, 120]⟩, .string ⟨#[111, 117, 116, 32, 40, 78, 41, 44, 97]⟩, .string ⟨#[105, 110, 32, 97, 44, 40, 78, 41]⟩, .string ⟨#[101, 120, 32, 40, 115, 112, 41, 44, 72]⟩, .string ⟨#[101, 120, 32, 100, 101, 44, 104, 108]⟩, .string ⟨#[100, 105]⟩, .string ⟨#[101, 105]⟩] := by kernel_rfl
theorem text_mixed_var {W : World} (h : laidMetH Tryd.prog Rows.textOwnRow.laid W) : W.var? Tryd.prog "charabanc/text.mixed" = some [(.string ⟨#[106, 112, 32, 87]⟩ : Value), (.string ⟨#[112, 114, 101, 102, 105, 120]⟩ : Value), (.string ⟨#[111, 117, 116, 32, 40, 78, 41, 44, 97]⟩ : Value), (.string ⟨#[105, 110, 32, 97, 44, 40, 78, 41]⟩ : Value), (.string ⟨#[101, 120, 32, 40, 115, 112, 41, 44, 72]⟩ : Value), (.string ⟨#[101, 120, 32, 100, 101, 44, 104, 108]⟩ : Value), (.string ⟨#[100, 105]⟩ : Value), (.string ⟨#[101, 105]⟩ : Value)].toArray :=
  laid_var 16 rfl text_mixed_g text_mixed_t text_mixed_f h
theorem text_onBits_g : Tryd.prog.globalNamed "charabanc/text.onBits" = some 0 := by kernel_rfl
theorem text_onBits_t : (Tryd.prog.globals[0]?).map (·.type) = some 66 := by kernel_rfl
theorem text_onBits_f : flat Tryd.prog 9 66 (Rows.laid_charabanc_text_onBits : DataW Unit) = some [.string ⟨#[75, 32]⟩, .string ⟨#[98, 105, 116, 32, 89, 44]⟩, .string ⟨#[114, 101, 115, 32, 89, 44]⟩, .string ⟨#[115, 101, 116, 32, 89, 44]⟩] := by kernel_rfl
theorem text_onBits_var {W : World} (h : laidMetH Tryd.prog Rows.textOwnRow.laid W) : W.var? Tryd.prog "charabanc/text.onBits" = some [(.string ⟨#[75, 32]⟩ : Value), (.string ⟨#[98, 105, 116, 32, 89, 44]⟩ : Value), (.string ⟨#[114, 101, 115, 32, 89, 44]⟩ : Value), (.string ⟨#[115, 101, 116, 32, 89, 44]⟩ : Value)].toArray :=
  laid_var 17 rfl text_onBits_g text_onBits_t text_onBits_f h
theorem text_carried_g : Tryd.prog.globalNamed "charabanc/text.carried" = some 16 := by kernel_rfl
theorem text_carried_t : (Tryd.prog.globals[16]?).map (·.type) = some 99 := by kernel_rfl
theorem text_carried_f : flat Tryd.prog 9 99 (Rows.laid_charabanc_text_carried : DataW Unit) = some [.string ⟨#[115, 98, 99, 32, 72, 44, 80]⟩, .string ⟨#[97, 100, 99, 32, 72, 44, 80]⟩] := by kernel_rfl
theorem text_carried_var {W : World} (h : laidMetH Tryd.prog Rows.textOwnRow.laid W) : W.var? Tryd.prog "charabanc/text.carried" = some [(.string ⟨#[115, 98, 99, 32, 72, 44, 80]⟩ : Value), (.string ⟨#[97, 100, 99, 32, 72, 44, 80]⟩ : Value)].toArray :=
  laid_var 18 rfl text_carried_g text_carried_t text_carried_f h
theorem text_stores_g : Tryd.prog.globalNamed "charabanc/text.stores" = some 17 := by kernel_rfl
theorem text_stores_t : (Tryd.prog.globals[17]?).map (·.type) = some 99 := by kernel_rfl
theorem text_stores_f : flat Tryd.prog 9 99 (Rows.laid_charabanc_text_stores : DataW Unit) = some [.string ⟨#[108, 100, 32, 40, 87, 41, 44, 80]⟩, .string ⟨#[108, 100, 32, 80, 44, 40, 87, 41]⟩] := by kernel_rfl
theorem text_stores_var {W : World} (h : laidMetH Tryd.prog Rows.textOwnRow.laid W) : W.var? Tryd.prog "charabanc/text.stores" = some [(.string ⟨#[108, 100, 32, 40, 87, 41, 44, 80]⟩ : Value), (.string ⟨#[108, 100, 32, 80, 44, 40, 87, 41]⟩ : Value)].toArray :=
  laid_var 19 rfl text_stores_g text_stores_t text_stores_f h
theorem text_special_g : Tryd.prog.globalNamed "charabanc/text.special" = some 18 := by kernel_rfl
theorem text_special_t : (Tryd.prog.globals[18]?).map (·.type) = some 79 := by kernel_rfl
theorem text_special_f : flat Tryd.prog 9 79 (Rows.laid_charabanc_text_special : DataW Unit) = some [.string ⟨#[108, 100, 32, 105, 44, 97]⟩, .string ⟨#[108, 100, 32, 114, 44, 97]⟩, .string ⟨#[108, 100, 32, 97, 44, 105]⟩, .string ⟨#[108, 100, 32, 97, 44, 114]⟩, .string ⟨#[114, 114, 100]⟩, .string ⟨#[114, 108, 100]⟩, .string ⟨#[110, 111, 112, 42]⟩, .string ⟨#[110, 111, 112, 42]⟩] := by kernel_rfl
theorem text_special_var {W : World} (h : laidMetH Tryd.prog Rows.textOwnRow.laid W) : W.var? Tryd.prog "charabanc/text.special" = some [(.string ⟨#[108, 100, 32, 105, 44, 97]⟩ : Value), (.string ⟨#[108, 100, 32, 114, 44, 97]⟩ : Value), (.string ⟨#[108, 100, 32, 97, 44, 105]⟩ : Value), (.string ⟨#[108, 100, 32, 97, 44, 114]⟩ : Value), (.string ⟨#[114, 114, 100]⟩ : Value), (.string ⟨#[114, 108, 100]⟩ : Value), (.string ⟨#[110, 111, 112, 42]⟩ : Value), (.string ⟨#[110, 111, 112, 42]⟩ : Value)].toArray :=
  laid_var 20 rfl text_special_g text_special_t text_special_f h
theorem text_blocks_g : Tryd.prog.globalNamed "charabanc/text.blocks" = some 8 := by kernel_rfl
theorem text_blocks_t : (Tryd.prog.globals[8]?).map (·.type) = some 82 := by kernel_rfl
theorem text_blocks_f : flat Tryd.prog 9 82 (Rows.laid_charabanc_text_blocks : DataW Unit) = some [.string ⟨#[108, 100, 105]⟩, .string ⟨#[108, 100, 100]⟩, .string ⟨#[108, 100, 105, 114]⟩, .string ⟨#[108, 100, 100, 114]⟩, .string ⟨#[99, 112, 105]⟩, .string ⟨#[99, 112, 100]⟩, .string ⟨#[99, 112, 105, 114]⟩, .string ⟨#[99, 112, 100, 114]⟩, .string ⟨#[105, 110, 105]⟩, .string ⟨#[105, 110, 100]⟩, .string ⟨#[105, 110, 105, 114]⟩, .string ⟨#[105, 110, 100, 114]⟩, .string ⟨#[111, 117, 116, 105]⟩, .string ⟨#[111, 117, 116, 100]⟩, .string ⟨#[111, 116, 105, 114]⟩, .string ⟨#[111, 116, 100, 114]⟩] := by kernel_rfl
theorem text_blocks_var {W : World} (h : laidMetH Tryd.prog Rows.textOwnRow.laid W) : W.var? Tryd.prog "charabanc/text.blocks" = some [(.string ⟨#[108, 100, 105]⟩ : Value), (.string ⟨#[108, 100, 100]⟩ : Value), (.string ⟨#[108, 100, 105, 114]⟩ : Value), (.string ⟨#[108, 100, 100, 114]⟩ : Value), (.string ⟨#[99, 112, 105]⟩ : Value), (.string ⟨#[99, 112, 100]⟩ : Value), (.string ⟨#[99, 112, 105, 114]⟩ : Value), (.string ⟨#[99, 112, 100, 114]⟩ : Value), (.string ⟨#[105, 110, 105]⟩ : Value), (.string ⟨#[105, 110, 100]⟩ : Value), (.string ⟨#[105, 110, 105, 114]⟩ : Value), (.string ⟨#[105, 110, 100, 114]⟩ : Value), (.string ⟨#[111, 117, 116, 105]⟩ : Value), (.string ⟨#[111, 117, 116, 100]⟩ : Value), (.string ⟨#[111, 116, 105, 114]⟩ : Value), (.string ⟨#[111, 116, 100, 114]⟩ : Value)].toArray :=
  laid_var 21 rfl text_blocks_g text_blocks_t text_blocks_f h
theorem textTabsAt {W : World} (h : laidMetH Tryd.prog Rows.textOwnRow.laid W) : TextTabs W :=
  ⟨text_registers_var h, text_pairs_var h, text_stacked_var h, text_conditions_var h, text_arithmetic_var h, text_shifts_var h, text_modes_var h, text_jumps_var h, text_ofPairs_var h, text_moves_var h, text_counts_var h, text_onA_var h, text_returns_var h, text_mixed_var h, text_onBits_var h, text_carried_var h, text_stores_var h, text_special_var h, text_blocks_var h, strconv_uint64pow10_var h, laid_cell (bits_deBruijn64tab_var h) bits_deBruijn64tab_g 15 _ rfl⟩
set_option maxRecDepth 100000 in
theorem contract (H : Type) (enc : TypeId × Value → H) (W : World) (base : Nat) (args : Array Value) (ds gs : List (DataW H)) (before : List MemPlace)
    (hval : ∀ (j : Nat) t v, Tryd.f5.params[j]? = some t → args[j]? = some v → Value.okWide Tryd.prog W .any base t v)
    (hW : DataW.Whole enc Tryd.prog Tryd.f5.params.toList Rows.textOwnSpec.vars false W args.toList ds gs before) (hL : laidMetH Tryd.prog Rows.textOwnRow.laid W) :
    Calls Tryd.prog 5 args W fun e W' => ∃ v, e = .returned v ∧ Rows.textOwnSpec.post enc Tryd.prog Tryd.f5 false true false false W args v W' := by
  have hW' := hW
  obtain ⟨p, q, hA0, hV, rfl, hfz, hnd⟩ := hW
  have hA : DataW.TrodAll enc Tryd.prog W 0 (fun _ => true) true Tryd.f5.params.toList args.toList ds p := hA0
  rw [Tryd.params5] at hA hval
  obtain ⟨v0, vs0, d0, ds0, p0, q0, hargs, rfl, rfl, h0, r0⟩ := trodAll_cons hA
  obtain ⟨v1, vs1, d1, ds1, p1, q1, rfl, rfl, rfl, h1, r1⟩ := trodAll_cons r0
  obtain ⟨rfl, rfl, rfl⟩ := trodAll_nil r1
  obtain rfl : args = #[v0, v1] := by cases args; simp_all
  obtain ⟨rfl, rfl⟩ := trodVars_none hV
  obtain ⟨a0, rfl, rfl, rfl, w0⟩ := open_int Tryd.underlying5 (hval 0 5 v0 rfl rfl) h0
  have b0 := bounds_u8 w0
  obtain ⟨a1, rfl, rfl, rfl, w1⟩ := open_int Tryd.underlying22 (hval 1 22 v1 rfl rfl) h1
  have b1 := bounds_u16 w1
  clear hA0
  refine (textOwn_walk a0 a1 (by omega) (by omega) (by omega) (by omega) W (textTabsAt hL)).mono fun e W' ⟨he, bel⟩ => ?_
  subst he
  exact ⟨_, rfl, _, _, _, [], _, [], hW', trodAll_mk1 (shut_bool Tryd.underlying4 _), (trodAll_cons_mk (shut_int Tryd.underlying5 w0) (trodAll_cons_mk (shut_int Tryd.underlying22 w1) trodAll_mk0)), rfl, bel.frame _, fun h => by cases h⟩
def layIn (cs : Array Value) : Obj → Obj
  | .cells _ t frozen => .cells cs t frozen
  | o => o
/-- A world for the witness: the settled one, the tables holding what their initialisers lay. -/
noncomputable def laidWorld (os : Os) : World :=
  { World.holding Tryd.prog os ⟨#[], #[], []⟩ with heap := ([(21, #[.int .u8 0, .int .u8 1, .int .u8 28, .int .u8 2, .int .u8 29, .int .u8 14, .int .u8 24, .int .u8 3, .int .u8 30, .int .u8 22, .int .u8 20, .int .u8 15, .int .u8 25, .int .u8 17, .int .u8 4, .int .u8 8, .int .u8 31, .int .u8 27, .int .u8 13, .int .u8 23, .int .u8 21, .int .u8 19, .int .u8 16, .int .u8 7, .int .u8 26, .int .u8 12, .int .u8 18, .int .u8 6, .int .u8 11, .int .u8 5, .int .u8 10, .int .u8 9]),
    (22, #[.int .u8 0, .int .u8 1, .int .u8 56, .int .u8 2, .int .u8 57, .int .u8 49, .int .u8 28, .int .u8 3, .int .u8 61, .int .u8 58, .int .u8 42, .int .u8 50, .int .u8 38, .int .u8 29, .int .u8 17, .int .u8 4, .int .u8 62, .int .u8 47, .int .u8 59, .int .u8 36, .int .u8 45, .int .u8 43, .int .u8 51, .int .u8 22, .int .u8 53, .int .u8 39, .int .u8 33, .int .u8 30, .int .u8 24, .int .u8 18, .int .u8 12, .int .u8 5, .int .u8 63, .int .u8 55, .int .u8 48, .int .u8 27, .int .u8 60, .int .u8 41, .int .u8 37, .int .u8 16, .int .u8 46, .int .u8 35, .int .u8 44, .int .u8 21, .int .u8 52, .int .u8 32, .int .u8 23, .int .u8 11, .int .u8 54, .int .u8 26, .int .u8 40, .int .u8 15, .int .u8 34, .int .u8 20, .int .u8 31, .int .u8 10, .int .u8 25, .int .u8 14, .int .u8 19, .int .u8 9, .int .u8 13, .int .u8 8, .int .u8 7, .int .u8 6]),
    (19, #[.int .u64 1, .int .u64 10, .int .u64 100, .int .u64 1000, .int .u64 10000, .int .u64 100000, .int .u64 1000000, .int .u64 10000000, .int .u64 100000000, .int .u64 1000000000, .int .u64 10000000000, .int .u64 100000000000, .int .u64 1000000000000, .int .u64 10000000000000, .int .u64 100000000000000, .int .u64 1000000000000000, .int .u64 10000000000000000, .int .u64 100000000000000000, .int .u64 1000000000000000000, .int .u64 10000000000000000000]),
    (1, #[.string ⟨#[98]⟩, .string ⟨#[99]⟩, .string ⟨#[100]⟩, .string ⟨#[101]⟩, .string ⟨#[104]⟩, .string ⟨#[108]⟩, .string ⟨#[40, 104, 108, 41]⟩, .string ⟨#[97]⟩]),
    (2, #[.string ⟨#[98, 99]⟩, .string ⟨#[100, 101]⟩, .string ⟨#[104, 108]⟩, .string ⟨#[115, 112]⟩]),
    (3, #[.string ⟨#[98, 99]⟩, .string ⟨#[100, 101]⟩, .string ⟨#[104, 108]⟩, .string ⟨#[97, 102]⟩]),
    (4, #[.string ⟨#[110, 122]⟩, .string ⟨#[122]⟩, .string ⟨#[110, 99]⟩, .string ⟨#[99]⟩, .string ⟨#[112, 111]⟩, .string ⟨#[112, 101]⟩, .string ⟨#[112]⟩, .string ⟨#[109]⟩]),
    (5, #[.string ⟨#[97, 100, 100, 32, 97, 44]⟩, .string ⟨#[97, 100, 99, 32, 97, 44]⟩, .string ⟨#[115, 117, 98, 32]⟩, .string ⟨#[115, 98, 99, 32, 97, 44]⟩, .string ⟨#[97, 110, 100, 32]⟩, .string ⟨#[120, 111, 114, 32]⟩, .string ⟨#[111, 114, 32]⟩, .string ⟨#[99, 112, 32]⟩]),
    (6, #[.string ⟨#[114, 108, 99]⟩, .string ⟨#[114, 114, 99]⟩, .string ⟨#[114, 108]⟩, .string ⟨#[114, 114]⟩, .string ⟨#[115, 108, 97]⟩, .string ⟨#[115, 114, 97]⟩, .string ⟨#[115, 108, 108]⟩, .string ⟨#[115, 114, 108]⟩]),
    (7, #[.string ⟨#[48]⟩, .string ⟨#[48]⟩, .string ⟨#[49]⟩, .string ⟨#[50]⟩, .string ⟨#[48]⟩, .string ⟨#[48]⟩, .string ⟨#[49]⟩, .string ⟨#[50]⟩]),
    (9, #[.string ⟨#[110, 111, 112]⟩, .string ⟨#[101, 120, 32, 97, 102, 44, 97, 102, 39]⟩, .string ⟨#[100, 106, 110, 122, 32, 84]⟩, .string ⟨#[106, 114, 32, 84]⟩, .string ⟨#[106, 114, 32, 74, 44, 84]⟩, .string ⟨#[106, 114, 32, 74, 44, 84]⟩, .string ⟨#[106, 114, 32, 74, 44, 84]⟩, .string ⟨#[106, 114, 32, 74, 44, 84]⟩]),
    (10, #[.string ⟨#[108, 100, 32, 80, 44, 87]⟩, .string ⟨#[97, 100, 100, 32, 72, 44, 80]⟩]),
    (11, #[.string ⟨#[108, 100, 32, 40, 98, 99, 41, 44, 97]⟩, .string ⟨#[108, 100, 32, 97, 44, 40, 98, 99, 41]⟩, .string ⟨#[108, 100, 32, 40, 100, 101, 41, 44, 97]⟩, .string ⟨#[108, 100, 32, 97, 44, 40, 100, 101, 41]⟩, .string ⟨#[108, 100, 32, 40, 87, 41, 44, 72]⟩, .string ⟨#[108, 100, 32, 72, 44, 40, 87, 41]⟩, .string ⟨#[108, 100, 32, 40, 87, 41, 44, 97]⟩, .string ⟨#[108, 100, 32, 97, 44, 40, 87, 41]⟩]),
    (12, #[.string ⟨#[105, 110, 99, 32, 80]⟩, .string ⟨#[100, 101, 99, 32, 80]⟩]),
    (13, #[.string ⟨#[114, 108, 99, 97]⟩, .string ⟨#[114, 114, 99, 97]⟩, .string ⟨#[114, 108, 97]⟩, .string ⟨#[114, 114, 97]⟩, .string ⟨#[100, 97, 97]⟩, .string ⟨#[99, 112, 108]⟩, .string ⟨#[115, 99, 102]⟩, .string ⟨#[99, 99, 102]⟩]),
    (14, #[.string ⟨#[114, 101, 116]⟩, .string ⟨#[101, 120, 120]⟩, .string ⟨#[106, 112, 32, 40, 72, 41]⟩, .string ⟨#[108, 100, 32, 115, 112, 44, 72]⟩]),
    (15, #[.string ⟨#[106, 112, 32, 87]⟩, .string ⟨#[112, 114, 101, 102, 105, 120]⟩, .string ⟨#[111, 117, 116, 32, 40, 78, 41, 44, 97]⟩, .string ⟨#[105, 110, 32, 97, 44, 40, 78, 41]⟩, .string ⟨#[101, 120, 32, 40, 115, 112, 41, 44, 72]⟩, .string ⟨#[101, 120, 32, 100, 101, 44, 104, 108]⟩, .string ⟨#[100, 105]⟩, .string ⟨#[101, 105]⟩]),
    (0, #[.string ⟨#[75, 32]⟩, .string ⟨#[98, 105, 116, 32, 89, 44]⟩, .string ⟨#[114, 101, 115, 32, 89, 44]⟩, .string ⟨#[115, 101, 116, 32, 89, 44]⟩]),
    (16, #[.string ⟨#[115, 98, 99, 32, 72, 44, 80]⟩, .string ⟨#[97, 100, 99, 32, 72, 44, 80]⟩]),
    (17, #[.string ⟨#[108, 100, 32, 40, 87, 41, 44, 80]⟩, .string ⟨#[108, 100, 32, 80, 44, 40, 87, 41]⟩]),
    (18, #[.string ⟨#[108, 100, 32, 105, 44, 97]⟩, .string ⟨#[108, 100, 32, 114, 44, 97]⟩, .string ⟨#[108, 100, 32, 97, 44, 105]⟩, .string ⟨#[108, 100, 32, 97, 44, 114]⟩, .string ⟨#[114, 114, 100]⟩, .string ⟨#[114, 108, 100]⟩, .string ⟨#[110, 111, 112, 42]⟩, .string ⟨#[110, 111, 112, 42]⟩]),
    (8, #[.string ⟨#[108, 100, 105]⟩, .string ⟨#[108, 100, 100]⟩, .string ⟨#[108, 100, 105, 114]⟩, .string ⟨#[108, 100, 100, 114]⟩, .string ⟨#[99, 112, 105]⟩, .string ⟨#[99, 112, 100]⟩, .string ⟨#[99, 112, 105, 114]⟩, .string ⟨#[99, 112, 100, 114]⟩, .string ⟨#[105, 110, 105]⟩, .string ⟨#[105, 110, 100]⟩, .string ⟨#[105, 110, 105, 114]⟩, .string ⟨#[105, 110, 100, 114]⟩, .string ⟨#[111, 117, 116, 105]⟩, .string ⟨#[111, 117, 116, 100]⟩, .string ⟨#[111, 116, 105, 114]⟩, .string ⟨#[111, 116, 100, 114]⟩])] : List (Nat × Array Value)).foldl (fun h p => h.modify p.1 (layIn p.2)) (World.holding Tryd.prog os ⟨#[], #[], []⟩).heap }
theorem laid_met (os : Os) : laidMet Tryd.prog Rows.textOwnRow.laid ((laidWorld os).forCall (fun _ _ => 0) ⟨#[], #[.int .u8 0, .int .u16 0], []⟩).memory :=
  laidMet_of_run' 8 (by kernel_rfl) (by kernel_rfl)
theorem reads (os : Os) {H : Type} (enc : TypeId × Value → H) : ∃ places, DataW.whole enc Tryd.prog ((laidWorld os).forCall (fun _ _ => 0) ⟨#[], #[.int .u8 0, .int .u16 0], []⟩).memory Tryd.f5.params.toList Rows.textOwnSpec.vars false (#[.int .u8 0, .int .u16 0] : Array Value).toList 8 = some ([.lit (.int .u8 0), .lit (.int .u16 0)], [], places) :=
  ⟨[], by kernel_rfl⟩
set_option maxRecDepth 100000 in
theorem lifted (os : Os) (started : os.Started) (H : Type) (enc : TypeId × Value → H) (F : Stop.Interp) :
    ReturnsInHanded {} Tryd.checked os 5 .any ((OpenSpec.ofChange Rows.textOwnSpec).preRow enc Tryd.prog Tryd.f5 Rows.textOwnRow.domain false Rows.textOwnRow.laid) (((OpenSpec.ofChange Rows.textOwnSpec).at F).post enc Tryd.prog Tryd.f5 false true false false) := by
  obtain ⟨places, hx⟩ := reads os enc
  refine returnsInHanded_of_row (C := Tryd.checked) (s := OpenSpec.ofChange Rows.textOwnSpec) own started (by kernel_rfl) Tryd.func5
    (witness_row_at (enc := enc) (C := Tryd.checked) false (laidWorld os) #[.int .u8 0, .int .u16 0] rfl (by kernel_rfl) (by kernel_rfl) (by kernel_rfl)
      (OpenSpec.preRow_of_cond 8 hx (by kernel_rfl) (fun k hk => by cases hk) (by kernel_rfl) (laid_met os))) ?_
  intro W base args ds gs before hval hW _ _ _ hL _ _
  exact contract H enc W base args ds gs before hval hW hL
theorem said : Rows.TextOwnSaid :=
  OpenClaim.holds_of_cond 5 Tryd.f5 rfl rfl rfl rfl rfl rfl rfl ⟨rfl, rfl, rfl, rfl, rfl⟩ rfl rfl rfl rfl rfl (by kernel_rfl) Tryd.func5 (by kernel_rfl)
    (of_decide_eq_true (by kernel_rfl)) (by unfold Func.isWrapper; first | (rw [if_pos (by decide +kernel)]; kernel_rfl) | (rw [if_neg (by decide +kernel)]; exact ⟨rfl, rfl⟩))
    (fun os started H enc _ F => by rw [OpenClaim.pre_eq_preRow]; exact lifted os started H enc F)
theorem plain (f : FuncId) (fn : Func) (hf : Tryd.pinned.checked.prog.funcNamed "charabanc/charabanclaw09.TextOwn" = some f) (hfn : Tryd.pinned.checked.prog.funcs[f]? = some fn) :
    false = Tryd.pinned.checked.prog.looks [] ∧ ∀ (j : Nat) t, fn.params[j]? = some t → Tryd.pinned.checked.prog.wantsStandIn t = false := by
  obtain rfl : f = 5 := Option.some.inj ((show Tryd.prog.funcNamed "charabanc/charabanclaw09.TextOwn" = some 5 by kernel_rfl).symm.trans hf) |>.symm
  obtain rfl : fn = Tryd.f5 := (Option.some.inj (Tryd.func5.symm.trans hfn)).symm
  refine ⟨by kernel_rfl, fun j t ht => ?_⟩
  rw [Tryd.params5] at ht
  have hmem := Array.mem_of_getElem? ht
  have key : ∀ t ∈ (#[5, 22] : Array TypeId), Tryd.prog.wantsStandIn t = false := by
    intro t ht
    simp only [List.mem_toArray, List.mem_cons, List.not_mem_nil, or_false] at ht
    rcases ht with rfl | rfl <;> kernel_rfl
  exact key t hmem
theorem proved : Rows.TextOwnCardSaid :=
  Claim7.holds_tied_plain_at .later [] _ _ _ _ said (fun _ h => by cases h) (by kernel_rfl) (fun _ h => by cases h) textOwn_row_tie rfl ⟨rfl, rfl⟩ (by kernel_rfl) rfl plain (by kernel_rfl)
#print axioms proved
end Go.Proofs.YtgdpafldhmchpaaDoor.textOwnLaw
