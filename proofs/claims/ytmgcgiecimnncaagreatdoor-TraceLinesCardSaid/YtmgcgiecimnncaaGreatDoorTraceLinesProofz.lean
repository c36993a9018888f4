/- The statement 'TraceLines': for every input the law returns true, and each argument reads behind the call as it read before. The package's tables read as the program's text lays them (the card's tie). -/
import Derived.Test.YtmgcgiecimnncaaGreatDoorRows
import Derived.ChangeMaps5
import Derived.Carry
import Derived.Test.YtmgcgiecimnncaaGreatDoorCards
import Derived.Test.YtmgcgiecimnncaaGreatDoorTie
import Derived.Test.YtmgcgiecimnncaaGreatDoorTlG33
namespace Go.Proofs.YtmgcgiecimnncaaGreatDoor.traceLinesLaw
open Go.ChangeShapes Go.WideShapes Go.ChangeAt Go.RowKit
set_option linter.unusedVariables false
theorem own:ownKnob Tryz.prog.godebug=none:=by kernel_rfl
theorem laidOut:laidOutB Tryz.prog=true:=by kernel_rfl
@[reducible] def zW:Value:=.agg #[.int .u16 0,.int .u16 0,.int .u16 0,.int .u16 0,.int .u16 0,.int .u16 0,.int .u16 0,.int .u16 0,.int .u16 0,.int .u16 0,.int .u16 0,.int .u16 0,.int .u16 0,.int .u8 0,.int .u8 0,.bool false,.bool false,.bool false,.bool false,.int .i64 0,.slice none 0 0,.slice none 0 0]
theorem bits_deBruijn32tab_g:Tryz.prog.globalNamed "math/bits.deBruijn32tab"=some 22:=by kernel_rfl
theorem bits_deBruijn32tab_t:(Tryz.prog.globals[22]?).map (·.type)=some 178:=by kernel_rfl
theorem bits_deBruijn32tab_f:flat Tryz.prog 9 178 (Rows.laid_math_bits_deBruijn32tab:DataW Unit)=some [.int .u8 0,.int .u8 1,.int .u8 28,.int .u8 2,.int .u8 29,.int .u8 14,.int .u8 24,.int .u8 3,.int .u8 30,.int .u8 22,.int .u8 20,.int .u8 15,.int .u8 25,.int .u8 17,.int .u8 4,.int .u8 8,.int .u8 31,.int .u8 27,.int .u8 13,.int .u8 23,.int .u8 21,.int .u8 19,.int .u8 16,.int .u8 7,.int .u8 26,.int .u8 12,.int .u8 18,.int .u8 6,.int .u8 11,.int .u8 5,.int .u8 10,.int .u8 9]:=by kernel_rfl
theorem bits_deBruijn32tab_var {W:World}(h:laidMetH Tryz.prog Rows.traceLinesRow.laid W):W.var? Tryz.prog "math/bits.deBruijn32tab"=some [(.int .u8 0:Value),(.int .u8 1:Value),(.int .u8 28:Value),(.int .u8 2:Value),(.int .u8 29:Value),(.int .u8 14:Value),(.int .u8 24:Value),(.int .u8 3:Value),(.int .u8 30:Value),(.int .u8 22:Value),(.int .u8 20:Value),(.int .u8 15:Value),(.int .u8 25:Value),(.int .u8 17:Value),(.int .u8 4:Value),(.int .u8 8:Value),(.int .u8 31:Value),(.int .u8 27:Value),(.int .u8 13:Value),(.int .u8 23:Value),(.int .u8 21:Value),(.int .u8 19:Value),(.int .u8 16:Value),(.int .u8 7:Value),(.int .u8 26:Value),(.int .u8 12:Value),(.int .u8 18:Value),(.int .u8 6:Value),(.int .u8 11:Value),(.int .u8 5:Value),(.int .u8 10:Value),(.int .u8 9:Value)].toArray :=
 Jn 0 rfl bits_deBruijn32tab_g bits_deBruijn32tab_t bits_deBruijn32tab_f h
theorem bits_deBruijn64tab_g:Tryz.prog.globalNamed "math/bits.deBruijn64tab"=some 23:=by kernel_rfl
theorem bits_deBruijn64tab_t:(Tryz.prog.globals[23]?).map (·.type)=some 179:=by kernel_rfl
theorem bits_deBruijn64tab_f:flat Tryz.prog 9 179 (Rows.laid_math_bits_deBruijn64tab:DataW Unit)=some [.int .u8 0,.int .u8 1,.int .u8 56,.int .u8 2,.int .u8 57,.int .u8 49,.int .u8 28,.int .u8 3,.int .u8 61,.int .u8 58,.int .u8 42,.int .u8 50,.int .u8 38,.int .u8 29,.int .u8 17,.int .u8 4,.int .u8 62,.int .u8 47,.int .u8 59,.int .u8 36,.int .u8 45,.int .u8 43,.int .u8 51,.int .u8 22,.int .u8 53,.int .u8 39,.int .u8 33,.int .u8 30,.int .u8 24,.int .u8 18,.int .u8 12,.int .u8 5,.int .u8 63,.int .u8 55,.int .u8 48,.int .u8 27,.int .u8 60,.int .u8 41,.int .u8 37,.int .u8 16,.int .u8 46,.int .u8 35,.int .u8 44,.int .u8 21,.int .u8 52,.int .u8 32,.int .u8 23,.int .u8 11,.int .u8 54,.int .u8 26,.int .u8 40,.int .u8 15,.int .u8 34,.int .u8 20,.int .u8 31,.int .u8 10,.int .u8 25,.int .u8 14,.int .u8 19,.int .u8 9,.int .u8 13,.int .u8 8,.int .u8 7,.int .u8 6]:=by kernel_rfl
theorem bits_deBruijn64tab_var {W:World}(h:laidMetH Tryz.prog Rows.traceLinesRow.laid W):W.var? Tryz.prog "math/bits.deBruijn64tab"=some [(.int .u8 0:Value),(.int .u8 1:Value),(.int .u8 56:Value),(.int .u8 2:Value),(.int .u8 57:Value),(.int .u8 49:Value),(.int .u8 28:Value),(.int .u8 3:Value),(.int .u8 61:Value),(.int .u8 58:Value),(.int .u8 42:Value),(.int .u8 50:Value),(.int .u8 38:Value),(.int .u8 29:Value),(.int .u8 17:Value),(.int .u8 4:Value),(.int .u8 62:Value),(.int .u8 47:Value),(.int .u8 59:Value),(.int .u8 36:Value),(.int .u8 45:Value),(.int .u8 43:Value),(.int .u8 51:Value),(.int .u8 22:Value),(.int .u8 53:Value),(.int .u8 39:Value),(.int .u8 33:Value),(.int .u8 30:Value),(.int .u8 24:Value),(.int .u8 18:Value),(.int .u8 12:Value),(.int .u8 5:Value),(.int .u8 63:Value),(.int .u8 55:Value),(.int .u8 48:Value),(.int .u8 27:Value),(.int .u8 60:Value),(.int .u8 41:Value),(.int .u8 37:Value),(.int .u8 16:Value),(.int .u8 46:Value),(.int .u8 35:Value),(.int .u8 44:Value),(.int .u8 21:Value),(.int .u8 52:Value),(.int .u8 32:Value),(.int .u8 23:Value),(.int .u8 11:Value),(.int .u8 54:Value),(.int .u8 26:Value),(.int .u8 40:Value),(.int .u8 15:Value),(.int .u8 34:Value),(.int .u8 20:Value),(.int .u8 31:Value),(.int .u8 10:Value),(.int .u8 25:Value),(.int .u8 14:Value),(.int .u8 19:Value),(.int .u8 9:Value),(.int .u8 13:Value),(.int .u8 8:Value),(.int .u8 7:Value),(.int .u8 6:Value)].toArray :=
 Jn 1 rfl bits_deBruijn64tab_g bits_deBruijn64tab_t bits_deBruijn64tab_f h
theorem strconv_uint64pow10_g:Tryz.prog.globalNamed "internal/strconv.uint64pow10"=some 2:=by kernel_rfl
theorem strconv_uint64pow10_t:(Tryz.prog.globals[2]?).map (·.type)=some 145:=by kernel_rfl
theorem strconv_uint64pow10_f:flat Tryz.prog 9 145 (Rows.laid_internal_strconv_uint64pow10:DataW Unit)=some [.int .u64 1,.int .u64 10,.int .u64 100,.int .u64 1000,.int .u64 10000,.int .u64 100000,.int .u64 1000000,.int .u64 10000000,.int .u64 100000000,.int .u64 1000000000,.int .u64 10000000000,.int .u64 100000000000,.int .u64 1000000000000,.int .u64 10000000000000,.int .u64 100000000000000,.int .u64 1000000000000000,.int .u64 10000000000000000,.int .u64 100000000000000000,.int .u64 1000000000000000000,.int .u64 10000000000000000000]:=by kernel_rfl
theorem strconv_uint64pow10_var {W:World}(h:laidMetH Tryz.prog Rows.traceLinesRow.laid W):W.var? Tryz.prog "internal/strconv.uint64pow10"=some [(.int .u64 1:Value),(.int .u64 10:Value),(.int .u64 100:Value),(.int .u64 1000:Value),(.int .u64 10000:Value),(.int .u64 100000:Value),(.int .u64 1000000:Value),(.int .u64 10000000:Value),(.int .u64 100000000:Value),(.int .u64 1000000000:Value),(.int .u64 10000000000:Value),(.int .u64 100000000000:Value),(.int .u64 1000000000000:Value),(.int .u64 10000000000000:Value),(.int .u64 100000000000000:Value),(.int .u64 1000000000000000:Value),(.int .u64 10000000000000000:Value),(.int .u64 100000000000000000:Value),(.int .u64 1000000000000000000:Value),(.int .u64 10000000000000000000:Value)].toArray :=
 Jn 2 rfl strconv_uint64pow10_g strconv_uint64pow10_t strconv_uint64pow10_f h
theorem flags_masks_g:Tryz.prog.globalNamed "charabanc/flags.masks"=some 26:=by kernel_rfl
theorem flags_masks_t:(Tryz.prog.globals[26]?).map (·.type)=some 282:=by kernel_rfl
theorem flags_masks_f:flat Tryz.prog 9 282 (Rows.laid_charabanc_flags_masks:DataW Unit)=some [.int .u8 64,.int .u8 1,.int .u8 4,.int .u8 128]:=by kernel_rfl
theorem flags_masks_var {W:World}(h:laidMetH Tryz.prog Rows.traceLinesRow.laid W):W.var? Tryz.prog "charabanc/flags.masks"=some [(.int .u8 64:Value),(.int .u8 1:Value),(.int .u8 4:Value),(.int .u8 128:Value)].toArray :=
 Jn 3 rfl flags_masks_g flags_masks_t flags_masks_f h
theorem flags_masksAt {W:World}(h:laidMetH Tryz.prog Rows.traceLinesRow.laid W):Masks W :=
 ⟨Jo (flags_masks_var h) flags_masks_g 0 _ rfl,Jo (flags_masks_var h) flags_masks_g 1 _ rfl,Jo (flags_masks_var h) flags_masks_g 2 _ rfl,Jo (flags_masks_var h) flags_masks_g 3 _ rfl⟩
theorem logic_digits_g:Tryz.prog.globalNamed "charabanc/logic.digits"=some 27:=by kernel_rfl
theorem logic_digits_t:(Tryz.prog.globals[27]?).map (·.type)=some 292:=by kernel_rfl
theorem logic_digits_f:flat Tryz.prog 9 292 (Rows.laid_charabanc_logic_digits:DataW Unit)=some [.int .u8 16,.int .u8 15,.int .u8 9,.int .u8 6,.int .u8 1,.int .u8 255,.int .u8 153,.int .u8 96]:=by kernel_rfl
theorem logic_digits_var {W:World}(h:laidMetH Tryz.prog Rows.traceLinesRow.laid W):W.var? Tryz.prog "charabanc/logic.digits"=some [(.int .u8 16:Value),(.int .u8 15:Value),(.int .u8 9:Value),(.int .u8 6:Value),(.int .u8 1:Value),(.int .u8 255:Value),(.int .u8 153:Value),(.int .u8 96:Value)].toArray :=
 Jn 4 rfl logic_digits_g logic_digits_t logic_digits_f h
theorem logic_digitsAt {W:World}(h:laidMetH Tryz.prog Rows.traceLinesRow.laid W):Digits W :=
 ⟨Jo (logic_digits_var h) logic_digits_g 0 _ rfl,Jo (logic_digits_var h) logic_digits_g 1 _ rfl,Jo (logic_digits_var h) logic_digits_g 2 _ rfl,Jo (logic_digits_var h) logic_digits_g 3 _ rfl,Jo (logic_digits_var h) logic_digits_g 4 _ rfl,Jo (logic_digits_var h) logic_digits_g 5 _ rfl,Jo (logic_digits_var h) logic_digits_g 6 _ rfl,Jo (logic_digits_var h) logic_digits_g 7 _ rfl⟩
theorem shift_courses_g:Tryz.prog.globalNamed "charabanc/shift.courses"=some 25:=by kernel_rfl
theorem shift_courses_t:(Tryz.prog.globals[25]?).map (·.type)=some 251:=by kernel_rfl
theorem shift_courses_f:flat Tryz.prog 9 251 (Rows.laid_charabanc_shift_courses:DataW Unit)=some [.int .i64 1,.int .i64 7,.int .i64 0,.int .i64 (-1),.int .i64 0,.int .i64 7]:=by kernel_rfl
theorem shift_courses_var {W:World}(h:laidMetH Tryz.prog Rows.traceLinesRow.laid W):W.var? Tryz.prog "charabanc/shift.courses"=some [(.int .i64 1:Value),(.int .i64 7:Value),(.int .i64 0:Value),(.int .i64 (-1):Value),(.int .i64 0:Value),(.int .i64 7:Value)].toArray :=
 Jn 5 rfl shift_courses_g shift_courses_t shift_courses_f h
theorem shift_coursesAt {W:World}(h:laidMetH Tryz.prog Rows.traceLinesRow.laid W):Courses W :=
 ⟨Jo (shift_courses_var h) shift_courses_g 0 _ rfl,Jo (shift_courses_var h) shift_courses_g 1 _ rfl,Jo (shift_courses_var h) shift_courses_g 2 _ rfl,Jo (shift_courses_var h) shift_courses_g 3 _ rfl,Jo (shift_courses_var h) shift_courses_g 4 _ rfl,Jo (shift_courses_var h) shift_courses_g 5 _ rfl⟩
theorem text_registers_g:Tryz.prog.globalNamed "charabanc/text.registers"=some 3:=by kernel_rfl
theorem text_registers_t:(Tryz.prog.globals[3]?).map (·.type)=some 151:=by kernel_rfl
theorem text_registers_f:flat Tryz.prog 9 151 (Rows.laid_charabanc_text_registers:DataW Unit)=some [.string ⟨#[98]⟩,.string ⟨#[99]⟩,.string ⟨#[100]⟩,.string ⟨#[101]⟩,.string ⟨#[104]⟩,.string ⟨#[108]⟩,.string ⟨#[40,104,108,41]⟩,.string ⟨#[97]⟩]:=by kernel_rfl
theorem text_registers_var {W:World}(h:laidMetH Tryz.prog Rows.traceLinesRow.laid W):W.var? Tryz.prog "charabanc/text.registers"=some [(.string ⟨#[98]⟩:Value),(.string ⟨#[99]⟩:Value),(.string ⟨#[100]⟩:Value),(.string ⟨#[101]⟩:Value),(.string ⟨#[104]⟩:Value),(.string ⟨#[108]⟩:Value),(.string ⟨#[40,104,108,41]⟩:Value),(.string ⟨#[97]⟩:Value)].toArray :=
 Jn 6 rfl text_registers_g text_registers_t text_registers_f h
theorem text_pairs_g:Tryz.prog.globalNamed "charabanc/text.pairs"=some 4:=by kernel_rfl
theorem text_pairs_t:(Tryz.prog.globals[4]?).map (·.type)=some 132:=by kernel_rfl
theorem text_pairs_f:flat Tryz.prog 9 132 (Rows.laid_charabanc_text_pairs:DataW Unit)=some [.string ⟨#[98,99]⟩,.string ⟨#[100,101]⟩,.string ⟨#[104,108]⟩,.string ⟨#[115,112]⟩]:=by kernel_rfl
theorem text_pairs_var {W:World}(h:laidMetH Tryz.prog Rows.traceLinesRow.laid W):W.var? Tryz.prog "charabanc/text.pairs"=some [(.string ⟨#[98,99]⟩:Value),(.string ⟨#[100,101]⟩:Value),(.string ⟨#[104,108]⟩:Value),(.string ⟨#[115,112]⟩:Value)].toArray :=
 Jn 7 rfl text_pairs_g text_pairs_t text_pairs_f h
theorem text_stacked_g:Tryz.prog.globalNamed "charabanc/text.stacked"=some 5:=by kernel_rfl
theorem text_stacked_t:(Tryz.prog.globals[5]?).map (·.type)=some 132:=by kernel_rfl
theorem text_stacked_f:flat Tryz.prog 9 132 (Rows.laid_charabanc_text_stacked:DataW Unit)=some [.string ⟨#[98,99]⟩,.string ⟨#[100,101]⟩,.string ⟨#[104,108]⟩,.string ⟨#[97,102]⟩]:=by kernel_rfl
theorem text_stacked_var {W:World}(h:laidMetH Tryz.prog Rows.traceLinesRow.laid W):W.var? Tryz.prog "charabanc/text.stacked"=some [(.string ⟨#[98,99]⟩:Value),(.string ⟨#[100,101]⟩:Value),(.string ⟨#[104,108]⟩:Value),(.string ⟨#[97,102]⟩:Value)].toArray :=
 Jn 8 rfl text_stacked_g text_stacked_t text_stacked_f h
theorem text_conditions_g:Tryz.prog.globalNamed "charabanc/text.conditions"=some 6:=by kernel_rfl
theorem text_conditions_t:(Tryz.prog.globals[6]?).map (·.type)=some 151:=by kernel_rfl
theorem text_conditions_f:flat Tryz.prog 9 151 (Rows.laid_charabanc_text_conditions:DataW Unit)=some [.string ⟨#[110,122]⟩,.string ⟨#[122]⟩,.string ⟨#[110,99]⟩,.string ⟨#[99]⟩,.string ⟨#[112,111]⟩,.string ⟨#[112,101]⟩,.string ⟨#[112]⟩,.string ⟨#[109]⟩]:=by kernel_rfl
theorem text_conditions_var {W:World}(h:laidMetH Tryz.prog Rows.traceLinesRow.laid W):W.var? Tryz.prog "charabanc/text.conditions"=some [(.string ⟨#[110,122]⟩:Value),(.string ⟨#[122]⟩:Value),(.string ⟨#[110,99]⟩:Value),(.string ⟨#[99]⟩:Value),(.string ⟨#[112,111]⟩:Value),(.string ⟨#[112,101]⟩:Value),(.string ⟨#[112]⟩:Value),(.string ⟨#[109]⟩:Value)].toArray :=
 Jn 9 rfl text_conditions_g text_conditions_t text_conditions_f h
theorem text_arithmetic_g:Tryz.prog.globalNamed "charabanc/text.arithmetic"=some 7:=by kernel_rfl
theorem text_arithmetic_t:(Tryz.prog.globals[7]?).map (·.type)=some 151:=by kernel_rfl
theorem text_arithmetic_f:flat Tryz.prog 9 151 (Rows.laid_charabanc_text_arithmetic:DataW Unit)=some [.string ⟨#[97,100,100,32,97,44]⟩,.string ⟨#[97,100,99,32,97,44]⟩,.string ⟨#[115,117,98,32]⟩,.string ⟨#[115,98,99,32,97,44]⟩,.string ⟨#[97,110,100,32]⟩,.string ⟨#[120,111,114,32]⟩,.string ⟨#[111,114,32]⟩,.string ⟨#[99,112,32]⟩]:=by kernel_rfl
theorem text_arithmetic_var {W:World}(h:laidMetH Tryz.prog Rows.traceLinesRow.laid W):W.var? Tryz.prog "charabanc/text.arithmetic"=some [(.string ⟨#[97,100,100,32,97,44]⟩:Value),(.string ⟨#[97,100,99,32,97,44]⟩:Value),(.string ⟨#[115,117,98,32]⟩:Value),(.string ⟨#[115,98,99,32,97,44]⟩:Value),(.string ⟨#[97,110,100,32]⟩:Value),(.string ⟨#[120,111,114,32]⟩:Value),(.string ⟨#[111,114,32]⟩:Value),(.string ⟨#[99,112,32]⟩:Value)].toArray :=
 Jn 10 rfl text_arithmetic_g text_arithmetic_t text_arithmetic_f h
theorem text_shifts_g:Tryz.prog.globalNamed "charabanc/text.shifts"=some 8:=by kernel_rfl
theorem text_shifts_t:(Tryz.prog.globals[8]?).map (·.type)=some 151:=by kernel_rfl
theorem text_shifts_f:flat Tryz.prog 9 151 (Rows.laid_charabanc_text_shifts:DataW Unit)=some [.string ⟨#[114,108,99]⟩,.string ⟨#[114,114,99]⟩,.string ⟨#[114,108]⟩,.string ⟨#[114,114]⟩,.string ⟨#[115,108,97]⟩,.string ⟨#[115,114,97]⟩,.string ⟨#[115,108,108]⟩,.string ⟨#[115,114,108]⟩]:=by kernel_rfl
theorem text_shifts_var {W:World}(h:laidMetH Tryz.prog Rows.traceLinesRow.laid W):W.var? Tryz.prog "charabanc/text.shifts"=some [(.string ⟨#[114,108,99]⟩:Value),(.string ⟨#[114,114,99]⟩:Value),(.string ⟨#[114,108]⟩:Value),(.string ⟨#[114,114]⟩:Value),(.string ⟨#[115,108,97]⟩:Value),(.string ⟨#[115,114,97]⟩:Value),(.string ⟨#[115,108,108]⟩:Value),(.string ⟨#[115,114,108]⟩:Value)].toArray :=
 Jn 11 rfl text_shifts_g text_shifts_t text_shifts_f h
theorem text_modes_g:Tryz.prog.globalNamed "charabanc/text.modes"=some 9:=by kernel_rfl
theorem text_modes_t:(Tryz.prog.globals[9]?).map (·.type)=some 151:=by kernel_rfl
theorem text_modes_f:flat Tryz.prog 9 151 (Rows.laid_charabanc_text_modes:DataW Unit)=some [.string ⟨#[48]⟩,.string ⟨#[48]⟩,.string ⟨#[49]⟩,.string ⟨#[50]⟩,.string ⟨#[48]⟩,.string ⟨#[48]⟩,.string ⟨#[49]⟩,.string ⟨#[50]⟩]:=by kernel_rfl
theorem text_modes_var {W:World}(h:laidMetH Tryz.prog Rows.traceLinesRow.laid W):W.var? Tryz.prog "charabanc/text.modes"=some [(.string ⟨#[48]⟩:Value),(.string ⟨#[48]⟩:Value),(.string ⟨#[49]⟩:Value),(.string ⟨#[50]⟩:Value),(.string ⟨#[48]⟩:Value),(.string ⟨#[48]⟩:Value),(.string ⟨#[49]⟩:Value),(.string ⟨#[50]⟩:Value)].toArray :=
 Jn 12 rfl text_modes_g text_modes_t text_modes_f h
theorem text_jumps_g:Tryz.prog.globalNamed "charabanc/text.jumps"=some 12:=by kernel_rfl
theorem text_jumps_t:(Tryz.prog.globals[12]?).map (·.type)=some 151:=by kernel_rfl
theorem text_jumps_f:flat Tryz.prog 9 151 (Rows.laid_charabanc_text_jumps:DataW Unit)=some [.string ⟨#[110,111,112]⟩,.string ⟨#[101,120,32,97,102,44,97,102,39]⟩,.string ⟨#[100,106,110,122,32,84]⟩,.string ⟨#[106,114,32,84]⟩,.string ⟨#[106,114,32,74,44,84]⟩,.string ⟨#[106,114,32,74,44,84]⟩,.string ⟨#[106,114,32,74,44,84]⟩,.string ⟨#[106,114,32,74,44,84]⟩]:=by kernel_rfl
theorem text_jumps_var {W:World}(h:laidMetH Tryz.prog Rows.traceLinesRow.laid W):W.var? Tryz.prog "charabanc/text.jumps"=some [(.string ⟨#[110,111,112]⟩:Value),(.string ⟨#[101,120,32,97,102,44,97,102,39]⟩:Value),(.string ⟨#[100,106,110,122,32,84]⟩:Value),(.string ⟨#[106,114,32,84]⟩:Value),(.string ⟨#[106,114,32,74,44,84]⟩:Value),(.string ⟨#[106,114,32,74,44,84]⟩:Value),(.string ⟨#[106,114,32,74,44,84]⟩:Value),(.string ⟨#[106,114,32,74,44,84]⟩:Value)].toArray :=
 Jn 13 rfl text_jumps_g text_jumps_t text_jumps_f h
theorem text_ofPairs_g:Tryz.prog.globalNamed "charabanc/text.ofPairs"=some 13:=by kernel_rfl
theorem text_ofPairs_t:(Tryz.prog.globals[13]?).map (·.type)=some 165:=by kernel_rfl
theorem text_ofPairs_f:flat Tryz.prog 9 165 (Rows.laid_charabanc_text_ofPairs:DataW Unit)=some [.string ⟨#[108,100,32,80,44,87]⟩,.string ⟨#[97,100,100,32,72,44,80]⟩]:=by kernel_rfl
theorem text_ofPairs_var {W:World}(h:laidMetH Tryz.prog Rows.traceLinesRow.laid W):W.var? Tryz.prog "charabanc/text.ofPairs"=some [(.string ⟨#[108,100,32,80,44,87]⟩:Value),(.string ⟨#[97,100,100,32,72,44,80]⟩:Value)].toArray :=
 Jn 14 rfl text_ofPairs_g text_ofPairs_t text_ofPairs_f h
theorem text_moves_g:Tryz.prog.globalNamed "charabanc/text.moves"=some 14:=by kernel_rfl
theorem text_moves_t:(Tryz.prog.globals[14]?).map (·.type)=some 151:=by kernel_rfl
theorem text_moves_f:flat Tryz.prog 9 151 (Rows.laid_charabanc_text_moves:DataW Unit)=some [.string ⟨#[108,100,32,40,98,99,41,44,97]⟩,.string ⟨#[108,100,32,97,44,40,98,99,41]⟩,.string ⟨#[108,100,32,40,100,101,41,44,97]⟩,.string ⟨#[108,100,32,97,44,40,100,101,41]⟩,.string ⟨#[108,100,32,40,87,41,44,72]⟩,.string ⟨#[108,100,32,72,44,40,87,41]⟩,.string ⟨#[108,100,32,40,87,41,44,97]⟩,.string ⟨#[108,100,32,97,44,40,87,41]⟩]:=by kernel_rfl
theorem text_moves_var {W:World}(h:laidMetH Tryz.prog Rows.traceLinesRow.laid W):W.var? Tryz.prog "charabanc/text.moves"=some [(.string ⟨#[108,100,32,40,98,99,41,44,97]⟩:Value),(.string ⟨#[108,100,32,97,44,40,98,99,41]⟩:Value),(.string ⟨#[108,100,32,40,100,101,41,44,97]⟩:Value),(.string ⟨#[108,100,32,97,44,40,100,101,41]⟩:Value),(.string ⟨#[108,100,32,40,87,41,44,72]⟩:Value),(.string ⟨#[108,100,32,72,44,40,87,41]⟩:Value),(.string ⟨#[108,100,32,40,87,41,44,97]⟩:Value),(.string ⟨#[108,100,32,97,44,40,87,41]⟩:Value)].toArray :=
 Jn 15 rfl text_moves_g text_moves_t text_moves_f h
theorem text_counts_g:Tryz.prog.globalNamed "charabanc/text.counts"=some 15:=by kernel_rfl
theorem text_counts_t:(Tryz.prog.globals[15]?).map (·.type)=some 165:=by kernel_rfl
theorem text_counts_f:flat Tryz.prog 9 165 (Rows.laid_charabanc_text_counts:DataW Unit)=some [.string ⟨#[105,110,99,32,80]⟩,.string ⟨#[100,101,99,32,80]⟩]:=by kernel_rfl
theorem text_counts_var {W:World}(h:laidMetH Tryz.prog Rows.traceLinesRow.laid W):W.var? Tryz.prog "charabanc/text.counts"=some [(.string ⟨#[105,110,99,32,80]⟩:Value),(.string ⟨#[100,101,99,32,80]⟩:Value)].toArray :=
 Jn 16 rfl text_counts_g text_counts_t text_counts_f h
theorem text_onA_g:Tryz.prog.globalNamed "charabanc/text.onA"=some 16:=by kernel_rfl
theorem text_onA_t:(Tryz.prog.globals[16]?).map (·.type)=some 151:=by kernel_rfl
theorem text_onA_f:flat Tryz.prog 9 151 (Rows.laid_charabanc_text_onA:DataW Unit)=some [.string ⟨#[114,108,99,97]⟩,.string ⟨#[114,114,99,97]⟩,.string ⟨#[114,108,97]⟩,.string ⟨#[114,114,97]⟩,.string ⟨#[100,97,97]⟩,.string ⟨#[99,112,108]⟩,.string ⟨#[115,99,102]⟩,.string ⟨#[99,99,102]⟩]:=by kernel_rfl
theorem text_onA_var {W:World}(h:laidMetH Tryz.prog Rows.traceLinesRow.laid W):W.var? Tryz.prog "charabanc/text.onA"=some [(.string ⟨#[114,108,99,97]⟩:Value),(.string ⟨#[114,114,99,97]⟩:Value),(.string ⟨#[114,108,97]⟩:Value),(.string ⟨#[114,114,97]⟩:Value),(.string ⟨#[100,97,97]⟩:Value),(.string ⟨#[99,112,108]⟩:Value),(.string ⟨#[115,99,102]⟩:Value),(.string ⟨#[99,99,102]⟩:Value)].toArray :=
 Jn 17 rfl text_onA_g text_onA_t text_onA_f h
theorem text_returns_g:Tryz.prog.globalNamed "charabanc/text.returns"=some 17:=by kernel_rfl
theorem text_returns_t:(Tryz.prog.globals[17]?).map (·.type)=some 132:=by kernel_rfl
theorem text_returns_f:flat Tryz.prog 9 132 (Rows.laid_charabanc_text_returns:DataW Unit)=some [.string ⟨#[114,101,116]⟩,.string ⟨#[101,120,120]⟩,.string ⟨#[106,112,32,40,72,41]⟩,.string ⟨#[108,100,32,115,112,44,72]⟩]:=by kernel_rfl
theorem text_returns_var {W:World}(h:laidMetH Tryz.prog Rows.traceLinesRow.laid W):W.var? Tryz.prog "charabanc/text.returns"=some [(.string ⟨#[114,101,116]⟩:Value),(.string ⟨#[101,120,120]⟩:Value),(.string ⟨#[106,112,32,40,72,41]⟩:Value),(.string ⟨#[108,100,32,115,112,44,72]⟩:Value)].toArray :=
 Jn 18 rfl text_returns_g text_returns_t text_returns_f h
theorem text_mixed_g:Tryz.prog.globalNamed "charabanc/text.mixed"=some 18:=by kernel_rfl
theorem text_mixed_t:(Tryz.prog.globals[18]?).map (·.type)=some 151:=by kernel_rfl
theorem text_mixed_f:flat Tryz.prog 9 151 (Rows.laid_charabanc_text_mixed:DataW Unit)=some [.string ⟨#[106,112,32,87]⟩,.string ⟨#[112,114,101,102,105,120]⟩,.string ⟨#[111,117,116,32,40,78,41,44,97]⟩,.string ⟨#[105,110,32,97,44,40,78,41]⟩,.string ⟨#[101,120,32,40,115,112,41,44,72]⟩,.string ⟨#[101,120,32,100,101,44,104,108]⟩,.string ⟨#[100,105]⟩,.string ⟨#[101,105]⟩]:=by kernel_rfl
theorem text_mixed_var {W:World}(h:laidMetH Tryz.prog Rows.traceLinesRow.laid W):W.var? Tryz.prog "charabanc/text.mixed"=some [(.string ⟨#[106,112,32,87]⟩:Value),(.string ⟨#[112,114,101,102,105,120]⟩:Value),(.string ⟨#[111,117,116,32,40,78,41,44,97]⟩:Value),(.string ⟨#[105,110,32,97,44,40,78,41]⟩:Value),(.string ⟨#[101,120,32,40,115,112,41,44,72]⟩:Value),(.string ⟨#[101,120,32,100,101,44,104,108]⟩:Value),(.string ⟨#[100,105]⟩:Value),(.string ⟨#[101,105]⟩:Value)].toArray :=
 Jn 19 rfl text_mixed_g text_mixed_t text_mixed_f h
theorem text_onBits_g:Tryz.prog.globalNamed "charabanc/text.onBits"=some 1:=by kernel_rfl
theorem text_onBits_t:(Tryz.prog.globals[1]?).map (·.type)=some 132:=by kernel_rfl
theorem text_onBits_f:flat Tryz.prog 9 132 (Rows.laid_charabanc_text_onBits:DataW Unit)=some [.string ⟨#[75,32]⟩,.string ⟨#[98,105,116,32,89,44]⟩,.string ⟨#[114,101,115,32,89,44]⟩,.string ⟨#[115,101,116,32,89,44]⟩]:=by kernel_rfl
theorem text_onBits_var {W:World}(h:laidMetH Tryz.prog Rows.traceLinesRow.laid W):W.var? Tryz.prog "charabanc/text.onBits"=some [(.string ⟨#[75,32]⟩:Value),(.string ⟨#[98,105,116,32,89,44]⟩:Value),(.string ⟨#[114,101,115,32,89,44]⟩:Value),(.string ⟨#[115,101,116,32,89,44]⟩:Value)].toArray :=
 Jn 20 rfl text_onBits_g text_onBits_t text_onBits_f h
theorem text_carried_g:Tryz.prog.globalNamed "charabanc/text.carried"=some 19:=by kernel_rfl
theorem text_carried_t:(Tryz.prog.globals[19]?).map (·.type)=some 165:=by kernel_rfl
theorem text_carried_f:flat Tryz.prog 9 165 (Rows.laid_charabanc_text_carried:DataW Unit)=some [.string ⟨#[115,98,99,32,72,44,80]⟩,.string ⟨#[97,100,99,32,72,44,80]⟩]:=by kernel_rfl
theorem text_carried_var {W:World}(h:laidMetH Tryz.prog Rows.traceLinesRow.laid W):W.var? Tryz.prog "charabanc/text.carried"=some [(.string ⟨#[115,98,99,32,72,44,80]⟩:Value),(.string ⟨#[97,100,99,32,72,44,80]⟩:Value)].toArray :=
 Jn 21 rfl text_carried_g text_carried_t text_carried_f h
theorem text_stores_g:Tryz.prog.globalNamed "charabanc/text.stores"=some 20:=by kernel_rfl
theorem text_stores_t:(Tryz.prog.globals[20]?).map (·.type)=some 165:=by kernel_rfl
theorem text_stores_f:flat Tryz.prog 9 165 (Rows.laid_charabanc_text_stores:DataW Unit)=some [.string ⟨#[108,100,32,40,87,41,44,80]⟩,.string ⟨#[108,100,32,80,44,40,87,41]⟩]:=by kernel_rfl
theorem text_stores_var {W:World}(h:laidMetH Tryz.prog Rows.traceLinesRow.laid W):W.var? Tryz.prog "charabanc/text.stores"=some [(.string ⟨#[108,100,32,40,87,41,44,80]⟩:Value),(.string ⟨#[108,100,32,80,44,40,87,41]⟩:Value)].toArray :=
 Jn 22 rfl text_stores_g text_stores_t text_stores_f h
theorem text_special_g:Tryz.prog.globalNamed "charabanc/text.special"=some 21:=by kernel_rfl
theorem text_special_t:(Tryz.prog.globals[21]?).map (·.type)=some 151:=by kernel_rfl
theorem text_special_f:flat Tryz.prog 9 151 (Rows.laid_charabanc_text_special:DataW Unit)=some [.string ⟨#[108,100,32,105,44,97]⟩,.string ⟨#[108,100,32,114,44,97]⟩,.string ⟨#[108,100,32,97,44,105]⟩,.string ⟨#[108,100,32,97,44,114]⟩,.string ⟨#[114,114,100]⟩,.string ⟨#[114,108,100]⟩,.string ⟨#[110,111,112,42]⟩,.string ⟨#[110,111,112,42]⟩]:=by kernel_rfl
theorem text_special_var {W:World}(h:laidMetH Tryz.prog Rows.traceLinesRow.laid W):W.var? Tryz.prog "charabanc/text.special"=some [(.string ⟨#[108,100,32,105,44,97]⟩:Value),(.string ⟨#[108,100,32,114,44,97]⟩:Value),(.string ⟨#[108,100,32,97,44,105]⟩:Value),(.string ⟨#[108,100,32,97,44,114]⟩:Value),(.string ⟨#[114,114,100]⟩:Value),(.string ⟨#[114,108,100]⟩:Value),(.string ⟨#[110,111,112,42]⟩:Value),(.string ⟨#[110,111,112,42]⟩:Value)].toArray :=
 Jn 23 rfl text_special_g text_special_t text_special_f h
theorem text_blocks_g:Tryz.prog.globalNamed "charabanc/text.blocks"=some 10:=by kernel_rfl
theorem text_blocks_t:(Tryz.prog.globals[10]?).map (·.type)=some 153:=by kernel_rfl
theorem text_blocks_f:flat Tryz.prog 9 153 (Rows.laid_charabanc_text_blocks:DataW Unit)=some [.string ⟨#[108,100,105]⟩,.string ⟨#[108,100,100]⟩,.string ⟨#[108,100,105,114]⟩,.string ⟨#[108,100,100,114]⟩,.string ⟨#[99,112,105]⟩,.string ⟨#[99,112,100]⟩,.string ⟨#[99,112,105,114]⟩,.string ⟨#[99,112,100,114]⟩,.string ⟨#[105,110,105]⟩,.string ⟨#[105,110,100]⟩,.string ⟨#[105,110,105,114]⟩,.string ⟨#[105,110,100,114]⟩,.string ⟨#[111,117,116,105]⟩,.string ⟨#[111,117,116,100]⟩,.string ⟨#[111,116,105,114]⟩,.string ⟨#[111,116,100,114]⟩]:=by kernel_rfl
theorem text_blocks_var {W:World}(h:laidMetH Tryz.prog Rows.traceLinesRow.laid W):W.var? Tryz.prog "charabanc/text.blocks"=some [(.string ⟨#[108,100,105]⟩:Value),(.string ⟨#[108,100,100]⟩:Value),(.string ⟨#[108,100,105,114]⟩:Value),(.string ⟨#[108,100,100,114]⟩:Value),(.string ⟨#[99,112,105]⟩:Value),(.string ⟨#[99,112,100]⟩:Value),(.string ⟨#[99,112,105,114]⟩:Value),(.string ⟨#[99,112,100,114]⟩:Value),(.string ⟨#[105,110,105]⟩:Value),(.string ⟨#[105,110,100]⟩:Value),(.string ⟨#[105,110,105,114]⟩:Value),(.string ⟨#[105,110,100,114]⟩:Value),(.string ⟨#[111,117,116,105]⟩:Value),(.string ⟨#[111,117,116,100]⟩:Value),(.string ⟨#[111,116,105,114]⟩:Value),(.string ⟨#[111,116,100,114]⟩:Value)].toArray :=
 Jn 24 rfl text_blocks_g text_blocks_t text_blocks_f h
theorem next_modes_g:Tryz.prog.globalNamed "charabanc/next.modes"=some 24:=by kernel_rfl
theorem next_modes_t:(Tryz.prog.globals[24]?).map (·.type)=some 220:=by kernel_rfl
theorem next_modes_f:flat Tryz.prog 9 220 (Rows.laid_charabanc_next_modes:DataW Unit)=some [.int .i64 0,.int .i64 0,.int .i64 1,.int .i64 2]:=by kernel_rfl
theorem next_modes_var {W:World}(h:laidMetH Tryz.prog Rows.traceLinesRow.laid W):W.var? Tryz.prog "charabanc/next.modes"=some [(.int .i64 0:Value),(.int .i64 0:Value),(.int .i64 1:Value),(.int .i64 2:Value)].toArray :=
 Jn 25 rfl next_modes_g next_modes_t next_modes_f h
theorem next_modesAt {W:World}(h:laidMetH Tryz.prog Rows.traceLinesRow.laid W):QIg W :=
 ⟨Jo (next_modes_var h) next_modes_g 0 _ rfl,Jo (next_modes_var h) next_modes_g 1 _ rfl,Jo (next_modes_var h) next_modes_g 2 _ rfl,Jo (next_modes_var h) next_modes_g 3 _ rfl⟩
theorem trace_kinds_g:Tryz.prog.globalNamed "charabanc/trace.kinds"=some 0:=by kernel_rfl
theorem trace_kinds_t:(Tryz.prog.globals[0]?).map (·.type)=some 53:=by kernel_rfl
theorem trace_kinds_f:flat Tryz.prog 9 53 (Rows.laid_charabanc_trace_kinds:DataW Unit)=some [.string ⟨#[102,101,116,99,104]⟩,.string ⟨#[114,101,97,100]⟩,.string ⟨#[119,114,105,116,101]⟩,.string ⟨#[105,110]⟩,.string ⟨#[111,117,116]⟩,.string ⟨#[97,99,107]⟩,.string ⟨#[105,110,110,101,114]⟩]:=by kernel_rfl
theorem trace_kinds_var {W:World}(h:laidMetH Tryz.prog Rows.traceLinesRow.laid W):W.var? Tryz.prog "charabanc/trace.kinds"=some [(.string ⟨#[102,101,116,99,104]⟩:Value),(.string ⟨#[114,101,97,100]⟩:Value),(.string ⟨#[119,114,105,116,101]⟩:Value),(.string ⟨#[105,110]⟩:Value),(.string ⟨#[111,117,116]⟩:Value),(.string ⟨#[97,99,107]⟩:Value),(.string ⟨#[105,110,110,101,114]⟩:Value)].toArray :=
 Jn 26 rfl trace_kinds_g trace_kinds_t trace_kinds_f h
theorem textTabsAt {W:World}(h:laidMetH Tryz.prog Rows.traceLinesRow.laid W):TextTabs W :=
 ⟨text_registers_var h,text_pairs_var h,text_stacked_var h,text_conditions_var h,text_arithmetic_var h,text_shifts_var h,text_modes_var h,text_jumps_var h,text_ofPairs_var h,text_moves_var h,text_counts_var h,text_onA_var h,text_returns_var h,text_mixed_var h,text_onBits_var h,text_carried_var h,text_stores_var h,text_special_var h,text_blocks_var h,strconv_uint64pow10_var h,Jo (bits_deBruijn64tab_var h) bits_deBruijn64tab_g 15 _ rfl⟩
theorem trTabsAt {W:World}(h:laidMetH Tryz.prog Rows.traceLinesRow.laid W):TrTabs W :=
 ⟨textTabsAt h,trace_kinds_var h⟩
set_option maxRecDepth 100000 in
theorem contract (H:Type)(enc:TypeId×Value→H)(W:World)(base:Nat)(args:Array Value)(ds gs:List (DataW H))(before:List MemPlace)
 (hval:∀ (j:Nat) t v,Tryz.f3.params[j]? = some t→args[j]? = some v→Value.okWide Tryz.prog W .any base t v)
 (hW:DataW.Whole enc Tryz.prog Tryz.f3.params.toList Rows.traceLinesSpec.vars false W args.toList ds gs before)(hL:laidMetH Tryz.prog Rows.traceLinesRow.laid W) :
 Calls Tryz.prog 3 args W fun e W'=>∃ v,e=.returned v∧Rows.traceLinesSpec.post enc Tryz.prog Tryz.f3 false true false false W args v W':=by
 have hW':=hW
 obtain⟨p,q,hA0,hV,rfl,hfz,hnd⟩:=hW
 have hA:DataW.TrodAll enc Tryz.prog W 0 (fun _=>true) true Tryz.f3.params.toList args.toList ds p:=hA0
 rw[Tryz.params3] at hA hval
 obtain⟨v0,vs0,d0,ds0,p0,q0,hargs,rfl,rfl,h0,r0⟩:=trodAll_cons hA
 obtain⟨v1,vs1,d1,ds1,p1,q1,rfl,rfl,rfl,h1,r1⟩:=trodAll_cons r0
 obtain⟨rfl,rfl,rfl⟩:=trodAll_nil r1
 obtain rfl:args=#[v0,v1]:=by cases args;simp_all
 obtain⟨rfl,rfl⟩:=trodVars_none hV
 have k0:=h0
 have lt0:∀ x∈p0,x.block < W.heap.size:=by obtain⟨m,hm⟩:=k0;exact DataW.trod_lt m _ _ _ hm
 obtain⟨g0,A0,c0,x0,A'0,c'0,x'0,rfl,hg0,⟨hl0,hm0,hs0,hb0,hn0⟩,⟨hl'0,hm'0,hs'0,hb'0,hn'0⟩⟩:=QKW Tryz.underlying28 (by kernel_rfl) Tryz.underlying24 (by kernel_rfl) Tryz.underlying22 Tryz.underlying22 Tryz.underlying22 Tryz.underlying22 Tryz.underlying22 Tryz.underlying22 Tryz.underlying22 Tryz.underlying22 Tryz.underlying22 Tryz.underlying22 Tryz.underlying22 Tryz.underlying22 Tryz.underlying22 Tryz.underlying5 Tryz.underlying5 Tryz.underlying4 Tryz.underlying4 Tryz.underlying4 Tryz.underlying4 Tryz.underlying3 Tryz.underlying25 Tryz.underlying55 (by kernel_rfl) (by kernel_rfl) Tryz.underlying22 Tryz.underlying5 Tryz.underlying26 Tryz.underlying5 (by kernel_rfl) (hval 0 28 v0 rfl rfl) h0
 have k1:=h1
 have lt1:∀ x∈p1,x.block < W.heap.size:=by obtain⟨m,hm⟩:=k1;exact DataW.trod_lt m _ _ _ hm
 obtain⟨y1,rfl,hyA1,hyD1,hyT1⟩:=QKU Tryz.underlying30 (by kernel_rfl) (by kernel_rfl) Tryz.underlying3 Tryz.underlying22 Tryz.underlying5 Tryz.underlying3 (hval 1 30 v1 rfl rfl) h1
 clear hA0
 refine (QDg g0 A0 c0 x0 A'0 c'0 x'0 y1 hg0 hyA1 hyD1 hyT1 W hl0 hm0 hs0 hb0 hn0 hl'0 hm'0 hs'0 hb'0 hn'0 (flags_masksAt hL) (logic_digitsAt hL) (shift_coursesAt hL) (next_modesAt hL) (trTabsAt hL)).mono fun e W' ⟨he,bel⟩=>?_
 subst he
 exact⟨_,rfl,_,_,_,[],_,[],hW',trodAll_mk1 (shut_bool Tryz.underlying4 _),(trodAll_cons_mk (Below.trod laidOut (by kernel_rfl) (of_decide_eq_true (by kernel_rfl)) k0 bel lt0) (trodAll_cons_mk (Below.trod laidOut (by kernel_rfl) (of_decide_eq_true (by kernel_rfl)) k1 bel lt1) trodAll_mk0)),rfl,bel.frame _,fun h=>by cases h⟩
def layIn (cs:Array Value):Obj→Obj
 | .cells _ t frozen=>.cells cs t frozen
 | o=>o
/-- A world for the witness: the settled one, the tables holding what their initialisers lay. -/
noncomputable def laidWorld (os:Os):World :=
 { World.holding Tryz.prog os ⟨#[],#[],[]⟩ with heap:=([(22,#[.int .u8 0,.int .u8 1,.int .u8 28,.int .u8 2,.int .u8 29,.int .u8 14,.int .u8 24,.int .u8 3,.int .u8 30,.int .u8 22,.int .u8 20,.int .u8 15,.int .u8 25,.int .u8 17,.int .u8 4,.int .u8 8,.int .u8 31,.int .u8 27,.int .u8 13,.int .u8 23,.int .u8 21,.int .u8 19,.int .u8 16,.int .u8 7,.int .u8 26,.int .u8 12,.int .u8 18,.int .u8 6,.int .u8 11,.int .u8 5,.int .u8 10,.int .u8 9]),
  (23,#[.int .u8 0,.int .u8 1,.int .u8 56,.int .u8 2,.int .u8 57,.int .u8 49,.int .u8 28,.int .u8 3,.int .u8 61,.int .u8 58,.int .u8 42,.int .u8 50,.int .u8 38,.int .u8 29,.int .u8 17,.int .u8 4,.int .u8 62,.int .u8 47,.int .u8 59,.int .u8 36,.int .u8 45,.int .u8 43,.int .u8 51,.int .u8 22,.int .u8 53,.int .u8 39,.int .u8 33,.int .u8 30,.int .u8 24,.int .u8 18,.int .u8 12,.int .u8 5,.int .u8 63,.int .u8 55,.int .u8 48,.int .u8 27,.int .u8 60,.int .u8 41,.int .u8 37,.int .u8 16,.int .u8 46,.int .u8 35,.int .u8 44,.int .u8 21,.int .u8 52,.int .u8 32,.int .u8 23,.int .u8 11,.int .u8 54,.int .u8 26,.int .u8 40,.int .u8 15,.int .u8 34,.int .u8 20,.int .u8 31,.int .u8 10,.int .u8 25,.int .u8 14,.int .u8 19,.int .u8 9,.int .u8 13,.int .u8 8,.int .u8 7,.int .u8 6]),
  (2,#[.int .u64 1,.int .u64 10,.int .u64 100,.int .u64 1000,.int .u64 10000,.int .u64 100000,.int .u64 1000000,.int .u64 10000000,.int .u64 100000000,.int .u64 1000000000,.int .u64 10000000000,.int .u64 100000000000,.int .u64 1000000000000,.int .u64 10000000000000,.int .u64 100000000000000,.int .u64 1000000000000000,.int .u64 10000000000000000,.int .u64 100000000000000000,.int .u64 1000000000000000000,.int .u64 10000000000000000000]),
  (26,#[.int .u8 64,.int .u8 1,.int .u8 4,.int .u8 128]),
  (27,#[.int .u8 16,.int .u8 15,.int .u8 9,.int .u8 6,.int .u8 1,.int .u8 255,.int .u8 153,.int .u8 96]),
  (25,#[.int .i64 1,.int .i64 7,.int .i64 0,.int .i64 (-1),.int .i64 0,.int .i64 7]),
  (3,#[.string ⟨#[98]⟩,.string ⟨#[99]⟩,.string ⟨#[100]⟩,.string ⟨#[101]⟩,.string ⟨#[104]⟩,.string ⟨#[108]⟩,.string ⟨#[40,104,108,41]⟩,.string ⟨#[97]⟩]),
  (4,#[.string ⟨#[98,99]⟩,.string ⟨#[100,101]⟩,.string ⟨#[104,108]⟩,.string ⟨#[115,112]⟩]),
  (5,#[.string ⟨#[98,99]⟩,.string ⟨#[100,101]⟩,.string ⟨#[104,108]⟩,.string ⟨#[97,102]⟩]),
  (6,#[.string ⟨#[110,122]⟩,.string ⟨#[122]⟩,.string ⟨#[110,99]⟩,.string ⟨#[99]⟩,.string ⟨#[112,111]⟩,.string ⟨#[112,101]⟩,.string ⟨#[112]⟩,.string ⟨#[109]⟩]),
  (7,#[.string ⟨#[97,100,100,32,97,44]⟩,.string ⟨#[97,100,99,32,97,44]⟩,.string ⟨#[115,117,98,32]⟩,.string ⟨#[115,98,99,32,97,44]⟩,.string ⟨#[97,110,100,32]⟩,.string ⟨#[120,111,114,32]⟩,.string ⟨#[111,114,32]⟩,.string ⟨#[99,112,32]⟩]),
  (8,#[.string ⟨#[114,108,99]⟩,.string ⟨#[114,114,99]⟩,.string ⟨#[114,108]⟩,.string ⟨#[114,114]⟩,.string ⟨#[115,108,97]⟩,.string ⟨#[115,114,97]⟩,.string ⟨#[115,108,108]⟩,.string ⟨#[115,114,108]⟩]),
  (9,#[.string ⟨#[48]⟩,.string ⟨#[48]⟩,.string ⟨#[49]⟩,.string ⟨#[50]⟩,.string ⟨#[48]⟩,.string ⟨#[48]⟩,.string ⟨#[49]⟩,.string ⟨#[50]⟩]),
  (12,#[.string ⟨#[110,111,112]⟩,.string ⟨#[101,120,32,97,102,44,97,102,39]⟩,.string ⟨#[100,106,110,122,32,84]⟩,.string ⟨#[106,114,32,84]⟩,.string ⟨#[106,114,32,74,44,84]⟩,.string ⟨#[106,114,32,74,44,84]⟩,.string ⟨#[106,114,32,74,44,84]⟩,.string ⟨#[106,114,32,74,44,84]⟩]),
  (13,#[.string ⟨#[108,100,32,80,44,87]⟩,.string ⟨#[97,100,100,32,72,44,80]⟩]),
  (14,#[.string ⟨#[108,100,32,40,98,99,41,44,97]⟩,.string ⟨#[108,100,32,97,44,40,98,99,41]⟩,.string ⟨#[108,100,32,40,100,101,41,44,97]⟩,.string ⟨#[108,100,32,97,44,40,100,101,41]⟩,.string ⟨#[108,100,32,40,87,41,44,72]⟩,.string ⟨#[108,100,32,72,44,40,87,41]⟩,.string ⟨#[108,100,32,40,87,41,44,97]⟩,.string ⟨#[108,100,32,97,44,40,87,41]⟩]),
  (15,#[.string ⟨#[105,110,99,32,80]⟩,.string ⟨#[100,101,99,32,80]⟩]),
  (16,#[.string ⟨#[114,108,99,97]⟩,.string ⟨#[114,114,99,97]⟩,.string ⟨#[114,108,97]⟩,.string ⟨#[114,114,97]⟩,.string ⟨#[100,97,97]⟩,.string ⟨#[99,112,108]⟩,.string ⟨#[115,99,102]⟩,.string ⟨#[99,99,102]⟩]),
  (17,#[.string ⟨#[114,101,116]⟩,.string ⟨#[101,120,120]⟩,.string ⟨#[106,112,32,40,72,41]⟩,.string ⟨#[108,100,32,115,112,44,72]⟩]),
  (18,#[.string ⟨#[106,112,32,87]⟩,.string ⟨#[112,114,101,102,105,120]⟩,.string ⟨#[111,117,116,32,40,78,41,44,97]⟩,.string ⟨#[105,110,32,97,44,40,78,41]⟩,.string ⟨#[101,120,32,40,115,112,41,44,72]⟩,.string ⟨#[101,120,32,100,101,44,104,108]⟩,.string ⟨#[100,105]⟩,.string ⟨#[101,105]⟩]),
  (1,#[.string ⟨#[75,32]⟩,.string ⟨#[98,105,116,32,89,44]⟩,.string ⟨#[114,101,115,32,89,44]⟩,.string ⟨#[115,101,116,32,89,44]⟩]),
  (19,#[.string ⟨#[115,98,99,32,72,44,80]⟩,.string ⟨#[97,100,99,32,72,44,80]⟩]),
  (20,#[.string ⟨#[108,100,32,40,87,41,44,80]⟩,.string ⟨#[108,100,32,80,44,40,87,41]⟩]),
  (21,#[.string ⟨#[108,100,32,105,44,97]⟩,.string ⟨#[108,100,32,114,44,97]⟩,.string ⟨#[108,100,32,97,44,105]⟩,.string ⟨#[108,100,32,97,44,114]⟩,.string ⟨#[114,114,100]⟩,.string ⟨#[114,108,100]⟩,.string ⟨#[110,111,112,42]⟩,.string ⟨#[110,111,112,42]⟩]),
  (10,#[.string ⟨#[108,100,105]⟩,.string ⟨#[108,100,100]⟩,.string ⟨#[108,100,105,114]⟩,.string ⟨#[108,100,100,114]⟩,.string ⟨#[99,112,105]⟩,.string ⟨#[99,112,100]⟩,.string ⟨#[99,112,105,114]⟩,.string ⟨#[99,112,100,114]⟩,.string ⟨#[105,110,105]⟩,.string ⟨#[105,110,100]⟩,.string ⟨#[105,110,105,114]⟩,.string ⟨#[105,110,100,114]⟩,.string ⟨#[111,117,116,105]⟩,.string ⟨#[111,117,116,100]⟩,.string ⟨#[111,116,105,114]⟩,.string ⟨#[111,116,100,114]⟩]),
  (24,#[.int .i64 0,.int .i64 0,.int .i64 1,.int .i64 2]),
  (0,#[.string ⟨#[102,101,116,99,104]⟩,.string ⟨#[114,101,97,100]⟩,.string ⟨#[119,114,105,116,101]⟩,.string ⟨#[105,110]⟩,.string ⟨#[111,117,116]⟩,.string ⟨#[97,99,107]⟩,.string ⟨#[105,110,110,101,114]⟩])]:List (Nat×Array Value)).foldl (fun h p=>h.modify p.1 (layIn p.2)) (World.holding Tryz.prog os ⟨#[],#[],[]⟩).heap }
theorem laid_met (os:Os):laidMet Tryz.prog Rows.traceLinesRow.laid ((laidWorld os).forCall (fun _ _=>0) ⟨#[],#[zW,.agg #[.int .i64 0,.int .u16 0,.int .u8 0,.int .i64 0]],[]⟩).memory :=
 laidMet_of_run' 8 (by kernel_rfl) (by kernel_rfl)
theorem reads (os:Os){H:Type}(enc:TypeId×Value→H):∃ places,DataW.whole enc Tryz.prog ((laidWorld os).forCall (fun _ _=>0) ⟨#[],#[zW,.agg #[.int .i64 0,.int .u16 0,.int .u8 0,.int .i64 0]],[]⟩).memory Tryz.f3.params.toList Rows.traceLinesSpec.vars false (#[zW,.agg #[.int .i64 0,.int .u16 0,.int .u8 0,.int .i64 0]]:Array Value).toList 8=some ([.agg [.agg [.lit (.int .u16 0),.lit (.int .u16 0),.lit (.int .u16 0),.lit (.int .u16 0),.lit (.int .u16 0),.lit (.int .u16 0),.lit (.int .u16 0),.lit (.int .u16 0),.lit (.int .u16 0),.lit (.int .u16 0),.lit (.int .u16 0),.lit (.int .u16 0),.lit (.int .u16 0),.lit (.int .u8 0),.lit (.int .u8 0),.lit (.bool false),.lit (.bool false),.lit (.bool false),.lit (.bool false),.lit (.int .i64 0)],.nil,.nil],.agg [.lit (.int .i64 0),.lit (.int .u16 0),.lit (.int .u8 0),.lit (.int .i64 0)]],[],places) :=
 ⟨[],by kernel_rfl⟩
set_option maxRecDepth 100000 in
theorem lifted (os:Os)(started:os.Started)(H:Type)(enc:TypeId×Value→H)(F:Stop.Interp) :
 ReturnsInHanded {} Tryz.checked os 3 .any ((OpenSpec.ofChange Rows.traceLinesSpec).preRow enc Tryz.prog Tryz.f3 Rows.traceLinesRow.domain false Rows.traceLinesRow.laid) (((OpenSpec.ofChange Rows.traceLinesSpec).at F).post enc Tryz.prog Tryz.f3 false true false false):=by
 obtain⟨places,hx⟩:=reads os enc
 refine returnsInHanded_of_row (C:=Tryz.checked) (s:=OpenSpec.ofChange Rows.traceLinesSpec) own started (by kernel_rfl) Tryz.func3
  (witness_row_at (enc:=enc) (C:=Tryz.checked) false (laidWorld os) #[zW,.agg #[.int .i64 0,.int .u16 0,.int .u8 0,.int .i64 0]] rfl (by kernel_rfl) (by kernel_rfl) (by kernel_rfl)
    (OpenSpec.preRow_of_cond 8 hx (by kernel_rfl) (fun k hk=>by cases hk) (by kernel_rfl) (laid_met os))) ?_
 intro W base args ds gs before hval hW _ _ _ hL _ _
 exact contract H enc W base args ds gs before hval hW hL
theorem fact_inPlace:(Rows.traceLinesRow.inPlace==Tryz.pinned.checked.prog.inPlace 3)=true:=by kernel_rfl
theorem fact_unfollowed:(Rows.traceLinesRow.unfollowed==Tryz.pinned.checked.prog.unfollowed 3)=true:=by kernel_rfl
theorem fact_recurses:(Rows.traceLinesRow.recurses==Tryz.pinned.checked.prog.recurses 3)=true:=by kernel_rfl
theorem fact_named:(Rows.traceLinesRow.named==Tryz.pinned.checked.prog.varsNamed 3)=true:=by kernel_rfl
theorem closed:joinedFacts Tryz.pinned.checked.prog 3 Tryz.f3 (OpenSpec.ofChange Rows.traceLinesSpec).bare Rows.traceLinesRow=true:=by
 unfold joinedFacts
 rw[fact_inPlace,fact_unfollowed,fact_recurses,fact_named]
 kernel_rfl
theorem said:Rows.TraceLinesSaid :=
 OpenClaim.holds_of_cond 3 Tryz.f3 rfl rfl rfl rfl rfl rfl rfl ⟨rfl,rfl,rfl,rfl,rfl⟩ rfl rfl rfl rfl rfl (by kernel_rfl) Tryz.func3 closed
  (of_decide_eq_true (by kernel_rfl)) (by unfold Func.isWrapper;first|(rw[if_pos (by decide +kernel)];kernel_rfl)|(rw[if_neg (by decide +kernel)];exact⟨rfl,rfl⟩))
  (fun os started H enc _ F=>by rw[OpenClaim.pre_eq_preRow];exact lifted os started H enc F)
end Go.Proofs.YtmgcgiecimnncaaGreatDoor.traceLinesLaw
