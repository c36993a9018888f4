/- Layer 11 (regs): the document's own Show: contract. Written by tools/regs.py. -/
import Derived.Test.YtpiadeedgjmmkaaDoorRegsNumber
import Derived.Test.YtpiadeedgjmmkaaDoorRegsShowM
import Derived.Test.YtpiadeedgjmmkaaDoorTextRHex
import Derived.Test.YtpiadeedgjmmkaaDoorWhole
import Derived.Deep.RegionHeld3
import Derived.BigQuiet
import Derived.Deep.DeepCutAuto
import Derived.Deep.QuietTactic
namespace Go.Proofs.YtpiadeedgjmmkaaDoor
open Go.RowKit
set_option linter.unusedVariables false
set_option linter.unusedSimpArgs false

/-- what the eight items begin with -/
def nmB (k : Nat) : ByteArray := [(⟨#[97, 102, 61]⟩ : ByteArray), (⟨#[98, 99, 61]⟩ : ByteArray), (⟨#[100, 101, 61]⟩ : ByteArray), (⟨#[104, 108, 61]⟩ : ByteArray), (⟨#[105, 120, 61]⟩ : ByteArray), (⟨#[105, 121, 61]⟩ : ByteArray), (⟨#[115, 112, 61]⟩ : ByteArray), (⟨#[112, 99, 61]⟩ : ByteArray)].getD k ⟨#[]⟩
theorem nmB_size (k : Nat) (h : k < 8) : (nmB k).size = 3 := by
  obtain rfl | rfl | rfl | rfl | rfl | rfl | rfl | rfl : k = 0 ∨ k = 1 ∨ k = 2 ∨ k = 3 ∨ k = 4 ∨ k = 5 ∨ k = 6 ∨ k = 7 := by omega
  all_goals rfl
def nums (g : Rg) (k : Nat) : Int := [g.af, g.bc, g.de, g.hl, g.ix, g.iy, g.sp, g.pc].getD k 0
theorem nums_b (g : Rg) (hg : RgB g) (k : Nat) (h : k < 8) : W16 (nums g k) := by
  obtain rfl | rfl | rfl | rfl | rfl | rfl | rfl | rfl : k = 0 ∨ k = 1 ∨ k = 2 ∨ k = 3 ∨ k = 4 ∨ k = 5 ∨ k = 6 ∨ k = 7 := by omega
  · exact hg.af
  · exact hg.bc
  · exact hg.de
  · exact hg.hl
  · exact hg.ix
  · exact hg.iy
  · exact hg.sp
  · exact hg.pc
def tailB (b : Bool) (s : ByteArray) : ByteArray := if b then s else ⟨#[]⟩
def accB (x : Nat → Int) : Nat → ByteArray
  | 0 => ⟨#[]⟩
  | k + 1 => accB x k ++ nmB k ++ wordB (x k) ++ ⟨#[32]⟩
theorem app_size (a b : ByteArray) : (a ++ b).size = a.size + b.size := by simp
theorem accB_size (x : Nat → Int) : ∀ k, k ≤ 8 → (accB x k).size = 9 * k
  | 0, _ => rfl
  | k + 1, h => by
    rw [accB, app_size, app_size, app_size, accB_size x k (by omega), nmB_size k (by omega), wordB_size]
    show 9 * k + 3 + 5 + 1 = _
    omega
theorem accB_8 (x : Nat → Int) : accB x 8 = ⟨#[]⟩ ++ nmB 0 ++ wordB (x 0) ++ ⟨#[32]⟩ ++ nmB 1 ++ wordB (x 1) ++ ⟨#[32]⟩ ++ nmB 2 ++ wordB (x 2) ++ ⟨#[32]⟩ ++ nmB 3 ++ wordB (x 3) ++ ⟨#[32]⟩ ++ nmB 4 ++ wordB (x 4) ++ ⟨#[32]⟩ ++ nmB 5 ++ wordB (x 5) ++ ⟨#[32]⟩ ++ nmB 6 ++ wordB (x 6) ++ ⟨#[32]⟩ ++ nmB 7 ++ wordB (x 7) ++ ⟨#[32]⟩ := rfl
theorem show_acc (g : Rg) : (⟨(showG g).toArray⟩ : ByteArray) = accB (nums g) 8 ++ ⟨#[105, 61]⟩ ++ byteB g.i ++ ⟨#[32, 114, 61]⟩ ++ byteB g.r ++ ⟨#[32, 105, 109]⟩ ++ numB g.mode ++ tailB g.iff1 ⟨#[32, 105, 102, 102, 49]⟩ ++ tailB g.iff2 ⟨#[32, 105, 102, 102, 50]⟩ ++ tailB g.halted ⟨#[32, 104, 97, 108, 116]⟩ := by
  rw [accB_8]
  apply ByteArray.ext
  unfold showG showItems wordB byteB numB tailB
  generalize Lib.itoa g.mode = I
  cases g.iff1 <;> cases g.iff2 <;> cases g.halted <;> simp [nmB, nums, Lib.join, List.intercalate, List.intersperse, hex4, hex2]
theorem app_nil (a : ByteArray) : a ++ ⟨#[]⟩ = a := by
  apply ByteArray.ext
  simp
theorem keep3s {w w' : World} {A i j m : Nat} {u v x : Value} (k : Below w.heap.size w w') (h : w.cell? ⟨A, i, none⟩ = some u ∧ w.cell? ⟨A, j, none⟩ = some v ∧ w.cell? ⟨A, m, none⟩ = some x) :
    w'.cell? ⟨A, i, none⟩ = some u ∧ w'.cell? ⟨A, j, none⟩ = some v ∧ w'.cell? ⟨A, m, none⟩ = some x := ⟨cell_kept h.1 k, cell_kept h.2.1 k, cell_kept h.2.2 k⟩
theorem keep2s {w w' : World} {A B i j : Nat} {u v : Value} (k : Below w.heap.size w w') (h : w.cell? ⟨A, i, none⟩ = some u ∧ w.cell? ⟨B, j, none⟩ = some v) :
    w'.cell? ⟨A, i, none⟩ = some u ∧ w'.cell? ⟨B, j, none⟩ = some v := ⟨cell_kept h.1 k, cell_kept h.2 k⟩
theorem rHexW_any (n : Int) (h : W16 n) (w : World) :
    Calls Tryd.prog 36 #[.int .i64 (IntKind.i64.wrap n), .int .i64 4] w fun e w' => e = .returned (.string (wordB n)) ∧ Below w.heap.size w w' := by
  rw [show IntKind.i64.wrap n = n by have := h.1; have := h.2; rw [IntKind.wrap_i64]; omega]
  exact rHex4_any n h.1 h.2 w
theorem rHexB_any (n : Int) (h : B8 n) (w : World) :
    Calls Tryd.prog 36 #[.int .i64 (IntKind.i64.wrap n), .int .i64 2] w fun e w' => e = .returned (.string (byteB n)) ∧ Below w.heap.size w w' := by
  rw [show IntKind.i64.wrap n = n by have := h.1; have := h.2; rw [IntKind.wrap_i64]; omega]
  exact rHex2_any n h.1 h.2 w
set_option maxRecDepth 20000 in
set_option maxHeartbeats 16000000 in
theorem rshow_any (g : Rg) (hg : RgB g) (w : World) :
    Calls Tryd.prog 21 #[regsV g] w fun e w' => e = .returned (.string ⟨(showG g).toArray⟩) ∧ Below w.heap.size w w' := by
  have HNB := Lib.hid (nums_b g hg)
  have hg8 := hg.i
  have hg9 := hg.r
  have hgm := hg.mode
  obtain ⟨af, bc, de, hl, af2, bc2, de2, hl2, ix, iy, sp, pc, wz, i, r, iff1, iff2, halted, late, mode⟩ := g
  have KB := Lib.hid rHexB_any
  have HQ8 := Lib.hid (show B8 i from hg8)
  have HQ9 := Lib.hid (show B8 r from hg9)
  have KN := Lib.hid (rnum_any mode hgm)
  have HM := Lib.hid hgm
  clear hg hg8 hg9 hgm
  obtain ⟨cs, hcs⟩ : ∃ cs, cs = (#[.int .u16 af, .int .u16 bc, .int .u16 de, .int .u16 hl, .int .u16 af2, .int .u16 bc2, .int .u16 de2, .int .u16 hl2, .int .u16 ix, .int .u16 iy, .int .u16 sp, .int .u16 pc, .int .u16 wz, .int .u8 i, .int .u8 r, .bool iff1, .bool iff2, .bool halted, .bool late, .int .i64 mode] : Array Value) := ⟨_, rfl⟩
  have HE := Lib.hid hcs
  show Calls _ _ #[.agg (#[.int .u16 af, .int .u16 bc, .int .u16 de, .int .u16 hl, .int .u16 af2, .int .u16 bc2, .int .u16 de2, .int .u16 hl2, .int .u16 ix, .int .u16 iy, .int .u16 sp, .int .u16 pc, .int .u16 wz, .int .u8 i, .int .u8 r, .bool iff1, .bool iff2, .bool halted, .bool late, .int .i64 mode] : Array Value)] _ _
  rw [← hcs]
  clear hcs
  go_enter Tryd.func21, Tryd.ntmps21
  go_upto_region 1 with (fail)
  have rA := Row.new w 24 cs
  have HB := Lib.hid ((Below.refl w.heap.size w).alloc (Nat.le_refl _) (.cells cs 24))
  generalize w.alloc (.cells cs 24) = W0 at *
  rw [HE.out] at rA
  have rA := Lib.hid rA
  have hltA := rA.out.lt
  have c0 : W0.cell? ⟨w.heap.size, 0, none⟩ = some (.int .u16 af) := rA.out.cell 0
  have c1 : W0.cell? ⟨w.heap.size, 1, none⟩ = some (.int .u16 bc) := rA.out.cell 1
  have c2 : W0.cell? ⟨w.heap.size, 2, none⟩ = some (.int .u16 de) := rA.out.cell 2
  have c3 : W0.cell? ⟨w.heap.size, 3, none⟩ = some (.int .u16 hl) := rA.out.cell 3
  have c8 : W0.cell? ⟨w.heap.size, 8, none⟩ = some (.int .u16 ix) := rA.out.cell 8
  have c9 : W0.cell? ⟨w.heap.size, 9, none⟩ = some (.int .u16 iy) := rA.out.cell 9
  have c10 : W0.cell? ⟨w.heap.size, 10, none⟩ = some (.int .u16 sp) := rA.out.cell 10
  have c11 : W0.cell? ⟨w.heap.size, 11, none⟩ = some (.int .u16 pc) := rA.out.cell 11
  go_upto_region 3 with (fail)
  clear c0 c1 c2 c3 c8 c9 c10 c11
  have rN := (Row.new W0 9 #[.string ⟨#[97, 102, 61]⟩, .string ⟨#[98, 99, 61]⟩, .string ⟨#[100, 101, 61]⟩, .string ⟨#[104, 108, 61]⟩, .string ⟨#[105, 120, 61]⟩, .string ⟨#[105, 121, 61]⟩, .string ⟨#[115, 112, 61]⟩, .string ⟨#[112, 99, 61]⟩]).alloc (.cells #[.int .u16 af, .int .u16 bc, .int .u16 de, .int .u16 hl, .int .u16 ix, .int .u16 iy, .int .u16 sp, .int .u16 pc] 22)
  have rX := Row.new (W0.alloc (.cells #[.string ⟨#[97, 102, 61]⟩, .string ⟨#[98, 99, 61]⟩, .string ⟨#[100, 101, 61]⟩, .string ⟨#[104, 108, 61]⟩, .string ⟨#[105, 120, 61]⟩, .string ⟨#[105, 121, 61]⟩, .string ⟨#[115, 112, 61]⟩, .string ⟨#[112, 99, 61]⟩] 9)) 22 #[.int .u16 af, .int .u16 bc, .int .u16 de, .int .u16 hl, .int .u16 ix, .int .u16 iy, .int .u16 sp, .int .u16 pc]
  rw [show (W0.alloc (.cells #[.string ⟨#[97, 102, 61]⟩, .string ⟨#[98, 99, 61]⟩, .string ⟨#[100, 101, 61]⟩, .string ⟨#[104, 108, 61]⟩, .string ⟨#[105, 120, 61]⟩, .string ⟨#[105, 121, 61]⟩, .string ⟨#[115, 112, 61]⟩, .string ⟨#[112, 99, 61]⟩] 9)).heap.size = W0.heap.size + 1 by simp] at rX
  have rA2 := Lib.hid ((rA.out.alloc (.cells #[.string ⟨#[97, 102, 61]⟩, .string ⟨#[98, 99, 61]⟩, .string ⟨#[100, 101, 61]⟩, .string ⟨#[104, 108, 61]⟩, .string ⟨#[105, 120, 61]⟩, .string ⟨#[105, 121, 61]⟩, .string ⟨#[115, 112, 61]⟩, .string ⟨#[112, 99, 61]⟩] 9)).alloc (.cells #[.int .u16 af, .int .u16 bc, .int .u16 de, .int .u16 hl, .int .u16 ix, .int .u16 iy, .int .u16 sp, .int .u16 pc] 22))
  have HB2 := Lib.hid ((HB.out.alloc HB.out.size (.cells #[.string ⟨#[97, 102, 61]⟩, .string ⟨#[98, 99, 61]⟩, .string ⟨#[100, 101, 61]⟩, .string ⟨#[104, 108, 61]⟩, .string ⟨#[105, 120, 61]⟩, .string ⟨#[105, 121, 61]⟩, .string ⟨#[115, 112, 61]⟩, .string ⟨#[112, 99, 61]⟩] 9)).alloc (by have := HB.out.size; simp; omega) (.cells #[.int .u16 af, .int .u16 bc, .int .u16 de, .int .u16 hl, .int .u16 ix, .int .u16 iy, .int .u16 sp, .int .u16 pc] 22))
  generalize (W0.alloc (.cells #[.string ⟨#[97, 102, 61]⟩, .string ⟨#[98, 99, 61]⟩, .string ⟨#[100, 101, 61]⟩, .string ⟨#[104, 108, 61]⟩, .string ⟨#[105, 120, 61]⟩, .string ⟨#[105, 121, 61]⟩, .string ⟨#[115, 112, 61]⟩, .string ⟨#[112, 99, 61]⟩] 9)).alloc (.cells #[.int .u16 af, .int .u16 bc, .int .u16 de, .int .u16 hl, .int .u16 ix, .int .u16 iy, .int .u16 sp, .int .u16 pc] 22) = W at *
  have HN : Hid (∀ k, k < 8 → W.cell? ⟨W0.heap.size, k, none⟩ = some (.string (nmB k))) := Lib.hid (fun k hk => by
    obtain rfl | rfl | rfl | rfl | rfl | rfl | rfl | rfl : k = 0 ∨ k = 1 ∨ k = 2 ∨ k = 3 ∨ k = 4 ∨ k = 5 ∨ k = 6 ∨ k = 7 := by omega
    all_goals exact rN.cell _)
  have HX : Hid (∀ k, k < 8 → W.cell? ⟨W0.heap.size + 1, k, none⟩ = some (.int .u16 (nums ⟨af, bc, de, hl, af2, bc2, de2, hl2, ix, iy, sp, pc, wz, i, r, iff1, iff2, halted, late, mode⟩ k))) := Lib.hid (fun k hk => by
    obtain rfl | rfl | rfl | rfl | rfl | rfl | rfl | rfl : k = 0 ∨ k = 1 ∨ k = 2 ∨ k = 3 ∨ k = 4 ∨ k = 5 ∨ k = 6 ∨ k = 7 := by omega
    all_goals exact rX.cell _)
  have hgN := rN.lt
  have hgX := rX.lt
  clear rN rX rA HB hltA HE
  have HF := Lib.hid (show ∀ x, nums ⟨af, bc, de, hl, af2, bc2, de2, hl2, ix, iy, sp, pc, wz, i, r, iff1, iff2, halted, late, mode⟩ = x → accB (nums ⟨af, bc, de, hl, af2, bc2, de2, hl2, ix, iy, sp, pc, wz, i, r, iff1, iff2, halted, late, mode⟩) 8 = accB x 8 from fun x h => by rw [h])
  obtain ⟨x, hx⟩ : ∃ x, x = nums ⟨af, bc, de, hl, af2, bc2, de2, hl2, ix, iy, sp, pc, wz, i, r, iff1, iff2, halted, late, mode⟩ := ⟨_, rfl⟩
  rw [← hx] at HX HNB
  have HXE := Lib.hid hx
  clear hx HF
  generalize W0.heap.size = gN at *
  go_wp2
  go_loopw [5, 6] (fun s i wr => ∃ k : Nat, k ≤ 8 ∧ s = .string (accB x k) ∧ i = .int .i64 (k : Int) ∧ Below W.heap.size W wr) (fun _ i _ => 8 - (intOf i).toNat)
  case atStart => exact ⟨0, by omega, rfl, rfl, Below.refl _ _⟩
  case round =>
    obtain ⟨k, hk, rfl, rfl, hB⟩ := hrel
    have HBr := Lib.hid hB
    by_cases hlt : k < 8
    · have l0 := (hB.cell (p := ⟨gN, k, none⟩) hgN).trans (HN.out k hlt)
      have l1 := (hB.cell (p := ⟨gN + 1, k, none⟩) hgX).trans (HX.out k hlt)
      have hs0 := accB_size x k hk
      have hs1 := nmB_size k hlt
      have hs2 := wordB_size (x k)
      have kH := Lib.hid (rHexW_any (x k) (HNB.out k hlt))
      have HACC := Lib.hid (show accB x (k + 1) = accB x k ++ nmB k ++ wordB (x k) ++ ⟨#[32]⟩ from rfl)
      clear hB
      generalize x k = v at *
      generalize nmB k = nm at *
      have n1 : (k : Int) < 8 := by omega
      have n0 : (0 : Int) ≤ (k : Int) := by omega
      have g1 : ¬ (9223372036854775807 < 9 * k + 3) := by omega
      have g2 : ¬ (9223372036854775807 < 9 * k + 3 + 5) := by omega
      have g3 : ¬ (9223372036854775807 < 9 * k + 3 + 5 + 1) := by omega
      go_upto_region 7 with (fail)
      go_region_held3 (fun w' => w'.cell? ⟨gN, k, none⟩ = some (.string nm) ∧ w'.cell? ⟨gN + 1, k, none⟩ = some (.int .u16 v)) (first | with_reducible assumption | exact ⟨l0, l1⟩ | with_reducible exact keep2s hb (by with_reducible assumption)) (first
        | (go_at_call 36; refine (kH.out _).mono ?_; rintro e w' ⟨rfl, hb⟩; have HB3 := Lib.hid (show Below W.heap.size W w' from (show Below W.heap.size W _ from (by first | exact HBr.out | exact HBr.out.drew)).trans (hb.mono (by first | exact HBr.out.size | exact HBr.out.drew.size)))))
      go_wp2
      go_roundw
      case rel => exact ⟨k + 1, by omega, by rw [HACC.out], by go_num, HB3.out⟩
      case measure => simp [intOf]; omega
    · obtain rfl : k = 8 := by omega
      have hltA : w.heap.size < W.heap.size := rA2.out.lt
      have rW := Lib.hid (rA2.out.below hB hltA)
      have l13 : wr.cell? ⟨w.heap.size, 13, none⟩ = some (.int .u8 i) := rW.out.cell 13
      have l14 : wr.cell? ⟨w.heap.size, 14, none⟩ = some (.int .u8 r) := rW.out.cell 14
      have l19 : wr.cell? ⟨w.heap.size, 19, none⟩ = some (.int .i64 mode) := rW.out.cell 19
      have hltW : w.heap.size < wr.heap.size := rW.out.lt
      have hs0 := accB_size x 8 (Nat.le_refl _)
      have hs1 := byteB_size i
      have hs2 := byteB_size r
      have hs3 := numB_size mode HM.out
      have g1 : ¬ (9223372036854775807 < 86 + (numB mode).size) := by omega
      have HSN := Lib.hid hs3
      have HXA := Lib.hid (show accB x 8 = accB (nums ⟨af, bc, de, hl, af2, bc2, de2, hl2, ix, iy, sp, pc, wz, i, r, iff1, iff2, halted, late, mode⟩) 8 by rw [HXE.out])
      have HBW := Lib.hid (HB2.out.trans (hB.mono HB2.out.size))
      clear hB hlt hk hgN hgX HNB HN HX HXE hs3
      generalize accB x 8 = AC at *
      simp only [show ((8 : Nat) : Int) = 8 from rfl]
      go_upto_region 8 with (fail)
      have HBr2 := Lib.hid (Below.refl wr.heap.size wr)
      have q8 := HQ8.out
      have q9 := HQ9.out
      go_region_held3 (fun w' => w'.cell? ⟨w.heap.size, 13, none⟩ = some (.int .u8 i) ∧ w'.cell? ⟨w.heap.size, 14, none⟩ = some (.int .u8 r) ∧ w'.cell? ⟨w.heap.size, 19, none⟩ = some (.int .i64 mode)) (first | with_reducible assumption | exact ⟨l13, l14, l19⟩ | with_reducible exact keep3s hb (by with_reducible assumption)) (first
        | (go_at_call 36; refine (KB.out _ (by with_reducible assumption) _).mono ?_; rintro e w' ⟨rfl, hb⟩; have HBr2 := Lib.hid (show Below wr.heap.size wr w' from (show Below wr.heap.size wr _ from (by first | exact HBr2.out | exact HBr2.out.drew)).trans (hb.mono (by first | exact HBr2.out.size | exact HBr2.out.drew.size))))
        | (go_at_call 37; refine (KN.out _).mono ?_; rintro e w' ⟨rfl, hb⟩; have HBr2 := Lib.hid (show Below wr.heap.size wr w' from (show Below wr.heap.size wr _ from (by first | exact HBr2.out | exact HBr2.out.drew)).trans (hb.mono (by first | exact HBr2.out.size | exact HBr2.out.drew.size)))))
      have rV := rW.out.below HBr2.out hltW
      have l15 : w'.cell? ⟨w.heap.size, 15, none⟩ = some (.bool iff1) := rV.cell 15
      have l16 : w'.cell? ⟨w.heap.size, 16, none⟩ = some (.bool iff2) := rV.cell 16
      have l17 : w'.cell? ⟨w.heap.size, 17, none⟩ = some (.bool halted) := rV.cell 17
      have HBF := Lib.hid (HBW.out.trans (HBr2.out.mono HBW.out.size))
      have hT : (AC ++ ⟨#[105, 61]⟩ ++ byteB i ++ ⟨#[32, 114, 61]⟩ ++ byteB r ++ ⟨#[32, 105, 109]⟩ ++ numB mode : ByteArray).size ≤ 107 := by
        simp only [app_size, hs0, hs1, hs2]
        have := HSN.out
        show 9 * 8 + 2 + 3 + 3 + 3 + 3 + _ ≤ 107
        omega
      have hacc := show_acc ⟨af, bc, de, hl, af2, bc2, de2, hl2, ix, iy, sp, pc, wz, i, r, iff1, iff2, halted, late, mode⟩
      rw [← HXA.out] at hacc
      have HACC := Lib.hid hacc
      clear hacc
      clear l13 l14 l19 hs0 hs1 hs2 g1 q8 q9 rV
      generalize (AC ++ ⟨#[105, 61]⟩ ++ byteB i ++ ⟨#[32, 114, 61]⟩ ++ byteB r ++ ⟨#[32, 105, 109]⟩ ++ numB mode : ByteArray) = TX at *
      have hb1 : iff1 = true ∨ iff1 = false := by cases iff1 <;> simp
      have hb2 : iff2 = true ∨ iff2 = false := by cases iff2 <;> simp
      have hb3 : halted = true ∨ halted = false := by cases halted <;> simp
      obtain h1 | h1 := hb1
      all_goals
        obtain h2 | h2 := hb2
        all_goals
          obtain h3 | h3 := hb3
          all_goals
            rw [h1] at l15
            rw [h2] at l16
            rw [h3] at l17
            have H1 := Lib.hid h1
            have H2 := Lib.hid h2
            have H3 := Lib.hid h3
            clear h1 h2 h3
            go_wp2
            go_ret
            refine ⟨ret_bs' (Eq.trans ?_ HACC.out.symm), HBF.out⟩
            simp only [tailB, H1.out, H2.out, H3.out, if_true, if_false, app_nil, Bool.false_eq_true]
end Go.Proofs.YtpiadeedgjmmkaaDoor
