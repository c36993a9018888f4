/- Layer 11 (regs): Swap, Exx, Reset: contract. Written by tools/regs.py. -/
import Derived.Test.YtpiadeedgjmmkaaDoorRegsPair
import Derived.Test.YtpiadeedgjmmkaaDoorRegsRow
import Derived.BigQuiet
import Derived.Deep.DeepCutAuto
import Derived.Deep.QuietTactic
namespace Go.Proofs.YtpiadeedgjmmkaaDoor
open Go.RowKit
set_option linter.unusedVariables false
set_option linter.unusedSimpArgs false

set_option maxRecDepth 20000 in
set_option maxHeartbeats 4000000 in
theorem swap_any (g : Rg) (w : World) :
    Calls Tryd.prog 14 #[regsV g] w fun e w' => e = .returned (regsV (swapG g)) ∧ Below w.heap.size w w' := by
  obtain ⟨af, bc, de, hl, af2, bc2, de2, hl2, ix, iy, sp, pc, wz, i, r, iff1, iff2, halted, late, mode⟩ := g
  obtain ⟨cs, hcs⟩ : ∃ cs, cs = (#[.int .u16 af, .int .u16 bc, .int .u16 de, .int .u16 hl, .int .u16 af2, .int .u16 bc2, .int .u16 de2, .int .u16 hl2, .int .u16 ix, .int .u16 iy, .int .u16 sp, .int .u16 pc, .int .u16 wz, .int .u8 i, .int .u8 r, .bool iff1, .bool iff2, .bool halted, .bool late, .int .i64 mode] : Array Value) := ⟨_, rfl⟩
  have HE := Lib.hid hcs
  show Calls _ _ #[.agg (#[.int .u16 af, .int .u16 bc, .int .u16 de, .int .u16 hl, .int .u16 af2, .int .u16 bc2, .int .u16 de2, .int .u16 hl2, .int .u16 ix, .int .u16 iy, .int .u16 sp, .int .u16 pc, .int .u16 wz, .int .u8 i, .int .u8 r, .bool iff1, .bool iff2, .bool halted, .bool late, .int .i64 mode] : Array Value)] _ _
  rw [← hcs]
  clear hcs
  go_enter Tryd.func14, Tryd.ntmps14
  go_upto_region 1 with (fail)
  have rA := (Row.new w 24 cs).alloc (.cells (#[.int .u16 0, .int .u16 0, .int .u16 0, .int .u16 0, .int .u16 0, .int .u16 0, .int .u16 0, .int .u16 0, .int .u16 0, .int .u16 0, .int .u16 0, .int .u16 0, .int .u16 0, .int .u8 0, .int .u8 0, .bool false, .bool false, .bool false, .bool false, .int .i64 0] : Array Value) 24)
  have rZ := Row.new (w.alloc (.cells cs 24)) 24 (#[.int .u16 0, .int .u16 0, .int .u16 0, .int .u16 0, .int .u16 0, .int .u16 0, .int .u16 0, .int .u16 0, .int .u16 0, .int .u16 0, .int .u16 0, .int .u16 0, .int .u16 0, .int .u8 0, .int .u8 0, .bool false, .bool false, .bool false, .bool false, .int .i64 0] : Array Value)
  rw [show (w.alloc (.cells cs 24)).heap.size = w.heap.size + 1 by simp] at rZ
  have rZ := Lib.hid rZ
  have HB := Lib.hid (((Below.refl w.heap.size w).alloc (Nat.le_refl _) (.cells cs 24)).alloc (by simp) (.cells (#[.int .u16 0, .int .u16 0, .int .u16 0, .int .u16 0, .int .u16 0, .int .u16 0, .int .u16 0, .int .u16 0, .int .u16 0, .int .u16 0, .int .u16 0, .int .u16 0, .int .u16 0, .int .u8 0, .int .u8 0, .bool false, .bool false, .bool false, .bool false, .int .i64 0] : Array Value) 24))
  have HW := Lib.hid (show ((w.alloc (.cells cs 24)).alloc (.cells (#[.int .u16 0, .int .u16 0, .int .u16 0, .int .u16 0, .int .u16 0, .int .u16 0, .int .u16 0, .int .u16 0, .int .u16 0, .int .u16 0, .int .u16 0, .int .u16 0, .int .u16 0, .int .u8 0, .int .u8 0, .bool false, .bool false, .bool false, .bool false, .int .i64 0] : Array Value) 24)).heap.size = w.heap.size + 2 by simp)
  generalize (w.alloc (.cells cs 24)).alloc (.cells (#[.int .u16 0, .int .u16 0, .int .u16 0, .int .u16 0, .int .u16 0, .int .u16 0, .int .u16 0, .int .u16 0, .int .u16 0, .int .u16 0, .int .u16 0, .int .u16 0, .int .u16 0, .int .u8 0, .int .u8 0, .bool false, .bool false, .bool false, .bool false, .int .i64 0] : Array Value) 24) = W0 at *
  rw [HE.out] at rA
  have rA := Lib.hid rA
  have hltA := rA.out.lt
  have hltZ := rZ.out.lt
  have lA4 : W0.cell? ⟨w.heap.size, 4, none⟩ = some (.int .u16 af2) := rA.out.cell 4
  have lA0 : W0.cell? ⟨w.heap.size, 0, none⟩ = some (.int .u16 af) := rA.out.cell 0
  have fA0 := rA.out.frozen 0
  have fA4 := rA.out.frozen 4
  have qA0 : Row (W0.setCell ⟨w.heap.size, 0, none⟩ (.int .u16 af2)) (w.heap.size) 24 (#[.int .u16 af2, .int .u16 bc, .int .u16 de, .int .u16 hl, .int .u16 af2, .int .u16 bc2, .int .u16 de2, .int .u16 hl2, .int .u16 ix, .int .u16 iy, .int .u16 sp, .int .u16 pc, .int .u16 wz, .int .u8 i, .int .u8 r, .bool iff1, .bool iff2, .bool halted, .bool late, .int .i64 mode] : Array Value) := rA.out.set 0 (.int .u16 af2)
  have qZ0 : Row (W0.setCell ⟨w.heap.size, 0, none⟩ (.int .u16 af2)) (w.heap.size + 1) 24 (#[.int .u16 0, .int .u16 0, .int .u16 0, .int .u16 0, .int .u16 0, .int .u16 0, .int .u16 0, .int .u16 0, .int .u16 0, .int .u16 0, .int .u16 0, .int .u16 0, .int .u16 0, .int .u8 0, .int .u8 0, .bool false, .bool false, .bool false, .bool false, .int .i64 0] : Array Value) := rZ.out.far (p := ⟨w.heap.size, 0, none⟩) (by simp) (.int .u16 af2)
  have qA1 : Row ((W0.setCell ⟨w.heap.size, 0, none⟩ (.int .u16 af2)).setCell ⟨w.heap.size, 4, none⟩ (.int .u16 af)) (w.heap.size) 24 (#[.int .u16 af2, .int .u16 bc, .int .u16 de, .int .u16 hl, .int .u16 af, .int .u16 bc2, .int .u16 de2, .int .u16 hl2, .int .u16 ix, .int .u16 iy, .int .u16 sp, .int .u16 pc, .int .u16 wz, .int .u8 i, .int .u8 r, .bool iff1, .bool iff2, .bool halted, .bool late, .int .i64 mode] : Array Value) := qA0.set 4 (.int .u16 af)
  have qZ1 : Row ((W0.setCell ⟨w.heap.size, 0, none⟩ (.int .u16 af2)).setCell ⟨w.heap.size, 4, none⟩ (.int .u16 af)) (w.heap.size + 1) 24 (#[.int .u16 0, .int .u16 0, .int .u16 0, .int .u16 0, .int .u16 0, .int .u16 0, .int .u16 0, .int .u16 0, .int .u16 0, .int .u16 0, .int .u16 0, .int .u16 0, .int .u16 0, .int .u8 0, .int .u8 0, .bool false, .bool false, .bool false, .bool false, .int .i64 0] : Array Value) := qZ0.far (p := ⟨w.heap.size, 4, none⟩) (by simp) (.int .u16 af)
  have qA := qA1
  have qZ := qZ1
  clear qA0 qZ0 qA1 qZ1
  have HB' := Lib.hid ((HB.out.setCell (p := ⟨w.heap.size, 0, none⟩) (by first | exact Nat.le_refl _ | exact Nat.le_add_right _ _) (.int .u16 af2)).setCell (p := ⟨w.heap.size, 4, none⟩) (by first | exact Nat.le_refl _ | exact Nat.le_add_right _ _) (.int .u16 af))
  go_upto_region 2 with (fail)
  clear lA4 lA0 fA0 fA4 rA rZ HB
  have rA := Lib.hid qA
  have rZ := Lib.hid qZ
  clear qA qZ
  have HB := HB'
  clear HB'
  generalize (W0.setCell ⟨w.heap.size, 0, none⟩ (.int .u16 af2)).setCell ⟨w.heap.size, 4, none⟩ (.int .u16 af) = W1 at *
  obtain ⟨ds, hds⟩ : ∃ ds, ds = (#[.int .u16 af2, .int .u16 bc, .int .u16 de, .int .u16 hl, .int .u16 af, .int .u16 bc2, .int .u16 de2, .int .u16 hl2, .int .u16 ix, .int .u16 iy, .int .u16 sp, .int .u16 pc, .int .u16 wz, .int .u8 i, .int .u8 r, .bool iff1, .bool iff2, .bool halted, .bool late, .int .i64 mode] : Array Value) := ⟨_, rfl⟩
  have i24 : Hid ((Tryd.prog.info? 24).map (·.size) = some ds.size) := Lib.hid (by rw [hds]; exact info24)
  have one : Hid (ds.toList.all (·.oneCell') = true) := Lib.hid (by rw [hds]; rfl)
  have hsz : Hid (ds.size = 20) := Lib.hid (by rw [hds]; rfl)
  have HD := Lib.hid hds
  have hR := rA.out
  rw [← hds] at hR
  clear hds
  apply wp_region_lit
  refine wpList_load_row rfl 24 _ rfl _ _ _ rfl hR _ Tryd.underlying24 rfl i24.out ?_
  refine wpList_store_row rfl 24 _ _ rfl (w.heap.size + 1) _ _ ds rfl rfl rZ.out (by rw [hsz.out]; exact Eq.refl 20) i24.out one.out ?_
  have rE := rZ.out.setAll (vs := ds) (by rw [hsz.out]; exact Eq.refl 20)
  have HE9 := Lib.hid (Below.setCellsAll HB.out (b := w.heap.size + 1) (Nat.le_add_right _ _) ds.toList 0)
  generalize W1.setCells (w.heap.size + 1) 0 ds.toList = W9 at *
  apply wpList_nil
  rename_i hret
  refine hret _ _ (wp_ret ?_)
  try simp only [Exit.inBlock, Exit.then]
  refine bodyPost_ret (results_row rfl rfl rE _ Tryd.underlying24 rfl i24.out) rfl ?_
  exact ⟨(congrArg (fun q => Ending.returned (Value.agg q)) HD.out).trans rfl, HE9.out⟩
set_option maxRecDepth 20000 in
set_option maxHeartbeats 4000000 in
theorem exx_any (g : Rg) (w : World) :
    Calls Tryd.prog 12 #[regsV g] w fun e w' => e = .returned (regsV (exxG g)) ∧ Below w.heap.size w w' := by
  obtain ⟨af, bc, de, hl, af2, bc2, de2, hl2, ix, iy, sp, pc, wz, i, r, iff1, iff2, halted, late, mode⟩ := g
  obtain ⟨cs, hcs⟩ : ∃ cs, cs = (#[.int .u16 af, .int .u16 bc, .int .u16 de, .int .u16 hl, .int .u16 af2, .int .u16 bc2, .int .u16 de2, .int .u16 hl2, .int .u16 ix, .int .u16 iy, .int .u16 sp, .int .u16 pc, .int .u16 wz, .int .u8 i, .int .u8 r, .bool iff1, .bool iff2, .bool halted, .bool late, .int .i64 mode] : Array Value) := ⟨_, rfl⟩
  have HE := Lib.hid hcs
  show Calls _ _ #[.agg (#[.int .u16 af, .int .u16 bc, .int .u16 de, .int .u16 hl, .int .u16 af2, .int .u16 bc2, .int .u16 de2, .int .u16 hl2, .int .u16 ix, .int .u16 iy, .int .u16 sp, .int .u16 pc, .int .u16 wz, .int .u8 i, .int .u8 r, .bool iff1, .bool iff2, .bool halted, .bool late, .int .i64 mode] : Array Value)] _ _
  rw [← hcs]
  clear hcs
  go_enter Tryd.func12, Tryd.ntmps12
  go_upto_region 1 with (fail)
  have rA := (Row.new w 24 cs).alloc (.cells (#[.int .u16 0, .int .u16 0, .int .u16 0, .int .u16 0, .int .u16 0, .int .u16 0, .int .u16 0, .int .u16 0, .int .u16 0, .int .u16 0, .int .u16 0, .int .u16 0, .int .u16 0, .int .u8 0, .int .u8 0, .bool false, .bool false, .bool false, .bool false, .int .i64 0] : Array Value) 24)
  have rZ := Row.new (w.alloc (.cells cs 24)) 24 (#[.int .u16 0, .int .u16 0, .int .u16 0, .int .u16 0, .int .u16 0, .int .u16 0, .int .u16 0, .int .u16 0, .int .u16 0, .int .u16 0, .int .u16 0, .int .u16 0, .int .u16 0, .int .u8 0, .int .u8 0, .bool false, .bool false, .bool false, .bool false, .int .i64 0] : Array Value)
  rw [show (w.alloc (.cells cs 24)).heap.size = w.heap.size + 1 by simp] at rZ
  have rZ := Lib.hid rZ
  have HB := Lib.hid (((Below.refl w.heap.size w).alloc (Nat.le_refl _) (.cells cs 24)).alloc (by simp) (.cells (#[.int .u16 0, .int .u16 0, .int .u16 0, .int .u16 0, .int .u16 0, .int .u16 0, .int .u16 0, .int .u16 0, .int .u16 0, .int .u16 0, .int .u16 0, .int .u16 0, .int .u16 0, .int .u8 0, .int .u8 0, .bool false, .bool false, .bool false, .bool false, .int .i64 0] : Array Value) 24))
  have HW := Lib.hid (show ((w.alloc (.cells cs 24)).alloc (.cells (#[.int .u16 0, .int .u16 0, .int .u16 0, .int .u16 0, .int .u16 0, .int .u16 0, .int .u16 0, .int .u16 0, .int .u16 0, .int .u16 0, .int .u16 0, .int .u16 0, .int .u16 0, .int .u8 0, .int .u8 0, .bool false, .bool false, .bool false, .bool false, .int .i64 0] : Array Value) 24)).heap.size = w.heap.size + 2 by simp)
  generalize (w.alloc (.cells cs 24)).alloc (.cells (#[.int .u16 0, .int .u16 0, .int .u16 0, .int .u16 0, .int .u16 0, .int .u16 0, .int .u16 0, .int .u16 0, .int .u16 0, .int .u16 0, .int .u16 0, .int .u16 0, .int .u16 0, .int .u8 0, .int .u8 0, .bool false, .bool false, .bool false, .bool false, .int .i64 0] : Array Value) 24) = W0 at *
  rw [HE.out] at rA
  have rA := Lib.hid rA
  have hltA := rA.out.lt
  have hltZ := rZ.out.lt
  have lA5 : W0.cell? ⟨w.heap.size, 5, none⟩ = some (.int .u16 bc2) := rA.out.cell 5
  have lA1 : W0.cell? ⟨w.heap.size, 1, none⟩ = some (.int .u16 bc) := rA.out.cell 1
  have fA1 := rA.out.frozen 1
  have fA5 := rA.out.frozen 5
  have qA0 : Row (W0.setCell ⟨w.heap.size, 1, none⟩ (.int .u16 bc2)) (w.heap.size) 24 (#[.int .u16 af, .int .u16 bc2, .int .u16 de, .int .u16 hl, .int .u16 af2, .int .u16 bc2, .int .u16 de2, .int .u16 hl2, .int .u16 ix, .int .u16 iy, .int .u16 sp, .int .u16 pc, .int .u16 wz, .int .u8 i, .int .u8 r, .bool iff1, .bool iff2, .bool halted, .bool late, .int .i64 mode] : Array Value) := rA.out.set 1 (.int .u16 bc2)
  have qZ0 : Row (W0.setCell ⟨w.heap.size, 1, none⟩ (.int .u16 bc2)) (w.heap.size + 1) 24 (#[.int .u16 0, .int .u16 0, .int .u16 0, .int .u16 0, .int .u16 0, .int .u16 0, .int .u16 0, .int .u16 0, .int .u16 0, .int .u16 0, .int .u16 0, .int .u16 0, .int .u16 0, .int .u8 0, .int .u8 0, .bool false, .bool false, .bool false, .bool false, .int .i64 0] : Array Value) := rZ.out.far (p := ⟨w.heap.size, 1, none⟩) (by simp) (.int .u16 bc2)
  have qA1 : Row ((W0.setCell ⟨w.heap.size, 1, none⟩ (.int .u16 bc2)).setCell ⟨w.heap.size, 5, none⟩ (.int .u16 bc)) (w.heap.size) 24 (#[.int .u16 af, .int .u16 bc2, .int .u16 de, .int .u16 hl, .int .u16 af2, .int .u16 bc, .int .u16 de2, .int .u16 hl2, .int .u16 ix, .int .u16 iy, .int .u16 sp, .int .u16 pc, .int .u16 wz, .int .u8 i, .int .u8 r, .bool iff1, .bool iff2, .bool halted, .bool late, .int .i64 mode] : Array Value) := qA0.set 5 (.int .u16 bc)
  have qZ1 : Row ((W0.setCell ⟨w.heap.size, 1, none⟩ (.int .u16 bc2)).setCell ⟨w.heap.size, 5, none⟩ (.int .u16 bc)) (w.heap.size + 1) 24 (#[.int .u16 0, .int .u16 0, .int .u16 0, .int .u16 0, .int .u16 0, .int .u16 0, .int .u16 0, .int .u16 0, .int .u16 0, .int .u16 0, .int .u16 0, .int .u16 0, .int .u16 0, .int .u8 0, .int .u8 0, .bool false, .bool false, .bool false, .bool false, .int .i64 0] : Array Value) := qZ0.far (p := ⟨w.heap.size, 5, none⟩) (by simp) (.int .u16 bc)
  have qA := qA1
  have qZ := qZ1
  clear qA0 qZ0 qA1 qZ1
  have HB' := Lib.hid ((HB.out.setCell (p := ⟨w.heap.size, 1, none⟩) (by first | exact Nat.le_refl _ | exact Nat.le_add_right _ _) (.int .u16 bc2)).setCell (p := ⟨w.heap.size, 5, none⟩) (by first | exact Nat.le_refl _ | exact Nat.le_add_right _ _) (.int .u16 bc))
  go_upto_region 2 with (fail)
  clear lA5 lA1 fA1 fA5 rA rZ HB
  have rA := Lib.hid qA
  have rZ := Lib.hid qZ
  clear qA qZ
  have HB := HB'
  clear HB'
  generalize (W0.setCell ⟨w.heap.size, 1, none⟩ (.int .u16 bc2)).setCell ⟨w.heap.size, 5, none⟩ (.int .u16 bc) = W1 at *
  have lA6 : W1.cell? ⟨w.heap.size, 6, none⟩ = some (.int .u16 de2) := rA.out.cell 6
  have lA2 : W1.cell? ⟨w.heap.size, 2, none⟩ = some (.int .u16 de) := rA.out.cell 2
  have fA2 := rA.out.frozen 2
  have fA6 := rA.out.frozen 6
  have qA0 : Row (W1.setCell ⟨w.heap.size, 2, none⟩ (.int .u16 de2)) (w.heap.size) 24 (#[.int .u16 af, .int .u16 bc2, .int .u16 de2, .int .u16 hl, .int .u16 af2, .int .u16 bc, .int .u16 de2, .int .u16 hl2, .int .u16 ix, .int .u16 iy, .int .u16 sp, .int .u16 pc, .int .u16 wz, .int .u8 i, .int .u8 r, .bool iff1, .bool iff2, .bool halted, .bool late, .int .i64 mode] : Array Value) := rA.out.set 2 (.int .u16 de2)
  have qZ0 : Row (W1.setCell ⟨w.heap.size, 2, none⟩ (.int .u16 de2)) (w.heap.size + 1) 24 (#[.int .u16 0, .int .u16 0, .int .u16 0, .int .u16 0, .int .u16 0, .int .u16 0, .int .u16 0, .int .u16 0, .int .u16 0, .int .u16 0, .int .u16 0, .int .u16 0, .int .u16 0, .int .u8 0, .int .u8 0, .bool false, .bool false, .bool false, .bool false, .int .i64 0] : Array Value) := rZ.out.far (p := ⟨w.heap.size, 2, none⟩) (by simp) (.int .u16 de2)
  have qA1 : Row ((W1.setCell ⟨w.heap.size, 2, none⟩ (.int .u16 de2)).setCell ⟨w.heap.size, 6, none⟩ (.int .u16 de)) (w.heap.size) 24 (#[.int .u16 af, .int .u16 bc2, .int .u16 de2, .int .u16 hl, .int .u16 af2, .int .u16 bc, .int .u16 de, .int .u16 hl2, .int .u16 ix, .int .u16 iy, .int .u16 sp, .int .u16 pc, .int .u16 wz, .int .u8 i, .int .u8 r, .bool iff1, .bool iff2, .bool halted, .bool late, .int .i64 mode] : Array Value) := qA0.set 6 (.int .u16 de)
  have qZ1 : Row ((W1.setCell ⟨w.heap.size, 2, none⟩ (.int .u16 de2)).setCell ⟨w.heap.size, 6, none⟩ (.int .u16 de)) (w.heap.size + 1) 24 (#[.int .u16 0, .int .u16 0, .int .u16 0, .int .u16 0, .int .u16 0, .int .u16 0, .int .u16 0, .int .u16 0, .int .u16 0, .int .u16 0, .int .u16 0, .int .u16 0, .int .u16 0, .int .u8 0, .int .u8 0, .bool false, .bool false, .bool false, .bool false, .int .i64 0] : Array Value) := qZ0.far (p := ⟨w.heap.size, 6, none⟩) (by simp) (.int .u16 de)
  have qA := qA1
  have qZ := qZ1
  clear qA0 qZ0 qA1 qZ1
  have HB' := Lib.hid ((HB.out.setCell (p := ⟨w.heap.size, 2, none⟩) (by first | exact Nat.le_refl _ | exact Nat.le_add_right _ _) (.int .u16 de2)).setCell (p := ⟨w.heap.size, 6, none⟩) (by first | exact Nat.le_refl _ | exact Nat.le_add_right _ _) (.int .u16 de))
  go_upto_region 3 with (fail)
  clear lA6 lA2 fA2 fA6 rA rZ HB
  have rA := Lib.hid qA
  have rZ := Lib.hid qZ
  clear qA qZ
  have HB := HB'
  clear HB'
  generalize (W1.setCell ⟨w.heap.size, 2, none⟩ (.int .u16 de2)).setCell ⟨w.heap.size, 6, none⟩ (.int .u16 de) = W2 at *
  have lA7 : W2.cell? ⟨w.heap.size, 7, none⟩ = some (.int .u16 hl2) := rA.out.cell 7
  have lA3 : W2.cell? ⟨w.heap.size, 3, none⟩ = some (.int .u16 hl) := rA.out.cell 3
  have fA3 := rA.out.frozen 3
  have fA7 := rA.out.frozen 7
  have qA0 : Row (W2.setCell ⟨w.heap.size, 3, none⟩ (.int .u16 hl2)) (w.heap.size) 24 (#[.int .u16 af, .int .u16 bc2, .int .u16 de2, .int .u16 hl2, .int .u16 af2, .int .u16 bc, .int .u16 de, .int .u16 hl2, .int .u16 ix, .int .u16 iy, .int .u16 sp, .int .u16 pc, .int .u16 wz, .int .u8 i, .int .u8 r, .bool iff1, .bool iff2, .bool halted, .bool late, .int .i64 mode] : Array Value) := rA.out.set 3 (.int .u16 hl2)
  have qZ0 : Row (W2.setCell ⟨w.heap.size, 3, none⟩ (.int .u16 hl2)) (w.heap.size + 1) 24 (#[.int .u16 0, .int .u16 0, .int .u16 0, .int .u16 0, .int .u16 0, .int .u16 0, .int .u16 0, .int .u16 0, .int .u16 0, .int .u16 0, .int .u16 0, .int .u16 0, .int .u16 0, .int .u8 0, .int .u8 0, .bool false, .bool false, .bool false, .bool false, .int .i64 0] : Array Value) := rZ.out.far (p := ⟨w.heap.size, 3, none⟩) (by simp) (.int .u16 hl2)
  have qA1 : Row ((W2.setCell ⟨w.heap.size, 3, none⟩ (.int .u16 hl2)).setCell ⟨w.heap.size, 7, none⟩ (.int .u16 hl)) (w.heap.size) 24 (#[.int .u16 af, .int .u16 bc2, .int .u16 de2, .int .u16 hl2, .int .u16 af2, .int .u16 bc, .int .u16 de, .int .u16 hl, .int .u16 ix, .int .u16 iy, .int .u16 sp, .int .u16 pc, .int .u16 wz, .int .u8 i, .int .u8 r, .bool iff1, .bool iff2, .bool halted, .bool late, .int .i64 mode] : Array Value) := qA0.set 7 (.int .u16 hl)
  have qZ1 : Row ((W2.setCell ⟨w.heap.size, 3, none⟩ (.int .u16 hl2)).setCell ⟨w.heap.size, 7, none⟩ (.int .u16 hl)) (w.heap.size + 1) 24 (#[.int .u16 0, .int .u16 0, .int .u16 0, .int .u16 0, .int .u16 0, .int .u16 0, .int .u16 0, .int .u16 0, .int .u16 0, .int .u16 0, .int .u16 0, .int .u16 0, .int .u16 0, .int .u8 0, .int .u8 0, .bool false, .bool false, .bool false, .bool false, .int .i64 0] : Array Value) := qZ0.far (p := ⟨w.heap.size, 7, none⟩) (by simp) (.int .u16 hl)
  have qA := qA1
  have qZ := qZ1
  clear qA0 qZ0 qA1 qZ1
  have HB' := Lib.hid ((HB.out.setCell (p := ⟨w.heap.size, 3, none⟩) (by first | exact Nat.le_refl _ | exact Nat.le_add_right _ _) (.int .u16 hl2)).setCell (p := ⟨w.heap.size, 7, none⟩) (by first | exact Nat.le_refl _ | exact Nat.le_add_right _ _) (.int .u16 hl))
  go_upto_region 4 with (fail)
  clear lA7 lA3 fA3 fA7 rA rZ HB
  have rA := Lib.hid qA
  have rZ := Lib.hid qZ
  clear qA qZ
  have HB := HB'
  clear HB'
  generalize (W2.setCell ⟨w.heap.size, 3, none⟩ (.int .u16 hl2)).setCell ⟨w.heap.size, 7, none⟩ (.int .u16 hl) = W3 at *
  obtain ⟨ds, hds⟩ : ∃ ds, ds = (#[.int .u16 af, .int .u16 bc2, .int .u16 de2, .int .u16 hl2, .int .u16 af2, .int .u16 bc, .int .u16 de, .int .u16 hl, .int .u16 ix, .int .u16 iy, .int .u16 sp, .int .u16 pc, .int .u16 wz, .int .u8 i, .int .u8 r, .bool iff1, .bool iff2, .bool halted, .bool late, .int .i64 mode] : Array Value) := ⟨_, rfl⟩
  have i24 : Hid ((Tryd.prog.info? 24).map (·.size) = some ds.size) := Lib.hid (by rw [hds]; exact info24)
  have one : Hid (ds.toList.all (·.oneCell') = true) := Lib.hid (by rw [hds]; rfl)
  have hsz : Hid (ds.size = 20) := Lib.hid (by rw [hds]; rfl)
  have HD := Lib.hid hds
  have hR := rA.out
  rw [← hds] at hR
  clear hds
  apply wp_region_lit
  refine wpList_load_row rfl 24 _ rfl _ _ _ rfl hR _ Tryd.underlying24 rfl i24.out ?_
  refine wpList_store_row rfl 24 _ _ rfl (w.heap.size + 1) _ _ ds rfl rfl rZ.out (by rw [hsz.out]; exact Eq.refl 20) i24.out one.out ?_
  have rE := rZ.out.setAll (vs := ds) (by rw [hsz.out]; exact Eq.refl 20)
  have HE9 := Lib.hid (Below.setCellsAll HB.out (b := w.heap.size + 1) (Nat.le_add_right _ _) ds.toList 0)
  generalize W3.setCells (w.heap.size + 1) 0 ds.toList = W9 at *
  apply wpList_nil
  rename_i hret
  refine hret _ _ (wp_ret ?_)
  try simp only [Exit.inBlock, Exit.then]
  refine bodyPost_ret (results_row rfl rfl rE _ Tryd.underlying24 rfl i24.out) rfl ?_
  exact ⟨(congrArg (fun q => Ending.returned (Value.agg q)) HD.out).trans rfl, HE9.out⟩
set_option maxRecDepth 20000 in
set_option maxHeartbeats 4000000 in
theorem reset_any (g : Rg) (w : World) :
    Calls Tryd.prog 18 #[regsV g] w fun e w' => e = .returned (regsV (resetG g)) ∧ Below w.heap.size w w' := by
  obtain ⟨af, bc, de, hl, af2, bc2, de2, hl2, ix, iy, sp, pc, wz, i, r, iff1, iff2, halted, late, mode⟩ := g
  obtain ⟨cs, hcs⟩ : ∃ cs, cs = (#[.int .u16 af, .int .u16 bc, .int .u16 de, .int .u16 hl, .int .u16 af2, .int .u16 bc2, .int .u16 de2, .int .u16 hl2, .int .u16 ix, .int .u16 iy, .int .u16 sp, .int .u16 pc, .int .u16 wz, .int .u8 i, .int .u8 r, .bool iff1, .bool iff2, .bool halted, .bool late, .int .i64 mode] : Array Value) := ⟨_, rfl⟩
  have HE := Lib.hid hcs
  show Calls _ _ #[.agg (#[.int .u16 af, .int .u16 bc, .int .u16 de, .int .u16 hl, .int .u16 af2, .int .u16 bc2, .int .u16 de2, .int .u16 hl2, .int .u16 ix, .int .u16 iy, .int .u16 sp, .int .u16 pc, .int .u16 wz, .int .u8 i, .int .u8 r, .bool iff1, .bool iff2, .bool halted, .bool late, .int .i64 mode] : Array Value)] _ _
  rw [← hcs]
  clear hcs
  go_enter Tryd.func18, Tryd.ntmps18
  go_upto_region 1 with (fail)
  have rA := (Row.new w 24 cs).alloc (.cells (#[.int .u16 0, .int .u16 0, .int .u16 0, .int .u16 0, .int .u16 0, .int .u16 0, .int .u16 0, .int .u16 0, .int .u16 0, .int .u16 0, .int .u16 0, .int .u16 0, .int .u16 0, .int .u8 0, .int .u8 0, .bool false, .bool false, .bool false, .bool false, .int .i64 0] : Array Value) 24)
  have rZ := Row.new (w.alloc (.cells cs 24)) 24 (#[.int .u16 0, .int .u16 0, .int .u16 0, .int .u16 0, .int .u16 0, .int .u16 0, .int .u16 0, .int .u16 0, .int .u16 0, .int .u16 0, .int .u16 0, .int .u16 0, .int .u16 0, .int .u8 0, .int .u8 0, .bool false, .bool false, .bool false, .bool false, .int .i64 0] : Array Value)
  rw [show (w.alloc (.cells cs 24)).heap.size = w.heap.size + 1 by simp] at rZ
  have rZ := Lib.hid rZ
  have HB := Lib.hid (((Below.refl w.heap.size w).alloc (Nat.le_refl _) (.cells cs 24)).alloc (by simp) (.cells (#[.int .u16 0, .int .u16 0, .int .u16 0, .int .u16 0, .int .u16 0, .int .u16 0, .int .u16 0, .int .u16 0, .int .u16 0, .int .u16 0, .int .u16 0, .int .u16 0, .int .u16 0, .int .u8 0, .int .u8 0, .bool false, .bool false, .bool false, .bool false, .int .i64 0] : Array Value) 24))
  have HW := Lib.hid (show ((w.alloc (.cells cs 24)).alloc (.cells (#[.int .u16 0, .int .u16 0, .int .u16 0, .int .u16 0, .int .u16 0, .int .u16 0, .int .u16 0, .int .u16 0, .int .u16 0, .int .u16 0, .int .u16 0, .int .u16 0, .int .u16 0, .int .u8 0, .int .u8 0, .bool false, .bool false, .bool false, .bool false, .int .i64 0] : Array Value) 24)).heap.size = w.heap.size + 2 by simp)
  generalize (w.alloc (.cells cs 24)).alloc (.cells (#[.int .u16 0, .int .u16 0, .int .u16 0, .int .u16 0, .int .u16 0, .int .u16 0, .int .u16 0, .int .u16 0, .int .u16 0, .int .u16 0, .int .u16 0, .int .u16 0, .int .u16 0, .int .u8 0, .int .u8 0, .bool false, .bool false, .bool false, .bool false, .int .i64 0] : Array Value) 24) = W0 at *
  rw [HE.out] at rA
  have rA := Lib.hid rA
  have hltA := rA.out.lt
  have hltZ := rZ.out.lt
  have lA11 : W0.cell? ⟨w.heap.size, 11, none⟩ = some (.int .u16 pc) := rA.out.cell 11
  have lA13 : W0.cell? ⟨w.heap.size, 13, none⟩ = some (.int .u8 i) := rA.out.cell 13
  have lA14 : W0.cell? ⟨w.heap.size, 14, none⟩ = some (.int .u8 r) := rA.out.cell 14
  have lA19 : W0.cell? ⟨w.heap.size, 19, none⟩ = some (.int .i64 mode) := rA.out.cell 19
  have fA11 := rA.out.frozen 11
  have fA13 := rA.out.frozen 13
  have fA14 := rA.out.frozen 14
  have fA19 := rA.out.frozen 19
  have qA0 : Row (W0.setCell ⟨w.heap.size, 11, none⟩ (.int .u16 0)) (w.heap.size) 24 (#[.int .u16 af, .int .u16 bc, .int .u16 de, .int .u16 hl, .int .u16 af2, .int .u16 bc2, .int .u16 de2, .int .u16 hl2, .int .u16 ix, .int .u16 iy, .int .u16 sp, .int .u16 0, .int .u16 wz, .int .u8 i, .int .u8 r, .bool iff1, .bool iff2, .bool halted, .bool late, .int .i64 mode] : Array Value) := rA.out.set 11 (.int .u16 0)
  have qZ0 : Row (W0.setCell ⟨w.heap.size, 11, none⟩ (.int .u16 0)) (w.heap.size + 1) 24 (#[.int .u16 0, .int .u16 0, .int .u16 0, .int .u16 0, .int .u16 0, .int .u16 0, .int .u16 0, .int .u16 0, .int .u16 0, .int .u16 0, .int .u16 0, .int .u16 0, .int .u16 0, .int .u8 0, .int .u8 0, .bool false, .bool false, .bool false, .bool false, .int .i64 0] : Array Value) := rZ.out.far (p := ⟨w.heap.size, 11, none⟩) (by simp) (.int .u16 0)
  have qA1 : Row ((W0.setCell ⟨w.heap.size, 11, none⟩ (.int .u16 0)).setCell ⟨w.heap.size, 13, none⟩ (.int .u8 0)) (w.heap.size) 24 (#[.int .u16 af, .int .u16 bc, .int .u16 de, .int .u16 hl, .int .u16 af2, .int .u16 bc2, .int .u16 de2, .int .u16 hl2, .int .u16 ix, .int .u16 iy, .int .u16 sp, .int .u16 0, .int .u16 wz, .int .u8 0, .int .u8 r, .bool iff1, .bool iff2, .bool halted, .bool late, .int .i64 mode] : Array Value) := qA0.set 13 (.int .u8 0)
  have qZ1 : Row ((W0.setCell ⟨w.heap.size, 11, none⟩ (.int .u16 0)).setCell ⟨w.heap.size, 13, none⟩ (.int .u8 0)) (w.heap.size + 1) 24 (#[.int .u16 0, .int .u16 0, .int .u16 0, .int .u16 0, .int .u16 0, .int .u16 0, .int .u16 0, .int .u16 0, .int .u16 0, .int .u16 0, .int .u16 0, .int .u16 0, .int .u16 0, .int .u8 0, .int .u8 0, .bool false, .bool false, .bool false, .bool false, .int .i64 0] : Array Value) := qZ0.far (p := ⟨w.heap.size, 13, none⟩) (by simp) (.int .u8 0)
  have qA2 : Row (((W0.setCell ⟨w.heap.size, 11, none⟩ (.int .u16 0)).setCell ⟨w.heap.size, 13, none⟩ (.int .u8 0)).setCell ⟨w.heap.size, 14, none⟩ (.int .u8 0)) (w.heap.size) 24 (#[.int .u16 af, .int .u16 bc, .int .u16 de, .int .u16 hl, .int .u16 af2, .int .u16 bc2, .int .u16 de2, .int .u16 hl2, .int .u16 ix, .int .u16 iy, .int .u16 sp, .int .u16 0, .int .u16 wz, .int .u8 0, .int .u8 0, .bool iff1, .bool iff2, .bool halted, .bool late, .int .i64 mode] : Array Value) := qA1.set 14 (.int .u8 0)
  have qZ2 : Row (((W0.setCell ⟨w.heap.size, 11, none⟩ (.int .u16 0)).setCell ⟨w.heap.size, 13, none⟩ (.int .u8 0)).setCell ⟨w.heap.size, 14, none⟩ (.int .u8 0)) (w.heap.size + 1) 24 (#[.int .u16 0, .int .u16 0, .int .u16 0, .int .u16 0, .int .u16 0, .int .u16 0, .int .u16 0, .int .u16 0, .int .u16 0, .int .u16 0, .int .u16 0, .int .u16 0, .int .u16 0, .int .u8 0, .int .u8 0, .bool false, .bool false, .bool false, .bool false, .int .i64 0] : Array Value) := qZ1.far (p := ⟨w.heap.size, 14, none⟩) (by simp) (.int .u8 0)
  have qA3 : Row ((((W0.setCell ⟨w.heap.size, 11, none⟩ (.int .u16 0)).setCell ⟨w.heap.size, 13, none⟩ (.int .u8 0)).setCell ⟨w.heap.size, 14, none⟩ (.int .u8 0)).setCell ⟨w.heap.size, 19, none⟩ (.int .i64 0)) (w.heap.size) 24 (#[.int .u16 af, .int .u16 bc, .int .u16 de, .int .u16 hl, .int .u16 af2, .int .u16 bc2, .int .u16 de2, .int .u16 hl2, .int .u16 ix, .int .u16 iy, .int .u16 sp, .int .u16 0, .int .u16 wz, .int .u8 0, .int .u8 0, .bool iff1, .bool iff2, .bool halted, .bool late, .int .i64 0] : Array Value) := qA2.set 19 (.int .i64 0)
  have qZ3 : Row ((((W0.setCell ⟨w.heap.size, 11, none⟩ (.int .u16 0)).setCell ⟨w.heap.size, 13, none⟩ (.int .u8 0)).setCell ⟨w.heap.size, 14, none⟩ (.int .u8 0)).setCell ⟨w.heap.size, 19, none⟩ (.int .i64 0)) (w.heap.size + 1) 24 (#[.int .u16 0, .int .u16 0, .int .u16 0, .int .u16 0, .int .u16 0, .int .u16 0, .int .u16 0, .int .u16 0, .int .u16 0, .int .u16 0, .int .u16 0, .int .u16 0, .int .u16 0, .int .u8 0, .int .u8 0, .bool false, .bool false, .bool false, .bool false, .int .i64 0] : Array Value) := qZ2.far (p := ⟨w.heap.size, 19, none⟩) (by simp) (.int .i64 0)
  have qA := qA3
  have qZ := qZ3
  clear qA0 qZ0 qA1 qZ1 qA2 qZ2 qA3 qZ3
  have HB' := Lib.hid ((((HB.out.setCell (p := ⟨w.heap.size, 11, none⟩) (by first | exact Nat.le_refl _ | exact Nat.le_add_right _ _) (.int .u16 0)).setCell (p := ⟨w.heap.size, 13, none⟩) (by first | exact Nat.le_refl _ | exact Nat.le_add_right _ _) (.int .u8 0)).setCell (p := ⟨w.heap.size, 14, none⟩) (by first | exact Nat.le_refl _ | exact Nat.le_add_right _ _) (.int .u8 0)).setCell (p := ⟨w.heap.size, 19, none⟩) (by first | exact Nat.le_refl _ | exact Nat.le_add_right _ _) (.int .i64 0))
  go_upto_region 2 with (fail)
  clear lA11 lA13 lA14 lA19 fA11 fA13 fA14 fA19 rA rZ HB
  have rA := Lib.hid qA
  have rZ := Lib.hid qZ
  clear qA qZ
  have HB := HB'
  clear HB'
  generalize (((W0.setCell ⟨w.heap.size, 11, none⟩ (.int .u16 0)).setCell ⟨w.heap.size, 13, none⟩ (.int .u8 0)).setCell ⟨w.heap.size, 14, none⟩ (.int .u8 0)).setCell ⟨w.heap.size, 19, none⟩ (.int .i64 0) = W1 at *
  have lA15 : W1.cell? ⟨w.heap.size, 15, none⟩ = some (.bool iff1) := rA.out.cell 15
  have lA16 : W1.cell? ⟨w.heap.size, 16, none⟩ = some (.bool iff2) := rA.out.cell 16
  have fA15 := rA.out.frozen 15
  have fA16 := rA.out.frozen 16
  have qA0 : Row (W1.setCell ⟨w.heap.size, 15, none⟩ (.bool false)) (w.heap.size) 24 (#[.int .u16 af, .int .u16 bc, .int .u16 de, .int .u16 hl, .int .u16 af2, .int .u16 bc2, .int .u16 de2, .int .u16 hl2, .int .u16 ix, .int .u16 iy, .int .u16 sp, .int .u16 0, .int .u16 wz, .int .u8 0, .int .u8 0, .bool false, .bool iff2, .bool halted, .bool late, .int .i64 0] : Array Value) := rA.out.set 15 (.bool false)
  have qZ0 : Row (W1.setCell ⟨w.heap.size, 15, none⟩ (.bool false)) (w.heap.size + 1) 24 (#[.int .u16 0, .int .u16 0, .int .u16 0, .int .u16 0, .int .u16 0, .int .u16 0, .int .u16 0, .int .u16 0, .int .u16 0, .int .u16 0, .int .u16 0, .int .u16 0, .int .u16 0, .int .u8 0, .int .u8 0, .bool false, .bool false, .bool false, .bool false, .int .i64 0] : Array Value) := rZ.out.far (p := ⟨w.heap.size, 15, none⟩) (by simp) (.bool false)
  have qA1 : Row ((W1.setCell ⟨w.heap.size, 15, none⟩ (.bool false)).setCell ⟨w.heap.size, 16, none⟩ (.bool false)) (w.heap.size) 24 (#[.int .u16 af, .int .u16 bc, .int .u16 de, .int .u16 hl, .int .u16 af2, .int .u16 bc2, .int .u16 de2, .int .u16 hl2, .int .u16 ix, .int .u16 iy, .int .u16 sp, .int .u16 0, .int .u16 wz, .int .u8 0, .int .u8 0, .bool false, .bool false, .bool halted, .bool late, .int .i64 0] : Array Value) := qA0.set 16 (.bool false)
  have qZ1 : Row ((W1.setCell ⟨w.heap.size, 15, none⟩ (.bool false)).setCell ⟨w.heap.size, 16, none⟩ (.bool false)) (w.heap.size + 1) 24 (#[.int .u16 0, .int .u16 0, .int .u16 0, .int .u16 0, .int .u16 0, .int .u16 0, .int .u16 0, .int .u16 0, .int .u16 0, .int .u16 0, .int .u16 0, .int .u16 0, .int .u16 0, .int .u8 0, .int .u8 0, .bool false, .bool false, .bool false, .bool false, .int .i64 0] : Array Value) := qZ0.far (p := ⟨w.heap.size, 16, none⟩) (by simp) (.bool false)
  have qA := qA1
  have qZ := qZ1
  clear qA0 qZ0 qA1 qZ1
  have HB' := Lib.hid ((HB.out.setCell (p := ⟨w.heap.size, 15, none⟩) (by first | exact Nat.le_refl _ | exact Nat.le_add_right _ _) (.bool false)).setCell (p := ⟨w.heap.size, 16, none⟩) (by first | exact Nat.le_refl _ | exact Nat.le_add_right _ _) (.bool false))
  go_upto_region 3 with (fail)
  clear lA15 lA16 fA15 fA16 rA rZ HB
  have rA := Lib.hid qA
  have rZ := Lib.hid qZ
  clear qA qZ
  have HB := HB'
  clear HB'
  generalize (W1.setCell ⟨w.heap.size, 15, none⟩ (.bool false)).setCell ⟨w.heap.size, 16, none⟩ (.bool false) = W2 at *
  have lA17 : W2.cell? ⟨w.heap.size, 17, none⟩ = some (.bool halted) := rA.out.cell 17
  have lA18 : W2.cell? ⟨w.heap.size, 18, none⟩ = some (.bool late) := rA.out.cell 18
  have fA17 := rA.out.frozen 17
  have fA18 := rA.out.frozen 18
  have qA0 : Row (W2.setCell ⟨w.heap.size, 17, none⟩ (.bool false)) (w.heap.size) 24 (#[.int .u16 af, .int .u16 bc, .int .u16 de, .int .u16 hl, .int .u16 af2, .int .u16 bc2, .int .u16 de2, .int .u16 hl2, .int .u16 ix, .int .u16 iy, .int .u16 sp, .int .u16 0, .int .u16 wz, .int .u8 0, .int .u8 0, .bool false, .bool false, .bool false, .bool late, .int .i64 0] : Array Value) := rA.out.set 17 (.bool false)
  have qZ0 : Row (W2.setCell ⟨w.heap.size, 17, none⟩ (.bool false)) (w.heap.size + 1) 24 (#[.int .u16 0, .int .u16 0, .int .u16 0, .int .u16 0, .int .u16 0, .int .u16 0, .int .u16 0, .int .u16 0, .int .u16 0, .int .u16 0, .int .u16 0, .int .u16 0, .int .u16 0, .int .u8 0, .int .u8 0, .bool false, .bool false, .bool false, .bool false, .int .i64 0] : Array Value) := rZ.out.far (p := ⟨w.heap.size, 17, none⟩) (by simp) (.bool false)
  have qA1 : Row ((W2.setCell ⟨w.heap.size, 17, none⟩ (.bool false)).setCell ⟨w.heap.size, 18, none⟩ (.bool false)) (w.heap.size) 24 (#[.int .u16 af, .int .u16 bc, .int .u16 de, .int .u16 hl, .int .u16 af2, .int .u16 bc2, .int .u16 de2, .int .u16 hl2, .int .u16 ix, .int .u16 iy, .int .u16 sp, .int .u16 0, .int .u16 wz, .int .u8 0, .int .u8 0, .bool false, .bool false, .bool false, .bool false, .int .i64 0] : Array Value) := qA0.set 18 (.bool false)
  have qZ1 : Row ((W2.setCell ⟨w.heap.size, 17, none⟩ (.bool false)).setCell ⟨w.heap.size, 18, none⟩ (.bool false)) (w.heap.size + 1) 24 (#[.int .u16 0, .int .u16 0, .int .u16 0, .int .u16 0, .int .u16 0, .int .u16 0, .int .u16 0, .int .u16 0, .int .u16 0, .int .u16 0, .int .u16 0, .int .u16 0, .int .u16 0, .int .u8 0, .int .u8 0, .bool false, .bool false, .bool false, .bool false, .int .i64 0] : Array Value) := qZ0.far (p := ⟨w.heap.size, 18, none⟩) (by simp) (.bool false)
  have qA := qA1
  have qZ := qZ1
  clear qA0 qZ0 qA1 qZ1
  have HB' := Lib.hid ((HB.out.setCell (p := ⟨w.heap.size, 17, none⟩) (by first | exact Nat.le_refl _ | exact Nat.le_add_right _ _) (.bool false)).setCell (p := ⟨w.heap.size, 18, none⟩) (by first | exact Nat.le_refl _ | exact Nat.le_add_right _ _) (.bool false))
  go_upto_region 4 with (fail)
  clear lA17 lA18 fA17 fA18 rA rZ HB
  have rA := Lib.hid qA
  have rZ := Lib.hid qZ
  clear qA qZ
  have HB := HB'
  clear HB'
  generalize (W2.setCell ⟨w.heap.size, 17, none⟩ (.bool false)).setCell ⟨w.heap.size, 18, none⟩ (.bool false) = W3 at *
  obtain ⟨ds, hds⟩ : ∃ ds, ds = (#[.int .u16 af, .int .u16 bc, .int .u16 de, .int .u16 hl, .int .u16 af2, .int .u16 bc2, .int .u16 de2, .int .u16 hl2, .int .u16 ix, .int .u16 iy, .int .u16 sp, .int .u16 0, .int .u16 wz, .int .u8 0, .int .u8 0, .bool false, .bool false, .bool false, .bool false, .int .i64 0] : Array Value) := ⟨_, rfl⟩
  have i24 : Hid ((Tryd.prog.info? 24).map (·.size) = some ds.size) := Lib.hid (by rw [hds]; exact info24)
  have one : Hid (ds.toList.all (·.oneCell') = true) := Lib.hid (by rw [hds]; rfl)
  have hsz : Hid (ds.size = 20) := Lib.hid (by rw [hds]; rfl)
  have HD := Lib.hid hds
  have hR := rA.out
  rw [← hds] at hR
  clear hds
  apply wp_region_lit
  refine wpList_load_row rfl 24 _ rfl _ _ _ rfl hR _ Tryd.underlying24 rfl i24.out ?_
  refine wpList_store_row rfl 24 _ _ rfl (w.heap.size + 1) _ _ ds rfl rfl rZ.out (by rw [hsz.out]; exact Eq.refl 20) i24.out one.out ?_
  have rE := rZ.out.setAll (vs := ds) (by rw [hsz.out]; exact Eq.refl 20)
  have HE9 := Lib.hid (Below.setCellsAll HB.out (b := w.heap.size + 1) (Nat.le_add_right _ _) ds.toList 0)
  generalize W3.setCells (w.heap.size + 1) 0 ds.toList = W9 at *
  apply wpList_nil
  rename_i hret
  refine hret _ _ (wp_ret ?_)
  try simp only [Exit.inBlock, Exit.then]
  refine bodyPost_ret (results_row rfl rfl rE _ Tryd.underlying24 rfl i24.out) rfl ?_
  exact ⟨(congrArg (fun q => Ending.returned (Value.agg q)) HD.out).trans rfl, HE9.out⟩
end Go.Proofs.YtpiadeedgjmmkaaDoor
