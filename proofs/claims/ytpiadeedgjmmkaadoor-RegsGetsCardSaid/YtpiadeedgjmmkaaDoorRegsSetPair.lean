/- Layer 11 (regs): SetPair: contract. Written by tools/regs.py. -/
import Derived.Test.YtpiadeedgjmmkaaDoorRegsPair
import Derived.Test.YtpiadeedgjmmkaaDoorRegsRow
import Derived.BigQuiet
import Derived.Deep.DeepCutAuto
import Derived.Deep.QuietTactic
namespace Go.Proofs.YtpiadeedgjmmkaaDoor
open Go.RowKit
set_option linter.unusedVariables false
set_option linter.unusedSimpArgs false

set_option maxRecDepth 20000 in
set_option maxHeartbeats 4000000 in
theorem setPair_0bc (g : Rg) (p v : Int) (w : World) :
    Calls Tryd.prog 24 #[regsV g, .int .i64 p, .int .i64 0, .int .u16 v] w fun e w' => e = .returned (regsV ({ g with bc := v })) ∧ Below w.heap.size w w' := by
  obtain ⟨af, bc, de, hl, af2, bc2, de2, hl2, ix, iy, sp, pc, wz, i, r, iff1, iff2, halted, late, mode⟩ := g
  have kh := Lib.hid (fun w => pairs_any p w)
  obtain ⟨cs, hcs⟩ : ∃ cs, cs = (#[.int .u16 af, .int .u16 bc, .int .u16 de, .int .u16 hl, .int .u16 af2, .int .u16 bc2, .int .u16 de2, .int .u16 hl2, .int .u16 ix, .int .u16 iy, .int .u16 sp, .int .u16 pc, .int .u16 wz, .int .u8 i, .int .u8 r, .bool iff1, .bool iff2, .bool halted, .bool late, .int .i64 mode] : Array Value) := ⟨_, rfl⟩
  have HE := Lib.hid hcs
  show Calls _ _ #[.agg (#[.int .u16 af, .int .u16 bc, .int .u16 de, .int .u16 hl, .int .u16 af2, .int .u16 bc2, .int .u16 de2, .int .u16 hl2, .int .u16 ix, .int .u16 iy, .int .u16 sp, .int .u16 pc, .int .u16 wz, .int .u8 i, .int .u8 r, .bool iff1, .bool iff2, .bool halted, .bool late, .int .i64 mode] : Array Value), .int .i64 p, .int .i64 0, .int .u16 v] _ _
  rw [← hcs]
  clear hcs
  go_enter Tryd.func24, Tryd.ntmps24
  go_upto_region 1 with (fail)
  have rA := (Row.new w 24 cs).alloc (.cells (#[.int .u16 0, .int .u16 0, .int .u16 0, .int .u16 0, .int .u16 0, .int .u16 0, .int .u16 0, .int .u16 0, .int .u16 0, .int .u16 0, .int .u16 0, .int .u16 0, .int .u16 0, .int .u8 0, .int .u8 0, .bool false, .bool false, .bool false, .bool false, .int .i64 0] : Array Value) 24)
  have rZ := Row.new (w.alloc (.cells cs 24)) 24 (#[.int .u16 0, .int .u16 0, .int .u16 0, .int .u16 0, .int .u16 0, .int .u16 0, .int .u16 0, .int .u16 0, .int .u16 0, .int .u16 0, .int .u16 0, .int .u16 0, .int .u16 0, .int .u8 0, .int .u8 0, .bool false, .bool false, .bool false, .bool false, .int .i64 0] : Array Value)
  rw [show (w.alloc (.cells cs 24)).heap.size = w.heap.size + 1 by simp] at rZ
  have rZ := Lib.hid rZ
  have HB := Lib.hid (((Below.refl w.heap.size w).alloc (Nat.le_refl _) (.cells cs 24)).alloc (by simp) (.cells (#[.int .u16 0, .int .u16 0, .int .u16 0, .int .u16 0, .int .u16 0, .int .u16 0, .int .u16 0, .int .u16 0, .int .u16 0, .int .u16 0, .int .u16 0, .int .u16 0, .int .u16 0, .int .u8 0, .int .u8 0, .bool false, .bool false, .bool false, .bool false, .int .i64 0] : Array Value) 24))
  have HW := Lib.hid (show ((w.alloc (.cells cs 24)).alloc (.cells (#[.int .u16 0, .int .u16 0, .int .u16 0, .int .u16 0, .int .u16 0, .int .u16 0, .int .u16 0, .int .u16 0, .int .u16 0, .int .u16 0, .int .u16 0, .int .u16 0, .int .u16 0, .int .u8 0, .int .u8 0, .bool false, .bool false, .bool false, .bool false, .int .i64 0] : Array Value) 24)).heap.size = w.heap.size + 2 by simp)
  generalize (w.alloc (.cells cs 24)).alloc (.cells (#[.int .u16 0, .int .u16 0, .int .u16 0, .int .u16 0, .int .u16 0, .int .u16 0, .int .u16 0, .int .u16 0, .int .u16 0, .int .u16 0, .int .u16 0, .int .u16 0, .int .u16 0, .int .u8 0, .int .u8 0, .bool false, .bool false, .bool false, .bool false, .int .i64 0] : Array Value) 24) = W0 at *
  rw [HE.out] at rA
  have rA := Lib.hid rA
  have hltA := rA.out.lt
  have hltZ := rZ.out.lt
  go_wp2_with fail
  refine (kh.out _).mono ?_
  rintro e w2 ⟨rfl, rfl⟩
  have hlk := lkp_0 (p := p) (World.alloc_heap_new W0 (.map (pairEnts p) 4))
  have qA := Lib.hid (rA.out.alloc (.map (pairEnts p) 4))
  have qZ := Lib.hid (rZ.out.alloc (.map (pairEnts p) 4))
  have HB' := Lib.hid (HB.out.alloc HB.out.size (.map (pairEnts p) 4))
  have HW' := Lib.hid (show (W0.alloc (.map (pairEnts p) 4)).heap.size = w.heap.size + 3 by rw [World.size_alloc, HW.out])
  clear HB HW rA rZ
  have HB := HB'
  have HW := HW'
  have rA := qA
  have rZ := qZ
  clear HB' HW' qA qZ
  generalize W0.alloc (.map (pairEnts p) 4) = W1 at *
  generalize W0.heap.size = M at *
  obtain ⟨es, hes⟩ : ∃ es, es = (#[.int .u16 af, .int .u16 bc, .int .u16 de, .int .u16 hl, .int .u16 af2, .int .u16 bc2, .int .u16 de2, .int .u16 hl2, .int .u16 ix, .int .u16 iy, .int .u16 sp, .int .u16 pc, .int .u16 wz, .int .u8 i, .int .u8 r, .bool iff1, .bool iff2, .bool halted, .bool late, .int .i64 mode] : Array Value) := ⟨_, rfl⟩
  have HS := Lib.hid hes
  have hA := rA.out
  rw [← hes] at hA
  have hA := Lib.hid hA
  have iR : Hid ((Tryd.prog.info? 24).map (·.size) = some es.size) := Lib.hid (by rw [hes]; exact info24)
  have iE : Hid ((Tryd.prog.info? 42).map (·.size) = some es.size) := Lib.hid (by rw [hes]; exact info42)
  have oE : Hid (es.toList.all (·.oneCell') = true) := Lib.hid (by rw [hes]; rfl)
  have sE : Hid (es.size = 20) := Lib.hid (by rw [hes]; rfl)
  clear hes rA
  go_upto_region 5 with (first
    | (refine wpList_load_row rfl 24 _ rfl _ _ _ rfl hA.out _ Tryd.underlying24 rfl iR.out ?_)
    | (refine wpList_store_top rfl 42 _ _ rfl _ _ _ _ es rfl rfl (by simp) (by rw [sE.out]; exact Eq.refl 20) iE.out oE.out ?_))
  have rF := Row.new W1 42 es
  have qA := hA.out.alloc (.cells es 42)
  have qZ := rZ.out.alloc (.cells es 42)
  have HB' := Lib.hid (HB.out.alloc HB.out.size (.cells es 42))
  have HW' := Lib.hid (show (W1.alloc (.cells es 42)).heap.size = w.heap.size + 4 by rw [World.size_alloc, HW.out])
  rw [HW.out] at rF
  rw [HW.out]
  clear HB HW hA rZ hlk
  have HB := HB'
  have HW := HW'
  clear HB' HW'
  generalize W1.alloc (.cells es 42) = W2 at *
  rw [HS.out] at rF qA
  have rF := Lib.hid rF
  have rA := Lib.hid qA
  have rZ := Lib.hid qZ
  clear qA qZ
  have hltF := rF.out.lt
  have lF1 : W2.cell? ⟨w.heap.size + 3, 1, none⟩ = some (.int .u16 bc) := rF.out.cell 1
  have fF1 := rF.out.frozen 1
  have qA0 : Row (W2.setCell ⟨w.heap.size + 3, 1, none⟩ (.int .u16 v)) (w.heap.size) 24 (#[.int .u16 af, .int .u16 bc, .int .u16 de, .int .u16 hl, .int .u16 af2, .int .u16 bc2, .int .u16 de2, .int .u16 hl2, .int .u16 ix, .int .u16 iy, .int .u16 sp, .int .u16 pc, .int .u16 wz, .int .u8 i, .int .u8 r, .bool iff1, .bool iff2, .bool halted, .bool late, .int .i64 mode] : Array Value) := rA.out.far (p := ⟨w.heap.size + 3, 1, none⟩) (by simp) (.int .u16 v)
  have qZ0 : Row (W2.setCell ⟨w.heap.size + 3, 1, none⟩ (.int .u16 v)) (w.heap.size + 1) 24 (#[.int .u16 0, .int .u16 0, .int .u16 0, .int .u16 0, .int .u16 0, .int .u16 0, .int .u16 0, .int .u16 0, .int .u16 0, .int .u16 0, .int .u16 0, .int .u16 0, .int .u16 0, .int .u8 0, .int .u8 0, .bool false, .bool false, .bool false, .bool false, .int .i64 0] : Array Value) := rZ.out.far (p := ⟨w.heap.size + 3, 1, none⟩) (by simp) (.int .u16 v)
  have qF0 : Row (W2.setCell ⟨w.heap.size + 3, 1, none⟩ (.int .u16 v)) (w.heap.size + 3) 42 (#[.int .u16 af, .int .u16 v, .int .u16 de, .int .u16 hl, .int .u16 af2, .int .u16 bc2, .int .u16 de2, .int .u16 hl2, .int .u16 ix, .int .u16 iy, .int .u16 sp, .int .u16 pc, .int .u16 wz, .int .u8 i, .int .u8 r, .bool iff1, .bool iff2, .bool halted, .bool late, .int .i64 mode] : Array Value) := rF.out.set 1 (.int .u16 v)
  have qA := qA0
  have qZ := qZ0
  have qF := qF0
  clear qA0 qZ0 qF0
  have HB' := Lib.hid (HB.out.setCell (p := ⟨w.heap.size + 3, 1, none⟩) (by first | exact Nat.le_refl _ | exact Nat.le_add_right _ _) (.int .u16 v))
  go_upto_region 6 with ((go_at_call 40; refine (fbc_any _ _).mono ?_; rintro e w' ⟨rfl, rfl⟩))
  clear lF1 fF1 rA rZ rF HB
  have rA := Lib.hid qA
  have rZ := Lib.hid qZ
  have rF := Lib.hid qF
  clear qA qZ qF
  have HB := HB'
  clear HB'
  generalize W2.setCell ⟨w.heap.size + 3, 1, none⟩ (.int .u16 v) = W3 at *
  obtain ⟨ds, hds⟩ : ∃ ds, ds = (#[.int .u16 af, .int .u16 v, .int .u16 de, .int .u16 hl, .int .u16 af2, .int .u16 bc2, .int .u16 de2, .int .u16 hl2, .int .u16 ix, .int .u16 iy, .int .u16 sp, .int .u16 pc, .int .u16 wz, .int .u8 i, .int .u8 r, .bool iff1, .bool iff2, .bool halted, .bool late, .int .i64 mode] : Array Value) := ⟨_, rfl⟩
  have i24 : Hid ((Tryd.prog.info? 24).map (·.size) = some ds.size) := Lib.hid (by rw [hds]; exact info24)
  have one : Hid (ds.toList.all (·.oneCell') = true) := Lib.hid (by rw [hds]; rfl)
  have hsz : Hid (ds.size = 20) := Lib.hid (by rw [hds]; rfl)
  have HD := Lib.hid hds
  have hR := rF.out
  rw [← hds] at hR
  clear hds
  apply wp_region_lit
  have i42 : Hid ((Tryd.prog.info? 42).map (·.size) = some ds.size) := Lib.hid (by rw [hsz.out]; exact info42)
  refine wpList_load_row rfl 42 _ rfl _ _ _ rfl hR _ Tryd.underlying42 rfl i42.out ?_
  refine wpList_store_row rfl 24 _ _ rfl (w.heap.size + 1) _ _ ds rfl rfl rZ.out (by rw [hsz.out]; exact Eq.refl 20) i24.out one.out ?_
  have rE := rZ.out.setAll (vs := ds) (by rw [hsz.out]; exact Eq.refl 20)
  have HE9 := Lib.hid (Below.setCellsAll HB.out (b := w.heap.size + 1) (Nat.le_add_right _ _) ds.toList 0)
  generalize W3.setCells (w.heap.size + 1) 0 ds.toList = W9 at *
  apply wpList_nil
  rename_i hret
  refine hret _ _ (wp_ret ?_)
  try simp only [Exit.inBlock, Exit.then]
  refine bodyPost_ret (results_row rfl rfl rE _ Tryd.underlying24 rfl i24.out) rfl ?_
  exact ⟨(congrArg (fun q => Ending.returned (Value.agg q)) HD.out).trans rfl, HE9.out⟩
set_option maxRecDepth 20000 in
set_option maxHeartbeats 4000000 in
theorem setPair_1de (g : Rg) (p v : Int) (w : World) :
    Calls Tryd.prog 24 #[regsV g, .int .i64 p, .int .i64 1, .int .u16 v] w fun e w' => e = .returned (regsV ({ g with de := v })) ∧ Below w.heap.size w w' := by
  obtain ⟨af, bc, de, hl, af2, bc2, de2, hl2, ix, iy, sp, pc, wz, i, r, iff1, iff2, halted, late, mode⟩ := g
  have kh := Lib.hid (fun w => pairs_any p w)
  obtain ⟨cs, hcs⟩ : ∃ cs, cs = (#[.int .u16 af, .int .u16 bc, .int .u16 de, .int .u16 hl, .int .u16 af2, .int .u16 bc2, .int .u16 de2, .int .u16 hl2, .int .u16 ix, .int .u16 iy, .int .u16 sp, .int .u16 pc, .int .u16 wz, .int .u8 i, .int .u8 r, .bool iff1, .bool iff2, .bool halted, .bool late, .int .i64 mode] : Array Value) := ⟨_, rfl⟩
  have HE := Lib.hid hcs
  show Calls _ _ #[.agg (#[.int .u16 af, .int .u16 bc, .int .u16 de, .int .u16 hl, .int .u16 af2, .int .u16 bc2, .int .u16 de2, .int .u16 hl2, .int .u16 ix, .int .u16 iy, .int .u16 sp, .int .u16 pc, .int .u16 wz, .int .u8 i, .int .u8 r, .bool iff1, .bool iff2, .bool halted, .bool late, .int .i64 mode] : Array Value), .int .i64 p, .int .i64 1, .int .u16 v] _ _
  rw [← hcs]
  clear hcs
  go_enter Tryd.func24, Tryd.ntmps24
  go_upto_region 1 with (fail)
  have rA := (Row.new w 24 cs).alloc (.cells (#[.int .u16 0, .int .u16 0, .int .u16 0, .int .u16 0, .int .u16 0, .int .u16 0, .int .u16 0, .int .u16 0, .int .u16 0, .int .u16 0, .int .u16 0, .int .u16 0, .int .u16 0, .int .u8 0, .int .u8 0, .bool false, .bool false, .bool false, .bool false, .int .i64 0] : Array Value) 24)
  have rZ := Row.new (w.alloc (.cells cs 24)) 24 (#[.int .u16 0, .int .u16 0, .int .u16 0, .int .u16 0, .int .u16 0, .int .u16 0, .int .u16 0, .int .u16 0, .int .u16 0, .int .u16 0, .int .u16 0, .int .u16 0, .int .u16 0, .int .u8 0, .int .u8 0, .bool false, .bool false, .bool false, .bool false, .int .i64 0] : Array Value)
  rw [show (w.alloc (.cells cs 24)).heap.size = w.heap.size + 1 by simp] at rZ
  have rZ := Lib.hid rZ
  have HB := Lib.hid (((Below.refl w.heap.size w).alloc (Nat.le_refl _) (.cells cs 24)).alloc (by simp) (.cells (#[.int .u16 0, .int .u16 0, .int .u16 0, .int .u16 0, .int .u16 0, .int .u16 0, .int .u16 0, .int .u16 0, .int .u16 0, .int .u16 0, .int .u16 0, .int .u16 0, .int .u16 0, .int .u8 0, .int .u8 0, .bool false, .bool false, .bool false, .bool false, .int .i64 0] : Array Value) 24))
  have HW := Lib.hid (show ((w.alloc (.cells cs 24)).alloc (.cells (#[.int .u16 0, .int .u16 0, .int .u16 0, .int .u16 0, .int .u16 0, .int .u16 0, .int .u16 0, .int .u16 0, .int .u16 0, .int .u16 0, .int .u16 0, .int .u16 0, .int .u16 0, .int .u8 0, .int .u8 0, .bool false, .bool false, .bool false, .bool false, .int .i64 0] : Array Value) 24)).heap.size = w.heap.size + 2 by simp)
  generalize (w.alloc (.cells cs 24)).alloc (.cells (#[.int .u16 0, .int .u16 0, .int .u16 0, .int .u16 0, .int .u16 0, .int .u16 0, .int .u16 0, .int .u16 0, .int .u16 0, .int .u16 0, .int .u16 0, .int .u16 0, .int .u16 0, .int .u8 0, .int .u8 0, .bool false, .bool false, .bool false, .bool false, .int .i64 0] : Array Value) 24) = W0 at *
  rw [HE.out] at rA
  have rA := Lib.hid rA
  have hltA := rA.out.lt
  have hltZ := rZ.out.lt
  go_wp2_with fail
  refine (kh.out _).mono ?_
  rintro e w2 ⟨rfl, rfl⟩
  have hlk := lkp_1 (p := p) (World.alloc_heap_new W0 (.map (pairEnts p) 4))
  have qA := Lib.hid (rA.out.alloc (.map (pairEnts p) 4))
  have qZ := Lib.hid (rZ.out.alloc (.map (pairEnts p) 4))
  have HB' := Lib.hid (HB.out.alloc HB.out.size (.map (pairEnts p) 4))
  have HW' := Lib.hid (show (W0.alloc (.map (pairEnts p) 4)).heap.size = w.heap.size + 3 by rw [World.size_alloc, HW.out])
  clear HB HW rA rZ
  have HB := HB'
  have HW := HW'
  have rA := qA
  have rZ := qZ
  clear HB' HW' qA qZ
  generalize W0.alloc (.map (pairEnts p) 4) = W1 at *
  generalize W0.heap.size = M at *
  obtain ⟨es, hes⟩ : ∃ es, es = (#[.int .u16 af, .int .u16 bc, .int .u16 de, .int .u16 hl, .int .u16 af2, .int .u16 bc2, .int .u16 de2, .int .u16 hl2, .int .u16 ix, .int .u16 iy, .int .u16 sp, .int .u16 pc, .int .u16 wz, .int .u8 i, .int .u8 r, .bool iff1, .bool iff2, .bool halted, .bool late, .int .i64 mode] : Array Value) := ⟨_, rfl⟩
  have HS := Lib.hid hes
  have hA := rA.out
  rw [← hes] at hA
  have hA := Lib.hid hA
  have iR : Hid ((Tryd.prog.info? 24).map (·.size) = some es.size) := Lib.hid (by rw [hes]; exact info24)
  have iE : Hid ((Tryd.prog.info? 42).map (·.size) = some es.size) := Lib.hid (by rw [hes]; exact info42)
  have oE : Hid (es.toList.all (·.oneCell') = true) := Lib.hid (by rw [hes]; rfl)
  have sE : Hid (es.size = 20) := Lib.hid (by rw [hes]; rfl)
  clear hes rA
  go_upto_region 5 with (first
    | (refine wpList_load_row rfl 24 _ rfl _ _ _ rfl hA.out _ Tryd.underlying24 rfl iR.out ?_)
    | (refine wpList_store_top rfl 42 _ _ rfl _ _ _ _ es rfl rfl (by simp) (by rw [sE.out]; exact Eq.refl 20) iE.out oE.out ?_))
  have rF := Row.new W1 42 es
  have qA := hA.out.alloc (.cells es 42)
  have qZ := rZ.out.alloc (.cells es 42)
  have HB' := Lib.hid (HB.out.alloc HB.out.size (.cells es 42))
  have HW' := Lib.hid (show (W1.alloc (.cells es 42)).heap.size = w.heap.size + 4 by rw [World.size_alloc, HW.out])
  rw [HW.out] at rF
  rw [HW.out]
  clear HB HW hA rZ hlk
  have HB := HB'
  have HW := HW'
  clear HB' HW'
  generalize W1.alloc (.cells es 42) = W2 at *
  rw [HS.out] at rF qA
  have rF := Lib.hid rF
  have rA := Lib.hid qA
  have rZ := Lib.hid qZ
  clear qA qZ
  have hltF := rF.out.lt
  have lF2 : W2.cell? ⟨w.heap.size + 3, 2, none⟩ = some (.int .u16 de) := rF.out.cell 2
  have fF2 := rF.out.frozen 2
  have qA0 : Row (W2.setCell ⟨w.heap.size + 3, 2, none⟩ (.int .u16 v)) (w.heap.size) 24 (#[.int .u16 af, .int .u16 bc, .int .u16 de, .int .u16 hl, .int .u16 af2, .int .u16 bc2, .int .u16 de2, .int .u16 hl2, .int .u16 ix, .int .u16 iy, .int .u16 sp, .int .u16 pc, .int .u16 wz, .int .u8 i, .int .u8 r, .bool iff1, .bool iff2, .bool halted, .bool late, .int .i64 mode] : Array Value) := rA.out.far (p := ⟨w.heap.size + 3, 2, none⟩) (by simp) (.int .u16 v)
  have qZ0 : Row (W2.setCell ⟨w.heap.size + 3, 2, none⟩ (.int .u16 v)) (w.heap.size + 1) 24 (#[.int .u16 0, .int .u16 0, .int .u16 0, .int .u16 0, .int .u16 0, .int .u16 0, .int .u16 0, .int .u16 0, .int .u16 0, .int .u16 0, .int .u16 0, .int .u16 0, .int .u16 0, .int .u8 0, .int .u8 0, .bool false, .bool false, .bool false, .bool false, .int .i64 0] : Array Value) := rZ.out.far (p := ⟨w.heap.size + 3, 2, none⟩) (by simp) (.int .u16 v)
  have qF0 : Row (W2.setCell ⟨w.heap.size + 3, 2, none⟩ (.int .u16 v)) (w.heap.size + 3) 42 (#[.int .u16 af, .int .u16 bc, .int .u16 v, .int .u16 hl, .int .u16 af2, .int .u16 bc2, .int .u16 de2, .int .u16 hl2, .int .u16 ix, .int .u16 iy, .int .u16 sp, .int .u16 pc, .int .u16 wz, .int .u8 i, .int .u8 r, .bool iff1, .bool iff2, .bool halted, .bool late, .int .i64 mode] : Array Value) := rF.out.set 2 (.int .u16 v)
  have qA := qA0
  have qZ := qZ0
  have qF := qF0
  clear qA0 qZ0 qF0
  have HB' := Lib.hid (HB.out.setCell (p := ⟨w.heap.size + 3, 2, none⟩) (by first | exact Nat.le_refl _ | exact Nat.le_add_right _ _) (.int .u16 v))
  go_upto_region 6 with ((go_at_call 41; refine (fde_any _ _).mono ?_; rintro e w' ⟨rfl, rfl⟩))
  clear lF2 fF2 rA rZ rF HB
  have rA := Lib.hid qA
  have rZ := Lib.hid qZ
  have rF := Lib.hid qF
  clear qA qZ qF
  have HB := HB'
  clear HB'
  generalize W2.setCell ⟨w.heap.size + 3, 2, none⟩ (.int .u16 v) = W3 at *
  obtain ⟨ds, hds⟩ : ∃ ds, ds = (#[.int .u16 af, .int .u16 bc, .int .u16 v, .int .u16 hl, .int .u16 af2, .int .u16 bc2, .int .u16 de2, .int .u16 hl2, .int .u16 ix, .int .u16 iy, .int .u16 sp, .int .u16 pc, .int .u16 wz, .int .u8 i, .int .u8 r, .bool iff1, .bool iff2, .bool halted, .bool late, .int .i64 mode] : Array Value) := ⟨_, rfl⟩
  have i24 : Hid ((Tryd.prog.info? 24).map (·.size) = some ds.size) := Lib.hid (by rw [hds]; exact info24)
  have one : Hid (ds.toList.all (·.oneCell') = true) := Lib.hid (by rw [hds]; rfl)
  have hsz : Hid (ds.size = 20) := Lib.hid (by rw [hds]; rfl)
  have HD := Lib.hid hds
  have hR := rF.out
  rw [← hds] at hR
  clear hds
  apply wp_region_lit
  have i42 : Hid ((Tryd.prog.info? 42).map (·.size) = some ds.size) := Lib.hid (by rw [hsz.out]; exact info42)
  refine wpList_load_row rfl 42 _ rfl _ _ _ rfl hR _ Tryd.underlying42 rfl i42.out ?_
  refine wpList_store_row rfl 24 _ _ rfl (w.heap.size + 1) _ _ ds rfl rfl rZ.out (by rw [hsz.out]; exact Eq.refl 20) i24.out one.out ?_
  have rE := rZ.out.setAll (vs := ds) (by rw [hsz.out]; exact Eq.refl 20)
  have HE9 := Lib.hid (Below.setCellsAll HB.out (b := w.heap.size + 1) (Nat.le_add_right _ _) ds.toList 0)
  generalize W3.setCells (w.heap.size + 1) 0 ds.toList = W9 at *
  apply wpList_nil
  rename_i hret
  refine hret _ _ (wp_ret ?_)
  try simp only [Exit.inBlock, Exit.then]
  refine bodyPost_ret (results_row rfl rfl rE _ Tryd.underlying24 rfl i24.out) rfl ?_
  exact ⟨(congrArg (fun q => Ending.returned (Value.agg q)) HD.out).trans rfl, HE9.out⟩
set_option maxRecDepth 20000 in
set_option maxHeartbeats 4000000 in
theorem setPair_2ix (g : Rg) (p v : Int) (hF : thirdF p = 55) (w : World) :
    Calls Tryd.prog 24 #[regsV g, .int .i64 p, .int .i64 2, .int .u16 v] w fun e w' => e = .returned (regsV ({ g with ix := v })) ∧ Below w.heap.size w w' := by
  obtain ⟨af, bc, de, hl, af2, bc2, de2, hl2, ix, iy, sp, pc, wz, i, r, iff1, iff2, halted, late, mode⟩ := g
  have kh := Lib.hid (fun w => pairs_any p w)
  obtain ⟨cs, hcs⟩ : ∃ cs, cs = (#[.int .u16 af, .int .u16 bc, .int .u16 de, .int .u16 hl, .int .u16 af2, .int .u16 bc2, .int .u16 de2, .int .u16 hl2, .int .u16 ix, .int .u16 iy, .int .u16 sp, .int .u16 pc, .int .u16 wz, .int .u8 i, .int .u8 r, .bool iff1, .bool iff2, .bool halted, .bool late, .int .i64 mode] : Array Value) := ⟨_, rfl⟩
  have HE := Lib.hid hcs
  show Calls _ _ #[.agg (#[.int .u16 af, .int .u16 bc, .int .u16 de, .int .u16 hl, .int .u16 af2, .int .u16 bc2, .int .u16 de2, .int .u16 hl2, .int .u16 ix, .int .u16 iy, .int .u16 sp, .int .u16 pc, .int .u16 wz, .int .u8 i, .int .u8 r, .bool iff1, .bool iff2, .bool halted, .bool late, .int .i64 mode] : Array Value), .int .i64 p, .int .i64 2, .int .u16 v] _ _
  rw [← hcs]
  clear hcs
  go_enter Tryd.func24, Tryd.ntmps24
  go_upto_region 1 with (fail)
  have rA := (Row.new w 24 cs).alloc (.cells (#[.int .u16 0, .int .u16 0, .int .u16 0, .int .u16 0, .int .u16 0, .int .u16 0, .int .u16 0, .int .u16 0, .int .u16 0, .int .u16 0, .int .u16 0, .int .u16 0, .int .u16 0, .int .u8 0, .int .u8 0, .bool false, .bool false, .bool false, .bool false, .int .i64 0] : Array Value) 24)
  have rZ := Row.new (w.alloc (.cells cs 24)) 24 (#[.int .u16 0, .int .u16 0, .int .u16 0, .int .u16 0, .int .u16 0, .int .u16 0, .int .u16 0, .int .u16 0, .int .u16 0, .int .u16 0, .int .u16 0, .int .u16 0, .int .u16 0, .int .u8 0, .int .u8 0, .bool false, .bool false, .bool false, .bool false, .int .i64 0] : Array Value)
  rw [show (w.alloc (.cells cs 24)).heap.size = w.heap.size + 1 by simp] at rZ
  have rZ := Lib.hid rZ
  have HB := Lib.hid (((Below.refl w.heap.size w).alloc (Nat.le_refl _) (.cells cs 24)).alloc (by simp) (.cells (#[.int .u16 0, .int .u16 0, .int .u16 0, .int .u16 0, .int .u16 0, .int .u16 0, .int .u16 0, .int .u16 0, .int .u16 0, .int .u16 0, .int .u16 0, .int .u16 0, .int .u16 0, .int .u8 0, .int .u8 0, .bool false, .bool false, .bool false, .bool false, .int .i64 0] : Array Value) 24))
  have HW := Lib.hid (show ((w.alloc (.cells cs 24)).alloc (.cells (#[.int .u16 0, .int .u16 0, .int .u16 0, .int .u16 0, .int .u16 0, .int .u16 0, .int .u16 0, .int .u16 0, .int .u16 0, .int .u16 0, .int .u16 0, .int .u16 0, .int .u16 0, .int .u8 0, .int .u8 0, .bool false, .bool false, .bool false, .bool false, .int .i64 0] : Array Value) 24)).heap.size = w.heap.size + 2 by simp)
  generalize (w.alloc (.cells cs 24)).alloc (.cells (#[.int .u16 0, .int .u16 0, .int .u16 0, .int .u16 0, .int .u16 0, .int .u16 0, .int .u16 0, .int .u16 0, .int .u16 0, .int .u16 0, .int .u16 0, .int .u16 0, .int .u16 0, .int .u8 0, .int .u8 0, .bool false, .bool false, .bool false, .bool false, .int .i64 0] : Array Value) 24) = W0 at *
  rw [HE.out] at rA
  have rA := Lib.hid rA
  have hltA := rA.out.lt
  have hltZ := rZ.out.lt
  go_wp2_with fail
  refine (kh.out _).mono ?_
  rintro e w2 ⟨rfl, rfl⟩
  have hlk := lkp_2 (p := p) hF (World.alloc_heap_new W0 (.map (pairEnts p) 4))
  have qA := Lib.hid (rA.out.alloc (.map (pairEnts p) 4))
  have qZ := Lib.hid (rZ.out.alloc (.map (pairEnts p) 4))
  have HB' := Lib.hid (HB.out.alloc HB.out.size (.map (pairEnts p) 4))
  have HW' := Lib.hid (show (W0.alloc (.map (pairEnts p) 4)).heap.size = w.heap.size + 3 by rw [World.size_alloc, HW.out])
  clear HB HW rA rZ
  have HB := HB'
  have HW := HW'
  have rA := qA
  have rZ := qZ
  clear HB' HW' qA qZ
  generalize W0.alloc (.map (pairEnts p) 4) = W1 at *
  generalize W0.heap.size = M at *
  obtain ⟨es, hes⟩ : ∃ es, es = (#[.int .u16 af, .int .u16 bc, .int .u16 de, .int .u16 hl, .int .u16 af2, .int .u16 bc2, .int .u16 de2, .int .u16 hl2, .int .u16 ix, .int .u16 iy, .int .u16 sp, .int .u16 pc, .int .u16 wz, .int .u8 i, .int .u8 r, .bool iff1, .bool iff2, .bool halted, .bool late, .int .i64 mode] : Array Value) := ⟨_, rfl⟩
  have HS := Lib.hid hes
  have hA := rA.out
  rw [← hes] at hA
  have hA := Lib.hid hA
  have iR : Hid ((Tryd.prog.info? 24).map (·.size) = some es.size) := Lib.hid (by rw [hes]; exact info24)
  have iE : Hid ((Tryd.prog.info? 42).map (·.size) = some es.size) := Lib.hid (by rw [hes]; exact info42)
  have oE : Hid (es.toList.all (·.oneCell') = true) := Lib.hid (by rw [hes]; rfl)
  have sE : Hid (es.size = 20) := Lib.hid (by rw [hes]; rfl)
  clear hes rA
  go_upto_region 5 with (first
    | (refine wpList_load_row rfl 24 _ rfl _ _ _ rfl hA.out _ Tryd.underlying24 rfl iR.out ?_)
    | (refine wpList_store_top rfl 42 _ _ rfl _ _ _ _ es rfl rfl (by simp) (by rw [sE.out]; exact Eq.refl 20) iE.out oE.out ?_))
  have rF := Row.new W1 42 es
  have qA := hA.out.alloc (.cells es 42)
  have qZ := rZ.out.alloc (.cells es 42)
  have HB' := Lib.hid (HB.out.alloc HB.out.size (.cells es 42))
  have HW' := Lib.hid (show (W1.alloc (.cells es 42)).heap.size = w.heap.size + 4 by rw [World.size_alloc, HW.out])
  rw [HW.out] at rF
  rw [HW.out]
  clear HB HW hA rZ hlk
  have HB := HB'
  have HW := HW'
  clear HB' HW'
  generalize W1.alloc (.cells es 42) = W2 at *
  rw [HS.out] at rF qA
  have rF := Lib.hid rF
  have rA := Lib.hid qA
  have rZ := Lib.hid qZ
  clear qA qZ
  have hltF := rF.out.lt
  have lF8 : W2.cell? ⟨w.heap.size + 3, 8, none⟩ = some (.int .u16 ix) := rF.out.cell 8
  have fF8 := rF.out.frozen 8
  have qA0 : Row (W2.setCell ⟨w.heap.size + 3, 8, none⟩ (.int .u16 v)) (w.heap.size) 24 (#[.int .u16 af, .int .u16 bc, .int .u16 de, .int .u16 hl, .int .u16 af2, .int .u16 bc2, .int .u16 de2, .int .u16 hl2, .int .u16 ix, .int .u16 iy, .int .u16 sp, .int .u16 pc, .int .u16 wz, .int .u8 i, .int .u8 r, .bool iff1, .bool iff2, .bool halted, .bool late, .int .i64 mode] : Array Value) := rA.out.far (p := ⟨w.heap.size + 3, 8, none⟩) (by simp) (.int .u16 v)
  have qZ0 : Row (W2.setCell ⟨w.heap.size + 3, 8, none⟩ (.int .u16 v)) (w.heap.size + 1) 24 (#[.int .u16 0, .int .u16 0, .int .u16 0, .int .u16 0, .int .u16 0, .int .u16 0, .int .u16 0, .int .u16 0, .int .u16 0, .int .u16 0, .int .u16 0, .int .u16 0, .int .u16 0, .int .u8 0, .int .u8 0, .bool false, .bool false, .bool false, .bool false, .int .i64 0] : Array Value) := rZ.out.far (p := ⟨w.heap.size + 3, 8, none⟩) (by simp) (.int .u16 v)
  have qF0 : Row (W2.setCell ⟨w.heap.size + 3, 8, none⟩ (.int .u16 v)) (w.heap.size + 3) 42 (#[.int .u16 af, .int .u16 bc, .int .u16 de, .int .u16 hl, .int .u16 af2, .int .u16 bc2, .int .u16 de2, .int .u16 hl2, .int .u16 v, .int .u16 iy, .int .u16 sp, .int .u16 pc, .int .u16 wz, .int .u8 i, .int .u8 r, .bool iff1, .bool iff2, .bool halted, .bool late, .int .i64 mode] : Array Value) := rF.out.set 8 (.int .u16 v)
  have qA := qA0
  have qZ := qZ0
  have qF := qF0
  clear qA0 qZ0 qF0
  have HB' := Lib.hid (HB.out.setCell (p := ⟨w.heap.size + 3, 8, none⟩) (by first | exact Nat.le_refl _ | exact Nat.le_add_right _ _) (.int .u16 v))
  go_upto_region 6 with ((go_at_call 55; refine (fix_any _ _).mono ?_; rintro e w' ⟨rfl, rfl⟩))
  clear lF8 fF8 rA rZ rF HB
  have rA := Lib.hid qA
  have rZ := Lib.hid qZ
  have rF := Lib.hid qF
  clear qA qZ qF
  have HB := HB'
  clear HB'
  generalize W2.setCell ⟨w.heap.size + 3, 8, none⟩ (.int .u16 v) = W3 at *
  obtain ⟨ds, hds⟩ : ∃ ds, ds = (#[.int .u16 af, .int .u16 bc, .int .u16 de, .int .u16 hl, .int .u16 af2, .int .u16 bc2, .int .u16 de2, .int .u16 hl2, .int .u16 v, .int .u16 iy, .int .u16 sp, .int .u16 pc, .int .u16 wz, .int .u8 i, .int .u8 r, .bool iff1, .bool iff2, .bool halted, .bool late, .int .i64 mode] : Array Value) := ⟨_, rfl⟩
  have i24 : Hid ((Tryd.prog.info? 24).map (·.size) = some ds.size) := Lib.hid (by rw [hds]; exact info24)
  have one : Hid (ds.toList.all (·.oneCell') = true) := Lib.hid (by rw [hds]; rfl)
  have hsz : Hid (ds.size = 20) := Lib.hid (by rw [hds]; rfl)
  have HD := Lib.hid hds
  have hR := rF.out
  rw [← hds] at hR
  clear hds
  apply wp_region_lit
  have i42 : Hid ((Tryd.prog.info? 42).map (·.size) = some ds.size) := Lib.hid (by rw [hsz.out]; exact info42)
  refine wpList_load_row rfl 42 _ rfl _ _ _ rfl hR _ Tryd.underlying42 rfl i42.out ?_
  refine wpList_store_row rfl 24 _ _ rfl (w.heap.size + 1) _ _ ds rfl rfl rZ.out (by rw [hsz.out]; exact Eq.refl 20) i24.out one.out ?_
  have rE := rZ.out.setAll (vs := ds) (by rw [hsz.out]; exact Eq.refl 20)
  have HE9 := Lib.hid (Below.setCellsAll HB.out (b := w.heap.size + 1) (Nat.le_add_right _ _) ds.toList 0)
  generalize W3.setCells (w.heap.size + 1) 0 ds.toList = W9 at *
  apply wpList_nil
  rename_i hret
  refine hret _ _ (wp_ret ?_)
  try simp only [Exit.inBlock, Exit.then]
  refine bodyPost_ret (results_row rfl rfl rE _ Tryd.underlying24 rfl i24.out) rfl ?_
  exact ⟨(congrArg (fun q => Ending.returned (Value.agg q)) HD.out).trans rfl, HE9.out⟩
set_option maxRecDepth 20000 in
set_option maxHeartbeats 4000000 in
theorem setPair_2iy (g : Rg) (p v : Int) (hF : thirdF p = 56) (w : World) :
    Calls Tryd.prog 24 #[regsV g, .int .i64 p, .int .i64 2, .int .u16 v] w fun e w' => e = .returned (regsV ({ g with iy := v })) ∧ Below w.heap.size w w' := by
  obtain ⟨af, bc, de, hl, af2, bc2, de2, hl2, ix, iy, sp, pc, wz, i, r, iff1, iff2, halted, late, mode⟩ := g
  have kh := Lib.hid (fun w => pairs_any p w)
  obtain ⟨cs, hcs⟩ : ∃ cs, cs = (#[.int .u16 af, .int .u16 bc, .int .u16 de, .int .u16 hl, .int .u16 af2, .int .u16 bc2, .int .u16 de2, .int .u16 hl2, .int .u16 ix, .int .u16 iy, .int .u16 sp, .int .u16 pc, .int .u16 wz, .int .u8 i, .int .u8 r, .bool iff1, .bool iff2, .bool halted, .bool late, .int .i64 mode] : Array Value) := ⟨_, rfl⟩
  have HE := Lib.hid hcs
  show Calls _ _ #[.agg (#[.int .u16 af, .int .u16 bc, .int .u16 de, .int .u16 hl, .int .u16 af2, .int .u16 bc2, .int .u16 de2, .int .u16 hl2, .int .u16 ix, .int .u16 iy, .int .u16 sp, .int .u16 pc, .int .u16 wz, .int .u8 i, .int .u8 r, .bool iff1, .bool iff2, .bool halted, .bool late, .int .i64 mode] : Array Value), .int .i64 p, .int .i64 2, .int .u16 v] _ _
  rw [← hcs]
  clear hcs
  go_enter Tryd.func24, Tryd.ntmps24
  go_upto_region 1 with (fail)
  have rA := (Row.new w 24 cs).alloc (.cells (#[.int .u16 0, .int .u16 0, .int .u16 0, .int .u16 0, .int .u16 0, .int .u16 0, .int .u16 0, .int .u16 0, .int .u16 0, .int .u16 0, .int .u16 0, .int .u16 0, .int .u16 0, .int .u8 0, .int .u8 0, .bool false, .bool false, .bool false, .bool false, .int .i64 0] : Array Value) 24)
  have rZ := Row.new (w.alloc (.cells cs 24)) 24 (#[.int .u16 0, .int .u16 0, .int .u16 0, .int .u16 0, .int .u16 0, .int .u16 0, .int .u16 0, .int .u16 0, .int .u16 0, .int .u16 0, .int .u16 0, .int .u16 0, .int .u16 0, .int .u8 0, .int .u8 0, .bool false, .bool false, .bool false, .bool false, .int .i64 0] : Array Value)
  rw [show (w.alloc (.cells cs 24)).heap.size = w.heap.size + 1 by simp] at rZ
  have rZ := Lib.hid rZ
  have HB := Lib.hid (((Below.refl w.heap.size w).alloc (Nat.le_refl _) (.cells cs 24)).alloc (by simp) (.cells (#[.int .u16 0, .int .u16 0, .int .u16 0, .int .u16 0, .int .u16 0, .int .u16 0, .int .u16 0, .int .u16 0, .int .u16 0, .int .u16 0, .int .u16 0, .int .u16 0, .int .u16 0, .int .u8 0, .int .u8 0, .bool false, .bool false, .bool false, .bool false, .int .i64 0] : Array Value) 24))
  have HW := Lib.hid (show ((w.alloc (.cells cs 24)).alloc (.cells (#[.int .u16 0, .int .u16 0, .int .u16 0, .int .u16 0, .int .u16 0, .int .u16 0, .int .u16 0, .int .u16 0, .int .u16 0, .int .u16 0, .int .u16 0, .int .u16 0, .int .u16 0, .int .u8 0, .int .u8 0, .bool false, .bool false, .bool false, .bool false, .int .i64 0] : Array Value) 24)).heap.size = w.heap.size + 2 by simp)
  generalize (w.alloc (.cells cs 24)).alloc (.cells (#[.int .u16 0, .int .u16 0, .int .u16 0, .int .u16 0, .int .u16 0, .int .u16 0, .int .u16 0, .int .u16 0, .int .u16 0, .int .u16 0, .int .u16 0, .int .u16 0, .int .u16 0, .int .u8 0, .int .u8 0, .bool false, .bool false, .bool false, .bool false, .int .i64 0] : Array Value) 24) = W0 at *
  rw [HE.out] at rA
  have rA := Lib.hid rA
  have hltA := rA.out.lt
  have hltZ := rZ.out.lt
  go_wp2_with fail
  refine (kh.out _).mono ?_
  rintro e w2 ⟨rfl, rfl⟩
  have hlk := lkp_2 (p := p) hF (World.alloc_heap_new W0 (.map (pairEnts p) 4))
  have qA := Lib.hid (rA.out.alloc (.map (pairEnts p) 4))
  have qZ := Lib.hid (rZ.out.alloc (.map (pairEnts p) 4))
  have HB' := Lib.hid (HB.out.alloc HB.out.size (.map (pairEnts p) 4))
  have HW' := Lib.hid (show (W0.alloc (.map (pairEnts p) 4)).heap.size = w.heap.size + 3 by rw [World.size_alloc, HW.out])
  clear HB HW rA rZ
  have HB := HB'
  have HW := HW'
  have rA := qA
  have rZ := qZ
  clear HB' HW' qA qZ
  generalize W0.alloc (.map (pairEnts p) 4) = W1 at *
  generalize W0.heap.size = M at *
  obtain ⟨es, hes⟩ : ∃ es, es = (#[.int .u16 af, .int .u16 bc, .int .u16 de, .int .u16 hl, .int .u16 af2, .int .u16 bc2, .int .u16 de2, .int .u16 hl2, .int .u16 ix, .int .u16 iy, .int .u16 sp, .int .u16 pc, .int .u16 wz, .int .u8 i, .int .u8 r, .bool iff1, .bool iff2, .bool halted, .bool late, .int .i64 mode] : Array Value) := ⟨_, rfl⟩
  have HS := Lib.hid hes
  have hA := rA.out
  rw [← hes] at hA
  have hA := Lib.hid hA
  have iR : Hid ((Tryd.prog.info? 24).map (·.size) = some es.size) := Lib.hid (by rw [hes]; exact info24)
  have iE : Hid ((Tryd.prog.info? 42).map (·.size) = some es.size) := Lib.hid (by rw [hes]; exact info42)
  have oE : Hid (es.toList.all (·.oneCell') = true) := Lib.hid (by rw [hes]; rfl)
  have sE : Hid (es.size = 20) := Lib.hid (by rw [hes]; rfl)
  clear hes rA
  go_upto_region 5 with (first
    | (refine wpList_load_row rfl 24 _ rfl _ _ _ rfl hA.out _ Tryd.underlying24 rfl iR.out ?_)
    | (refine wpList_store_top rfl 42 _ _ rfl _ _ _ _ es rfl rfl (by simp) (by rw [sE.out]; exact Eq.refl 20) iE.out oE.out ?_))
  have rF := Row.new W1 42 es
  have qA := hA.out.alloc (.cells es 42)
  have qZ := rZ.out.alloc (.cells es 42)
  have HB' := Lib.hid (HB.out.alloc HB.out.size (.cells es 42))
  have HW' := Lib.hid (show (W1.alloc (.cells es 42)).heap.size = w.heap.size + 4 by rw [World.size_alloc, HW.out])
  rw [HW.out] at rF
  rw [HW.out]
  clear HB HW hA rZ hlk
  have HB := HB'
  have HW := HW'
  clear HB' HW'
  generalize W1.alloc (.cells es 42) = W2 at *
  rw [HS.out] at rF qA
  have rF := Lib.hid rF
  have rA := Lib.hid qA
  have rZ := Lib.hid qZ
  clear qA qZ
  have hltF := rF.out.lt
  have lF9 : W2.cell? ⟨w.heap.size + 3, 9, none⟩ = some (.int .u16 iy) := rF.out.cell 9
  have fF9 := rF.out.frozen 9
  have qA0 : Row (W2.setCell ⟨w.heap.size + 3, 9, none⟩ (.int .u16 v)) (w.heap.size) 24 (#[.int .u16 af, .int .u16 bc, .int .u16 de, .int .u16 hl, .int .u16 af2, .int .u16 bc2, .int .u16 de2, .int .u16 hl2, .int .u16 ix, .int .u16 iy, .int .u16 sp, .int .u16 pc, .int .u16 wz, .int .u8 i, .int .u8 r, .bool iff1, .bool iff2, .bool halted, .bool late, .int .i64 mode] : Array Value) := rA.out.far (p := ⟨w.heap.size + 3, 9, none⟩) (by simp) (.int .u16 v)
  have qZ0 : Row (W2.setCell ⟨w.heap.size + 3, 9, none⟩ (.int .u16 v)) (w.heap.size + 1) 24 (#[.int .u16 0, .int .u16 0, .int .u16 0, .int .u16 0, .int .u16 0, .int .u16 0, .int .u16 0, .int .u16 0, .int .u16 0, .int .u16 0, .int .u16 0, .int .u16 0, .int .u16 0, .int .u8 0, .int .u8 0, .bool false, .bool false, .bool false, .bool false, .int .i64 0] : Array Value) := rZ.out.far (p := ⟨w.heap.size + 3, 9, none⟩) (by simp) (.int .u16 v)
  have qF0 : Row (W2.setCell ⟨w.heap.size + 3, 9, none⟩ (.int .u16 v)) (w.heap.size + 3) 42 (#[.int .u16 af, .int .u16 bc, .int .u16 de, .int .u16 hl, .int .u16 af2, .int .u16 bc2, .int .u16 de2, .int .u16 hl2, .int .u16 ix, .int .u16 v, .int .u16 sp, .int .u16 pc, .int .u16 wz, .int .u8 i, .int .u8 r, .bool iff1, .bool iff2, .bool halted, .bool late, .int .i64 mode] : Array Value) := rF.out.set 9 (.int .u16 v)
  have qA := qA0
  have qZ := qZ0
  have qF := qF0
  clear qA0 qZ0 qF0
  have HB' := Lib.hid (HB.out.setCell (p := ⟨w.heap.size + 3, 9, none⟩) (by first | exact Nat.le_refl _ | exact Nat.le_add_right _ _) (.int .u16 v))
  go_upto_region 6 with ((go_at_call 56; refine (fiy_any _ _).mono ?_; rintro e w' ⟨rfl, rfl⟩))
  clear lF9 fF9 rA rZ rF HB
  have rA := Lib.hid qA
  have rZ := Lib.hid qZ
  have rF := Lib.hid qF
  clear qA qZ qF
  have HB := HB'
  clear HB'
  generalize W2.setCell ⟨w.heap.size + 3, 9, none⟩ (.int .u16 v) = W3 at *
  obtain ⟨ds, hds⟩ : ∃ ds, ds = (#[.int .u16 af, .int .u16 bc, .int .u16 de, .int .u16 hl, .int .u16 af2, .int .u16 bc2, .int .u16 de2, .int .u16 hl2, .int .u16 ix, .int .u16 v, .int .u16 sp, .int .u16 pc, .int .u16 wz, .int .u8 i, .int .u8 r, .bool iff1, .bool iff2, .bool halted, .bool late, .int .i64 mode] : Array Value) := ⟨_, rfl⟩
  have i24 : Hid ((Tryd.prog.info? 24).map (·.size) = some ds.size) := Lib.hid (by rw [hds]; exact info24)
  have one : Hid (ds.toList.all (·.oneCell') = true) := Lib.hid (by rw [hds]; rfl)
  have hsz : Hid (ds.size = 20) := Lib.hid (by rw [hds]; rfl)
  have HD := Lib.hid hds
  have hR := rF.out
  rw [← hds] at hR
  clear hds
  apply wp_region_lit
  have i42 : Hid ((Tryd.prog.info? 42).map (·.size) = some ds.size) := Lib.hid (by rw [hsz.out]; exact info42)
  refine wpList_load_row rfl 42 _ rfl _ _ _ rfl hR _ Tryd.underlying42 rfl i42.out ?_
  refine wpList_store_row rfl 24 _ _ rfl (w.heap.size + 1) _ _ ds rfl rfl rZ.out (by rw [hsz.out]; exact Eq.refl 20) i24.out one.out ?_
  have rE := rZ.out.setAll (vs := ds) (by rw [hsz.out]; exact Eq.refl 20)
  have HE9 := Lib.hid (Below.setCellsAll HB.out (b := w.heap.size + 1) (Nat.le_add_right _ _) ds.toList 0)
  generalize W3.setCells (w.heap.size + 1) 0 ds.toList = W9 at *
  apply wpList_nil
  rename_i hret
  refine hret _ _ (wp_ret ?_)
  try simp only [Exit.inBlock, Exit.then]
  refine bodyPost_ret (results_row rfl rfl rE _ Tryd.underlying24 rfl i24.out) rfl ?_
  exact ⟨(congrArg (fun q => Ending.returned (Value.agg q)) HD.out).trans rfl, HE9.out⟩
set_option maxRecDepth 20000 in
set_option maxHeartbeats 4000000 in
theorem setPair_2hl (g : Rg) (p v : Int) (hF : thirdF p = 57) (w : World) :
    Calls Tryd.prog 24 #[regsV g, .int .i64 p, .int .i64 2, .int .u16 v] w fun e w' => e = .returned (regsV ({ g with hl := v })) ∧ Below w.heap.size w w' := by
  obtain ⟨af, bc, de, hl, af2, bc2, de2, hl2, ix, iy, sp, pc, wz, i, r, iff1, iff2, halted, late, mode⟩ := g
  have kh := Lib.hid (fun w => pairs_any p w)
  obtain ⟨cs, hcs⟩ : ∃ cs, cs = (#[.int .u16 af, .int .u16 bc, .int .u16 de, .int .u16 hl, .int .u16 af2, .int .u16 bc2, .int .u16 de2, .int .u16 hl2, .int .u16 ix, .int .u16 iy, .int .u16 sp, .int .u16 pc, .int .u16 wz, .int .u8 i, .int .u8 r, .bool iff1, .bool iff2, .bool halted, .bool late, .int .i64 mode] : Array Value) := ⟨_, rfl⟩
  have HE := Lib.hid hcs
  show Calls _ _ #[.agg (#[.int .u16 af, .int .u16 bc, .int .u16 de, .int .u16 hl, .int .u16 af2, .int .u16 bc2, .int .u16 de2, .int .u16 hl2, .int .u16 ix, .int .u16 iy, .int .u16 sp, .int .u16 pc, .int .u16 wz, .int .u8 i, .int .u8 r, .bool iff1, .bool iff2, .bool halted, .bool late, .int .i64 mode] : Array Value), .int .i64 p, .int .i64 2, .int .u16 v] _ _
  rw [← hcs]
  clear hcs
  go_enter Tryd.func24, Tryd.ntmps24
  go_upto_region 1 with (fail)
  have rA := (Row.new w 24 cs).alloc (.cells (#[.int .u16 0, .int .u16 0, .int .u16 0, .int .u16 0, .int .u16 0, .int .u16 0, .int .u16 0, .int .u16 0, .int .u16 0, .int .u16 0, .int .u16 0, .int .u16 0, .int .u16 0, .int .u8 0, .int .u8 0, .bool false, .bool false, .bool false, .bool false, .int .i64 0] : Array Value) 24)
  have rZ := Row.new (w.alloc (.cells cs 24)) 24 (#[.int .u16 0, .int .u16 0, .int .u16 0, .int .u16 0, .int .u16 0, .int .u16 0, .int .u16 0, .int .u16 0, .int .u16 0, .int .u16 0, .int .u16 0, .int .u16 0, .int .u16 0, .int .u8 0, .int .u8 0, .bool false, .bool false, .bool false, .bool false, .int .i64 0] : Array Value)
  rw [show (w.alloc (.cells cs 24)).heap.size = w.heap.size + 1 by simp] at rZ
  have rZ := Lib.hid rZ
  have HB := Lib.hid (((Below.refl w.heap.size w).alloc (Nat.le_refl _) (.cells cs 24)).alloc (by simp) (.cells (#[.int .u16 0, .int .u16 0, .int .u16 0, .int .u16 0, .int .u16 0, .int .u16 0, .int .u16 0, .int .u16 0, .int .u16 0, .int .u16 0, .int .u16 0, .int .u16 0, .int .u16 0, .int .u8 0, .int .u8 0, .bool false, .bool false, .bool false, .bool false, .int .i64 0] : Array Value) 24))
  have HW := Lib.hid (show ((w.alloc (.cells cs 24)).alloc (.cells (#[.int .u16 0, .int .u16 0, .int .u16 0, .int .u16 0, .int .u16 0, .int .u16 0, .int .u16 0, .int .u16 0, .int .u16 0, .int .u16 0, .int .u16 0, .int .u16 0, .int .u16 0, .int .u8 0, .int .u8 0, .bool false, .bool false, .bool false, .bool false, .int .i64 0] : Array Value) 24)).heap.size = w.heap.size + 2 by simp)
  generalize (w.alloc (.cells cs 24)).alloc (.cells (#[.int .u16 0, .int .u16 0, .int .u16 0, .int .u16 0, .int .u16 0, .int .u16 0, .int .u16 0, .int .u16 0, .int .u16 0, .int .u16 0, .int .u16 0, .int .u16 0, .int .u16 0, .int .u8 0, .int .u8 0, .bool false, .bool false, .bool false, .bool false, .int .i64 0] : Array Value) 24) = W0 at *
  rw [HE.out] at rA
  have rA := Lib.hid rA
  have hltA := rA.out.lt
  have hltZ := rZ.out.lt
  go_wp2_with fail
  refine (kh.out _).mono ?_
  rintro e w2 ⟨rfl, rfl⟩
  have hlk := lkp_2 (p := p) hF (World.alloc_heap_new W0 (.map (pairEnts p) 4))
  have qA := Lib.hid (rA.out.alloc (.map (pairEnts p) 4))
  have qZ := Lib.hid (rZ.out.alloc (.map (pairEnts p) 4))
  have HB' := Lib.hid (HB.out.alloc HB.out.size (.map (pairEnts p) 4))
  have HW' := Lib.hid (show (W0.alloc (.map (pairEnts p) 4)).heap.size = w.heap.size + 3 by rw [World.size_alloc, HW.out])
  clear HB HW rA rZ
  have HB := HB'
  have HW := HW'
  have rA := qA
  have rZ := qZ
  clear HB' HW' qA qZ
  generalize W0.alloc (.map (pairEnts p) 4) = W1 at *
  generalize W0.heap.size = M at *
  obtain ⟨es, hes⟩ : ∃ es, es = (#[.int .u16 af, .int .u16 bc, .int .u16 de, .int .u16 hl, .int .u16 af2, .int .u16 bc2, .int .u16 de2, .int .u16 hl2, .int .u16 ix, .int .u16 iy, .int .u16 sp, .int .u16 pc, .int .u16 wz, .int .u8 i, .int .u8 r, .bool iff1, .bool iff2, .bool halted, .bool late, .int .i64 mode] : Array Value) := ⟨_, rfl⟩
  have HS := Lib.hid hes
  have hA := rA.out
  rw [← hes] at hA
  have hA := Lib.hid hA
  have iR : Hid ((Tryd.prog.info? 24).map (·.size) = some es.size) := Lib.hid (by rw [hes]; exact info24)
  have iE : Hid ((Tryd.prog.info? 42).map (·.size) = some es.size) := Lib.hid (by rw [hes]; exact info42)
  have oE : Hid (es.toList.all (·.oneCell') = true) := Lib.hid (by rw [hes]; rfl)
  have sE : Hid (es.size = 20) := Lib.hid (by rw [hes]; rfl)
  clear hes rA
  go_upto_region 5 with (first
    | (refine wpList_load_row rfl 24 _ rfl _ _ _ rfl hA.out _ Tryd.underlying24 rfl iR.out ?_)
    | (refine wpList_store_top rfl 42 _ _ rfl _ _ _ _ es rfl rfl (by simp) (by rw [sE.out]; exact Eq.refl 20) iE.out oE.out ?_))
  have rF := Row.new W1 42 es
  have qA := hA.out.alloc (.cells es 42)
  have qZ := rZ.out.alloc (.cells es 42)
  have HB' := Lib.hid (HB.out.alloc HB.out.size (.cells es 42))
  have HW' := Lib.hid (show (W1.alloc (.cells es 42)).heap.size = w.heap.size + 4 by rw [World.size_alloc, HW.out])
  rw [HW.out] at rF
  rw [HW.out]
  clear HB HW hA rZ hlk
  have HB := HB'
  have HW := HW'
  clear HB' HW'
  generalize W1.alloc (.cells es 42) = W2 at *
  rw [HS.out] at rF qA
  have rF := Lib.hid rF
  have rA := Lib.hid qA
  have rZ := Lib.hid qZ
  clear qA qZ
  have hltF := rF.out.lt
  have lF3 : W2.cell? ⟨w.heap.size + 3, 3, none⟩ = some (.int .u16 hl) := rF.out.cell 3
  have fF3 := rF.out.frozen 3
  have qA0 : Row (W2.setCell ⟨w.heap.size + 3, 3, none⟩ (.int .u16 v)) (w.heap.size) 24 (#[.int .u16 af, .int .u16 bc, .int .u16 de, .int .u16 hl, .int .u16 af2, .int .u16 bc2, .int .u16 de2, .int .u16 hl2, .int .u16 ix, .int .u16 iy, .int .u16 sp, .int .u16 pc, .int .u16 wz, .int .u8 i, .int .u8 r, .bool iff1, .bool iff2, .bool halted, .bool late, .int .i64 mode] : Array Value) := rA.out.far (p := ⟨w.heap.size + 3, 3, none⟩) (by simp) (.int .u16 v)
  have qZ0 : Row (W2.setCell ⟨w.heap.size + 3, 3, none⟩ (.int .u16 v)) (w.heap.size + 1) 24 (#[.int .u16 0, .int .u16 0, .int .u16 0, .int .u16 0, .int .u16 0, .int .u16 0, .int .u16 0, .int .u16 0, .int .u16 0, .int .u16 0, .int .u16 0, .int .u16 0, .int .u16 0, .int .u8 0, .int .u8 0, .bool false, .bool false, .bool false, .bool false, .int .i64 0] : Array Value) := rZ.out.far (p := ⟨w.heap.size + 3, 3, none⟩) (by simp) (.int .u16 v)
  have qF0 : Row (W2.setCell ⟨w.heap.size + 3, 3, none⟩ (.int .u16 v)) (w.heap.size + 3) 42 (#[.int .u16 af, .int .u16 bc, .int .u16 de, .int .u16 v, .int .u16 af2, .int .u16 bc2, .int .u16 de2, .int .u16 hl2, .int .u16 ix, .int .u16 iy, .int .u16 sp, .int .u16 pc, .int .u16 wz, .int .u8 i, .int .u8 r, .bool iff1, .bool iff2, .bool halted, .bool late, .int .i64 mode] : Array Value) := rF.out.set 3 (.int .u16 v)
  have qA := qA0
  have qZ := qZ0
  have qF := qF0
  clear qA0 qZ0 qF0
  have HB' := Lib.hid (HB.out.setCell (p := ⟨w.heap.size + 3, 3, none⟩) (by first | exact Nat.le_refl _ | exact Nat.le_add_right _ _) (.int .u16 v))
  go_upto_region 6 with ((go_at_call 57; refine (fhl_any _ _).mono ?_; rintro e w' ⟨rfl, rfl⟩))
  clear lF3 fF3 rA rZ rF HB
  have rA := Lib.hid qA
  have rZ := Lib.hid qZ
  have rF := Lib.hid qF
  clear qA qZ qF
  have HB := HB'
  clear HB'
  generalize W2.setCell ⟨w.heap.size + 3, 3, none⟩ (.int .u16 v) = W3 at *
  obtain ⟨ds, hds⟩ : ∃ ds, ds = (#[.int .u16 af, .int .u16 bc, .int .u16 de, .int .u16 v, .int .u16 af2, .int .u16 bc2, .int .u16 de2, .int .u16 hl2, .int .u16 ix, .int .u16 iy, .int .u16 sp, .int .u16 pc, .int .u16 wz, .int .u8 i, .int .u8 r, .bool iff1, .bool iff2, .bool halted, .bool late, .int .i64 mode] : Array Value) := ⟨_, rfl⟩
  have i24 : Hid ((Tryd.prog.info? 24).map (·.size) = some ds.size) := Lib.hid (by rw [hds]; exact info24)
  have one : Hid (ds.toList.all (·.oneCell') = true) := Lib.hid (by rw [hds]; rfl)
  have hsz : Hid (ds.size = 20) := Lib.hid (by rw [hds]; rfl)
  have HD := Lib.hid hds
  have hR := rF.out
  rw [← hds] at hR
  clear hds
  apply wp_region_lit
  have i42 : Hid ((Tryd.prog.info? 42).map (·.size) = some ds.size) := Lib.hid (by rw [hsz.out]; exact info42)
  refine wpList_load_row rfl 42 _ rfl _ _ _ rfl hR _ Tryd.underlying42 rfl i42.out ?_
  refine wpList_store_row rfl 24 _ _ rfl (w.heap.size + 1) _ _ ds rfl rfl rZ.out (by rw [hsz.out]; exact Eq.refl 20) i24.out one.out ?_
  have rE := rZ.out.setAll (vs := ds) (by rw [hsz.out]; exact Eq.refl 20)
  have HE9 := Lib.hid (Below.setCellsAll HB.out (b := w.heap.size + 1) (Nat.le_add_right _ _) ds.toList 0)
  generalize W3.setCells (w.heap.size + 1) 0 ds.toList = W9 at *
  apply wpList_nil
  rename_i hret
  refine hret _ _ (wp_ret ?_)
  try simp only [Exit.inBlock, Exit.then]
  refine bodyPost_ret (results_row rfl rfl rE _ Tryd.underlying24 rfl i24.out) rfl ?_
  exact ⟨(congrArg (fun q => Ending.returned (Value.agg q)) HD.out).trans rfl, HE9.out⟩
set_option maxRecDepth 20000 in
set_option maxHeartbeats 4000000 in
theorem setPair_3sp (g : Rg) (p v : Int) (w : World) :
    Calls Tryd.prog 24 #[regsV g, .int .i64 p, .int .i64 3, .int .u16 v] w fun e w' => e = .returned (regsV ({ g with sp := v })) ∧ Below w.heap.size w w' := by
  obtain ⟨af, bc, de, hl, af2, bc2, de2, hl2, ix, iy, sp, pc, wz, i, r, iff1, iff2, halted, late, mode⟩ := g
  have kh := Lib.hid (fun w => pairs_any p w)
  obtain ⟨cs, hcs⟩ : ∃ cs, cs = (#[.int .u16 af, .int .u16 bc, .int .u16 de, .int .u16 hl, .int .u16 af2, .int .u16 bc2, .int .u16 de2, .int .u16 hl2, .int .u16 ix, .int .u16 iy, .int .u16 sp, .int .u16 pc, .int .u16 wz, .int .u8 i, .int .u8 r, .bool iff1, .bool iff2, .bool halted, .bool late, .int .i64 mode] : Array Value) := ⟨_, rfl⟩
  have HE := Lib.hid hcs
  show Calls _ _ #[.agg (#[.int .u16 af, .int .u16 bc, .int .u16 de, .int .u16 hl, .int .u16 af2, .int .u16 bc2, .int .u16 de2, .int .u16 hl2, .int .u16 ix, .int .u16 iy, .int .u16 sp, .int .u16 pc, .int .u16 wz, .int .u8 i, .int .u8 r, .bool iff1, .bool iff2, .bool halted, .bool late, .int .i64 mode] : Array Value), .int .i64 p, .int .i64 3, .int .u16 v] _ _
  rw [← hcs]
  clear hcs
  go_enter Tryd.func24, Tryd.ntmps24
  go_upto_region 1 with (fail)
  have rA := (Row.new w 24 cs).alloc (.cells (#[.int .u16 0, .int .u16 0, .int .u16 0, .int .u16 0, .int .u16 0, .int .u16 0, .int .u16 0, .int .u16 0, .int .u16 0, .int .u16 0, .int .u16 0, .int .u16 0, .int .u16 0, .int .u8 0, .int .u8 0, .bool false, .bool false, .bool false, .bool false, .int .i64 0] : Array Value) 24)
  have rZ := Row.new (w.alloc (.cells cs 24)) 24 (#[.int .u16 0, .int .u16 0, .int .u16 0, .int .u16 0, .int .u16 0, .int .u16 0, .int .u16 0, .int .u16 0, .int .u16 0, .int .u16 0, .int .u16 0, .int .u16 0, .int .u16 0, .int .u8 0, .int .u8 0, .bool false, .bool false, .bool false, .bool false, .int .i64 0] : Array Value)
  rw [show (w.alloc (.cells cs 24)).heap.size = w.heap.size + 1 by simp] at rZ
  have rZ := Lib.hid rZ
  have HB := Lib.hid (((Below.refl w.heap.size w).alloc (Nat.le_refl _) (.cells cs 24)).alloc (by simp) (.cells (#[.int .u16 0, .int .u16 0, .int .u16 0, .int .u16 0, .int .u16 0, .int .u16 0, .int .u16 0, .int .u16 0, .int .u16 0, .int .u16 0, .int .u16 0, .int .u16 0, .int .u16 0, .int .u8 0, .int .u8 0, .bool false, .bool false, .bool false, .bool false, .int .i64 0] : Array Value) 24))
  have HW := Lib.hid (show ((w.alloc (.cells cs 24)).alloc (.cells (#[.int .u16 0, .int .u16 0, .int .u16 0, .int .u16 0, .int .u16 0, .int .u16 0, .int .u16 0, .int .u16 0, .int .u16 0, .int .u16 0, .int .u16 0, .int .u16 0, .int .u16 0, .int .u8 0, .int .u8 0, .bool false, .bool false, .bool false, .bool false, .int .i64 0] : Array Value) 24)).heap.size = w.heap.size + 2 by simp)
  generalize (w.alloc (.cells cs 24)).alloc (.cells (#[.int .u16 0, .int .u16 0, .int .u16 0, .int .u16 0, .int .u16 0, .int .u16 0, .int .u16 0, .int .u16 0, .int .u16 0, .int .u16 0, .int .u16 0, .int .u16 0, .int .u16 0, .int .u8 0, .int .u8 0, .bool false, .bool false, .bool false, .bool false, .int .i64 0] : Array Value) 24) = W0 at *
  rw [HE.out] at rA
  have rA := Lib.hid rA
  have hltA := rA.out.lt
  have hltZ := rZ.out.lt
  go_wp2_with fail
  refine (kh.out _).mono ?_
  rintro e w2 ⟨rfl, rfl⟩
  have hlk := lkp_3 (p := p) (World.alloc_heap_new W0 (.map (pairEnts p) 4))
  have qA := Lib.hid (rA.out.alloc (.map (pairEnts p) 4))
  have qZ := Lib.hid (rZ.out.alloc (.map (pairEnts p) 4))
  have HB' := Lib.hid (HB.out.alloc HB.out.size (.map (pairEnts p) 4))
  have HW' := Lib.hid (show (W0.alloc (.map (pairEnts p) 4)).heap.size = w.heap.size + 3 by rw [World.size_alloc, HW.out])
  clear HB HW rA rZ
  have HB := HB'
  have HW := HW'
  have rA := qA
  have rZ := qZ
  clear HB' HW' qA qZ
  generalize W0.alloc (.map (pairEnts p) 4) = W1 at *
  generalize W0.heap.size = M at *
  obtain ⟨es, hes⟩ : ∃ es, es = (#[.int .u16 af, .int .u16 bc, .int .u16 de, .int .u16 hl, .int .u16 af2, .int .u16 bc2, .int .u16 de2, .int .u16 hl2, .int .u16 ix, .int .u16 iy, .int .u16 sp, .int .u16 pc, .int .u16 wz, .int .u8 i, .int .u8 r, .bool iff1, .bool iff2, .bool halted, .bool late, .int .i64 mode] : Array Value) := ⟨_, rfl⟩
  have HS := Lib.hid hes
  have hA := rA.out
  rw [← hes] at hA
  have hA := Lib.hid hA
  have iR : Hid ((Tryd.prog.info? 24).map (·.size) = some es.size) := Lib.hid (by rw [hes]; exact info24)
  have iE : Hid ((Tryd.prog.info? 42).map (·.size) = some es.size) := Lib.hid (by rw [hes]; exact info42)
  have oE : Hid (es.toList.all (·.oneCell') = true) := Lib.hid (by rw [hes]; rfl)
  have sE : Hid (es.size = 20) := Lib.hid (by rw [hes]; rfl)
  clear hes rA
  go_upto_region 5 with (first
    | (refine wpList_load_row rfl 24 _ rfl _ _ _ rfl hA.out _ Tryd.underlying24 rfl iR.out ?_)
    | (refine wpList_store_top rfl 42 _ _ rfl _ _ _ _ es rfl rfl (by simp) (by rw [sE.out]; exact Eq.refl 20) iE.out oE.out ?_))
  have rF := Row.new W1 42 es
  have qA := hA.out.alloc (.cells es 42)
  have qZ := rZ.out.alloc (.cells es 42)
  have HB' := Lib.hid (HB.out.alloc HB.out.size (.cells es 42))
  have HW' := Lib.hid (show (W1.alloc (.cells es 42)).heap.size = w.heap.size + 4 by rw [World.size_alloc, HW.out])
  rw [HW.out] at rF
  rw [HW.out]
  clear HB HW hA rZ hlk
  have HB := HB'
  have HW := HW'
  clear HB' HW'
  generalize W1.alloc (.cells es 42) = W2 at *
  rw [HS.out] at rF qA
  have rF := Lib.hid rF
  have rA := Lib.hid qA
  have rZ := Lib.hid qZ
  clear qA qZ
  have hltF := rF.out.lt
  have lF10 : W2.cell? ⟨w.heap.size + 3, 10, none⟩ = some (.int .u16 sp) := rF.out.cell 10
  have fF10 := rF.out.frozen 10
  have qA0 : Row (W2.setCell ⟨w.heap.size + 3, 10, none⟩ (.int .u16 v)) (w.heap.size) 24 (#[.int .u16 af, .int .u16 bc, .int .u16 de, .int .u16 hl, .int .u16 af2, .int .u16 bc2, .int .u16 de2, .int .u16 hl2, .int .u16 ix, .int .u16 iy, .int .u16 sp, .int .u16 pc, .int .u16 wz, .int .u8 i, .int .u8 r, .bool iff1, .bool iff2, .bool halted, .bool late, .int .i64 mode] : Array Value) := rA.out.far (p := ⟨w.heap.size + 3, 10, none⟩) (by simp) (.int .u16 v)
  have qZ0 : Row (W2.setCell ⟨w.heap.size + 3, 10, none⟩ (.int .u16 v)) (w.heap.size + 1) 24 (#[.int .u16 0, .int .u16 0, .int .u16 0, .int .u16 0, .int .u16 0, .int .u16 0, .int .u16 0, .int .u16 0, .int .u16 0, .int .u16 0, .int .u16 0, .int .u16 0, .int .u16 0, .int .u8 0, .int .u8 0, .bool false, .bool false, .bool false, .bool false, .int .i64 0] : Array Value) := rZ.out.far (p := ⟨w.heap.size + 3, 10, none⟩) (by simp) (.int .u16 v)
  have qF0 : Row (W2.setCell ⟨w.heap.size + 3, 10, none⟩ (.int .u16 v)) (w.heap.size + 3) 42 (#[.int .u16 af, .int .u16 bc, .int .u16 de, .int .u16 hl, .int .u16 af2, .int .u16 bc2, .int .u16 de2, .int .u16 hl2, .int .u16 ix, .int .u16 iy, .int .u16 v, .int .u16 pc, .int .u16 wz, .int .u8 i, .int .u8 r, .bool iff1, .bool iff2, .bool halted, .bool late, .int .i64 mode] : Array Value) := rF.out.set 10 (.int .u16 v)
  have qA := qA0
  have qZ := qZ0
  have qF := qF0
  clear qA0 qZ0 qF0
  have HB' := Lib.hid (HB.out.setCell (p := ⟨w.heap.size + 3, 10, none⟩) (by first | exact Nat.le_refl _ | exact Nat.le_add_right _ _) (.int .u16 v))
  go_upto_region 6 with ((go_at_call 44; refine (fsp_any _ _).mono ?_; rintro e w' ⟨rfl, rfl⟩))
  clear lF10 fF10 rA rZ rF HB
  have rA := Lib.hid qA
  have rZ := Lib.hid qZ
  have rF := Lib.hid qF
  clear qA qZ qF
  have HB := HB'
  clear HB'
  generalize W2.setCell ⟨w.heap.size + 3, 10, none⟩ (.int .u16 v) = W3 at *
  obtain ⟨ds, hds⟩ : ∃ ds, ds = (#[.int .u16 af, .int .u16 bc, .int .u16 de, .int .u16 hl, .int .u16 af2, .int .u16 bc2, .int .u16 de2, .int .u16 hl2, .int .u16 ix, .int .u16 iy, .int .u16 v, .int .u16 pc, .int .u16 wz, .int .u8 i, .int .u8 r, .bool iff1, .bool iff2, .bool halted, .bool late, .int .i64 mode] : Array Value) := ⟨_, rfl⟩
  have i24 : Hid ((Tryd.prog.info? 24).map (·.size) = some ds.size) := Lib.hid (by rw [hds]; exact info24)
  have one : Hid (ds.toList.all (·.oneCell') = true) := Lib.hid (by rw [hds]; rfl)
  have hsz : Hid (ds.size = 20) := Lib.hid (by rw [hds]; rfl)
  have HD := Lib.hid hds
  have hR := rF.out
  rw [← hds] at hR
  clear hds
  apply wp_region_lit
  have i42 : Hid ((Tryd.prog.info? 42).map (·.size) = some ds.size) := Lib.hid (by rw [hsz.out]; exact info42)
  refine wpList_load_row rfl 42 _ rfl _ _ _ rfl hR _ Tryd.underlying42 rfl i42.out ?_
  refine wpList_store_row rfl 24 _ _ rfl (w.heap.size + 1) _ _ ds rfl rfl rZ.out (by rw [hsz.out]; exact Eq.refl 20) i24.out one.out ?_
  have rE := rZ.out.setAll (vs := ds) (by rw [hsz.out]; exact Eq.refl 20)
  have HE9 := Lib.hid (Below.setCellsAll HB.out (b := w.heap.size + 1) (Nat.le_add_right _ _) ds.toList 0)
  generalize W3.setCells (w.heap.size + 1) 0 ds.toList = W9 at *
  apply wpList_nil
  rename_i hret
  refine hret _ _ (wp_ret ?_)
  try simp only [Exit.inBlock, Exit.then]
  refine bodyPost_ret (results_row rfl rfl rE _ Tryd.underlying24 rfl i24.out) rfl ?_
  exact ⟨(congrArg (fun q => Ending.returned (Value.agg q)) HD.out).trans rfl, HE9.out⟩
set_option maxRecDepth 20000 in
set_option maxHeartbeats 4000000 in
theorem setPair_no (g : Rg) (p k v : Int) (hk : k < 0 ∨ 3 < k) (w : World) :
    Calls Tryd.prog 24 #[regsV g, .int .i64 p, .int .i64 k, .int .u16 v] w fun e w' => e = .returned (regsV (g)) ∧ Below w.heap.size w w' := by
  obtain ⟨af, bc, de, hl, af2, bc2, de2, hl2, ix, iy, sp, pc, wz, i, r, iff1, iff2, halted, late, mode⟩ := g
  have kh := Lib.hid (fun w => pairs_any p w)
  have hk := Lib.hid hk
  obtain ⟨cs, hcs⟩ : ∃ cs, cs = (#[.int .u16 af, .int .u16 bc, .int .u16 de, .int .u16 hl, .int .u16 af2, .int .u16 bc2, .int .u16 de2, .int .u16 hl2, .int .u16 ix, .int .u16 iy, .int .u16 sp, .int .u16 pc, .int .u16 wz, .int .u8 i, .int .u8 r, .bool iff1, .bool iff2, .bool halted, .bool late, .int .i64 mode] : Array Value) := ⟨_, rfl⟩
  have HE := Lib.hid hcs
  show Calls _ _ #[.agg (#[.int .u16 af, .int .u16 bc, .int .u16 de, .int .u16 hl, .int .u16 af2, .int .u16 bc2, .int .u16 de2, .int .u16 hl2, .int .u16 ix, .int .u16 iy, .int .u16 sp, .int .u16 pc, .int .u16 wz, .int .u8 i, .int .u8 r, .bool iff1, .bool iff2, .bool halted, .bool late, .int .i64 mode] : Array Value), .int .i64 p, .int .i64 k, .int .u16 v] _ _
  rw [← hcs]
  clear hcs
  go_enter Tryd.func24, Tryd.ntmps24
  go_upto_region 1 with (fail)
  have rA := (Row.new w 24 cs).alloc (.cells (#[.int .u16 0, .int .u16 0, .int .u16 0, .int .u16 0, .int .u16 0, .int .u16 0, .int .u16 0, .int .u16 0, .int .u16 0, .int .u16 0, .int .u16 0, .int .u16 0, .int .u16 0, .int .u8 0, .int .u8 0, .bool false, .bool false, .bool false, .bool false, .int .i64 0] : Array Value) 24)
  have rZ := Row.new (w.alloc (.cells cs 24)) 24 (#[.int .u16 0, .int .u16 0, .int .u16 0, .int .u16 0, .int .u16 0, .int .u16 0, .int .u16 0, .int .u16 0, .int .u16 0, .int .u16 0, .int .u16 0, .int .u16 0, .int .u16 0, .int .u8 0, .int .u8 0, .bool false, .bool false, .bool false, .bool false, .int .i64 0] : Array Value)
  rw [show (w.alloc (.cells cs 24)).heap.size = w.heap.size + 1 by simp] at rZ
  have rZ := Lib.hid rZ
  have HB := Lib.hid (((Below.refl w.heap.size w).alloc (Nat.le_refl _) (.cells cs 24)).alloc (by simp) (.cells (#[.int .u16 0, .int .u16 0, .int .u16 0, .int .u16 0, .int .u16 0, .int .u16 0, .int .u16 0, .int .u16 0, .int .u16 0, .int .u16 0, .int .u16 0, .int .u16 0, .int .u16 0, .int .u8 0, .int .u8 0, .bool false, .bool false, .bool false, .bool false, .int .i64 0] : Array Value) 24))
  have HW := Lib.hid (show ((w.alloc (.cells cs 24)).alloc (.cells (#[.int .u16 0, .int .u16 0, .int .u16 0, .int .u16 0, .int .u16 0, .int .u16 0, .int .u16 0, .int .u16 0, .int .u16 0, .int .u16 0, .int .u16 0, .int .u16 0, .int .u16 0, .int .u8 0, .int .u8 0, .bool false, .bool false, .bool false, .bool false, .int .i64 0] : Array Value) 24)).heap.size = w.heap.size + 2 by simp)
  generalize (w.alloc (.cells cs 24)).alloc (.cells (#[.int .u16 0, .int .u16 0, .int .u16 0, .int .u16 0, .int .u16 0, .int .u16 0, .int .u16 0, .int .u16 0, .int .u16 0, .int .u16 0, .int .u16 0, .int .u16 0, .int .u16 0, .int .u8 0, .int .u8 0, .bool false, .bool false, .bool false, .bool false, .int .i64 0] : Array Value) 24) = W0 at *
  rw [HE.out] at rA
  have rA := Lib.hid rA
  have hltA := rA.out.lt
  have hltZ := rZ.out.lt
  go_wp2_with fail
  refine (kh.out _).mono ?_
  rintro e w2 ⟨rfl, rfl⟩
  have hlk := lkp_no (p := p) hk.out (World.alloc_heap_new W0 (.map (pairEnts p) 4))
  have qA := Lib.hid (rA.out.alloc (.map (pairEnts p) 4))
  have qZ := Lib.hid (rZ.out.alloc (.map (pairEnts p) 4))
  have HB' := Lib.hid (HB.out.alloc HB.out.size (.map (pairEnts p) 4))
  have HW' := Lib.hid (show (W0.alloc (.map (pairEnts p) 4)).heap.size = w.heap.size + 3 by rw [World.size_alloc, HW.out])
  clear HB HW rA rZ
  have HB := HB'
  have HW := HW'
  have rA := qA
  have rZ := qZ
  clear HB' HW' qA qZ
  generalize W0.alloc (.map (pairEnts p) 4) = W1 at *
  generalize W0.heap.size = M at *
  go_upto_region 3 with (fail)
  obtain ⟨ds, hds⟩ : ∃ ds, ds = (#[.int .u16 af, .int .u16 bc, .int .u16 de, .int .u16 hl, .int .u16 af2, .int .u16 bc2, .int .u16 de2, .int .u16 hl2, .int .u16 ix, .int .u16 iy, .int .u16 sp, .int .u16 pc, .int .u16 wz, .int .u8 i, .int .u8 r, .bool iff1, .bool iff2, .bool halted, .bool late, .int .i64 mode] : Array Value) := ⟨_, rfl⟩
  have i24 : Hid ((Tryd.prog.info? 24).map (·.size) = some ds.size) := Lib.hid (by rw [hds]; exact info24)
  have one : Hid (ds.toList.all (·.oneCell') = true) := Lib.hid (by rw [hds]; rfl)
  have hsz : Hid (ds.size = 20) := Lib.hid (by rw [hds]; rfl)
  have HD := Lib.hid hds
  have hR := rA.out
  rw [← hds] at hR
  clear hds
  apply wp_region_lit
  refine wpList_load_row rfl 24 _ rfl _ _ _ rfl hR _ Tryd.underlying24 rfl i24.out ?_
  refine wpList_store_row rfl 24 _ _ rfl (w.heap.size + 1) _ _ ds rfl rfl rZ.out (by rw [hsz.out]; exact Eq.refl 20) i24.out one.out ?_
  have rE := rZ.out.setAll (vs := ds) (by rw [hsz.out]; exact Eq.refl 20)
  have HE9 := Lib.hid (Below.setCellsAll HB.out (b := w.heap.size + 1) (Nat.le_add_right _ _) ds.toList 0)
  generalize W1.setCells (w.heap.size + 1) 0 ds.toList = W9 at *
  apply wpList_nil
  rename_i hret
  refine hret _ _ (wp_ret ?_)
  try simp only [Exit.inBlock, Exit.then]
  refine bodyPost_ret (results_row rfl rfl rE _ Tryd.underlying24 rfl i24.out) rfl ?_
  exact ⟨(congrArg (fun q => Ending.returned (Value.agg q)) HD.out).trans rfl, HE9.out⟩
theorem setPairG_no (g : Rg) (p k v : Int) (h : k < 0 ∨ 3 < k) : setPairG g p k v = g := by
  unfold setPairG
  rw [if_neg (by omega), if_neg (by omega), if_neg (by omega), if_neg (by omega)]
theorem setPairG_2 (g : Rg) (p v : Int) : setPairG g p 2 v = if p = 3 then { g with ix := v } else if p = 4 then { g with iy := v } else { g with hl := v } := rfl
theorem setPair_any (g : Rg) (p k v : Int) (w : World) :
    Calls Tryd.prog 24 #[regsV g, .int .i64 p, .int .i64 k, .int .u16 v] w fun e w' => e = .returned (regsV (setPairG g p k v)) ∧ Below w.heap.size w w' := by
  by_cases hn : k < 0 ∨ 3 < k
  · rw [setPairG_no g p k v hn]
    exact setPair_no g p k v hn w
  obtain rfl | rfl | rfl | rfl : k = 0 ∨ k = 1 ∨ k = 2 ∨ k = 3 := by omega
  · exact setPair_0bc g p v w
  · exact setPair_1de g p v w
  · rw [setPairG_2]
    by_cases h3 : p = 3
    · rw [if_pos h3]
      exact setPair_2ix g p v (thirdF_dd h3) w
    by_cases h4 : p = 4
    · rw [if_neg h3, if_pos h4]
      exact setPair_2iy g p v (thirdF_fd h3 h4) w
    · rw [if_neg h3, if_neg h4]
      exact setPair_2hl g p v (thirdF_hl h3 h4) w
  · exact setPair_3sp g p v w
end Go.Proofs.YtpiadeedgjmmkaaDoor
