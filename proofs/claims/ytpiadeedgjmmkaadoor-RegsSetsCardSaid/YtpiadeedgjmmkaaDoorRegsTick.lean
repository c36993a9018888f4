/- Layer 11 (regs): Tick, of both: contract. Written by tools/regs.py. -/
import Derived.Test.YtpiadeedgjmmkaaDoorRegsPair
import Derived.Test.YtpiadeedgjmmkaaDoorRegsRow
import Derived.BigQuiet
import Derived.Deep.DeepCutAuto
import Derived.Deep.QuietTactic
namespace Go.Proofs.YtpiadeedgjmmkaaDoor
open Go.RowKit
set_option linter.unusedVariables false
set_option linter.unusedSimpArgs false

theorem tmod128 (y : Int) : -127 ≤ y.tmod 128 ∧ y.tmod 128 ≤ 127 ∧ (y.tmod 128) % 128 = y % 128 := by
  rcases Int.lt_or_le y 0 with h | h
  · obtain ⟨z, rfl⟩ : ∃ z, y = -z := ⟨-y, by omega⟩
    rw [Int.neg_tmod, Int.tmod_eq_emod_of_nonneg (by omega)]
    omega
  · rw [Int.tmod_eq_emod_of_nonneg h]
    omega
theorem and127_fin : ∀ x : Fin 256, bits .and .u8 (x.val : Int) 127 = (x.val : Int) % 128 ∧ bits .andNot .u8 (x.val : Int) 127 = (x.val : Int) / 128 * 128 := by decide +kernel
theorem or128_fin : ∀ h : Fin 2, ∀ l : Fin 128, bits .or .u8 ((h.val : Int) * 128) (l.val : Int) = (h.val : Int) * 128 + (l.val : Int) := by decide +kernel
theorem tick_eq (r n : Int) (hr : B8 r) : bits BinOp.or IntKind.u8 (bits BinOp.andNot IntKind.u8 r 127) (bits BinOp.and IntKind.u8 ((r + n) % 256) 127) = tickR r n := by
  have h1 := (byte_all (P := fun x => bits .and .u8 x 127 = x % 128 ∧ bits .andNot .u8 x 127 = x / 128 * 128) and127_fin r hr.1 hr.2).2
  have h2 := (byte_all (P := fun x => bits .and .u8 x 127 = x % 128 ∧ bits .andNot .u8 x 127 = x / 128 * 128) and127_fin ((r + n) % 256) (by omega) (by omega)).1
  obtain ⟨r0, r1⟩ := hr
  have h3 := or128_fin ⟨(r / 128).toNat, by omega⟩ ⟨((r + n) % 128).toNat, by omega⟩
  rw [show ((⟨(r / 128).toNat, by omega⟩ : Fin 2).val : Int) = r / 128 by show ((r / 128).toNat : Int) = _; omega, show ((⟨((r + n) % 128).toNat, by omega⟩ : Fin 128).val : Int) = (r + n) % 128 by show (((r + n) % 128).toNat : Int) = _; omega] at h3
  rw [h1, h2, show (r + n) % 256 % 128 = (r + n) % 128 by omega, h3]
  rfl
theorem rtick_eq (r n : Int) (hr : B8 r) : wrap64 (r / 128 * 128 + (wrap64 ((r % 128 + n.tmod 128).tmod 128 + 128)).tmod 128) % 256 = tickR r n := by
  obtain ⟨r0, r1⟩ := hr
  obtain ⟨a0, a1, a2⟩ := tmod128 n
  obtain ⟨b0, b1, b2⟩ := tmod128 (r % 128 + n.tmod 128)
  rw [IntWalk.wrap64_in ((r % 128 + n.tmod 128).tmod 128 + 128) ⟨by omega, by omega⟩, Int.tmod_eq_emod_of_nonneg (a := (r % 128 + n.tmod 128).tmod 128 + 128) (by omega), IntWalk.wrap64_in _ ⟨by omega, by omega⟩]
  unfold tickR
  omega
set_option maxRecDepth 20000 in
set_option maxHeartbeats 4000000 in
theorem tick_any (g : Rg) (n : Int) (hr : B8 g.r) (w : World) :
    Calls Tryd.prog 16 #[regsV g, .int .i64 n] w fun e w' => e = .returned (regsV (tickG g n)) ∧ Below w.heap.size w w' := by
  obtain ⟨af, bc, de, hl, af2, bc2, de2, hl2, ix, iy, sp, pc, wz, i, r, iff1, iff2, halted, late, mode⟩ := g
  have hr : B8 r := hr
  have HT := Lib.hid (tick_eq r n hr)
  clear hr
  obtain ⟨cs, hcs⟩ : ∃ cs, cs = (#[.int .u16 af, .int .u16 bc, .int .u16 de, .int .u16 hl, .int .u16 af2, .int .u16 bc2, .int .u16 de2, .int .u16 hl2, .int .u16 ix, .int .u16 iy, .int .u16 sp, .int .u16 pc, .int .u16 wz, .int .u8 i, .int .u8 r, .bool iff1, .bool iff2, .bool halted, .bool late, .int .i64 mode] : Array Value) := ⟨_, rfl⟩
  have HE := Lib.hid hcs
  show Calls _ _ #[.agg (#[.int .u16 af, .int .u16 bc, .int .u16 de, .int .u16 hl, .int .u16 af2, .int .u16 bc2, .int .u16 de2, .int .u16 hl2, .int .u16 ix, .int .u16 iy, .int .u16 sp, .int .u16 pc, .int .u16 wz, .int .u8 i, .int .u8 r, .bool iff1, .bool iff2, .bool halted, .bool late, .int .i64 mode] : Array Value), .int .i64 n] _ _
  rw [← hcs]
  clear hcs
  go_enter Tryd.func16, Tryd.ntmps16
  go_upto_region 1 with (fail)
  have rA := (Row.new w 24 cs).alloc (.cells (#[.int .u16 0, .int .u16 0, .int .u16 0, .int .u16 0, .int .u16 0, .int .u16 0, .int .u16 0, .int .u16 0, .int .u16 0, .int .u16 0, .int .u16 0, .int .u16 0, .int .u16 0, .int .u8 0, .int .u8 0, .bool false, .bool false, .bool false, .bool false, .int .i64 0] : Array Value) 24)
  have rZ := Row.new (w.alloc (.cells cs 24)) 24 (#[.int .u16 0, .int .u16 0, .int .u16 0, .int .u16 0, .int .u16 0, .int .u16 0, .int .u16 0, .int .u16 0, .int .u16 0, .int .u16 0, .int .u16 0, .int .u16 0, .int .u16 0, .int .u8 0, .int .u8 0, .bool false, .bool false, .bool false, .bool false, .int .i64 0] : Array Value)
  rw [show (w.alloc (.cells cs 24)).heap.size = w.heap.size + 1 by simp] at rZ
  have rZ := Lib.hid rZ
  have HB := Lib.hid (((Below.refl w.heap.size w).alloc (Nat.le_refl _) (.cells cs 24)).alloc (by simp) (.cells (#[.int .u16 0, .int .u16 0, .int .u16 0, .int .u16 0, .int .u16 0, .int .u16 0, .int .u16 0, .int .u16 0, .int .u16 0, .int .u16 0, .int .u16 0, .int .u16 0, .int .u16 0, .int .u8 0, .int .u8 0, .bool false, .bool false, .bool false, .bool false, .int .i64 0] : Array Value) 24))
  have HW := Lib.hid (show ((w.alloc (.cells cs 24)).alloc (.cells (#[.int .u16 0, .int .u16 0, .int .u16 0, .int .u16 0, .int .u16 0, .int .u16 0, .int .u16 0, .int .u16 0, .int .u16 0, .int .u16 0, .int .u16 0, .int .u16 0, .int .u16 0, .int .u8 0, .int .u8 0, .bool false, .bool false, .bool false, .bool false, .int .i64 0] : Array Value) 24)).heap.size = w.heap.size + 2 by simp)
  generalize (w.alloc (.cells cs 24)).alloc (.cells (#[.int .u16 0, .int .u16 0, .int .u16 0, .int .u16 0, .int .u16 0, .int .u16 0, .int .u16 0, .int .u16 0, .int .u16 0, .int .u16 0, .int .u16 0, .int .u16 0, .int .u16 0, .int .u8 0, .int .u8 0, .bool false, .bool false, .bool false, .bool false, .int .i64 0] : Array Value) 24) = W0 at *
  rw [HE.out] at rA
  have rA := Lib.hid rA
  have hltA := rA.out.lt
  have hltZ := rZ.out.lt
  have lA14 : W0.cell? ⟨w.heap.size, 14, none⟩ = some (.int .u8 r) := rA.out.cell 14
  have fA14 := rA.out.frozen 14
  have qA0 : Row (W0.setCell ⟨w.heap.size, 14, none⟩ (.int .u8 (tickR r n))) (w.heap.size) 24 (#[.int .u16 af, .int .u16 bc, .int .u16 de, .int .u16 hl, .int .u16 af2, .int .u16 bc2, .int .u16 de2, .int .u16 hl2, .int .u16 ix, .int .u16 iy, .int .u16 sp, .int .u16 pc, .int .u16 wz, .int .u8 i, .int .u8 (tickR r n), .bool iff1, .bool iff2, .bool halted, .bool late, .int .i64 mode] : Array Value) := rA.out.set 14 (.int .u8 (tickR r n))
  have qZ0 : Row (W0.setCell ⟨w.heap.size, 14, none⟩ (.int .u8 (tickR r n))) (w.heap.size + 1) 24 (#[.int .u16 0, .int .u16 0, .int .u16 0, .int .u16 0, .int .u16 0, .int .u16 0, .int .u16 0, .int .u16 0, .int .u16 0, .int .u16 0, .int .u16 0, .int .u16 0, .int .u16 0, .int .u8 0, .int .u8 0, .bool false, .bool false, .bool false, .bool false, .int .i64 0] : Array Value) := rZ.out.far (p := ⟨w.heap.size, 14, none⟩) (by simp) (.int .u8 (tickR r n))
  have qA := qA0
  have qZ := qZ0
  clear qA0 qZ0
  have HB' := Lib.hid (HB.out.setCell (p := ⟨w.heap.size, 14, none⟩) (by first | exact Nat.le_refl _ | exact Nat.le_add_right _ _) (.int .u8 (tickR r n)))
  go_upto_region 2 with (fail)
  rw [HT.out]
  clear lA14 fA14 rA rZ HB
  have rA := Lib.hid qA
  have rZ := Lib.hid qZ
  clear qA qZ
  have HB := HB'
  clear HB'
  generalize W0.setCell ⟨w.heap.size, 14, none⟩ (.int .u8 (tickR r n)) = W1 at *
  obtain ⟨ds, hds⟩ : ∃ ds, ds = (#[.int .u16 af, .int .u16 bc, .int .u16 de, .int .u16 hl, .int .u16 af2, .int .u16 bc2, .int .u16 de2, .int .u16 hl2, .int .u16 ix, .int .u16 iy, .int .u16 sp, .int .u16 pc, .int .u16 wz, .int .u8 i, .int .u8 (tickR r n), .bool iff1, .bool iff2, .bool halted, .bool late, .int .i64 mode] : Array Value) := ⟨_, rfl⟩
  have i24 : Hid ((Tryd.prog.info? 24).map (·.size) = some ds.size) := Lib.hid (by rw [hds]; exact info24)
  have one : Hid (ds.toList.all (·.oneCell') = true) := Lib.hid (by rw [hds]; rfl)
  have hsz : Hid (ds.size = 20) := Lib.hid (by rw [hds]; rfl)
  have HD := Lib.hid hds
  have hR := rA.out
  rw [← hds] at hR
  clear hds
  apply wp_region_lit
  refine wpList_load_row rfl 24 _ rfl _ _ _ rfl hR _ Tryd.underlying24 rfl i24.out ?_
  refine wpList_store_row rfl 24 _ _ rfl (w.heap.size + 1) _ _ ds rfl rfl rZ.out (by rw [hsz.out]; exact Eq.refl 20) i24.out one.out ?_
  have rE := rZ.out.setAll (vs := ds) (by rw [hsz.out]; exact Eq.refl 20)
  have HE9 := Lib.hid (Below.setCellsAll HB.out (b := w.heap.size + 1) (Nat.le_add_right _ _) ds.toList 0)
  generalize W1.setCells (w.heap.size + 1) 0 ds.toList = W9 at *
  apply wpList_nil
  rename_i hret
  refine hret _ _ (wp_ret ?_)
  try simp only [Exit.inBlock, Exit.then]
  refine bodyPost_ret (results_row rfl rfl rE _ Tryd.underlying24 rfl i24.out) rfl ?_
  exact ⟨(congrArg (fun q => Ending.returned (Value.agg q)) HD.out).trans rfl, HE9.out⟩
set_option maxRecDepth 20000 in
set_option maxHeartbeats 4000000 in
theorem rtick_any (g : Rg) (n : Int) (hr : B8 g.r) (w : World) :
    Calls Tryd.prog 17 #[regsV g, .int .i64 n] w fun e w' => e = .returned (regsV (tickG g n)) ∧ Below w.heap.size w w' := by
  obtain ⟨af, bc, de, hl, af2, bc2, de2, hl2, ix, iy, sp, pc, wz, i, r, iff1, iff2, halted, late, mode⟩ := g
  have hr : B8 r := hr
  have HT := Lib.hid (rtick_eq r n hr)
  obtain ⟨r0, r1⟩ := hr
  have n0 := (tmod128 n).1
  have n1 := (tmod128 n).2.1
  obtain ⟨cs, hcs⟩ : ∃ cs, cs = (#[.int .u16 af, .int .u16 bc, .int .u16 de, .int .u16 hl, .int .u16 af2, .int .u16 bc2, .int .u16 de2, .int .u16 hl2, .int .u16 ix, .int .u16 iy, .int .u16 sp, .int .u16 pc, .int .u16 wz, .int .u8 i, .int .u8 r, .bool iff1, .bool iff2, .bool halted, .bool late, .int .i64 mode] : Array Value) := ⟨_, rfl⟩
  have HE := Lib.hid hcs
  show Calls _ _ #[.agg (#[.int .u16 af, .int .u16 bc, .int .u16 de, .int .u16 hl, .int .u16 af2, .int .u16 bc2, .int .u16 de2, .int .u16 hl2, .int .u16 ix, .int .u16 iy, .int .u16 sp, .int .u16 pc, .int .u16 wz, .int .u8 i, .int .u8 r, .bool iff1, .bool iff2, .bool halted, .bool late, .int .i64 mode] : Array Value), .int .i64 n] _ _
  rw [← hcs]
  clear hcs
  go_enter Tryd.func17, Tryd.ntmps17
  go_upto_region 1 with (fail)
  have rA := (Row.new w 24 cs).alloc (.cells (#[.int .u16 0, .int .u16 0, .int .u16 0, .int .u16 0, .int .u16 0, .int .u16 0, .int .u16 0, .int .u16 0, .int .u16 0, .int .u16 0, .int .u16 0, .int .u16 0, .int .u16 0, .int .u8 0, .int .u8 0, .bool false, .bool false, .bool false, .bool false, .int .i64 0] : Array Value) 24)
  have rZ := Row.new (w.alloc (.cells cs 24)) 24 (#[.int .u16 0, .int .u16 0, .int .u16 0, .int .u16 0, .int .u16 0, .int .u16 0, .int .u16 0, .int .u16 0, .int .u16 0, .int .u16 0, .int .u16 0, .int .u16 0, .int .u16 0, .int .u8 0, .int .u8 0, .bool false, .bool false, .bool false, .bool false, .int .i64 0] : Array Value)
  rw [show (w.alloc (.cells cs 24)).heap.size = w.heap.size + 1 by simp] at rZ
  have rZ := Lib.hid rZ
  have HB := Lib.hid (((Below.refl w.heap.size w).alloc (Nat.le_refl _) (.cells cs 24)).alloc (by simp) (.cells (#[.int .u16 0, .int .u16 0, .int .u16 0, .int .u16 0, .int .u16 0, .int .u16 0, .int .u16 0, .int .u16 0, .int .u16 0, .int .u16 0, .int .u16 0, .int .u16 0, .int .u16 0, .int .u8 0, .int .u8 0, .bool false, .bool false, .bool false, .bool false, .int .i64 0] : Array Value) 24))
  have HW := Lib.hid (show ((w.alloc (.cells cs 24)).alloc (.cells (#[.int .u16 0, .int .u16 0, .int .u16 0, .int .u16 0, .int .u16 0, .int .u16 0, .int .u16 0, .int .u16 0, .int .u16 0, .int .u16 0, .int .u16 0, .int .u16 0, .int .u16 0, .int .u8 0, .int .u8 0, .bool false, .bool false, .bool false, .bool false, .int .i64 0] : Array Value) 24)).heap.size = w.heap.size + 2 by simp)
  generalize (w.alloc (.cells cs 24)).alloc (.cells (#[.int .u16 0, .int .u16 0, .int .u16 0, .int .u16 0, .int .u16 0, .int .u16 0, .int .u16 0, .int .u16 0, .int .u16 0, .int .u16 0, .int .u16 0, .int .u16 0, .int .u16 0, .int .u8 0, .int .u8 0, .bool false, .bool false, .bool false, .bool false, .int .i64 0] : Array Value) 24) = W0 at *
  rw [HE.out] at rA
  have rA := Lib.hid rA
  have hltA := rA.out.lt
  have hltZ := rZ.out.lt
  have lA14 : W0.cell? ⟨w.heap.size, 14, none⟩ = some (.int .u8 r) := rA.out.cell 14
  have fA14 := rA.out.frozen 14
  have qA0 : Row (W0.setCell ⟨w.heap.size, 14, none⟩ (.int .u8 (tickR r n))) (w.heap.size) 24 (#[.int .u16 af, .int .u16 bc, .int .u16 de, .int .u16 hl, .int .u16 af2, .int .u16 bc2, .int .u16 de2, .int .u16 hl2, .int .u16 ix, .int .u16 iy, .int .u16 sp, .int .u16 pc, .int .u16 wz, .int .u8 i, .int .u8 (tickR r n), .bool iff1, .bool iff2, .bool halted, .bool late, .int .i64 mode] : Array Value) := rA.out.set 14 (.int .u8 (tickR r n))
  have qZ0 : Row (W0.setCell ⟨w.heap.size, 14, none⟩ (.int .u8 (tickR r n))) (w.heap.size + 1) 24 (#[.int .u16 0, .int .u16 0, .int .u16 0, .int .u16 0, .int .u16 0, .int .u16 0, .int .u16 0, .int .u16 0, .int .u16 0, .int .u16 0, .int .u16 0, .int .u16 0, .int .u16 0, .int .u8 0, .int .u8 0, .bool false, .bool false, .bool false, .bool false, .int .i64 0] : Array Value) := rZ.out.far (p := ⟨w.heap.size, 14, none⟩) (by simp) (.int .u8 (tickR r n))
  have qA := qA0
  have qZ := qZ0
  clear qA0 qZ0
  have HB' := Lib.hid (HB.out.setCell (p := ⟨w.heap.size, 14, none⟩) (by first | exact Nat.le_refl _ | exact Nat.le_add_right _ _) (.int .u8 (tickR r n)))
  go_upto_region 3 with (fail)
  rw [HT.out]
  clear lA14 fA14 rA rZ HB
  have rA := Lib.hid qA
  have rZ := Lib.hid qZ
  clear qA qZ
  have HB := HB'
  clear HB'
  generalize W0.setCell ⟨w.heap.size, 14, none⟩ (.int .u8 (tickR r n)) = W1 at *
  obtain ⟨ds, hds⟩ : ∃ ds, ds = (#[.int .u16 af, .int .u16 bc, .int .u16 de, .int .u16 hl, .int .u16 af2, .int .u16 bc2, .int .u16 de2, .int .u16 hl2, .int .u16 ix, .int .u16 iy, .int .u16 sp, .int .u16 pc, .int .u16 wz, .int .u8 i, .int .u8 (tickR r n), .bool iff1, .bool iff2, .bool halted, .bool late, .int .i64 mode] : Array Value) := ⟨_, rfl⟩
  have i24 : Hid ((Tryd.prog.info? 24).map (·.size) = some ds.size) := Lib.hid (by rw [hds]; exact info24)
  have one : Hid (ds.toList.all (·.oneCell') = true) := Lib.hid (by rw [hds]; rfl)
  have hsz : Hid (ds.size = 20) := Lib.hid (by rw [hds]; rfl)
  have HD := Lib.hid hds
  have hR := rA.out
  rw [← hds] at hR
  clear hds
  apply wp_region_lit
  refine wpList_load_row rfl 24 _ rfl _ _ _ rfl hR _ Tryd.underlying24 rfl i24.out ?_
  refine wpList_store_row rfl 24 _ _ rfl (w.heap.size + 1) _ _ ds rfl rfl rZ.out (by rw [hsz.out]; exact Eq.refl 20) i24.out one.out ?_
  have rE := rZ.out.setAll (vs := ds) (by rw [hsz.out]; exact Eq.refl 20)
  have HE9 := Lib.hid (Below.setCellsAll HB.out (b := w.heap.size + 1) (Nat.le_add_right _ _) ds.toList 0)
  generalize W1.setCells (w.heap.size + 1) 0 ds.toList = W9 at *
  apply wpList_nil
  rename_i hret
  refine hret _ _ (wp_ret ?_)
  try simp only [Exit.inBlock, Exit.then]
  refine bodyPost_ret (results_row rfl rfl rE _ Tryd.underlying24 rfl i24.out) rfl ?_
  exact ⟨(congrArg (fun q => Ending.returned (Value.agg q)) HD.out).trans rfl, HE9.out⟩
end Go.Proofs.YtpiadeedgjmmkaaDoor
