/- Layer 11 (regs): the document's own Set: contract. Written by tools/regs.py. -/
import Derived.Test.YtpiadeedgjmmkaaDoorRegsPairR
import Derived.Test.YtpiadeedgjmmkaaDoorRegsStill
import Derived.Test.YtpiadeedgjmmkaaDoorRegsSetPair
import Derived.Test.YtpiadeedgjmmkaaDoorRegsSetter
import Derived.StillTailTactics
import Derived.BigQuiet
import Derived.Deep.DeepCutAuto
import Derived.Deep.QuietTactic
namespace Go.Proofs.YtpiadeedgjmmkaaDoor
open Go.RowKit
set_option linter.unusedVariables false
set_option linter.unusedSimpArgs false

set_option maxRecDepth 20000 in
set_option maxHeartbeats 4000000 in
theorem rset_0 (g : Rg) (p x v : Int) (hx : W16 x) (hv : B8 v) (he : pairG g p 0 = x) (w : World) :
    Calls Tryd.prog 23 #[regsV g, .int .i64 p, .int .i64 0, .int .u8 v] w fun e w' => e = .returned (regsV (setPairG g p 0 (256 * v + x % 256))) ∧ Below w.heap.size w w' := by
  obtain ⟨af, bc, de, hl, af2, bc2, de2, hl2, ix, iy, sp, pc, wz, i, r, iff1, iff2, halted, late, mode⟩ := g
  have kp : Hid (∀ W, Calls Tryd.prog 11 #[.agg (#[.int .u16 af, .int .u16 bc, .int .u16 de, .int .u16 hl, .int .u16 af2, .int .u16 bc2, .int .u16 de2, .int .u16 hl2, .int .u16 ix, .int .u16 iy, .int .u16 sp, .int .u16 pc, .int .u16 wz, .int .u8 i, .int .u8 r, .bool iff1, .bool iff2, .bool halted, .bool late, .int .i64 mode] : Array Value), .int .i64 p, .int .i64 0] W fun e w' => e = .returned (.int .u16 x) ∧ Below W.heap.size W w') := Lib.hid (fun W => by have h := rpair_any ⟨af, bc, de, hl, af2, bc2, de2, hl2, ix, iy, sp, pc, wz, i, r, iff1, iff2, halted, late, mode⟩ p 0 W; rw [he] at h; exact h)
  obtain ⟨ds, hds⟩ : ∃ ds, ds = regsC (setPairG ⟨af, bc, de, hl, af2, bc2, de2, hl2, ix, iy, sp, pc, wz, i, r, iff1, iff2, halted, late, mode⟩ p 0 (256 * v + x % 256)) := ⟨_, rfl⟩
  have ks : Hid (∀ W, Calls Tryd.prog 25 #[.agg (#[.int .u16 af, .int .u16 bc, .int .u16 de, .int .u16 hl, .int .u16 af2, .int .u16 bc2, .int .u16 de2, .int .u16 hl2, .int .u16 ix, .int .u16 iy, .int .u16 sp, .int .u16 pc, .int .u16 wz, .int .u8 i, .int .u8 r, .bool iff1, .bool iff2, .bool halted, .bool late, .int .i64 mode] : Array Value), .int .i64 p, .int .i64 0, .int .u16 (256 * v + x % 256)] W fun e w' => e = .returned (.agg ds) ∧ Below W.heap.size W w') := Lib.hid (fun W => by rw [hds]; exact rsetPair_any ⟨af, bc, de, hl, af2, bc2, de2, hl2, ix, iy, sp, pc, wz, i, r, iff1, iff2, halted, late, mode⟩ p 0 (256 * v + x % 256) W)
  have iD : Hid ((Tryd.prog.info? 24).map (·.size) = some ds.size) := Lib.hid (by rw [hds]; exact info24)
  have oD : Hid (ds.toList.all (·.oneCell') = true) := Lib.hid (by rw [hds]; rfl)
  have sD : Hid (ds.size = 20) := Lib.hid (by rw [hds]; rfl)
  have k1 := Lib.hid (fun w => rlo_any x hx.1 hx.2 w)
  have k2 := Lib.hid (fun w => rword_any v (x % 256) hv.1 hv.2 (by omega) (by omega) w)
  have HD := Lib.hid hds
  clear hds he hx hv
  obtain ⟨cs, hcs⟩ : ∃ cs, cs = (#[.int .u16 af, .int .u16 bc, .int .u16 de, .int .u16 hl, .int .u16 af2, .int .u16 bc2, .int .u16 de2, .int .u16 hl2, .int .u16 ix, .int .u16 iy, .int .u16 sp, .int .u16 pc, .int .u16 wz, .int .u8 i, .int .u8 r, .bool iff1, .bool iff2, .bool halted, .bool late, .int .i64 mode] : Array Value) := ⟨_, rfl⟩
  have HE := Lib.hid hcs
  show Calls _ _ #[.agg (#[.int .u16 af, .int .u16 bc, .int .u16 de, .int .u16 hl, .int .u16 af2, .int .u16 bc2, .int .u16 de2, .int .u16 hl2, .int .u16 ix, .int .u16 iy, .int .u16 sp, .int .u16 pc, .int .u16 wz, .int .u8 i, .int .u8 r, .bool iff1, .bool iff2, .bool halted, .bool late, .int .i64 mode] : Array Value), .int .i64 p, .int .i64 0, .int .u8 v] _ _
  rw [← hcs]
  clear hcs
  go_enter Tryd.func23, Tryd.ntmps23
  go_upto_region 1 with (fail)
  have rA := (Row.new w 24 cs).alloc (.cells (#[.int .u16 0, .int .u16 0, .int .u16 0, .int .u16 0, .int .u16 0, .int .u16 0, .int .u16 0, .int .u16 0, .int .u16 0, .int .u16 0, .int .u16 0, .int .u16 0, .int .u16 0, .int .u8 0, .int .u8 0, .bool false, .bool false, .bool false, .bool false, .int .i64 0] : Array Value) 24)
  have rZ := Row.new (w.alloc (.cells cs 24)) 24 (#[.int .u16 0, .int .u16 0, .int .u16 0, .int .u16 0, .int .u16 0, .int .u16 0, .int .u16 0, .int .u16 0, .int .u16 0, .int .u16 0, .int .u16 0, .int .u16 0, .int .u16 0, .int .u8 0, .int .u8 0, .bool false, .bool false, .bool false, .bool false, .int .i64 0] : Array Value)
  rw [show (w.alloc (.cells cs 24)).heap.size = w.heap.size + 1 by simp] at rZ
  have rZ := Lib.hid rZ
  have HB := Lib.hid (((Below.refl w.heap.size w).alloc (Nat.le_refl _) (.cells cs 24)).alloc (by simp) (.cells (#[.int .u16 0, .int .u16 0, .int .u16 0, .int .u16 0, .int .u16 0, .int .u16 0, .int .u16 0, .int .u16 0, .int .u16 0, .int .u16 0, .int .u16 0, .int .u16 0, .int .u16 0, .int .u8 0, .int .u8 0, .bool false, .bool false, .bool false, .bool false, .int .i64 0] : Array Value) 24))
  have HW := Lib.hid (show ((w.alloc (.cells cs 24)).alloc (.cells (#[.int .u16 0, .int .u16 0, .int .u16 0, .int .u16 0, .int .u16 0, .int .u16 0, .int .u16 0, .int .u16 0, .int .u16 0, .int .u16 0, .int .u16 0, .int .u16 0, .int .u16 0, .int .u8 0, .int .u8 0, .bool false, .bool false, .bool false, .bool false, .int .i64 0] : Array Value) 24)).heap.size = w.heap.size + 2 by simp)
  generalize (w.alloc (.cells cs 24)).alloc (.cells (#[.int .u16 0, .int .u16 0, .int .u16 0, .int .u16 0, .int .u16 0, .int .u16 0, .int .u16 0, .int .u16 0, .int .u16 0, .int .u16 0, .int .u16 0, .int .u16 0, .int .u16 0, .int .u8 0, .int .u8 0, .bool false, .bool false, .bool false, .bool false, .int .i64 0] : Array Value) 24) = W0 at *
  rw [HE.out] at rA
  have rA := Lib.hid rA
  have hltA := rA.out.lt
  have hltZ := rZ.out.lt
  have hA := rA.out
  rw [← HE.out] at hA kp ks
  have iC : Hid ((Tryd.prog.info? 24).map (·.size) = some cs.size) := Lib.hid (by rw [HE.out]; exact info24)
  clear rA HE HW hltA hltZ
  go_upto_region 8 with (first
    | (refine wpList_load_row rfl 24 _ rfl _ _ _ rfl hA _ Tryd.underlying24 rfl iC.out ?_)
    | (go_at_call 11; refine (kp.out _).mono ?_; rintro e w1 ⟨rfl, hb⟩; have HB2 := Lib.hid (HB.out.trans (hb.mono HB.out.size)); have hA2 := hA.below hb hA.lt; have rZ2 := Lib.hid (rZ.out.below hb rZ.out.lt); clear hb hA rZ HB kp))
  have hA3 : Row w1.drew w.heap.size 24 cs := hA2
  refine wp_region_still_tail 8 (by kernel_rfl) (by kernel_rfl) ?_
  simp only [List.take_succ_cons, List.take_zero, List.drop_succ_cons, List.drop_zero]
  refine wpStill_load_row rfl 24 _ rfl _ _ cs rfl hA3 _ Tryd.underlying24 rfl iC.out ?_
  repeat still_step
  still_call ((k1.out _).mono fun e w' h => ⟨h.1, h.2.symm⟩)
  repeat still_step
  still_call ((k2.out _).mono fun e w' h => ⟨h.1, h.2.symm⟩)
  repeat still_step
  refine wpStill_nil ?_
  change wpList _ _ _ _ _ w1.drew
  clear hA3 k1 k2
  have rZ : Hid (Row w1.drew (w.heap.size + 1) 24 (#[.int .u16 0, .int .u16 0, .int .u16 0, .int .u16 0, .int .u16 0, .int .u16 0, .int .u16 0, .int .u16 0, .int .u16 0, .int .u16 0, .int .u16 0, .int .u16 0, .int .u16 0, .int .u8 0, .int .u8 0, .bool false, .bool false, .bool false, .bool false, .int .i64 0] : Array Value)) := Lib.hid rZ2.out
  have HB := Lib.hid HB2.out.drew
  clear rZ2 HB2 hA2 iC
  generalize w1.drew = W2 at *
  go_wp2_with fail
  refine (ks.out _).mono ?_
  rintro e w3 ⟨rfl, hb⟩
  have HB2 := Lib.hid (HB.out.trans (hb.mono HB.out.size))
  have rZ2 := rZ.out.below hb rZ.out.lt
  clear hb rZ HB ks
  have rE := rZ2.setAll (vs := ds) (by rw [sD.out]; exact Eq.refl 20)
  have HE9 := Lib.hid (Below.setCellsAll HB2.out (b := w.heap.size + 1) (Nat.le_add_right _ _) ds.toList 0)
  go_wp2_with (first
    | (refine wpList_store_row rfl 24 _ _ rfl (w.heap.size + 1) _ _ ds rfl rfl rZ2 (by rw [sD.out]; exact Eq.refl 20) iD.out oD.out ?_; generalize w3.setCells (w.heap.size + 1) 0 ds.toList = W9 at *))
  try simp only [Exit.inBlock, Exit.then]
  refine bodyPost_ret (results_row rfl rfl rE _ Tryd.underlying24 rfl iD.out) rfl ?_
  exact ⟨congrArg (fun q => Ending.returned (Value.agg q)) HD.out, HE9.out⟩
set_option maxRecDepth 20000 in
set_option maxHeartbeats 4000000 in
theorem rset_1 (g : Rg) (p x v : Int) (hx : W16 x) (hv : B8 v) (he : pairG g p 0 = x) (w : World) :
    Calls Tryd.prog 23 #[regsV g, .int .i64 p, .int .i64 1, .int .u8 v] w fun e w' => e = .returned (regsV (setPairG g p 0 (256 * (x / 256) + v))) ∧ Below w.heap.size w w' := by
  obtain ⟨af, bc, de, hl, af2, bc2, de2, hl2, ix, iy, sp, pc, wz, i, r, iff1, iff2, halted, late, mode⟩ := g
  have kp : Hid (∀ W, Calls Tryd.prog 11 #[.agg (#[.int .u16 af, .int .u16 bc, .int .u16 de, .int .u16 hl, .int .u16 af2, .int .u16 bc2, .int .u16 de2, .int .u16 hl2, .int .u16 ix, .int .u16 iy, .int .u16 sp, .int .u16 pc, .int .u16 wz, .int .u8 i, .int .u8 r, .bool iff1, .bool iff2, .bool halted, .bool late, .int .i64 mode] : Array Value), .int .i64 p, .int .i64 0] W fun e w' => e = .returned (.int .u16 x) ∧ Below W.heap.size W w') := Lib.hid (fun W => by have h := rpair_any ⟨af, bc, de, hl, af2, bc2, de2, hl2, ix, iy, sp, pc, wz, i, r, iff1, iff2, halted, late, mode⟩ p 0 W; rw [he] at h; exact h)
  obtain ⟨ds, hds⟩ : ∃ ds, ds = regsC (setPairG ⟨af, bc, de, hl, af2, bc2, de2, hl2, ix, iy, sp, pc, wz, i, r, iff1, iff2, halted, late, mode⟩ p 0 (256 * (x / 256) + v)) := ⟨_, rfl⟩
  have ks : Hid (∀ W, Calls Tryd.prog 25 #[.agg (#[.int .u16 af, .int .u16 bc, .int .u16 de, .int .u16 hl, .int .u16 af2, .int .u16 bc2, .int .u16 de2, .int .u16 hl2, .int .u16 ix, .int .u16 iy, .int .u16 sp, .int .u16 pc, .int .u16 wz, .int .u8 i, .int .u8 r, .bool iff1, .bool iff2, .bool halted, .bool late, .int .i64 mode] : Array Value), .int .i64 p, .int .i64 0, .int .u16 (256 * (x / 256) + v)] W fun e w' => e = .returned (.agg ds) ∧ Below W.heap.size W w') := Lib.hid (fun W => by rw [hds]; exact rsetPair_any ⟨af, bc, de, hl, af2, bc2, de2, hl2, ix, iy, sp, pc, wz, i, r, iff1, iff2, halted, late, mode⟩ p 0 (256 * (x / 256) + v) W)
  have iD : Hid ((Tryd.prog.info? 24).map (·.size) = some ds.size) := Lib.hid (by rw [hds]; exact info24)
  have oD : Hid (ds.toList.all (·.oneCell') = true) := Lib.hid (by rw [hds]; rfl)
  have sD : Hid (ds.size = 20) := Lib.hid (by rw [hds]; rfl)
  have k1 := Lib.hid (fun w => rhi_any x hx.1 hx.2 w)
  have k2 := Lib.hid (fun w => rword_any (x / 256) v (by have := hx.1; omega) (by have := hx.2; omega) hv.1 hv.2 w)
  have HD := Lib.hid hds
  clear hds he hx hv
  obtain ⟨cs, hcs⟩ : ∃ cs, cs = (#[.int .u16 af, .int .u16 bc, .int .u16 de, .int .u16 hl, .int .u16 af2, .int .u16 bc2, .int .u16 de2, .int .u16 hl2, .int .u16 ix, .int .u16 iy, .int .u16 sp, .int .u16 pc, .int .u16 wz, .int .u8 i, .int .u8 r, .bool iff1, .bool iff2, .bool halted, .bool late, .int .i64 mode] : Array Value) := ⟨_, rfl⟩
  have HE := Lib.hid hcs
  show Calls _ _ #[.agg (#[.int .u16 af, .int .u16 bc, .int .u16 de, .int .u16 hl, .int .u16 af2, .int .u16 bc2, .int .u16 de2, .int .u16 hl2, .int .u16 ix, .int .u16 iy, .int .u16 sp, .int .u16 pc, .int .u16 wz, .int .u8 i, .int .u8 r, .bool iff1, .bool iff2, .bool halted, .bool late, .int .i64 mode] : Array Value), .int .i64 p, .int .i64 1, .int .u8 v] _ _
  rw [← hcs]
  clear hcs
  go_enter Tryd.func23, Tryd.ntmps23
  go_upto_region 1 with (fail)
  have rA := (Row.new w 24 cs).alloc (.cells (#[.int .u16 0, .int .u16 0, .int .u16 0, .int .u16 0, .int .u16 0, .int .u16 0, .int .u16 0, .int .u16 0, .int .u16 0, .int .u16 0, .int .u16 0, .int .u16 0, .int .u16 0, .int .u8 0, .int .u8 0, .bool false, .bool false, .bool false, .bool false, .int .i64 0] : Array Value) 24)
  have rZ := Row.new (w.alloc (.cells cs 24)) 24 (#[.int .u16 0, .int .u16 0, .int .u16 0, .int .u16 0, .int .u16 0, .int .u16 0, .int .u16 0, .int .u16 0, .int .u16 0, .int .u16 0, .int .u16 0, .int .u16 0, .int .u16 0, .int .u8 0, .int .u8 0, .bool false, .bool false, .bool false, .bool false, .int .i64 0] : Array Value)
  rw [show (w.alloc (.cells cs 24)).heap.size = w.heap.size + 1 by simp] at rZ
  have rZ := Lib.hid rZ
  have HB := Lib.hid (((Below.refl w.heap.size w).alloc (Nat.le_refl _) (.cells cs 24)).alloc (by simp) (.cells (#[.int .u16 0, .int .u16 0, .int .u16 0, .int .u16 0, .int .u16 0, .int .u16 0, .int .u16 0, .int .u16 0, .int .u16 0, .int .u16 0, .int .u16 0, .int .u16 0, .int .u16 0, .int .u8 0, .int .u8 0, .bool false, .bool false, .bool false, .bool false, .int .i64 0] : Array Value) 24))
  have HW := Lib.hid (show ((w.alloc (.cells cs 24)).alloc (.cells (#[.int .u16 0, .int .u16 0, .int .u16 0, .int .u16 0, .int .u16 0, .int .u16 0, .int .u16 0, .int .u16 0, .int .u16 0, .int .u16 0, .int .u16 0, .int .u16 0, .int .u16 0, .int .u8 0, .int .u8 0, .bool false, .bool false, .bool false, .bool false, .int .i64 0] : Array Value) 24)).heap.size = w.heap.size + 2 by simp)
  generalize (w.alloc (.cells cs 24)).alloc (.cells (#[.int .u16 0, .int .u16 0, .int .u16 0, .int .u16 0, .int .u16 0, .int .u16 0, .int .u16 0, .int .u16 0, .int .u16 0, .int .u16 0, .int .u16 0, .int .u16 0, .int .u16 0, .int .u8 0, .int .u8 0, .bool false, .bool false, .bool false, .bool false, .int .i64 0] : Array Value) 24) = W0 at *
  rw [HE.out] at rA
  have rA := Lib.hid rA
  have hltA := rA.out.lt
  have hltZ := rZ.out.lt
  have hA := rA.out
  rw [← HE.out] at hA kp ks
  have iC : Hid ((Tryd.prog.info? 24).map (·.size) = some cs.size) := Lib.hid (by rw [HE.out]; exact info24)
  clear rA HE HW hltA hltZ
  go_upto_region 9 with (first
    | (refine wpList_load_row rfl 24 _ rfl _ _ _ rfl hA _ Tryd.underlying24 rfl iC.out ?_)
    | (go_at_call 11; refine (kp.out _).mono ?_; rintro e w1 ⟨rfl, hb⟩; have HB2 := Lib.hid (HB.out.trans (hb.mono HB.out.size)); have hA2 := hA.below hb hA.lt; have rZ2 := Lib.hid (rZ.out.below hb rZ.out.lt); clear hb hA rZ HB kp))
  have hA3 : Row w1.drew w.heap.size 24 cs := hA2
  refine wp_region_still_tail 8 (by kernel_rfl) (by kernel_rfl) ?_
  simp only [List.take_succ_cons, List.take_zero, List.drop_succ_cons, List.drop_zero]
  refine wpStill_load_row rfl 24 _ rfl _ _ cs rfl hA3 _ Tryd.underlying24 rfl iC.out ?_
  repeat still_step
  still_call ((k1.out _).mono fun e w' h => ⟨h.1, h.2.symm⟩)
  repeat still_step
  still_call ((k2.out _).mono fun e w' h => ⟨h.1, h.2.symm⟩)
  repeat still_step
  refine wpStill_nil ?_
  change wpList _ _ _ _ _ w1.drew
  clear hA3 k1 k2
  have rZ : Hid (Row w1.drew (w.heap.size + 1) 24 (#[.int .u16 0, .int .u16 0, .int .u16 0, .int .u16 0, .int .u16 0, .int .u16 0, .int .u16 0, .int .u16 0, .int .u16 0, .int .u16 0, .int .u16 0, .int .u16 0, .int .u16 0, .int .u8 0, .int .u8 0, .bool false, .bool false, .bool false, .bool false, .int .i64 0] : Array Value)) := Lib.hid rZ2.out
  have HB := Lib.hid HB2.out.drew
  clear rZ2 HB2 hA2 iC
  generalize w1.drew = W2 at *
  go_wp2_with fail
  refine (ks.out _).mono ?_
  rintro e w3 ⟨rfl, hb⟩
  have HB2 := Lib.hid (HB.out.trans (hb.mono HB.out.size))
  have rZ2 := rZ.out.below hb rZ.out.lt
  clear hb rZ HB ks
  have rE := rZ2.setAll (vs := ds) (by rw [sD.out]; exact Eq.refl 20)
  have HE9 := Lib.hid (Below.setCellsAll HB2.out (b := w.heap.size + 1) (Nat.le_add_right _ _) ds.toList 0)
  go_wp2_with (first
    | (refine wpList_store_row rfl 24 _ _ rfl (w.heap.size + 1) _ _ ds rfl rfl rZ2 (by rw [sD.out]; exact Eq.refl 20) iD.out oD.out ?_; generalize w3.setCells (w.heap.size + 1) 0 ds.toList = W9 at *))
  try simp only [Exit.inBlock, Exit.then]
  refine bodyPost_ret (results_row rfl rfl rE _ Tryd.underlying24 rfl iD.out) rfl ?_
  exact ⟨congrArg (fun q => Ending.returned (Value.agg q)) HD.out, HE9.out⟩
set_option maxRecDepth 20000 in
set_option maxHeartbeats 4000000 in
theorem rset_2 (g : Rg) (p x v : Int) (hx : W16 x) (hv : B8 v) (he : pairG g p 1 = x) (w : World) :
    Calls Tryd.prog 23 #[regsV g, .int .i64 p, .int .i64 2, .int .u8 v] w fun e w' => e = .returned (regsV (setPairG g p 1 (256 * v + x % 256))) ∧ Below w.heap.size w w' := by
  obtain ⟨af, bc, de, hl, af2, bc2, de2, hl2, ix, iy, sp, pc, wz, i, r, iff1, iff2, halted, late, mode⟩ := g
  have kp : Hid (∀ W, Calls Tryd.prog 11 #[.agg (#[.int .u16 af, .int .u16 bc, .int .u16 de, .int .u16 hl, .int .u16 af2, .int .u16 bc2, .int .u16 de2, .int .u16 hl2, .int .u16 ix, .int .u16 iy, .int .u16 sp, .int .u16 pc, .int .u16 wz, .int .u8 i, .int .u8 r, .bool iff1, .bool iff2, .bool halted, .bool late, .int .i64 mode] : Array Value), .int .i64 p, .int .i64 1] W fun e w' => e = .returned (.int .u16 x) ∧ Below W.heap.size W w') := Lib.hid (fun W => by have h := rpair_any ⟨af, bc, de, hl, af2, bc2, de2, hl2, ix, iy, sp, pc, wz, i, r, iff1, iff2, halted, late, mode⟩ p 1 W; rw [he] at h; exact h)
  obtain ⟨ds, hds⟩ : ∃ ds, ds = regsC (setPairG ⟨af, bc, de, hl, af2, bc2, de2, hl2, ix, iy, sp, pc, wz, i, r, iff1, iff2, halted, late, mode⟩ p 1 (256 * v + x % 256)) := ⟨_, rfl⟩
  have ks : Hid (∀ W, Calls Tryd.prog 25 #[.agg (#[.int .u16 af, .int .u16 bc, .int .u16 de, .int .u16 hl, .int .u16 af2, .int .u16 bc2, .int .u16 de2, .int .u16 hl2, .int .u16 ix, .int .u16 iy, .int .u16 sp, .int .u16 pc, .int .u16 wz, .int .u8 i, .int .u8 r, .bool iff1, .bool iff2, .bool halted, .bool late, .int .i64 mode] : Array Value), .int .i64 p, .int .i64 1, .int .u16 (256 * v + x % 256)] W fun e w' => e = .returned (.agg ds) ∧ Below W.heap.size W w') := Lib.hid (fun W => by rw [hds]; exact rsetPair_any ⟨af, bc, de, hl, af2, bc2, de2, hl2, ix, iy, sp, pc, wz, i, r, iff1, iff2, halted, late, mode⟩ p 1 (256 * v + x % 256) W)
  have iD : Hid ((Tryd.prog.info? 24).map (·.size) = some ds.size) := Lib.hid (by rw [hds]; exact info24)
  have oD : Hid (ds.toList.all (·.oneCell') = true) := Lib.hid (by rw [hds]; rfl)
  have sD : Hid (ds.size = 20) := Lib.hid (by rw [hds]; rfl)
  have k1 := Lib.hid (fun w => rlo_any x hx.1 hx.2 w)
  have k2 := Lib.hid (fun w => rword_any v (x % 256) hv.1 hv.2 (by omega) (by omega) w)
  have HD := Lib.hid hds
  clear hds he hx hv
  obtain ⟨cs, hcs⟩ : ∃ cs, cs = (#[.int .u16 af, .int .u16 bc, .int .u16 de, .int .u16 hl, .int .u16 af2, .int .u16 bc2, .int .u16 de2, .int .u16 hl2, .int .u16 ix, .int .u16 iy, .int .u16 sp, .int .u16 pc, .int .u16 wz, .int .u8 i, .int .u8 r, .bool iff1, .bool iff2, .bool halted, .bool late, .int .i64 mode] : Array Value) := ⟨_, rfl⟩
  have HE := Lib.hid hcs
  show Calls _ _ #[.agg (#[.int .u16 af, .int .u16 bc, .int .u16 de, .int .u16 hl, .int .u16 af2, .int .u16 bc2, .int .u16 de2, .int .u16 hl2, .int .u16 ix, .int .u16 iy, .int .u16 sp, .int .u16 pc, .int .u16 wz, .int .u8 i, .int .u8 r, .bool iff1, .bool iff2, .bool halted, .bool late, .int .i64 mode] : Array Value), .int .i64 p, .int .i64 2, .int .u8 v] _ _
  rw [← hcs]
  clear hcs
  go_enter Tryd.func23, Tryd.ntmps23
  go_upto_region 1 with (fail)
  have rA := (Row.new w 24 cs).alloc (.cells (#[.int .u16 0, .int .u16 0, .int .u16 0, .int .u16 0, .int .u16 0, .int .u16 0, .int .u16 0, .int .u16 0, .int .u16 0, .int .u16 0, .int .u16 0, .int .u16 0, .int .u16 0, .int .u8 0, .int .u8 0, .bool false, .bool false, .bool false, .bool false, .int .i64 0] : Array Value) 24)
  have rZ := Row.new (w.alloc (.cells cs 24)) 24 (#[.int .u16 0, .int .u16 0, .int .u16 0, .int .u16 0, .int .u16 0, .int .u16 0, .int .u16 0, .int .u16 0, .int .u16 0, .int .u16 0, .int .u16 0, .int .u16 0, .int .u16 0, .int .u8 0, .int .u8 0, .bool false, .bool false, .bool false, .bool false, .int .i64 0] : Array Value)
  rw [show (w.alloc (.cells cs 24)).heap.size = w.heap.size + 1 by simp] at rZ
  have rZ := Lib.hid rZ
  have HB := Lib.hid (((Below.refl w.heap.size w).alloc (Nat.le_refl _) (.cells cs 24)).alloc (by simp) (.cells (#[.int .u16 0, .int .u16 0, .int .u16 0, .int .u16 0, .int .u16 0, .int .u16 0, .int .u16 0, .int .u16 0, .int .u16 0, .int .u16 0, .int .u16 0, .int .u16 0, .int .u16 0, .int .u8 0, .int .u8 0, .bool false, .bool false, .bool false, .bool false, .int .i64 0] : Array Value) 24))
  have HW := Lib.hid (show ((w.alloc (.cells cs 24)).alloc (.cells (#[.int .u16 0, .int .u16 0, .int .u16 0, .int .u16 0, .int .u16 0, .int .u16 0, .int .u16 0, .int .u16 0, .int .u16 0, .int .u16 0, .int .u16 0, .int .u16 0, .int .u16 0, .int .u8 0, .int .u8 0, .bool false, .bool false, .bool false, .bool false, .int .i64 0] : Array Value) 24)).heap.size = w.heap.size + 2 by simp)
  generalize (w.alloc (.cells cs 24)).alloc (.cells (#[.int .u16 0, .int .u16 0, .int .u16 0, .int .u16 0, .int .u16 0, .int .u16 0, .int .u16 0, .int .u16 0, .int .u16 0, .int .u16 0, .int .u16 0, .int .u16 0, .int .u16 0, .int .u8 0, .int .u8 0, .bool false, .bool false, .bool false, .bool false, .int .i64 0] : Array Value) 24) = W0 at *
  rw [HE.out] at rA
  have rA := Lib.hid rA
  have hltA := rA.out.lt
  have hltZ := rZ.out.lt
  have hA := rA.out
  rw [← HE.out] at hA kp ks
  have iC : Hid ((Tryd.prog.info? 24).map (·.size) = some cs.size) := Lib.hid (by rw [HE.out]; exact info24)
  clear rA HE HW hltA hltZ
  go_upto_region 8 with (first
    | (refine wpList_load_row rfl 24 _ rfl _ _ _ rfl hA _ Tryd.underlying24 rfl iC.out ?_)
    | (go_at_call 11; refine (kp.out _).mono ?_; rintro e w1 ⟨rfl, hb⟩; have HB2 := Lib.hid (HB.out.trans (hb.mono HB.out.size)); have hA2 := hA.below hb hA.lt; have rZ2 := Lib.hid (rZ.out.below hb rZ.out.lt); clear hb hA rZ HB kp))
  have hA3 : Row w1.drew w.heap.size 24 cs := hA2
  refine wp_region_still_tail 8 (by kernel_rfl) (by kernel_rfl) ?_
  simp only [List.take_succ_cons, List.take_zero, List.drop_succ_cons, List.drop_zero]
  refine wpStill_load_row rfl 24 _ rfl _ _ cs rfl hA3 _ Tryd.underlying24 rfl iC.out ?_
  repeat still_step
  still_call ((k1.out _).mono fun e w' h => ⟨h.1, h.2.symm⟩)
  repeat still_step
  still_call ((k2.out _).mono fun e w' h => ⟨h.1, h.2.symm⟩)
  repeat still_step
  refine wpStill_nil ?_
  change wpList _ _ _ _ _ w1.drew
  clear hA3 k1 k2
  have rZ : Hid (Row w1.drew (w.heap.size + 1) 24 (#[.int .u16 0, .int .u16 0, .int .u16 0, .int .u16 0, .int .u16 0, .int .u16 0, .int .u16 0, .int .u16 0, .int .u16 0, .int .u16 0, .int .u16 0, .int .u16 0, .int .u16 0, .int .u8 0, .int .u8 0, .bool false, .bool false, .bool false, .bool false, .int .i64 0] : Array Value)) := Lib.hid rZ2.out
  have HB := Lib.hid HB2.out.drew
  clear rZ2 HB2 hA2 iC
  generalize w1.drew = W2 at *
  go_wp2_with fail
  refine (ks.out _).mono ?_
  rintro e w3 ⟨rfl, hb⟩
  have HB2 := Lib.hid (HB.out.trans (hb.mono HB.out.size))
  have rZ2 := rZ.out.below hb rZ.out.lt
  clear hb rZ HB ks
  have rE := rZ2.setAll (vs := ds) (by rw [sD.out]; exact Eq.refl 20)
  have HE9 := Lib.hid (Below.setCellsAll HB2.out (b := w.heap.size + 1) (Nat.le_add_right _ _) ds.toList 0)
  go_wp2_with (first
    | (refine wpList_store_row rfl 24 _ _ rfl (w.heap.size + 1) _ _ ds rfl rfl rZ2 (by rw [sD.out]; exact Eq.refl 20) iD.out oD.out ?_; generalize w3.setCells (w.heap.size + 1) 0 ds.toList = W9 at *))
  try simp only [Exit.inBlock, Exit.then]
  refine bodyPost_ret (results_row rfl rfl rE _ Tryd.underlying24 rfl iD.out) rfl ?_
  exact ⟨congrArg (fun q => Ending.returned (Value.agg q)) HD.out, HE9.out⟩
set_option maxRecDepth 20000 in
set_option maxHeartbeats 4000000 in
theorem rset_3 (g : Rg) (p x v : Int) (hx : W16 x) (hv : B8 v) (he : pairG g p 1 = x) (w : World) :
    Calls Tryd.prog 23 #[regsV g, .int .i64 p, .int .i64 3, .int .u8 v] w fun e w' => e = .returned (regsV (setPairG g p 1 (256 * (x / 256) + v))) ∧ Below w.heap.size w w' := by
  obtain ⟨af, bc, de, hl, af2, bc2, de2, hl2, ix, iy, sp, pc, wz, i, r, iff1, iff2, halted, late, mode⟩ := g
  have kp : Hid (∀ W, Calls Tryd.prog 11 #[.agg (#[.int .u16 af, .int .u16 bc, .int .u16 de, .int .u16 hl, .int .u16 af2, .int .u16 bc2, .int .u16 de2, .int .u16 hl2, .int .u16 ix, .int .u16 iy, .int .u16 sp, .int .u16 pc, .int .u16 wz, .int .u8 i, .int .u8 r, .bool iff1, .bool iff2, .bool halted, .bool late, .int .i64 mode] : Array Value), .int .i64 p, .int .i64 1] W fun e w' => e = .returned (.int .u16 x) ∧ Below W.heap.size W w') := Lib.hid (fun W => by have h := rpair_any ⟨af, bc, de, hl, af2, bc2, de2, hl2, ix, iy, sp, pc, wz, i, r, iff1, iff2, halted, late, mode⟩ p 1 W; rw [he] at h; exact h)
  obtain ⟨ds, hds⟩ : ∃ ds, ds = regsC (setPairG ⟨af, bc, de, hl, af2, bc2, de2, hl2, ix, iy, sp, pc, wz, i, r, iff1, iff2, halted, late, mode⟩ p 1 (256 * (x / 256) + v)) := ⟨_, rfl⟩
  have ks : Hid (∀ W, Calls Tryd.prog 25 #[.agg (#[.int .u16 af, .int .u16 bc, .int .u16 de, .int .u16 hl, .int .u16 af2, .int .u16 bc2, .int .u16 de2, .int .u16 hl2, .int .u16 ix, .int .u16 iy, .int .u16 sp, .int .u16 pc, .int .u16 wz, .int .u8 i, .int .u8 r, .bool iff1, .bool iff2, .bool halted, .bool late, .int .i64 mode] : Array Value), .int .i64 p, .int .i64 1, .int .u16 (256 * (x / 256) + v)] W fun e w' => e = .returned (.agg ds) ∧ Below W.heap.size W w') := Lib.hid (fun W => by rw [hds]; exact rsetPair_any ⟨af, bc, de, hl, af2, bc2, de2, hl2, ix, iy, sp, pc, wz, i, r, iff1, iff2, halted, late, mode⟩ p 1 (256 * (x / 256) + v) W)
  have iD : Hid ((Tryd.prog.info? 24).map (·.size) = some ds.size) := Lib.hid (by rw [hds]; exact info24)
  have oD : Hid (ds.toList.all (·.oneCell') = true) := Lib.hid (by rw [hds]; rfl)
  have sD : Hid (ds.size = 20) := Lib.hid (by rw [hds]; rfl)
  have k1 := Lib.hid (fun w => rhi_any x hx.1 hx.2 w)
  have k2 := Lib.hid (fun w => rword_any (x / 256) v (by have := hx.1; omega) (by have := hx.2; omega) hv.1 hv.2 w)
  have HD := Lib.hid hds
  clear hds he hx hv
  obtain ⟨cs, hcs⟩ : ∃ cs, cs = (#[.int .u16 af, .int .u16 bc, .int .u16 de, .int .u16 hl, .int .u16 af2, .int .u16 bc2, .int .u16 de2, .int .u16 hl2, .int .u16 ix, .int .u16 iy, .int .u16 sp, .int .u16 pc, .int .u16 wz, .int .u8 i, .int .u8 r, .bool iff1, .bool iff2, .bool halted, .bool late, .int .i64 mode] : Array Value) := ⟨_, rfl⟩
  have HE := Lib.hid hcs
  show Calls _ _ #[.agg (#[.int .u16 af, .int .u16 bc, .int .u16 de, .int .u16 hl, .int .u16 af2, .int .u16 bc2, .int .u16 de2, .int .u16 hl2, .int .u16 ix, .int .u16 iy, .int .u16 sp, .int .u16 pc, .int .u16 wz, .int .u8 i, .int .u8 r, .bool iff1, .bool iff2, .bool halted, .bool late, .int .i64 mode] : Array Value), .int .i64 p, .int .i64 3, .int .u8 v] _ _
  rw [← hcs]
  clear hcs
  go_enter Tryd.func23, Tryd.ntmps23
  go_upto_region 1 with (fail)
  have rA := (Row.new w 24 cs).alloc (.cells (#[.int .u16 0, .int .u16 0, .int .u16 0, .int .u16 0, .int .u16 0, .int .u16 0, .int .u16 0, .int .u16 0, .int .u16 0, .int .u16 0, .int .u16 0, .int .u16 0, .int .u16 0, .int .u8 0, .int .u8 0, .bool false, .bool false, .bool false, .bool false, .int .i64 0] : Array Value) 24)
  have rZ := Row.new (w.alloc (.cells cs 24)) 24 (#[.int .u16 0, .int .u16 0, .int .u16 0, .int .u16 0, .int .u16 0, .int .u16 0, .int .u16 0, .int .u16 0, .int .u16 0, .int .u16 0, .int .u16 0, .int .u16 0, .int .u16 0, .int .u8 0, .int .u8 0, .bool false, .bool false, .bool false, .bool false, .int .i64 0] : Array Value)
  rw [show (w.alloc (.cells cs 24)).heap.size = w.heap.size + 1 by simp] at rZ
  have rZ := Lib.hid rZ
  have HB := Lib.hid (((Below.refl w.heap.size w).alloc (Nat.le_refl _) (.cells cs 24)).alloc (by simp) (.cells (#[.int .u16 0, .int .u16 0, .int .u16 0, .int .u16 0, .int .u16 0, .int .u16 0, .int .u16 0, .int .u16 0, .int .u16 0, .int .u16 0, .int .u16 0, .int .u16 0, .int .u16 0, .int .u8 0, .int .u8 0, .bool false, .bool false, .bool false, .bool false, .int .i64 0] : Array Value) 24))
  have HW := Lib.hid (show ((w.alloc (.cells cs 24)).alloc (.cells (#[.int .u16 0, .int .u16 0, .int .u16 0, .int .u16 0, .int .u16 0, .int .u16 0, .int .u16 0, .int .u16 0, .int .u16 0, .int .u16 0, .int .u16 0, .int .u16 0, .int .u16 0, .int .u8 0, .int .u8 0, .bool false, .bool false, .bool false, .bool false, .int .i64 0] : Array Value) 24)).heap.size = w.heap.size + 2 by simp)
  generalize (w.alloc (.cells cs 24)).alloc (.cells (#[.int .u16 0, .int .u16 0, .int .u16 0, .int .u16 0, .int .u16 0, .int .u16 0, .int .u16 0, .int .u16 0, .int .u16 0, .int .u16 0, .int .u16 0, .int .u16 0, .int .u16 0, .int .u8 0, .int .u8 0, .bool false, .bool false, .bool false, .bool false, .int .i64 0] : Array Value) 24) = W0 at *
  rw [HE.out] at rA
  have rA := Lib.hid rA
  have hltA := rA.out.lt
  have hltZ := rZ.out.lt
  have hA := rA.out
  rw [← HE.out] at hA kp ks
  have iC : Hid ((Tryd.prog.info? 24).map (·.size) = some cs.size) := Lib.hid (by rw [HE.out]; exact info24)
  clear rA HE HW hltA hltZ
  go_upto_region 9 with (first
    | (refine wpList_load_row rfl 24 _ rfl _ _ _ rfl hA _ Tryd.underlying24 rfl iC.out ?_)
    | (go_at_call 11; refine (kp.out _).mono ?_; rintro e w1 ⟨rfl, hb⟩; have HB2 := Lib.hid (HB.out.trans (hb.mono HB.out.size)); have hA2 := hA.below hb hA.lt; have rZ2 := Lib.hid (rZ.out.below hb rZ.out.lt); clear hb hA rZ HB kp))
  have hA3 : Row w1.drew w.heap.size 24 cs := hA2
  refine wp_region_still_tail 8 (by kernel_rfl) (by kernel_rfl) ?_
  simp only [List.take_succ_cons, List.take_zero, List.drop_succ_cons, List.drop_zero]
  refine wpStill_load_row rfl 24 _ rfl _ _ cs rfl hA3 _ Tryd.underlying24 rfl iC.out ?_
  repeat still_step
  still_call ((k1.out _).mono fun e w' h => ⟨h.1, h.2.symm⟩)
  repeat still_step
  still_call ((k2.out _).mono fun e w' h => ⟨h.1, h.2.symm⟩)
  repeat still_step
  refine wpStill_nil ?_
  change wpList _ _ _ _ _ w1.drew
  clear hA3 k1 k2
  have rZ : Hid (Row w1.drew (w.heap.size + 1) 24 (#[.int .u16 0, .int .u16 0, .int .u16 0, .int .u16 0, .int .u16 0, .int .u16 0, .int .u16 0, .int .u16 0, .int .u16 0, .int .u16 0, .int .u16 0, .int .u16 0, .int .u16 0, .int .u8 0, .int .u8 0, .bool false, .bool false, .bool false, .bool false, .int .i64 0] : Array Value)) := Lib.hid rZ2.out
  have HB := Lib.hid HB2.out.drew
  clear rZ2 HB2 hA2 iC
  generalize w1.drew = W2 at *
  go_wp2_with fail
  refine (ks.out _).mono ?_
  rintro e w3 ⟨rfl, hb⟩
  have HB2 := Lib.hid (HB.out.trans (hb.mono HB.out.size))
  have rZ2 := rZ.out.below hb rZ.out.lt
  clear hb rZ HB ks
  have rE := rZ2.setAll (vs := ds) (by rw [sD.out]; exact Eq.refl 20)
  have HE9 := Lib.hid (Below.setCellsAll HB2.out (b := w.heap.size + 1) (Nat.le_add_right _ _) ds.toList 0)
  go_wp2_with (first
    | (refine wpList_store_row rfl 24 _ _ rfl (w.heap.size + 1) _ _ ds rfl rfl rZ2 (by rw [sD.out]; exact Eq.refl 20) iD.out oD.out ?_; generalize w3.setCells (w.heap.size + 1) 0 ds.toList = W9 at *))
  try simp only [Exit.inBlock, Exit.then]
  refine bodyPost_ret (results_row rfl rfl rE _ Tryd.underlying24 rfl iD.out) rfl ?_
  exact ⟨congrArg (fun q => Ending.returned (Value.agg q)) HD.out, HE9.out⟩
set_option maxRecDepth 20000 in
set_option maxHeartbeats 4000000 in
theorem rset_4 (g : Rg) (p x v : Int) (hx : W16 x) (hv : B8 v) (he : pairG g p 2 = x) (w : World) :
    Calls Tryd.prog 23 #[regsV g, .int .i64 p, .int .i64 4, .int .u8 v] w fun e w' => e = .returned (regsV (setPairG g p 2 (256 * v + x % 256))) ∧ Below w.heap.size w w' := by
  obtain ⟨af, bc, de, hl, af2, bc2, de2, hl2, ix, iy, sp, pc, wz, i, r, iff1, iff2, halted, late, mode⟩ := g
  have kp : Hid (∀ W, Calls Tryd.prog 11 #[.agg (#[.int .u16 af, .int .u16 bc, .int .u16 de, .int .u16 hl, .int .u16 af2, .int .u16 bc2, .int .u16 de2, .int .u16 hl2, .int .u16 ix, .int .u16 iy, .int .u16 sp, .int .u16 pc, .int .u16 wz, .int .u8 i, .int .u8 r, .bool iff1, .bool iff2, .bool halted, .bool late, .int .i64 mode] : Array Value), .int .i64 p, .int .i64 2] W fun e w' => e = .returned (.int .u16 x) ∧ Below W.heap.size W w') := Lib.hid (fun W => by have h := rpair_any ⟨af, bc, de, hl, af2, bc2, de2, hl2, ix, iy, sp, pc, wz, i, r, iff1, iff2, halted, late, mode⟩ p 2 W; rw [he] at h; exact h)
  obtain ⟨ds, hds⟩ : ∃ ds, ds = regsC (setPairG ⟨af, bc, de, hl, af2, bc2, de2, hl2, ix, iy, sp, pc, wz, i, r, iff1, iff2, halted, late, mode⟩ p 2 (256 * v + x % 256)) := ⟨_, rfl⟩
  have ks : Hid (∀ W, Calls Tryd.prog 25 #[.agg (#[.int .u16 af, .int .u16 bc, .int .u16 de, .int .u16 hl, .int .u16 af2, .int .u16 bc2, .int .u16 de2, .int .u16 hl2, .int .u16 ix, .int .u16 iy, .int .u16 sp, .int .u16 pc, .int .u16 wz, .int .u8 i, .int .u8 r, .bool iff1, .bool iff2, .bool halted, .bool late, .int .i64 mode] : Array Value), .int .i64 p, .int .i64 2, .int .u16 (256 * v + x % 256)] W fun e w' => e = .returned (.agg ds) ∧ Below W.heap.size W w') := Lib.hid (fun W => by rw [hds]; exact rsetPair_any ⟨af, bc, de, hl, af2, bc2, de2, hl2, ix, iy, sp, pc, wz, i, r, iff1, iff2, halted, late, mode⟩ p 2 (256 * v + x % 256) W)
  have iD : Hid ((Tryd.prog.info? 24).map (·.size) = some ds.size) := Lib.hid (by rw [hds]; exact info24)
  have oD : Hid (ds.toList.all (·.oneCell') = true) := Lib.hid (by rw [hds]; rfl)
  have sD : Hid (ds.size = 20) := Lib.hid (by rw [hds]; rfl)
  have k1 := Lib.hid (fun w => rlo_any x hx.1 hx.2 w)
  have k2 := Lib.hid (fun w => rword_any v (x % 256) hv.1 hv.2 (by omega) (by omega) w)
  have HD := Lib.hid hds
  clear hds he hx hv
  obtain ⟨cs, hcs⟩ : ∃ cs, cs = (#[.int .u16 af, .int .u16 bc, .int .u16 de, .int .u16 hl, .int .u16 af2, .int .u16 bc2, .int .u16 de2, .int .u16 hl2, .int .u16 ix, .int .u16 iy, .int .u16 sp, .int .u16 pc, .int .u16 wz, .int .u8 i, .int .u8 r, .bool iff1, .bool iff2, .bool halted, .bool late, .int .i64 mode] : Array Value) := ⟨_, rfl⟩
  have HE := Lib.hid hcs
  show Calls _ _ #[.agg (#[.int .u16 af, .int .u16 bc, .int .u16 de, .int .u16 hl, .int .u16 af2, .int .u16 bc2, .int .u16 de2, .int .u16 hl2, .int .u16 ix, .int .u16 iy, .int .u16 sp, .int .u16 pc, .int .u16 wz, .int .u8 i, .int .u8 r, .bool iff1, .bool iff2, .bool halted, .bool late, .int .i64 mode] : Array Value), .int .i64 p, .int .i64 4, .int .u8 v] _ _
  rw [← hcs]
  clear hcs
  go_enter Tryd.func23, Tryd.ntmps23
  go_upto_region 1 with (fail)
  have rA := (Row.new w 24 cs).alloc (.cells (#[.int .u16 0, .int .u16 0, .int .u16 0, .int .u16 0, .int .u16 0, .int .u16 0, .int .u16 0, .int .u16 0, .int .u16 0, .int .u16 0, .int .u16 0, .int .u16 0, .int .u16 0, .int .u8 0, .int .u8 0, .bool false, .bool false, .bool false, .bool false, .int .i64 0] : Array Value) 24)
  have rZ := Row.new (w.alloc (.cells cs 24)) 24 (#[.int .u16 0, .int .u16 0, .int .u16 0, .int .u16 0, .int .u16 0, .int .u16 0, .int .u16 0, .int .u16 0, .int .u16 0, .int .u16 0, .int .u16 0, .int .u16 0, .int .u16 0, .int .u8 0, .int .u8 0, .bool false, .bool false, .bool false, .bool false, .int .i64 0] : Array Value)
  rw [show (w.alloc (.cells cs 24)).heap.size = w.heap.size + 1 by simp] at rZ
  have rZ := Lib.hid rZ
  have HB := Lib.hid (((Below.refl w.heap.size w).alloc (Nat.le_refl _) (.cells cs 24)).alloc (by simp) (.cells (#[.int .u16 0, .int .u16 0, .int .u16 0, .int .u16 0, .int .u16 0, .int .u16 0, .int .u16 0, .int .u16 0, .int .u16 0, .int .u16 0, .int .u16 0, .int .u16 0, .int .u16 0, .int .u8 0, .int .u8 0, .bool false, .bool false, .bool false, .bool false, .int .i64 0] : Array Value) 24))
  have HW := Lib.hid (show ((w.alloc (.cells cs 24)).alloc (.cells (#[.int .u16 0, .int .u16 0, .int .u16 0, .int .u16 0, .int .u16 0, .int .u16 0, .int .u16 0, .int .u16 0, .int .u16 0, .int .u16 0, .int .u16 0, .int .u16 0, .int .u16 0, .int .u8 0, .int .u8 0, .bool false, .bool false, .bool false, .bool false, .int .i64 0] : Array Value) 24)).heap.size = w.heap.size + 2 by simp)
  generalize (w.alloc (.cells cs 24)).alloc (.cells (#[.int .u16 0, .int .u16 0, .int .u16 0, .int .u16 0, .int .u16 0, .int .u16 0, .int .u16 0, .int .u16 0, .int .u16 0, .int .u16 0, .int .u16 0, .int .u16 0, .int .u16 0, .int .u8 0, .int .u8 0, .bool false, .bool false, .bool false, .bool false, .int .i64 0] : Array Value) 24) = W0 at *
  rw [HE.out] at rA
  have rA := Lib.hid rA
  have hltA := rA.out.lt
  have hltZ := rZ.out.lt
  have hA := rA.out
  rw [← HE.out] at hA kp ks
  have iC : Hid ((Tryd.prog.info? 24).map (·.size) = some cs.size) := Lib.hid (by rw [HE.out]; exact info24)
  clear rA HE HW hltA hltZ
  go_upto_region 8 with (first
    | (refine wpList_load_row rfl 24 _ rfl _ _ _ rfl hA _ Tryd.underlying24 rfl iC.out ?_)
    | (go_at_call 11; refine (kp.out _).mono ?_; rintro e w1 ⟨rfl, hb⟩; have HB2 := Lib.hid (HB.out.trans (hb.mono HB.out.size)); have hA2 := hA.below hb hA.lt; have rZ2 := Lib.hid (rZ.out.below hb rZ.out.lt); clear hb hA rZ HB kp))
  have hA3 : Row w1.drew w.heap.size 24 cs := hA2
  refine wp_region_still_tail 8 (by kernel_rfl) (by kernel_rfl) ?_
  simp only [List.take_succ_cons, List.take_zero, List.drop_succ_cons, List.drop_zero]
  refine wpStill_load_row rfl 24 _ rfl _ _ cs rfl hA3 _ Tryd.underlying24 rfl iC.out ?_
  repeat still_step
  still_call ((k1.out _).mono fun e w' h => ⟨h.1, h.2.symm⟩)
  repeat still_step
  still_call ((k2.out _).mono fun e w' h => ⟨h.1, h.2.symm⟩)
  repeat still_step
  refine wpStill_nil ?_
  change wpList _ _ _ _ _ w1.drew
  clear hA3 k1 k2
  have rZ : Hid (Row w1.drew (w.heap.size + 1) 24 (#[.int .u16 0, .int .u16 0, .int .u16 0, .int .u16 0, .int .u16 0, .int .u16 0, .int .u16 0, .int .u16 0, .int .u16 0, .int .u16 0, .int .u16 0, .int .u16 0, .int .u16 0, .int .u8 0, .int .u8 0, .bool false, .bool false, .bool false, .bool false, .int .i64 0] : Array Value)) := Lib.hid rZ2.out
  have HB := Lib.hid HB2.out.drew
  clear rZ2 HB2 hA2 iC
  generalize w1.drew = W2 at *
  go_wp2_with fail
  refine (ks.out _).mono ?_
  rintro e w3 ⟨rfl, hb⟩
  have HB2 := Lib.hid (HB.out.trans (hb.mono HB.out.size))
  have rZ2 := rZ.out.below hb rZ.out.lt
  clear hb rZ HB ks
  have rE := rZ2.setAll (vs := ds) (by rw [sD.out]; exact Eq.refl 20)
  have HE9 := Lib.hid (Below.setCellsAll HB2.out (b := w.heap.size + 1) (Nat.le_add_right _ _) ds.toList 0)
  go_wp2_with (first
    | (refine wpList_store_row rfl 24 _ _ rfl (w.heap.size + 1) _ _ ds rfl rfl rZ2 (by rw [sD.out]; exact Eq.refl 20) iD.out oD.out ?_; generalize w3.setCells (w.heap.size + 1) 0 ds.toList = W9 at *))
  try simp only [Exit.inBlock, Exit.then]
  refine bodyPost_ret (results_row rfl rfl rE _ Tryd.underlying24 rfl iD.out) rfl ?_
  exact ⟨congrArg (fun q => Ending.returned (Value.agg q)) HD.out, HE9.out⟩
set_option maxRecDepth 20000 in
set_option maxHeartbeats 4000000 in
theorem rset_5 (g : Rg) (p x v : Int) (hx : W16 x) (hv : B8 v) (he : pairG g p 2 = x) (w : World) :
    Calls Tryd.prog 23 #[regsV g, .int .i64 p, .int .i64 5, .int .u8 v] w fun e w' => e = .returned (regsV (setPairG g p 2 (256 * (x / 256) + v))) ∧ Below w.heap.size w w' := by
  obtain ⟨af, bc, de, hl, af2, bc2, de2, hl2, ix, iy, sp, pc, wz, i, r, iff1, iff2, halted, late, mode⟩ := g
  have kp : Hid (∀ W, Calls Tryd.prog 11 #[.agg (#[.int .u16 af, .int .u16 bc, .int .u16 de, .int .u16 hl, .int .u16 af2, .int .u16 bc2, .int .u16 de2, .int .u16 hl2, .int .u16 ix, .int .u16 iy, .int .u16 sp, .int .u16 pc, .int .u16 wz, .int .u8 i, .int .u8 r, .bool iff1, .bool iff2, .bool halted, .bool late, .int .i64 mode] : Array Value), .int .i64 p, .int .i64 2] W fun e w' => e = .returned (.int .u16 x) ∧ Below W.heap.size W w') := Lib.hid (fun W => by have h := rpair_any ⟨af, bc, de, hl, af2, bc2, de2, hl2, ix, iy, sp, pc, wz, i, r, iff1, iff2, halted, late, mode⟩ p 2 W; rw [he] at h; exact h)
  obtain ⟨ds, hds⟩ : ∃ ds, ds = regsC (setPairG ⟨af, bc, de, hl, af2, bc2, de2, hl2, ix, iy, sp, pc, wz, i, r, iff1, iff2, halted, late, mode⟩ p 2 (256 * (x / 256) + v)) := ⟨_, rfl⟩
  have ks : Hid (∀ W, Calls Tryd.prog 25 #[.agg (#[.int .u16 af, .int .u16 bc, .int .u16 de, .int .u16 hl, .int .u16 af2, .int .u16 bc2, .int .u16 de2, .int .u16 hl2, .int .u16 ix, .int .u16 iy, .int .u16 sp, .int .u16 pc, .int .u16 wz, .int .u8 i, .int .u8 r, .bool iff1, .bool iff2, .bool halted, .bool late, .int .i64 mode] : Array Value), .int .i64 p, .int .i64 2, .int .u16 (256 * (x / 256) + v)] W fun e w' => e = .returned (.agg ds) ∧ Below W.heap.size W w') := Lib.hid (fun W => by rw [hds]; exact rsetPair_any ⟨af, bc, de, hl, af2, bc2, de2, hl2, ix, iy, sp, pc, wz, i, r, iff1, iff2, halted, late, mode⟩ p 2 (256 * (x / 256) + v) W)
  have iD : Hid ((Tryd.prog.info? 24).map (·.size) = some ds.size) := Lib.hid (by rw [hds]; exact info24)
  have oD : Hid (ds.toList.all (·.oneCell') = true) := Lib.hid (by rw [hds]; rfl)
  have sD : Hid (ds.size = 20) := Lib.hid (by rw [hds]; rfl)
  have k1 := Lib.hid (fun w => rhi_any x hx.1 hx.2 w)
  have k2 := Lib.hid (fun w => rword_any (x / 256) v (by have := hx.1; omega) (by have := hx.2; omega) hv.1 hv.2 w)
  have HD := Lib.hid hds
  clear hds he hx hv
  obtain ⟨cs, hcs⟩ : ∃ cs, cs = (#[.int .u16 af, .int .u16 bc, .int .u16 de, .int .u16 hl, .int .u16 af2, .int .u16 bc2, .int .u16 de2, .int .u16 hl2, .int .u16 ix, .int .u16 iy, .int .u16 sp, .int .u16 pc, .int .u16 wz, .int .u8 i, .int .u8 r, .bool iff1, .bool iff2, .bool halted, .bool late, .int .i64 mode] : Array Value) := ⟨_, rfl⟩
  have HE := Lib.hid hcs
  show Calls _ _ #[.agg (#[.int .u16 af, .int .u16 bc, .int .u16 de, .int .u16 hl, .int .u16 af2, .int .u16 bc2, .int .u16 de2, .int .u16 hl2, .int .u16 ix, .int .u16 iy, .int .u16 sp, .int .u16 pc, .int .u16 wz, .int .u8 i, .int .u8 r, .bool iff1, .bool iff2, .bool halted, .bool late, .int .i64 mode] : Array Value), .int .i64 p, .int .i64 5, .int .u8 v] _ _
  rw [← hcs]
  clear hcs
  go_enter Tryd.func23, Tryd.ntmps23
  go_upto_region 1 with (fail)
  have rA := (Row.new w 24 cs).alloc (.cells (#[.int .u16 0, .int .u16 0, .int .u16 0, .int .u16 0, .int .u16 0, .int .u16 0, .int .u16 0, .int .u16 0, .int .u16 0, .int .u16 0, .int .u16 0, .int .u16 0, .int .u16 0, .int .u8 0, .int .u8 0, .bool false, .bool false, .bool false, .bool false, .int .i64 0] : Array Value) 24)
  have rZ := Row.new (w.alloc (.cells cs 24)) 24 (#[.int .u16 0, .int .u16 0, .int .u16 0, .int .u16 0, .int .u16 0, .int .u16 0, .int .u16 0, .int .u16 0, .int .u16 0, .int .u16 0, .int .u16 0, .int .u16 0, .int .u16 0, .int .u8 0, .int .u8 0, .bool false, .bool false, .bool false, .bool false, .int .i64 0] : Array Value)
  rw [show (w.alloc (.cells cs 24)).heap.size = w.heap.size + 1 by simp] at rZ
  have rZ := Lib.hid rZ
  have HB := Lib.hid (((Below.refl w.heap.size w).alloc (Nat.le_refl _) (.cells cs 24)).alloc (by simp) (.cells (#[.int .u16 0, .int .u16 0, .int .u16 0, .int .u16 0, .int .u16 0, .int .u16 0, .int .u16 0, .int .u16 0, .int .u16 0, .int .u16 0, .int .u16 0, .int .u16 0, .int .u16 0, .int .u8 0, .int .u8 0, .bool false, .bool false, .bool false, .bool false, .int .i64 0] : Array Value) 24))
  have HW := Lib.hid (show ((w.alloc (.cells cs 24)).alloc (.cells (#[.int .u16 0, .int .u16 0, .int .u16 0, .int .u16 0, .int .u16 0, .int .u16 0, .int .u16 0, .int .u16 0, .int .u16 0, .int .u16 0, .int .u16 0, .int .u16 0, .int .u16 0, .int .u8 0, .int .u8 0, .bool false, .bool false, .bool false, .bool false, .int .i64 0] : Array Value) 24)).heap.size = w.heap.size + 2 by simp)
  generalize (w.alloc (.cells cs 24)).alloc (.cells (#[.int .u16 0, .int .u16 0, .int .u16 0, .int .u16 0, .int .u16 0, .int .u16 0, .int .u16 0, .int .u16 0, .int .u16 0, .int .u16 0, .int .u16 0, .int .u16 0, .int .u16 0, .int .u8 0, .int .u8 0, .bool false, .bool false, .bool false, .bool false, .int .i64 0] : Array Value) 24) = W0 at *
  rw [HE.out] at rA
  have rA := Lib.hid rA
  have hltA := rA.out.lt
  have hltZ := rZ.out.lt
  have hA := rA.out
  rw [← HE.out] at hA kp ks
  have iC : Hid ((Tryd.prog.info? 24).map (·.size) = some cs.size) := Lib.hid (by rw [HE.out]; exact info24)
  clear rA HE HW hltA hltZ
  go_upto_region 9 with (first
    | (refine wpList_load_row rfl 24 _ rfl _ _ _ rfl hA _ Tryd.underlying24 rfl iC.out ?_)
    | (go_at_call 11; refine (kp.out _).mono ?_; rintro e w1 ⟨rfl, hb⟩; have HB2 := Lib.hid (HB.out.trans (hb.mono HB.out.size)); have hA2 := hA.below hb hA.lt; have rZ2 := Lib.hid (rZ.out.below hb rZ.out.lt); clear hb hA rZ HB kp))
  have hA3 : Row w1.drew w.heap.size 24 cs := hA2
  refine wp_region_still_tail 8 (by kernel_rfl) (by kernel_rfl) ?_
  simp only [List.take_succ_cons, List.take_zero, List.drop_succ_cons, List.drop_zero]
  refine wpStill_load_row rfl 24 _ rfl _ _ cs rfl hA3 _ Tryd.underlying24 rfl iC.out ?_
  repeat still_step
  still_call ((k1.out _).mono fun e w' h => ⟨h.1, h.2.symm⟩)
  repeat still_step
  still_call ((k2.out _).mono fun e w' h => ⟨h.1, h.2.symm⟩)
  repeat still_step
  refine wpStill_nil ?_
  change wpList _ _ _ _ _ w1.drew
  clear hA3 k1 k2
  have rZ : Hid (Row w1.drew (w.heap.size + 1) 24 (#[.int .u16 0, .int .u16 0, .int .u16 0, .int .u16 0, .int .u16 0, .int .u16 0, .int .u16 0, .int .u16 0, .int .u16 0, .int .u16 0, .int .u16 0, .int .u16 0, .int .u16 0, .int .u8 0, .int .u8 0, .bool false, .bool false, .bool false, .bool false, .int .i64 0] : Array Value)) := Lib.hid rZ2.out
  have HB := Lib.hid HB2.out.drew
  clear rZ2 HB2 hA2 iC
  generalize w1.drew = W2 at *
  go_wp2_with fail
  refine (ks.out _).mono ?_
  rintro e w3 ⟨rfl, hb⟩
  have HB2 := Lib.hid (HB.out.trans (hb.mono HB.out.size))
  have rZ2 := rZ.out.below hb rZ.out.lt
  clear hb rZ HB ks
  have rE := rZ2.setAll (vs := ds) (by rw [sD.out]; exact Eq.refl 20)
  have HE9 := Lib.hid (Below.setCellsAll HB2.out (b := w.heap.size + 1) (Nat.le_add_right _ _) ds.toList 0)
  go_wp2_with (first
    | (refine wpList_store_row rfl 24 _ _ rfl (w.heap.size + 1) _ _ ds rfl rfl rZ2 (by rw [sD.out]; exact Eq.refl 20) iD.out oD.out ?_; generalize w3.setCells (w.heap.size + 1) 0 ds.toList = W9 at *))
  try simp only [Exit.inBlock, Exit.then]
  refine bodyPost_ret (results_row rfl rfl rE _ Tryd.underlying24 rfl iD.out) rfl ?_
  exact ⟨congrArg (fun q => Ending.returned (Value.agg q)) HD.out, HE9.out⟩
set_option maxRecDepth 20000 in
set_option maxHeartbeats 4000000 in
theorem rset_7 (g : Rg) (p v : Int) (hx : W16 g.af) (hv : B8 v) (w : World) :
    Calls Tryd.prog 23 #[regsV g, .int .i64 p, .int .i64 7, .int .u8 v] w fun e w' => e = .returned (regsV ({ g with af := 256 * v + g.af % 256 })) ∧ Below w.heap.size w w' := by
  obtain ⟨af, bc, de, hl, af2, bc2, de2, hl2, ix, iy, sp, pc, wz, i, r, iff1, iff2, halted, late, mode⟩ := g
  have hx : W16 af := hx
  have k1 := Lib.hid (fun w => rlo_any af hx.1 hx.2 w)
  have k2 := Lib.hid (fun w => rword_any v (af % 256) hv.1 hv.2 (by omega) (by omega) w)
  clear hx hv
  obtain ⟨cs, hcs⟩ : ∃ cs, cs = (#[.int .u16 af, .int .u16 bc, .int .u16 de, .int .u16 hl, .int .u16 af2, .int .u16 bc2, .int .u16 de2, .int .u16 hl2, .int .u16 ix, .int .u16 iy, .int .u16 sp, .int .u16 pc, .int .u16 wz, .int .u8 i, .int .u8 r, .bool iff1, .bool iff2, .bool halted, .bool late, .int .i64 mode] : Array Value) := ⟨_, rfl⟩
  have HE := Lib.hid hcs
  show Calls _ _ #[.agg (#[.int .u16 af, .int .u16 bc, .int .u16 de, .int .u16 hl, .int .u16 af2, .int .u16 bc2, .int .u16 de2, .int .u16 hl2, .int .u16 ix, .int .u16 iy, .int .u16 sp, .int .u16 pc, .int .u16 wz, .int .u8 i, .int .u8 r, .bool iff1, .bool iff2, .bool halted, .bool late, .int .i64 mode] : Array Value), .int .i64 p, .int .i64 7, .int .u8 v] _ _
  rw [← hcs]
  clear hcs
  go_enter Tryd.func23, Tryd.ntmps23
  go_upto_region 1 with (fail)
  have rA := (Row.new w 24 cs).alloc (.cells (#[.int .u16 0, .int .u16 0, .int .u16 0, .int .u16 0, .int .u16 0, .int .u16 0, .int .u16 0, .int .u16 0, .int .u16 0, .int .u16 0, .int .u16 0, .int .u16 0, .int .u16 0, .int .u8 0, .int .u8 0, .bool false, .bool false, .bool false, .bool false, .int .i64 0] : Array Value) 24)
  have rZ := Row.new (w.alloc (.cells cs 24)) 24 (#[.int .u16 0, .int .u16 0, .int .u16 0, .int .u16 0, .int .u16 0, .int .u16 0, .int .u16 0, .int .u16 0, .int .u16 0, .int .u16 0, .int .u16 0, .int .u16 0, .int .u16 0, .int .u8 0, .int .u8 0, .bool false, .bool false, .bool false, .bool false, .int .i64 0] : Array Value)
  rw [show (w.alloc (.cells cs 24)).heap.size = w.heap.size + 1 by simp] at rZ
  have rZ := Lib.hid rZ
  have HB := Lib.hid (((Below.refl w.heap.size w).alloc (Nat.le_refl _) (.cells cs 24)).alloc (by simp) (.cells (#[.int .u16 0, .int .u16 0, .int .u16 0, .int .u16 0, .int .u16 0, .int .u16 0, .int .u16 0, .int .u16 0, .int .u16 0, .int .u16 0, .int .u16 0, .int .u16 0, .int .u16 0, .int .u8 0, .int .u8 0, .bool false, .bool false, .bool false, .bool false, .int .i64 0] : Array Value) 24))
  have HW := Lib.hid (show ((w.alloc (.cells cs 24)).alloc (.cells (#[.int .u16 0, .int .u16 0, .int .u16 0, .int .u16 0, .int .u16 0, .int .u16 0, .int .u16 0, .int .u16 0, .int .u16 0, .int .u16 0, .int .u16 0, .int .u16 0, .int .u16 0, .int .u8 0, .int .u8 0, .bool false, .bool false, .bool false, .bool false, .int .i64 0] : Array Value) 24)).heap.size = w.heap.size + 2 by simp)
  generalize (w.alloc (.cells cs 24)).alloc (.cells (#[.int .u16 0, .int .u16 0, .int .u16 0, .int .u16 0, .int .u16 0, .int .u16 0, .int .u16 0, .int .u16 0, .int .u16 0, .int .u16 0, .int .u16 0, .int .u16 0, .int .u16 0, .int .u8 0, .int .u8 0, .bool false, .bool false, .bool false, .bool false, .int .i64 0] : Array Value) 24) = W0 at *
  rw [HE.out] at rA
  have rA := Lib.hid rA
  have hltA := rA.out.lt
  have hltZ := rZ.out.lt
  have lA0 : W0.cell? ⟨w.heap.size, 0, none⟩ = some (.int .u16 af) := rA.out.cell 0
  have fA0 := rA.out.frozen 0
  have qA0 : Row (W0.setCell ⟨w.heap.size, 0, none⟩ (.int .u16 (256 * v + af % 256))) (w.heap.size) 24 (#[.int .u16 (256 * v + af % 256), .int .u16 bc, .int .u16 de, .int .u16 hl, .int .u16 af2, .int .u16 bc2, .int .u16 de2, .int .u16 hl2, .int .u16 ix, .int .u16 iy, .int .u16 sp, .int .u16 pc, .int .u16 wz, .int .u8 i, .int .u8 r, .bool iff1, .bool iff2, .bool halted, .bool late, .int .i64 mode] : Array Value) := rA.out.set 0 (.int .u16 (256 * v + af % 256))
  have qZ0 : Row (W0.setCell ⟨w.heap.size, 0, none⟩ (.int .u16 (256 * v + af % 256))) (w.heap.size + 1) 24 (#[.int .u16 0, .int .u16 0, .int .u16 0, .int .u16 0, .int .u16 0, .int .u16 0, .int .u16 0, .int .u16 0, .int .u16 0, .int .u16 0, .int .u16 0, .int .u16 0, .int .u16 0, .int .u8 0, .int .u8 0, .bool false, .bool false, .bool false, .bool false, .int .i64 0] : Array Value) := rZ.out.far (p := ⟨w.heap.size, 0, none⟩) (by simp) (.int .u16 (256 * v + af % 256))
  have qA := qA0
  have qZ := qZ0
  clear qA0 qZ0
  have HB' := Lib.hid (HB.out.setCell (p := ⟨w.heap.size, 0, none⟩) (by first | exact Nat.le_refl _ | exact Nat.le_add_right _ _) (.int .u16 (256 * v + af % 256)))
  go_upto_region 3 with (first
    | (go_at_call 30; refine (k1.out _).mono ?_; rintro e w' ⟨rfl, rfl⟩)
    | (go_at_call 39; refine (k2.out _).mono ?_; rintro e w' ⟨rfl, rfl⟩))
  clear lA0 fA0 rA rZ HB
  have rA := Lib.hid qA
  have rZ := Lib.hid qZ
  clear qA qZ
  have HB := HB'
  clear HB'
  generalize W0.setCell ⟨w.heap.size, 0, none⟩ (.int .u16 (256 * v + af % 256)) = W1 at *
  obtain ⟨ds, hds⟩ : ∃ ds, ds = (#[.int .u16 (256 * v + af % 256), .int .u16 bc, .int .u16 de, .int .u16 hl, .int .u16 af2, .int .u16 bc2, .int .u16 de2, .int .u16 hl2, .int .u16 ix, .int .u16 iy, .int .u16 sp, .int .u16 pc, .int .u16 wz, .int .u8 i, .int .u8 r, .bool iff1, .bool iff2, .bool halted, .bool late, .int .i64 mode] : Array Value) := ⟨_, rfl⟩
  have i24 : Hid ((Tryd.prog.info? 24).map (·.size) = some ds.size) := Lib.hid (by rw [hds]; exact info24)
  have one : Hid (ds.toList.all (·.oneCell') = true) := Lib.hid (by rw [hds]; rfl)
  have hsz : Hid (ds.size = 20) := Lib.hid (by rw [hds]; rfl)
  have HD := Lib.hid hds
  have hR := rA.out
  rw [← hds] at hR
  clear hds
  apply wp_region_lit
  refine wpList_load_row rfl 24 _ rfl _ _ _ rfl hR _ Tryd.underlying24 rfl i24.out ?_
  refine wpList_store_row rfl 24 _ _ rfl (w.heap.size + 1) _ _ ds rfl rfl rZ.out (by rw [hsz.out]; exact Eq.refl 20) i24.out one.out ?_
  have rE := rZ.out.setAll (vs := ds) (by rw [hsz.out]; exact Eq.refl 20)
  have HE9 := Lib.hid (Below.setCellsAll HB.out (b := w.heap.size + 1) (Nat.le_add_right _ _) ds.toList 0)
  generalize W1.setCells (w.heap.size + 1) 0 ds.toList = W9 at *
  apply wpList_nil
  rename_i hret
  refine hret _ _ (wp_ret ?_)
  try simp only [Exit.inBlock, Exit.then]
  refine bodyPost_ret (results_row rfl rfl rE _ Tryd.underlying24 rfl i24.out) rfl ?_
  exact ⟨(congrArg (fun q => Ending.returned (Value.agg q)) HD.out).trans rfl, HE9.out⟩
set_option maxRecDepth 20000 in
set_option maxHeartbeats 4000000 in
theorem rset_no0 (g : Rg) (p k v : Int) (hk : k < 0) (w : World) :
    Calls Tryd.prog 23 #[regsV g, .int .i64 p, .int .i64 k, .int .u8 v] w fun e w' => e = .returned (regsV (g)) ∧ Below w.heap.size w w' := by
  obtain ⟨af, bc, de, hl, af2, bc2, de2, hl2, ix, iy, sp, pc, wz, i, r, iff1, iff2, halted, late, mode⟩ := g
  have e7 : (k == 7) = false := by simp; omega
  obtain ⟨cs, hcs⟩ : ∃ cs, cs = (#[.int .u16 af, .int .u16 bc, .int .u16 de, .int .u16 hl, .int .u16 af2, .int .u16 bc2, .int .u16 de2, .int .u16 hl2, .int .u16 ix, .int .u16 iy, .int .u16 sp, .int .u16 pc, .int .u16 wz, .int .u8 i, .int .u8 r, .bool iff1, .bool iff2, .bool halted, .bool late, .int .i64 mode] : Array Value) := ⟨_, rfl⟩
  have HE := Lib.hid hcs
  show Calls _ _ #[.agg (#[.int .u16 af, .int .u16 bc, .int .u16 de, .int .u16 hl, .int .u16 af2, .int .u16 bc2, .int .u16 de2, .int .u16 hl2, .int .u16 ix, .int .u16 iy, .int .u16 sp, .int .u16 pc, .int .u16 wz, .int .u8 i, .int .u8 r, .bool iff1, .bool iff2, .bool halted, .bool late, .int .i64 mode] : Array Value), .int .i64 p, .int .i64 k, .int .u8 v] _ _
  rw [← hcs]
  clear hcs
  go_enter Tryd.func23, Tryd.ntmps23
  go_upto_region 1 with (fail)
  have rA := (Row.new w 24 cs).alloc (.cells (#[.int .u16 0, .int .u16 0, .int .u16 0, .int .u16 0, .int .u16 0, .int .u16 0, .int .u16 0, .int .u16 0, .int .u16 0, .int .u16 0, .int .u16 0, .int .u16 0, .int .u16 0, .int .u8 0, .int .u8 0, .bool false, .bool false, .bool false, .bool false, .int .i64 0] : Array Value) 24)
  have rZ := Row.new (w.alloc (.cells cs 24)) 24 (#[.int .u16 0, .int .u16 0, .int .u16 0, .int .u16 0, .int .u16 0, .int .u16 0, .int .u16 0, .int .u16 0, .int .u16 0, .int .u16 0, .int .u16 0, .int .u16 0, .int .u16 0, .int .u8 0, .int .u8 0, .bool false, .bool false, .bool false, .bool false, .int .i64 0] : Array Value)
  rw [show (w.alloc (.cells cs 24)).heap.size = w.heap.size + 1 by simp] at rZ
  have rZ := Lib.hid rZ
  have HB := Lib.hid (((Below.refl w.heap.size w).alloc (Nat.le_refl _) (.cells cs 24)).alloc (by simp) (.cells (#[.int .u16 0, .int .u16 0, .int .u16 0, .int .u16 0, .int .u16 0, .int .u16 0, .int .u16 0, .int .u16 0, .int .u16 0, .int .u16 0, .int .u16 0, .int .u16 0, .int .u16 0, .int .u8 0, .int .u8 0, .bool false, .bool false, .bool false, .bool false, .int .i64 0] : Array Value) 24))
  have HW := Lib.hid (show ((w.alloc (.cells cs 24)).alloc (.cells (#[.int .u16 0, .int .u16 0, .int .u16 0, .int .u16 0, .int .u16 0, .int .u16 0, .int .u16 0, .int .u16 0, .int .u16 0, .int .u16 0, .int .u16 0, .int .u16 0, .int .u16 0, .int .u8 0, .int .u8 0, .bool false, .bool false, .bool false, .bool false, .int .i64 0] : Array Value) 24)).heap.size = w.heap.size + 2 by simp)
  generalize (w.alloc (.cells cs 24)).alloc (.cells (#[.int .u16 0, .int .u16 0, .int .u16 0, .int .u16 0, .int .u16 0, .int .u16 0, .int .u16 0, .int .u16 0, .int .u16 0, .int .u16 0, .int .u16 0, .int .u16 0, .int .u16 0, .int .u8 0, .int .u8 0, .bool false, .bool false, .bool false, .bool false, .int .i64 0] : Array Value) 24) = W0 at *
  rw [HE.out] at rA
  have rA := Lib.hid rA
  have hltA := rA.out.lt
  have hltZ := rZ.out.lt
  go_upto_region 5 with (fail)
  obtain ⟨ds, hds⟩ : ∃ ds, ds = (#[.int .u16 af, .int .u16 bc, .int .u16 de, .int .u16 hl, .int .u16 af2, .int .u16 bc2, .int .u16 de2, .int .u16 hl2, .int .u16 ix, .int .u16 iy, .int .u16 sp, .int .u16 pc, .int .u16 wz, .int .u8 i, .int .u8 r, .bool iff1, .bool iff2, .bool halted, .bool late, .int .i64 mode] : Array Value) := ⟨_, rfl⟩
  have i24 : Hid ((Tryd.prog.info? 24).map (·.size) = some ds.size) := Lib.hid (by rw [hds]; exact info24)
  have one : Hid (ds.toList.all (·.oneCell') = true) := Lib.hid (by rw [hds]; rfl)
  have hsz : Hid (ds.size = 20) := Lib.hid (by rw [hds]; rfl)
  have HD := Lib.hid hds
  have hR := rA.out
  rw [← hds] at hR
  clear hds
  apply wp_region_lit
  refine wpList_load_row rfl 24 _ rfl _ _ _ rfl hR _ Tryd.underlying24 rfl i24.out ?_
  refine wpList_store_row rfl 24 _ _ rfl (w.heap.size + 1) _ _ ds rfl rfl rZ.out (by rw [hsz.out]; exact Eq.refl 20) i24.out one.out ?_
  have rE := rZ.out.setAll (vs := ds) (by rw [hsz.out]; exact Eq.refl 20)
  have HE9 := Lib.hid (Below.setCellsAll HB.out (b := w.heap.size + 1) (Nat.le_add_right _ _) ds.toList 0)
  generalize W0.setCells (w.heap.size + 1) 0 ds.toList = W9 at *
  apply wpList_nil
  rename_i hret
  refine hret _ _ (wp_ret ?_)
  try simp only [Exit.inBlock, Exit.then]
  refine bodyPost_ret (results_row rfl rfl rE _ Tryd.underlying24 rfl i24.out) rfl ?_
  exact ⟨(congrArg (fun q => Ending.returned (Value.agg q)) HD.out).trans rfl, HE9.out⟩
set_option maxRecDepth 20000 in
set_option maxHeartbeats 4000000 in
theorem rset_no1 (g : Rg) (p k v : Int) (hk : 5 < k ∧ k ≠ 7) (w : World) :
    Calls Tryd.prog 23 #[regsV g, .int .i64 p, .int .i64 k, .int .u8 v] w fun e w' => e = .returned (regsV (g)) ∧ Below w.heap.size w w' := by
  obtain ⟨af, bc, de, hl, af2, bc2, de2, hl2, ix, iy, sp, pc, wz, i, r, iff1, iff2, halted, late, mode⟩ := g
  obtain ⟨h5, h7⟩ := hk
  have e7 : (k == 7) = false := by simp; omega
  have h0 : 0 ≤ k := by omega
  clear h7
  obtain ⟨cs, hcs⟩ : ∃ cs, cs = (#[.int .u16 af, .int .u16 bc, .int .u16 de, .int .u16 hl, .int .u16 af2, .int .u16 bc2, .int .u16 de2, .int .u16 hl2, .int .u16 ix, .int .u16 iy, .int .u16 sp, .int .u16 pc, .int .u16 wz, .int .u8 i, .int .u8 r, .bool iff1, .bool iff2, .bool halted, .bool late, .int .i64 mode] : Array Value) := ⟨_, rfl⟩
  have HE := Lib.hid hcs
  show Calls _ _ #[.agg (#[.int .u16 af, .int .u16 bc, .int .u16 de, .int .u16 hl, .int .u16 af2, .int .u16 bc2, .int .u16 de2, .int .u16 hl2, .int .u16 ix, .int .u16 iy, .int .u16 sp, .int .u16 pc, .int .u16 wz, .int .u8 i, .int .u8 r, .bool iff1, .bool iff2, .bool halted, .bool late, .int .i64 mode] : Array Value), .int .i64 p, .int .i64 k, .int .u8 v] _ _
  rw [← hcs]
  clear hcs
  go_enter Tryd.func23, Tryd.ntmps23
  go_upto_region 1 with (fail)
  have rA := (Row.new w 24 cs).alloc (.cells (#[.int .u16 0, .int .u16 0, .int .u16 0, .int .u16 0, .int .u16 0, .int .u16 0, .int .u16 0, .int .u16 0, .int .u16 0, .int .u16 0, .int .u16 0, .int .u16 0, .int .u16 0, .int .u8 0, .int .u8 0, .bool false, .bool false, .bool false, .bool false, .int .i64 0] : Array Value) 24)
  have rZ := Row.new (w.alloc (.cells cs 24)) 24 (#[.int .u16 0, .int .u16 0, .int .u16 0, .int .u16 0, .int .u16 0, .int .u16 0, .int .u16 0, .int .u16 0, .int .u16 0, .int .u16 0, .int .u16 0, .int .u16 0, .int .u16 0, .int .u8 0, .int .u8 0, .bool false, .bool false, .bool false, .bool false, .int .i64 0] : Array Value)
  rw [show (w.alloc (.cells cs 24)).heap.size = w.heap.size + 1 by simp] at rZ
  have rZ := Lib.hid rZ
  have HB := Lib.hid (((Below.refl w.heap.size w).alloc (Nat.le_refl _) (.cells cs 24)).alloc (by simp) (.cells (#[.int .u16 0, .int .u16 0, .int .u16 0, .int .u16 0, .int .u16 0, .int .u16 0, .int .u16 0, .int .u16 0, .int .u16 0, .int .u16 0, .int .u16 0, .int .u16 0, .int .u16 0, .int .u8 0, .int .u8 0, .bool false, .bool false, .bool false, .bool false, .int .i64 0] : Array Value) 24))
  have HW := Lib.hid (show ((w.alloc (.cells cs 24)).alloc (.cells (#[.int .u16 0, .int .u16 0, .int .u16 0, .int .u16 0, .int .u16 0, .int .u16 0, .int .u16 0, .int .u16 0, .int .u16 0, .int .u16 0, .int .u16 0, .int .u16 0, .int .u16 0, .int .u8 0, .int .u8 0, .bool false, .bool false, .bool false, .bool false, .int .i64 0] : Array Value) 24)).heap.size = w.heap.size + 2 by simp)
  generalize (w.alloc (.cells cs 24)).alloc (.cells (#[.int .u16 0, .int .u16 0, .int .u16 0, .int .u16 0, .int .u16 0, .int .u16 0, .int .u16 0, .int .u16 0, .int .u16 0, .int .u16 0, .int .u16 0, .int .u16 0, .int .u16 0, .int .u8 0, .int .u8 0, .bool false, .bool false, .bool false, .bool false, .int .i64 0] : Array Value) 24) = W0 at *
  rw [HE.out] at rA
  have rA := Lib.hid rA
  have hltA := rA.out.lt
  have hltZ := rZ.out.lt
  go_upto_region 5 with (fail)
  obtain ⟨ds, hds⟩ : ∃ ds, ds = (#[.int .u16 af, .int .u16 bc, .int .u16 de, .int .u16 hl, .int .u16 af2, .int .u16 bc2, .int .u16 de2, .int .u16 hl2, .int .u16 ix, .int .u16 iy, .int .u16 sp, .int .u16 pc, .int .u16 wz, .int .u8 i, .int .u8 r, .bool iff1, .bool iff2, .bool halted, .bool late, .int .i64 mode] : Array Value) := ⟨_, rfl⟩
  have i24 : Hid ((Tryd.prog.info? 24).map (·.size) = some ds.size) := Lib.hid (by rw [hds]; exact info24)
  have one : Hid (ds.toList.all (·.oneCell') = true) := Lib.hid (by rw [hds]; rfl)
  have hsz : Hid (ds.size = 20) := Lib.hid (by rw [hds]; rfl)
  have HD := Lib.hid hds
  have hR := rA.out
  rw [← hds] at hR
  clear hds
  apply wp_region_lit
  refine wpList_load_row rfl 24 _ rfl _ _ _ rfl hR _ Tryd.underlying24 rfl i24.out ?_
  refine wpList_store_row rfl 24 _ _ rfl (w.heap.size + 1) _ _ ds rfl rfl rZ.out (by rw [hsz.out]; exact Eq.refl 20) i24.out one.out ?_
  have rE := rZ.out.setAll (vs := ds) (by rw [hsz.out]; exact Eq.refl 20)
  have HE9 := Lib.hid (Below.setCellsAll HB.out (b := w.heap.size + 1) (Nat.le_add_right _ _) ds.toList 0)
  generalize W0.setCells (w.heap.size + 1) 0 ds.toList = W9 at *
  apply wpList_nil
  rename_i hret
  refine hret _ _ (wp_ret ?_)
  try simp only [Exit.inBlock, Exit.then]
  refine bodyPost_ret (results_row rfl rfl rE _ Tryd.underlying24 rfl i24.out) rfl ?_
  exact ⟨(congrArg (fun q => Ending.returned (Value.agg q)) HD.out).trans rfl, HE9.out⟩
theorem rset_any (g : Rg) (hg : RgB g) (p k v : Int) (hv : B8 v) (w : World) :
    Calls Tryd.prog 23 #[regsV g, .int .i64 p, .int .i64 k, .int .u8 v] w fun e w' => e = .returned (regsV (setG g p k v)) ∧ Below w.heap.size w w' := by
  by_cases hn : k < 0 ∨ k = 6 ∨ 7 < k
  · rw [setG_no g p k v hn]
    by_cases h0 : k < 0
    · exact rset_no0 g p k v h0 w
    · exact rset_no1 g p k v (by omega) w
  obtain rfl | rfl | rfl | rfl | rfl | rfl | rfl : k = 0 ∨ k = 1 ∨ k = 2 ∨ k = 3 ∨ k = 4 ∨ k = 5 ∨ k = 7 := by omega
  · exact rset_0 g p _ v (hg.pair p 0) hv rfl w
  · exact rset_1 g p _ v (hg.pair p 0) hv rfl w
  · exact rset_2 g p _ v (hg.pair p 1) hv rfl w
  · exact rset_3 g p _ v (hg.pair p 1) hv rfl w
  · exact rset_4 g p _ v (hg.pair p 2) hv rfl w
  · exact rset_5 g p _ v (hg.pair p 2) hv rfl w
  · exact rset_7 g p v hg.af hv w
end Go.Proofs.YtpiadeedgjmmkaaDoor
