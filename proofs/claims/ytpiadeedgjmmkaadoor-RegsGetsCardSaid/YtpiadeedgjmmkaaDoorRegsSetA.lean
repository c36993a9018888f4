/- Layer 11 (regs): Set: contract. Written by tools/regs.py. -/
import Derived.Test.YtpiadeedgjmmkaaDoorRegsPair
import Derived.Test.YtpiadeedgjmmkaaDoorRegsSetPair
import Derived.Test.YtpiadeedgjmmkaaDoorRegsSetter
import Derived.StillTailTactics
import Derived.BigQuiet
import Derived.Deep.DeepCutAuto
import Derived.Deep.QuietTactic
namespace Go.Proofs.YtpiadeedgjmmkaaDoor
open Go.RowKit
set_option linter.unusedVariables false
set_option linter.unusedSimpArgs false

set_option maxRecDepth 20000 in
set_option maxHeartbeats 4000000 in
theorem set_0bc (g : Rg) (p v : Int) (hx : W16 g.bc) (hv : B8 v) (w : World) :
    Calls Tryd.prog 22 #[regsV g, .int .i64 p, .int .i64 0, .int .u8 v] w fun e w' => e = .returned (regsV ({ g with bc := 256 * v + g.bc % 256 })) ∧ Below w.heap.size w w' := by
  obtain ⟨af, bc, de, hl, af2, bc2, de2, hl2, ix, iy, sp, pc, wz, i, r, iff1, iff2, halted, late, mode⟩ := g
  have kh := Lib.hid (fun w => halves_any p w)
  have kx := Lib.hid hx
  have kv := Lib.hid hv
  clear hx hv
  obtain ⟨cs, hcs⟩ : ∃ cs, cs = (#[.int .u16 af, .int .u16 bc, .int .u16 de, .int .u16 hl, .int .u16 af2, .int .u16 bc2, .int .u16 de2, .int .u16 hl2, .int .u16 ix, .int .u16 iy, .int .u16 sp, .int .u16 pc, .int .u16 wz, .int .u8 i, .int .u8 r, .bool iff1, .bool iff2, .bool halted, .bool late, .int .i64 mode] : Array Value) := ⟨_, rfl⟩
  have HE := Lib.hid hcs
  show Calls _ _ #[.agg (#[.int .u16 af, .int .u16 bc, .int .u16 de, .int .u16 hl, .int .u16 af2, .int .u16 bc2, .int .u16 de2, .int .u16 hl2, .int .u16 ix, .int .u16 iy, .int .u16 sp, .int .u16 pc, .int .u16 wz, .int .u8 i, .int .u8 r, .bool iff1, .bool iff2, .bool halted, .bool late, .int .i64 mode] : Array Value), .int .i64 p, .int .i64 0, .int .u8 v] _ _
  rw [← hcs]
  clear hcs
  go_enter Tryd.func22, Tryd.ntmps22
  go_upto_region 1 with (fail)
  have rA := (Row.new w 24 cs).alloc (.cells (#[.int .u16 0, .int .u16 0, .int .u16 0, .int .u16 0, .int .u16 0, .int .u16 0, .int .u16 0, .int .u16 0, .int .u16 0, .int .u16 0, .int .u16 0, .int .u16 0, .int .u16 0, .int .u8 0, .int .u8 0, .bool false, .bool false, .bool false, .bool false, .int .i64 0] : Array Value) 24)
  have rZ := Row.new (w.alloc (.cells cs 24)) 24 (#[.int .u16 0, .int .u16 0, .int .u16 0, .int .u16 0, .int .u16 0, .int .u16 0, .int .u16 0, .int .u16 0, .int .u16 0, .int .u16 0, .int .u16 0, .int .u16 0, .int .u16 0, .int .u8 0, .int .u8 0, .bool false, .bool false, .bool false, .bool false, .int .i64 0] : Array Value)
  rw [show (w.alloc (.cells cs 24)).heap.size = w.heap.size + 1 by simp] at rZ
  have rZ := Lib.hid rZ
  have HB := Lib.hid (((Below.refl w.heap.size w).alloc (Nat.le_refl _) (.cells cs 24)).alloc (by simp) (.cells (#[.int .u16 0, .int .u16 0, .int .u16 0, .int .u16 0, .int .u16 0, .int .u16 0, .int .u16 0, .int .u16 0, .int .u16 0, .int .u16 0, .int .u16 0, .int .u16 0, .int .u16 0, .int .u8 0, .int .u8 0, .bool false, .bool false, .bool false, .bool false, .int .i64 0] : Array Value) 24))
  have HW := Lib.hid (show ((w.alloc (.cells cs 24)).alloc (.cells (#[.int .u16 0, .int .u16 0, .int .u16 0, .int .u16 0, .int .u16 0, .int .u16 0, .int .u16 0, .int .u16 0, .int .u16 0, .int .u16 0, .int .u16 0, .int .u16 0, .int .u16 0, .int .u8 0, .int .u8 0, .bool false, .bool false, .bool false, .bool false, .int .i64 0] : Array Value) 24)).heap.size = w.heap.size + 2 by simp)
  generalize (w.alloc (.cells cs 24)).alloc (.cells (#[.int .u16 0, .int .u16 0, .int .u16 0, .int .u16 0, .int .u16 0, .int .u16 0, .int .u16 0, .int .u16 0, .int .u16 0, .int .u16 0, .int .u16 0, .int .u16 0, .int .u16 0, .int .u8 0, .int .u8 0, .bool false, .bool false, .bool false, .bool false, .int .i64 0] : Array Value) 24) = W0 at *
  rw [HE.out] at rA
  have rA := Lib.hid rA
  have hltA := rA.out.lt
  have hltZ := rZ.out.lt
  go_wp2_with fail
  refine (kh.out _).mono ?_
  rintro e w2 ⟨rfl, rfl⟩
  have hlk := lkh_0 (p := p) (World.alloc_heap_new W0 (.map (halfEnts p) 7))
  have qA := Lib.hid (rA.out.alloc (.map (halfEnts p) 7))
  have qZ := Lib.hid (rZ.out.alloc (.map (halfEnts p) 7))
  have HB' := Lib.hid (HB.out.alloc HB.out.size (.map (halfEnts p) 7))
  have HW' := Lib.hid (show (W0.alloc (.map (halfEnts p) 7)).heap.size = w.heap.size + 3 by rw [World.size_alloc, HW.out])
  clear HB HW rA rZ
  have HB := HB'
  have HW := HW'
  have rA := qA
  have rZ := qZ
  clear HB' HW' qA qZ
  generalize W0.alloc (.map (halfEnts p) 7) = W1 at *
  generalize W0.heap.size = M at *
  go_upto_region 2 with (fail)
  have rH := Row.new W1 38 (#[vBC, .bool true] : Array Value)
  rw [HW.out] at rH
  rw [HW.out]
  have rH := Lib.hid rH
  have qA := Lib.hid (rA.out.alloc (.cells (#[vBC, .bool true] : Array Value) 38))
  have qZ := Lib.hid (rZ.out.alloc (.cells (#[vBC, .bool true] : Array Value) 38))
  have HB' := Lib.hid (HB.out.alloc HB.out.size (.cells (#[vBC, .bool true] : Array Value) 38))
  have HW' := Lib.hid (show (W1.alloc (.cells (#[vBC, .bool true] : Array Value) 38)).heap.size = w.heap.size + 4 by rw [World.size_alloc, HW.out])
  clear HB HW rA rZ
  have HB := HB'
  have HW := HW'
  have rA := qA
  have rZ := qZ
  clear HB' HW' qA qZ
  generalize W1.alloc (.cells (#[vBC, .bool true] : Array Value) 38) = W2 at *
  obtain ⟨es, hes⟩ : ∃ es, es = (#[.int .u16 af, .int .u16 bc, .int .u16 de, .int .u16 hl, .int .u16 af2, .int .u16 bc2, .int .u16 de2, .int .u16 hl2, .int .u16 ix, .int .u16 iy, .int .u16 sp, .int .u16 pc, .int .u16 wz, .int .u8 i, .int .u8 r, .bool iff1, .bool iff2, .bool halted, .bool late, .int .i64 mode] : Array Value) := ⟨_, rfl⟩
  have HS := Lib.hid hes
  have hA := rA.out
  rw [← hes] at hA
  have hA := Lib.hid hA
  have iR : Hid ((Tryd.prog.info? 24).map (·.size) = some es.size) := Lib.hid (by rw [hes]; exact info24)
  have iE : Hid ((Tryd.prog.info? 42).map (·.size) = some es.size) := Lib.hid (by rw [hes]; exact info42)
  have oE : Hid (es.toList.all (·.oneCell') = true) := Lib.hid (by rw [hes]; rfl)
  have sE : Hid (es.size = 20) := Lib.hid (by rw [hes]; rfl)
  clear hes rA
  go_upto_region 5 with (first
    | (refine wpList_load_row rfl 24 _ rfl _ _ _ rfl hA.out _ Tryd.underlying24 rfl iR.out ?_)
    | (refine wpList_store_top rfl 42 _ _ rfl _ _ _ _ es rfl rfl (by simp) (by rw [sE.out]; exact Eq.refl 20) iE.out oE.out ?_))
  have rF := Row.new W2 42 es
  have qA := hA.out.alloc (.cells es 42)
  have qZ := rZ.out.alloc (.cells es 42)
  have qH := rH.out.alloc (.cells es 42)
  have HB' := Lib.hid (HB.out.alloc HB.out.size (.cells es 42))
  have HW' := Lib.hid (show (W2.alloc (.cells es 42)).heap.size = w.heap.size + 5 by rw [World.size_alloc, HW.out])
  rw [HW.out] at rF
  rw [HW.out]
  clear HB HW hA rZ rH hlk
  have HB := HB'
  have HW := HW'
  clear HB' HW'
  generalize W2.alloc (.cells es 42) = W3 at *
  rw [HS.out] at rF qA
  have rF := Lib.hid rF
  have rA := Lib.hid qA
  have rZ := Lib.hid qZ
  have rH := Lib.hid qH
  clear qA qZ qH
  have hltF := rF.out.lt
  have l0 := rH.out.cell 0
  have l1 := rH.out.cell 1
  go_upto_region 5 with (fail)
  have q0 := Row.new W3.drew 44 #[.pointer (some ⟨w.heap.size + 4, 1, none⟩)]
  have qF : Row (W3.drew.alloc (.cells #[.pointer (some ⟨w.heap.size + 4, 1, none⟩)] 44)) (w.heap.size + 4) 42 (#[.int .u16 af, .int .u16 bc, .int .u16 de, .int .u16 hl, .int .u16 af2, .int .u16 bc2, .int .u16 de2, .int .u16 hl2, .int .u16 ix, .int .u16 iy, .int .u16 sp, .int .u16 pc, .int .u16 wz, .int .u8 i, .int .u8 r, .bool iff1, .bool iff2, .bool halted, .bool late, .int .i64 mode] : Array Value) := Row.alloc (w := W3.drew) rF.out (.cells #[.pointer (some ⟨w.heap.size + 4, 1, none⟩)] 44)
  have qZ : Row (W3.drew.alloc (.cells #[.pointer (some ⟨w.heap.size + 4, 1, none⟩)] 44)) (w.heap.size + 1) 24 (#[.int .u16 0, .int .u16 0, .int .u16 0, .int .u16 0, .int .u16 0, .int .u16 0, .int .u16 0, .int .u16 0, .int .u16 0, .int .u16 0, .int .u16 0, .int .u16 0, .int .u16 0, .int .u8 0, .int .u8 0, .bool false, .bool false, .bool false, .bool false, .int .i64 0] : Array Value) := Row.alloc (w := W3.drew) rZ.out (.cells #[.pointer (some ⟨w.heap.size + 4, 1, none⟩)] 44)
  have h0 := q0.cell 0
  have h1 : (W3.drew.alloc (.cells #[.pointer (some ⟨w.heap.size + 4, 1, none⟩)] 44)).cell? ⟨w.heap.size + 4, 1, none⟩ = some (.int .u16 bc) := qF.cell 1
  have h2 := qF.frozen 1
  have kk := Lib.hid (setHi_any W3.drew.heap.size (w.heap.size + 4) 1 bc v kx.out kv.out (W3.drew.alloc (.cells #[.pointer (some ⟨w.heap.size + 4, 1, none⟩)] 44)) h0 h1 h2)
  have uF : Row ((W3.setCell ⟨w.heap.size + 4, 1, none⟩ (.int .u16 (256 * v + bc % 256))).alloc (.cells #[.pointer (some ⟨w.heap.size + 4, 1, none⟩)] 44)).drew.drew (w.heap.size + 4) 42 (#[.int .u16 af, .int .u16 (256 * v + bc % 256), .int .u16 de, .int .u16 hl, .int .u16 af2, .int .u16 bc2, .int .u16 de2, .int .u16 hl2, .int .u16 ix, .int .u16 iy, .int .u16 sp, .int .u16 pc, .int .u16 wz, .int .u8 i, .int .u8 r, .bool iff1, .bool iff2, .bool halted, .bool late, .int .i64 mode] : Array Value) := Row.alloc (w := W3.setCell ⟨w.heap.size + 4, 1, none⟩ (.int .u16 (256 * v + bc % 256))) (rF.out.set 1 (.int .u16 (256 * v + bc % 256))) (.cells #[.pointer (some ⟨w.heap.size + 4, 1, none⟩)] 44)
  have uF := Lib.hid uF
  have uZ : Row ((W3.setCell ⟨w.heap.size + 4, 1, none⟩ (.int .u16 (256 * v + bc % 256))).alloc (.cells #[.pointer (some ⟨w.heap.size + 4, 1, none⟩)] 44)).drew.drew (w.heap.size + 1) 24 (#[.int .u16 0, .int .u16 0, .int .u16 0, .int .u16 0, .int .u16 0, .int .u16 0, .int .u16 0, .int .u16 0, .int .u16 0, .int .u16 0, .int .u16 0, .int .u16 0, .int .u16 0, .int .u8 0, .int .u8 0, .bool false, .bool false, .bool false, .bool false, .int .i64 0] : Array Value) := Row.alloc (w := W3.setCell ⟨w.heap.size + 4, 1, none⟩ (.int .u16 (256 * v + bc % 256))) (rZ.out.far (p := ⟨w.heap.size + 4, 1, none⟩) (by simp) (.int .u16 (256 * v + bc % 256))) (.cells #[.pointer (some ⟨w.heap.size + 4, 1, none⟩)] 44)
  have uZ := Lib.hid uZ
  have HB1 := HB.out.setCell (p := ⟨w.heap.size + 4, 1, none⟩) (Nat.le_add_right _ _) (.int .u16 (256 * v + bc % 256))
  have HB' : Hid (Below w.heap.size w ((W3.setCell ⟨w.heap.size + 4, 1, none⟩ (.int .u16 (256 * v + bc % 256))).alloc (.cells #[.pointer (some ⟨w.heap.size + 4, 1, none⟩)] 44)).drew.drew) := Lib.hid ((HB1.alloc HB1.size (.cells #[.pointer (some ⟨w.heap.size + 4, 1, none⟩)] 44)).drew.drew)
  clear HB1
  clear q0 h0 h1 h2 qF qZ rF rZ rA rH HB HW
  go_region_with (first
    | (go_at_call 40; refine (fbc_any _ _).mono ?_; rintro e w' ⟨rfl, rfl⟩)
    | (go_at_call 38; refine (setter_hi _ _).mono ?_; rintro e w' ⟨rfl, rfl⟩)
    | (go_at_call 52; refine kk.out.mono ?_; rintro e w' ⟨rfl, rfl⟩))
  all_goals clear kk
  all_goals
    have rF := uF
    have rZ := uZ
    have HB := HB'
    clear uF uZ HB' l0 l1
    generalize ((W3.setCell ⟨w.heap.size + 4, 1, none⟩ (.int .u16 (256 * v + bc % 256))).alloc (.cells #[.pointer (some ⟨w.heap.size + 4, 1, none⟩)] 44)).drew.drew = W9' at *
    go_upto_region 6 with (fail)
    obtain ⟨ds, hds⟩ : ∃ ds, ds = (#[.int .u16 af, .int .u16 (256 * v + bc % 256), .int .u16 de, .int .u16 hl, .int .u16 af2, .int .u16 bc2, .int .u16 de2, .int .u16 hl2, .int .u16 ix, .int .u16 iy, .int .u16 sp, .int .u16 pc, .int .u16 wz, .int .u8 i, .int .u8 r, .bool iff1, .bool iff2, .bool halted, .bool late, .int .i64 mode] : Array Value) := ⟨_, rfl⟩
    have i24 : Hid ((Tryd.prog.info? 24).map (·.size) = some ds.size) := Lib.hid (by rw [hds]; exact info24)
    have one : Hid (ds.toList.all (·.oneCell') = true) := Lib.hid (by rw [hds]; rfl)
    have hsz : Hid (ds.size = 20) := Lib.hid (by rw [hds]; rfl)
    have HD := Lib.hid hds
    have hR := rF.out
    rw [← hds] at hR
    clear hds
    apply wp_region_lit
    have i42 : Hid ((Tryd.prog.info? 42).map (·.size) = some ds.size) := Lib.hid (by rw [hsz.out]; exact info42)
    refine wpList_load_row rfl 42 _ rfl _ _ _ rfl hR _ Tryd.underlying42 rfl i42.out ?_
    refine wpList_store_row rfl 24 _ _ rfl (w.heap.size + 1) _ _ ds rfl rfl rZ.out (by rw [hsz.out]; exact Eq.refl 20) i24.out one.out ?_
    have rE := rZ.out.setAll (vs := ds) (by rw [hsz.out]; exact Eq.refl 20)
    have HE9 := Lib.hid (Below.setCellsAll HB.out (b := w.heap.size + 1) (Nat.le_add_right _ _) ds.toList 0)
    generalize W9'.setCells (w.heap.size + 1) 0 ds.toList = W9 at *
    apply wpList_nil
    rename_i hret
    refine hret _ _ (wp_ret ?_)
    try simp only [Exit.inBlock, Exit.then]
    refine bodyPost_ret (results_row rfl rfl rE _ Tryd.underlying24 rfl i24.out) rfl ?_
    exact ⟨(congrArg (fun q => Ending.returned (Value.agg q)) HD.out).trans rfl, HE9.out⟩
set_option maxRecDepth 20000 in
set_option maxHeartbeats 4000000 in
theorem set_1bc (g : Rg) (p v : Int) (hx : W16 g.bc) (hv : B8 v) (w : World) :
    Calls Tryd.prog 22 #[regsV g, .int .i64 p, .int .i64 1, .int .u8 v] w fun e w' => e = .returned (regsV ({ g with bc := 256 * (g.bc / 256) + v })) ∧ Below w.heap.size w w' := by
  obtain ⟨af, bc, de, hl, af2, bc2, de2, hl2, ix, iy, sp, pc, wz, i, r, iff1, iff2, halted, late, mode⟩ := g
  have kh := Lib.hid (fun w => halves_any p w)
  have kx := Lib.hid hx
  have kv := Lib.hid hv
  clear hx hv
  obtain ⟨cs, hcs⟩ : ∃ cs, cs = (#[.int .u16 af, .int .u16 bc, .int .u16 de, .int .u16 hl, .int .u16 af2, .int .u16 bc2, .int .u16 de2, .int .u16 hl2, .int .u16 ix, .int .u16 iy, .int .u16 sp, .int .u16 pc, .int .u16 wz, .int .u8 i, .int .u8 r, .bool iff1, .bool iff2, .bool halted, .bool late, .int .i64 mode] : Array Value) := ⟨_, rfl⟩
  have HE := Lib.hid hcs
  show Calls _ _ #[.agg (#[.int .u16 af, .int .u16 bc, .int .u16 de, .int .u16 hl, .int .u16 af2, .int .u16 bc2, .int .u16 de2, .int .u16 hl2, .int .u16 ix, .int .u16 iy, .int .u16 sp, .int .u16 pc, .int .u16 wz, .int .u8 i, .int .u8 r, .bool iff1, .bool iff2, .bool halted, .bool late, .int .i64 mode] : Array Value), .int .i64 p, .int .i64 1, .int .u8 v] _ _
  rw [← hcs]
  clear hcs
  go_enter Tryd.func22, Tryd.ntmps22
  go_upto_region 1 with (fail)
  have rA := (Row.new w 24 cs).alloc (.cells (#[.int .u16 0, .int .u16 0, .int .u16 0, .int .u16 0, .int .u16 0, .int .u16 0, .int .u16 0, .int .u16 0, .int .u16 0, .int .u16 0, .int .u16 0, .int .u16 0, .int .u16 0, .int .u8 0, .int .u8 0, .bool false, .bool false, .bool false, .bool false, .int .i64 0] : Array Value) 24)
  have rZ := Row.new (w.alloc (.cells cs 24)) 24 (#[.int .u16 0, .int .u16 0, .int .u16 0, .int .u16 0, .int .u16 0, .int .u16 0, .int .u16 0, .int .u16 0, .int .u16 0, .int .u16 0, .int .u16 0, .int .u16 0, .int .u16 0, .int .u8 0, .int .u8 0, .bool false, .bool false, .bool false, .bool false, .int .i64 0] : Array Value)
  rw [show (w.alloc (.cells cs 24)).heap.size = w.heap.size + 1 by simp] at rZ
  have rZ := Lib.hid rZ
  have HB := Lib.hid (((Below.refl w.heap.size w).alloc (Nat.le_refl _) (.cells cs 24)).alloc (by simp) (.cells (#[.int .u16 0, .int .u16 0, .int .u16 0, .int .u16 0, .int .u16 0, .int .u16 0, .int .u16 0, .int .u16 0, .int .u16 0, .int .u16 0, .int .u16 0, .int .u16 0, .int .u16 0, .int .u8 0, .int .u8 0, .bool false, .bool false, .bool false, .bool false, .int .i64 0] : Array Value) 24))
  have HW := Lib.hid (show ((w.alloc (.cells cs 24)).alloc (.cells (#[.int .u16 0, .int .u16 0, .int .u16 0, .int .u16 0, .int .u16 0, .int .u16 0, .int .u16 0, .int .u16 0, .int .u16 0, .int .u16 0, .int .u16 0, .int .u16 0, .int .u16 0, .int .u8 0, .int .u8 0, .bool false, .bool false, .bool false, .bool false, .int .i64 0] : Array Value) 24)).heap.size = w.heap.size + 2 by simp)
  generalize (w.alloc (.cells cs 24)).alloc (.cells (#[.int .u16 0, .int .u16 0, .int .u16 0, .int .u16 0, .int .u16 0, .int .u16 0, .int .u16 0, .int .u16 0, .int .u16 0, .int .u16 0, .int .u16 0, .int .u16 0, .int .u16 0, .int .u8 0, .int .u8 0, .bool false, .bool false, .bool false, .bool false, .int .i64 0] : Array Value) 24) = W0 at *
  rw [HE.out] at rA
  have rA := Lib.hid rA
  have hltA := rA.out.lt
  have hltZ := rZ.out.lt
  go_wp2_with fail
  refine (kh.out _).mono ?_
  rintro e w2 ⟨rfl, rfl⟩
  have hlk := lkh_1 (p := p) (World.alloc_heap_new W0 (.map (halfEnts p) 7))
  have qA := Lib.hid (rA.out.alloc (.map (halfEnts p) 7))
  have qZ := Lib.hid (rZ.out.alloc (.map (halfEnts p) 7))
  have HB' := Lib.hid (HB.out.alloc HB.out.size (.map (halfEnts p) 7))
  have HW' := Lib.hid (show (W0.alloc (.map (halfEnts p) 7)).heap.size = w.heap.size + 3 by rw [World.size_alloc, HW.out])
  clear HB HW rA rZ
  have HB := HB'
  have HW := HW'
  have rA := qA
  have rZ := qZ
  clear HB' HW' qA qZ
  generalize W0.alloc (.map (halfEnts p) 7) = W1 at *
  generalize W0.heap.size = M at *
  go_upto_region 2 with (fail)
  have rH := Row.new W1 38 (#[vBC, .bool false] : Array Value)
  rw [HW.out] at rH
  rw [HW.out]
  have rH := Lib.hid rH
  have qA := Lib.hid (rA.out.alloc (.cells (#[vBC, .bool false] : Array Value) 38))
  have qZ := Lib.hid (rZ.out.alloc (.cells (#[vBC, .bool false] : Array Value) 38))
  have HB' := Lib.hid (HB.out.alloc HB.out.size (.cells (#[vBC, .bool false] : Array Value) 38))
  have HW' := Lib.hid (show (W1.alloc (.cells (#[vBC, .bool false] : Array Value) 38)).heap.size = w.heap.size + 4 by rw [World.size_alloc, HW.out])
  clear HB HW rA rZ
  have HB := HB'
  have HW := HW'
  have rA := qA
  have rZ := qZ
  clear HB' HW' qA qZ
  generalize W1.alloc (.cells (#[vBC, .bool false] : Array Value) 38) = W2 at *
  obtain ⟨es, hes⟩ : ∃ es, es = (#[.int .u16 af, .int .u16 bc, .int .u16 de, .int .u16 hl, .int .u16 af2, .int .u16 bc2, .int .u16 de2, .int .u16 hl2, .int .u16 ix, .int .u16 iy, .int .u16 sp, .int .u16 pc, .int .u16 wz, .int .u8 i, .int .u8 r, .bool iff1, .bool iff2, .bool halted, .bool late, .int .i64 mode] : Array Value) := ⟨_, rfl⟩
  have HS := Lib.hid hes
  have hA := rA.out
  rw [← hes] at hA
  have hA := Lib.hid hA
  have iR : Hid ((Tryd.prog.info? 24).map (·.size) = some es.size) := Lib.hid (by rw [hes]; exact info24)
  have iE : Hid ((Tryd.prog.info? 42).map (·.size) = some es.size) := Lib.hid (by rw [hes]; exact info42)
  have oE : Hid (es.toList.all (·.oneCell') = true) := Lib.hid (by rw [hes]; rfl)
  have sE : Hid (es.size = 20) := Lib.hid (by rw [hes]; rfl)
  clear hes rA
  go_upto_region 5 with (first
    | (refine wpList_load_row rfl 24 _ rfl _ _ _ rfl hA.out _ Tryd.underlying24 rfl iR.out ?_)
    | (refine wpList_store_top rfl 42 _ _ rfl _ _ _ _ es rfl rfl (by simp) (by rw [sE.out]; exact Eq.refl 20) iE.out oE.out ?_))
  have rF := Row.new W2 42 es
  have qA := hA.out.alloc (.cells es 42)
  have qZ := rZ.out.alloc (.cells es 42)
  have qH := rH.out.alloc (.cells es 42)
  have HB' := Lib.hid (HB.out.alloc HB.out.size (.cells es 42))
  have HW' := Lib.hid (show (W2.alloc (.cells es 42)).heap.size = w.heap.size + 5 by rw [World.size_alloc, HW.out])
  rw [HW.out] at rF
  rw [HW.out]
  clear HB HW hA rZ rH hlk
  have HB := HB'
  have HW := HW'
  clear HB' HW'
  generalize W2.alloc (.cells es 42) = W3 at *
  rw [HS.out] at rF qA
  have rF := Lib.hid rF
  have rA := Lib.hid qA
  have rZ := Lib.hid qZ
  have rH := Lib.hid qH
  clear qA qZ qH
  have hltF := rF.out.lt
  have l0 := rH.out.cell 0
  have l1 := rH.out.cell 1
  go_upto_region 5 with (fail)
  have q0 := Row.new W3.drew 44 #[.pointer (some ⟨w.heap.size + 4, 1, none⟩)]
  have qF : Row (W3.drew.alloc (.cells #[.pointer (some ⟨w.heap.size + 4, 1, none⟩)] 44)) (w.heap.size + 4) 42 (#[.int .u16 af, .int .u16 bc, .int .u16 de, .int .u16 hl, .int .u16 af2, .int .u16 bc2, .int .u16 de2, .int .u16 hl2, .int .u16 ix, .int .u16 iy, .int .u16 sp, .int .u16 pc, .int .u16 wz, .int .u8 i, .int .u8 r, .bool iff1, .bool iff2, .bool halted, .bool late, .int .i64 mode] : Array Value) := Row.alloc (w := W3.drew) rF.out (.cells #[.pointer (some ⟨w.heap.size + 4, 1, none⟩)] 44)
  have qZ : Row (W3.drew.alloc (.cells #[.pointer (some ⟨w.heap.size + 4, 1, none⟩)] 44)) (w.heap.size + 1) 24 (#[.int .u16 0, .int .u16 0, .int .u16 0, .int .u16 0, .int .u16 0, .int .u16 0, .int .u16 0, .int .u16 0, .int .u16 0, .int .u16 0, .int .u16 0, .int .u16 0, .int .u16 0, .int .u8 0, .int .u8 0, .bool false, .bool false, .bool false, .bool false, .int .i64 0] : Array Value) := Row.alloc (w := W3.drew) rZ.out (.cells #[.pointer (some ⟨w.heap.size + 4, 1, none⟩)] 44)
  have h0 := q0.cell 0
  have h1 : (W3.drew.alloc (.cells #[.pointer (some ⟨w.heap.size + 4, 1, none⟩)] 44)).cell? ⟨w.heap.size + 4, 1, none⟩ = some (.int .u16 bc) := qF.cell 1
  have h2 := qF.frozen 1
  have kk := Lib.hid (setLo_any W3.drew.heap.size (w.heap.size + 4) 1 bc v kx.out kv.out (W3.drew.alloc (.cells #[.pointer (some ⟨w.heap.size + 4, 1, none⟩)] 44)) h0 h1 h2)
  have uF : Row ((W3.setCell ⟨w.heap.size + 4, 1, none⟩ (.int .u16 (256 * (bc / 256) + v))).alloc (.cells #[.pointer (some ⟨w.heap.size + 4, 1, none⟩)] 44)).drew.drew (w.heap.size + 4) 42 (#[.int .u16 af, .int .u16 (256 * (bc / 256) + v), .int .u16 de, .int .u16 hl, .int .u16 af2, .int .u16 bc2, .int .u16 de2, .int .u16 hl2, .int .u16 ix, .int .u16 iy, .int .u16 sp, .int .u16 pc, .int .u16 wz, .int .u8 i, .int .u8 r, .bool iff1, .bool iff2, .bool halted, .bool late, .int .i64 mode] : Array Value) := Row.alloc (w := W3.setCell ⟨w.heap.size + 4, 1, none⟩ (.int .u16 (256 * (bc / 256) + v))) (rF.out.set 1 (.int .u16 (256 * (bc / 256) + v))) (.cells #[.pointer (some ⟨w.heap.size + 4, 1, none⟩)] 44)
  have uF := Lib.hid uF
  have uZ : Row ((W3.setCell ⟨w.heap.size + 4, 1, none⟩ (.int .u16 (256 * (bc / 256) + v))).alloc (.cells #[.pointer (some ⟨w.heap.size + 4, 1, none⟩)] 44)).drew.drew (w.heap.size + 1) 24 (#[.int .u16 0, .int .u16 0, .int .u16 0, .int .u16 0, .int .u16 0, .int .u16 0, .int .u16 0, .int .u16 0, .int .u16 0, .int .u16 0, .int .u16 0, .int .u16 0, .int .u16 0, .int .u8 0, .int .u8 0, .bool false, .bool false, .bool false, .bool false, .int .i64 0] : Array Value) := Row.alloc (w := W3.setCell ⟨w.heap.size + 4, 1, none⟩ (.int .u16 (256 * (bc / 256) + v))) (rZ.out.far (p := ⟨w.heap.size + 4, 1, none⟩) (by simp) (.int .u16 (256 * (bc / 256) + v))) (.cells #[.pointer (some ⟨w.heap.size + 4, 1, none⟩)] 44)
  have uZ := Lib.hid uZ
  have HB1 := HB.out.setCell (p := ⟨w.heap.size + 4, 1, none⟩) (Nat.le_add_right _ _) (.int .u16 (256 * (bc / 256) + v))
  have HB' : Hid (Below w.heap.size w ((W3.setCell ⟨w.heap.size + 4, 1, none⟩ (.int .u16 (256 * (bc / 256) + v))).alloc (.cells #[.pointer (some ⟨w.heap.size + 4, 1, none⟩)] 44)).drew.drew) := Lib.hid ((HB1.alloc HB1.size (.cells #[.pointer (some ⟨w.heap.size + 4, 1, none⟩)] 44)).drew.drew)
  clear HB1
  clear q0 h0 h1 h2 qF qZ rF rZ rA rH HB HW
  go_region_with (first
    | (go_at_call 40; refine (fbc_any _ _).mono ?_; rintro e w' ⟨rfl, rfl⟩)
    | (go_at_call 38; refine (setter_lo _ _).mono ?_; rintro e w' ⟨rfl, rfl⟩)
    | (go_at_call 54; refine kk.out.mono ?_; rintro e w' ⟨rfl, rfl⟩))
  all_goals clear kk
  all_goals
    have rF := uF
    have rZ := uZ
    have HB := HB'
    clear uF uZ HB' l0 l1
    generalize ((W3.setCell ⟨w.heap.size + 4, 1, none⟩ (.int .u16 (256 * (bc / 256) + v))).alloc (.cells #[.pointer (some ⟨w.heap.size + 4, 1, none⟩)] 44)).drew.drew = W9' at *
    go_upto_region 6 with (fail)
    obtain ⟨ds, hds⟩ : ∃ ds, ds = (#[.int .u16 af, .int .u16 (256 * (bc / 256) + v), .int .u16 de, .int .u16 hl, .int .u16 af2, .int .u16 bc2, .int .u16 de2, .int .u16 hl2, .int .u16 ix, .int .u16 iy, .int .u16 sp, .int .u16 pc, .int .u16 wz, .int .u8 i, .int .u8 r, .bool iff1, .bool iff2, .bool halted, .bool late, .int .i64 mode] : Array Value) := ⟨_, rfl⟩
    have i24 : Hid ((Tryd.prog.info? 24).map (·.size) = some ds.size) := Lib.hid (by rw [hds]; exact info24)
    have one : Hid (ds.toList.all (·.oneCell') = true) := Lib.hid (by rw [hds]; rfl)
    have hsz : Hid (ds.size = 20) := Lib.hid (by rw [hds]; rfl)
    have HD := Lib.hid hds
    have hR := rF.out
    rw [← hds] at hR
    clear hds
    apply wp_region_lit
    have i42 : Hid ((Tryd.prog.info? 42).map (·.size) = some ds.size) := Lib.hid (by rw [hsz.out]; exact info42)
    refine wpList_load_row rfl 42 _ rfl _ _ _ rfl hR _ Tryd.underlying42 rfl i42.out ?_
    refine wpList_store_row rfl 24 _ _ rfl (w.heap.size + 1) _ _ ds rfl rfl rZ.out (by rw [hsz.out]; exact Eq.refl 20) i24.out one.out ?_
    have rE := rZ.out.setAll (vs := ds) (by rw [hsz.out]; exact Eq.refl 20)
    have HE9 := Lib.hid (Below.setCellsAll HB.out (b := w.heap.size + 1) (Nat.le_add_right _ _) ds.toList 0)
    generalize W9'.setCells (w.heap.size + 1) 0 ds.toList = W9 at *
    apply wpList_nil
    rename_i hret
    refine hret _ _ (wp_ret ?_)
    try simp only [Exit.inBlock, Exit.then]
    refine bodyPost_ret (results_row rfl rfl rE _ Tryd.underlying24 rfl i24.out) rfl ?_
    exact ⟨(congrArg (fun q => Ending.returned (Value.agg q)) HD.out).trans rfl, HE9.out⟩
set_option maxRecDepth 20000 in
set_option maxHeartbeats 4000000 in
theorem set_2de (g : Rg) (p v : Int) (hx : W16 g.de) (hv : B8 v) (w : World) :
    Calls Tryd.prog 22 #[regsV g, .int .i64 p, .int .i64 2, .int .u8 v] w fun e w' => e = .returned (regsV ({ g with de := 256 * v + g.de % 256 })) ∧ Below w.heap.size w w' := by
  obtain ⟨af, bc, de, hl, af2, bc2, de2, hl2, ix, iy, sp, pc, wz, i, r, iff1, iff2, halted, late, mode⟩ := g
  have kh := Lib.hid (fun w => halves_any p w)
  have kx := Lib.hid hx
  have kv := Lib.hid hv
  clear hx hv
  obtain ⟨cs, hcs⟩ : ∃ cs, cs = (#[.int .u16 af, .int .u16 bc, .int .u16 de, .int .u16 hl, .int .u16 af2, .int .u16 bc2, .int .u16 de2, .int .u16 hl2, .int .u16 ix, .int .u16 iy, .int .u16 sp, .int .u16 pc, .int .u16 wz, .int .u8 i, .int .u8 r, .bool iff1, .bool iff2, .bool halted, .bool late, .int .i64 mode] : Array Value) := ⟨_, rfl⟩
  have HE := Lib.hid hcs
  show Calls _ _ #[.agg (#[.int .u16 af, .int .u16 bc, .int .u16 de, .int .u16 hl, .int .u16 af2, .int .u16 bc2, .int .u16 de2, .int .u16 hl2, .int .u16 ix, .int .u16 iy, .int .u16 sp, .int .u16 pc, .int .u16 wz, .int .u8 i, .int .u8 r, .bool iff1, .bool iff2, .bool halted, .bool late, .int .i64 mode] : Array Value), .int .i64 p, .int .i64 2, .int .u8 v] _ _
  rw [← hcs]
  clear hcs
  go_enter Tryd.func22, Tryd.ntmps22
  go_upto_region 1 with (fail)
  have rA := (Row.new w 24 cs).alloc (.cells (#[.int .u16 0, .int .u16 0, .int .u16 0, .int .u16 0, .int .u16 0, .int .u16 0, .int .u16 0, .int .u16 0, .int .u16 0, .int .u16 0, .int .u16 0, .int .u16 0, .int .u16 0, .int .u8 0, .int .u8 0, .bool false, .bool false, .bool false, .bool false, .int .i64 0] : Array Value) 24)
  have rZ := Row.new (w.alloc (.cells cs 24)) 24 (#[.int .u16 0, .int .u16 0, .int .u16 0, .int .u16 0, .int .u16 0, .int .u16 0, .int .u16 0, .int .u16 0, .int .u16 0, .int .u16 0, .int .u16 0, .int .u16 0, .int .u16 0, .int .u8 0, .int .u8 0, .bool false, .bool false, .bool false, .bool false, .int .i64 0] : Array Value)
  rw [show (w.alloc (.cells cs 24)).heap.size = w.heap.size + 1 by simp] at rZ
  have rZ := Lib.hid rZ
  have HB := Lib.hid (((Below.refl w.heap.size w).alloc (Nat.le_refl _) (.cells cs 24)).alloc (by simp) (.cells (#[.int .u16 0, .int .u16 0, .int .u16 0, .int .u16 0, .int .u16 0, .int .u16 0, .int .u16 0, .int .u16 0, .int .u16 0, .int .u16 0, .int .u16 0, .int .u16 0, .int .u16 0, .int .u8 0, .int .u8 0, .bool false, .bool false, .bool false, .bool false, .int .i64 0] : Array Value) 24))
  have HW := Lib.hid (show ((w.alloc (.cells cs 24)).alloc (.cells (#[.int .u16 0, .int .u16 0, .int .u16 0, .int .u16 0, .int .u16 0, .int .u16 0, .int .u16 0, .int .u16 0, .int .u16 0, .int .u16 0, .int .u16 0, .int .u16 0, .int .u16 0, .int .u8 0, .int .u8 0, .bool false, .bool false, .bool false, .bool false, .int .i64 0] : Array Value) 24)).heap.size = w.heap.size + 2 by simp)
  generalize (w.alloc (.cells cs 24)).alloc (.cells (#[.int .u16 0, .int .u16 0, .int .u16 0, .int .u16 0, .int .u16 0, .int .u16 0, .int .u16 0, .int .u16 0, .int .u16 0, .int .u16 0, .int .u16 0, .int .u16 0, .int .u16 0, .int .u8 0, .int .u8 0, .bool false, .bool false, .bool false, .bool false, .int .i64 0] : Array Value) 24) = W0 at *
  rw [HE.out] at rA
  have rA := Lib.hid rA
  have hltA := rA.out.lt
  have hltZ := rZ.out.lt
  go_wp2_with fail
  refine (kh.out _).mono ?_
  rintro e w2 ⟨rfl, rfl⟩
  have hlk := lkh_2 (p := p) (World.alloc_heap_new W0 (.map (halfEnts p) 7))
  have qA := Lib.hid (rA.out.alloc (.map (halfEnts p) 7))
  have qZ := Lib.hid (rZ.out.alloc (.map (halfEnts p) 7))
  have HB' := Lib.hid (HB.out.alloc HB.out.size (.map (halfEnts p) 7))
  have HW' := Lib.hid (show (W0.alloc (.map (halfEnts p) 7)).heap.size = w.heap.size + 3 by rw [World.size_alloc, HW.out])
  clear HB HW rA rZ
  have HB := HB'
  have HW := HW'
  have rA := qA
  have rZ := qZ
  clear HB' HW' qA qZ
  generalize W0.alloc (.map (halfEnts p) 7) = W1 at *
  generalize W0.heap.size = M at *
  go_upto_region 2 with (fail)
  have rH := Row.new W1 38 (#[vDE, .bool true] : Array Value)
  rw [HW.out] at rH
  rw [HW.out]
  have rH := Lib.hid rH
  have qA := Lib.hid (rA.out.alloc (.cells (#[vDE, .bool true] : Array Value) 38))
  have qZ := Lib.hid (rZ.out.alloc (.cells (#[vDE, .bool true] : Array Value) 38))
  have HB' := Lib.hid (HB.out.alloc HB.out.size (.cells (#[vDE, .bool true] : Array Value) 38))
  have HW' := Lib.hid (show (W1.alloc (.cells (#[vDE, .bool true] : Array Value) 38)).heap.size = w.heap.size + 4 by rw [World.size_alloc, HW.out])
  clear HB HW rA rZ
  have HB := HB'
  have HW := HW'
  have rA := qA
  have rZ := qZ
  clear HB' HW' qA qZ
  generalize W1.alloc (.cells (#[vDE, .bool true] : Array Value) 38) = W2 at *
  obtain ⟨es, hes⟩ : ∃ es, es = (#[.int .u16 af, .int .u16 bc, .int .u16 de, .int .u16 hl, .int .u16 af2, .int .u16 bc2, .int .u16 de2, .int .u16 hl2, .int .u16 ix, .int .u16 iy, .int .u16 sp, .int .u16 pc, .int .u16 wz, .int .u8 i, .int .u8 r, .bool iff1, .bool iff2, .bool halted, .bool late, .int .i64 mode] : Array Value) := ⟨_, rfl⟩
  have HS := Lib.hid hes
  have hA := rA.out
  rw [← hes] at hA
  have hA := Lib.hid hA
  have iR : Hid ((Tryd.prog.info? 24).map (·.size) = some es.size) := Lib.hid (by rw [hes]; exact info24)
  have iE : Hid ((Tryd.prog.info? 42).map (·.size) = some es.size) := Lib.hid (by rw [hes]; exact info42)
  have oE : Hid (es.toList.all (·.oneCell') = true) := Lib.hid (by rw [hes]; rfl)
  have sE : Hid (es.size = 20) := Lib.hid (by rw [hes]; rfl)
  clear hes rA
  go_upto_region 5 with (first
    | (refine wpList_load_row rfl 24 _ rfl _ _ _ rfl hA.out _ Tryd.underlying24 rfl iR.out ?_)
    | (refine wpList_store_top rfl 42 _ _ rfl _ _ _ _ es rfl rfl (by simp) (by rw [sE.out]; exact Eq.refl 20) iE.out oE.out ?_))
  have rF := Row.new W2 42 es
  have qA := hA.out.alloc (.cells es 42)
  have qZ := rZ.out.alloc (.cells es 42)
  have qH := rH.out.alloc (.cells es 42)
  have HB' := Lib.hid (HB.out.alloc HB.out.size (.cells es 42))
  have HW' := Lib.hid (show (W2.alloc (.cells es 42)).heap.size = w.heap.size + 5 by rw [World.size_alloc, HW.out])
  rw [HW.out] at rF
  rw [HW.out]
  clear HB HW hA rZ rH hlk
  have HB := HB'
  have HW := HW'
  clear HB' HW'
  generalize W2.alloc (.cells es 42) = W3 at *
  rw [HS.out] at rF qA
  have rF := Lib.hid rF
  have rA := Lib.hid qA
  have rZ := Lib.hid qZ
  have rH := Lib.hid qH
  clear qA qZ qH
  have hltF := rF.out.lt
  have l0 := rH.out.cell 0
  have l1 := rH.out.cell 1
  go_upto_region 5 with (fail)
  have q0 := Row.new W3.drew 44 #[.pointer (some ⟨w.heap.size + 4, 2, none⟩)]
  have qF : Row (W3.drew.alloc (.cells #[.pointer (some ⟨w.heap.size + 4, 2, none⟩)] 44)) (w.heap.size + 4) 42 (#[.int .u16 af, .int .u16 bc, .int .u16 de, .int .u16 hl, .int .u16 af2, .int .u16 bc2, .int .u16 de2, .int .u16 hl2, .int .u16 ix, .int .u16 iy, .int .u16 sp, .int .u16 pc, .int .u16 wz, .int .u8 i, .int .u8 r, .bool iff1, .bool iff2, .bool halted, .bool late, .int .i64 mode] : Array Value) := Row.alloc (w := W3.drew) rF.out (.cells #[.pointer (some ⟨w.heap.size + 4, 2, none⟩)] 44)
  have qZ : Row (W3.drew.alloc (.cells #[.pointer (some ⟨w.heap.size + 4, 2, none⟩)] 44)) (w.heap.size + 1) 24 (#[.int .u16 0, .int .u16 0, .int .u16 0, .int .u16 0, .int .u16 0, .int .u16 0, .int .u16 0, .int .u16 0, .int .u16 0, .int .u16 0, .int .u16 0, .int .u16 0, .int .u16 0, .int .u8 0, .int .u8 0, .bool false, .bool false, .bool false, .bool false, .int .i64 0] : Array Value) := Row.alloc (w := W3.drew) rZ.out (.cells #[.pointer (some ⟨w.heap.size + 4, 2, none⟩)] 44)
  have h0 := q0.cell 0
  have h1 : (W3.drew.alloc (.cells #[.pointer (some ⟨w.heap.size + 4, 2, none⟩)] 44)).cell? ⟨w.heap.size + 4, 2, none⟩ = some (.int .u16 de) := qF.cell 2
  have h2 := qF.frozen 2
  have kk := Lib.hid (setHi_any W3.drew.heap.size (w.heap.size + 4) 2 de v kx.out kv.out (W3.drew.alloc (.cells #[.pointer (some ⟨w.heap.size + 4, 2, none⟩)] 44)) h0 h1 h2)
  have uF : Row ((W3.setCell ⟨w.heap.size + 4, 2, none⟩ (.int .u16 (256 * v + de % 256))).alloc (.cells #[.pointer (some ⟨w.heap.size + 4, 2, none⟩)] 44)).drew.drew (w.heap.size + 4) 42 (#[.int .u16 af, .int .u16 bc, .int .u16 (256 * v + de % 256), .int .u16 hl, .int .u16 af2, .int .u16 bc2, .int .u16 de2, .int .u16 hl2, .int .u16 ix, .int .u16 iy, .int .u16 sp, .int .u16 pc, .int .u16 wz, .int .u8 i, .int .u8 r, .bool iff1, .bool iff2, .bool halted, .bool late, .int .i64 mode] : Array Value) := Row.alloc (w := W3.setCell ⟨w.heap.size + 4, 2, none⟩ (.int .u16 (256 * v + de % 256))) (rF.out.set 2 (.int .u16 (256 * v + de % 256))) (.cells #[.pointer (some ⟨w.heap.size + 4, 2, none⟩)] 44)
  have uF := Lib.hid uF
  have uZ : Row ((W3.setCell ⟨w.heap.size + 4, 2, none⟩ (.int .u16 (256 * v + de % 256))).alloc (.cells #[.pointer (some ⟨w.heap.size + 4, 2, none⟩)] 44)).drew.drew (w.heap.size + 1) 24 (#[.int .u16 0, .int .u16 0, .int .u16 0, .int .u16 0, .int .u16 0, .int .u16 0, .int .u16 0, .int .u16 0, .int .u16 0, .int .u16 0, .int .u16 0, .int .u16 0, .int .u16 0, .int .u8 0, .int .u8 0, .bool false, .bool false, .bool false, .bool false, .int .i64 0] : Array Value) := Row.alloc (w := W3.setCell ⟨w.heap.size + 4, 2, none⟩ (.int .u16 (256 * v + de % 256))) (rZ.out.far (p := ⟨w.heap.size + 4, 2, none⟩) (by simp) (.int .u16 (256 * v + de % 256))) (.cells #[.pointer (some ⟨w.heap.size + 4, 2, none⟩)] 44)
  have uZ := Lib.hid uZ
  have HB1 := HB.out.setCell (p := ⟨w.heap.size + 4, 2, none⟩) (Nat.le_add_right _ _) (.int .u16 (256 * v + de % 256))
  have HB' : Hid (Below w.heap.size w ((W3.setCell ⟨w.heap.size + 4, 2, none⟩ (.int .u16 (256 * v + de % 256))).alloc (.cells #[.pointer (some ⟨w.heap.size + 4, 2, none⟩)] 44)).drew.drew) := Lib.hid ((HB1.alloc HB1.size (.cells #[.pointer (some ⟨w.heap.size + 4, 2, none⟩)] 44)).drew.drew)
  clear HB1
  clear q0 h0 h1 h2 qF qZ rF rZ rA rH HB HW
  go_region_with (first
    | (go_at_call 41; refine (fde_any _ _).mono ?_; rintro e w' ⟨rfl, rfl⟩)
    | (go_at_call 38; refine (setter_hi _ _).mono ?_; rintro e w' ⟨rfl, rfl⟩)
    | (go_at_call 52; refine kk.out.mono ?_; rintro e w' ⟨rfl, rfl⟩))
  all_goals clear kk
  all_goals
    have rF := uF
    have rZ := uZ
    have HB := HB'
    clear uF uZ HB' l0 l1
    generalize ((W3.setCell ⟨w.heap.size + 4, 2, none⟩ (.int .u16 (256 * v + de % 256))).alloc (.cells #[.pointer (some ⟨w.heap.size + 4, 2, none⟩)] 44)).drew.drew = W9' at *
    go_upto_region 6 with (fail)
    obtain ⟨ds, hds⟩ : ∃ ds, ds = (#[.int .u16 af, .int .u16 bc, .int .u16 (256 * v + de % 256), .int .u16 hl, .int .u16 af2, .int .u16 bc2, .int .u16 de2, .int .u16 hl2, .int .u16 ix, .int .u16 iy, .int .u16 sp, .int .u16 pc, .int .u16 wz, .int .u8 i, .int .u8 r, .bool iff1, .bool iff2, .bool halted, .bool late, .int .i64 mode] : Array Value) := ⟨_, rfl⟩
    have i24 : Hid ((Tryd.prog.info? 24).map (·.size) = some ds.size) := Lib.hid (by rw [hds]; exact info24)
    have one : Hid (ds.toList.all (·.oneCell') = true) := Lib.hid (by rw [hds]; rfl)
    have hsz : Hid (ds.size = 20) := Lib.hid (by rw [hds]; rfl)
    have HD := Lib.hid hds
    have hR := rF.out
    rw [← hds] at hR
    clear hds
    apply wp_region_lit
    have i42 : Hid ((Tryd.prog.info? 42).map (·.size) = some ds.size) := Lib.hid (by rw [hsz.out]; exact info42)
    refine wpList_load_row rfl 42 _ rfl _ _ _ rfl hR _ Tryd.underlying42 rfl i42.out ?_
    refine wpList_store_row rfl 24 _ _ rfl (w.heap.size + 1) _ _ ds rfl rfl rZ.out (by rw [hsz.out]; exact Eq.refl 20) i24.out one.out ?_
    have rE := rZ.out.setAll (vs := ds) (by rw [hsz.out]; exact Eq.refl 20)
    have HE9 := Lib.hid (Below.setCellsAll HB.out (b := w.heap.size + 1) (Nat.le_add_right _ _) ds.toList 0)
    generalize W9'.setCells (w.heap.size + 1) 0 ds.toList = W9 at *
    apply wpList_nil
    rename_i hret
    refine hret _ _ (wp_ret ?_)
    try simp only [Exit.inBlock, Exit.then]
    refine bodyPost_ret (results_row rfl rfl rE _ Tryd.underlying24 rfl i24.out) rfl ?_
    exact ⟨(congrArg (fun q => Ending.returned (Value.agg q)) HD.out).trans rfl, HE9.out⟩
set_option maxRecDepth 20000 in
set_option maxHeartbeats 4000000 in
theorem set_3de (g : Rg) (p v : Int) (hx : W16 g.de) (hv : B8 v) (w : World) :
    Calls Tryd.prog 22 #[regsV g, .int .i64 p, .int .i64 3, .int .u8 v] w fun e w' => e = .returned (regsV ({ g with de := 256 * (g.de / 256) + v })) ∧ Below w.heap.size w w' := by
  obtain ⟨af, bc, de, hl, af2, bc2, de2, hl2, ix, iy, sp, pc, wz, i, r, iff1, iff2, halted, late, mode⟩ := g
  have kh := Lib.hid (fun w => halves_any p w)
  have kx := Lib.hid hx
  have kv := Lib.hid hv
  clear hx hv
  obtain ⟨cs, hcs⟩ : ∃ cs, cs = (#[.int .u16 af, .int .u16 bc, .int .u16 de, .int .u16 hl, .int .u16 af2, .int .u16 bc2, .int .u16 de2, .int .u16 hl2, .int .u16 ix, .int .u16 iy, .int .u16 sp, .int .u16 pc, .int .u16 wz, .int .u8 i, .int .u8 r, .bool iff1, .bool iff2, .bool halted, .bool late, .int .i64 mode] : Array Value) := ⟨_, rfl⟩
  have HE := Lib.hid hcs
  show Calls _ _ #[.agg (#[.int .u16 af, .int .u16 bc, .int .u16 de, .int .u16 hl, .int .u16 af2, .int .u16 bc2, .int .u16 de2, .int .u16 hl2, .int .u16 ix, .int .u16 iy, .int .u16 sp, .int .u16 pc, .int .u16 wz, .int .u8 i, .int .u8 r, .bool iff1, .bool iff2, .bool halted, .bool late, .int .i64 mode] : Array Value), .int .i64 p, .int .i64 3, .int .u8 v] _ _
  rw [← hcs]
  clear hcs
  go_enter Tryd.func22, Tryd.ntmps22
  go_upto_region 1 with (fail)
  have rA := (Row.new w 24 cs).alloc (.cells (#[.int .u16 0, .int .u16 0, .int .u16 0, .int .u16 0, .int .u16 0, .int .u16 0, .int .u16 0, .int .u16 0, .int .u16 0, .int .u16 0, .int .u16 0, .int .u16 0, .int .u16 0, .int .u8 0, .int .u8 0, .bool false, .bool false, .bool false, .bool false, .int .i64 0] : Array Value) 24)
  have rZ := Row.new (w.alloc (.cells cs 24)) 24 (#[.int .u16 0, .int .u16 0, .int .u16 0, .int .u16 0, .int .u16 0, .int .u16 0, .int .u16 0, .int .u16 0, .int .u16 0, .int .u16 0, .int .u16 0, .int .u16 0, .int .u16 0, .int .u8 0, .int .u8 0, .bool false, .bool false, .bool false, .bool false, .int .i64 0] : Array Value)
  rw [show (w.alloc (.cells cs 24)).heap.size = w.heap.size + 1 by simp] at rZ
  have rZ := Lib.hid rZ
  have HB := Lib.hid (((Below.refl w.heap.size w).alloc (Nat.le_refl _) (.cells cs 24)).alloc (by simp) (.cells (#[.int .u16 0, .int .u16 0, .int .u16 0, .int .u16 0, .int .u16 0, .int .u16 0, .int .u16 0, .int .u16 0, .int .u16 0, .int .u16 0, .int .u16 0, .int .u16 0, .int .u16 0, .int .u8 0, .int .u8 0, .bool false, .bool false, .bool false, .bool false, .int .i64 0] : Array Value) 24))
  have HW := Lib.hid (show ((w.alloc (.cells cs 24)).alloc (.cells (#[.int .u16 0, .int .u16 0, .int .u16 0, .int .u16 0, .int .u16 0, .int .u16 0, .int .u16 0, .int .u16 0, .int .u16 0, .int .u16 0, .int .u16 0, .int .u16 0, .int .u16 0, .int .u8 0, .int .u8 0, .bool false, .bool false, .bool false, .bool false, .int .i64 0] : Array Value) 24)).heap.size = w.heap.size + 2 by simp)
  generalize (w.alloc (.cells cs 24)).alloc (.cells (#[.int .u16 0, .int .u16 0, .int .u16 0, .int .u16 0, .int .u16 0, .int .u16 0, .int .u16 0, .int .u16 0, .int .u16 0, .int .u16 0, .int .u16 0, .int .u16 0, .int .u16 0, .int .u8 0, .int .u8 0, .bool false, .bool false, .bool false, .bool false, .int .i64 0] : Array Value) 24) = W0 at *
  rw [HE.out] at rA
  have rA := Lib.hid rA
  have hltA := rA.out.lt
  have hltZ := rZ.out.lt
  go_wp2_with fail
  refine (kh.out _).mono ?_
  rintro e w2 ⟨rfl, rfl⟩
  have hlk := lkh_3 (p := p) (World.alloc_heap_new W0 (.map (halfEnts p) 7))
  have qA := Lib.hid (rA.out.alloc (.map (halfEnts p) 7))
  have qZ := Lib.hid (rZ.out.alloc (.map (halfEnts p) 7))
  have HB' := Lib.hid (HB.out.alloc HB.out.size (.map (halfEnts p) 7))
  have HW' := Lib.hid (show (W0.alloc (.map (halfEnts p) 7)).heap.size = w.heap.size + 3 by rw [World.size_alloc, HW.out])
  clear HB HW rA rZ
  have HB := HB'
  have HW := HW'
  have rA := qA
  have rZ := qZ
  clear HB' HW' qA qZ
  generalize W0.alloc (.map (halfEnts p) 7) = W1 at *
  generalize W0.heap.size = M at *
  go_upto_region 2 with (fail)
  have rH := Row.new W1 38 (#[vDE, .bool false] : Array Value)
  rw [HW.out] at rH
  rw [HW.out]
  have rH := Lib.hid rH
  have qA := Lib.hid (rA.out.alloc (.cells (#[vDE, .bool false] : Array Value) 38))
  have qZ := Lib.hid (rZ.out.alloc (.cells (#[vDE, .bool false] : Array Value) 38))
  have HB' := Lib.hid (HB.out.alloc HB.out.size (.cells (#[vDE, .bool false] : Array Value) 38))
  have HW' := Lib.hid (show (W1.alloc (.cells (#[vDE, .bool false] : Array Value) 38)).heap.size = w.heap.size + 4 by rw [World.size_alloc, HW.out])
  clear HB HW rA rZ
  have HB := HB'
  have HW := HW'
  have rA := qA
  have rZ := qZ
  clear HB' HW' qA qZ
  generalize W1.alloc (.cells (#[vDE, .bool false] : Array Value) 38) = W2 at *
  obtain ⟨es, hes⟩ : ∃ es, es = (#[.int .u16 af, .int .u16 bc, .int .u16 de, .int .u16 hl, .int .u16 af2, .int .u16 bc2, .int .u16 de2, .int .u16 hl2, .int .u16 ix, .int .u16 iy, .int .u16 sp, .int .u16 pc, .int .u16 wz, .int .u8 i, .int .u8 r, .bool iff1, .bool iff2, .bool halted, .bool late, .int .i64 mode] : Array Value) := ⟨_, rfl⟩
  have HS := Lib.hid hes
  have hA := rA.out
  rw [← hes] at hA
  have hA := Lib.hid hA
  have iR : Hid ((Tryd.prog.info? 24).map (·.size) = some es.size) := Lib.hid (by rw [hes]; exact info24)
  have iE : Hid ((Tryd.prog.info? 42).map (·.size) = some es.size) := Lib.hid (by rw [hes]; exact info42)
  have oE : Hid (es.toList.all (·.oneCell') = true) := Lib.hid (by rw [hes]; rfl)
  have sE : Hid (es.size = 20) := Lib.hid (by rw [hes]; rfl)
  clear hes rA
  go_upto_region 5 with (first
    | (refine wpList_load_row rfl 24 _ rfl _ _ _ rfl hA.out _ Tryd.underlying24 rfl iR.out ?_)
    | (refine wpList_store_top rfl 42 _ _ rfl _ _ _ _ es rfl rfl (by simp) (by rw [sE.out]; exact Eq.refl 20) iE.out oE.out ?_))
  have rF := Row.new W2 42 es
  have qA := hA.out.alloc (.cells es 42)
  have qZ := rZ.out.alloc (.cells es 42)
  have qH := rH.out.alloc (.cells es 42)
  have HB' := Lib.hid (HB.out.alloc HB.out.size (.cells es 42))
  have HW' := Lib.hid (show (W2.alloc (.cells es 42)).heap.size = w.heap.size + 5 by rw [World.size_alloc, HW.out])
  rw [HW.out] at rF
  rw [HW.out]
  clear HB HW hA rZ rH hlk
  have HB := HB'
  have HW := HW'
  clear HB' HW'
  generalize W2.alloc (.cells es 42) = W3 at *
  rw [HS.out] at rF qA
  have rF := Lib.hid rF
  have rA := Lib.hid qA
  have rZ := Lib.hid qZ
  have rH := Lib.hid qH
  clear qA qZ qH
  have hltF := rF.out.lt
  have l0 := rH.out.cell 0
  have l1 := rH.out.cell 1
  go_upto_region 5 with (fail)
  have q0 := Row.new W3.drew 44 #[.pointer (some ⟨w.heap.size + 4, 2, none⟩)]
  have qF : Row (W3.drew.alloc (.cells #[.pointer (some ⟨w.heap.size + 4, 2, none⟩)] 44)) (w.heap.size + 4) 42 (#[.int .u16 af, .int .u16 bc, .int .u16 de, .int .u16 hl, .int .u16 af2, .int .u16 bc2, .int .u16 de2, .int .u16 hl2, .int .u16 ix, .int .u16 iy, .int .u16 sp, .int .u16 pc, .int .u16 wz, .int .u8 i, .int .u8 r, .bool iff1, .bool iff2, .bool halted, .bool late, .int .i64 mode] : Array Value) := Row.alloc (w := W3.drew) rF.out (.cells #[.pointer (some ⟨w.heap.size + 4, 2, none⟩)] 44)
  have qZ : Row (W3.drew.alloc (.cells #[.pointer (some ⟨w.heap.size + 4, 2, none⟩)] 44)) (w.heap.size + 1) 24 (#[.int .u16 0, .int .u16 0, .int .u16 0, .int .u16 0, .int .u16 0, .int .u16 0, .int .u16 0, .int .u16 0, .int .u16 0, .int .u16 0, .int .u16 0, .int .u16 0, .int .u16 0, .int .u8 0, .int .u8 0, .bool false, .bool false, .bool false, .bool false, .int .i64 0] : Array Value) := Row.alloc (w := W3.drew) rZ.out (.cells #[.pointer (some ⟨w.heap.size + 4, 2, none⟩)] 44)
  have h0 := q0.cell 0
  have h1 : (W3.drew.alloc (.cells #[.pointer (some ⟨w.heap.size + 4, 2, none⟩)] 44)).cell? ⟨w.heap.size + 4, 2, none⟩ = some (.int .u16 de) := qF.cell 2
  have h2 := qF.frozen 2
  have kk := Lib.hid (setLo_any W3.drew.heap.size (w.heap.size + 4) 2 de v kx.out kv.out (W3.drew.alloc (.cells #[.pointer (some ⟨w.heap.size + 4, 2, none⟩)] 44)) h0 h1 h2)
  have uF : Row ((W3.setCell ⟨w.heap.size + 4, 2, none⟩ (.int .u16 (256 * (de / 256) + v))).alloc (.cells #[.pointer (some ⟨w.heap.size + 4, 2, none⟩)] 44)).drew.drew (w.heap.size + 4) 42 (#[.int .u16 af, .int .u16 bc, .int .u16 (256 * (de / 256) + v), .int .u16 hl, .int .u16 af2, .int .u16 bc2, .int .u16 de2, .int .u16 hl2, .int .u16 ix, .int .u16 iy, .int .u16 sp, .int .u16 pc, .int .u16 wz, .int .u8 i, .int .u8 r, .bool iff1, .bool iff2, .bool halted, .bool late, .int .i64 mode] : Array Value) := Row.alloc (w := W3.setCell ⟨w.heap.size + 4, 2, none⟩ (.int .u16 (256 * (de / 256) + v))) (rF.out.set 2 (.int .u16 (256 * (de / 256) + v))) (.cells #[.pointer (some ⟨w.heap.size + 4, 2, none⟩)] 44)
  have uF := Lib.hid uF
  have uZ : Row ((W3.setCell ⟨w.heap.size + 4, 2, none⟩ (.int .u16 (256 * (de / 256) + v))).alloc (.cells #[.pointer (some ⟨w.heap.size + 4, 2, none⟩)] 44)).drew.drew (w.heap.size + 1) 24 (#[.int .u16 0, .int .u16 0, .int .u16 0, .int .u16 0, .int .u16 0, .int .u16 0, .int .u16 0, .int .u16 0, .int .u16 0, .int .u16 0, .int .u16 0, .int .u16 0, .int .u16 0, .int .u8 0, .int .u8 0, .bool false, .bool false, .bool false, .bool false, .int .i64 0] : Array Value) := Row.alloc (w := W3.setCell ⟨w.heap.size + 4, 2, none⟩ (.int .u16 (256 * (de / 256) + v))) (rZ.out.far (p := ⟨w.heap.size + 4, 2, none⟩) (by simp) (.int .u16 (256 * (de / 256) + v))) (.cells #[.pointer (some ⟨w.heap.size + 4, 2, none⟩)] 44)
  have uZ := Lib.hid uZ
  have HB1 := HB.out.setCell (p := ⟨w.heap.size + 4, 2, none⟩) (Nat.le_add_right _ _) (.int .u16 (256 * (de / 256) + v))
  have HB' : Hid (Below w.heap.size w ((W3.setCell ⟨w.heap.size + 4, 2, none⟩ (.int .u16 (256 * (de / 256) + v))).alloc (.cells #[.pointer (some ⟨w.heap.size + 4, 2, none⟩)] 44)).drew.drew) := Lib.hid ((HB1.alloc HB1.size (.cells #[.pointer (some ⟨w.heap.size + 4, 2, none⟩)] 44)).drew.drew)
  clear HB1
  clear q0 h0 h1 h2 qF qZ rF rZ rA rH HB HW
  go_region_with (first
    | (go_at_call 41; refine (fde_any _ _).mono ?_; rintro e w' ⟨rfl, rfl⟩)
    | (go_at_call 38; refine (setter_lo _ _).mono ?_; rintro e w' ⟨rfl, rfl⟩)
    | (go_at_call 54; refine kk.out.mono ?_; rintro e w' ⟨rfl, rfl⟩))
  all_goals clear kk
  all_goals
    have rF := uF
    have rZ := uZ
    have HB := HB'
    clear uF uZ HB' l0 l1
    generalize ((W3.setCell ⟨w.heap.size + 4, 2, none⟩ (.int .u16 (256 * (de / 256) + v))).alloc (.cells #[.pointer (some ⟨w.heap.size + 4, 2, none⟩)] 44)).drew.drew = W9' at *
    go_upto_region 6 with (fail)
    obtain ⟨ds, hds⟩ : ∃ ds, ds = (#[.int .u16 af, .int .u16 bc, .int .u16 (256 * (de / 256) + v), .int .u16 hl, .int .u16 af2, .int .u16 bc2, .int .u16 de2, .int .u16 hl2, .int .u16 ix, .int .u16 iy, .int .u16 sp, .int .u16 pc, .int .u16 wz, .int .u8 i, .int .u8 r, .bool iff1, .bool iff2, .bool halted, .bool late, .int .i64 mode] : Array Value) := ⟨_, rfl⟩
    have i24 : Hid ((Tryd.prog.info? 24).map (·.size) = some ds.size) := Lib.hid (by rw [hds]; exact info24)
    have one : Hid (ds.toList.all (·.oneCell') = true) := Lib.hid (by rw [hds]; rfl)
    have hsz : Hid (ds.size = 20) := Lib.hid (by rw [hds]; rfl)
    have HD := Lib.hid hds
    have hR := rF.out
    rw [← hds] at hR
    clear hds
    apply wp_region_lit
    have i42 : Hid ((Tryd.prog.info? 42).map (·.size) = some ds.size) := Lib.hid (by rw [hsz.out]; exact info42)
    refine wpList_load_row rfl 42 _ rfl _ _ _ rfl hR _ Tryd.underlying42 rfl i42.out ?_
    refine wpList_store_row rfl 24 _ _ rfl (w.heap.size + 1) _ _ ds rfl rfl rZ.out (by rw [hsz.out]; exact Eq.refl 20) i24.out one.out ?_
    have rE := rZ.out.setAll (vs := ds) (by rw [hsz.out]; exact Eq.refl 20)
    have HE9 := Lib.hid (Below.setCellsAll HB.out (b := w.heap.size + 1) (Nat.le_add_right _ _) ds.toList 0)
    generalize W9'.setCells (w.heap.size + 1) 0 ds.toList = W9 at *
    apply wpList_nil
    rename_i hret
    refine hret _ _ (wp_ret ?_)
    try simp only [Exit.inBlock, Exit.then]
    refine bodyPost_ret (results_row rfl rfl rE _ Tryd.underlying24 rfl i24.out) rfl ?_
    exact ⟨(congrArg (fun q => Ending.returned (Value.agg q)) HD.out).trans rfl, HE9.out⟩
set_option maxRecDepth 20000 in
set_option maxHeartbeats 4000000 in
theorem set_4ix (g : Rg) (p v : Int) (hF : thirdF p = 55) (hx : W16 g.ix) (hv : B8 v) (w : World) :
    Calls Tryd.prog 22 #[regsV g, .int .i64 p, .int .i64 4, .int .u8 v] w fun e w' => e = .returned (regsV ({ g with ix := 256 * v + g.ix % 256 })) ∧ Below w.heap.size w w' := by
  obtain ⟨af, bc, de, hl, af2, bc2, de2, hl2, ix, iy, sp, pc, wz, i, r, iff1, iff2, halted, late, mode⟩ := g
  have kh := Lib.hid (fun w => halves_any p w)
  have kx := Lib.hid hx
  have kv := Lib.hid hv
  clear hx hv
  obtain ⟨cs, hcs⟩ : ∃ cs, cs = (#[.int .u16 af, .int .u16 bc, .int .u16 de, .int .u16 hl, .int .u16 af2, .int .u16 bc2, .int .u16 de2, .int .u16 hl2, .int .u16 ix, .int .u16 iy, .int .u16 sp, .int .u16 pc, .int .u16 wz, .int .u8 i, .int .u8 r, .bool iff1, .bool iff2, .bool halted, .bool late, .int .i64 mode] : Array Value) := ⟨_, rfl⟩
  have HE := Lib.hid hcs
  show Calls _ _ #[.agg (#[.int .u16 af, .int .u16 bc, .int .u16 de, .int .u16 hl, .int .u16 af2, .int .u16 bc2, .int .u16 de2, .int .u16 hl2, .int .u16 ix, .int .u16 iy, .int .u16 sp, .int .u16 pc, .int .u16 wz, .int .u8 i, .int .u8 r, .bool iff1, .bool iff2, .bool halted, .bool late, .int .i64 mode] : Array Value), .int .i64 p, .int .i64 4, .int .u8 v] _ _
  rw [← hcs]
  clear hcs
  go_enter Tryd.func22, Tryd.ntmps22
  go_upto_region 1 with (fail)
  have rA := (Row.new w 24 cs).alloc (.cells (#[.int .u16 0, .int .u16 0, .int .u16 0, .int .u16 0, .int .u16 0, .int .u16 0, .int .u16 0, .int .u16 0, .int .u16 0, .int .u16 0, .int .u16 0, .int .u16 0, .int .u16 0, .int .u8 0, .int .u8 0, .bool false, .bool false, .bool false, .bool false, .int .i64 0] : Array Value) 24)
  have rZ := Row.new (w.alloc (.cells cs 24)) 24 (#[.int .u16 0, .int .u16 0, .int .u16 0, .int .u16 0, .int .u16 0, .int .u16 0, .int .u16 0, .int .u16 0, .int .u16 0, .int .u16 0, .int .u16 0, .int .u16 0, .int .u16 0, .int .u8 0, .int .u8 0, .bool false, .bool false, .bool false, .bool false, .int .i64 0] : Array Value)
  rw [show (w.alloc (.cells cs 24)).heap.size = w.heap.size + 1 by simp] at rZ
  have rZ := Lib.hid rZ
  have HB := Lib.hid (((Below.refl w.heap.size w).alloc (Nat.le_refl _) (.cells cs 24)).alloc (by simp) (.cells (#[.int .u16 0, .int .u16 0, .int .u16 0, .int .u16 0, .int .u16 0, .int .u16 0, .int .u16 0, .int .u16 0, .int .u16 0, .int .u16 0, .int .u16 0, .int .u16 0, .int .u16 0, .int .u8 0, .int .u8 0, .bool false, .bool false, .bool false, .bool false, .int .i64 0] : Array Value) 24))
  have HW := Lib.hid (show ((w.alloc (.cells cs 24)).alloc (.cells (#[.int .u16 0, .int .u16 0, .int .u16 0, .int .u16 0, .int .u16 0, .int .u16 0, .int .u16 0, .int .u16 0, .int .u16 0, .int .u16 0, .int .u16 0, .int .u16 0, .int .u16 0, .int .u8 0, .int .u8 0, .bool false, .bool false, .bool false, .bool false, .int .i64 0] : Array Value) 24)).heap.size = w.heap.size + 2 by simp)
  generalize (w.alloc (.cells cs 24)).alloc (.cells (#[.int .u16 0, .int .u16 0, .int .u16 0, .int .u16 0, .int .u16 0, .int .u16 0, .int .u16 0, .int .u16 0, .int .u16 0, .int .u16 0, .int .u16 0, .int .u16 0, .int .u16 0, .int .u8 0, .int .u8 0, .bool false, .bool false, .bool false, .bool false, .int .i64 0] : Array Value) 24) = W0 at *
  rw [HE.out] at rA
  have rA := Lib.hid rA
  have hltA := rA.out.lt
  have hltZ := rZ.out.lt
  go_wp2_with fail
  refine (kh.out _).mono ?_
  rintro e w2 ⟨rfl, rfl⟩
  have hlk := lkh_4 (p := p) hF (World.alloc_heap_new W0 (.map (halfEnts p) 7))
  have qA := Lib.hid (rA.out.alloc (.map (halfEnts p) 7))
  have qZ := Lib.hid (rZ.out.alloc (.map (halfEnts p) 7))
  have HB' := Lib.hid (HB.out.alloc HB.out.size (.map (halfEnts p) 7))
  have HW' := Lib.hid (show (W0.alloc (.map (halfEnts p) 7)).heap.size = w.heap.size + 3 by rw [World.size_alloc, HW.out])
  clear HB HW rA rZ
  have HB := HB'
  have HW := HW'
  have rA := qA
  have rZ := qZ
  clear HB' HW' qA qZ
  generalize W0.alloc (.map (halfEnts p) 7) = W1 at *
  generalize W0.heap.size = M at *
  go_upto_region 2 with (fail)
  have rH := Row.new W1 38 (#[(.func (.func 55) #[] #[]), .bool true] : Array Value)
  rw [HW.out] at rH
  rw [HW.out]
  have rH := Lib.hid rH
  have qA := Lib.hid (rA.out.alloc (.cells (#[(.func (.func 55) #[] #[]), .bool true] : Array Value) 38))
  have qZ := Lib.hid (rZ.out.alloc (.cells (#[(.func (.func 55) #[] #[]), .bool true] : Array Value) 38))
  have HB' := Lib.hid (HB.out.alloc HB.out.size (.cells (#[(.func (.func 55) #[] #[]), .bool true] : Array Value) 38))
  have HW' := Lib.hid (show (W1.alloc (.cells (#[(.func (.func 55) #[] #[]), .bool true] : Array Value) 38)).heap.size = w.heap.size + 4 by rw [World.size_alloc, HW.out])
  clear HB HW rA rZ
  have HB := HB'
  have HW := HW'
  have rA := qA
  have rZ := qZ
  clear HB' HW' qA qZ
  generalize W1.alloc (.cells (#[(.func (.func 55) #[] #[]), .bool true] : Array Value) 38) = W2 at *
  obtain ⟨es, hes⟩ : ∃ es, es = (#[.int .u16 af, .int .u16 bc, .int .u16 de, .int .u16 hl, .int .u16 af2, .int .u16 bc2, .int .u16 de2, .int .u16 hl2, .int .u16 ix, .int .u16 iy, .int .u16 sp, .int .u16 pc, .int .u16 wz, .int .u8 i, .int .u8 r, .bool iff1, .bool iff2, .bool halted, .bool late, .int .i64 mode] : Array Value) := ⟨_, rfl⟩
  have HS := Lib.hid hes
  have hA := rA.out
  rw [← hes] at hA
  have hA := Lib.hid hA
  have iR : Hid ((Tryd.prog.info? 24).map (·.size) = some es.size) := Lib.hid (by rw [hes]; exact info24)
  have iE : Hid ((Tryd.prog.info? 42).map (·.size) = some es.size) := Lib.hid (by rw [hes]; exact info42)
  have oE : Hid (es.toList.all (·.oneCell') = true) := Lib.hid (by rw [hes]; rfl)
  have sE : Hid (es.size = 20) := Lib.hid (by rw [hes]; rfl)
  clear hes rA
  go_upto_region 5 with (first
    | (refine wpList_load_row rfl 24 _ rfl _ _ _ rfl hA.out _ Tryd.underlying24 rfl iR.out ?_)
    | (refine wpList_store_top rfl 42 _ _ rfl _ _ _ _ es rfl rfl (by simp) (by rw [sE.out]; exact Eq.refl 20) iE.out oE.out ?_))
  have rF := Row.new W2 42 es
  have qA := hA.out.alloc (.cells es 42)
  have qZ := rZ.out.alloc (.cells es 42)
  have qH := rH.out.alloc (.cells es 42)
  have HB' := Lib.hid (HB.out.alloc HB.out.size (.cells es 42))
  have HW' := Lib.hid (show (W2.alloc (.cells es 42)).heap.size = w.heap.size + 5 by rw [World.size_alloc, HW.out])
  rw [HW.out] at rF
  rw [HW.out]
  clear HB HW hA rZ rH hlk
  have HB := HB'
  have HW := HW'
  clear HB' HW'
  generalize W2.alloc (.cells es 42) = W3 at *
  rw [HS.out] at rF qA
  have rF := Lib.hid rF
  have rA := Lib.hid qA
  have rZ := Lib.hid qZ
  have rH := Lib.hid qH
  clear qA qZ qH
  have hltF := rF.out.lt
  have l0 := rH.out.cell 0
  have l1 := rH.out.cell 1
  go_upto_region 5 with (fail)
  have q0 := Row.new W3.drew 44 #[.pointer (some ⟨w.heap.size + 4, 8, none⟩)]
  have qF : Row (W3.drew.alloc (.cells #[.pointer (some ⟨w.heap.size + 4, 8, none⟩)] 44)) (w.heap.size + 4) 42 (#[.int .u16 af, .int .u16 bc, .int .u16 de, .int .u16 hl, .int .u16 af2, .int .u16 bc2, .int .u16 de2, .int .u16 hl2, .int .u16 ix, .int .u16 iy, .int .u16 sp, .int .u16 pc, .int .u16 wz, .int .u8 i, .int .u8 r, .bool iff1, .bool iff2, .bool halted, .bool late, .int .i64 mode] : Array Value) := Row.alloc (w := W3.drew) rF.out (.cells #[.pointer (some ⟨w.heap.size + 4, 8, none⟩)] 44)
  have qZ : Row (W3.drew.alloc (.cells #[.pointer (some ⟨w.heap.size + 4, 8, none⟩)] 44)) (w.heap.size + 1) 24 (#[.int .u16 0, .int .u16 0, .int .u16 0, .int .u16 0, .int .u16 0, .int .u16 0, .int .u16 0, .int .u16 0, .int .u16 0, .int .u16 0, .int .u16 0, .int .u16 0, .int .u16 0, .int .u8 0, .int .u8 0, .bool false, .bool false, .bool false, .bool false, .int .i64 0] : Array Value) := Row.alloc (w := W3.drew) rZ.out (.cells #[.pointer (some ⟨w.heap.size + 4, 8, none⟩)] 44)
  have h0 := q0.cell 0
  have h1 : (W3.drew.alloc (.cells #[.pointer (some ⟨w.heap.size + 4, 8, none⟩)] 44)).cell? ⟨w.heap.size + 4, 8, none⟩ = some (.int .u16 ix) := qF.cell 8
  have h2 := qF.frozen 8
  have kk := Lib.hid (setHi_any W3.drew.heap.size (w.heap.size + 4) 8 ix v kx.out kv.out (W3.drew.alloc (.cells #[.pointer (some ⟨w.heap.size + 4, 8, none⟩)] 44)) h0 h1 h2)
  have uF : Row ((W3.setCell ⟨w.heap.size + 4, 8, none⟩ (.int .u16 (256 * v + ix % 256))).alloc (.cells #[.pointer (some ⟨w.heap.size + 4, 8, none⟩)] 44)).drew.drew (w.heap.size + 4) 42 (#[.int .u16 af, .int .u16 bc, .int .u16 de, .int .u16 hl, .int .u16 af2, .int .u16 bc2, .int .u16 de2, .int .u16 hl2, .int .u16 (256 * v + ix % 256), .int .u16 iy, .int .u16 sp, .int .u16 pc, .int .u16 wz, .int .u8 i, .int .u8 r, .bool iff1, .bool iff2, .bool halted, .bool late, .int .i64 mode] : Array Value) := Row.alloc (w := W3.setCell ⟨w.heap.size + 4, 8, none⟩ (.int .u16 (256 * v + ix % 256))) (rF.out.set 8 (.int .u16 (256 * v + ix % 256))) (.cells #[.pointer (some ⟨w.heap.size + 4, 8, none⟩)] 44)
  have uF := Lib.hid uF
  have uZ : Row ((W3.setCell ⟨w.heap.size + 4, 8, none⟩ (.int .u16 (256 * v + ix % 256))).alloc (.cells #[.pointer (some ⟨w.heap.size + 4, 8, none⟩)] 44)).drew.drew (w.heap.size + 1) 24 (#[.int .u16 0, .int .u16 0, .int .u16 0, .int .u16 0, .int .u16 0, .int .u16 0, .int .u16 0, .int .u16 0, .int .u16 0, .int .u16 0, .int .u16 0, .int .u16 0, .int .u16 0, .int .u8 0, .int .u8 0, .bool false, .bool false, .bool false, .bool false, .int .i64 0] : Array Value) := Row.alloc (w := W3.setCell ⟨w.heap.size + 4, 8, none⟩ (.int .u16 (256 * v + ix % 256))) (rZ.out.far (p := ⟨w.heap.size + 4, 8, none⟩) (by simp) (.int .u16 (256 * v + ix % 256))) (.cells #[.pointer (some ⟨w.heap.size + 4, 8, none⟩)] 44)
  have uZ := Lib.hid uZ
  have HB1 := HB.out.setCell (p := ⟨w.heap.size + 4, 8, none⟩) (Nat.le_add_right _ _) (.int .u16 (256 * v + ix % 256))
  have HB' : Hid (Below w.heap.size w ((W3.setCell ⟨w.heap.size + 4, 8, none⟩ (.int .u16 (256 * v + ix % 256))).alloc (.cells #[.pointer (some ⟨w.heap.size + 4, 8, none⟩)] 44)).drew.drew) := Lib.hid ((HB1.alloc HB1.size (.cells #[.pointer (some ⟨w.heap.size + 4, 8, none⟩)] 44)).drew.drew)
  clear HB1
  clear q0 h0 h1 h2 qF qZ rF rZ rA rH HB HW
  go_region_with (first
    | (go_at_call 55; refine (fix_any _ _).mono ?_; rintro e w' ⟨rfl, rfl⟩)
    | (go_at_call 38; refine (setter_hi _ _).mono ?_; rintro e w' ⟨rfl, rfl⟩)
    | (go_at_call 52; refine kk.out.mono ?_; rintro e w' ⟨rfl, rfl⟩))
  all_goals clear kk
  all_goals
    have rF := uF
    have rZ := uZ
    have HB := HB'
    clear uF uZ HB' l0 l1
    generalize ((W3.setCell ⟨w.heap.size + 4, 8, none⟩ (.int .u16 (256 * v + ix % 256))).alloc (.cells #[.pointer (some ⟨w.heap.size + 4, 8, none⟩)] 44)).drew.drew = W9' at *
    go_upto_region 6 with (fail)
    obtain ⟨ds, hds⟩ : ∃ ds, ds = (#[.int .u16 af, .int .u16 bc, .int .u16 de, .int .u16 hl, .int .u16 af2, .int .u16 bc2, .int .u16 de2, .int .u16 hl2, .int .u16 (256 * v + ix % 256), .int .u16 iy, .int .u16 sp, .int .u16 pc, .int .u16 wz, .int .u8 i, .int .u8 r, .bool iff1, .bool iff2, .bool halted, .bool late, .int .i64 mode] : Array Value) := ⟨_, rfl⟩
    have i24 : Hid ((Tryd.prog.info? 24).map (·.size) = some ds.size) := Lib.hid (by rw [hds]; exact info24)
    have one : Hid (ds.toList.all (·.oneCell') = true) := Lib.hid (by rw [hds]; rfl)
    have hsz : Hid (ds.size = 20) := Lib.hid (by rw [hds]; rfl)
    have HD := Lib.hid hds
    have hR := rF.out
    rw [← hds] at hR
    clear hds
    apply wp_region_lit
    have i42 : Hid ((Tryd.prog.info? 42).map (·.size) = some ds.size) := Lib.hid (by rw [hsz.out]; exact info42)
    refine wpList_load_row rfl 42 _ rfl _ _ _ rfl hR _ Tryd.underlying42 rfl i42.out ?_
    refine wpList_store_row rfl 24 _ _ rfl (w.heap.size + 1) _ _ ds rfl rfl rZ.out (by rw [hsz.out]; exact Eq.refl 20) i24.out one.out ?_
    have rE := rZ.out.setAll (vs := ds) (by rw [hsz.out]; exact Eq.refl 20)
    have HE9 := Lib.hid (Below.setCellsAll HB.out (b := w.heap.size + 1) (Nat.le_add_right _ _) ds.toList 0)
    generalize W9'.setCells (w.heap.size + 1) 0 ds.toList = W9 at *
    apply wpList_nil
    rename_i hret
    refine hret _ _ (wp_ret ?_)
    try simp only [Exit.inBlock, Exit.then]
    refine bodyPost_ret (results_row rfl rfl rE _ Tryd.underlying24 rfl i24.out) rfl ?_
    exact ⟨(congrArg (fun q => Ending.returned (Value.agg q)) HD.out).trans rfl, HE9.out⟩
set_option maxRecDepth 20000 in
set_option maxHeartbeats 4000000 in
theorem set_4iy (g : Rg) (p v : Int) (hF : thirdF p = 56) (hx : W16 g.iy) (hv : B8 v) (w : World) :
    Calls Tryd.prog 22 #[regsV g, .int .i64 p, .int .i64 4, .int .u8 v] w fun e w' => e = .returned (regsV ({ g with iy := 256 * v + g.iy % 256 })) ∧ Below w.heap.size w w' := by
  obtain ⟨af, bc, de, hl, af2, bc2, de2, hl2, ix, iy, sp, pc, wz, i, r, iff1, iff2, halted, late, mode⟩ := g
  have kh := Lib.hid (fun w => halves_any p w)
  have kx := Lib.hid hx
  have kv := Lib.hid hv
  clear hx hv
  obtain ⟨cs, hcs⟩ : ∃ cs, cs = (#[.int .u16 af, .int .u16 bc, .int .u16 de, .int .u16 hl, .int .u16 af2, .int .u16 bc2, .int .u16 de2, .int .u16 hl2, .int .u16 ix, .int .u16 iy, .int .u16 sp, .int .u16 pc, .int .u16 wz, .int .u8 i, .int .u8 r, .bool iff1, .bool iff2, .bool halted, .bool late, .int .i64 mode] : Array Value) := ⟨_, rfl⟩
  have HE := Lib.hid hcs
  show Calls _ _ #[.agg (#[.int .u16 af, .int .u16 bc, .int .u16 de, .int .u16 hl, .int .u16 af2, .int .u16 bc2, .int .u16 de2, .int .u16 hl2, .int .u16 ix, .int .u16 iy, .int .u16 sp, .int .u16 pc, .int .u16 wz, .int .u8 i, .int .u8 r, .bool iff1, .bool iff2, .bool halted, .bool late, .int .i64 mode] : Array Value), .int .i64 p, .int .i64 4, .int .u8 v] _ _
  rw [← hcs]
  clear hcs
  go_enter Tryd.func22, Tryd.ntmps22
  go_upto_region 1 with (fail)
  have rA := (Row.new w 24 cs).alloc (.cells (#[.int .u16 0, .int .u16 0, .int .u16 0, .int .u16 0, .int .u16 0, .int .u16 0, .int .u16 0, .int .u16 0, .int .u16 0, .int .u16 0, .int .u16 0, .int .u16 0, .int .u16 0, .int .u8 0, .int .u8 0, .bool false, .bool false, .bool false, .bool false, .int .i64 0] : Array Value) 24)
  have rZ := Row.new (w.alloc (.cells cs 24)) 24 (#[.int .u16 0, .int .u16 0, .int .u16 0, .int .u16 0, .int .u16 0, .int .u16 0, .int .u16 0, .int .u16 0, .int .u16 0, .int .u16 0, .int .u16 0, .int .u16 0, .int .u16 0, .int .u8 0, .int .u8 0, .bool false, .bool false, .bool false, .bool false, .int .i64 0] : Array Value)
  rw [show (w.alloc (.cells cs 24)).heap.size = w.heap.size + 1 by simp] at rZ
  have rZ := Lib.hid rZ
  have HB := Lib.hid (((Below.refl w.heap.size w).alloc (Nat.le_refl _) (.cells cs 24)).alloc (by simp) (.cells (#[.int .u16 0, .int .u16 0, .int .u16 0, .int .u16 0, .int .u16 0, .int .u16 0, .int .u16 0, .int .u16 0, .int .u16 0, .int .u16 0, .int .u16 0, .int .u16 0, .int .u16 0, .int .u8 0, .int .u8 0, .bool false, .bool false, .bool false, .bool false, .int .i64 0] : Array Value) 24))
  have HW := Lib.hid (show ((w.alloc (.cells cs 24)).alloc (.cells (#[.int .u16 0, .int .u16 0, .int .u16 0, .int .u16 0, .int .u16 0, .int .u16 0, .int .u16 0, .int .u16 0, .int .u16 0, .int .u16 0, .int .u16 0, .int .u16 0, .int .u16 0, .int .u8 0, .int .u8 0, .bool false, .bool false, .bool false, .bool false, .int .i64 0] : Array Value) 24)).heap.size = w.heap.size + 2 by simp)
  generalize (w.alloc (.cells cs 24)).alloc (.cells (#[.int .u16 0, .int .u16 0, .int .u16 0, .int .u16 0, .int .u16 0, .int .u16 0, .int .u16 0, .int .u16 0, .int .u16 0, .int .u16 0, .int .u16 0, .int .u16 0, .int .u16 0, .int .u8 0, .int .u8 0, .bool false, .bool false, .bool false, .bool false, .int .i64 0] : Array Value) 24) = W0 at *
  rw [HE.out] at rA
  have rA := Lib.hid rA
  have hltA := rA.out.lt
  have hltZ := rZ.out.lt
  go_wp2_with fail
  refine (kh.out _).mono ?_
  rintro e w2 ⟨rfl, rfl⟩
  have hlk := lkh_4 (p := p) hF (World.alloc_heap_new W0 (.map (halfEnts p) 7))
  have qA := Lib.hid (rA.out.alloc (.map (halfEnts p) 7))
  have qZ := Lib.hid (rZ.out.alloc (.map (halfEnts p) 7))
  have HB' := Lib.hid (HB.out.alloc HB.out.size (.map (halfEnts p) 7))
  have HW' := Lib.hid (show (W0.alloc (.map (halfEnts p) 7)).heap.size = w.heap.size + 3 by rw [World.size_alloc, HW.out])
  clear HB HW rA rZ
  have HB := HB'
  have HW := HW'
  have rA := qA
  have rZ := qZ
  clear HB' HW' qA qZ
  generalize W0.alloc (.map (halfEnts p) 7) = W1 at *
  generalize W0.heap.size = M at *
  go_upto_region 2 with (fail)
  have rH := Row.new W1 38 (#[(.func (.func 56) #[] #[]), .bool true] : Array Value)
  rw [HW.out] at rH
  rw [HW.out]
  have rH := Lib.hid rH
  have qA := Lib.hid (rA.out.alloc (.cells (#[(.func (.func 56) #[] #[]), .bool true] : Array Value) 38))
  have qZ := Lib.hid (rZ.out.alloc (.cells (#[(.func (.func 56) #[] #[]), .bool true] : Array Value) 38))
  have HB' := Lib.hid (HB.out.alloc HB.out.size (.cells (#[(.func (.func 56) #[] #[]), .bool true] : Array Value) 38))
  have HW' := Lib.hid (show (W1.alloc (.cells (#[(.func (.func 56) #[] #[]), .bool true] : Array Value) 38)).heap.size = w.heap.size + 4 by rw [World.size_alloc, HW.out])
  clear HB HW rA rZ
  have HB := HB'
  have HW := HW'
  have rA := qA
  have rZ := qZ
  clear HB' HW' qA qZ
  generalize W1.alloc (.cells (#[(.func (.func 56) #[] #[]), .bool true] : Array Value) 38) = W2 at *
  obtain ⟨es, hes⟩ : ∃ es, es = (#[.int .u16 af, .int .u16 bc, .int .u16 de, .int .u16 hl, .int .u16 af2, .int .u16 bc2, .int .u16 de2, .int .u16 hl2, .int .u16 ix, .int .u16 iy, .int .u16 sp, .int .u16 pc, .int .u16 wz, .int .u8 i, .int .u8 r, .bool iff1, .bool iff2, .bool halted, .bool late, .int .i64 mode] : Array Value) := ⟨_, rfl⟩
  have HS := Lib.hid hes
  have hA := rA.out
  rw [← hes] at hA
  have hA := Lib.hid hA
  have iR : Hid ((Tryd.prog.info? 24).map (·.size) = some es.size) := Lib.hid (by rw [hes]; exact info24)
  have iE : Hid ((Tryd.prog.info? 42).map (·.size) = some es.size) := Lib.hid (by rw [hes]; exact info42)
  have oE : Hid (es.toList.all (·.oneCell') = true) := Lib.hid (by rw [hes]; rfl)
  have sE : Hid (es.size = 20) := Lib.hid (by rw [hes]; rfl)
  clear hes rA
  go_upto_region 5 with (first
    | (refine wpList_load_row rfl 24 _ rfl _ _ _ rfl hA.out _ Tryd.underlying24 rfl iR.out ?_)
    | (refine wpList_store_top rfl 42 _ _ rfl _ _ _ _ es rfl rfl (by simp) (by rw [sE.out]; exact Eq.refl 20) iE.out oE.out ?_))
  have rF := Row.new W2 42 es
  have qA := hA.out.alloc (.cells es 42)
  have qZ := rZ.out.alloc (.cells es 42)
  have qH := rH.out.alloc (.cells es 42)
  have HB' := Lib.hid (HB.out.alloc HB.out.size (.cells es 42))
  have HW' := Lib.hid (show (W2.alloc (.cells es 42)).heap.size = w.heap.size + 5 by rw [World.size_alloc, HW.out])
  rw [HW.out] at rF
  rw [HW.out]
  clear HB HW hA rZ rH hlk
  have HB := HB'
  have HW := HW'
  clear HB' HW'
  generalize W2.alloc (.cells es 42) = W3 at *
  rw [HS.out] at rF qA
  have rF := Lib.hid rF
  have rA := Lib.hid qA
  have rZ := Lib.hid qZ
  have rH := Lib.hid qH
  clear qA qZ qH
  have hltF := rF.out.lt
  have l0 := rH.out.cell 0
  have l1 := rH.out.cell 1
  go_upto_region 5 with (fail)
  have q0 := Row.new W3.drew 44 #[.pointer (some ⟨w.heap.size + 4, 9, none⟩)]
  have qF : Row (W3.drew.alloc (.cells #[.pointer (some ⟨w.heap.size + 4, 9, none⟩)] 44)) (w.heap.size + 4) 42 (#[.int .u16 af, .int .u16 bc, .int .u16 de, .int .u16 hl, .int .u16 af2, .int .u16 bc2, .int .u16 de2, .int .u16 hl2, .int .u16 ix, .int .u16 iy, .int .u16 sp, .int .u16 pc, .int .u16 wz, .int .u8 i, .int .u8 r, .bool iff1, .bool iff2, .bool halted, .bool late, .int .i64 mode] : Array Value) := Row.alloc (w := W3.drew) rF.out (.cells #[.pointer (some ⟨w.heap.size + 4, 9, none⟩)] 44)
  have qZ : Row (W3.drew.alloc (.cells #[.pointer (some ⟨w.heap.size + 4, 9, none⟩)] 44)) (w.heap.size + 1) 24 (#[.int .u16 0, .int .u16 0, .int .u16 0, .int .u16 0, .int .u16 0, .int .u16 0, .int .u16 0, .int .u16 0, .int .u16 0, .int .u16 0, .int .u16 0, .int .u16 0, .int .u16 0, .int .u8 0, .int .u8 0, .bool false, .bool false, .bool false, .bool false, .int .i64 0] : Array Value) := Row.alloc (w := W3.drew) rZ.out (.cells #[.pointer (some ⟨w.heap.size + 4, 9, none⟩)] 44)
  have h0 := q0.cell 0
  have h1 : (W3.drew.alloc (.cells #[.pointer (some ⟨w.heap.size + 4, 9, none⟩)] 44)).cell? ⟨w.heap.size + 4, 9, none⟩ = some (.int .u16 iy) := qF.cell 9
  have h2 := qF.frozen 9
  have kk := Lib.hid (setHi_any W3.drew.heap.size (w.heap.size + 4) 9 iy v kx.out kv.out (W3.drew.alloc (.cells #[.pointer (some ⟨w.heap.size + 4, 9, none⟩)] 44)) h0 h1 h2)
  have uF : Row ((W3.setCell ⟨w.heap.size + 4, 9, none⟩ (.int .u16 (256 * v + iy % 256))).alloc (.cells #[.pointer (some ⟨w.heap.size + 4, 9, none⟩)] 44)).drew.drew (w.heap.size + 4) 42 (#[.int .u16 af, .int .u16 bc, .int .u16 de, .int .u16 hl, .int .u16 af2, .int .u16 bc2, .int .u16 de2, .int .u16 hl2, .int .u16 ix, .int .u16 (256 * v + iy % 256), .int .u16 sp, .int .u16 pc, .int .u16 wz, .int .u8 i, .int .u8 r, .bool iff1, .bool iff2, .bool halted, .bool late, .int .i64 mode] : Array Value) := Row.alloc (w := W3.setCell ⟨w.heap.size + 4, 9, none⟩ (.int .u16 (256 * v + iy % 256))) (rF.out.set 9 (.int .u16 (256 * v + iy % 256))) (.cells #[.pointer (some ⟨w.heap.size + 4, 9, none⟩)] 44)
  have uF := Lib.hid uF
  have uZ : Row ((W3.setCell ⟨w.heap.size + 4, 9, none⟩ (.int .u16 (256 * v + iy % 256))).alloc (.cells #[.pointer (some ⟨w.heap.size + 4, 9, none⟩)] 44)).drew.drew (w.heap.size + 1) 24 (#[.int .u16 0, .int .u16 0, .int .u16 0, .int .u16 0, .int .u16 0, .int .u16 0, .int .u16 0, .int .u16 0, .int .u16 0, .int .u16 0, .int .u16 0, .int .u16 0, .int .u16 0, .int .u8 0, .int .u8 0, .bool false, .bool false, .bool false, .bool false, .int .i64 0] : Array Value) := Row.alloc (w := W3.setCell ⟨w.heap.size + 4, 9, none⟩ (.int .u16 (256 * v + iy % 256))) (rZ.out.far (p := ⟨w.heap.size + 4, 9, none⟩) (by simp) (.int .u16 (256 * v + iy % 256))) (.cells #[.pointer (some ⟨w.heap.size + 4, 9, none⟩)] 44)
  have uZ := Lib.hid uZ
  have HB1 := HB.out.setCell (p := ⟨w.heap.size + 4, 9, none⟩) (Nat.le_add_right _ _) (.int .u16 (256 * v + iy % 256))
  have HB' : Hid (Below w.heap.size w ((W3.setCell ⟨w.heap.size + 4, 9, none⟩ (.int .u16 (256 * v + iy % 256))).alloc (.cells #[.pointer (some ⟨w.heap.size + 4, 9, none⟩)] 44)).drew.drew) := Lib.hid ((HB1.alloc HB1.size (.cells #[.pointer (some ⟨w.heap.size + 4, 9, none⟩)] 44)).drew.drew)
  clear HB1
  clear q0 h0 h1 h2 qF qZ rF rZ rA rH HB HW
  go_region_with (first
    | (go_at_call 56; refine (fiy_any _ _).mono ?_; rintro e w' ⟨rfl, rfl⟩)
    | (go_at_call 38; refine (setter_hi _ _).mono ?_; rintro e w' ⟨rfl, rfl⟩)
    | (go_at_call 52; refine kk.out.mono ?_; rintro e w' ⟨rfl, rfl⟩))
  all_goals clear kk
  all_goals
    have rF := uF
    have rZ := uZ
    have HB := HB'
    clear uF uZ HB' l0 l1
    generalize ((W3.setCell ⟨w.heap.size + 4, 9, none⟩ (.int .u16 (256 * v + iy % 256))).alloc (.cells #[.pointer (some ⟨w.heap.size + 4, 9, none⟩)] 44)).drew.drew = W9' at *
    go_upto_region 6 with (fail)
    obtain ⟨ds, hds⟩ : ∃ ds, ds = (#[.int .u16 af, .int .u16 bc, .int .u16 de, .int .u16 hl, .int .u16 af2, .int .u16 bc2, .int .u16 de2, .int .u16 hl2, .int .u16 ix, .int .u16 (256 * v + iy % 256), .int .u16 sp, .int .u16 pc, .int .u16 wz, .int .u8 i, .int .u8 r, .bool iff1, .bool iff2, .bool halted, .bool late, .int .i64 mode] : Array Value) := ⟨_, rfl⟩
    have i24 : Hid ((Tryd.prog.info? 24).map (·.size) = some ds.size) := Lib.hid (by rw [hds]; exact info24)
    have one : Hid (ds.toList.all (·.oneCell') = true) := Lib.hid (by rw [hds]; rfl)
    have hsz : Hid (ds.size = 20) := Lib.hid (by rw [hds]; rfl)
    have HD := Lib.hid hds
    have hR := rF.out
    rw [← hds] at hR
    clear hds
    apply wp_region_lit
    have i42 : Hid ((Tryd.prog.info? 42).map (·.size) = some ds.size) := Lib.hid (by rw [hsz.out]; exact info42)
    refine wpList_load_row rfl 42 _ rfl _ _ _ rfl hR _ Tryd.underlying42 rfl i42.out ?_
    refine wpList_store_row rfl 24 _ _ rfl (w.heap.size + 1) _ _ ds rfl rfl rZ.out (by rw [hsz.out]; exact Eq.refl 20) i24.out one.out ?_
    have rE := rZ.out.setAll (vs := ds) (by rw [hsz.out]; exact Eq.refl 20)
    have HE9 := Lib.hid (Below.setCellsAll HB.out (b := w.heap.size + 1) (Nat.le_add_right _ _) ds.toList 0)
    generalize W9'.setCells (w.heap.size + 1) 0 ds.toList = W9 at *
    apply wpList_nil
    rename_i hret
    refine hret _ _ (wp_ret ?_)
    try simp only [Exit.inBlock, Exit.then]
    refine bodyPost_ret (results_row rfl rfl rE _ Tryd.underlying24 rfl i24.out) rfl ?_
    exact ⟨(congrArg (fun q => Ending.returned (Value.agg q)) HD.out).trans rfl, HE9.out⟩
end Go.Proofs.YtpiadeedgjmmkaaDoor
