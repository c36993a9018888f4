/- Layer 11 (regs): Get: contract. Written by tools/regs.py. -/
import Derived.Test.YtpiadeedgjmmkaaDoorRegsLeaf
import Derived.BigQuiet
import Derived.Deep.DeepCutAuto
import Derived.Deep.QuietTactic
namespace Go.Proofs.YtpiadeedgjmmkaaDoor
open Go.RowKit
set_option linter.unusedVariables false
set_option linter.unusedSimpArgs false

theorem info24 : (Tryd.prog.info? 24).map (·.size) = some 20 := by kernel_rfl
theorem info42 : (Tryd.prog.info? 42).map (·.size) = some 20 := by kernel_rfl
set_option maxRecDepth 20000 in
set_option maxHeartbeats 4000000 in
theorem get_0bc (p : Int) (cs : Array Value) (hs : cs.size = 20) (ho : cs.toList.all (·.oneCell') = true) (x : Int) (hx : W16 x) (hc : cs[1]? = some (.int .u16 x)) (w : World) :
    Calls Tryd.prog 8 #[.agg cs, .int .i64 p, .int .i64 0] w fun e w' => e = .returned (.int .u8 (x / 256)) ∧ Below w.heap.size w w' := by
  have kh := Lib.hid (fun w => halves_any p w)
  have kb := Lib.hid (hi_any x hx.1 hx.2)
  have hl := lkh_0 (p := p) (World.alloc_heap_new (w.alloc (.cells cs 24)) (.map (halfEnts p) 7))
  have r0 := (Row.new w 24 cs).alloc (.map (halfEnts p) 7)
  have HB0 : Below w.heap.size w ((w.alloc (.cells cs 24)).alloc (.map (halfEnts p) 7)) := (by repeat (first | exact Below.refl _ _ | assumption | refine bstep ?_ (by assumption) | refine Below.drew ?_ | refine Below.alloc ?_ (by first | (simp; done) | (simp; omega) | omega) _ | refine Below.setCell ?_ (by first | (simp; done) | (simp; omega) | omega) _))
  have i24 : Hid ((Tryd.prog.info? 24).map (·.size) = some cs.size) := Lib.hid (by rw [hs]; exact info24)
  have i42 : Hid ((Tryd.prog.info? 42).map (·.size) = some cs.size) := Lib.hid (by rw [hs]; exact info42)
  have ho' := Lib.hid ho
  have hs' := Lib.hid hs
  clear hs ho hx
  go_enter Tryd.func8, Tryd.ntmps8
  go_wp2_with fail
  refine (kh.out _).mono ?_
  rintro e w2 ⟨rfl, rfl⟩
  generalize (w.alloc (.cells cs 24)).alloc (.map (halfEnts p) 7) = W at *
  generalize (w.alloc (.cells cs 24)).heap.size = M at *
  have HB := Lib.hid HB0
  have hg := HB0.size
  clear HB0
  have hW : w.heap.size < W.heap.size := r0.lt
  go_upto_region 5 with (first
    | (refine wpList_load_row rfl 24 _ rfl _ _ _ rfl (r0.alloc _) _ Tryd.underlying24 rfl i24.out ?_)
    | (refine wpList_store_top rfl 42 _ _ rfl _ _ _ _ cs rfl rfl (by simp) (by rw [hs'.out]; exact Eq.refl 20) i42.out ho'.out ?_))
  have r1 := (Row.new W 38 #[vBC, .bool true]).alloc (.cells cs 42)
  have r2 := Row.new (W.alloc (.cells #[vBC, .bool true] 38)) 42 cs
  have HB2 := Lib.hid ((HB.out.alloc HB.out.size (.cells #[vBC, .bool true] 38)).alloc (by simp; omega) (.cells cs 42))
  rw [show (W.alloc (.cells #[vBC, .bool true] 38)).heap.size = W.heap.size + 1 by simp] at r2
  have l0 := r1.cell 0
  have l1 := r1.cell 1
  have c1 := (r2.cell 1).trans hc
  clear r1 r2 hl r0 hc
  generalize (W.alloc (.cells #[vBC, .bool true] 38)).alloc (.cells cs 42) = W2 at *
  go_wp2_with (first
    | (go_at_call 40; refine (fbc_any _ _).mono ?_; rintro e w' ⟨rfl, rfl⟩)
    | (go_at_call 27; refine (kb.out _).mono ?_; rintro e w' ⟨rfl, rfl⟩))
  go_ret
  exact ⟨rfl, HB2.out⟩
set_option maxRecDepth 20000 in
set_option maxHeartbeats 4000000 in
theorem get_1bc (p : Int) (cs : Array Value) (hs : cs.size = 20) (ho : cs.toList.all (·.oneCell') = true) (x : Int) (hx : W16 x) (hc : cs[1]? = some (.int .u16 x)) (w : World) :
    Calls Tryd.prog 8 #[.agg cs, .int .i64 p, .int .i64 1] w fun e w' => e = .returned (.int .u8 (x % 256)) ∧ Below w.heap.size w w' := by
  have kh := Lib.hid (fun w => halves_any p w)
  have kb := Lib.hid (lo_any x hx.1 hx.2)
  have hl := lkh_1 (p := p) (World.alloc_heap_new (w.alloc (.cells cs 24)) (.map (halfEnts p) 7))
  have r0 := (Row.new w 24 cs).alloc (.map (halfEnts p) 7)
  have HB0 : Below w.heap.size w ((w.alloc (.cells cs 24)).alloc (.map (halfEnts p) 7)) := (by repeat (first | exact Below.refl _ _ | assumption | refine bstep ?_ (by assumption) | refine Below.drew ?_ | refine Below.alloc ?_ (by first | (simp; done) | (simp; omega) | omega) _ | refine Below.setCell ?_ (by first | (simp; done) | (simp; omega) | omega) _))
  have i24 : Hid ((Tryd.prog.info? 24).map (·.size) = some cs.size) := Lib.hid (by rw [hs]; exact info24)
  have i42 : Hid ((Tryd.prog.info? 42).map (·.size) = some cs.size) := Lib.hid (by rw [hs]; exact info42)
  have ho' := Lib.hid ho
  have hs' := Lib.hid hs
  clear hs ho hx
  go_enter Tryd.func8, Tryd.ntmps8
  go_wp2_with fail
  refine (kh.out _).mono ?_
  rintro e w2 ⟨rfl, rfl⟩
  generalize (w.alloc (.cells cs 24)).alloc (.map (halfEnts p) 7) = W at *
  generalize (w.alloc (.cells cs 24)).heap.size = M at *
  have HB := Lib.hid HB0
  have hg := HB0.size
  clear HB0
  have hW : w.heap.size < W.heap.size := r0.lt
  go_upto_region 5 with (first
    | (refine wpList_load_row rfl 24 _ rfl _ _ _ rfl (r0.alloc _) _ Tryd.underlying24 rfl i24.out ?_)
    | (refine wpList_store_top rfl 42 _ _ rfl _ _ _ _ cs rfl rfl (by simp) (by rw [hs'.out]; exact Eq.refl 20) i42.out ho'.out ?_))
  have r1 := (Row.new W 38 #[vBC, .bool false]).alloc (.cells cs 42)
  have r2 := Row.new (W.alloc (.cells #[vBC, .bool false] 38)) 42 cs
  have HB2 := Lib.hid ((HB.out.alloc HB.out.size (.cells #[vBC, .bool false] 38)).alloc (by simp; omega) (.cells cs 42))
  rw [show (W.alloc (.cells #[vBC, .bool false] 38)).heap.size = W.heap.size + 1 by simp] at r2
  have l0 := r1.cell 0
  have l1 := r1.cell 1
  have c1 := (r2.cell 1).trans hc
  clear r1 r2 hl r0 hc
  generalize (W.alloc (.cells #[vBC, .bool false] 38)).alloc (.cells cs 42) = W2 at *
  go_wp2_with (first
    | (go_at_call 40; refine (fbc_any _ _).mono ?_; rintro e w' ⟨rfl, rfl⟩)
    | (go_at_call 28; refine (kb.out _).mono ?_; rintro e w' ⟨rfl, rfl⟩))
  go_ret
  exact ⟨rfl, HB2.out⟩
set_option maxRecDepth 20000 in
set_option maxHeartbeats 4000000 in
theorem get_2de (p : Int) (cs : Array Value) (hs : cs.size = 20) (ho : cs.toList.all (·.oneCell') = true) (x : Int) (hx : W16 x) (hc : cs[2]? = some (.int .u16 x)) (w : World) :
    Calls Tryd.prog 8 #[.agg cs, .int .i64 p, .int .i64 2] w fun e w' => e = .returned (.int .u8 (x / 256)) ∧ Below w.heap.size w w' := by
  have kh := Lib.hid (fun w => halves_any p w)
  have kb := Lib.hid (hi_any x hx.1 hx.2)
  have hl := lkh_2 (p := p) (World.alloc_heap_new (w.alloc (.cells cs 24)) (.map (halfEnts p) 7))
  have r0 := (Row.new w 24 cs).alloc (.map (halfEnts p) 7)
  have HB0 : Below w.heap.size w ((w.alloc (.cells cs 24)).alloc (.map (halfEnts p) 7)) := (by repeat (first | exact Below.refl _ _ | assumption | refine bstep ?_ (by assumption) | refine Below.drew ?_ | refine Below.alloc ?_ (by first | (simp; done) | (simp; omega) | omega) _ | refine Below.setCell ?_ (by first | (simp; done) | (simp; omega) | omega) _))
  have i24 : Hid ((Tryd.prog.info? 24).map (·.size) = some cs.size) := Lib.hid (by rw [hs]; exact info24)
  have i42 : Hid ((Tryd.prog.info? 42).map (·.size) = some cs.size) := Lib.hid (by rw [hs]; exact info42)
  have ho' := Lib.hid ho
  have hs' := Lib.hid hs
  clear hs ho hx
  go_enter Tryd.func8, Tryd.ntmps8
  go_wp2_with fail
  refine (kh.out _).mono ?_
  rintro e w2 ⟨rfl, rfl⟩
  generalize (w.alloc (.cells cs 24)).alloc (.map (halfEnts p) 7) = W at *
  generalize (w.alloc (.cells cs 24)).heap.size = M at *
  have HB := Lib.hid HB0
  have hg := HB0.size
  clear HB0
  have hW : w.heap.size < W.heap.size := r0.lt
  go_upto_region 5 with (first
    | (refine wpList_load_row rfl 24 _ rfl _ _ _ rfl (r0.alloc _) _ Tryd.underlying24 rfl i24.out ?_)
    | (refine wpList_store_top rfl 42 _ _ rfl _ _ _ _ cs rfl rfl (by simp) (by rw [hs'.out]; exact Eq.refl 20) i42.out ho'.out ?_))
  have r1 := (Row.new W 38 #[vDE, .bool true]).alloc (.cells cs 42)
  have r2 := Row.new (W.alloc (.cells #[vDE, .bool true] 38)) 42 cs
  have HB2 := Lib.hid ((HB.out.alloc HB.out.size (.cells #[vDE, .bool true] 38)).alloc (by simp; omega) (.cells cs 42))
  rw [show (W.alloc (.cells #[vDE, .bool true] 38)).heap.size = W.heap.size + 1 by simp] at r2
  have l0 := r1.cell 0
  have l1 := r1.cell 1
  have c1 := (r2.cell 2).trans hc
  clear r1 r2 hl r0 hc
  generalize (W.alloc (.cells #[vDE, .bool true] 38)).alloc (.cells cs 42) = W2 at *
  go_wp2_with (first
    | (go_at_call 41; refine (fde_any _ _).mono ?_; rintro e w' ⟨rfl, rfl⟩)
    | (go_at_call 27; refine (kb.out _).mono ?_; rintro e w' ⟨rfl, rfl⟩))
  go_ret
  exact ⟨rfl, HB2.out⟩
set_option maxRecDepth 20000 in
set_option maxHeartbeats 4000000 in
theorem get_3de (p : Int) (cs : Array Value) (hs : cs.size = 20) (ho : cs.toList.all (·.oneCell') = true) (x : Int) (hx : W16 x) (hc : cs[2]? = some (.int .u16 x)) (w : World) :
    Calls Tryd.prog 8 #[.agg cs, .int .i64 p, .int .i64 3] w fun e w' => e = .returned (.int .u8 (x % 256)) ∧ Below w.heap.size w w' := by
  have kh := Lib.hid (fun w => halves_any p w)
  have kb := Lib.hid (lo_any x hx.1 hx.2)
  have hl := lkh_3 (p := p) (World.alloc_heap_new (w.alloc (.cells cs 24)) (.map (halfEnts p) 7))
  have r0 := (Row.new w 24 cs).alloc (.map (halfEnts p) 7)
  have HB0 : Below w.heap.size w ((w.alloc (.cells cs 24)).alloc (.map (halfEnts p) 7)) := (by repeat (first | exact Below.refl _ _ | assumption | refine bstep ?_ (by assumption) | refine Below.drew ?_ | refine Below.alloc ?_ (by first | (simp; done) | (simp; omega) | omega) _ | refine Below.setCell ?_ (by first | (simp; done) | (simp; omega) | omega) _))
  have i24 : Hid ((Tryd.prog.info? 24).map (·.size) = some cs.size) := Lib.hid (by rw [hs]; exact info24)
  have i42 : Hid ((Tryd.prog.info? 42).map (·.size) = some cs.size) := Lib.hid (by rw [hs]; exact info42)
  have ho' := Lib.hid ho
  have hs' := Lib.hid hs
  clear hs ho hx
  go_enter Tryd.func8, Tryd.ntmps8
  go_wp2_with fail
  refine (kh.out _).mono ?_
  rintro e w2 ⟨rfl, rfl⟩
  generalize (w.alloc (.cells cs 24)).alloc (.map (halfEnts p) 7) = W at *
  generalize (w.alloc (.cells cs 24)).heap.size = M at *
  have HB := Lib.hid HB0
  have hg := HB0.size
  clear HB0
  have hW : w.heap.size < W.heap.size := r0.lt
  go_upto_region 5 with (first
    | (refine wpList_load_row rfl 24 _ rfl _ _ _ rfl (r0.alloc _) _ Tryd.underlying24 rfl i24.out ?_)
    | (refine wpList_store_top rfl 42 _ _ rfl _ _ _ _ cs rfl rfl (by simp) (by rw [hs'.out]; exact Eq.refl 20) i42.out ho'.out ?_))
  have r1 := (Row.new W 38 #[vDE, .bool false]).alloc (.cells cs 42)
  have r2 := Row.new (W.alloc (.cells #[vDE, .bool false] 38)) 42 cs
  have HB2 := Lib.hid ((HB.out.alloc HB.out.size (.cells #[vDE, .bool false] 38)).alloc (by simp; omega) (.cells cs 42))
  rw [show (W.alloc (.cells #[vDE, .bool false] 38)).heap.size = W.heap.size + 1 by simp] at r2
  have l0 := r1.cell 0
  have l1 := r1.cell 1
  have c1 := (r2.cell 2).trans hc
  clear r1 r2 hl r0 hc
  generalize (W.alloc (.cells #[vDE, .bool false] 38)).alloc (.cells cs 42) = W2 at *
  go_wp2_with (first
    | (go_at_call 41; refine (fde_any _ _).mono ?_; rintro e w' ⟨rfl, rfl⟩)
    | (go_at_call 28; refine (kb.out _).mono ?_; rintro e w' ⟨rfl, rfl⟩))
  go_ret
  exact ⟨rfl, HB2.out⟩
set_option maxRecDepth 20000 in
set_option maxHeartbeats 4000000 in
theorem get_4ix (p : Int) (cs : Array Value) (hs : cs.size = 20) (ho : cs.toList.all (·.oneCell') = true) (hF : thirdF p = 55) (x : Int) (hx : W16 x) (hc : cs[8]? = some (.int .u16 x)) (w : World) :
    Calls Tryd.prog 8 #[.agg cs, .int .i64 p, .int .i64 4] w fun e w' => e = .returned (.int .u8 (x / 256)) ∧ Below w.heap.size w w' := by
  have kh := Lib.hid (fun w => halves_any p w)
  have kb := Lib.hid (hi_any x hx.1 hx.2)
  have hl := lkh_4 (p := p) hF (World.alloc_heap_new (w.alloc (.cells cs 24)) (.map (halfEnts p) 7))
  have r0 := (Row.new w 24 cs).alloc (.map (halfEnts p) 7)
  have HB0 : Below w.heap.size w ((w.alloc (.cells cs 24)).alloc (.map (halfEnts p) 7)) := (by repeat (first | exact Below.refl _ _ | assumption | refine bstep ?_ (by assumption) | refine Below.drew ?_ | refine Below.alloc ?_ (by first | (simp; done) | (simp; omega) | omega) _ | refine Below.setCell ?_ (by first | (simp; done) | (simp; omega) | omega) _))
  have i24 : Hid ((Tryd.prog.info? 24).map (·.size) = some cs.size) := Lib.hid (by rw [hs]; exact info24)
  have i42 : Hid ((Tryd.prog.info? 42).map (·.size) = some cs.size) := Lib.hid (by rw [hs]; exact info42)
  have ho' := Lib.hid ho
  have hs' := Lib.hid hs
  clear hs ho hx
  go_enter Tryd.func8, Tryd.ntmps8
  go_wp2_with fail
  refine (kh.out _).mono ?_
  rintro e w2 ⟨rfl, rfl⟩
  generalize (w.alloc (.cells cs 24)).alloc (.map (halfEnts p) 7) = W at *
  generalize (w.alloc (.cells cs 24)).heap.size = M at *
  have HB := Lib.hid HB0
  have hg := HB0.size
  clear HB0
  have hW : w.heap.size < W.heap.size := r0.lt
  go_upto_region 5 with (first
    | (refine wpList_load_row rfl 24 _ rfl _ _ _ rfl (r0.alloc _) _ Tryd.underlying24 rfl i24.out ?_)
    | (refine wpList_store_top rfl 42 _ _ rfl _ _ _ _ cs rfl rfl (by simp) (by rw [hs'.out]; exact Eq.refl 20) i42.out ho'.out ?_))
  have r1 := (Row.new W 38 #[vIX, .bool true]).alloc (.cells cs 42)
  have r2 := Row.new (W.alloc (.cells #[vIX, .bool true] 38)) 42 cs
  have HB2 := Lib.hid ((HB.out.alloc HB.out.size (.cells #[vIX, .bool true] 38)).alloc (by simp; omega) (.cells cs 42))
  rw [show (W.alloc (.cells #[vIX, .bool true] 38)).heap.size = W.heap.size + 1 by simp] at r2
  have l0 := r1.cell 0
  have l1 := r1.cell 1
  have c1 := (r2.cell 8).trans hc
  clear r1 r2 hl r0 hc
  generalize (W.alloc (.cells #[vIX, .bool true] 38)).alloc (.cells cs 42) = W2 at *
  go_wp2_with (first
    | (go_at_call 55; refine (fix_any _ _).mono ?_; rintro e w' ⟨rfl, rfl⟩)
    | (go_at_call 27; refine (kb.out _).mono ?_; rintro e w' ⟨rfl, rfl⟩))
  go_ret
  exact ⟨rfl, HB2.out⟩
set_option maxRecDepth 20000 in
set_option maxHeartbeats 4000000 in
theorem get_4iy (p : Int) (cs : Array Value) (hs : cs.size = 20) (ho : cs.toList.all (·.oneCell') = true) (hF : thirdF p = 56) (x : Int) (hx : W16 x) (hc : cs[9]? = some (.int .u16 x)) (w : World) :
    Calls Tryd.prog 8 #[.agg cs, .int .i64 p, .int .i64 4] w fun e w' => e = .returned (.int .u8 (x / 256)) ∧ Below w.heap.size w w' := by
  have kh := Lib.hid (fun w => halves_any p w)
  have kb := Lib.hid (hi_any x hx.1 hx.2)
  have hl := lkh_4 (p := p) hF (World.alloc_heap_new (w.alloc (.cells cs 24)) (.map (halfEnts p) 7))
  have r0 := (Row.new w 24 cs).alloc (.map (halfEnts p) 7)
  have HB0 : Below w.heap.size w ((w.alloc (.cells cs 24)).alloc (.map (halfEnts p) 7)) := (by repeat (first | exact Below.refl _ _ | assumption | refine bstep ?_ (by assumption) | refine Below.drew ?_ | refine Below.alloc ?_ (by first | (simp; done) | (simp; omega) | omega) _ | refine Below.setCell ?_ (by first | (simp; done) | (simp; omega) | omega) _))
  have i24 : Hid ((Tryd.prog.info? 24).map (·.size) = some cs.size) := Lib.hid (by rw [hs]; exact info24)
  have i42 : Hid ((Tryd.prog.info? 42).map (·.size) = some cs.size) := Lib.hid (by rw [hs]; exact info42)
  have ho' := Lib.hid ho
  have hs' := Lib.hid hs
  clear hs ho hx
  go_enter Tryd.func8, Tryd.ntmps8
  go_wp2_with fail
  refine (kh.out _).mono ?_
  rintro e w2 ⟨rfl, rfl⟩
  generalize (w.alloc (.cells cs 24)).alloc (.map (halfEnts p) 7) = W at *
  generalize (w.alloc (.cells cs 24)).heap.size = M at *
  have HB := Lib.hid HB0
  have hg := HB0.size
  clear HB0
  have hW : w.heap.size < W.heap.size := r0.lt
  go_upto_region 5 with (first
    | (refine wpList_load_row rfl 24 _ rfl _ _ _ rfl (r0.alloc _) _ Tryd.underlying24 rfl i24.out ?_)
    | (refine wpList_store_top rfl 42 _ _ rfl _ _ _ _ cs rfl rfl (by simp) (by rw [hs'.out]; exact Eq.refl 20) i42.out ho'.out ?_))
  have r1 := (Row.new W 38 #[vIY, .bool true]).alloc (.cells cs 42)
  have r2 := Row.new (W.alloc (.cells #[vIY, .bool true] 38)) 42 cs
  have HB2 := Lib.hid ((HB.out.alloc HB.out.size (.cells #[vIY, .bool true] 38)).alloc (by simp; omega) (.cells cs 42))
  rw [show (W.alloc (.cells #[vIY, .bool true] 38)).heap.size = W.heap.size + 1 by simp] at r2
  have l0 := r1.cell 0
  have l1 := r1.cell 1
  have c1 := (r2.cell 9).trans hc
  clear r1 r2 hl r0 hc
  generalize (W.alloc (.cells #[vIY, .bool true] 38)).alloc (.cells cs 42) = W2 at *
  go_wp2_with (first
    | (go_at_call 56; refine (fiy_any _ _).mono ?_; rintro e w' ⟨rfl, rfl⟩)
    | (go_at_call 27; refine (kb.out _).mono ?_; rintro e w' ⟨rfl, rfl⟩))
  go_ret
  exact ⟨rfl, HB2.out⟩
set_option maxRecDepth 20000 in
set_option maxHeartbeats 4000000 in
theorem get_4hl (p : Int) (cs : Array Value) (hs : cs.size = 20) (ho : cs.toList.all (·.oneCell') = true) (hF : thirdF p = 57) (x : Int) (hx : W16 x) (hc : cs[3]? = some (.int .u16 x)) (w : World) :
    Calls Tryd.prog 8 #[.agg cs, .int .i64 p, .int .i64 4] w fun e w' => e = .returned (.int .u8 (x / 256)) ∧ Below w.heap.size w w' := by
  have kh := Lib.hid (fun w => halves_any p w)
  have kb := Lib.hid (hi_any x hx.1 hx.2)
  have hl := lkh_4 (p := p) hF (World.alloc_heap_new (w.alloc (.cells cs 24)) (.map (halfEnts p) 7))
  have r0 := (Row.new w 24 cs).alloc (.map (halfEnts p) 7)
  have HB0 : Below w.heap.size w ((w.alloc (.cells cs 24)).alloc (.map (halfEnts p) 7)) := (by repeat (first | exact Below.refl _ _ | assumption | refine bstep ?_ (by assumption) | refine Below.drew ?_ | refine Below.alloc ?_ (by first | (simp; done) | (simp; omega) | omega) _ | refine Below.setCell ?_ (by first | (simp; done) | (simp; omega) | omega) _))
  have i24 : Hid ((Tryd.prog.info? 24).map (·.size) = some cs.size) := Lib.hid (by rw [hs]; exact info24)
  have i42 : Hid ((Tryd.prog.info? 42).map (·.size) = some cs.size) := Lib.hid (by rw [hs]; exact info42)
  have ho' := Lib.hid ho
  have hs' := Lib.hid hs
  clear hs ho hx
  go_enter Tryd.func8, Tryd.ntmps8
  go_wp2_with fail
  refine (kh.out _).mono ?_
  rintro e w2 ⟨rfl, rfl⟩
  generalize (w.alloc (.cells cs 24)).alloc (.map (halfEnts p) 7) = W at *
  generalize (w.alloc (.cells cs 24)).heap.size = M at *
  have HB := Lib.hid HB0
  have hg := HB0.size
  clear HB0
  have hW : w.heap.size < W.heap.size := r0.lt
  go_upto_region 5 with (first
    | (refine wpList_load_row rfl 24 _ rfl _ _ _ rfl (r0.alloc _) _ Tryd.underlying24 rfl i24.out ?_)
    | (refine wpList_store_top rfl 42 _ _ rfl _ _ _ _ cs rfl rfl (by simp) (by rw [hs'.out]; exact Eq.refl 20) i42.out ho'.out ?_))
  have r1 := (Row.new W 38 #[vHL, .bool true]).alloc (.cells cs 42)
  have r2 := Row.new (W.alloc (.cells #[vHL, .bool true] 38)) 42 cs
  have HB2 := Lib.hid ((HB.out.alloc HB.out.size (.cells #[vHL, .bool true] 38)).alloc (by simp; omega) (.cells cs 42))
  rw [show (W.alloc (.cells #[vHL, .bool true] 38)).heap.size = W.heap.size + 1 by simp] at r2
  have l0 := r1.cell 0
  have l1 := r1.cell 1
  have c1 := (r2.cell 3).trans hc
  clear r1 r2 hl r0 hc
  generalize (W.alloc (.cells #[vHL, .bool true] 38)).alloc (.cells cs 42) = W2 at *
  go_wp2_with (first
    | (go_at_call 57; refine (fhl_any _ _).mono ?_; rintro e w' ⟨rfl, rfl⟩)
    | (go_at_call 27; refine (kb.out _).mono ?_; rintro e w' ⟨rfl, rfl⟩))
  go_ret
  exact ⟨rfl, HB2.out⟩
set_option maxRecDepth 20000 in
set_option maxHeartbeats 4000000 in
theorem get_5ix (p : Int) (cs : Array Value) (hs : cs.size = 20) (ho : cs.toList.all (·.oneCell') = true) (hF : thirdF p = 55) (x : Int) (hx : W16 x) (hc : cs[8]? = some (.int .u16 x)) (w : World) :
    Calls Tryd.prog 8 #[.agg cs, .int .i64 p, .int .i64 5] w fun e w' => e = .returned (.int .u8 (x % 256)) ∧ Below w.heap.size w w' := by
  have kh := Lib.hid (fun w => halves_any p w)
  have kb := Lib.hid (lo_any x hx.1 hx.2)
  have hl := lkh_5 (p := p) hF (World.alloc_heap_new (w.alloc (.cells cs 24)) (.map (halfEnts p) 7))
  have r0 := (Row.new w 24 cs).alloc (.map (halfEnts p) 7)
  have HB0 : Below w.heap.size w ((w.alloc (.cells cs 24)).alloc (.map (halfEnts p) 7)) := (by repeat (first | exact Below.refl _ _ | assumption | refine bstep ?_ (by assumption) | refine Below.drew ?_ | refine Below.alloc ?_ (by first | (simp; done) | (simp; omega) | omega) _ | refine Below.setCell ?_ (by first | (simp; done) | (simp; omega) | omega) _))
  have i24 : Hid ((Tryd.prog.info? 24).map (·.size) = some cs.size) := Lib.hid (by rw [hs]; exact info24)
  have i42 : Hid ((Tryd.prog.info? 42).map (·.size) = some cs.size) := Lib.hid (by rw [hs]; exact info42)
  have ho' := Lib.hid ho
  have hs' := Lib.hid hs
  clear hs ho hx
  go_enter Tryd.func8, Tryd.ntmps8
  go_wp2_with fail
  refine (kh.out _).mono ?_
  rintro e w2 ⟨rfl, rfl⟩
  generalize (w.alloc (.cells cs 24)).alloc (.map (halfEnts p) 7) = W at *
  generalize (w.alloc (.cells cs 24)).heap.size = M at *
  have HB := Lib.hid HB0
  have hg := HB0.size
  clear HB0
  have hW : w.heap.size < W.heap.size := r0.lt
  go_upto_region 5 with (first
    | (refine wpList_load_row rfl 24 _ rfl _ _ _ rfl (r0.alloc _) _ Tryd.underlying24 rfl i24.out ?_)
    | (refine wpList_store_top rfl 42 _ _ rfl _ _ _ _ cs rfl rfl (by simp) (by rw [hs'.out]; exact Eq.refl 20) i42.out ho'.out ?_))
  have r1 := (Row.new W 38 #[vIX, .bool false]).alloc (.cells cs 42)
  have r2 := Row.new (W.alloc (.cells #[vIX, .bool false] 38)) 42 cs
  have HB2 := Lib.hid ((HB.out.alloc HB.out.size (.cells #[vIX, .bool false] 38)).alloc (by simp; omega) (.cells cs 42))
  rw [show (W.alloc (.cells #[vIX, .bool false] 38)).heap.size = W.heap.size + 1 by simp] at r2
  have l0 := r1.cell 0
  have l1 := r1.cell 1
  have c1 := (r2.cell 8).trans hc
  clear r1 r2 hl r0 hc
  generalize (W.alloc (.cells #[vIX, .bool false] 38)).alloc (.cells cs 42) = W2 at *
  go_wp2_with (first
    | (go_at_call 55; refine (fix_any _ _).mono ?_; rintro e w' ⟨rfl, rfl⟩)
    | (go_at_call 28; refine (kb.out _).mono ?_; rintro e w' ⟨rfl, rfl⟩))
  go_ret
  exact ⟨rfl, HB2.out⟩
set_option maxRecDepth 20000 in
set_option maxHeartbeats 4000000 in
theorem get_5iy (p : Int) (cs : Array Value) (hs : cs.size = 20) (ho : cs.toList.all (·.oneCell') = true) (hF : thirdF p = 56) (x : Int) (hx : W16 x) (hc : cs[9]? = some (.int .u16 x)) (w : World) :
    Calls Tryd.prog 8 #[.agg cs, .int .i64 p, .int .i64 5] w fun e w' => e = .returned (.int .u8 (x % 256)) ∧ Below w.heap.size w w' := by
  have kh := Lib.hid (fun w => halves_any p w)
  have kb := Lib.hid (lo_any x hx.1 hx.2)
  have hl := lkh_5 (p := p) hF (World.alloc_heap_new (w.alloc (.cells cs 24)) (.map (halfEnts p) 7))
  have r0 := (Row.new w 24 cs).alloc (.map (halfEnts p) 7)
  have HB0 : Below w.heap.size w ((w.alloc (.cells cs 24)).alloc (.map (halfEnts p) 7)) := (by repeat (first | exact Below.refl _ _ | assumption | refine bstep ?_ (by assumption) | refine Below.drew ?_ | refine Below.alloc ?_ (by first | (simp; done) | (simp; omega) | omega) _ | refine Below.setCell ?_ (by first | (simp; done) | (simp; omega) | omega) _))
  have i24 : Hid ((Tryd.prog.info? 24).map (·.size) = some cs.size) := Lib.hid (by rw [hs]; exact info24)
  have i42 : Hid ((Tryd.prog.info? 42).map (·.size) = some cs.size) := Lib.hid (by rw [hs]; exact info42)
  have ho' := Lib.hid ho
  have hs' := Lib.hid hs
  clear hs ho hx
  go_enter Tryd.func8, Tryd.ntmps8
  go_wp2_with fail
  refine (kh.out _).mono ?_
  rintro e w2 ⟨rfl, rfl⟩
  generalize (w.alloc (.cells cs 24)).alloc (.map (halfEnts p) 7) = W at *
  generalize (w.alloc (.cells cs 24)).heap.size = M at *
  have HB := Lib.hid HB0
  have hg := HB0.size
  clear HB0
  have hW : w.heap.size < W.heap.size := r0.lt
  go_upto_region 5 with (first
    | (refine wpList_load_row rfl 24 _ rfl _ _ _ rfl (r0.alloc _) _ Tryd.underlying24 rfl i24.out ?_)
    | (refine wpList_store_top rfl 42 _ _ rfl _ _ _ _ cs rfl rfl (by simp) (by rw [hs'.out]; exact Eq.refl 20) i42.out ho'.out ?_))
  have r1 := (Row.new W 38 #[vIY, .bool false]).alloc (.cells cs 42)
  have r2 := Row.new (W.alloc (.cells #[vIY, .bool false] 38)) 42 cs
  have HB2 := Lib.hid ((HB.out.alloc HB.out.size (.cells #[vIY, .bool false] 38)).alloc (by simp; omega) (.cells cs 42))
  rw [show (W.alloc (.cells #[vIY, .bool false] 38)).heap.size = W.heap.size + 1 by simp] at r2
  have l0 := r1.cell 0
  have l1 := r1.cell 1
  have c1 := (r2.cell 9).trans hc
  clear r1 r2 hl r0 hc
  generalize (W.alloc (.cells #[vIY, .bool false] 38)).alloc (.cells cs 42) = W2 at *
  go_wp2_with (first
    | (go_at_call 56; refine (fiy_any _ _).mono ?_; rintro e w' ⟨rfl, rfl⟩)
    | (go_at_call 28; refine (kb.out _).mono ?_; rintro e w' ⟨rfl, rfl⟩))
  go_ret
  exact ⟨rfl, HB2.out⟩
set_option maxRecDepth 20000 in
set_option maxHeartbeats 4000000 in
theorem get_5hl (p : Int) (cs : Array Value) (hs : cs.size = 20) (ho : cs.toList.all (·.oneCell') = true) (hF : thirdF p = 57) (x : Int) (hx : W16 x) (hc : cs[3]? = some (.int .u16 x)) (w : World) :
    Calls Tryd.prog 8 #[.agg cs, .int .i64 p, .int .i64 5] w fun e w' => e = .returned (.int .u8 (x % 256)) ∧ Below w.heap.size w w' := by
  have kh := Lib.hid (fun w => halves_any p w)
  have kb := Lib.hid (lo_any x hx.1 hx.2)
  have hl := lkh_5 (p := p) hF (World.alloc_heap_new (w.alloc (.cells cs 24)) (.map (halfEnts p) 7))
  have r0 := (Row.new w 24 cs).alloc (.map (halfEnts p) 7)
  have HB0 : Below w.heap.size w ((w.alloc (.cells cs 24)).alloc (.map (halfEnts p) 7)) := (by repeat (first | exact Below.refl _ _ | assumption | refine bstep ?_ (by assumption) | refine Below.drew ?_ | refine Below.alloc ?_ (by first | (simp; done) | (simp; omega) | omega) _ | refine Below.setCell ?_ (by first | (simp; done) | (simp; omega) | omega) _))
  have i24 : Hid ((Tryd.prog.info? 24).map (·.size) = some cs.size) := Lib.hid (by rw [hs]; exact info24)
  have i42 : Hid ((Tryd.prog.info? 42).map (·.size) = some cs.size) := Lib.hid (by rw [hs]; exact info42)
  have ho' := Lib.hid ho
  have hs' := Lib.hid hs
  clear hs ho hx
  go_enter Tryd.func8, Tryd.ntmps8
  go_wp2_with fail
  refine (kh.out _).mono ?_
  rintro e w2 ⟨rfl, rfl⟩
  generalize (w.alloc (.cells cs 24)).alloc (.map (halfEnts p) 7) = W at *
  generalize (w.alloc (.cells cs 24)).heap.size = M at *
  have HB := Lib.hid HB0
  have hg := HB0.size
  clear HB0
  have hW : w.heap.size < W.heap.size := r0.lt
  go_upto_region 5 with (first
    | (refine wpList_load_row rfl 24 _ rfl _ _ _ rfl (r0.alloc _) _ Tryd.underlying24 rfl i24.out ?_)
    | (refine wpList_store_top rfl 42 _ _ rfl _ _ _ _ cs rfl rfl (by simp) (by rw [hs'.out]; exact Eq.refl 20) i42.out ho'.out ?_))
  have r1 := (Row.new W 38 #[vHL, .bool false]).alloc (.cells cs 42)
  have r2 := Row.new (W.alloc (.cells #[vHL, .bool false] 38)) 42 cs
  have HB2 := Lib.hid ((HB.out.alloc HB.out.size (.cells #[vHL, .bool false] 38)).alloc (by simp; omega) (.cells cs 42))
  rw [show (W.alloc (.cells #[vHL, .bool false] 38)).heap.size = W.heap.size + 1 by simp] at r2
  have l0 := r1.cell 0
  have l1 := r1.cell 1
  have c1 := (r2.cell 3).trans hc
  clear r1 r2 hl r0 hc
  generalize (W.alloc (.cells #[vHL, .bool false] 38)).alloc (.cells cs 42) = W2 at *
  go_wp2_with (first
    | (go_at_call 57; refine (fhl_any _ _).mono ?_; rintro e w' ⟨rfl, rfl⟩)
    | (go_at_call 28; refine (kb.out _).mono ?_; rintro e w' ⟨rfl, rfl⟩))
  go_ret
  exact ⟨rfl, HB2.out⟩
set_option maxRecDepth 20000 in
set_option maxHeartbeats 4000000 in
theorem get_7af (p : Int) (cs : Array Value) (hs : cs.size = 20) (ho : cs.toList.all (·.oneCell') = true) (x : Int) (hx : W16 x) (hc : cs[0]? = some (.int .u16 x)) (w : World) :
    Calls Tryd.prog 8 #[.agg cs, .int .i64 p, .int .i64 7] w fun e w' => e = .returned (.int .u8 (x / 256)) ∧ Below w.heap.size w w' := by
  have kh := Lib.hid (fun w => halves_any p w)
  have kb := Lib.hid (hi_any x hx.1 hx.2)
  have hl := lkh_7 (p := p) (World.alloc_heap_new (w.alloc (.cells cs 24)) (.map (halfEnts p) 7))
  have r0 := (Row.new w 24 cs).alloc (.map (halfEnts p) 7)
  have HB0 : Below w.heap.size w ((w.alloc (.cells cs 24)).alloc (.map (halfEnts p) 7)) := (by repeat (first | exact Below.refl _ _ | assumption | refine bstep ?_ (by assumption) | refine Below.drew ?_ | refine Below.alloc ?_ (by first | (simp; done) | (simp; omega) | omega) _ | refine Below.setCell ?_ (by first | (simp; done) | (simp; omega) | omega) _))
  have i24 : Hid ((Tryd.prog.info? 24).map (·.size) = some cs.size) := Lib.hid (by rw [hs]; exact info24)
  have i42 : Hid ((Tryd.prog.info? 42).map (·.size) = some cs.size) := Lib.hid (by rw [hs]; exact info42)
  have ho' := Lib.hid ho
  have hs' := Lib.hid hs
  clear hs ho hx
  go_enter Tryd.func8, Tryd.ntmps8
  go_wp2_with fail
  refine (kh.out _).mono ?_
  rintro e w2 ⟨rfl, rfl⟩
  generalize (w.alloc (.cells cs 24)).alloc (.map (halfEnts p) 7) = W at *
  generalize (w.alloc (.cells cs 24)).heap.size = M at *
  have HB := Lib.hid HB0
  have hg := HB0.size
  clear HB0
  have hW : w.heap.size < W.heap.size := r0.lt
  go_upto_region 5 with (first
    | (refine wpList_load_row rfl 24 _ rfl _ _ _ rfl (r0.alloc _) _ Tryd.underlying24 rfl i24.out ?_)
    | (refine wpList_store_top rfl 42 _ _ rfl _ _ _ _ cs rfl rfl (by simp) (by rw [hs'.out]; exact Eq.refl 20) i42.out ho'.out ?_))
  have r1 := (Row.new W 38 #[vAF, .bool true]).alloc (.cells cs 42)
  have r2 := Row.new (W.alloc (.cells #[vAF, .bool true] 38)) 42 cs
  have HB2 := Lib.hid ((HB.out.alloc HB.out.size (.cells #[vAF, .bool true] 38)).alloc (by simp; omega) (.cells cs 42))
  rw [show (W.alloc (.cells #[vAF, .bool true] 38)).heap.size = W.heap.size + 1 by simp] at r2
  have l0 := r1.cell 0
  have l1 := r1.cell 1
  have c1 := (r2.cell 0).trans hc
  clear r1 r2 hl r0 hc
  generalize (W.alloc (.cells #[vAF, .bool true] 38)).alloc (.cells cs 42) = W2 at *
  go_wp2_with (first
    | (go_at_call 43; refine (faf_any _ _).mono ?_; rintro e w' ⟨rfl, rfl⟩)
    | (go_at_call 27; refine (kb.out _).mono ?_; rintro e w' ⟨rfl, rfl⟩))
  go_ret
  exact ⟨rfl, HB2.out⟩
set_option maxRecDepth 20000 in
set_option maxHeartbeats 4000000 in
theorem get_no (p k : Int) (hk : k < 0 ∨ k = 6 ∨ 7 < k) (cs : Array Value) (w : World) :
    Calls Tryd.prog 8 #[.agg cs, .int .i64 p, .int .i64 k] w fun e w' => e = .returned (.int .u8 0) ∧ Below w.heap.size w w' := by
  have kh := Lib.hid (fun w => halves_any p w)
  have hl := lkh_no (p := p) hk (World.alloc_heap_new (w.alloc (.cells cs 24)) (.map (halfEnts p) 7))
  have HB0 : Below w.heap.size w ((w.alloc (.cells cs 24)).alloc (.map (halfEnts p) 7)) := (by repeat (first | exact Below.refl _ _ | assumption | refine bstep ?_ (by assumption) | refine Below.drew ?_ | refine Below.alloc ?_ (by first | (simp; done) | (simp; omega) | omega) _ | refine Below.setCell ?_ (by first | (simp; done) | (simp; omega) | omega) _))
  clear hk
  go_enter Tryd.func8, Tryd.ntmps8
  go_wp2_with fail
  refine (kh.out _).mono ?_
  rintro e w2 ⟨rfl, rfl⟩
  generalize (w.alloc (.cells cs 24)).alloc (.map (halfEnts p) 7) = W at *
  generalize (w.alloc (.cells cs 24)).heap.size = M at *
  have HB := Lib.hid HB0
  clear HB0
  go_wp2
  go_ret
  exact ⟨rfl, HB.out.alloc HB.out.size _⟩
theorem regsC_one (g : Rg) : (regsC g).toList.all (·.oneCell') = true := rfl
theorem thirdF_dd {p : Int} (h : p = 3) : thirdF p = 55 := by unfold thirdF; rw [if_pos h]
theorem thirdF_fd {p : Int} (h : p ≠ 3) (h4 : p = 4) : thirdF p = 56 := by unfold thirdF; rw [if_neg h, if_pos h4]
theorem thirdF_hl {p : Int} (h : p ≠ 3) (h4 : p ≠ 4) : thirdF p = 57 := by unfold thirdF; rw [if_neg h, if_neg h4]
theorem pairG_2 (g : Rg) (p : Int) : pairG g p 2 = if p = 3 then g.ix else if p = 4 then g.iy else g.hl := rfl
theorem get_any (g : Rg) (hg : RgB g) (p k : Int) (w : World) :
    Calls Tryd.prog 8 #[regsV g, .int .i64 p, .int .i64 k] w fun e w' => e = .returned (.int .u8 (getG g p k)) ∧ Below w.heap.size w w' := by
  by_cases hn : k < 0 ∨ k = 6 ∨ 7 < k
  · rw [getG_no g p k hn]
    exact get_no p k hn _ w
  have h1 := regsC_one g
  obtain rfl | rfl | rfl | rfl | rfl | rfl | rfl : k = 0 ∨ k = 1 ∨ k = 2 ∨ k = 3 ∨ k = 4 ∨ k = 5 ∨ k = 7 := by omega
  · exact get_0bc p _ rfl h1 g.bc hg.bc rfl w
  · exact get_1bc p _ rfl h1 g.bc hg.bc rfl w
  · exact get_2de p _ rfl h1 g.de hg.de rfl w
  · exact get_3de p _ rfl h1 g.de hg.de rfl w
  · show Calls _ _ _ _ fun e w' => e = .returned (.int .u8 (pairG g p 2 / 256)) ∧ _
    rw [pairG_2]
    by_cases h3 : p = 3
    · rw [if_pos h3]
      exact get_4ix p _ rfl h1 (thirdF_dd h3) g.ix hg.ix rfl w
    by_cases h4 : p = 4
    · rw [if_neg h3, if_pos h4]
      exact get_4iy p _ rfl h1 (thirdF_fd h3 h4) g.iy hg.iy rfl w
    · rw [if_neg h3, if_neg h4]
      exact get_4hl p _ rfl h1 (thirdF_hl h3 h4) g.hl hg.hl rfl w
  · show Calls _ _ _ _ fun e w' => e = .returned (.int .u8 (pairG g p 2 % 256)) ∧ _
    rw [pairG_2]
    by_cases h3 : p = 3
    · rw [if_pos h3]
      exact get_5ix p _ rfl h1 (thirdF_dd h3) g.ix hg.ix rfl w
    by_cases h4 : p = 4
    · rw [if_neg h3, if_pos h4]
      exact get_5iy p _ rfl h1 (thirdF_fd h3 h4) g.iy hg.iy rfl w
    · rw [if_neg h3, if_neg h4]
      exact get_5hl p _ rfl h1 (thirdF_hl h3 h4) g.hl hg.hl rfl w
  · exact get_7af p _ rfl h1 g.af hg.af rfl w
end Go.Proofs.YtpiadeedgjmmkaaDoor
