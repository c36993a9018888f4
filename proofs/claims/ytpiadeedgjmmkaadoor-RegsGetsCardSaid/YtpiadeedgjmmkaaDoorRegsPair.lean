/- Layer 11 (regs): Pair: contract. Written by tools/regs.py. -/
import Derived.Test.YtpiadeedgjmmkaaDoorRegsGet
import Derived.BigQuiet
import Derived.Deep.DeepCutAuto
import Derived.Deep.QuietTactic
namespace Go.Proofs.YtpiadeedgjmmkaaDoor
open Go.RowKit
set_option linter.unusedVariables false
set_option linter.unusedSimpArgs false

set_option maxRecDepth 20000 in
set_option maxHeartbeats 4000000 in
theorem pair_0bc (p : Int) (cs : Array Value) (hs : cs.size = 20) (ho : cs.toList.all (·.oneCell') = true) (x : Int) (hc : cs[1]? = some (.int .u16 x)) (w : World) :
    Calls Tryd.prog 10 #[.agg cs, .int .i64 p, .int .i64 0] w fun e w' => e = .returned (.int .u16 x) ∧ Below w.heap.size w w' := by
  have kh := Lib.hid (fun w => pairs_any p w)
  have hl := lkp_0 (p := p) (World.alloc_heap_new (w.alloc (.cells cs 24)) (.map (pairEnts p) 4))
  have r0 := (Row.new w 24 cs).alloc (.map (pairEnts p) 4)
  have HB0 : Below w.heap.size w ((w.alloc (.cells cs 24)).alloc (.map (pairEnts p) 4)) := (by repeat (first | exact Below.refl _ _ | assumption | refine bstep ?_ (by assumption) | refine Below.drew ?_ | refine Below.alloc ?_ (by first | (simp; done) | (simp; omega) | omega) _ | refine Below.setCell ?_ (by first | (simp; done) | (simp; omega) | omega) _))
  have i24 : Hid ((Tryd.prog.info? 24).map (·.size) = some cs.size) := Lib.hid (by rw [hs]; exact info24)
  have i42 : Hid ((Tryd.prog.info? 42).map (·.size) = some cs.size) := Lib.hid (by rw [hs]; exact info42)
  have ho' := Lib.hid ho
  have hs' := Lib.hid hs
  clear hs ho
  go_enter Tryd.func10, Tryd.ntmps10
  go_wp2_with fail
  refine (kh.out _).mono ?_
  rintro e w2 ⟨rfl, rfl⟩
  generalize (w.alloc (.cells cs 24)).alloc (.map (pairEnts p) 4) = W at *
  generalize (w.alloc (.cells cs 24)).heap.size = M at *
  have HB := Lib.hid HB0
  have hg := HB0.size
  clear HB0
  have hW : w.heap.size < W.heap.size := r0.lt
  go_upto_region 5 with (first
    | (refine wpList_load_row rfl 24 _ rfl _ _ _ rfl r0 _ Tryd.underlying24 rfl i24.out ?_)
    | (refine wpList_store_top rfl 42 _ _ rfl _ _ _ _ cs rfl rfl (by simp) (by rw [hs'.out]; exact Eq.refl 20) i42.out ho'.out ?_))
  have r2 := Row.new W 42 cs
  have HB2 := Lib.hid (HB.out.alloc HB.out.size (.cells cs 42))
  have c1 := (r2.cell 1).trans hc
  clear r2 hl r0 hc
  generalize W.alloc (.cells cs 42) = W2 at *
  go_wp2_with (first
    | (go_at_call 40; refine (fbc_any _ _).mono ?_; rintro e w' ⟨rfl, rfl⟩))
  go_ret
  exact ⟨rfl, HB2.out⟩
set_option maxRecDepth 20000 in
set_option maxHeartbeats 4000000 in
theorem pair_1de (p : Int) (cs : Array Value) (hs : cs.size = 20) (ho : cs.toList.all (·.oneCell') = true) (x : Int) (hc : cs[2]? = some (.int .u16 x)) (w : World) :
    Calls Tryd.prog 10 #[.agg cs, .int .i64 p, .int .i64 1] w fun e w' => e = .returned (.int .u16 x) ∧ Below w.heap.size w w' := by
  have kh := Lib.hid (fun w => pairs_any p w)
  have hl := lkp_1 (p := p) (World.alloc_heap_new (w.alloc (.cells cs 24)) (.map (pairEnts p) 4))
  have r0 := (Row.new w 24 cs).alloc (.map (pairEnts p) 4)
  have HB0 : Below w.heap.size w ((w.alloc (.cells cs 24)).alloc (.map (pairEnts p) 4)) := (by repeat (first | exact Below.refl _ _ | assumption | refine bstep ?_ (by assumption) | refine Below.drew ?_ | refine Below.alloc ?_ (by first | (simp; done) | (simp; omega) | omega) _ | refine Below.setCell ?_ (by first | (simp; done) | (simp; omega) | omega) _))
  have i24 : Hid ((Tryd.prog.info? 24).map (·.size) = some cs.size) := Lib.hid (by rw [hs]; exact info24)
  have i42 : Hid ((Tryd.prog.info? 42).map (·.size) = some cs.size) := Lib.hid (by rw [hs]; exact info42)
  have ho' := Lib.hid ho
  have hs' := Lib.hid hs
  clear hs ho
  go_enter Tryd.func10, Tryd.ntmps10
  go_wp2_with fail
  refine (kh.out _).mono ?_
  rintro e w2 ⟨rfl, rfl⟩
  generalize (w.alloc (.cells cs 24)).alloc (.map (pairEnts p) 4) = W at *
  generalize (w.alloc (.cells cs 24)).heap.size = M at *
  have HB := Lib.hid HB0
  have hg := HB0.size
  clear HB0
  have hW : w.heap.size < W.heap.size := r0.lt
  go_upto_region 5 with (first
    | (refine wpList_load_row rfl 24 _ rfl _ _ _ rfl r0 _ Tryd.underlying24 rfl i24.out ?_)
    | (refine wpList_store_top rfl 42 _ _ rfl _ _ _ _ cs rfl rfl (by simp) (by rw [hs'.out]; exact Eq.refl 20) i42.out ho'.out ?_))
  have r2 := Row.new W 42 cs
  have HB2 := Lib.hid (HB.out.alloc HB.out.size (.cells cs 42))
  have c1 := (r2.cell 2).trans hc
  clear r2 hl r0 hc
  generalize W.alloc (.cells cs 42) = W2 at *
  go_wp2_with (first
    | (go_at_call 41; refine (fde_any _ _).mono ?_; rintro e w' ⟨rfl, rfl⟩))
  go_ret
  exact ⟨rfl, HB2.out⟩
set_option maxRecDepth 20000 in
set_option maxHeartbeats 4000000 in
theorem pair_2ix (p : Int) (cs : Array Value) (hs : cs.size = 20) (ho : cs.toList.all (·.oneCell') = true) (hF : thirdF p = 55) (x : Int) (hc : cs[8]? = some (.int .u16 x)) (w : World) :
    Calls Tryd.prog 10 #[.agg cs, .int .i64 p, .int .i64 2] w fun e w' => e = .returned (.int .u16 x) ∧ Below w.heap.size w w' := by
  have kh := Lib.hid (fun w => pairs_any p w)
  have hl := lkp_2 (p := p) hF (World.alloc_heap_new (w.alloc (.cells cs 24)) (.map (pairEnts p) 4))
  have r0 := (Row.new w 24 cs).alloc (.map (pairEnts p) 4)
  have HB0 : Below w.heap.size w ((w.alloc (.cells cs 24)).alloc (.map (pairEnts p) 4)) := (by repeat (first | exact Below.refl _ _ | assumption | refine bstep ?_ (by assumption) | refine Below.drew ?_ | refine Below.alloc ?_ (by first | (simp; done) | (simp; omega) | omega) _ | refine Below.setCell ?_ (by first | (simp; done) | (simp; omega) | omega) _))
  have i24 : Hid ((Tryd.prog.info? 24).map (·.size) = some cs.size) := Lib.hid (by rw [hs]; exact info24)
  have i42 : Hid ((Tryd.prog.info? 42).map (·.size) = some cs.size) := Lib.hid (by rw [hs]; exact info42)
  have ho' := Lib.hid ho
  have hs' := Lib.hid hs
  clear hs ho
  go_enter Tryd.func10, Tryd.ntmps10
  go_wp2_with fail
  refine (kh.out _).mono ?_
  rintro e w2 ⟨rfl, rfl⟩
  generalize (w.alloc (.cells cs 24)).alloc (.map (pairEnts p) 4) = W at *
  generalize (w.alloc (.cells cs 24)).heap.size = M at *
  have HB := Lib.hid HB0
  have hg := HB0.size
  clear HB0
  have hW : w.heap.size < W.heap.size := r0.lt
  go_upto_region 5 with (first
    | (refine wpList_load_row rfl 24 _ rfl _ _ _ rfl r0 _ Tryd.underlying24 rfl i24.out ?_)
    | (refine wpList_store_top rfl 42 _ _ rfl _ _ _ _ cs rfl rfl (by simp) (by rw [hs'.out]; exact Eq.refl 20) i42.out ho'.out ?_))
  have r2 := Row.new W 42 cs
  have HB2 := Lib.hid (HB.out.alloc HB.out.size (.cells cs 42))
  have c1 := (r2.cell 8).trans hc
  clear r2 hl r0 hc
  generalize W.alloc (.cells cs 42) = W2 at *
  go_wp2_with (first
    | (go_at_call 55; refine (fix_any _ _).mono ?_; rintro e w' ⟨rfl, rfl⟩))
  go_ret
  exact ⟨rfl, HB2.out⟩
set_option maxRecDepth 20000 in
set_option maxHeartbeats 4000000 in
theorem pair_2iy (p : Int) (cs : Array Value) (hs : cs.size = 20) (ho : cs.toList.all (·.oneCell') = true) (hF : thirdF p = 56) (x : Int) (hc : cs[9]? = some (.int .u16 x)) (w : World) :
    Calls Tryd.prog 10 #[.agg cs, .int .i64 p, .int .i64 2] w fun e w' => e = .returned (.int .u16 x) ∧ Below w.heap.size w w' := by
  have kh := Lib.hid (fun w => pairs_any p w)
  have hl := lkp_2 (p := p) hF (World.alloc_heap_new (w.alloc (.cells cs 24)) (.map (pairEnts p) 4))
  have r0 := (Row.new w 24 cs).alloc (.map (pairEnts p) 4)
  have HB0 : Below w.heap.size w ((w.alloc (.cells cs 24)).alloc (.map (pairEnts p) 4)) := (by repeat (first | exact Below.refl _ _ | assumption | refine bstep ?_ (by assumption) | refine Below.drew ?_ | refine Below.alloc ?_ (by first | (simp; done) | (simp; omega) | omega) _ | refine Below.setCell ?_ (by first | (simp; done) | (simp; omega) | omega) _))
  have i24 : Hid ((Tryd.prog.info? 24).map (·.size) = some cs.size) := Lib.hid (by rw [hs]; exact info24)
  have i42 : Hid ((Tryd.prog.info? 42).map (·.size) = some cs.size) := Lib.hid (by rw [hs]; exact info42)
  have ho' := Lib.hid ho
  have hs' := Lib.hid hs
  clear hs ho
  go_enter Tryd.func10, Tryd.ntmps10
  go_wp2_with fail
  refine (kh.out _).mono ?_
  rintro e w2 ⟨rfl, rfl⟩
  generalize (w.alloc (.cells cs 24)).alloc (.map (pairEnts p) 4) = W at *
  generalize (w.alloc (.cells cs 24)).heap.size = M at *
  have HB := Lib.hid HB0
  have hg := HB0.size
  clear HB0
  have hW : w.heap.size < W.heap.size := r0.lt
  go_upto_region 5 with (first
    | (refine wpList_load_row rfl 24 _ rfl _ _ _ rfl r0 _ Tryd.underlying24 rfl i24.out ?_)
    | (refine wpList_store_top rfl 42 _ _ rfl _ _ _ _ cs rfl rfl (by simp) (by rw [hs'.out]; exact Eq.refl 20) i42.out ho'.out ?_))
  have r2 := Row.new W 42 cs
  have HB2 := Lib.hid (HB.out.alloc HB.out.size (.cells cs 42))
  have c1 := (r2.cell 9).trans hc
  clear r2 hl r0 hc
  generalize W.alloc (.cells cs 42) = W2 at *
  go_wp2_with (first
    | (go_at_call 56; refine (fiy_any _ _).mono ?_; rintro e w' ⟨rfl, rfl⟩))
  go_ret
  exact ⟨rfl, HB2.out⟩
set_option maxRecDepth 20000 in
set_option maxHeartbeats 4000000 in
theorem pair_2hl (p : Int) (cs : Array Value) (hs : cs.size = 20) (ho : cs.toList.all (·.oneCell') = true) (hF : thirdF p = 57) (x : Int) (hc : cs[3]? = some (.int .u16 x)) (w : World) :
    Calls Tryd.prog 10 #[.agg cs, .int .i64 p, .int .i64 2] w fun e w' => e = .returned (.int .u16 x) ∧ Below w.heap.size w w' := by
  have kh := Lib.hid (fun w => pairs_any p w)
  have hl := lkp_2 (p := p) hF (World.alloc_heap_new (w.alloc (.cells cs 24)) (.map (pairEnts p) 4))
  have r0 := (Row.new w 24 cs).alloc (.map (pairEnts p) 4)
  have HB0 : Below w.heap.size w ((w.alloc (.cells cs 24)).alloc (.map (pairEnts p) 4)) := (by repeat (first | exact Below.refl _ _ | assumption | refine bstep ?_ (by assumption) | refine Below.drew ?_ | refine Below.alloc ?_ (by first | (simp; done) | (simp; omega) | omega) _ | refine Below.setCell ?_ (by first | (simp; done) | (simp; omega) | omega) _))
  have i24 : Hid ((Tryd.prog.info? 24).map (·.size) = some cs.size) := Lib.hid (by rw [hs]; exact info24)
  have i42 : Hid ((Tryd.prog.info? 42).map (·.size) = some cs.size) := Lib.hid (by rw [hs]; exact info42)
  have ho' := Lib.hid ho
  have hs' := Lib.hid hs
  clear hs ho
  go_enter Tryd.func10, Tryd.ntmps10
  go_wp2_with fail
  refine (kh.out _).mono ?_
  rintro e w2 ⟨rfl, rfl⟩
  generalize (w.alloc (.cells cs 24)).alloc (.map (pairEnts p) 4) = W at *
  generalize (w.alloc (.cells cs 24)).heap.size = M at *
  have HB := Lib.hid HB0
  have hg := HB0.size
  clear HB0
  have hW : w.heap.size < W.heap.size := r0.lt
  go_upto_region 5 with (first
    | (refine wpList_load_row rfl 24 _ rfl _ _ _ rfl r0 _ Tryd.underlying24 rfl i24.out ?_)
    | (refine wpList_store_top rfl 42 _ _ rfl _ _ _ _ cs rfl rfl (by simp) (by rw [hs'.out]; exact Eq.refl 20) i42.out ho'.out ?_))
  have r2 := Row.new W 42 cs
  have HB2 := Lib.hid (HB.out.alloc HB.out.size (.cells cs 42))
  have c1 := (r2.cell 3).trans hc
  clear r2 hl r0 hc
  generalize W.alloc (.cells cs 42) = W2 at *
  go_wp2_with (first
    | (go_at_call 57; refine (fhl_any _ _).mono ?_; rintro e w' ⟨rfl, rfl⟩))
  go_ret
  exact ⟨rfl, HB2.out⟩
set_option maxRecDepth 20000 in
set_option maxHeartbeats 4000000 in
theorem pair_3sp (p : Int) (cs : Array Value) (hs : cs.size = 20) (ho : cs.toList.all (·.oneCell') = true) (x : Int) (hc : cs[10]? = some (.int .u16 x)) (w : World) :
    Calls Tryd.prog 10 #[.agg cs, .int .i64 p, .int .i64 3] w fun e w' => e = .returned (.int .u16 x) ∧ Below w.heap.size w w' := by
  have kh := Lib.hid (fun w => pairs_any p w)
  have hl := lkp_3 (p := p) (World.alloc_heap_new (w.alloc (.cells cs 24)) (.map (pairEnts p) 4))
  have r0 := (Row.new w 24 cs).alloc (.map (pairEnts p) 4)
  have HB0 : Below w.heap.size w ((w.alloc (.cells cs 24)).alloc (.map (pairEnts p) 4)) := (by repeat (first | exact Below.refl _ _ | assumption | refine bstep ?_ (by assumption) | refine Below.drew ?_ | refine Below.alloc ?_ (by first | (simp; done) | (simp; omega) | omega) _ | refine Below.setCell ?_ (by first | (simp; done) | (simp; omega) | omega) _))
  have i24 : Hid ((Tryd.prog.info? 24).map (·.size) = some cs.size) := Lib.hid (by rw [hs]; exact info24)
  have i42 : Hid ((Tryd.prog.info? 42).map (·.size) = some cs.size) := Lib.hid (by rw [hs]; exact info42)
  have ho' := Lib.hid ho
  have hs' := Lib.hid hs
  clear hs ho
  go_enter Tryd.func10, Tryd.ntmps10
  go_wp2_with fail
  refine (kh.out _).mono ?_
  rintro e w2 ⟨rfl, rfl⟩
  generalize (w.alloc (.cells cs 24)).alloc (.map (pairEnts p) 4) = W at *
  generalize (w.alloc (.cells cs 24)).heap.size = M at *
  have HB := Lib.hid HB0
  have hg := HB0.size
  clear HB0
  have hW : w.heap.size < W.heap.size := r0.lt
  go_upto_region 5 with (first
    | (refine wpList_load_row rfl 24 _ rfl _ _ _ rfl r0 _ Tryd.underlying24 rfl i24.out ?_)
    | (refine wpList_store_top rfl 42 _ _ rfl _ _ _ _ cs rfl rfl (by simp) (by rw [hs'.out]; exact Eq.refl 20) i42.out ho'.out ?_))
  have r2 := Row.new W 42 cs
  have HB2 := Lib.hid (HB.out.alloc HB.out.size (.cells cs 42))
  have c1 := (r2.cell 10).trans hc
  clear r2 hl r0 hc
  generalize W.alloc (.cells cs 42) = W2 at *
  go_wp2_with (first
    | (go_at_call 44; refine (fsp_any _ _).mono ?_; rintro e w' ⟨rfl, rfl⟩))
  go_ret
  exact ⟨rfl, HB2.out⟩
set_option maxRecDepth 20000 in
set_option maxHeartbeats 4000000 in
theorem pair_no (p k : Int) (hk : k < 0 ∨ 3 < k) (cs : Array Value) (w : World) :
    Calls Tryd.prog 10 #[.agg cs, .int .i64 p, .int .i64 k] w fun e w' => e = .returned (.int .u16 0) ∧ Below w.heap.size w w' := by
  have kh := Lib.hid (fun w => pairs_any p w)
  have hl := lkp_no (p := p) hk (World.alloc_heap_new (w.alloc (.cells cs 24)) (.map (pairEnts p) 4))
  have HB0 : Below w.heap.size w ((w.alloc (.cells cs 24)).alloc (.map (pairEnts p) 4)) := (by repeat (first | exact Below.refl _ _ | assumption | refine bstep ?_ (by assumption) | refine Below.drew ?_ | refine Below.alloc ?_ (by first | (simp; done) | (simp; omega) | omega) _ | refine Below.setCell ?_ (by first | (simp; done) | (simp; omega) | omega) _))
  clear hk
  go_enter Tryd.func10, Tryd.ntmps10
  go_wp2_with fail
  refine (kh.out _).mono ?_
  rintro e w2 ⟨rfl, rfl⟩
  generalize (w.alloc (.cells cs 24)).alloc (.map (pairEnts p) 4) = W at *
  generalize (w.alloc (.cells cs 24)).heap.size = M at *
  have HB := Lib.hid HB0
  clear HB0
  go_wp2
  go_ret
  exact ⟨rfl, HB.out⟩
theorem pairG_no (g : Rg) (p k : Int) (h : k < 0 ∨ 3 < k) : pairG g p k = 0 := by
  unfold pairG
  rw [if_neg (by omega), if_neg (by omega), if_neg (by omega), if_neg (by omega)]
theorem pair_any (g : Rg) (p k : Int) (w : World) :
    Calls Tryd.prog 10 #[regsV g, .int .i64 p, .int .i64 k] w fun e w' => e = .returned (.int .u16 (pairG g p k)) ∧ Below w.heap.size w w' := by
  by_cases hn : k < 0 ∨ 3 < k
  · rw [pairG_no g p k hn]
    exact pair_no p k hn _ w
  have h1 := regsC_one g
  obtain rfl | rfl | rfl | rfl : k = 0 ∨ k = 1 ∨ k = 2 ∨ k = 3 := by omega
  · exact pair_0bc p _ rfl h1 g.bc rfl w
  · exact pair_1de p _ rfl h1 g.de rfl w
  · rw [pairG_2]
    by_cases h3 : p = 3
    · rw [if_pos h3]
      exact pair_2ix p _ rfl h1 (thirdF_dd h3) g.ix rfl w
    by_cases h4 : p = 4
    · rw [if_neg h3, if_pos h4]
      exact pair_2iy p _ rfl h1 (thirdF_fd h3 h4) g.iy rfl w
    · rw [if_neg h3, if_neg h4]
      exact pair_2hl p _ rfl h1 (thirdF_hl h3 h4) g.hl rfl w
  · exact pair_3sp p _ rfl h1 g.sp rfl w
end Go.Proofs.YtpiadeedgjmmkaaDoor
