/- Layer 11 (regs): the document's own Get: contract. Written by tools/regs.py. -/
import Derived.Test.YtpiadeedgjmmkaaDoorRegsPairR
import Derived.BigQuiet
import Derived.Deep.DeepCutAuto
import Derived.Deep.QuietTactic
namespace Go.Proofs.YtpiadeedgjmmkaaDoor
open Go.RowKit
set_option linter.unusedVariables false
set_option linter.unusedSimpArgs false

set_option maxRecDepth 20000 in
set_option maxHeartbeats 4000000 in
theorem rget_0 (g : Rg) (p x : Int) (hx : W16 x) (he : pairG g p 0 = x) (w : World) :
    Calls Tryd.prog 9 #[regsV g, .int .i64 p, .int .i64 0] w fun e w' => e = .returned (.int .u8 (x / 256)) ∧ Below w.heap.size w w' := by
  obtain ⟨cs, hcs⟩ : ∃ cs, cs = regsC g := ⟨_, rfl⟩
  have kp : Hid (∀ W, Calls Tryd.prog 11 #[.agg cs, .int .i64 p, .int .i64 0] W fun e w' => e = .returned (.int .u16 x) ∧ Below W.heap.size W w') := Lib.hid (by rw [hcs, ← he]; exact fun W => rpair_any g p 0 W)
  have kb := Lib.hid (fun w => rhi_any x hx.1 hx.2 w)
  have i24 : Hid ((Tryd.prog.info? 24).map (·.size) = some cs.size) := Lib.hid (by rw [hcs]; exact info24)
  show Calls _ _ #[.agg (regsC g), .int .i64 p, .int .i64 0] _ _
  rw [← hcs]
  clear hcs he hx
  have r0 := Row.new w 24 cs
  have HB := Lib.hid ((Below.refl w.heap.size w).alloc (Nat.le_refl _) (.cells cs 24))
  go_enter Tryd.func9, Tryd.ntmps9
  go_upto_region 1 with (fail)
  generalize w.alloc (.cells cs 24) = W at *
  go_wp2_with (first
    | (refine wpList_load_row rfl 24 _ rfl _ _ _ rfl r0 _ Tryd.underlying24 rfl i24.out ?_)
    | (go_at_call 11; refine (kp.out _).mono ?_; rintro e w' ⟨rfl, hb⟩; have HB2 := Lib.hid (HB.out.trans (hb.mono HB.out.size)); clear hb)
    | (go_at_call 29; refine (kb.out _).mono ?_; rintro e w' ⟨rfl, rfl⟩))
  go_ret
  exact ⟨rfl, HB2.out⟩
set_option maxRecDepth 20000 in
set_option maxHeartbeats 4000000 in
theorem rget_1 (g : Rg) (p x : Int) (hx : W16 x) (he : pairG g p 0 = x) (w : World) :
    Calls Tryd.prog 9 #[regsV g, .int .i64 p, .int .i64 1] w fun e w' => e = .returned (.int .u8 (x % 256)) ∧ Below w.heap.size w w' := by
  obtain ⟨cs, hcs⟩ : ∃ cs, cs = regsC g := ⟨_, rfl⟩
  have kp : Hid (∀ W, Calls Tryd.prog 11 #[.agg cs, .int .i64 p, .int .i64 0] W fun e w' => e = .returned (.int .u16 x) ∧ Below W.heap.size W w') := Lib.hid (by rw [hcs, ← he]; exact fun W => rpair_any g p 0 W)
  have kb := Lib.hid (fun w => rlo_any x hx.1 hx.2 w)
  have i24 : Hid ((Tryd.prog.info? 24).map (·.size) = some cs.size) := Lib.hid (by rw [hcs]; exact info24)
  show Calls _ _ #[.agg (regsC g), .int .i64 p, .int .i64 1] _ _
  rw [← hcs]
  clear hcs he hx
  have r0 := Row.new w 24 cs
  have HB := Lib.hid ((Below.refl w.heap.size w).alloc (Nat.le_refl _) (.cells cs 24))
  go_enter Tryd.func9, Tryd.ntmps9
  go_upto_region 1 with (fail)
  generalize w.alloc (.cells cs 24) = W at *
  go_wp2_with (first
    | (refine wpList_load_row rfl 24 _ rfl _ _ _ rfl r0 _ Tryd.underlying24 rfl i24.out ?_)
    | (go_at_call 11; refine (kp.out _).mono ?_; rintro e w' ⟨rfl, hb⟩; have HB2 := Lib.hid (HB.out.trans (hb.mono HB.out.size)); clear hb)
    | (go_at_call 30; refine (kb.out _).mono ?_; rintro e w' ⟨rfl, rfl⟩))
  go_ret
  exact ⟨rfl, HB2.out⟩
set_option maxRecDepth 20000 in
set_option maxHeartbeats 4000000 in
theorem rget_2 (g : Rg) (p x : Int) (hx : W16 x) (he : pairG g p 1 = x) (w : World) :
    Calls Tryd.prog 9 #[regsV g, .int .i64 p, .int .i64 2] w fun e w' => e = .returned (.int .u8 (x / 256)) ∧ Below w.heap.size w w' := by
  obtain ⟨cs, hcs⟩ : ∃ cs, cs = regsC g := ⟨_, rfl⟩
  have kp : Hid (∀ W, Calls Tryd.prog 11 #[.agg cs, .int .i64 p, .int .i64 1] W fun e w' => e = .returned (.int .u16 x) ∧ Below W.heap.size W w') := Lib.hid (by rw [hcs, ← he]; exact fun W => rpair_any g p 1 W)
  have kb := Lib.hid (fun w => rhi_any x hx.1 hx.2 w)
  have i24 : Hid ((Tryd.prog.info? 24).map (·.size) = some cs.size) := Lib.hid (by rw [hcs]; exact info24)
  show Calls _ _ #[.agg (regsC g), .int .i64 p, .int .i64 2] _ _
  rw [← hcs]
  clear hcs he hx
  have r0 := Row.new w 24 cs
  have HB := Lib.hid ((Below.refl w.heap.size w).alloc (Nat.le_refl _) (.cells cs 24))
  go_enter Tryd.func9, Tryd.ntmps9
  go_upto_region 1 with (fail)
  generalize w.alloc (.cells cs 24) = W at *
  go_wp2_with (first
    | (refine wpList_load_row rfl 24 _ rfl _ _ _ rfl r0 _ Tryd.underlying24 rfl i24.out ?_)
    | (go_at_call 11; refine (kp.out _).mono ?_; rintro e w' ⟨rfl, hb⟩; have HB2 := Lib.hid (HB.out.trans (hb.mono HB.out.size)); clear hb)
    | (go_at_call 29; refine (kb.out _).mono ?_; rintro e w' ⟨rfl, rfl⟩))
  go_ret
  exact ⟨rfl, HB2.out⟩
set_option maxRecDepth 20000 in
set_option maxHeartbeats 4000000 in
theorem rget_3 (g : Rg) (p x : Int) (hx : W16 x) (he : pairG g p 1 = x) (w : World) :
    Calls Tryd.prog 9 #[regsV g, .int .i64 p, .int .i64 3] w fun e w' => e = .returned (.int .u8 (x % 256)) ∧ Below w.heap.size w w' := by
  obtain ⟨cs, hcs⟩ : ∃ cs, cs = regsC g := ⟨_, rfl⟩
  have kp : Hid (∀ W, Calls Tryd.prog 11 #[.agg cs, .int .i64 p, .int .i64 1] W fun e w' => e = .returned (.int .u16 x) ∧ Below W.heap.size W w') := Lib.hid (by rw [hcs, ← he]; exact fun W => rpair_any g p 1 W)
  have kb := Lib.hid (fun w => rlo_any x hx.1 hx.2 w)
  have i24 : Hid ((Tryd.prog.info? 24).map (·.size) = some cs.size) := Lib.hid (by rw [hcs]; exact info24)
  show Calls _ _ #[.agg (regsC g), .int .i64 p, .int .i64 3] _ _
  rw [← hcs]
  clear hcs he hx
  have r0 := Row.new w 24 cs
  have HB := Lib.hid ((Below.refl w.heap.size w).alloc (Nat.le_refl _) (.cells cs 24))
  go_enter Tryd.func9, Tryd.ntmps9
  go_upto_region 1 with (fail)
  generalize w.alloc (.cells cs 24) = W at *
  go_wp2_with (first
    | (refine wpList_load_row rfl 24 _ rfl _ _ _ rfl r0 _ Tryd.underlying24 rfl i24.out ?_)
    | (go_at_call 11; refine (kp.out _).mono ?_; rintro e w' ⟨rfl, hb⟩; have HB2 := Lib.hid (HB.out.trans (hb.mono HB.out.size)); clear hb)
    | (go_at_call 30; refine (kb.out _).mono ?_; rintro e w' ⟨rfl, rfl⟩))
  go_ret
  exact ⟨rfl, HB2.out⟩
set_option maxRecDepth 20000 in
set_option maxHeartbeats 4000000 in
theorem rget_4 (g : Rg) (p x : Int) (hx : W16 x) (he : pairG g p 2 = x) (w : World) :
    Calls Tryd.prog 9 #[regsV g, .int .i64 p, .int .i64 4] w fun e w' => e = .returned (.int .u8 (x / 256)) ∧ Below w.heap.size w w' := by
  obtain ⟨cs, hcs⟩ : ∃ cs, cs = regsC g := ⟨_, rfl⟩
  have kp : Hid (∀ W, Calls Tryd.prog 11 #[.agg cs, .int .i64 p, .int .i64 2] W fun e w' => e = .returned (.int .u16 x) ∧ Below W.heap.size W w') := Lib.hid (by rw [hcs, ← he]; exact fun W => rpair_any g p 2 W)
  have kb := Lib.hid (fun w => rhi_any x hx.1 hx.2 w)
  have i24 : Hid ((Tryd.prog.info? 24).map (·.size) = some cs.size) := Lib.hid (by rw [hcs]; exact info24)
  show Calls _ _ #[.agg (regsC g), .int .i64 p, .int .i64 4] _ _
  rw [← hcs]
  clear hcs he hx
  have r0 := Row.new w 24 cs
  have HB := Lib.hid ((Below.refl w.heap.size w).alloc (Nat.le_refl _) (.cells cs 24))
  go_enter Tryd.func9, Tryd.ntmps9
  go_upto_region 1 with (fail)
  generalize w.alloc (.cells cs 24) = W at *
  go_wp2_with (first
    | (refine wpList_load_row rfl 24 _ rfl _ _ _ rfl r0 _ Tryd.underlying24 rfl i24.out ?_)
    | (go_at_call 11; refine (kp.out _).mono ?_; rintro e w' ⟨rfl, hb⟩; have HB2 := Lib.hid (HB.out.trans (hb.mono HB.out.size)); clear hb)
    | (go_at_call 29; refine (kb.out _).mono ?_; rintro e w' ⟨rfl, rfl⟩))
  go_ret
  exact ⟨rfl, HB2.out⟩
set_option maxRecDepth 20000 in
set_option maxHeartbeats 4000000 in
theorem rget_5 (g : Rg) (p x : Int) (hx : W16 x) (he : pairG g p 2 = x) (w : World) :
    Calls Tryd.prog 9 #[regsV g, .int .i64 p, .int .i64 5] w fun e w' => e = .returned (.int .u8 (x % 256)) ∧ Below w.heap.size w w' := by
  obtain ⟨cs, hcs⟩ : ∃ cs, cs = regsC g := ⟨_, rfl⟩
  have kp : Hid (∀ W, Calls Tryd.prog 11 #[.agg cs, .int .i64 p, .int .i64 2] W fun e w' => e = .returned (.int .u16 x) ∧ Below W.heap.size W w') := Lib.hid (by rw [hcs, ← he]; exact fun W => rpair_any g p 2 W)
  have kb := Lib.hid (fun w => rlo_any x hx.1 hx.2 w)
  have i24 : Hid ((Tryd.prog.info? 24).map (·.size) = some cs.size) := Lib.hid (by rw [hcs]; exact info24)
  show Calls _ _ #[.agg (regsC g), .int .i64 p, .int .i64 5] _ _
  rw [← hcs]
  clear hcs he hx
  have r0 := Row.new w 24 cs
  have HB := Lib.hid ((Below.refl w.heap.size w).alloc (Nat.le_refl _) (.cells cs 24))
  go_enter Tryd.func9, Tryd.ntmps9
  go_upto_region 1 with (fail)
  generalize w.alloc (.cells cs 24) = W at *
  go_wp2_with (first
    | (refine wpList_load_row rfl 24 _ rfl _ _ _ rfl r0 _ Tryd.underlying24 rfl i24.out ?_)
    | (go_at_call 11; refine (kp.out _).mono ?_; rintro e w' ⟨rfl, hb⟩; have HB2 := Lib.hid (HB.out.trans (hb.mono HB.out.size)); clear hb)
    | (go_at_call 30; refine (kb.out _).mono ?_; rintro e w' ⟨rfl, rfl⟩))
  go_ret
  exact ⟨rfl, HB2.out⟩
set_option maxRecDepth 20000 in
set_option maxHeartbeats 4000000 in
theorem rget_7 (p : Int) (cs : Array Value) (x : Int) (hx : W16 x) (hc : cs[0]? = some (.int .u16 x)) (w : World) :
    Calls Tryd.prog 9 #[.agg cs, .int .i64 p, .int .i64 7] w fun e w' => e = .returned (.int .u8 (x / 256)) ∧ Below w.heap.size w w' := by
  have kb := Lib.hid (fun w => rhi_any x hx.1 hx.2 w)
  have c1 := ((Row.new w 24 cs).cell 0).trans hc
  have HB := Lib.hid ((Below.refl w.heap.size w).alloc (Nat.le_refl _) (.cells cs 24))
  clear hx hc
  go_enter Tryd.func9, Tryd.ntmps9
  go_wp2_with (first
    | (go_at_call 29; refine (kb.out _).mono ?_; rintro e w' ⟨rfl, rfl⟩))
  go_ret
  exact ⟨rfl, HB.out⟩
set_option maxHeartbeats 4000000 in
theorem rget_no (p k : Int) (hk : k < 0 ∨ k = 6 ∨ 7 < k) (cs : Array Value) (w : World) :
    Calls Tryd.prog 9 #[.agg cs, .int .i64 p, .int .i64 k] w fun e w' => e = .returned (.int .u8 0) ∧ Below w.heap.size w w' := by
  have e7 : (k == 7) = false := by simp; omega
  have HB := Lib.hid ((Below.refl w.heap.size w).alloc (Nat.le_refl _) (.cells cs 24))
  by_cases h0 : k < 0
  · clear hk
    go_enter Tryd.func9, Tryd.ntmps9
    go_wp2
    go_ret
    exact ⟨rfl, HB.out⟩
  · have h5 : 5 < k := by omega
    clear hk
    go_enter Tryd.func9, Tryd.ntmps9
    go_wp2
    go_ret
    exact ⟨rfl, HB.out⟩
theorem rget_any (g : Rg) (hg : RgB g) (p k : Int) (w : World) :
    Calls Tryd.prog 9 #[regsV g, .int .i64 p, .int .i64 k] w fun e w' => e = .returned (.int .u8 (getG g p k)) ∧ Below w.heap.size w w' := by
  by_cases hn : k < 0 ∨ k = 6 ∨ 7 < k
  · rw [getG_no g p k hn]
    exact rget_no p k hn _ w
  obtain rfl | rfl | rfl | rfl | rfl | rfl | rfl : k = 0 ∨ k = 1 ∨ k = 2 ∨ k = 3 ∨ k = 4 ∨ k = 5 ∨ k = 7 := by omega
  · exact rget_0 g p _ (hg.pair p 0) rfl w
  · exact rget_1 g p _ (hg.pair p 0) rfl w
  · exact rget_2 g p _ (hg.pair p 1) rfl w
  · exact rget_3 g p _ (hg.pair p 1) rfl w
  · exact rget_4 g p _ (hg.pair p 2) rfl w
  · exact rget_5 g p _ (hg.pair p 2) rfl w
  · exact rget_7 p _ g.af hg.af rfl w
end Go.Proofs.YtpiadeedgjmmkaaDoor
