/- Layer 11 (regs): the walk of RegsTurned. Written by tools/regs-laws.py. -/
import Derived.Test.YtpiadeedgjmmkaaDoorRegsAwake
import Derived.Test.YtpiadeedgjmmkaaDoorRegsBackM
import Derived.BigQuiet
import Derived.Deep.DeepCutAuto
import Derived.Deep.QuietTactic
namespace Go.Proofs.YtpiadeedgjmmkaaDoor
open Go.RowKit
set_option linter.unusedVariables false
set_option linter.unusedSimpArgs false

set_option maxRecDepth 20000 in
set_option maxHeartbeats 16000000 in
theorem regsTurned_walk (g : Rg) (n m : Int) (hg : RgB g) (w : World) (ht : NumTabs w) :
    Calls Tryd.prog 6 #[regsV g, .int .i64 n, .int .i64 m] w fun e w' => e = .returned (.bool true) ∧ Below w.heap.size w w' := by
  have ka := Lib.hid (fun W (hW : Below w.heap.size w W) => rawake_any W (ht.below hW))
  obtain ⟨cs, hcs⟩ : ∃ cs, regsV g = .agg cs := ⟨_, rfl⟩
  have i24 : Hid ((Tryd.prog.info? 24).map (·.size) = some cs.size) := Lib.hid (by cases hcs; exact info24)
  obtain ⟨ds, hds⟩ : ∃ ds, regsV (tickG g (n % 65536)) = .agg ds := ⟨_, rfl⟩
  have j24 : Hid ((Tryd.prog.info? 24).map (·.size) = some ds.size) := Lib.hid (by cases hds; exact info24)
  have c14 : Hid (cs[14]? = some (.int .u8 g.r)) := Lib.hid (by cases hcs; rfl)
  have d14 : Hid (ds[14]? = some (.int .u8 (tickR g.r (n % 65536)))) := Lib.hid (by cases hds; rfl)
  have dcell : Hid (ds.toList.all (·.oneCell') = true) := Lib.hid (by cases hds; rfl)
  have hX := Lib.hid (tick_high g.r (n % 65536) hg.r)
  have hr := hg.r
  have ea := and65535_i64 n
  have eb := and65535_i64 m
  obtain ⟨a, ha⟩ : ∃ a, a = n % 65536 := ⟨_, rfl⟩
  obtain ⟨b, hb⟩ : ∃ b, b = m % 65536 := ⟨_, rfl⟩
  rw [← ha] at hds d14 hX ea
  rw [← hb] at eb
  have ha0 : 0 ≤ a ∧ a ≤ 65535 := by omega
  have hb0 : 0 ≤ b ∧ b ≤ 65535 := by omega
  have hab : Hid (IntKind.i64.wrap (a + b) = a + b) := Lib.hid (by rw [IntKind.wrap_i64]; omega)
  have hna : Hid (IntKind.i64.wrap (-a) = -a) := Lib.hid (by rw [IntKind.wrap_i64]; omega)
  have ht' := tickR_b hr a
  obtain ⟨R, hR⟩ : ∃ R, R = tickR g.r a := ⟨_, rfl⟩
  rw [← hR] at d14 hX
  obtain ⟨x1, hx1⟩ : ∃ x, x = regsV (exxG g) := ⟨_, rfl⟩
  obtain ⟨x2, hx2⟩ : ∃ x, x = regsV (swapG g) := ⟨_, rfl⟩
  obtain ⟨x3, hx3⟩ : ∃ x, x = regsV (tickG g (a + b)) := ⟨_, rfl⟩
  obtain ⟨x4, hx4⟩ : ∃ x, x = regsV (resetG g) := ⟨_, rfl⟩
  obtain ⟨x5, hx5⟩ : ∃ x, x = regsV (exxG (swapG g)) := ⟨_, rfl⟩
  have Ecs := Lib.hid (fun W => regs_eql (g) W)
  have Gcs := Lib.hid (fun x y W => regs_guard .eql (g) (g) x y W)
  rw [hcs] at Ecs Gcs
  have Ex3 := Lib.hid (fun W => regs_eql (tickG g (a + b)) W)
  have Gx3 := Lib.hid (fun x y W => regs_guard .eql (tickG g (a + b)) (tickG g (a + b)) x y W)
  rw [← hx3] at Ex3 Gx3
  have Ex4 := Lib.hid (fun W => regs_eql (resetG g) W)
  have Gx4 := Lib.hid (fun x y W => regs_guard .eql (resetG g) (resetG g) x y W)
  rw [← hx4] at Ex4 Gx4
  have Ex5 := Lib.hid (fun W => regs_eql (exxG (swapG g)) W)
  have Gx5 := Lib.hid (fun x y W => regs_guard .eql (exxG (swapG g)) (exxG (swapG g)) x y W)
  rw [← hx5] at Ex5 Gx5
  have k0 := Lib.hid (fun W => exx_any g W)
  rw [hcs, ← hx1] at k0
  have k1 := Lib.hid (fun W => exx_any (exxG g) W)
  rw [exx_exx, hcs, ← hx1] at k1
  have k2 := Lib.hid (fun W => swap_any g W)
  rw [hcs, ← hx2] at k2
  have k3 := Lib.hid (fun W => swap_any (swapG g) W)
  rw [swap_swap, hcs, ← hx2] at k3
  have k4 := Lib.hid (fun W => tick_any (tickG g a) b ht' W)
  rw [tick_add, hds, ← hx3] at k4
  have k5 := Lib.hid (fun W => tick_any g (a + b) hr W)
  rw [hcs, ← hx3] at k5
  have k6 := Lib.hid (fun W => tick_any (tickG g a) (-a) ht' W)
  rw [tick_back, hds, hcs] at k6
  have k7 := Lib.hid (fun W => reset_any g W)
  rw [hcs, ← hx4] at k7
  have k8 := Lib.hid (fun W => reset_any (resetG g) W)
  rw [reset_reset, ← hx4] at k8
  have k9 := Lib.hid (fun W => reset_any g W)
  rw [hcs, ← hx4] at k9
  have k10 := Lib.hid (fun W => swap_any g W)
  rw [hcs, ← hx2] at k10
  have k11 := Lib.hid (fun W => exx_any (swapG g) W)
  rw [← hx2, ← hx5] at k11
  have k12 := Lib.hid (fun W => exx_any g W)
  rw [hcs, ← hx1] at k12
  have k13 := Lib.hid (fun W => swap_any (exxG g) W)
  rw [← exx_swap, ← hx1, ← hx5] at k13
  have kt := Lib.hid (fun W => tick_any g a hr W)
  rw [hcs, hds] at kt
  rw [hcs]
  have rA := Row.new w 24 cs
  have HB := Lib.hid ((Below.refl w.heap.size w).alloc (Nat.le_refl _) (.cells cs 24))
  go_enter Tryd.func6, Tryd.ntmps6
  go_wp2_with fail
  generalize w.alloc (.cells cs 24) = W0 at *
  refine (ka.out _ HB.out).mono ?_
  rintro e w1 ⟨rfl, hb⟩
  have HB1 := Lib.hid (HB.out.trans (hb.mono HB.out.size))
  have rA1 := rA.below hb rA.lt
  clear hb HB rA ka
  clear hcs hds hx1 hx2 hx3 hx4 hx5 ht hg ha hb ha0 hb0 ht' hR hr
  go_upto_region 6 with (fail)
  clear ea eb
  go_wp2_with (refine wpList_load_row rfl 24 _ rfl _ _ _ rfl rA1 _ Tryd.underlying24 rfl i24.out ?_)
  refine (kt.out _).mono ?_
  rintro e w2 ⟨rfl, hb2⟩
  clear kt
  have HB2 := Lib.hid ((HB1.out.trans (hb2.mono HB1.out.size)).alloc (HB1.out.trans (hb2.mono HB1.out.size)).size (.cells ds 24))
  have r1 := (rA1.below hb2 rA1.lt).alloc (.cells ds 24)
  have r2 := Row.new w2 24 ds
  clear hb2 rA1 HB1
  go_upto_region 7 with (first
    | (refine wpList_store_top rfl 24 _ _ rfl _ _ _ _ ds rfl rfl (by simp) (by have := j24.out; rw [info24] at this; exact Option.some.inj this) j24.out dcell.out ?_))
  generalize w2.heap.size = B2 at *
  generalize w2.alloc (.cells ds 24) = W2 at *
  obtain ⟨S, hSd⟩ : ∃ S : World → Prop, S = fun w' => Row w' w.heap.size 24 cs ∧ Row w' B2 24 ds ∧ Below w.heap.size w w' := ⟨_, rfl⟩
  have hrow0 : ∀ w', S w' → Row w' w.heap.size 24 cs := fun w' h => by rw [hSd] at h; exact h.1
  have hrow1 : ∀ w', S w' → Row w' B2 24 ds := fun w' h => by rw [hSd] at h; exact h.2.1
  have hbel : ∀ w', S w' → Below w.heap.size w w' := fun w' h => by rw [hSd] at h; exact h.2.2
  have hdrew : ∀ w', S w' → S w'.drew := fun w' h => by
    rw [hSd] at h ⊢
    exact ⟨h.1, h.2.1, h.2.2.drew⟩
  have hkeep : ∀ w2 w3, S w3 → Below w3.heap.size w3 w2 → S w2 := fun w2 w3 h hb => by
    rw [hSd] at h ⊢
    exact ⟨h.1.below hb h.1.lt, h.2.1.below hb h.2.1.lt, h.2.2.trans (hb.mono h.2.2.size)⟩
  have hS : S W2 := by
    rw [hSd]
    exact ⟨r1, r2, HB2.out⟩
  clear r1 r2 HB2
  refine held_start S (by kernel_rfl) hdrew hS ?_
  clear hS
  intro w2 hS
  try simp only [Act.put]
  refine heldTake (i := 0) 21 ((.agg cs)) (by kernel_rfl) rfl (by kernel_rfl) (by kernel_rfl) (by kernel_rfl) (fun _ _ _ h => h) (by kernel_rfl) (run_load_held 24 _ rfl _ _ cs (by kernel_rfl) hrow0 _ Tryd.underlying24 rfl i24.out) hS ?_
  try simp only [Act.put, List.setIfInBounds_toArray, List.set_cons_zero, List.set_cons_succ]
  refine heldTake (i := 3) 24 ((.agg cs)) (by kernel_rfl) rfl (by kernel_rfl) (by kernel_rfl) (by kernel_rfl) (fun _ _ _ h => h) (by kernel_rfl) (run_load_held 24 _ rfl _ _ cs (by kernel_rfl) hrow0 _ Tryd.underlying24 rfl i24.out) hS ?_
  try simp only [Act.put, List.setIfInBounds_toArray, List.set_cons_zero, List.set_cons_succ]
  refine heldCall (i := 1) 22 (x1) (by kernel_rfl) rfl (by kernel_rfl) (by kernel_rfl) (by kernel_rfl) (k0.out _) hS (fun w' => hkeep w' _) ?_
  clear hS
  intro w2 hS
  try simp only [Act.put, List.setIfInBounds_toArray, List.set_cons_zero, List.set_cons_succ]
  refine heldCall (i := 2) 23 (.agg cs) (by kernel_rfl) rfl (by kernel_rfl) (by kernel_rfl) (by kernel_rfl) (k1.out _) hS (fun w' => hkeep w' _) ?_
  clear hS
  intro w2 hS
  try simp only [Act.put, List.setIfInBounds_toArray, List.set_cons_zero, List.set_cons_succ]
  refine heldTake (i := 4) 25 (.bool true) (by kernel_rfl) rfl (by kernel_rfl) (by kernel_rfl) (by kernel_rfl) (fun _ _ _ h => h) (by kernel_rfl) (run_bin_held (V := .agg cs) (W := (.agg cs)) rfl (by kernel_rfl) (by kernel_rfl) (Gcs.out _ _) (Ecs.out)) hS ?_
  try simp only [Act.put, List.setIfInBounds_toArray, List.set_cons_zero, List.set_cons_succ]
  refine heldTake (i := 5) 26 (.bool true) (by kernel_rfl) rfl (by kernel_rfl) (by kernel_rfl) (by kernel_rfl) (fun _ _ _ h => h) (by kernel_rfl) (run_move_held (.inl rfl) (by kernel_rfl)) hS ?_
  try simp only [Act.put, List.setIfInBounds_toArray, List.set_cons_zero, List.set_cons_succ]
  refine heldTake (i := 6) 27 ((.agg cs)) (by kernel_rfl) rfl (by kernel_rfl) (by kernel_rfl) (by kernel_rfl) (fun _ _ _ h => h) (by kernel_rfl) (run_load_held 24 _ rfl _ _ cs (by kernel_rfl) hrow0 _ Tryd.underlying24 rfl i24.out) hS ?_
  try simp only [Act.put, List.setIfInBounds_toArray, List.set_cons_zero, List.set_cons_succ]
  refine heldTake (i := 9) 30 ((.agg cs)) (by kernel_rfl) rfl (by kernel_rfl) (by kernel_rfl) (by kernel_rfl) (fun _ _ _ h => h) (by kernel_rfl) (run_load_held 24 _ rfl _ _ cs (by kernel_rfl) hrow0 _ Tryd.underlying24 rfl i24.out) hS ?_
  try simp only [Act.put, List.setIfInBounds_toArray, List.set_cons_zero, List.set_cons_succ]
  refine heldCall (i := 7) 28 (x2) (by kernel_rfl) rfl (by kernel_rfl) (by kernel_rfl) (by kernel_rfl) (k2.out _) hS (fun w' => hkeep w' _) ?_
  clear hS
  intro w2 hS
  try simp only [Act.put, List.setIfInBounds_toArray, List.set_cons_zero, List.set_cons_succ]
  refine heldCall (i := 8) 29 (.agg cs) (by kernel_rfl) rfl (by kernel_rfl) (by kernel_rfl) (by kernel_rfl) (k3.out _) hS (fun w' => hkeep w' _) ?_
  clear hS
  intro w2 hS
  try simp only [Act.put, List.setIfInBounds_toArray, List.set_cons_zero, List.set_cons_succ]
  refine heldTake (i := 10) 31 (.bool true) (by kernel_rfl) rfl (by kernel_rfl) (by kernel_rfl) (by kernel_rfl) (fun _ _ _ h => h) (by kernel_rfl) (run_bin_held (V := .agg cs) (W := (.agg cs)) rfl (by kernel_rfl) (by kernel_rfl) (Gcs.out _ _) (Ecs.out)) hS ?_
  try simp only [Act.put, List.setIfInBounds_toArray, List.set_cons_zero, List.set_cons_succ]
  refine heldTake (i := 11) 32 (.bool true) (by kernel_rfl) rfl (by kernel_rfl) (by kernel_rfl) (by kernel_rfl) (fun _ _ _ h => h) (by kernel_rfl) (run_pick_held (b := true) rfl (by kernel_rfl) (by kernel_rfl)) hS ?_
  try simp only [Act.put, List.setIfInBounds_toArray, List.set_cons_zero, List.set_cons_succ]
  refine heldTake (i := 12) 33 (.bool true) (by kernel_rfl) rfl (by kernel_rfl) (by kernel_rfl) (by kernel_rfl) (fun _ _ _ h => h) (by kernel_rfl) (run_move_held (.inl rfl) (by kernel_rfl)) hS ?_
  try simp only [Act.put, List.setIfInBounds_toArray, List.set_cons_zero, List.set_cons_succ]
  refine heldTake (i := 13) 34 ((.agg ds)) (by kernel_rfl) rfl (by kernel_rfl) (by kernel_rfl) (by kernel_rfl) (fun _ _ _ h => h) (by kernel_rfl) (run_load_held 24 _ rfl _ _ ds (by kernel_rfl) hrow1 _ Tryd.underlying24 rfl j24.out) hS ?_
  try simp only [Act.put, List.setIfInBounds_toArray, List.set_cons_zero, List.set_cons_succ]
  refine heldTake (i := 14) 35 (.int .i64 b) (by kernel_rfl) rfl (by kernel_rfl) (by kernel_rfl) (by kernel_rfl) (fun _ _ _ h => h) (by kernel_rfl) (run_move_held (.inl rfl) (by kernel_rfl)) hS ?_
  try simp only [Act.put, List.setIfInBounds_toArray, List.set_cons_zero, List.set_cons_succ]
  refine heldTake (i := 16) 37 ((.agg cs)) (by kernel_rfl) rfl (by kernel_rfl) (by kernel_rfl) (by kernel_rfl) (fun _ _ _ h => h) (by kernel_rfl) (run_load_held 24 _ rfl _ _ cs (by kernel_rfl) hrow0 _ Tryd.underlying24 rfl i24.out) hS ?_
  try simp only [Act.put, List.setIfInBounds_toArray, List.set_cons_zero, List.set_cons_succ]
  refine heldTake (i := 17) 38 (.int .i64 a) (by kernel_rfl) rfl (by kernel_rfl) (by kernel_rfl) (by kernel_rfl) (fun _ _ _ h => h) (by kernel_rfl) (run_move_held (.inl rfl) (by kernel_rfl)) hS ?_
  try simp only [Act.put, List.setIfInBounds_toArray, List.set_cons_zero, List.set_cons_succ]
  refine heldTake (i := 18) 39 (.int .i64 b) (by kernel_rfl) rfl (by kernel_rfl) (by kernel_rfl) (by kernel_rfl) (fun _ _ _ h => h) (by kernel_rfl) (run_move_held (.inl rfl) (by kernel_rfl)) hS ?_
  try simp only [Act.put, List.setIfInBounds_toArray, List.set_cons_zero, List.set_cons_succ]
  refine heldTake (i := 19) 40 (.int .i64 (a + b)) (by kernel_rfl) rfl (by kernel_rfl) (by kernel_rfl) (by kernel_rfl) (fun _ _ _ h => h) (by kernel_rfl) (run_bin_held (V := .int .i64 a) (W := .int .i64 b) rfl (by kernel_rfl) (by kernel_rfl) (fun w => by go_simp) (fun w => by have := hab.out; go_simp)) hS ?_
  try simp only [Act.put, List.setIfInBounds_toArray, List.set_cons_zero, List.set_cons_succ]
  refine heldCall (i := 15) 36 (x3) (by kernel_rfl) rfl (by kernel_rfl) (by kernel_rfl) (by kernel_rfl) (k4.out _) hS (fun w' => hkeep w' _) ?_
  clear hS
  intro w2 hS
  try simp only [Act.put, List.setIfInBounds_toArray, List.set_cons_zero, List.set_cons_succ]
  refine heldCall (i := 20) 41 (x3) (by kernel_rfl) rfl (by kernel_rfl) (by kernel_rfl) (by kernel_rfl) (k5.out _) hS (fun w' => hkeep w' _) ?_
  clear hS
  intro w2 hS
  try simp only [Act.put, List.setIfInBounds_toArray, List.set_cons_zero, List.set_cons_succ]
  refine heldTake (i := 21) 42 (.bool true) (by kernel_rfl) rfl (by kernel_rfl) (by kernel_rfl) (by kernel_rfl) (fun _ _ _ h => h) (by kernel_rfl) (run_bin_held (V := x3) (W := x3) rfl (by kernel_rfl) (by kernel_rfl) (Gx3.out _ _) (Ex3.out)) hS ?_
  try simp only [Act.put, List.setIfInBounds_toArray, List.set_cons_zero, List.set_cons_succ]
  refine heldTake (i := 22) 43 (.bool true) (by kernel_rfl) rfl (by kernel_rfl) (by kernel_rfl) (by kernel_rfl) (fun _ _ _ h => h) (by kernel_rfl) (run_pick_held (b := true) rfl (by kernel_rfl) (by kernel_rfl)) hS ?_
  try simp only [Act.put, List.setIfInBounds_toArray, List.set_cons_zero, List.set_cons_succ]
  refine heldTake (i := 23) 44 (.bool true) (by kernel_rfl) rfl (by kernel_rfl) (by kernel_rfl) (by kernel_rfl) (fun _ _ _ h => h) (by kernel_rfl) (run_move_held (.inl rfl) (by kernel_rfl)) hS ?_
  try simp only [Act.put, List.setIfInBounds_toArray, List.set_cons_zero, List.set_cons_succ]
  refine heldTake (i := 24) 45 (.pointer (some ⟨B2, 14, none⟩)) (by kernel_rfl) rfl (by kernel_rfl) (by kernel_rfl) (by kernel_rfl) (fun _ _ _ h => h) (by kernel_rfl) (fun w _ => by kernel_rfl) hS ?_
  try simp only [Act.put, List.setIfInBounds_toArray, List.set_cons_zero, List.set_cons_succ]
  refine heldTake (i := 25) 46 (.int .u8 R) (by kernel_rfl) rfl (by kernel_rfl) (by kernel_rfl) (by kernel_rfl) (fun _ _ _ h => h) (by kernel_rfl) (fun w hw => by have := ((hrow1 w hw).cell 14).trans d14.out; go_simp) hS ?_
  try simp only [Act.put, List.setIfInBounds_toArray, List.set_cons_zero, List.set_cons_succ]
  refine heldTake (i := 26) 47 (.pointer (some ⟨w.heap.size, 14, none⟩)) (by kernel_rfl) rfl (by kernel_rfl) (by kernel_rfl) (by kernel_rfl) (fun _ _ _ h => h) (by kernel_rfl) (fun w _ => by kernel_rfl) hS ?_
  try simp only [Act.put, List.setIfInBounds_toArray, List.set_cons_zero, List.set_cons_succ]
  refine heldTake (i := 27) 48 (.int .u8 g.r) (by kernel_rfl) rfl (by kernel_rfl) (by kernel_rfl) (by kernel_rfl) (fun _ _ _ h => h) (by kernel_rfl) (fun w hw => by have := ((hrow0 w hw).cell 14).trans c14.out; go_simp) hS ?_
  try simp only [Act.put, List.setIfInBounds_toArray, List.set_cons_zero, List.set_cons_succ]
  refine heldTake (i := 28) 49 (.int .u8 (bits .xor .u8 R g.r)) (by kernel_rfl) rfl (by kernel_rfl) (by kernel_rfl) (by kernel_rfl) (fun _ _ _ h => h) (by kernel_rfl) (run_bin_held (V := .int .u8 R) (W := .int .u8 g.r) rfl (by kernel_rfl) (by kernel_rfl) (fun w => by go_simp) (fun w => by go_simp)) hS ?_
  try simp only [Act.put, List.setIfInBounds_toArray, List.set_cons_zero, List.set_cons_succ]
  refine heldTake (i := 29) 50 (.int .u8 0) (by kernel_rfl) rfl (by kernel_rfl) (by kernel_rfl) (by kernel_rfl) (fun _ _ _ h => h) (by kernel_rfl) (run_bin_held (V := .int .u8 (bits .xor .u8 R g.r)) (W := .int .u8 128) rfl (by kernel_rfl) (by kernel_rfl) (fun w => by go_simp) (fun w => by have := hX.out; go_simp)) hS ?_
  try simp only [Act.put, List.setIfInBounds_toArray, List.set_cons_zero, List.set_cons_succ]
  refine heldTake (i := 30) 51 (.bool true) (by kernel_rfl) rfl (by kernel_rfl) (by kernel_rfl) (by kernel_rfl) (fun _ _ _ h => h) (by kernel_rfl) (run_bin_held (V := .int .u8 0) (W := .int .u8 0) rfl (by kernel_rfl) (by kernel_rfl) (fun w => by go_simp) (fun w => by go_simp)) hS ?_
  try simp only [Act.put, List.setIfInBounds_toArray, List.set_cons_zero, List.set_cons_succ]
  refine heldTake (i := 31) 52 (.bool true) (by kernel_rfl) rfl (by kernel_rfl) (by kernel_rfl) (by kernel_rfl) (fun _ _ _ h => h) (by kernel_rfl) (run_pick_held (b := true) rfl (by kernel_rfl) (by kernel_rfl)) hS ?_
  try simp only [Act.put, List.setIfInBounds_toArray, List.set_cons_zero, List.set_cons_succ]
  refine heldTake (i := 32) 53 (.bool true) (by kernel_rfl) rfl (by kernel_rfl) (by kernel_rfl) (by kernel_rfl) (fun _ _ _ h => h) (by kernel_rfl) (run_move_held (.inl rfl) (by kernel_rfl)) hS ?_
  try simp only [Act.put, List.setIfInBounds_toArray, List.set_cons_zero, List.set_cons_succ]
  refine heldTake (i := 33) 54 ((.agg ds)) (by kernel_rfl) rfl (by kernel_rfl) (by kernel_rfl) (by kernel_rfl) (fun _ _ _ h => h) (by kernel_rfl) (run_load_held 24 _ rfl _ _ ds (by kernel_rfl) hrow1 _ Tryd.underlying24 rfl j24.out) hS ?_
  try simp only [Act.put, List.setIfInBounds_toArray, List.set_cons_zero, List.set_cons_succ]
  refine heldTake (i := 34) 55 (.int .i64 a) (by kernel_rfl) rfl (by kernel_rfl) (by kernel_rfl) (by kernel_rfl) (fun _ _ _ h => h) (by kernel_rfl) (run_move_held (.inl rfl) (by kernel_rfl)) hS ?_
  try simp only [Act.put, List.setIfInBounds_toArray, List.set_cons_zero, List.set_cons_succ]
  refine heldTake (i := 35) 56 (.int .i64 (-a)) (by kernel_rfl) rfl (by kernel_rfl) (by kernel_rfl) (by kernel_rfl) (fun _ _ _ h => h) (by kernel_rfl) (fun w _ => by have := hna.out; go_simp) hS ?_
  try simp only [Act.put, List.setIfInBounds_toArray, List.set_cons_zero, List.set_cons_succ]
  refine heldTake (i := 37) 58 ((.agg cs)) (by kernel_rfl) rfl (by kernel_rfl) (by kernel_rfl) (by kernel_rfl) (fun _ _ _ h => h) (by kernel_rfl) (run_load_held 24 _ rfl _ _ cs (by kernel_rfl) hrow0 _ Tryd.underlying24 rfl i24.out) hS ?_
  try simp only [Act.put, List.setIfInBounds_toArray, List.set_cons_zero, List.set_cons_succ]
  refine heldCall (i := 36) 57 (.agg cs) (by kernel_rfl) rfl (by kernel_rfl) (by kernel_rfl) (by kernel_rfl) (k6.out _) hS (fun w' => hkeep w' _) ?_
  clear hS
  intro w2 hS
  try simp only [Act.put, List.setIfInBounds_toArray, List.set_cons_zero, List.set_cons_succ]
  refine heldTake (i := 38) 59 (.bool true) (by kernel_rfl) rfl (by kernel_rfl) (by kernel_rfl) (by kernel_rfl) (fun _ _ _ h => h) (by kernel_rfl) (run_bin_held (V := .agg cs) (W := (.agg cs)) rfl (by kernel_rfl) (by kernel_rfl) (Gcs.out _ _) (Ecs.out)) hS ?_
  try simp only [Act.put, List.setIfInBounds_toArray, List.set_cons_zero, List.set_cons_succ]
  refine heldTake (i := 39) 60 (.bool true) (by kernel_rfl) rfl (by kernel_rfl) (by kernel_rfl) (by kernel_rfl) (fun _ _ _ h => h) (by kernel_rfl) (run_pick_held (b := true) rfl (by kernel_rfl) (by kernel_rfl)) hS ?_
  try simp only [Act.put, List.setIfInBounds_toArray, List.set_cons_zero, List.set_cons_succ]
  refine heldTake (i := 40) 61 (.bool true) (by kernel_rfl) rfl (by kernel_rfl) (by kernel_rfl) (by kernel_rfl) (fun _ _ _ h => h) (by kernel_rfl) (run_move_held (.inl rfl) (by kernel_rfl)) hS ?_
  try simp only [Act.put, List.setIfInBounds_toArray, List.set_cons_zero, List.set_cons_succ]
  refine heldTake (i := 41) 62 ((.agg cs)) (by kernel_rfl) rfl (by kernel_rfl) (by kernel_rfl) (by kernel_rfl) (fun _ _ _ h => h) (by kernel_rfl) (run_load_held 24 _ rfl _ _ cs (by kernel_rfl) hrow0 _ Tryd.underlying24 rfl i24.out) hS ?_
  try simp only [Act.put, List.setIfInBounds_toArray, List.set_cons_zero, List.set_cons_succ]
  refine heldTake (i := 44) 65 ((.agg cs)) (by kernel_rfl) rfl (by kernel_rfl) (by kernel_rfl) (by kernel_rfl) (fun _ _ _ h => h) (by kernel_rfl) (run_load_held 24 _ rfl _ _ cs (by kernel_rfl) hrow0 _ Tryd.underlying24 rfl i24.out) hS ?_
  try simp only [Act.put, List.setIfInBounds_toArray, List.set_cons_zero, List.set_cons_succ]
  refine heldCall (i := 42) 63 (x4) (by kernel_rfl) rfl (by kernel_rfl) (by kernel_rfl) (by kernel_rfl) (k7.out _) hS (fun w' => hkeep w' _) ?_
  clear hS
  intro w2 hS
  try simp only [Act.put, List.setIfInBounds_toArray, List.set_cons_zero, List.set_cons_succ]
  refine heldCall (i := 43) 64 (x4) (by kernel_rfl) rfl (by kernel_rfl) (by kernel_rfl) (by kernel_rfl) (k8.out _) hS (fun w' => hkeep w' _) ?_
  clear hS
  intro w2 hS
  try simp only [Act.put, List.setIfInBounds_toArray, List.set_cons_zero, List.set_cons_succ]
  refine heldCall (i := 45) 66 (x4) (by kernel_rfl) rfl (by kernel_rfl) (by kernel_rfl) (by kernel_rfl) (k9.out _) hS (fun w' => hkeep w' _) ?_
  clear hS
  intro w2 hS
  try simp only [Act.put, List.setIfInBounds_toArray, List.set_cons_zero, List.set_cons_succ]
  refine heldTake (i := 46) 67 (.bool true) (by kernel_rfl) rfl (by kernel_rfl) (by kernel_rfl) (by kernel_rfl) (fun _ _ _ h => h) (by kernel_rfl) (run_bin_held (V := x4) (W := x4) rfl (by kernel_rfl) (by kernel_rfl) (Gx4.out _ _) (Ex4.out)) hS ?_
  try simp only [Act.put, List.setIfInBounds_toArray, List.set_cons_zero, List.set_cons_succ]
  refine heldTake (i := 47) 68 (.bool true) (by kernel_rfl) rfl (by kernel_rfl) (by kernel_rfl) (by kernel_rfl) (fun _ _ _ h => h) (by kernel_rfl) (run_pick_held (b := true) rfl (by kernel_rfl) (by kernel_rfl)) hS ?_
  try simp only [Act.put, List.setIfInBounds_toArray, List.set_cons_zero, List.set_cons_succ]
  refine heldTake (i := 48) 69 (.bool true) (by kernel_rfl) rfl (by kernel_rfl) (by kernel_rfl) (by kernel_rfl) (fun _ _ _ h => h) (by kernel_rfl) (run_move_held (.inl rfl) (by kernel_rfl)) hS ?_
  try simp only [Act.put, List.setIfInBounds_toArray, List.set_cons_zero, List.set_cons_succ]
  refine heldTake (i := 49) 70 ((.agg cs)) (by kernel_rfl) rfl (by kernel_rfl) (by kernel_rfl) (by kernel_rfl) (fun _ _ _ h => h) (by kernel_rfl) (run_load_held 24 _ rfl _ _ cs (by kernel_rfl) hrow0 _ Tryd.underlying24 rfl i24.out) hS ?_
  try simp only [Act.put, List.setIfInBounds_toArray, List.set_cons_zero, List.set_cons_succ]
  refine heldTake (i := 52) 73 ((.agg cs)) (by kernel_rfl) rfl (by kernel_rfl) (by kernel_rfl) (by kernel_rfl) (fun _ _ _ h => h) (by kernel_rfl) (run_load_held 24 _ rfl _ _ cs (by kernel_rfl) hrow0 _ Tryd.underlying24 rfl i24.out) hS ?_
  try simp only [Act.put, List.setIfInBounds_toArray, List.set_cons_zero, List.set_cons_succ]
  refine heldCall (i := 50) 71 (x2) (by kernel_rfl) rfl (by kernel_rfl) (by kernel_rfl) (by kernel_rfl) (k10.out _) hS (fun w' => hkeep w' _) ?_
  clear hS
  intro w2 hS
  try simp only [Act.put, List.setIfInBounds_toArray, List.set_cons_zero, List.set_cons_succ]
  refine heldCall (i := 51) 72 (x5) (by kernel_rfl) rfl (by kernel_rfl) (by kernel_rfl) (by kernel_rfl) (k11.out _) hS (fun w' => hkeep w' _) ?_
  clear hS
  intro w2 hS
  try simp only [Act.put, List.setIfInBounds_toArray, List.set_cons_zero, List.set_cons_succ]
  refine heldCall (i := 53) 74 (x1) (by kernel_rfl) rfl (by kernel_rfl) (by kernel_rfl) (by kernel_rfl) (k12.out _) hS (fun w' => hkeep w' _) ?_
  clear hS
  intro w2 hS
  try simp only [Act.put, List.setIfInBounds_toArray, List.set_cons_zero, List.set_cons_succ]
  refine heldCall (i := 54) 75 (x5) (by kernel_rfl) rfl (by kernel_rfl) (by kernel_rfl) (by kernel_rfl) (k13.out _) hS (fun w' => hkeep w' _) ?_
  clear hS
  intro w2 hS
  try simp only [Act.put, List.setIfInBounds_toArray, List.set_cons_zero, List.set_cons_succ]
  refine heldTake (i := 55) 76 (.bool true) (by kernel_rfl) rfl (by kernel_rfl) (by kernel_rfl) (by kernel_rfl) (fun _ _ _ h => h) (by kernel_rfl) (run_bin_held (V := x5) (W := x5) rfl (by kernel_rfl) (by kernel_rfl) (Gx5.out _ _) (Ex5.out)) hS ?_
  try simp only [Act.put, List.setIfInBounds_toArray, List.set_cons_zero, List.set_cons_succ]
  refine heldTake (i := 56) 77 (.bool true) (by kernel_rfl) rfl (by kernel_rfl) (by kernel_rfl) (by kernel_rfl) (fun _ _ _ h => h) (by kernel_rfl) (run_pick_held (b := true) rfl (by kernel_rfl) (by kernel_rfl)) hS ?_
  try simp only [Act.put, List.setIfInBounds_toArray, List.set_cons_zero, List.set_cons_succ]
  refine heldTake (i := 57) 6 (.bool true) (by kernel_rfl) rfl (by kernel_rfl) (by kernel_rfl) (by kernel_rfl) (fun _ _ _ h => h) (by kernel_rfl) (run_move_held (.inr rfl) (by kernel_rfl)) hS ?_
  try simp only [Act.put, List.setIfInBounds_toArray, List.set_cons_zero, List.set_cons_succ]
  refine wpAnyH_done (by kernel_rfl) ?_ _
  have HF := Lib.hid (hbel _ hS)
  clear hdrew hkeep hSd hrow0 hrow1 hbel
  go_wp2
  go_ret
  exact ⟨rfl, HF.out⟩
end Go.Proofs.YtpiadeedgjmmkaaDoor
