/- Layer 11 (regs): the walk of RegsGets. Written by tools/regs-laws.py. -/
import Derived.Test.YtpiadeedgjmmkaaDoorRegsAwake
import Derived.Test.YtpiadeedgjmmkaaDoorRegsEq
import Derived.Test.YtpiadeedgjmmkaaDoorRegion
import Derived.Test.YtpiadeedgjmmkaaDoorRegsSet
import Derived.Test.YtpiadeedgjmmkaaDoorRegsSetR
import Derived.Test.YtpiadeedgjmmkaaDoorRegsGetR
import Derived.Test.YtpiadeedgjmmkaaDoorRegsTurn
import Derived.Test.YtpiadeedgjmmkaaDoorRegsTurnR
import Derived.Test.YtpiadeedgjmmkaaDoorRegsTick
import Derived.Test.YtpiadeedgjmmkaaDoorRegsShow
import Derived.Test.YtpiadeedgjmmkaaDoorRegsShowR
import Derived.BigQuiet
import Derived.Deep.DeepCutAuto
import Derived.Deep.QuietTactic
namespace Go.Proofs.YtpiadeedgjmmkaaDoor
open Go.RowKit
set_option linter.unusedVariables false
set_option linter.unusedSimpArgs false

set_option maxRecDepth 20000 in
set_option maxHeartbeats 16000000 in
theorem regsGets_walk (g : Rg) (p k : Int) (hg : RgB g) (w : World) (ht : NumTabs w) :
    Calls Tryd.prog 3 #[regsV g, .int .i64 p, .int .i64 k] w fun e w' => e = .returned (.bool true) ∧ Below w.heap.size w w' := by
  have ka := Lib.hid (fun W (hW : Below w.heap.size w W) => rawake_any W (ht.below hW))
  obtain ⟨cs, hcs⟩ : ∃ cs, regsV g = .agg cs := ⟨_, rfl⟩
  have i24 : Hid ((Tryd.prog.info? 24).map (·.size) = some cs.size) := Lib.hid (by cases hcs; exact info24)
  obtain ⟨G1, hG1⟩ : ∃ x, x = getG g p k := ⟨_, rfl⟩
  obtain ⟨P1, hP1⟩ : ∃ x, x = pairG g p k := ⟨_, rfl⟩
  obtain ⟨SS, hSS⟩ : ∃ x : ByteArray, x = ⟨(showG g).toArray⟩ := ⟨_, rfl⟩
  obtain ⟨x1, hx1⟩ : ∃ x, x = regsV (exxG g) := ⟨_, rfl⟩
  have Ex1 := Lib.hid (fun W => regs_eql (exxG g) W)
  have Gx1 := Lib.hid (fun x y W => regs_guard .eql (exxG g) (exxG g) x y W)
  rw [← hx1] at Ex1 Gx1
  obtain ⟨x2, hx2⟩ : ∃ x, x = regsV (swapG g) := ⟨_, rfl⟩
  have Ex2 := Lib.hid (fun W => regs_eql (swapG g) W)
  have Gx2 := Lib.hid (fun x y W => regs_guard .eql (swapG g) (swapG g) x y W)
  rw [← hx2] at Ex2 Gx2
  obtain ⟨x3, hx3⟩ : ∃ x, x = regsV (tickG g k) := ⟨_, rfl⟩
  have Ex3 := Lib.hid (fun W => regs_eql (tickG g k) W)
  have Gx3 := Lib.hid (fun x y W => regs_guard .eql (tickG g k) (tickG g k) x y W)
  rw [← hx3] at Ex3 Gx3
  obtain ⟨x4, hx4⟩ : ∃ x, x = regsV (resetG g) := ⟨_, rfl⟩
  have Ex4 := Lib.hid (fun W => regs_eql (resetG g) W)
  have Gx4 := Lib.hid (fun x y W => regs_guard .eql (resetG g) (resetG g) x y W)
  rw [← hx4] at Ex4 Gx4
  have k0 := Lib.hid (fun W => get_any g hg p k W)
  rw [hcs, ← hG1] at k0
  have k1 := Lib.hid (fun W => rget_any g hg p k W)
  rw [hcs, ← hG1] at k1
  have k2 := Lib.hid (fun W => pair_any g p k W)
  rw [hcs, ← hP1] at k2
  have k3 := Lib.hid (fun W => rpair_any g p k W)
  rw [hcs, ← hP1] at k3
  have k4 := Lib.hid (fun W => exx_any g W)
  rw [hcs, ← hx1] at k4
  have k5 := Lib.hid (fun W => rexx_any g W)
  rw [hcs, ← hx1] at k5
  have k6 := Lib.hid (fun W => swap_any g W)
  rw [hcs, ← hx2] at k6
  have k7 := Lib.hid (fun W => rswap_any g W)
  rw [hcs, ← hx2] at k7
  have k8 := Lib.hid (fun W => tick_any g k hg.r W)
  rw [hcs, ← hx3] at k8
  have k9 := Lib.hid (fun W => rtick_any g k hg.r W)
  rw [hcs, ← hx3] at k9
  have k10 := Lib.hid (fun W => reset_any g W)
  rw [hcs, ← hx4] at k10
  have k11 := Lib.hid (fun W => rreset_any g W)
  rw [hcs, ← hx4] at k11
  have k12 := Lib.hid (fun W (hW : Below w.heap.size w W) => show_any g hg W (ht.below hW))
  rw [hcs, ← hSS] at k12
  have k13 := Lib.hid (fun W => rshow_any g hg W)
  rw [hcs, ← hSS] at k13
  rw [hcs]
  clear hG1 hP1 hSS hx1 hx2 hx3 hx4 ht hg hcs
  have rA := Row.new w 24 cs
  have HB := Lib.hid ((Below.refl w.heap.size w).alloc (Nat.le_refl _) (.cells cs 24))
  go_enter Tryd.func3, Tryd.ntmps3
  go_wp2_with fail
  generalize w.alloc (.cells cs 24) = W0 at *
  refine (ka.out _ HB.out).mono ?_
  rintro e w1 ⟨rfl, hb⟩
  have HB1 := Lib.hid (HB.out.trans (hb.mono HB.out.size))
  have rA1 := rA.below hb rA.lt
  clear hb HB rA ka
  go_upto_region 4 with (fail)
  obtain ⟨S, hSd⟩ : ∃ S : World → Prop, S = fun w' => Row w' w.heap.size 24 cs ∧ Below w.heap.size w w' := ⟨_, rfl⟩
  have hrow0 : ∀ w', S w' → Row w' w.heap.size 24 cs := fun w' h => by rw [hSd] at h; exact h.1
  have hbel : ∀ w', S w' → Below w.heap.size w w' := fun w' h => by rw [hSd] at h; exact h.2
  have hdrew : ∀ w', S w' → S w'.drew := fun w' h => by
    rw [hSd] at h ⊢
    exact ⟨h.1, h.2.drew⟩
  have hkeep : ∀ w2 w3, S w3 → Below w3.heap.size w3 w2 → S w2 := fun w2 w3 h hb => by
    rw [hSd] at h ⊢
    exact ⟨h.1.below hb h.1.lt, h.2.trans (hb.mono h.2.size)⟩
  refine held_start S (by kernel_rfl) hdrew (by rw [hSd]; exact ⟨rA1, HB1.out⟩) ?_
  clear HB1 rA1
  intro w2 hS
  refine heldTake (i := 0) 11 ((.agg cs)) (by kernel_rfl) rfl (by kernel_rfl) (by kernel_rfl) (by kernel_rfl) (fun _ _ _ h => h) (by kernel_rfl) (run_load_held 24 _ rfl _ _ cs (by kernel_rfl) hrow0 _ Tryd.underlying24 rfl i24.out) hS ?_
  try simp only [Act.put, List.setIfInBounds_toArray, List.set_cons_zero, List.set_cons_succ]
  refine heldTake (i := 1) 12 (.int .i64 p) (by kernel_rfl) rfl (by kernel_rfl) (by kernel_rfl) (by kernel_rfl) (fun _ _ _ h => h) (by kernel_rfl) (run_move_held (.inl rfl) (by kernel_rfl)) hS ?_
  try simp only [Act.put, List.setIfInBounds_toArray, List.set_cons_zero, List.set_cons_succ]
  refine heldTake (i := 2) 13 (.int .i64 k) (by kernel_rfl) rfl (by kernel_rfl) (by kernel_rfl) (by kernel_rfl) (fun _ _ _ h => h) (by kernel_rfl) (run_move_held (.inl rfl) (by kernel_rfl)) hS ?_
  try simp only [Act.put, List.setIfInBounds_toArray, List.set_cons_zero, List.set_cons_succ]
  refine heldTake (i := 4) 15 ((.agg cs)) (by kernel_rfl) rfl (by kernel_rfl) (by kernel_rfl) (by kernel_rfl) (fun _ _ _ h => h) (by kernel_rfl) (run_load_held 24 _ rfl _ _ cs (by kernel_rfl) hrow0 _ Tryd.underlying24 rfl i24.out) hS ?_
  try simp only [Act.put, List.setIfInBounds_toArray, List.set_cons_zero, List.set_cons_succ]
  refine heldTake (i := 5) 16 (.int .i64 p) (by kernel_rfl) rfl (by kernel_rfl) (by kernel_rfl) (by kernel_rfl) (fun _ _ _ h => h) (by kernel_rfl) (run_move_held (.inl rfl) (by kernel_rfl)) hS ?_
  try simp only [Act.put, List.setIfInBounds_toArray, List.set_cons_zero, List.set_cons_succ]
  refine heldTake (i := 6) 17 (.int .i64 k) (by kernel_rfl) rfl (by kernel_rfl) (by kernel_rfl) (by kernel_rfl) (fun _ _ _ h => h) (by kernel_rfl) (run_move_held (.inl rfl) (by kernel_rfl)) hS ?_
  try simp only [Act.put, List.setIfInBounds_toArray, List.set_cons_zero, List.set_cons_succ]
  refine heldCall (i := 3) 14 (.int .u8 G1) (by kernel_rfl) rfl (by kernel_rfl) (by kernel_rfl) (by kernel_rfl) (k0.out _) hS (fun w' => hkeep w' _) ?_
  clear hS
  intro w2 hS
  try simp only [Act.put, List.setIfInBounds_toArray, List.set_cons_zero, List.set_cons_succ]
  refine heldCall (i := 7) 18 (.int .u8 G1) (by kernel_rfl) rfl (by kernel_rfl) (by kernel_rfl) (by kernel_rfl) (k1.out _) hS (fun w' => hkeep w' _) ?_
  clear hS
  intro w2 hS
  try simp only [Act.put, List.setIfInBounds_toArray, List.set_cons_zero, List.set_cons_succ]
  refine heldTake (i := 8) 19 (.bool true) (by kernel_rfl) rfl (by kernel_rfl) (by kernel_rfl) (by kernel_rfl) (fun _ _ _ h => h) (by kernel_rfl) (run_bin_held (V := .int .u8 G1) (W := .int .u8 G1) rfl (by kernel_rfl) (by kernel_rfl) (fun w => by go_simp) (fun w => by go_simp)) hS ?_
  try simp only [Act.put, List.setIfInBounds_toArray, List.set_cons_zero, List.set_cons_succ]
  refine heldTake (i := 9) 20 (.bool true) (by kernel_rfl) rfl (by kernel_rfl) (by kernel_rfl) (by kernel_rfl) (fun _ _ _ h => h) (by kernel_rfl) (run_move_held (.inl rfl) (by kernel_rfl)) hS ?_
  try simp only [Act.put, List.setIfInBounds_toArray, List.set_cons_zero, List.set_cons_succ]
  refine heldTake (i := 10) 21 ((.agg cs)) (by kernel_rfl) rfl (by kernel_rfl) (by kernel_rfl) (by kernel_rfl) (fun _ _ _ h => h) (by kernel_rfl) (run_load_held 24 _ rfl _ _ cs (by kernel_rfl) hrow0 _ Tryd.underlying24 rfl i24.out) hS ?_
  try simp only [Act.put, List.setIfInBounds_toArray, List.set_cons_zero, List.set_cons_succ]
  refine heldTake (i := 11) 22 (.int .i64 p) (by kernel_rfl) rfl (by kernel_rfl) (by kernel_rfl) (by kernel_rfl) (fun _ _ _ h => h) (by kernel_rfl) (run_move_held (.inl rfl) (by kernel_rfl)) hS ?_
  try simp only [Act.put, List.setIfInBounds_toArray, List.set_cons_zero, List.set_cons_succ]
  refine heldTake (i := 12) 23 (.int .i64 k) (by kernel_rfl) rfl (by kernel_rfl) (by kernel_rfl) (by kernel_rfl) (fun _ _ _ h => h) (by kernel_rfl) (run_move_held (.inl rfl) (by kernel_rfl)) hS ?_
  try simp only [Act.put, List.setIfInBounds_toArray, List.set_cons_zero, List.set_cons_succ]
  refine heldTake (i := 14) 25 ((.agg cs)) (by kernel_rfl) rfl (by kernel_rfl) (by kernel_rfl) (by kernel_rfl) (fun _ _ _ h => h) (by kernel_rfl) (run_load_held 24 _ rfl _ _ cs (by kernel_rfl) hrow0 _ Tryd.underlying24 rfl i24.out) hS ?_
  try simp only [Act.put, List.setIfInBounds_toArray, List.set_cons_zero, List.set_cons_succ]
  refine heldTake (i := 15) 26 (.int .i64 p) (by kernel_rfl) rfl (by kernel_rfl) (by kernel_rfl) (by kernel_rfl) (fun _ _ _ h => h) (by kernel_rfl) (run_move_held (.inl rfl) (by kernel_rfl)) hS ?_
  try simp only [Act.put, List.setIfInBounds_toArray, List.set_cons_zero, List.set_cons_succ]
  refine heldTake (i := 16) 27 (.int .i64 k) (by kernel_rfl) rfl (by kernel_rfl) (by kernel_rfl) (by kernel_rfl) (fun _ _ _ h => h) (by kernel_rfl) (run_move_held (.inl rfl) (by kernel_rfl)) hS ?_
  try simp only [Act.put, List.setIfInBounds_toArray, List.set_cons_zero, List.set_cons_succ]
  refine heldCall (i := 13) 24 (.int .u16 P1) (by kernel_rfl) rfl (by kernel_rfl) (by kernel_rfl) (by kernel_rfl) (k2.out _) hS (fun w' => hkeep w' _) ?_
  clear hS
  intro w2 hS
  try simp only [Act.put, List.setIfInBounds_toArray, List.set_cons_zero, List.set_cons_succ]
  refine heldCall (i := 17) 28 (.int .u16 P1) (by kernel_rfl) rfl (by kernel_rfl) (by kernel_rfl) (by kernel_rfl) (k3.out _) hS (fun w' => hkeep w' _) ?_
  clear hS
  intro w2 hS
  try simp only [Act.put, List.setIfInBounds_toArray, List.set_cons_zero, List.set_cons_succ]
  refine heldTake (i := 18) 29 (.bool true) (by kernel_rfl) rfl (by kernel_rfl) (by kernel_rfl) (by kernel_rfl) (fun _ _ _ h => h) (by kernel_rfl) (run_bin_held (V := .int .u16 P1) (W := .int .u16 P1) rfl (by kernel_rfl) (by kernel_rfl) (fun w => by go_simp) (fun w => by go_simp)) hS ?_
  try simp only [Act.put, List.setIfInBounds_toArray, List.set_cons_zero, List.set_cons_succ]
  refine heldTake (i := 19) 30 (.bool true) (by kernel_rfl) rfl (by kernel_rfl) (by kernel_rfl) (by kernel_rfl) (fun _ _ _ h => h) (by kernel_rfl) (run_pick_held (b := true) rfl (by kernel_rfl) (by kernel_rfl)) hS ?_
  try simp only [Act.put, List.setIfInBounds_toArray, List.set_cons_zero, List.set_cons_succ]
  refine heldTake (i := 20) 31 (.bool true) (by kernel_rfl) rfl (by kernel_rfl) (by kernel_rfl) (by kernel_rfl) (fun _ _ _ h => h) (by kernel_rfl) (run_move_held (.inl rfl) (by kernel_rfl)) hS ?_
  try simp only [Act.put, List.setIfInBounds_toArray, List.set_cons_zero, List.set_cons_succ]
  refine heldTake (i := 21) 32 ((.agg cs)) (by kernel_rfl) rfl (by kernel_rfl) (by kernel_rfl) (by kernel_rfl) (fun _ _ _ h => h) (by kernel_rfl) (run_load_held 24 _ rfl _ _ cs (by kernel_rfl) hrow0 _ Tryd.underlying24 rfl i24.out) hS ?_
  try simp only [Act.put, List.setIfInBounds_toArray, List.set_cons_zero, List.set_cons_succ]
  refine heldTake (i := 23) 34 ((.agg cs)) (by kernel_rfl) rfl (by kernel_rfl) (by kernel_rfl) (by kernel_rfl) (fun _ _ _ h => h) (by kernel_rfl) (run_load_held 24 _ rfl _ _ cs (by kernel_rfl) hrow0 _ Tryd.underlying24 rfl i24.out) hS ?_
  try simp only [Act.put, List.setIfInBounds_toArray, List.set_cons_zero, List.set_cons_succ]
  refine heldCall (i := 22) 33 (x1) (by kernel_rfl) rfl (by kernel_rfl) (by kernel_rfl) (by kernel_rfl) (k4.out _) hS (fun w' => hkeep w' _) ?_
  clear hS
  intro w2 hS
  try simp only [Act.put, List.setIfInBounds_toArray, List.set_cons_zero, List.set_cons_succ]
  refine heldCall (i := 24) 35 (x1) (by kernel_rfl) rfl (by kernel_rfl) (by kernel_rfl) (by kernel_rfl) (k5.out _) hS (fun w' => hkeep w' _) ?_
  clear hS
  intro w2 hS
  try simp only [Act.put, List.setIfInBounds_toArray, List.set_cons_zero, List.set_cons_succ]
  refine heldTake (i := 25) 36 (.bool true) (by kernel_rfl) rfl (by kernel_rfl) (by kernel_rfl) (by kernel_rfl) (fun _ _ _ h => h) (by kernel_rfl) (run_bin_held (V := x1) (W := x1) rfl (by kernel_rfl) (by kernel_rfl) (Gx1.out _ _) (Ex1.out)) hS ?_
  try simp only [Act.put, List.setIfInBounds_toArray, List.set_cons_zero, List.set_cons_succ]
  refine heldTake (i := 26) 37 (.bool true) (by kernel_rfl) rfl (by kernel_rfl) (by kernel_rfl) (by kernel_rfl) (fun _ _ _ h => h) (by kernel_rfl) (run_pick_held (b := true) rfl (by kernel_rfl) (by kernel_rfl)) hS ?_
  try simp only [Act.put, List.setIfInBounds_toArray, List.set_cons_zero, List.set_cons_succ]
  refine heldTake (i := 27) 38 (.bool true) (by kernel_rfl) rfl (by kernel_rfl) (by kernel_rfl) (by kernel_rfl) (fun _ _ _ h => h) (by kernel_rfl) (run_move_held (.inl rfl) (by kernel_rfl)) hS ?_
  try simp only [Act.put, List.setIfInBounds_toArray, List.set_cons_zero, List.set_cons_succ]
  refine heldTake (i := 28) 39 ((.agg cs)) (by kernel_rfl) rfl (by kernel_rfl) (by kernel_rfl) (by kernel_rfl) (fun _ _ _ h => h) (by kernel_rfl) (run_load_held 24 _ rfl _ _ cs (by kernel_rfl) hrow0 _ Tryd.underlying24 rfl i24.out) hS ?_
  try simp only [Act.put, List.setIfInBounds_toArray, List.set_cons_zero, List.set_cons_succ]
  refine heldTake (i := 30) 41 ((.agg cs)) (by kernel_rfl) rfl (by kernel_rfl) (by kernel_rfl) (by kernel_rfl) (fun _ _ _ h => h) (by kernel_rfl) (run_load_held 24 _ rfl _ _ cs (by kernel_rfl) hrow0 _ Tryd.underlying24 rfl i24.out) hS ?_
  try simp only [Act.put, List.setIfInBounds_toArray, List.set_cons_zero, List.set_cons_succ]
  refine heldCall (i := 29) 40 (x2) (by kernel_rfl) rfl (by kernel_rfl) (by kernel_rfl) (by kernel_rfl) (k6.out _) hS (fun w' => hkeep w' _) ?_
  clear hS
  intro w2 hS
  try simp only [Act.put, List.setIfInBounds_toArray, List.set_cons_zero, List.set_cons_succ]
  refine heldCall (i := 31) 42 (x2) (by kernel_rfl) rfl (by kernel_rfl) (by kernel_rfl) (by kernel_rfl) (k7.out _) hS (fun w' => hkeep w' _) ?_
  clear hS
  intro w2 hS
  try simp only [Act.put, List.setIfInBounds_toArray, List.set_cons_zero, List.set_cons_succ]
  refine heldTake (i := 32) 43 (.bool true) (by kernel_rfl) rfl (by kernel_rfl) (by kernel_rfl) (by kernel_rfl) (fun _ _ _ h => h) (by kernel_rfl) (run_bin_held (V := x2) (W := x2) rfl (by kernel_rfl) (by kernel_rfl) (Gx2.out _ _) (Ex2.out)) hS ?_
  try simp only [Act.put, List.setIfInBounds_toArray, List.set_cons_zero, List.set_cons_succ]
  refine heldTake (i := 33) 44 (.bool true) (by kernel_rfl) rfl (by kernel_rfl) (by kernel_rfl) (by kernel_rfl) (fun _ _ _ h => h) (by kernel_rfl) (run_pick_held (b := true) rfl (by kernel_rfl) (by kernel_rfl)) hS ?_
  try simp only [Act.put, List.setIfInBounds_toArray, List.set_cons_zero, List.set_cons_succ]
  refine heldTake (i := 34) 45 (.bool true) (by kernel_rfl) rfl (by kernel_rfl) (by kernel_rfl) (by kernel_rfl) (fun _ _ _ h => h) (by kernel_rfl) (run_move_held (.inl rfl) (by kernel_rfl)) hS ?_
  try simp only [Act.put, List.setIfInBounds_toArray, List.set_cons_zero, List.set_cons_succ]
  refine heldTake (i := 35) 46 ((.agg cs)) (by kernel_rfl) rfl (by kernel_rfl) (by kernel_rfl) (by kernel_rfl) (fun _ _ _ h => h) (by kernel_rfl) (run_load_held 24 _ rfl _ _ cs (by kernel_rfl) hrow0 _ Tryd.underlying24 rfl i24.out) hS ?_
  try simp only [Act.put, List.setIfInBounds_toArray, List.set_cons_zero, List.set_cons_succ]
  refine heldTake (i := 36) 47 (.int .i64 k) (by kernel_rfl) rfl (by kernel_rfl) (by kernel_rfl) (by kernel_rfl) (fun _ _ _ h => h) (by kernel_rfl) (run_move_held (.inl rfl) (by kernel_rfl)) hS ?_
  try simp only [Act.put, List.setIfInBounds_toArray, List.set_cons_zero, List.set_cons_succ]
  refine heldTake (i := 38) 49 ((.agg cs)) (by kernel_rfl) rfl (by kernel_rfl) (by kernel_rfl) (by kernel_rfl) (fun _ _ _ h => h) (by kernel_rfl) (run_load_held 24 _ rfl _ _ cs (by kernel_rfl) hrow0 _ Tryd.underlying24 rfl i24.out) hS ?_
  try simp only [Act.put, List.setIfInBounds_toArray, List.set_cons_zero, List.set_cons_succ]
  refine heldTake (i := 39) 50 (.int .i64 k) (by kernel_rfl) rfl (by kernel_rfl) (by kernel_rfl) (by kernel_rfl) (fun _ _ _ h => h) (by kernel_rfl) (run_move_held (.inl rfl) (by kernel_rfl)) hS ?_
  try simp only [Act.put, List.setIfInBounds_toArray, List.set_cons_zero, List.set_cons_succ]
  refine heldCall (i := 37) 48 (x3) (by kernel_rfl) rfl (by kernel_rfl) (by kernel_rfl) (by kernel_rfl) (k8.out _) hS (fun w' => hkeep w' _) ?_
  clear hS
  intro w2 hS
  try simp only [Act.put, List.setIfInBounds_toArray, List.set_cons_zero, List.set_cons_succ]
  refine heldCall (i := 40) 51 (x3) (by kernel_rfl) rfl (by kernel_rfl) (by kernel_rfl) (by kernel_rfl) (k9.out _) hS (fun w' => hkeep w' _) ?_
  clear hS
  intro w2 hS
  try simp only [Act.put, List.setIfInBounds_toArray, List.set_cons_zero, List.set_cons_succ]
  refine heldTake (i := 41) 52 (.bool true) (by kernel_rfl) rfl (by kernel_rfl) (by kernel_rfl) (by kernel_rfl) (fun _ _ _ h => h) (by kernel_rfl) (run_bin_held (V := x3) (W := x3) rfl (by kernel_rfl) (by kernel_rfl) (Gx3.out _ _) (Ex3.out)) hS ?_
  try simp only [Act.put, List.setIfInBounds_toArray, List.set_cons_zero, List.set_cons_succ]
  refine heldTake (i := 42) 53 (.bool true) (by kernel_rfl) rfl (by kernel_rfl) (by kernel_rfl) (by kernel_rfl) (fun _ _ _ h => h) (by kernel_rfl) (run_pick_held (b := true) rfl (by kernel_rfl) (by kernel_rfl)) hS ?_
  try simp only [Act.put, List.setIfInBounds_toArray, List.set_cons_zero, List.set_cons_succ]
  refine heldTake (i := 43) 54 (.bool true) (by kernel_rfl) rfl (by kernel_rfl) (by kernel_rfl) (by kernel_rfl) (fun _ _ _ h => h) (by kernel_rfl) (run_move_held (.inl rfl) (by kernel_rfl)) hS ?_
  try simp only [Act.put, List.setIfInBounds_toArray, List.set_cons_zero, List.set_cons_succ]
  refine heldTake (i := 44) 55 ((.agg cs)) (by kernel_rfl) rfl (by kernel_rfl) (by kernel_rfl) (by kernel_rfl) (fun _ _ _ h => h) (by kernel_rfl) (run_load_held 24 _ rfl _ _ cs (by kernel_rfl) hrow0 _ Tryd.underlying24 rfl i24.out) hS ?_
  try simp only [Act.put, List.setIfInBounds_toArray, List.set_cons_zero, List.set_cons_succ]
  refine heldTake (i := 46) 57 ((.agg cs)) (by kernel_rfl) rfl (by kernel_rfl) (by kernel_rfl) (by kernel_rfl) (fun _ _ _ h => h) (by kernel_rfl) (run_load_held 24 _ rfl _ _ cs (by kernel_rfl) hrow0 _ Tryd.underlying24 rfl i24.out) hS ?_
  try simp only [Act.put, List.setIfInBounds_toArray, List.set_cons_zero, List.set_cons_succ]
  refine heldCall (i := 45) 56 (x4) (by kernel_rfl) rfl (by kernel_rfl) (by kernel_rfl) (by kernel_rfl) (k10.out _) hS (fun w' => hkeep w' _) ?_
  clear hS
  intro w2 hS
  try simp only [Act.put, List.setIfInBounds_toArray, List.set_cons_zero, List.set_cons_succ]
  refine heldCall (i := 47) 58 (x4) (by kernel_rfl) rfl (by kernel_rfl) (by kernel_rfl) (by kernel_rfl) (k11.out _) hS (fun w' => hkeep w' _) ?_
  clear hS
  intro w2 hS
  try simp only [Act.put, List.setIfInBounds_toArray, List.set_cons_zero, List.set_cons_succ]
  refine heldTake (i := 48) 59 (.bool true) (by kernel_rfl) rfl (by kernel_rfl) (by kernel_rfl) (by kernel_rfl) (fun _ _ _ h => h) (by kernel_rfl) (run_bin_held (V := x4) (W := x4) rfl (by kernel_rfl) (by kernel_rfl) (Gx4.out _ _) (Ex4.out)) hS ?_
  try simp only [Act.put, List.setIfInBounds_toArray, List.set_cons_zero, List.set_cons_succ]
  refine heldTake (i := 49) 60 (.bool true) (by kernel_rfl) rfl (by kernel_rfl) (by kernel_rfl) (by kernel_rfl) (fun _ _ _ h => h) (by kernel_rfl) (run_pick_held (b := true) rfl (by kernel_rfl) (by kernel_rfl)) hS ?_
  try simp only [Act.put, List.setIfInBounds_toArray, List.set_cons_zero, List.set_cons_succ]
  refine heldTake (i := 50) 61 (.bool true) (by kernel_rfl) rfl (by kernel_rfl) (by kernel_rfl) (by kernel_rfl) (fun _ _ _ h => h) (by kernel_rfl) (run_move_held (.inl rfl) (by kernel_rfl)) hS ?_
  try simp only [Act.put, List.setIfInBounds_toArray, List.set_cons_zero, List.set_cons_succ]
  refine heldTake (i := 51) 62 ((.agg cs)) (by kernel_rfl) rfl (by kernel_rfl) (by kernel_rfl) (by kernel_rfl) (fun _ _ _ h => h) (by kernel_rfl) (run_load_held 24 _ rfl _ _ cs (by kernel_rfl) hrow0 _ Tryd.underlying24 rfl i24.out) hS ?_
  try simp only [Act.put, List.setIfInBounds_toArray, List.set_cons_zero, List.set_cons_succ]
  refine heldTake (i := 53) 64 ((.agg cs)) (by kernel_rfl) rfl (by kernel_rfl) (by kernel_rfl) (by kernel_rfl) (fun _ _ _ h => h) (by kernel_rfl) (run_load_held 24 _ rfl _ _ cs (by kernel_rfl) hrow0 _ Tryd.underlying24 rfl i24.out) hS ?_
  try simp only [Act.put, List.setIfInBounds_toArray, List.set_cons_zero, List.set_cons_succ]
  refine heldCall (i := 52) 63 (.string SS) (by kernel_rfl) rfl (by kernel_rfl) (by kernel_rfl) (by kernel_rfl) (k12.out _ (hbel _ hS)) hS (fun w' => hkeep w' _) ?_
  clear hS
  intro w2 hS
  try simp only [Act.put, List.setIfInBounds_toArray, List.set_cons_zero, List.set_cons_succ]
  refine heldCall (i := 54) 65 (.string SS) (by kernel_rfl) rfl (by kernel_rfl) (by kernel_rfl) (by kernel_rfl) (k13.out _) hS (fun w' => hkeep w' _) ?_
  clear hS
  intro w2 hS
  try simp only [Act.put, List.setIfInBounds_toArray, List.set_cons_zero, List.set_cons_succ]
  refine heldTake (i := 55) 66 (.bool true) (by kernel_rfl) rfl (by kernel_rfl) (by kernel_rfl) (by kernel_rfl) (fun _ _ _ h => h) (by kernel_rfl) (run_bin_held (V := .string SS) (W := .string SS) rfl (by kernel_rfl) (by kernel_rfl) (fun w => by go_simp) (fun w => by go_simp)) hS ?_
  try simp only [Act.put, List.setIfInBounds_toArray, List.set_cons_zero, List.set_cons_succ]
  refine heldTake (i := 56) 67 (.bool true) (by kernel_rfl) rfl (by kernel_rfl) (by kernel_rfl) (by kernel_rfl) (fun _ _ _ h => h) (by kernel_rfl) (run_pick_held (b := true) rfl (by kernel_rfl) (by kernel_rfl)) hS ?_
  try simp only [Act.put, List.setIfInBounds_toArray, List.set_cons_zero, List.set_cons_succ]
  refine heldTake (i := 57) 6 (.bool true) (by kernel_rfl) rfl (by kernel_rfl) (by kernel_rfl) (by kernel_rfl) (fun _ _ _ h => h) (by kernel_rfl) (run_move_held (.inr rfl) (by kernel_rfl)) hS ?_
  try simp only [Act.put, List.setIfInBounds_toArray, List.set_cons_zero, List.set_cons_succ]
  refine wpAnyH_done (by kernel_rfl) ?_ _
  have HF := Lib.hid (hbel _ hS)
  clear hdrew hkeep hSd hrow0 hbel
  go_wp2
  go_ret
  exact ⟨rfl, HF.out⟩
end Go.Proofs.YtpiadeedgjmmkaaDoor
