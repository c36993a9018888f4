/- Layer 11 (regs): awake. Written by tools/regs-laws.py. -/
import Derived.Test.YtpiadeedgjmmkaaDoorRegsEq
import Derived.Test.YtpiadeedgjmmkaaDoorRegion
import Derived.Test.YtpiadeedgjmmkaaDoorRegsSet
import Derived.Test.YtpiadeedgjmmkaaDoorRegsSetPair
import Derived.Test.YtpiadeedgjmmkaaDoorRegsGet
import Derived.Test.YtpiadeedgjmmkaaDoorRegsPair
import Derived.Test.YtpiadeedgjmmkaaDoorRegsTurn
import Derived.Test.YtpiadeedgjmmkaaDoorRegsTick
import Derived.Test.YtpiadeedgjmmkaaDoorRegsShow
import Derived.BigQuiet
import Derived.Deep.DeepCutAuto
import Derived.Deep.QuietTactic
namespace Go.Proofs.YtpiadeedgjmmkaaDoor
open Go.RowKit
set_option linter.unusedVariables false
set_option linter.unusedSimpArgs false

@[reducible] def rg0 : Rg := ⟨0, 0, 0, 0, 0, 0, 0, 0, 0, 0, 0, 0, 0, 0, 0, false, false, false, false, 0⟩
@[reducible] def rg1 : Rg := ⟨0, 0, 0, 0, 0, 0, 0, 0, 4608, 0, 0, 0, 0, 0, 0, false, false, false, false, 0⟩
@[reducible] def rgq : Rg := ⟨0, 0, 0, 0, 9, 7, 0, 0, 0, 0, 0, 0, 0, 0, 0, false, false, false, false, 0⟩
@[reducible] def rg2 : Rg := ⟨0, 0, 0, 5, 9, 7, 0, 0, 0, 0, 0, 0, 0, 0, 0, false, false, false, false, 0⟩
@[reducible] def rg3 : Rg := ⟨0, 7, 0, 0, 9, 0, 0, 5, 0, 0, 0, 0, 0, 0, 0, false, false, false, false, 0⟩
@[reducible] def rg4 : Rg := ⟨9, 0, 0, 5, 0, 7, 0, 0, 0, 0, 0, 0, 0, 0, 0, false, false, false, false, 0⟩
@[reducible] def rg5 : Rg := ⟨0, 0, 0, 0, 0, 0, 0, 0, 0, 0, 0, 0, 0, 0, 255, false, false, false, false, 0⟩
@[reducible] def rg6 : Rg := ⟨0, 0, 0, 0, 0, 0, 0, 0, 0, 0, 0, 0, 0, 0, 128, false, false, false, false, 0⟩
@[reducible] def rg7 : Rg := ⟨0, 0, 0, 0, 0, 0, 0, 0, 0, 0, 0, 7, 0, 0, 0, false, false, false, false, 0⟩
theorem rg0_b : RgB rg0 := by constructor <;> constructor <;> decide
theorem rg1_b : RgB rg1 := by constructor <;> constructor <;> decide
theorem rg0_text : (showG rg0).toArray = #[97, 102, 61, 48, 48, 48, 48, 104, 32, 98, 99, 61, 48, 48, 48, 48, 104, 32, 100, 101, 61, 48, 48, 48, 48, 104, 32, 104, 108, 61, 48, 48, 48, 48, 104, 32, 105, 120, 61, 48, 48, 48, 48, 104, 32, 105, 121, 61, 48, 48, 48, 48, 104, 32, 115, 112, 61, 48, 48, 48, 48, 104, 32, 112, 99, 61, 48, 48, 48, 48, 104, 32, 105, 61, 48, 48, 104, 32, 114, 61, 48, 48, 104, 32, 105, 109, 48] := by decide +kernel
set_option maxRecDepth 20000 in
set_option maxHeartbeats 16000000 in
theorem rawake_any (w : World) (ht : NumTabs w) :
    Calls Tryd.prog 7 #[] w fun e w' => e = .returned (.bool true) ∧ Below w.heap.size w w' := by
  have k0 := Lib.hid (fun W => set_any rg0 rg0_b 3 4 18 (by constructor <;> decide) W)
  rw [show setG rg0 3 4 18 = rg1 by decide] at k0
  have k1 := Lib.hid (fun W => setPair_any rgq 0 2 5 W)
  rw [show setPairG rgq 0 2 5 = rg2 by decide] at k1
  have k2 := Lib.hid (fun W => get_any rg1 rg1_b 3 4 W)
  rw [show getG rg1 3 4 = 18 by decide] at k2
  have k3 := Lib.hid (fun W => pair_any rg2 0 2 W)
  rw [show pairG rg2 0 2 = 5 by decide] at k3
  have k4 := Lib.hid (fun W => exx_any rg2 W)
  rw [show exxG rg2 = rg3 by decide] at k4
  have k5 := Lib.hid (fun W => swap_any rg2 W)
  rw [show swapG rg2 = rg4 by decide] at k5
  have k6 := Lib.hid (fun W => tick_any rg5 1 (by constructor <;> decide) W)
  rw [show tickG rg5 1 = rg6 by decide] at k6
  have k7 := Lib.hid (fun W => reset_any rg7 W)
  rw [show resetG rg7 = rg0 by decide] at k7
  have k8 := Lib.hid (fun W (hW : Below w.heap.size w W) => show_any rg0 rg0_b W (ht.below hW))
  rw [rg0_text] at k8
  have i24 : Hid ((Tryd.prog.info? 24).map (·.size) = some 20) := Lib.hid info24
  have o1 : Hid ((regsC rg1).toList.all (·.oneCell') = true) := Lib.hid (by rfl)
  have o2 : Hid ((regsC rg2).toList.all (·.oneCell') = true) := Lib.hid (by rfl)
  clear ht
  go_enter Tryd.func7, Tryd.ntmps7
  go_wp2_with fail
  refine (k0.out _).mono ?_
  rintro e w1 ⟨rfl, hb1⟩
  clear k0
  have HB1 := Lib.hid (hb1.alloc hb1.size (.cells (regsC rg1) 24))
  have r1 := Row.new w1 24 (regsC rg1)
  clear hb1
  generalize w1.heap.size = B1 at *
  go_upto_region 2 with (first
    | (refine wpList_store_top rfl 24 _ _ rfl _ _ _ _ (regsC rg1) rfl rfl (by simp) (by exact Eq.refl 20) i24.out o1.out ?_))
  generalize w1.alloc (.cells (regsC rg1) 24) = W1 at *
  go_wp2_with fail
  refine (k1.out _).mono ?_
  rintro e w2 ⟨rfl, hb2⟩
  clear k1
  have HB2 := Lib.hid ((HB1.out.trans (hb2.mono HB1.out.size)).alloc (HB1.out.trans (hb2.mono HB1.out.size)).size (.cells (regsC rg2) 24))
  have r1b := (r1.below hb2 r1.lt).alloc (.cells (regsC rg2) 24)
  have r2 := Row.new w2 24 (regsC rg2)
  clear hb2 r1 HB1
  go_upto_region 3 with (first
    | (refine wpList_store_top rfl 24 _ _ rfl _ _ _ _ (regsC rg2) rfl rfl (by simp) (by exact Eq.refl 20) i24.out o2.out ?_))
  generalize w2.heap.size = B2 at *
  generalize w2.alloc (.cells (regsC rg2) 24) = W2 at *
  obtain ⟨S, hSd⟩ : ∃ S : World → Prop, S = fun w' => Row w' B1 24 (regsC rg1) ∧ Row w' B2 24 (regsC rg2) ∧ Below w.heap.size w w' := ⟨_, rfl⟩
  have hrow0 : ∀ w', S w' → Row w' B1 24 (regsC rg1) := fun w' h => by rw [hSd] at h; exact h.1
  have hrow1 : ∀ w', S w' → Row w' B2 24 (regsC rg2) := fun w' h => by rw [hSd] at h; exact h.2.1
  have hbel : ∀ w', S w' → Below w.heap.size w w' := fun w' h => by rw [hSd] at h; exact h.2.2
  have hdrew : ∀ w', S w' → S w'.drew := fun w' h => by
    rw [hSd] at h ⊢
    exact ⟨h.1, h.2.1, h.2.2.drew⟩
  have hkeep : ∀ w2 w3, S w3 → Below w3.heap.size w3 w2 → S w2 := fun w2 w3 h hb => by
    rw [hSd] at h ⊢
    exact ⟨h.1.below hb h.1.lt, h.2.1.below hb h.2.1.lt, h.2.2.trans (hb.mono h.2.2.size)⟩
  have hS : S W2 := by
    rw [hSd]
    exact ⟨r1b, r2, HB2.out⟩
  refine wp_region_lit ?_
  try simp only [Act.put]
  refine listTake 7 ((.agg (regsC rg1))) (by kernel_rfl) (by kernel_rfl) (run_load_held 24 _ rfl _ _ (regsC rg1) (by kernel_rfl) hrow0 _ Tryd.underlying24 rfl i24.out) hS ?_
  try simp only [Act.put, List.setIfInBounds_toArray, List.set_cons_zero, List.set_cons_succ]
  refine listTake 8 (regsV rg1) (by kernel_rfl) (by kernel_rfl) (fun w _ => by kernel_rfl) hS ?_
  try simp only [Act.put, List.setIfInBounds_toArray, List.set_cons_zero, List.set_cons_succ]
  refine listTake 9 (.bool true) (by kernel_rfl) (by kernel_rfl) (run_bin_held (V := (.agg (regsC rg1))) (W := regsV rg1) rfl (by kernel_rfl) (by kernel_rfl) (regs_guard _ _ _ _ _) (regs_eql rg1)) hS ?_
  try simp only [Act.put, List.setIfInBounds_toArray, List.set_cons_zero, List.set_cons_succ]
  refine listTake 10 (.bool true) (by kernel_rfl) (by kernel_rfl) (run_move_held (.inl rfl) (by kernel_rfl)) hS ?_
  try simp only [Act.put, List.setIfInBounds_toArray, List.set_cons_zero, List.set_cons_succ]
  refine listTake 11 ((.agg (regsC rg1))) (by kernel_rfl) (by kernel_rfl) (run_load_held 24 _ rfl _ _ (regsC rg1) (by kernel_rfl) hrow0 _ Tryd.underlying24 rfl i24.out) hS ?_
  try simp only [Act.put, List.setIfInBounds_toArray, List.set_cons_zero, List.set_cons_succ]
  refine listCall 12 (.int .u8 18) (by kernel_rfl) (by kernel_rfl) (by kernel_rfl) (k2.out _) hS (fun w' => hkeep w' _) ?_
  clear hS
  intro w2 hS
  try simp only [Act.put, List.setIfInBounds_toArray, List.set_cons_zero, List.set_cons_succ]
  refine listTake 13 (.bool true) (by kernel_rfl) (by kernel_rfl) (run_bin_held (V := .int .u8 18) (W := .int .u8 18) rfl (by kernel_rfl) (by kernel_rfl) (fun w => by go_simp) (fun w => by go_simp)) hS ?_
  try simp only [Act.put, List.setIfInBounds_toArray, List.set_cons_zero, List.set_cons_succ]
  refine listTake 14 (.bool true) (by kernel_rfl) (by kernel_rfl) (run_pick_held (b := true) rfl (by kernel_rfl) (by kernel_rfl)) hS ?_
  try simp only [Act.put, List.setIfInBounds_toArray, List.set_cons_zero, List.set_cons_succ]
  refine listTake 15 (.bool true) (by kernel_rfl) (by kernel_rfl) (run_move_held (.inl rfl) (by kernel_rfl)) hS ?_
  try simp only [Act.put, List.setIfInBounds_toArray, List.set_cons_zero, List.set_cons_succ]
  refine listTake 16 (.pointer (some ⟨B2, 3, none⟩)) (by kernel_rfl) (by kernel_rfl) (fun w _ => by kernel_rfl) hS ?_
  try simp only [Act.put, List.setIfInBounds_toArray, List.set_cons_zero, List.set_cons_succ]
  refine listTake 17 (.int .u16 5) (by kernel_rfl) (by kernel_rfl) (fun w hw => by have := (hrow1 w hw).cell 3; go_simp) hS ?_
  try simp only [Act.put, List.setIfInBounds_toArray, List.set_cons_zero, List.set_cons_succ]
  refine listTake 18 (.bool true) (by kernel_rfl) (by kernel_rfl) (run_bin_held (V := .int .u16 5) (W := .int .u16 5) rfl (by kernel_rfl) (by kernel_rfl) (fun w => by go_simp) (fun w => by go_simp)) hS ?_
  try simp only [Act.put, List.setIfInBounds_toArray, List.set_cons_zero, List.set_cons_succ]
  refine listTake 19 (.bool true) (by kernel_rfl) (by kernel_rfl) (run_pick_held (b := true) rfl (by kernel_rfl) (by kernel_rfl)) hS ?_
  try simp only [Act.put, List.setIfInBounds_toArray, List.set_cons_zero, List.set_cons_succ]
  refine listTake 20 (.bool true) (by kernel_rfl) (by kernel_rfl) (run_move_held (.inl rfl) (by kernel_rfl)) hS ?_
  try simp only [Act.put, List.setIfInBounds_toArray, List.set_cons_zero, List.set_cons_succ]
  refine listTake 21 ((.agg (regsC rg2))) (by kernel_rfl) (by kernel_rfl) (run_load_held 24 _ rfl _ _ (regsC rg2) (by kernel_rfl) hrow1 _ Tryd.underlying24 rfl i24.out) hS ?_
  try simp only [Act.put, List.setIfInBounds_toArray, List.set_cons_zero, List.set_cons_succ]
  refine listCall 22 (.int .u16 5) (by kernel_rfl) (by kernel_rfl) (by kernel_rfl) (k3.out _) hS (fun w' => hkeep w' _) ?_
  clear hS
  intro w2 hS
  try simp only [Act.put, List.setIfInBounds_toArray, List.set_cons_zero, List.set_cons_succ]
  refine listTake 23 (.bool true) (by kernel_rfl) (by kernel_rfl) (run_bin_held (V := .int .u16 5) (W := .int .u16 5) rfl (by kernel_rfl) (by kernel_rfl) (fun w => by go_simp) (fun w => by go_simp)) hS ?_
  try simp only [Act.put, List.setIfInBounds_toArray, List.set_cons_zero, List.set_cons_succ]
  refine listTake 24 (.bool true) (by kernel_rfl) (by kernel_rfl) (run_pick_held (b := true) rfl (by kernel_rfl) (by kernel_rfl)) hS ?_
  try simp only [Act.put, List.setIfInBounds_toArray, List.set_cons_zero, List.set_cons_succ]
  refine listTake 25 (.bool true) (by kernel_rfl) (by kernel_rfl) (run_move_held (.inl rfl) (by kernel_rfl)) hS ?_
  try simp only [Act.put, List.setIfInBounds_toArray, List.set_cons_zero, List.set_cons_succ]
  refine listTake 26 ((.agg (regsC rg2))) (by kernel_rfl) (by kernel_rfl) (run_load_held 24 _ rfl _ _ (regsC rg2) (by kernel_rfl) hrow1 _ Tryd.underlying24 rfl i24.out) hS ?_
  try simp only [Act.put, List.setIfInBounds_toArray, List.set_cons_zero, List.set_cons_succ]
  refine listCall 27 (regsV rg3) (by kernel_rfl) (by kernel_rfl) (by kernel_rfl) (k4.out _) hS (fun w' => hkeep w' _) ?_
  clear hS
  intro w2 hS
  try simp only [Act.put, List.setIfInBounds_toArray, List.set_cons_zero, List.set_cons_succ]
  refine listTake 28 (.int .u16 7) (by kernel_rfl) (by kernel_rfl) (fun w _ => by kernel_rfl) hS ?_
  try simp only [Act.put, List.setIfInBounds_toArray, List.set_cons_zero, List.set_cons_succ]
  refine listTake 29 (.bool true) (by kernel_rfl) (by kernel_rfl) (run_bin_held (V := .int .u16 7) (W := .int .u16 7) rfl (by kernel_rfl) (by kernel_rfl) (fun w => by go_simp) (fun w => by go_simp)) hS ?_
  try simp only [Act.put, List.setIfInBounds_toArray, List.set_cons_zero, List.set_cons_succ]
  refine listTake 30 (.bool true) (by kernel_rfl) (by kernel_rfl) (run_pick_held (b := true) rfl (by kernel_rfl) (by kernel_rfl)) hS ?_
  try simp only [Act.put, List.setIfInBounds_toArray, List.set_cons_zero, List.set_cons_succ]
  refine listTake 31 (.bool true) (by kernel_rfl) (by kernel_rfl) (run_move_held (.inl rfl) (by kernel_rfl)) hS ?_
  try simp only [Act.put, List.setIfInBounds_toArray, List.set_cons_zero, List.set_cons_succ]
  refine listTake 32 ((.agg (regsC rg2))) (by kernel_rfl) (by kernel_rfl) (run_load_held 24 _ rfl _ _ (regsC rg2) (by kernel_rfl) hrow1 _ Tryd.underlying24 rfl i24.out) hS ?_
  try simp only [Act.put, List.setIfInBounds_toArray, List.set_cons_zero, List.set_cons_succ]
  refine listCall 33 (regsV rg4) (by kernel_rfl) (by kernel_rfl) (by kernel_rfl) (k5.out _) hS (fun w' => hkeep w' _) ?_
  clear hS
  intro w2 hS
  try simp only [Act.put, List.setIfInBounds_toArray, List.set_cons_zero, List.set_cons_succ]
  refine listTake 34 (.int .u16 9) (by kernel_rfl) (by kernel_rfl) (fun w _ => by kernel_rfl) hS ?_
  try simp only [Act.put, List.setIfInBounds_toArray, List.set_cons_zero, List.set_cons_succ]
  refine listTake 35 (.bool true) (by kernel_rfl) (by kernel_rfl) (run_bin_held (V := .int .u16 9) (W := .int .u16 9) rfl (by kernel_rfl) (by kernel_rfl) (fun w => by go_simp) (fun w => by go_simp)) hS ?_
  try simp only [Act.put, List.setIfInBounds_toArray, List.set_cons_zero, List.set_cons_succ]
  refine listTake 36 (.bool true) (by kernel_rfl) (by kernel_rfl) (run_pick_held (b := true) rfl (by kernel_rfl) (by kernel_rfl)) hS ?_
  try simp only [Act.put, List.setIfInBounds_toArray, List.set_cons_zero, List.set_cons_succ]
  refine listTake 37 (.bool true) (by kernel_rfl) (by kernel_rfl) (run_move_held (.inl rfl) (by kernel_rfl)) hS ?_
  try simp only [Act.put, List.setIfInBounds_toArray, List.set_cons_zero, List.set_cons_succ]
  refine listTake 38 (regsV rg5) (by kernel_rfl) (by kernel_rfl) (fun w _ => by kernel_rfl) hS ?_
  try simp only [Act.put, List.setIfInBounds_toArray, List.set_cons_zero, List.set_cons_succ]
  refine listCall 39 (regsV rg6) (by kernel_rfl) (by kernel_rfl) (by kernel_rfl) (k6.out _) hS (fun w' => hkeep w' _) ?_
  clear hS
  intro w2 hS
  try simp only [Act.put, List.setIfInBounds_toArray, List.set_cons_zero, List.set_cons_succ]
  refine listTake 40 (.int .u8 128) (by kernel_rfl) (by kernel_rfl) (fun w _ => by kernel_rfl) hS ?_
  try simp only [Act.put, List.setIfInBounds_toArray, List.set_cons_zero, List.set_cons_succ]
  refine listTake 41 (.bool true) (by kernel_rfl) (by kernel_rfl) (run_bin_held (V := .int .u8 128) (W := .int .u8 128) rfl (by kernel_rfl) (by kernel_rfl) (fun w => by go_simp) (fun w => by go_simp)) hS ?_
  try simp only [Act.put, List.setIfInBounds_toArray, List.set_cons_zero, List.set_cons_succ]
  refine listTake 42 (.bool true) (by kernel_rfl) (by kernel_rfl) (run_pick_held (b := true) rfl (by kernel_rfl) (by kernel_rfl)) hS ?_
  try simp only [Act.put, List.setIfInBounds_toArray, List.set_cons_zero, List.set_cons_succ]
  refine listTake 43 (.bool true) (by kernel_rfl) (by kernel_rfl) (run_move_held (.inl rfl) (by kernel_rfl)) hS ?_
  try simp only [Act.put, List.setIfInBounds_toArray, List.set_cons_zero, List.set_cons_succ]
  refine listTake 44 (regsV rg7) (by kernel_rfl) (by kernel_rfl) (fun w _ => by kernel_rfl) hS ?_
  try simp only [Act.put, List.setIfInBounds_toArray, List.set_cons_zero, List.set_cons_succ]
  refine listCall 45 (regsV rg0) (by kernel_rfl) (by kernel_rfl) (by kernel_rfl) (k7.out _) hS (fun w' => hkeep w' _) ?_
  clear hS
  intro w2 hS
  try simp only [Act.put, List.setIfInBounds_toArray, List.set_cons_zero, List.set_cons_succ]
  refine listTake 46 (regsV rg0) (by kernel_rfl) (by kernel_rfl) (fun w _ => by kernel_rfl) hS ?_
  try simp only [Act.put, List.setIfInBounds_toArray, List.set_cons_zero, List.set_cons_succ]
  refine listTake 47 (.bool true) (by kernel_rfl) (by kernel_rfl) (run_bin_held (V := regsV rg0) (W := regsV rg0) rfl (by kernel_rfl) (by kernel_rfl) (regs_guard _ _ _ _ _) (regs_eql rg0)) hS ?_
  try simp only [Act.put, List.setIfInBounds_toArray, List.set_cons_zero, List.set_cons_succ]
  refine listTake 48 (.bool true) (by kernel_rfl) (by kernel_rfl) (run_pick_held (b := true) rfl (by kernel_rfl) (by kernel_rfl)) hS ?_
  try simp only [Act.put, List.setIfInBounds_toArray, List.set_cons_zero, List.set_cons_succ]
  refine listTake 49 (.bool true) (by kernel_rfl) (by kernel_rfl) (run_move_held (.inl rfl) (by kernel_rfl)) hS ?_
  try simp only [Act.put, List.setIfInBounds_toArray, List.set_cons_zero, List.set_cons_succ]
  refine listTake 50 (regsV rg0) (by kernel_rfl) (by kernel_rfl) (fun w _ => by kernel_rfl) hS ?_
  try simp only [Act.put, List.setIfInBounds_toArray, List.set_cons_zero, List.set_cons_succ]
  refine listCall 51 (.string ⟨#[97, 102, 61, 48, 48, 48, 48, 104, 32, 98, 99, 61, 48, 48, 48, 48, 104, 32, 100, 101, 61, 48, 48, 48, 48, 104, 32, 104, 108, 61, 48, 48, 48, 48, 104, 32, 105, 120, 61, 48, 48, 48, 48, 104, 32, 105, 121, 61, 48, 48, 48, 48, 104, 32, 115, 112, 61, 48, 48, 48, 48, 104, 32, 112, 99, 61, 48, 48, 48, 48, 104, 32, 105, 61, 48, 48, 104, 32, 114, 61, 48, 48, 104, 32, 105, 109, 48]⟩) (by kernel_rfl) (by kernel_rfl) (by kernel_rfl) (k8.out _ (hbel _ hS)) hS (fun w' => hkeep w' _) ?_
  clear hS
  intro w2 hS
  try simp only [Act.put, List.setIfInBounds_toArray, List.set_cons_zero, List.set_cons_succ]
  refine listTake 52 (.bool true) (by kernel_rfl) (by kernel_rfl) (fun w _ => by kernel_rfl) hS ?_
  try simp only [Act.put, List.setIfInBounds_toArray, List.set_cons_zero, List.set_cons_succ]
  refine listTake 53 (.bool true) (by kernel_rfl) (by kernel_rfl) (run_pick_held (b := true) rfl (by kernel_rfl) (by kernel_rfl)) hS ?_
  try simp only [Act.put, List.setIfInBounds_toArray, List.set_cons_zero, List.set_cons_succ]
  refine listTake 0 (.bool true) (by kernel_rfl) (by kernel_rfl) (run_move_held (.inr rfl) (by kernel_rfl)) hS ?_
  try simp only [Act.put, List.setIfInBounds_toArray, List.set_cons_zero, List.set_cons_succ]
  have HF := Lib.hid (hbel _ hS)
  clear hdrew hkeep hSd hrow0 hrow1 hbel
  go_wp2
  go_ret
  exact ⟨rfl, HF.out⟩
end Go.Proofs.YtpiadeedgjmmkaaDoor
