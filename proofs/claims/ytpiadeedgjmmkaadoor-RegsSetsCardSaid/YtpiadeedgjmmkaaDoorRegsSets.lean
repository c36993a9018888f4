/- Layer 11 (regs): the walk of RegsSets. Written by tools/regs-laws.py. -/
import Derived.Test.YtpiadeedgjmmkaaDoorRegsAwake
import Derived.Test.YtpiadeedgjmmkaaDoorRegsSetR
import Derived.Test.YtpiadeedgjmmkaaDoorRegsSetPair
import Derived.BigQuiet
import Derived.Deep.DeepCutAuto
import Derived.Deep.QuietTactic
namespace Go.Proofs.YtpiadeedgjmmkaaDoor
open Go.RowKit
set_option linter.unusedVariables false
set_option linter.unusedSimpArgs false

set_option maxRecDepth 20000 in
set_option maxHeartbeats 16000000 in
theorem regsSets_walk (g : Rg) (k v : Int) (v0 : 0 ≤ v) (v1 : v ≤ 65535) (hg : RgB g) (w : World) (ht : NumTabs w) :
    Calls Tryd.prog 4 #[regsV g, .int .i64 k, .int .u16 v] w fun e w' => e = .returned (.bool true) ∧ Below w.heap.size w w' := by
  have ka := Lib.hid (fun W (hW : Below w.heap.size w W) => rawake_any W (ht.below hW))
  obtain ⟨cs, hcs⟩ : ∃ cs, regsV g = .agg cs := ⟨_, rfl⟩
  have i24 : Hid ((Tryd.prog.info? 24).map (·.size) = some cs.size) := Lib.hid (by cases hcs; exact info24)
  obtain ⟨b, hb⟩ : ∃ b, b = v % 256 := ⟨_, rfl⟩
  have hb8 : B8 b := ⟨by omega, by omega⟩
  have hv : IntKind.u8.wrap v = b := by rw [IntKind.wrap_u8]; omega
  have K1 := Lib.hid (fun c W => set_any g hg c k b hb8 W)
  have K2 := Lib.hid (fun c W => rset_any g hg c k b hb8 W)
  have K3 := Lib.hid (fun c W => setPair_any g c k v W)
  have K4 := Lib.hid (fun c W => rsetPair_any g c k v W)
  rw [hcs] at K1 K2 K3 K4
  rw [hcs]
  have rA := Row.new w 24 cs
  have HB := Lib.hid ((Below.refl w.heap.size w).alloc (Nat.le_refl _) (.cells cs 24))
  go_enter Tryd.func4, Tryd.ntmps4
  go_wp2_with fail
  generalize w.alloc (.cells cs 24) = W0 at *
  refine (ka.out _ HB.out).mono ?_
  rintro e w1 ⟨rfl, hb⟩
  have HB1 := Lib.hid (HB.out.trans (hb.mono HB.out.size))
  have rA1 := rA.below hb rA.lt
  clear hb HB rA ka
  clear ht hg hcs hb hb8 v0 v1
  have HV := Lib.hid hv
  clear hv
  go_wp2_with fail
  go_loopw [8] (fun tc wr => ∃ c : Int, -1 ≤ c ∧ c ≤ 8 ∧ tc = .int .i64 c ∧ Row wr w.heap.size 24 cs ∧ Below w.heap.size w wr) (fun tc _ => (8 - intOf tc).toNat)
  case atStart => exact ⟨-1, by omega, by omega, rfl, rA1, HB1.out⟩
  case round =>
    obtain ⟨c, c0, c1, rfl, rB, hB⟩ := hrel
    have HB := Lib.hid hB
    clear hB rA1 HB1
    by_cases hlt : c < 8
    · have n2 : IntKind.i64.wrap (c + 1) = c + 1 := by rw [IntKind.wrap_i64]; omega
      obtain ⟨x1, hx1⟩ : ∃ x, x = regsV (setG g c k b) := ⟨_, rfl⟩
      have Nx1 := Lib.hid (fun W => regs_neq (setG g c k b) W)
      have Gx1 := Lib.hid (fun x y W => regs_guard .neq (setG g c k b) (setG g c k b) x y W)
      rw [← hx1] at Nx1 Gx1
      obtain ⟨x2, hx2⟩ : ∃ x, x = regsV (setPairG g c k v) := ⟨_, rfl⟩
      have Nx2 := Lib.hid (fun W => regs_neq (setPairG g c k v) W)
      have Gx2 := Lib.hid (fun x y W => regs_guard .neq (setPairG g c k v) (setPairG g c k v) x y W)
      rw [← hx2] at Nx2 Gx2
      have k0 := Lib.hid (K1.out c)
      rw [← hx1] at k0
      have k1 := Lib.hid (K2.out c)
      rw [← hx1] at k1
      have k2 := Lib.hid (K3.out c)
      rw [← hx2] at k2
      have k3 := Lib.hid (K4.out c)
      rw [← hx2] at k3
      clear K1 K2 K3 K4 hx1 hx2
      go_upto_region 7 with (fail)
      obtain ⟨S, hSd⟩ : ∃ S : World → Prop, S = fun w' => Row w' w.heap.size 24 cs ∧ Below w.heap.size w w' := ⟨_, rfl⟩
      have hrow0 : ∀ w', S w' → Row w' w.heap.size 24 cs := fun w' h => by rw [hSd] at h; exact h.1
      have hbel : ∀ w', S w' → Below w.heap.size w w' := fun w' h => by rw [hSd] at h; exact h.2
      have hdrew : ∀ w', S w' → S w'.drew := fun w' h => by
        rw [hSd] at h ⊢
        exact ⟨h.1, h.2.drew⟩
      have hkeep : ∀ w2 w3, S w3 → Below w3.heap.size w3 w2 → S w2 := fun w2 w3 h hb => by
        rw [hSd] at h ⊢
        exact ⟨h.1.below hb h.1.lt, h.2.trans (hb.mono h.2.size)⟩
      refine held_start S (by kernel_rfl) hdrew (by rw [hSd]; exact ⟨rB, HB.out⟩) ?_
      clear HB rB
      intro w2 hS
      refine heldTake (i := 0) 16 ((.agg cs)) (by kernel_rfl) rfl (by kernel_rfl) (by kernel_rfl) (by kernel_rfl) (fun _ _ _ h => h) (by kernel_rfl) (run_load_held 24 _ rfl _ _ cs (by kernel_rfl) hrow0 _ Tryd.underlying24 rfl i24.out) hS ?_
      try simp only [Act.put, List.setIfInBounds_toArray, List.set_cons_zero, List.set_cons_succ]
      refine heldTake (i := 1) 17 (.int .i64 c) (by kernel_rfl) rfl (by kernel_rfl) (by kernel_rfl) (by kernel_rfl) (fun _ _ _ h => h) (by kernel_rfl) (run_move_held (.inl rfl) (by kernel_rfl)) hS ?_
      try simp only [Act.put, List.setIfInBounds_toArray, List.set_cons_zero, List.set_cons_succ]
      refine heldTake (i := 2) 18 (.int .i64 k) (by kernel_rfl) rfl (by kernel_rfl) (by kernel_rfl) (by kernel_rfl) (fun _ _ _ h => h) (by kernel_rfl) (run_move_held (.inl rfl) (by kernel_rfl)) hS ?_
      try simp only [Act.put, List.setIfInBounds_toArray, List.set_cons_zero, List.set_cons_succ]
      refine heldTake (i := 3) 19 (.int .u16 v) (by kernel_rfl) rfl (by kernel_rfl) (by kernel_rfl) (by kernel_rfl) (fun _ _ _ h => h) (by kernel_rfl) (run_move_held (.inl rfl) (by kernel_rfl)) hS ?_
      try simp only [Act.put, List.setIfInBounds_toArray, List.set_cons_zero, List.set_cons_succ]
      refine heldTake (i := 4) 20 (.int .u8 b) (by kernel_rfl) rfl (by kernel_rfl) (by kernel_rfl) (by kernel_rfl) (fun _ _ _ h => h) (by kernel_rfl) (fun w hw => by have := HV.out; go_simp) hS ?_
      try simp only [Act.put, List.setIfInBounds_toArray, List.set_cons_zero, List.set_cons_succ]
      refine heldTake (i := 6) 22 ((.agg cs)) (by kernel_rfl) rfl (by kernel_rfl) (by kernel_rfl) (by kernel_rfl) (fun _ _ _ h => h) (by kernel_rfl) (run_load_held 24 _ rfl _ _ cs (by kernel_rfl) hrow0 _ Tryd.underlying24 rfl i24.out) hS ?_
      try simp only [Act.put, List.setIfInBounds_toArray, List.set_cons_zero, List.set_cons_succ]
      refine heldTake (i := 7) 23 (.int .i64 c) (by kernel_rfl) rfl (by kernel_rfl) (by kernel_rfl) (by kernel_rfl) (fun _ _ _ h => h) (by kernel_rfl) (run_move_held (.inl rfl) (by kernel_rfl)) hS ?_
      try simp only [Act.put, List.setIfInBounds_toArray, List.set_cons_zero, List.set_cons_succ]
      refine heldTake (i := 8) 24 (.int .i64 k) (by kernel_rfl) rfl (by kernel_rfl) (by kernel_rfl) (by kernel_rfl) (fun _ _ _ h => h) (by kernel_rfl) (run_move_held (.inl rfl) (by kernel_rfl)) hS ?_
      try simp only [Act.put, List.setIfInBounds_toArray, List.set_cons_zero, List.set_cons_succ]
      refine heldTake (i := 9) 25 (.int .u16 v) (by kernel_rfl) rfl (by kernel_rfl) (by kernel_rfl) (by kernel_rfl) (fun _ _ _ h => h) (by kernel_rfl) (run_move_held (.inl rfl) (by kernel_rfl)) hS ?_
      try simp only [Act.put, List.setIfInBounds_toArray, List.set_cons_zero, List.set_cons_succ]
      refine heldTake (i := 10) 26 (.int .u8 b) (by kernel_rfl) rfl (by kernel_rfl) (by kernel_rfl) (by kernel_rfl) (fun _ _ _ h => h) (by kernel_rfl) (fun w hw => by have := HV.out; go_simp) hS ?_
      try simp only [Act.put, List.setIfInBounds_toArray, List.set_cons_zero, List.set_cons_succ]
      refine heldCall (i := 5) 21 (x1) (by kernel_rfl) rfl (by kernel_rfl) (by kernel_rfl) (by kernel_rfl) (k0.out _) hS (fun w' => hkeep w' _) ?_
      clear hS
      intro w2 hS
      try simp only [Act.put, List.setIfInBounds_toArray, List.set_cons_zero, List.set_cons_succ]
      refine heldCall (i := 11) 27 (x1) (by kernel_rfl) rfl (by kernel_rfl) (by kernel_rfl) (by kernel_rfl) (k1.out _) hS (fun w' => hkeep w' _) ?_
      clear hS
      intro w2 hS
      try simp only [Act.put, List.setIfInBounds_toArray, List.set_cons_zero, List.set_cons_succ]
      refine heldTake (i := 12) 28 (.bool false) (by kernel_rfl) rfl (by kernel_rfl) (by kernel_rfl) (by kernel_rfl) (fun _ _ _ h => h) (by kernel_rfl) (run_bin_held (V := x1) (W := x1) rfl (by kernel_rfl) (by kernel_rfl) (Gx1.out _ _) (Nx1.out)) hS ?_
      try simp only [Act.put, List.setIfInBounds_toArray, List.set_cons_zero, List.set_cons_succ]
      refine heldTake (i := 13) 29 (.bool false) (by kernel_rfl) rfl (by kernel_rfl) (by kernel_rfl) (by kernel_rfl) (fun _ _ _ h => h) (by kernel_rfl) (run_move_held (.inl rfl) (by kernel_rfl)) hS ?_
      try simp only [Act.put, List.setIfInBounds_toArray, List.set_cons_zero, List.set_cons_succ]
      refine heldTake (i := 14) 30 ((.agg cs)) (by kernel_rfl) rfl (by kernel_rfl) (by kernel_rfl) (by kernel_rfl) (fun _ _ _ h => h) (by kernel_rfl) (run_load_held 24 _ rfl _ _ cs (by kernel_rfl) hrow0 _ Tryd.underlying24 rfl i24.out) hS ?_
      try simp only [Act.put, List.setIfInBounds_toArray, List.set_cons_zero, List.set_cons_succ]
      refine heldTake (i := 15) 31 (.int .i64 c) (by kernel_rfl) rfl (by kernel_rfl) (by kernel_rfl) (by kernel_rfl) (fun _ _ _ h => h) (by kernel_rfl) (run_move_held (.inl rfl) (by kernel_rfl)) hS ?_
      try simp only [Act.put, List.setIfInBounds_toArray, List.set_cons_zero, List.set_cons_succ]
      refine heldTake (i := 16) 32 (.int .i64 k) (by kernel_rfl) rfl (by kernel_rfl) (by kernel_rfl) (by kernel_rfl) (fun _ _ _ h => h) (by kernel_rfl) (run_move_held (.inl rfl) (by kernel_rfl)) hS ?_
      try simp only [Act.put, List.setIfInBounds_toArray, List.set_cons_zero, List.set_cons_succ]
      refine heldTake (i := 17) 33 (.int .u16 v) (by kernel_rfl) rfl (by kernel_rfl) (by kernel_rfl) (by kernel_rfl) (fun _ _ _ h => h) (by kernel_rfl) (run_move_held (.inl rfl) (by kernel_rfl)) hS ?_
      try simp only [Act.put, List.setIfInBounds_toArray, List.set_cons_zero, List.set_cons_succ]
      refine heldTake (i := 19) 35 ((.agg cs)) (by kernel_rfl) rfl (by kernel_rfl) (by kernel_rfl) (by kernel_rfl) (fun _ _ _ h => h) (by kernel_rfl) (run_load_held 24 _ rfl _ _ cs (by kernel_rfl) hrow0 _ Tryd.underlying24 rfl i24.out) hS ?_
      try simp only [Act.put, List.setIfInBounds_toArray, List.set_cons_zero, List.set_cons_succ]
      refine heldTake (i := 20) 36 (.int .i64 c) (by kernel_rfl) rfl (by kernel_rfl) (by kernel_rfl) (by kernel_rfl) (fun _ _ _ h => h) (by kernel_rfl) (run_move_held (.inl rfl) (by kernel_rfl)) hS ?_
      try simp only [Act.put, List.setIfInBounds_toArray, List.set_cons_zero, List.set_cons_succ]
      refine heldTake (i := 21) 37 (.int .i64 k) (by kernel_rfl) rfl (by kernel_rfl) (by kernel_rfl) (by kernel_rfl) (fun _ _ _ h => h) (by kernel_rfl) (run_move_held (.inl rfl) (by kernel_rfl)) hS ?_
      try simp only [Act.put, List.setIfInBounds_toArray, List.set_cons_zero, List.set_cons_succ]
      refine heldTake (i := 22) 38 (.int .u16 v) (by kernel_rfl) rfl (by kernel_rfl) (by kernel_rfl) (by kernel_rfl) (fun _ _ _ h => h) (by kernel_rfl) (run_move_held (.inl rfl) (by kernel_rfl)) hS ?_
      try simp only [Act.put, List.setIfInBounds_toArray, List.set_cons_zero, List.set_cons_succ]
      refine heldCall (i := 18) 34 (x2) (by kernel_rfl) rfl (by kernel_rfl) (by kernel_rfl) (by kernel_rfl) (k2.out _) hS (fun w' => hkeep w' _) ?_
      clear hS
      intro w2 hS
      try simp only [Act.put, List.setIfInBounds_toArray, List.set_cons_zero, List.set_cons_succ]
      refine heldCall (i := 23) 39 (x2) (by kernel_rfl) rfl (by kernel_rfl) (by kernel_rfl) (by kernel_rfl) (k3.out _) hS (fun w' => hkeep w' _) ?_
      clear hS
      intro w2 hS
      try simp only [Act.put, List.setIfInBounds_toArray, List.set_cons_zero, List.set_cons_succ]
      refine heldTake (i := 24) 40 (.bool false) (by kernel_rfl) rfl (by kernel_rfl) (by kernel_rfl) (by kernel_rfl) (fun _ _ _ h => h) (by kernel_rfl) (run_bin_held (V := x2) (W := x2) rfl (by kernel_rfl) (by kernel_rfl) (Gx2.out _ _) (Nx2.out)) hS ?_
      try simp only [Act.put, List.setIfInBounds_toArray, List.set_cons_zero, List.set_cons_succ]
      refine heldTake (i := 25) 41 (.bool false) (by kernel_rfl) rfl (by kernel_rfl) (by kernel_rfl) (by kernel_rfl) (fun _ _ _ h => h) (by kernel_rfl) (run_pick_held (b := false) rfl (by kernel_rfl) (by kernel_rfl)) hS ?_
      try simp only [Act.put, List.setIfInBounds_toArray, List.set_cons_zero, List.set_cons_succ]
      refine wpAnyH_done (by kernel_rfl) ?_ _
      have HF := Lib.hid (hbel _ hS)
      have rF := hrow0 _ hS
      clear hdrew hkeep hSd hrow0 hbel
      go_wp2
      go_roundw
      case rel => exact ⟨c + 1, by omega, by omega, by go_num, rF, HF.out⟩
      case measure => simp [intOf]; omega
    · obtain rfl : c = 8 := by omega
      go_wp2
      go_ret
      exact ⟨rfl, HB.out⟩
end Go.Proofs.YtpiadeedgjmmkaaDoor
