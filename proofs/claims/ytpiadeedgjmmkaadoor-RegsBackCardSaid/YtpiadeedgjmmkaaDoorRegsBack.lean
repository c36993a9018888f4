/- Layer 11 (regs): the walk of RegsBack. Written by tools/regs-laws.py. -/
import Derived.Test.YtpiadeedgjmmkaaDoorRegsAwake
import Derived.Test.YtpiadeedgjmmkaaDoorRegsBackM
import Derived.BigQuiet
import Derived.Deep.DeepCutAuto
import Derived.Deep.QuietTactic
namespace Go.Proofs.YtpiadeedgjmmkaaDoor
open Go.RowKit
set_option linter.unusedVariables false
set_option linter.unusedSimpArgs false

set_option maxRecDepth 20000 in
set_option maxHeartbeats 16000000 in
theorem regsBack_walk (g : Rg) (q v : Int) (v0 : 0 ≤ v) (v1 : v ≤ 65535) (hg : RgB g) (w : World) (ht : NumTabs w) :
    Calls Tryd.prog 5 #[regsV g, .int .i64 q, .int .u16 v] w fun e w' => e = .returned (.bool true) ∧ Below w.heap.size w w' := by
  have ka := Lib.hid (fun W (hW : Below w.heap.size w W) => rawake_any W (ht.below hW))
  obtain ⟨cs, hcs⟩ : ∃ cs, regsV g = .agg cs := ⟨_, rfl⟩
  have i24 : Hid ((Tryd.prog.info? 24).map (·.size) = some cs.size) := Lib.hid (by cases hcs; exact info24)
  have Ncs := Lib.hid (fun W => regs_neq g W)
  have Gcs := Lib.hid (fun x y W => regs_guard .neq g g x y W)
  rw [hcs] at Ncs Gcs
  have hv : IntKind.u8.wrap v = v % 256 := by rw [IntKind.wrap_u8]
  have HG := Lib.hid hg
  have HC := Lib.hid hcs
  rw [hcs]
  have rA := Row.new w 24 cs
  have HB := Lib.hid ((Below.refl w.heap.size w).alloc (Nat.le_refl _) (.cells cs 24))
  go_enter Tryd.func5, Tryd.ntmps5
  go_wp2_with fail
  generalize w.alloc (.cells cs 24) = W0 at *
  refine (ka.out _ HB.out).mono ?_
  rintro e w1 ⟨rfl, hb⟩
  have HB1 := Lib.hid (HB.out.trans (hb.mono HB.out.size))
  have rA1 := rA.below hb rA.lt
  clear hb HB rA ka
  clear ht hg hcs v0 v1
  go_wp2_with fail
  go_loopw [8] (fun tc wr => ∃ c : Int, 0 ≤ c ∧ c ≤ 8 ∧ tc = .int .i64 c ∧ Row wr w.heap.size 24 cs ∧ Below w.heap.size w wr) (fun tc _ => (8 - intOf tc).toNat)
  case atStart => exact ⟨0, by omega, by omega, rfl, rA1, HB1.out⟩
  case round =>
    obtain ⟨c, c0, c1, rfl, rB, hB⟩ := hrel
    have HB := Lib.hid hB
    clear hB rA1 HB1
    by_cases hlt : c < 8
    · have n2 : IntKind.i64.wrap (c + 1) = c + 1 := by rw [IntKind.wrap_i64]; omega
      have n3 : IntKind.u8.wrap c = c := by rw [IntKind.wrap_u8]; omega
      obtain ⟨b, hb⟩ : ∃ b, b = (v % 256 + c) % 256 := ⟨_, rfl⟩
      have hb8 : B8 b := ⟨by omega, by omega⟩
      have n4 : IntKind.u8.wrap (v % 256 + c) = b := by rw [IntKind.wrap_u8, hb]
      have hcs := HC.out
      have hg := HG.out
      obtain ⟨ds, hds⟩ : ∃ x, regsV (setG g q c b) = .agg x := ⟨_, rfl⟩
      have j24 : Hid ((Tryd.prog.info? 24).map (·.size) = some ds.size) := Lib.hid (by cases hds; exact info24)
      have dcell : Hid (ds.toList.all (·.oneCell') = true) := Lib.hid (by cases hds; rfl)
      have k0 := Lib.hid (fun W => set_any g hg q c b hb8 W)
      rw [hcs, hds] at k0
      have k1 := Lib.hid (fun W => get_any g hg q c W)
      rw [hcs] at k1
      have k2 := Lib.hid (fun W => set_any (setG g q c b) (hg.set q c hb8) q c (getG g q c) (hg.get q c) W)
      rw [set_get _ _ _ _ hb8, hds, hcs] at k2
      have kg := Lib.hid (fun j W => get_any g hg q j W)
      have kd := Lib.hid (fun j (hj : 0 ≤ j ∧ j ≤ 7 ∧ j ≠ c) W => by
        have h := get_any (setG g q c b) (hg.set q c hb8) q j W
        rw [get_other g q c j b hb8 ⟨c0, by omega⟩ ⟨hj.1, hj.2.1⟩ hj.2.2] at h
        exact h)
      have k6 := Lib.hid (fun (h6 : c ≠ 6) W => by
        have h := get_any (setG g q c b) (hg.set q c hb8) q c W
        rw [get_set g q c b hb8 ⟨c0, by omega⟩ h6] at h
        exact h)
      rw [hcs] at kg
      rw [hds] at kd k6
      obtain ⟨G, hG⟩ : ∃ G, G = getG g q c := ⟨_, rfl⟩
      rw [← hG] at k1 k2
      clear hG hds hcs hg hb hb8
      go_upto_region 8 with (fail)
      clear hv n3 n4
      go_wp2_with (refine wpList_load_row rfl 24 _ rfl _ _ _ rfl rB _ Tryd.underlying24 rfl i24.out ?_)
      refine (k0.out _).mono ?_
      rintro e w2 ⟨rfl, hb2⟩
      clear k0
      have HB2 := Lib.hid ((HB.out.trans (hb2.mono HB.out.size)).alloc (HB.out.trans (hb2.mono HB.out.size)).size (.cells ds 24))
      have r1 := (rB.below hb2 rB.lt).alloc (.cells ds 24)
      have r2 := Row.new w2 24 ds
      clear hb2 rB HB
      go_upto_region 9 with (first
        | (refine wpList_store_top rfl 24 _ _ rfl _ _ _ _ ds rfl rfl (by simp) (by have := j24.out; rw [info24] at this; exact Option.some.inj this) j24.out dcell.out ?_))
      generalize w2.heap.size = B2 at *
      generalize w2.alloc (.cells ds 24) = W2 at *
      obtain ⟨S, hSd⟩ : ∃ S : World → Prop, S = fun w' => Row w' w.heap.size 24 cs ∧ Row w' B2 24 ds ∧ Below w.heap.size w w' := ⟨_, rfl⟩
      have hrow0 : ∀ w', S w' → Row w' w.heap.size 24 cs := fun w' h => by rw [hSd] at h; exact h.1
      have hrow1 : ∀ w', S w' → Row w' B2 24 ds := fun w' h => by rw [hSd] at h; exact h.2.1
      have hbel : ∀ w', S w' → Below w.heap.size w w' := fun w' h => by rw [hSd] at h; exact h.2.2
      have hdrew : ∀ w', S w' → S w'.drew := fun w' h => by
        rw [hSd] at h ⊢
        exact ⟨h.1, h.2.1, h.2.2.drew⟩
      have hkeep : ∀ w2 w3, S w3 → Below w3.heap.size w3 w2 → S w2 := fun w2 w3 h hb => by
        rw [hSd] at h ⊢
        exact ⟨h.1.below hb h.1.lt, h.2.1.below hb h.2.1.lt, h.2.2.trans (hb.mono h.2.2.size)⟩
      have hS : S W2 := by
        rw [hSd]
        exact ⟨r1, r2, HB2.out⟩
      clear r1 r2 HB2
      by_cases h6 : c = 6
      all_goals
        refine held_start S (by kernel_rfl) hdrew hS ?_
        clear hS
        intro w2 hS
        try simp only [Act.put]
      · subst h6
        refine heldTake (i := 0) 31 (.int .i64 6) (by kernel_rfl) rfl (by kernel_rfl) (by kernel_rfl) (by kernel_rfl) (fun _ _ _ h => h) (by kernel_rfl) (run_move_held (.inl rfl) (by kernel_rfl)) hS ?_
        try simp only [Act.put, List.setIfInBounds_toArray, List.set_cons_zero, List.set_cons_succ]
        refine heldTake (i := 1) 32 (.bool false) (by kernel_rfl) rfl (by kernel_rfl) (by kernel_rfl) (by kernel_rfl) (fun _ _ _ h => h) (by kernel_rfl) (run_bin_held (V := .int .i64 6) (W := .int .i64 6) rfl (by kernel_rfl) (by kernel_rfl) (fun w => by go_simp) (fun w => by go_simp)) hS ?_
        try simp only [Act.put, List.setIfInBounds_toArray, List.set_cons_zero, List.set_cons_succ]
        refine heldTake (i := 2) 33 (.bool false) (by kernel_rfl) rfl (by kernel_rfl) (by kernel_rfl) (by kernel_rfl) (fun _ _ _ h => h) (by kernel_rfl) (run_move_held (.inl rfl) (by kernel_rfl)) hS ?_
        try simp only [Act.put, List.setIfInBounds_toArray, List.set_cons_zero, List.set_cons_succ]
        refine heldSkip (i := 3) 34 (by kernel_rfl) rfl (by kernel_rfl) (by kernel_rfl) (by kernel_rfl) (fun _ _ _ h => h) (by kernel_rfl) hS ?_
        try simp only [Act.put, List.setIfInBounds_toArray, List.set_cons_zero, List.set_cons_succ]
        refine heldSkip (i := 4) 35 (by kernel_rfl) rfl (by kernel_rfl) (by kernel_rfl) (by kernel_rfl) (fun _ _ _ h => h) (by kernel_rfl) hS ?_
        try simp only [Act.put, List.setIfInBounds_toArray, List.set_cons_zero, List.set_cons_succ]
        refine heldSkip (i := 5) 36 (by kernel_rfl) rfl (by kernel_rfl) (by kernel_rfl) (by kernel_rfl) (fun _ _ _ h => h) (by kernel_rfl) hS ?_
        try simp only [Act.put, List.setIfInBounds_toArray, List.set_cons_zero, List.set_cons_succ]
        refine heldSkip (i := 6) 37 (by kernel_rfl) rfl (by kernel_rfl) (by kernel_rfl) (by kernel_rfl) (fun _ _ _ h => h) (by kernel_rfl) hS ?_
        try simp only [Act.put, List.setIfInBounds_toArray, List.set_cons_zero, List.set_cons_succ]
        refine heldSkip (i := 7) 38 (by kernel_rfl) rfl (by kernel_rfl) (by kernel_rfl) (by kernel_rfl) (fun _ _ _ h => h) (by kernel_rfl) hS ?_
        try simp only [Act.put, List.setIfInBounds_toArray, List.set_cons_zero, List.set_cons_succ]
        refine heldSkip (i := 8) 39 (by kernel_rfl) rfl (by kernel_rfl) (by kernel_rfl) (by kernel_rfl) (fun _ _ _ h => h) (by kernel_rfl) hS ?_
        try simp only [Act.put, List.setIfInBounds_toArray, List.set_cons_zero, List.set_cons_succ]
        refine heldTake (i := 9) 40 (.bool false) (by kernel_rfl) rfl (by kernel_rfl) (by kernel_rfl) (by kernel_rfl) (fun _ _ _ h => h) (by kernel_rfl) (run_pick_held (b := false) rfl (by kernel_rfl) (by kernel_rfl)) hS ?_
        try simp only [Act.put, List.setIfInBounds_toArray, List.set_cons_zero, List.set_cons_succ]
        refine heldTake (i := 10) 41 (.bool false) (by kernel_rfl) rfl (by kernel_rfl) (by kernel_rfl) (by kernel_rfl) (fun _ _ _ h => h) (by kernel_rfl) (run_move_held (.inl rfl) (by kernel_rfl)) hS ?_
        try simp only [Act.put, List.setIfInBounds_toArray, List.set_cons_zero, List.set_cons_succ]
        refine heldTake (i := 11) 42 ((.agg ds)) (by kernel_rfl) rfl (by kernel_rfl) (by kernel_rfl) (by kernel_rfl) (fun _ _ _ h => h) (by kernel_rfl) (run_load_held 24 _ rfl _ _ ds (by kernel_rfl) hrow1 _ Tryd.underlying24 rfl j24.out) hS ?_
        try simp only [Act.put, List.setIfInBounds_toArray, List.set_cons_zero, List.set_cons_succ]
        refine heldTake (i := 12) 43 (.int .i64 q) (by kernel_rfl) rfl (by kernel_rfl) (by kernel_rfl) (by kernel_rfl) (fun _ _ _ h => h) (by kernel_rfl) (run_move_held (.inl rfl) (by kernel_rfl)) hS ?_
        try simp only [Act.put, List.setIfInBounds_toArray, List.set_cons_zero, List.set_cons_succ]
        refine heldTake (i := 13) 44 (.int .i64 6) (by kernel_rfl) rfl (by kernel_rfl) (by kernel_rfl) (by kernel_rfl) (fun _ _ _ h => h) (by kernel_rfl) (run_move_held (.inl rfl) (by kernel_rfl)) hS ?_
        try simp only [Act.put, List.setIfInBounds_toArray, List.set_cons_zero, List.set_cons_succ]
        refine heldTake (i := 14) 45 ((.agg cs)) (by kernel_rfl) rfl (by kernel_rfl) (by kernel_rfl) (by kernel_rfl) (fun _ _ _ h => h) (by kernel_rfl) (run_load_held 24 _ rfl _ _ cs (by kernel_rfl) hrow0 _ Tryd.underlying24 rfl i24.out) hS ?_
        try simp only [Act.put, List.setIfInBounds_toArray, List.set_cons_zero, List.set_cons_succ]
        refine heldTake (i := 15) 46 (.int .i64 q) (by kernel_rfl) rfl (by kernel_rfl) (by kernel_rfl) (by kernel_rfl) (fun _ _ _ h => h) (by kernel_rfl) (run_move_held (.inl rfl) (by kernel_rfl)) hS ?_
        try simp only [Act.put, List.setIfInBounds_toArray, List.set_cons_zero, List.set_cons_succ]
        refine heldTake (i := 16) 47 (.int .i64 6) (by kernel_rfl) rfl (by kernel_rfl) (by kernel_rfl) (by kernel_rfl) (fun _ _ _ h => h) (by kernel_rfl) (run_move_held (.inl rfl) (by kernel_rfl)) hS ?_
        try simp only [Act.put, List.setIfInBounds_toArray, List.set_cons_zero, List.set_cons_succ]
        refine heldTake (i := 19) 50 ((.agg cs)) (by kernel_rfl) rfl (by kernel_rfl) (by kernel_rfl) (by kernel_rfl) (fun _ _ _ h => h) (by kernel_rfl) (run_load_held 24 _ rfl _ _ cs (by kernel_rfl) hrow0 _ Tryd.underlying24 rfl i24.out) hS ?_
        try simp only [Act.put, List.setIfInBounds_toArray, List.set_cons_zero, List.set_cons_succ]
        refine heldCall (i := 17) 48 (.int .u8 G) (by kernel_rfl) rfl (by kernel_rfl) (by kernel_rfl) (by kernel_rfl) (k1.out _) hS (fun w' => hkeep w' _) ?_
        clear hS
        intro w2 hS
        try simp only [Act.put, List.setIfInBounds_toArray, List.set_cons_zero, List.set_cons_succ]
        refine heldCall (i := 18) 49 (.agg cs) (by kernel_rfl) rfl (by kernel_rfl) (by kernel_rfl) (by kernel_rfl) (k2.out _) hS (fun w' => hkeep w' _) ?_
        clear hS
        intro w2 hS
        try simp only [Act.put, List.setIfInBounds_toArray, List.set_cons_zero, List.set_cons_succ]
        refine heldTake (i := 20) 51 (.bool false) (by kernel_rfl) rfl (by kernel_rfl) (by kernel_rfl) (by kernel_rfl) (fun _ _ _ h => h) (by kernel_rfl) (run_bin_held (V := .agg cs) (W := (.agg cs)) rfl (by kernel_rfl) (by kernel_rfl) (Gcs.out _ _) (Ncs.out)) hS ?_
        try simp only [Act.put, List.setIfInBounds_toArray, List.set_cons_zero, List.set_cons_succ]
        refine heldTake (i := 21) 52 (.bool false) (by kernel_rfl) rfl (by kernel_rfl) (by kernel_rfl) (by kernel_rfl) (fun _ _ _ h => h) (by kernel_rfl) (run_pick_held (b := false) rfl (by kernel_rfl) (by kernel_rfl)) hS ?_
        try simp only [Act.put, List.setIfInBounds_toArray, List.set_cons_zero, List.set_cons_succ]
        refine wpAnyH_done (by kernel_rfl) ?_ _
        have HF := Lib.hid (hbel _ hS)
        have rF := hrow0 _ hS
        have rG := hrow1 _ hS
        clear hdrew hkeep hSd hrow0 hrow1 hbel k1 k2 k6 hS
        go_wp2_with fail
        go_loopw [11] (fun tj wi => ∃ j : Int, 0 ≤ j ∧ j ≤ 8 ∧ tj = .int .i64 j ∧ Row wi w.heap.size 24 cs ∧ Row wi B2 24 ds ∧ Below w.heap.size w wi) (fun tj _ => (8 - intOf tj).toNat)
        case atStart => exact ⟨0, by omega, by omega, rfl, rF, rG, HF.out⟩
        case round =>
          obtain ⟨j, j0, j1, rfl, rI, rJ, hI⟩ := hrel
          have HI := Lib.hid hI
          clear hI rF rG HF
          by_cases hj : j < 8
          · have n5 : IntKind.i64.wrap (j + 1) = j + 1 := by rw [IntKind.wrap_i64]; omega
            go_upto_region 14 with (fail)
            obtain ⟨S, hSd⟩ : ∃ S : World → Prop, S = fun w' => Row w' w.heap.size 24 cs ∧ Row w' B2 24 ds ∧ Below w.heap.size w w' := ⟨_, rfl⟩
            have hrow0 : ∀ w', S w' → Row w' w.heap.size 24 cs := fun w' h => by rw [hSd] at h; exact h.1
            have hrow1 : ∀ w', S w' → Row w' B2 24 ds := fun w' h => by rw [hSd] at h; exact h.2.1
            have hbel : ∀ w', S w' → Below w.heap.size w w' := fun w' h => by rw [hSd] at h; exact h.2.2
            have hdrew : ∀ w', S w' → S w'.drew := fun w' h => by
              rw [hSd] at h ⊢
              exact ⟨h.1, h.2.1, h.2.2.drew⟩
            have hkeep : ∀ w2 w3, S w3 → Below w3.heap.size w3 w2 → S w2 := fun w2 w3 h hb => by
              rw [hSd] at h ⊢
              exact ⟨h.1.below hb h.1.lt, h.2.1.below hb h.2.1.lt, h.2.2.trans (hb.mono h.2.2.size)⟩
            have hS : S wr := by
              rw [hSd]
              exact ⟨rI, rJ, HI.out⟩
            by_cases hjc : j = 6
            · refine held_start S (by kernel_rfl) hdrew hS ?_
              clear hS
              intro w2 hS
              try simp only [Act.put]
              refine heldTake (i := 0) 57 (.int .i64 j) (by kernel_rfl) rfl (by kernel_rfl) (by kernel_rfl) (by kernel_rfl) (fun _ _ _ h => h) (by kernel_rfl) (run_move_held (.inl rfl) (by kernel_rfl)) hS ?_
              try simp only [Act.put, List.setIfInBounds_toArray, List.set_cons_zero, List.set_cons_succ]
              refine heldTake (i := 1) 58 (.int .i64 6) (by kernel_rfl) rfl (by kernel_rfl) (by kernel_rfl) (by kernel_rfl) (fun _ _ _ h => h) (by kernel_rfl) (run_move_held (.inl rfl) (by kernel_rfl)) hS ?_
              try simp only [Act.put, List.setIfInBounds_toArray, List.set_cons_zero, List.set_cons_succ]
              refine heldTake (i := 2) 59 (.bool false) (by kernel_rfl) rfl (by kernel_rfl) (by kernel_rfl) (by kernel_rfl) (fun _ _ _ h => h) (by kernel_rfl) (run_bin_held (V := .int .i64 j) (W := .int .i64 6) rfl (by kernel_rfl) (by kernel_rfl) (fun w => by go_simp) (fun w => by go_simp)) hS ?_
              try simp only [Act.put, List.setIfInBounds_toArray, List.set_cons_zero, List.set_cons_succ]
              refine heldTake (i := 3) 60 (.bool false) (by kernel_rfl) rfl (by kernel_rfl) (by kernel_rfl) (by kernel_rfl) (fun _ _ _ h => h) (by kernel_rfl) (run_move_held (.inl rfl) (by kernel_rfl)) hS ?_
              try simp only [Act.put, List.setIfInBounds_toArray, List.set_cons_zero, List.set_cons_succ]
              refine heldSkip (i := 4) 61 (by kernel_rfl) rfl (by kernel_rfl) (by kernel_rfl) (by kernel_rfl) (fun _ _ _ h => h) (by kernel_rfl) hS ?_
              try simp only [Act.put, List.setIfInBounds_toArray, List.set_cons_zero, List.set_cons_succ]
              refine heldSkip (i := 5) 62 (by kernel_rfl) rfl (by kernel_rfl) (by kernel_rfl) (by kernel_rfl) (fun _ _ _ h => h) (by kernel_rfl) hS ?_
              try simp only [Act.put, List.setIfInBounds_toArray, List.set_cons_zero, List.set_cons_succ]
              refine heldSkip (i := 6) 63 (by kernel_rfl) rfl (by kernel_rfl) (by kernel_rfl) (by kernel_rfl) (fun _ _ _ h => h) (by kernel_rfl) hS ?_
              try simp only [Act.put, List.setIfInBounds_toArray, List.set_cons_zero, List.set_cons_succ]
              refine heldSkip (i := 7) 64 (by kernel_rfl) rfl (by kernel_rfl) (by kernel_rfl) (by kernel_rfl) (fun _ _ _ h => h) (by kernel_rfl) hS ?_
              try simp only [Act.put, List.setIfInBounds_toArray, List.set_cons_zero, List.set_cons_succ]
              refine heldSkip (i := 8) 65 (by kernel_rfl) rfl (by kernel_rfl) (by kernel_rfl) (by kernel_rfl) (fun _ _ _ h => h) (by kernel_rfl) hS ?_
              try simp only [Act.put, List.setIfInBounds_toArray, List.set_cons_zero, List.set_cons_succ]
              refine heldSkip (i := 9) 66 (by kernel_rfl) rfl (by kernel_rfl) (by kernel_rfl) (by kernel_rfl) (fun _ _ _ h => h) (by kernel_rfl) hS ?_
              try simp only [Act.put, List.setIfInBounds_toArray, List.set_cons_zero, List.set_cons_succ]
              refine heldSkip (i := 10) 67 (by kernel_rfl) rfl (by kernel_rfl) (by kernel_rfl) (by kernel_rfl) (fun _ _ _ h => h) (by kernel_rfl) hS ?_
              try simp only [Act.put, List.setIfInBounds_toArray, List.set_cons_zero, List.set_cons_succ]
              refine heldSkip (i := 11) 68 (by kernel_rfl) rfl (by kernel_rfl) (by kernel_rfl) (by kernel_rfl) (fun _ _ _ h => h) (by kernel_rfl) hS ?_
              try simp only [Act.put, List.setIfInBounds_toArray, List.set_cons_zero, List.set_cons_succ]
              refine heldSkip (i := 12) 69 (by kernel_rfl) rfl (by kernel_rfl) (by kernel_rfl) (by kernel_rfl) (fun _ _ _ h => h) (by kernel_rfl) hS ?_
              try simp only [Act.put, List.setIfInBounds_toArray, List.set_cons_zero, List.set_cons_succ]
              refine heldTake (i := 13) 70 (.bool false) (by kernel_rfl) rfl (by kernel_rfl) (by kernel_rfl) (by kernel_rfl) (fun _ _ _ h => h) (by kernel_rfl) (run_pick_held (b := false) rfl (by kernel_rfl) (by kernel_rfl)) hS ?_
              try simp only [Act.put, List.setIfInBounds_toArray, List.set_cons_zero, List.set_cons_succ]
              refine wpAnyH_done (by kernel_rfl) ?_ _
              have HF := Lib.hid (hbel _ hS)
              have rF := hrow0 _ hS
              have rG := hrow1 _ hS
              clear hdrew hkeep hSd hrow0 hrow1 hbel hS
              go_wp2
              go_roundw
              case rel => exact ⟨j + 1, by omega, by omega, by go_num, rF, rG, HF.out⟩
              case measure => simp [intOf]; omega
            · have kj := kd.out j ⟨j0, by omega, hjc⟩
              have ki := kg.out j
              obtain ⟨J, hJ⟩ : ∃ J, J = getG g q j := ⟨_, rfl⟩
              rw [← hJ] at kj ki
              have KJ := Lib.hid kj
              have KI := Lib.hid ki
              clear kj ki hJ
              refine held_start S (by kernel_rfl) hdrew hS ?_
              clear hS
              intro w2 hS
              try simp only [Act.put]
              refine heldTake (i := 0) 57 (.int .i64 j) (by kernel_rfl) rfl (by kernel_rfl) (by kernel_rfl) (by kernel_rfl) (fun _ _ _ h => h) (by kernel_rfl) (run_move_held (.inl rfl) (by kernel_rfl)) hS ?_
              try simp only [Act.put, List.setIfInBounds_toArray, List.set_cons_zero, List.set_cons_succ]
              refine heldTake (i := 1) 58 (.int .i64 6) (by kernel_rfl) rfl (by kernel_rfl) (by kernel_rfl) (by kernel_rfl) (fun _ _ _ h => h) (by kernel_rfl) (run_move_held (.inl rfl) (by kernel_rfl)) hS ?_
              try simp only [Act.put, List.setIfInBounds_toArray, List.set_cons_zero, List.set_cons_succ]
              refine heldTake (i := 2) 59 (.bool true) (by kernel_rfl) rfl (by kernel_rfl) (by kernel_rfl) (by kernel_rfl) (fun _ _ _ h => h) (by kernel_rfl) (run_bin_held (V := .int .i64 j) (W := .int .i64 6) rfl (by kernel_rfl) (by kernel_rfl) (fun w => by go_simp) (fun w => by go_simp)) hS ?_
              try simp only [Act.put, List.setIfInBounds_toArray, List.set_cons_zero, List.set_cons_succ]
              refine heldTake (i := 3) 60 (.bool true) (by kernel_rfl) rfl (by kernel_rfl) (by kernel_rfl) (by kernel_rfl) (fun _ _ _ h => h) (by kernel_rfl) (run_move_held (.inl rfl) (by kernel_rfl)) hS ?_
              try simp only [Act.put, List.setIfInBounds_toArray, List.set_cons_zero, List.set_cons_succ]
              refine heldTake (i := 4) 61 ((.agg ds)) (by kernel_rfl) rfl (by kernel_rfl) (by kernel_rfl) (by kernel_rfl) (fun _ _ _ h => h) (by kernel_rfl) (run_load_held 24 _ rfl _ _ ds (by kernel_rfl) hrow1 _ Tryd.underlying24 rfl j24.out) hS ?_
              try simp only [Act.put, List.setIfInBounds_toArray, List.set_cons_zero, List.set_cons_succ]
              refine heldTake (i := 5) 62 (.int .i64 q) (by kernel_rfl) rfl (by kernel_rfl) (by kernel_rfl) (by kernel_rfl) (fun _ _ _ h => h) (by kernel_rfl) (run_move_held (.inl rfl) (by kernel_rfl)) hS ?_
              try simp only [Act.put, List.setIfInBounds_toArray, List.set_cons_zero, List.set_cons_succ]
              refine heldTake (i := 6) 63 (.int .i64 j) (by kernel_rfl) rfl (by kernel_rfl) (by kernel_rfl) (by kernel_rfl) (fun _ _ _ h => h) (by kernel_rfl) (run_move_held (.inl rfl) (by kernel_rfl)) hS ?_
              try simp only [Act.put, List.setIfInBounds_toArray, List.set_cons_zero, List.set_cons_succ]
              refine heldTake (i := 8) 65 ((.agg cs)) (by kernel_rfl) rfl (by kernel_rfl) (by kernel_rfl) (by kernel_rfl) (fun _ _ _ h => h) (by kernel_rfl) (run_load_held 24 _ rfl _ _ cs (by kernel_rfl) hrow0 _ Tryd.underlying24 rfl i24.out) hS ?_
              try simp only [Act.put, List.setIfInBounds_toArray, List.set_cons_zero, List.set_cons_succ]
              refine heldTake (i := 9) 66 (.int .i64 q) (by kernel_rfl) rfl (by kernel_rfl) (by kernel_rfl) (by kernel_rfl) (fun _ _ _ h => h) (by kernel_rfl) (run_move_held (.inl rfl) (by kernel_rfl)) hS ?_
              try simp only [Act.put, List.setIfInBounds_toArray, List.set_cons_zero, List.set_cons_succ]
              refine heldTake (i := 10) 67 (.int .i64 j) (by kernel_rfl) rfl (by kernel_rfl) (by kernel_rfl) (by kernel_rfl) (fun _ _ _ h => h) (by kernel_rfl) (run_move_held (.inl rfl) (by kernel_rfl)) hS ?_
              try simp only [Act.put, List.setIfInBounds_toArray, List.set_cons_zero, List.set_cons_succ]
              refine heldCall (i := 7) 64 (.int .u8 J) (by kernel_rfl) rfl (by kernel_rfl) (by kernel_rfl) (by kernel_rfl) (KJ.out _) hS (fun w' => hkeep w' _) ?_
              clear hS
              intro w2 hS
              try simp only [Act.put, List.setIfInBounds_toArray, List.set_cons_zero, List.set_cons_succ]
              refine heldCall (i := 11) 68 (.int .u8 J) (by kernel_rfl) rfl (by kernel_rfl) (by kernel_rfl) (by kernel_rfl) (KI.out _) hS (fun w' => hkeep w' _) ?_
              clear hS
              intro w2 hS
              try simp only [Act.put, List.setIfInBounds_toArray, List.set_cons_zero, List.set_cons_succ]
              refine heldTake (i := 12) 69 (.bool false) (by kernel_rfl) rfl (by kernel_rfl) (by kernel_rfl) (by kernel_rfl) (fun _ _ _ h => h) (by kernel_rfl) (run_bin_held (V := .int .u8 J) (W := .int .u8 J) rfl (by kernel_rfl) (by kernel_rfl) (fun w => by go_simp) (fun w => by go_simp)) hS ?_
              try simp only [Act.put, List.setIfInBounds_toArray, List.set_cons_zero, List.set_cons_succ]
              refine heldTake (i := 13) 70 (.bool false) (by kernel_rfl) rfl (by kernel_rfl) (by kernel_rfl) (by kernel_rfl) (fun _ _ _ h => h) (by kernel_rfl) (run_pick_held (b := true) rfl (by kernel_rfl) (by kernel_rfl)) hS ?_
              try simp only [Act.put, List.setIfInBounds_toArray, List.set_cons_zero, List.set_cons_succ]
              refine wpAnyH_done (by kernel_rfl) ?_ _
              have HF := Lib.hid (hbel _ hS)
              have rF := hrow0 _ hS
              have rG := hrow1 _ hS
              clear hdrew hkeep hSd hrow0 hrow1 hbel hS
              go_wp2
              go_roundw
              case rel => exact ⟨j + 1, by omega, by omega, by go_num, rF, rG, HF.out⟩
              case measure => simp [intOf]; omega
          · obtain rfl : j = 8 := by omega
            go_wp2
            go_roundw
            case rel => exact ⟨6 + 1, by omega, by omega, by go_num, rI, HI.out⟩
            case measure => simp [intOf]
      · skip
        refine heldTake (i := 0) 31 (.int .i64 c) (by kernel_rfl) rfl (by kernel_rfl) (by kernel_rfl) (by kernel_rfl) (fun _ _ _ h => h) (by kernel_rfl) (run_move_held (.inl rfl) (by kernel_rfl)) hS ?_
        try simp only [Act.put, List.setIfInBounds_toArray, List.set_cons_zero, List.set_cons_succ]
        refine heldTake (i := 1) 32 (.bool true) (by kernel_rfl) rfl (by kernel_rfl) (by kernel_rfl) (by kernel_rfl) (fun _ _ _ h => h) (by kernel_rfl) (run_bin_held (V := .int .i64 c) (W := .int .i64 6) rfl (by kernel_rfl) (by kernel_rfl) (fun w => by go_simp) (fun w => by go_simp)) hS ?_
        try simp only [Act.put, List.setIfInBounds_toArray, List.set_cons_zero, List.set_cons_succ]
        refine heldTake (i := 2) 33 (.bool true) (by kernel_rfl) rfl (by kernel_rfl) (by kernel_rfl) (by kernel_rfl) (fun _ _ _ h => h) (by kernel_rfl) (run_move_held (.inl rfl) (by kernel_rfl)) hS ?_
        try simp only [Act.put, List.setIfInBounds_toArray, List.set_cons_zero, List.set_cons_succ]
        refine heldTake (i := 3) 34 ((.agg ds)) (by kernel_rfl) rfl (by kernel_rfl) (by kernel_rfl) (by kernel_rfl) (fun _ _ _ h => h) (by kernel_rfl) (run_load_held 24 _ rfl _ _ ds (by kernel_rfl) hrow1 _ Tryd.underlying24 rfl j24.out) hS ?_
        try simp only [Act.put, List.setIfInBounds_toArray, List.set_cons_zero, List.set_cons_succ]
        refine heldTake (i := 4) 35 (.int .i64 q) (by kernel_rfl) rfl (by kernel_rfl) (by kernel_rfl) (by kernel_rfl) (fun _ _ _ h => h) (by kernel_rfl) (run_move_held (.inl rfl) (by kernel_rfl)) hS ?_
        try simp only [Act.put, List.setIfInBounds_toArray, List.set_cons_zero, List.set_cons_succ]
        refine heldTake (i := 5) 36 (.int .i64 c) (by kernel_rfl) rfl (by kernel_rfl) (by kernel_rfl) (by kernel_rfl) (fun _ _ _ h => h) (by kernel_rfl) (run_move_held (.inl rfl) (by kernel_rfl)) hS ?_
        try simp only [Act.put, List.setIfInBounds_toArray, List.set_cons_zero, List.set_cons_succ]
        refine heldTake (i := 7) 38 (.int .u8 b) (by kernel_rfl) rfl (by kernel_rfl) (by kernel_rfl) (by kernel_rfl) (fun _ _ _ h => h) (by kernel_rfl) (run_move_held (.inl rfl) (by kernel_rfl)) hS ?_
        try simp only [Act.put, List.setIfInBounds_toArray, List.set_cons_zero, List.set_cons_succ]
        refine heldCall (i := 6) 37 (.int .u8 b) (by kernel_rfl) rfl (by kernel_rfl) (by kernel_rfl) (by kernel_rfl) (k6.out h6 _) hS (fun w' => hkeep w' _) ?_
        clear hS
        intro w2 hS
        try simp only [Act.put, List.setIfInBounds_toArray, List.set_cons_zero, List.set_cons_succ]
        refine heldTake (i := 8) 39 (.bool false) (by kernel_rfl) rfl (by kernel_rfl) (by kernel_rfl) (by kernel_rfl) (fun _ _ _ h => h) (by kernel_rfl) (run_bin_held (V := .int .u8 b) (W := .int .u8 b) rfl (by kernel_rfl) (by kernel_rfl) (fun w => by go_simp) (fun w => by go_simp)) hS ?_
        try simp only [Act.put, List.setIfInBounds_toArray, List.set_cons_zero, List.set_cons_succ]
        refine heldTake (i := 9) 40 (.bool false) (by kernel_rfl) rfl (by kernel_rfl) (by kernel_rfl) (by kernel_rfl) (fun _ _ _ h => h) (by kernel_rfl) (run_pick_held (b := true) rfl (by kernel_rfl) (by kernel_rfl)) hS ?_
        try simp only [Act.put, List.setIfInBounds_toArray, List.set_cons_zero, List.set_cons_succ]
        refine heldTake (i := 10) 41 (.bool false) (by kernel_rfl) rfl (by kernel_rfl) (by kernel_rfl) (by kernel_rfl) (fun _ _ _ h => h) (by kernel_rfl) (run_move_held (.inl rfl) (by kernel_rfl)) hS ?_
        try simp only [Act.put, List.setIfInBounds_toArray, List.set_cons_zero, List.set_cons_succ]
        refine heldTake (i := 11) 42 ((.agg ds)) (by kernel_rfl) rfl (by kernel_rfl) (by kernel_rfl) (by kernel_rfl) (fun _ _ _ h => h) (by kernel_rfl) (run_load_held 24 _ rfl _ _ ds (by kernel_rfl) hrow1 _ Tryd.underlying24 rfl j24.out) hS ?_
        try simp only [Act.put, List.setIfInBounds_toArray, List.set_cons_zero, List.set_cons_succ]
        refine heldTake (i := 12) 43 (.int .i64 q) (by kernel_rfl) rfl (by kernel_rfl) (by kernel_rfl) (by kernel_rfl) (fun _ _ _ h => h) (by kernel_rfl) (run_move_held (.inl rfl) (by kernel_rfl)) hS ?_
        try simp only [Act.put, List.setIfInBounds_toArray, List.set_cons_zero, List.set_cons_succ]
        refine heldTake (i := 13) 44 (.int .i64 c) (by kernel_rfl) rfl (by kernel_rfl) (by kernel_rfl) (by kernel_rfl) (fun _ _ _ h => h) (by kernel_rfl) (run_move_held (.inl rfl) (by kernel_rfl)) hS ?_
        try simp only [Act.put, List.setIfInBounds_toArray, List.set_cons_zero, List.set_cons_succ]
        refine heldTake (i := 14) 45 ((.agg cs)) (by kernel_rfl) rfl (by kernel_rfl) (by kernel_rfl) (by kernel_rfl) (fun _ _ _ h => h) (by kernel_rfl) (run_load_held 24 _ rfl _ _ cs (by kernel_rfl) hrow0 _ Tryd.underlying24 rfl i24.out) hS ?_
        try simp only [Act.put, List.setIfInBounds_toArray, List.set_cons_zero, List.set_cons_succ]
        refine heldTake (i := 15) 46 (.int .i64 q) (by kernel_rfl) rfl (by kernel_rfl) (by kernel_rfl) (by kernel_rfl) (fun _ _ _ h => h) (by kernel_rfl) (run_move_held (.inl rfl) (by kernel_rfl)) hS ?_
        try simp only [Act.put, List.setIfInBounds_toArray, List.set_cons_zero, List.set_cons_succ]
        refine heldTake (i := 16) 47 (.int .i64 c) (by kernel_rfl) rfl (by kernel_rfl) (by kernel_rfl) (by kernel_rfl) (fun _ _ _ h => h) (by kernel_rfl) (run_move_held (.inl rfl) (by kernel_rfl)) hS ?_
        try simp only [Act.put, List.setIfInBounds_toArray, List.set_cons_zero, List.set_cons_succ]
        refine heldTake (i := 19) 50 ((.agg cs)) (by kernel_rfl) rfl (by kernel_rfl) (by kernel_rfl) (by kernel_rfl) (fun _ _ _ h => h) (by kernel_rfl) (run_load_held 24 _ rfl _ _ cs (by kernel_rfl) hrow0 _ Tryd.underlying24 rfl i24.out) hS ?_
        try simp only [Act.put, List.setIfInBounds_toArray, List.set_cons_zero, List.set_cons_succ]
        refine heldCall (i := 17) 48 (.int .u8 G) (by kernel_rfl) rfl (by kernel_rfl) (by kernel_rfl) (by kernel_rfl) (k1.out _) hS (fun w' => hkeep w' _) ?_
        clear hS
        intro w2 hS
        try simp only [Act.put, List.setIfInBounds_toArray, List.set_cons_zero, List.set_cons_succ]
        refine heldCall (i := 18) 49 (.agg cs) (by kernel_rfl) rfl (by kernel_rfl) (by kernel_rfl) (by kernel_rfl) (k2.out _) hS (fun w' => hkeep w' _) ?_
        clear hS
        intro w2 hS
        try simp only [Act.put, List.setIfInBounds_toArray, List.set_cons_zero, List.set_cons_succ]
        refine heldTake (i := 20) 51 (.bool false) (by kernel_rfl) rfl (by kernel_rfl) (by kernel_rfl) (by kernel_rfl) (fun _ _ _ h => h) (by kernel_rfl) (run_bin_held (V := .agg cs) (W := (.agg cs)) rfl (by kernel_rfl) (by kernel_rfl) (Gcs.out _ _) (Ncs.out)) hS ?_
        try simp only [Act.put, List.setIfInBounds_toArray, List.set_cons_zero, List.set_cons_succ]
        refine heldTake (i := 21) 52 (.bool false) (by kernel_rfl) rfl (by kernel_rfl) (by kernel_rfl) (by kernel_rfl) (fun _ _ _ h => h) (by kernel_rfl) (run_pick_held (b := false) rfl (by kernel_rfl) (by kernel_rfl)) hS ?_
        try simp only [Act.put, List.setIfInBounds_toArray, List.set_cons_zero, List.set_cons_succ]
        refine wpAnyH_done (by kernel_rfl) ?_ _
        have HF := Lib.hid (hbel _ hS)
        have rF := hrow0 _ hS
        have rG := hrow1 _ hS
        clear hdrew hkeep hSd hrow0 hrow1 hbel k1 k2 k6 hS
        go_wp2_with fail
        go_loopw [11] (fun tj wi => ∃ j : Int, 0 ≤ j ∧ j ≤ 8 ∧ tj = .int .i64 j ∧ Row wi w.heap.size 24 cs ∧ Row wi B2 24 ds ∧ Below w.heap.size w wi) (fun tj _ => (8 - intOf tj).toNat)
        case atStart => exact ⟨0, by omega, by omega, rfl, rF, rG, HF.out⟩
        case round =>
          obtain ⟨j, j0, j1, rfl, rI, rJ, hI⟩ := hrel
          have HI := Lib.hid hI
          clear hI rF rG HF
          by_cases hj : j < 8
          · have n5 : IntKind.i64.wrap (j + 1) = j + 1 := by rw [IntKind.wrap_i64]; omega
            go_upto_region 14 with (fail)
            obtain ⟨S, hSd⟩ : ∃ S : World → Prop, S = fun w' => Row w' w.heap.size 24 cs ∧ Row w' B2 24 ds ∧ Below w.heap.size w w' := ⟨_, rfl⟩
            have hrow0 : ∀ w', S w' → Row w' w.heap.size 24 cs := fun w' h => by rw [hSd] at h; exact h.1
            have hrow1 : ∀ w', S w' → Row w' B2 24 ds := fun w' h => by rw [hSd] at h; exact h.2.1
            have hbel : ∀ w', S w' → Below w.heap.size w w' := fun w' h => by rw [hSd] at h; exact h.2.2
            have hdrew : ∀ w', S w' → S w'.drew := fun w' h => by
              rw [hSd] at h ⊢
              exact ⟨h.1, h.2.1, h.2.2.drew⟩
            have hkeep : ∀ w2 w3, S w3 → Below w3.heap.size w3 w2 → S w2 := fun w2 w3 h hb => by
              rw [hSd] at h ⊢
              exact ⟨h.1.below hb h.1.lt, h.2.1.below hb h.2.1.lt, h.2.2.trans (hb.mono h.2.2.size)⟩
            have hS : S wr := by
              rw [hSd]
              exact ⟨rI, rJ, HI.out⟩
            by_cases hjc : j = c
            · refine held_start S (by kernel_rfl) hdrew hS ?_
              clear hS
              intro w2 hS
              try simp only [Act.put]
              refine heldTake (i := 0) 57 (.int .i64 j) (by kernel_rfl) rfl (by kernel_rfl) (by kernel_rfl) (by kernel_rfl) (fun _ _ _ h => h) (by kernel_rfl) (run_move_held (.inl rfl) (by kernel_rfl)) hS ?_
              try simp only [Act.put, List.setIfInBounds_toArray, List.set_cons_zero, List.set_cons_succ]
              refine heldTake (i := 1) 58 (.int .i64 c) (by kernel_rfl) rfl (by kernel_rfl) (by kernel_rfl) (by kernel_rfl) (fun _ _ _ h => h) (by kernel_rfl) (run_move_held (.inl rfl) (by kernel_rfl)) hS ?_
              try simp only [Act.put, List.setIfInBounds_toArray, List.set_cons_zero, List.set_cons_succ]
              refine heldTake (i := 2) 59 (.bool false) (by kernel_rfl) rfl (by kernel_rfl) (by kernel_rfl) (by kernel_rfl) (fun _ _ _ h => h) (by kernel_rfl) (run_bin_held (V := .int .i64 j) (W := .int .i64 c) rfl (by kernel_rfl) (by kernel_rfl) (fun w => by go_simp) (fun w => by go_simp)) hS ?_
              try simp only [Act.put, List.setIfInBounds_toArray, List.set_cons_zero, List.set_cons_succ]
              refine heldTake (i := 3) 60 (.bool false) (by kernel_rfl) rfl (by kernel_rfl) (by kernel_rfl) (by kernel_rfl) (fun _ _ _ h => h) (by kernel_rfl) (run_move_held (.inl rfl) (by kernel_rfl)) hS ?_
              try simp only [Act.put, List.setIfInBounds_toArray, List.set_cons_zero, List.set_cons_succ]
              refine heldSkip (i := 4) 61 (by kernel_rfl) rfl (by kernel_rfl) (by kernel_rfl) (by kernel_rfl) (fun _ _ _ h => h) (by kernel_rfl) hS ?_
              try simp only [Act.put, List.setIfInBounds_toArray, List.set_cons_zero, List.set_cons_succ]
              refine heldSkip (i := 5) 62 (by kernel_rfl) rfl (by kernel_rfl) (by kernel_rfl) (by kernel_rfl) (fun _ _ _ h => h) (by kernel_rfl) hS ?_
              try simp only [Act.put, List.setIfInBounds_toArray, List.set_cons_zero, List.set_cons_succ]
              refine heldSkip (i := 6) 63 (by kernel_rfl) rfl (by kernel_rfl) (by kernel_rfl) (by kernel_rfl) (fun _ _ _ h => h) (by kernel_rfl) hS ?_
              try simp only [Act.put, List.setIfInBounds_toArray, List.set_cons_zero, List.set_cons_succ]
              refine heldSkip (i := 7) 64 (by kernel_rfl) rfl (by kernel_rfl) (by kernel_rfl) (by kernel_rfl) (fun _ _ _ h => h) (by kernel_rfl) hS ?_
              try simp only [Act.put, List.setIfInBounds_toArray, List.set_cons_zero, List.set_cons_succ]
              refine heldSkip (i := 8) 65 (by kernel_rfl) rfl (by kernel_rfl) (by kernel_rfl) (by kernel_rfl) (fun _ _ _ h => h) (by kernel_rfl) hS ?_
              try simp only [Act.put, List.setIfInBounds_toArray, List.set_cons_zero, List.set_cons_succ]
              refine heldSkip (i := 9) 66 (by kernel_rfl) rfl (by kernel_rfl) (by kernel_rfl) (by kernel_rfl) (fun _ _ _ h => h) (by kernel_rfl) hS ?_
              try simp only [Act.put, List.setIfInBounds_toArray, List.set_cons_zero, List.set_cons_succ]
              refine heldSkip (i := 10) 67 (by kernel_rfl) rfl (by kernel_rfl) (by kernel_rfl) (by kernel_rfl) (fun _ _ _ h => h) (by kernel_rfl) hS ?_
              try simp only [Act.put, List.setIfInBounds_toArray, List.set_cons_zero, List.set_cons_succ]
              refine heldSkip (i := 11) 68 (by kernel_rfl) rfl (by kernel_rfl) (by kernel_rfl) (by kernel_rfl) (fun _ _ _ h => h) (by kernel_rfl) hS ?_
              try simp only [Act.put, List.setIfInBounds_toArray, List.set_cons_zero, List.set_cons_succ]
              refine heldSkip (i := 12) 69 (by kernel_rfl) rfl (by kernel_rfl) (by kernel_rfl) (by kernel_rfl) (fun _ _ _ h => h) (by kernel_rfl) hS ?_
              try simp only [Act.put, List.setIfInBounds_toArray, List.set_cons_zero, List.set_cons_succ]
              refine heldTake (i := 13) 70 (.bool false) (by kernel_rfl) rfl (by kernel_rfl) (by kernel_rfl) (by kernel_rfl) (fun _ _ _ h => h) (by kernel_rfl) (run_pick_held (b := false) rfl (by kernel_rfl) (by kernel_rfl)) hS ?_
              try simp only [Act.put, List.setIfInBounds_toArray, List.set_cons_zero, List.set_cons_succ]
              refine wpAnyH_done (by kernel_rfl) ?_ _
              have HF := Lib.hid (hbel _ hS)
              have rF := hrow0 _ hS
              have rG := hrow1 _ hS
              clear hdrew hkeep hSd hrow0 hrow1 hbel hS
              go_wp2
              go_roundw
              case rel => exact ⟨j + 1, by omega, by omega, by go_num, rF, rG, HF.out⟩
              case measure => simp [intOf]; omega
            · have kj := kd.out j ⟨j0, by omega, hjc⟩
              have ki := kg.out j
              obtain ⟨J, hJ⟩ : ∃ J, J = getG g q j := ⟨_, rfl⟩
              rw [← hJ] at kj ki
              have KJ := Lib.hid kj
              have KI := Lib.hid ki
              clear kj ki hJ
              refine held_start S (by kernel_rfl) hdrew hS ?_
              clear hS
              intro w2 hS
              try simp only [Act.put]
              refine heldTake (i := 0) 57 (.int .i64 j) (by kernel_rfl) rfl (by kernel_rfl) (by kernel_rfl) (by kernel_rfl) (fun _ _ _ h => h) (by kernel_rfl) (run_move_held (.inl rfl) (by kernel_rfl)) hS ?_
              try simp only [Act.put, List.setIfInBounds_toArray, List.set_cons_zero, List.set_cons_succ]
              refine heldTake (i := 1) 58 (.int .i64 c) (by kernel_rfl) rfl (by kernel_rfl) (by kernel_rfl) (by kernel_rfl) (fun _ _ _ h => h) (by kernel_rfl) (run_move_held (.inl rfl) (by kernel_rfl)) hS ?_
              try simp only [Act.put, List.setIfInBounds_toArray, List.set_cons_zero, List.set_cons_succ]
              refine heldTake (i := 2) 59 (.bool true) (by kernel_rfl) rfl (by kernel_rfl) (by kernel_rfl) (by kernel_rfl) (fun _ _ _ h => h) (by kernel_rfl) (run_bin_held (V := .int .i64 j) (W := .int .i64 c) rfl (by kernel_rfl) (by kernel_rfl) (fun w => by go_simp) (fun w => by go_simp)) hS ?_
              try simp only [Act.put, List.setIfInBounds_toArray, List.set_cons_zero, List.set_cons_succ]
              refine heldTake (i := 3) 60 (.bool true) (by kernel_rfl) rfl (by kernel_rfl) (by kernel_rfl) (by kernel_rfl) (fun _ _ _ h => h) (by kernel_rfl) (run_move_held (.inl rfl) (by kernel_rfl)) hS ?_
              try simp only [Act.put, List.setIfInBounds_toArray, List.set_cons_zero, List.set_cons_succ]
              refine heldTake (i := 4) 61 ((.agg ds)) (by kernel_rfl) rfl (by kernel_rfl) (by kernel_rfl) (by kernel_rfl) (fun _ _ _ h => h) (by kernel_rfl) (run_load_held 24 _ rfl _ _ ds (by kernel_rfl) hrow1 _ Tryd.underlying24 rfl j24.out) hS ?_
              try simp only [Act.put, List.setIfInBounds_toArray, List.set_cons_zero, List.set_cons_succ]
              refine heldTake (i := 5) 62 (.int .i64 q) (by kernel_rfl) rfl (by kernel_rfl) (by kernel_rfl) (by kernel_rfl) (fun _ _ _ h => h) (by kernel_rfl) (run_move_held (.inl rfl) (by kernel_rfl)) hS ?_
              try simp only [Act.put, List.setIfInBounds_toArray, List.set_cons_zero, List.set_cons_succ]
              refine heldTake (i := 6) 63 (.int .i64 j) (by kernel_rfl) rfl (by kernel_rfl) (by kernel_rfl) (by kernel_rfl) (fun _ _ _ h => h) (by kernel_rfl) (run_move_held (.inl rfl) (by kernel_rfl)) hS ?_
              try simp only [Act.put, List.setIfInBounds_toArray, List.set_cons_zero, List.set_cons_succ]
              refine heldTake (i := 8) 65 ((.agg cs)) (by kernel_rfl) rfl (by kernel_rfl) (by kernel_rfl) (by kernel_rfl) (fun _ _ _ h => h) (by kernel_rfl) (run_load_held 24 _ rfl _ _ cs (by kernel_rfl) hrow0 _ Tryd.underlying24 rfl i24.out) hS ?_
              try simp only [Act.put, List.setIfInBounds_toArray, List.set_cons_zero, List.set_cons_succ]
              refine heldTake (i := 9) 66 (.int .i64 q) (by kernel_rfl) rfl (by kernel_rfl) (by kernel_rfl) (by kernel_rfl) (fun _ _ _ h => h) (by kernel_rfl) (run_move_held (.inl rfl) (by kernel_rfl)) hS ?_
              try simp only [Act.put, List.setIfInBounds_toArray, List.set_cons_zero, List.set_cons_succ]
              refine heldTake (i := 10) 67 (.int .i64 j) (by kernel_rfl) rfl (by kernel_rfl) (by kernel_rfl) (by kernel_rfl) (fun _ _ _ h => h) (by kernel_rfl) (run_move_held (.inl rfl) (by kernel_rfl)) hS ?_
              try simp only [Act.put, List.setIfInBounds_toArray, List.set_cons_zero, List.set_cons_succ]
              refine heldCall (i := 7) 64 (.int .u8 J) (by kernel_rfl) rfl (by kernel_rfl) (by kernel_rfl) (by kernel_rfl) (KJ.out _) hS (fun w' => hkeep w' _) ?_
              clear hS
              intro w2 hS
              try simp only [Act.put, List.setIfInBounds_toArray, List.set_cons_zero, List.set_cons_succ]
              refine heldCall (i := 11) 68 (.int .u8 J) (by kernel_rfl) rfl (by kernel_rfl) (by kernel_rfl) (by kernel_rfl) (KI.out _) hS (fun w' => hkeep w' _) ?_
              clear hS
              intro w2 hS
              try simp only [Act.put, List.setIfInBounds_toArray, List.set_cons_zero, List.set_cons_succ]
              refine heldTake (i := 12) 69 (.bool false) (by kernel_rfl) rfl (by kernel_rfl) (by kernel_rfl) (by kernel_rfl) (fun _ _ _ h => h) (by kernel_rfl) (run_bin_held (V := .int .u8 J) (W := .int .u8 J) rfl (by kernel_rfl) (by kernel_rfl) (fun w => by go_simp) (fun w => by go_simp)) hS ?_
              try simp only [Act.put, List.setIfInBounds_toArray, List.set_cons_zero, List.set_cons_succ]
              refine heldTake (i := 13) 70 (.bool false) (by kernel_rfl) rfl (by kernel_rfl) (by kernel_rfl) (by kernel_rfl) (fun _ _ _ h => h) (by kernel_rfl) (run_pick_held (b := true) rfl (by kernel_rfl) (by kernel_rfl)) hS ?_
              try simp only [Act.put, List.setIfInBounds_toArray, List.set_cons_zero, List.set_cons_succ]
              refine wpAnyH_done (by kernel_rfl) ?_ _
              have HF := Lib.hid (hbel _ hS)
              have rF := hrow0 _ hS
              have rG := hrow1 _ hS
              clear hdrew hkeep hSd hrow0 hrow1 hbel hS
              go_wp2
              go_roundw
              case rel => exact ⟨j + 1, by omega, by omega, by go_num, rF, rG, HF.out⟩
              case measure => simp [intOf]; omega
          · obtain rfl : j = 8 := by omega
            go_wp2
            go_roundw
            case rel => exact ⟨c + 1, by omega, by omega, by go_num, rI, HI.out⟩
            case measure => simp [intOf]; omega
    · obtain rfl : c = 8 := by omega
      clear hv c0 c1 hlt
      have rC := rB
      have HD := Lib.hid HB.out
      clear rB HB
      go_wp2_with fail
      go_loopw [12] (fun tp wi => ∃ p : Int, 0 ≤ p ∧ p ≤ 4 ∧ tp = .int .i64 p ∧ Row wi w.heap.size 24 cs ∧ Below w.heap.size w wi) (fun tp _ => (4 - intOf tp).toNat)
      case atStart => exact ⟨0, by omega, by omega, rfl, rC, HD.out⟩
      case round =>
        obtain ⟨p, p0, p1, rfl, rB, hI⟩ := hrel
        have HB := Lib.hid hI
        clear hI rC HD
        by_cases hp : p < 4
        · have n5 : IntKind.i64.wrap (p + 1) = p + 1 := by rw [IntKind.wrap_i64]; omega
          have hcs := HC.out
          obtain ⟨ds, hds⟩ : ∃ x, regsV (setPairG g q p v) = .agg x := ⟨_, rfl⟩
          have j24 : Hid ((Tryd.prog.info? 24).map (·.size) = some ds.size) := Lib.hid (by cases hds; exact info24)
          have dcell : Hid (ds.toList.all (·.oneCell') = true) := Lib.hid (by cases hds; rfl)
          have k0 := Lib.hid (fun W => setPair_any g q p v W)
          rw [hcs, hds] at k0
          have k1 := Lib.hid (fun W => pair_any (setPairG g q p v) q p W)
          rw [pair_set _ _ _ _ ⟨p0, by omega⟩, hds] at k1
          have k2 := Lib.hid (fun W => pair_any g q p W)
          rw [hcs] at k2
          have k3 := Lib.hid (fun W => setPair_any (setPairG g q p v) q p (pairG g q p) W)
          rw [setPair_pair, hds, hcs] at k3
          obtain ⟨G, hG⟩ : ∃ G, G = pairG g q p := ⟨_, rfl⟩
          rw [← hG] at k2 k3
          clear hG hds hcs
          go_upto_region 19 with (fail)
          go_wp2_with (refine wpList_load_row rfl 24 _ rfl _ _ _ rfl rB _ Tryd.underlying24 rfl i24.out ?_)
          refine (k0.out _).mono ?_
          rintro e w2 ⟨rfl, hb2⟩
          clear k0
          have HB2 := Lib.hid ((HB.out.trans (hb2.mono HB.out.size)).alloc (HB.out.trans (hb2.mono HB.out.size)).size (.cells ds 24))
          have r1 := (rB.below hb2 rB.lt).alloc (.cells ds 24)
          have r2 := Row.new w2 24 ds
          clear hb2 rB HB
          go_upto_region 20 with (first
            | (refine wpList_store_top rfl 24 _ _ rfl _ _ _ _ ds rfl rfl (by simp) (by have := j24.out; rw [info24] at this; exact Option.some.inj this) j24.out dcell.out ?_))
          generalize w2.heap.size = B2 at *
          generalize w2.alloc (.cells ds 24) = W2 at *
          obtain ⟨S, hSd⟩ : ∃ S : World → Prop, S = fun w' => Row w' w.heap.size 24 cs ∧ Row w' B2 24 ds ∧ Below w.heap.size w w' := ⟨_, rfl⟩
          have hrow0 : ∀ w', S w' → Row w' w.heap.size 24 cs := fun w' h => by rw [hSd] at h; exact h.1
          have hrow1 : ∀ w', S w' → Row w' B2 24 ds := fun w' h => by rw [hSd] at h; exact h.2.1
          have hbel : ∀ w', S w' → Below w.heap.size w w' := fun w' h => by rw [hSd] at h; exact h.2.2
          have hdrew : ∀ w', S w' → S w'.drew := fun w' h => by
            rw [hSd] at h ⊢
            exact ⟨h.1, h.2.1, h.2.2.drew⟩
          have hkeep : ∀ w2 w3, S w3 → Below w3.heap.size w3 w2 → S w2 := fun w2 w3 h hb => by
            rw [hSd] at h ⊢
            exact ⟨h.1.below hb h.1.lt, h.2.1.below hb h.2.1.lt, h.2.2.trans (hb.mono h.2.2.size)⟩
          have hS : S W2 := by
            rw [hSd]
            exact ⟨r1, r2, HB2.out⟩
          refine held_start S (by kernel_rfl) hdrew hS ?_
          clear hS
          intro w2 hS
          try simp only [Act.put]
          refine heldTake (i := 0) 80 ((.agg ds)) (by kernel_rfl) rfl (by kernel_rfl) (by kernel_rfl) (by kernel_rfl) (fun _ _ _ h => h) (by kernel_rfl) (run_load_held 24 _ rfl _ _ ds (by kernel_rfl) hrow1 _ Tryd.underlying24 rfl j24.out) hS ?_
          try simp only [Act.put, List.setIfInBounds_toArray, List.set_cons_zero, List.set_cons_succ]
          refine heldTake (i := 1) 81 (.int .i64 q) (by kernel_rfl) rfl (by kernel_rfl) (by kernel_rfl) (by kernel_rfl) (fun _ _ _ h => h) (by kernel_rfl) (run_move_held (.inl rfl) (by kernel_rfl)) hS ?_
          try simp only [Act.put, List.setIfInBounds_toArray, List.set_cons_zero, List.set_cons_succ]
          refine heldTake (i := 2) 82 (.int .i64 p) (by kernel_rfl) rfl (by kernel_rfl) (by kernel_rfl) (by kernel_rfl) (fun _ _ _ h => h) (by kernel_rfl) (run_move_held (.inl rfl) (by kernel_rfl)) hS ?_
          try simp only [Act.put, List.setIfInBounds_toArray, List.set_cons_zero, List.set_cons_succ]
          refine heldTake (i := 4) 84 (.int .u16 v) (by kernel_rfl) rfl (by kernel_rfl) (by kernel_rfl) (by kernel_rfl) (fun _ _ _ h => h) (by kernel_rfl) (run_move_held (.inl rfl) (by kernel_rfl)) hS ?_
          try simp only [Act.put, List.setIfInBounds_toArray, List.set_cons_zero, List.set_cons_succ]
          refine heldCall (i := 3) 83 (.int .u16 v) (by kernel_rfl) rfl (by kernel_rfl) (by kernel_rfl) (by kernel_rfl) (k1.out _) hS (fun w' => hkeep w' _) ?_
          clear hS
          intro w2 hS
          try simp only [Act.put, List.setIfInBounds_toArray, List.set_cons_zero, List.set_cons_succ]
          refine heldTake (i := 5) 85 (.bool false) (by kernel_rfl) rfl (by kernel_rfl) (by kernel_rfl) (by kernel_rfl) (fun _ _ _ h => h) (by kernel_rfl) (run_bin_held (V := .int .u16 v) (W := .int .u16 v) rfl (by kernel_rfl) (by kernel_rfl) (fun w => by go_simp) (fun w => by go_simp)) hS ?_
          try simp only [Act.put, List.setIfInBounds_toArray, List.set_cons_zero, List.set_cons_succ]
          refine heldTake (i := 6) 86 (.bool false) (by kernel_rfl) rfl (by kernel_rfl) (by kernel_rfl) (by kernel_rfl) (fun _ _ _ h => h) (by kernel_rfl) (run_move_held (.inl rfl) (by kernel_rfl)) hS ?_
          try simp only [Act.put, List.setIfInBounds_toArray, List.set_cons_zero, List.set_cons_succ]
          refine heldTake (i := 7) 87 ((.agg ds)) (by kernel_rfl) rfl (by kernel_rfl) (by kernel_rfl) (by kernel_rfl) (fun _ _ _ h => h) (by kernel_rfl) (run_load_held 24 _ rfl _ _ ds (by kernel_rfl) hrow1 _ Tryd.underlying24 rfl j24.out) hS ?_
          try simp only [Act.put, List.setIfInBounds_toArray, List.set_cons_zero, List.set_cons_succ]
          refine heldTake (i := 8) 88 (.int .i64 q) (by kernel_rfl) rfl (by kernel_rfl) (by kernel_rfl) (by kernel_rfl) (fun _ _ _ h => h) (by kernel_rfl) (run_move_held (.inl rfl) (by kernel_rfl)) hS ?_
          try simp only [Act.put, List.setIfInBounds_toArray, List.set_cons_zero, List.set_cons_succ]
          refine heldTake (i := 9) 89 (.int .i64 p) (by kernel_rfl) rfl (by kernel_rfl) (by kernel_rfl) (by kernel_rfl) (fun _ _ _ h => h) (by kernel_rfl) (run_move_held (.inl rfl) (by kernel_rfl)) hS ?_
          try simp only [Act.put, List.setIfInBounds_toArray, List.set_cons_zero, List.set_cons_succ]
          refine heldTake (i := 10) 90 ((.agg cs)) (by kernel_rfl) rfl (by kernel_rfl) (by kernel_rfl) (by kernel_rfl) (fun _ _ _ h => h) (by kernel_rfl) (run_load_held 24 _ rfl _ _ cs (by kernel_rfl) hrow0 _ Tryd.underlying24 rfl i24.out) hS ?_
          try simp only [Act.put, List.setIfInBounds_toArray, List.set_cons_zero, List.set_cons_succ]
          refine heldTake (i := 11) 91 (.int .i64 q) (by kernel_rfl) rfl (by kernel_rfl) (by kernel_rfl) (by kernel_rfl) (fun _ _ _ h => h) (by kernel_rfl) (run_move_held (.inl rfl) (by kernel_rfl)) hS ?_
          try simp only [Act.put, List.setIfInBounds_toArray, List.set_cons_zero, List.set_cons_succ]
          refine heldTake (i := 12) 92 (.int .i64 p) (by kernel_rfl) rfl (by kernel_rfl) (by kernel_rfl) (by kernel_rfl) (fun _ _ _ h => h) (by kernel_rfl) (run_move_held (.inl rfl) (by kernel_rfl)) hS ?_
          try simp only [Act.put, List.setIfInBounds_toArray, List.set_cons_zero, List.set_cons_succ]
          refine heldTake (i := 15) 95 ((.agg cs)) (by kernel_rfl) rfl (by kernel_rfl) (by kernel_rfl) (by kernel_rfl) (fun _ _ _ h => h) (by kernel_rfl) (run_load_held 24 _ rfl _ _ cs (by kernel_rfl) hrow0 _ Tryd.underlying24 rfl i24.out) hS ?_
          try simp only [Act.put, List.setIfInBounds_toArray, List.set_cons_zero, List.set_cons_succ]
          refine heldCall (i := 13) 93 (.int .u16 G) (by kernel_rfl) rfl (by kernel_rfl) (by kernel_rfl) (by kernel_rfl) (k2.out _) hS (fun w' => hkeep w' _) ?_
          clear hS
          intro w2 hS
          try simp only [Act.put, List.setIfInBounds_toArray, List.set_cons_zero, List.set_cons_succ]
          refine heldCall (i := 14) 94 (.agg cs) (by kernel_rfl) rfl (by kernel_rfl) (by kernel_rfl) (by kernel_rfl) (k3.out _) hS (fun w' => hkeep w' _) ?_
          clear hS
          intro w2 hS
          try simp only [Act.put, List.setIfInBounds_toArray, List.set_cons_zero, List.set_cons_succ]
          refine heldTake (i := 16) 96 (.bool false) (by kernel_rfl) rfl (by kernel_rfl) (by kernel_rfl) (by kernel_rfl) (fun _ _ _ h => h) (by kernel_rfl) (run_bin_held (V := .agg cs) (W := (.agg cs)) rfl (by kernel_rfl) (by kernel_rfl) (Gcs.out _ _) (Ncs.out)) hS ?_
          try simp only [Act.put, List.setIfInBounds_toArray, List.set_cons_zero, List.set_cons_succ]
          refine heldTake (i := 17) 97 (.bool false) (by kernel_rfl) rfl (by kernel_rfl) (by kernel_rfl) (by kernel_rfl) (fun _ _ _ h => h) (by kernel_rfl) (run_pick_held (b := false) rfl (by kernel_rfl) (by kernel_rfl)) hS ?_
          try simp only [Act.put, List.setIfInBounds_toArray, List.set_cons_zero, List.set_cons_succ]
          refine wpAnyH_done (by kernel_rfl) ?_ _
          have HF := Lib.hid (hbel _ hS)
          have rF := hrow0 _ hS
          clear hdrew hkeep hSd hrow0 hrow1 hbel hS r1 r2 HB2 k1 k2 k3
          go_wp2
          go_roundw
          case rel => exact ⟨p + 1, by omega, by omega, by go_num, rF, HF.out⟩
          case measure => simp [intOf]; omega
        · obtain rfl : p = 4 := by omega
          go_wp2
          go_ret
          exact ⟨rfl, HB.out⟩
end Go.Proofs.YtpiadeedgjmmkaaDoor
