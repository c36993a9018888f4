/- The law's walk and what it wants (several texts in one). -/
import Derived.Test.YtmnddlkhgajenaaGreatDoorAcG19
namespace Go.Proofs.YtmnddlkhgajenaaGreatDoor
open Go.RowKit
set_option linter.unusedVariables false
set_option linter.unusedSimpArgs false
set_option maxRecDepth 20000
set_option maxHeartbeats 20000000
theorem acceptShuts_walk (g : Rg) (v : Int) (mode : Int) (hv0 : 0 ≤ v) (hv1 : v ≤ 255) (hg : RgB g) (w : World) (hM : Masks w) (hD : Digits w) (hC : Courses w) (hO : Modes w) :
    Calls Tryz.prog 6 #[regsV g, .int .u8 v, .int .i64 mode] w fun e w' => e = .returned (.bool true) ∧ Below w.heap.size w w' := by
  have ht : Tabs w w.heap.size := (NextTabs.mk hM hC hD hO).tabs
  have hv : B8 v := ⟨hv0, hv1⟩
  obtain ⟨M, hMd⟩ : ∃ M, M = 1 + mode % 2 := ⟨_, rfl⟩
  have hM2 : M = 1 ∨ M = 2 := by omega
  obtain ⟨G, hG⟩ : ∃ G : Rg, G = { g with mode := M } := ⟨_, rfl⟩
  have hGb : RgB G := by subst hG; exact ⟨hg.af, hg.bc, hg.de, hg.hl, hg.af2, hg.bc2, hg.de2, hg.hl2, hg.ix, hg.iy, hg.sp, hg.pc, hg.wz, hg.i, hg.r, by show _ ≤ M ∧ M ≤ _; omega⟩
  have hGm : G.mode = M := by rw [hG]
  have z8 := B8.zero
  have s8 : B8 7 := ⟨by decide, by decide⟩
  have m4 : Bytes8 [v, 0, 0, 0] := fun x hx => by simp at hx; rcases hx with rfl | rfl <;> assumption
  have m6 : Bytes8 [v, 0, 0, 0, 7, v] := fun x hx => by simp at hx; rcases hx with rfl | rfl | rfl | rfl <;> assumption
  have m2 : Bytes8 [v, 0] := fun x hx => by simp at hx; rcases hx with rfl | rfl <;> assumption
  have m3 : Bytes8 [v, 0, 0] := fun x hx => by simp at hx; rcases hx with rfl | rfl <;> assumption
  obtain ⟨aim, haim⟩ : ∃ aim, aim = if M = 1 then 56 else 256 * v + 7 := ⟨_, rfl⟩
  have t1 : (accOf G 1 [v, 0, 0, 0]).v = .tuple #[cyV zeroCy, regsV (jumpG (begG G false G.iff2) 102), .bool true] := rfl
  have t2 : (accOf G 2 [v, 0, 0, 0, 7, v]).v = .tuple #[cyV zeroCy, regsV (jumpG (begG G false false) aim), .bool true] := by
    have e : accOf G 2 [v, 0, 0, 0, 7, v] = endT (jumpG (begG G false false) aim) := by
      show irqT G v [0, 0, 0, 7, v] = _
      unfold irqT
      rw [if_neg (by omega)]
      rcases hM2 with h | h
      · rw [if_pos (by omega), haim, if_pos h]; rfl
      · rw [if_neg (by omega), haim, if_neg (by omega)]; rfl
    rw [e]; rfl
  have t3 : (accOf G 2 [v, 0]).v = .tuple #[cyV ⟨3, (G.sp - 1) % 65536, G.pc / 256, 3⟩, regsV zeroRg, .bool false] := by
    have e : accOf G 2 [v, 0] = askT ⟨3, (G.sp - 1) % 65536, G.pc / 256, 3⟩ := by
      show irqT G v [0] = _
      unfold irqT
      rw [if_neg (by omega)]
      rcases hM2 with h | h
      · rw [if_pos (by omega)]; rfl
      · rw [if_neg (by omega)]; rfl
    rw [e]; rfl
  have t4 : (accOf G 1 [v, 0, 0]).v = .tuple #[cyV ⟨3, (G.sp - 2) % 65536, G.pc % 256, 3⟩, regsV zeroRg, .bool false] := rfl
  have K1 := fun (W : World) (hW : Below w.heap.size w W) (b : Nat) (hb : BytesIn W W.heap.size (some ⟨b, 0, none⟩) [v, 0, 0, 0]) => accept_any G hGb 1 (some ⟨b, 0, none⟩) 4 [v, 0, 0, 0] (Nat.le_refl _) m4 (by simp) W hb (ht.below hW)
  have K2 := fun (W : World) (hW : Below w.heap.size w W) (b : Nat) (hb : BytesIn W W.heap.size (some ⟨b, 0, none⟩) [v, 0, 0, 0, 7, v]) => accept_any G hGb 2 (some ⟨b, 0, none⟩) 6 [v, 0, 0, 0, 7, v] (Nat.le_refl _) m6 (by simp) W hb (ht.below hW)
  have K3 := fun (W : World) (hW : Below w.heap.size w W) (b : Nat) (hb : BytesIn W W.heap.size (some ⟨b, 0, none⟩) [v, 0]) => accept_any G hGb 2 (some ⟨b, 0, none⟩) 2 [v, 0] (Nat.le_refl _) m2 (by simp) W hb (ht.below hW)
  have K4 := fun (W : World) (hW : Below w.heap.size w W) (b : Nat) (hb : BytesIn W W.heap.size (some ⟨b, 0, none⟩) [v, 0, 0]) => accept_any G hGb 1 (some ⟨b, 0, none⟩) 3 [v, 0, 0] (Nat.le_refl _) m3 (by simp) W hb (ht.below hW)
  rw [t1] at K1
  rw [t2] at K2
  rw [t3] at K3
  rw [t4] at K4
  have hpc := hGb.pc
  have bh : B8 (G.pc / 256) := ⟨by have := hpc.1; omega, by have := hpc.2; omega⟩
  have bl : B8 (G.pc % 256) := ⟨by omega, by omega⟩
  clear t1 t2 t3 t4 m2 m3 m4 m6 haim hGm
  go_enter Tryz.func6, Tryz.ntmps6
  refine coStart <| qQ [] (Many.begin w) fun w1 k1 => coR <| qC (awake13_any w1 (ht.below k1.touch.below)) k1 fun w2 k2 => qE [] k2 fun w3 k3 => coS <| qQ [] k3 fun w4 k4 => coF <| coSkip <| eoT <| coR <| qR 1 [] k4 fun w5 k5 => kBj 24 (.int .i64 mode) (.int .i64 1) (.int .i64 (mode % 2)) (egI _ _ _ _ _) (ac_and1 mode) <| kBj 25 (.int .i64 1) (.int .i64 (mode % 2)) (.int .i64 M) (egI _ _ _ _ _) (fun w => by rw [hMd]; exact bAddI' _ _ (by omega) (by omega) w) <| qE [0] k5 fun w6 k6 => ?_
  have k6 := k6.take 1 [⟨w.heap.size, 24, (regsC { g with mode := M }).toList.map some⟩]
  rw [← hG] at k6
  clear hG hMd hM2
  refine coR <| qR 3 [0] k6 fun w7 k7 => qC (K1 w7 k7.touch.below w6.heap.size (plane_row (t := 5) (k7.row 1 (bvs [v, 0, 0, 0]) (by kernel_rfl)))) k7 fun w8 k8 => qE [2, 3] k8 fun w9 k9 => coR <| qR 4 [0] k9 fun wa ka => qC (K2 wa ka.touch.below w9.heap.size (plane_row (t := 5) (ka.row 4 (bvs [v, 0, 0, 0, 7, v]) (by kernel_rfl)))) ka fun wb kb => qE [5, 6] kb fun wc kc => ?_
  refine coS <| coR <| qR 23 [3, 6, 6, 3, 0] kc fun wd kd => kBj 67 (.bool G.iff2) (.bool G.iff2) (.bool false) (ac_egB _ _ _ _ _) (ac_neB _) <| qR 28 [3, 6, 3, 6, 3, 3, 0] kd fun we ke => kBj 96 (.int .u16 ((G.sp - 2) % 65536)) (.int .u16 ((G.sp - 2) % 65536)) (.bool false) (eg16 _ _ _ _ _) (ac_ne16 _) <| qR 7 [6, 0] ke fun wf kf => kBj 104 (.int .u16 ((G.sp - 2) % 65536)) (.int .u16 ((G.sp - 2) % 65536)) (.bool false) (eg16 _ _ _ _ _) (ac_ne16 _) <| qE [] kf fun wg kg => coF <| coSkip <| eoT <| ?_
  refine coR <| qR 3 [0] kg fun wh kh => qC (K3 wh kh.touch.below wg.heap.size (plane_row (t := 5) (kh.row 7 (bvs [v, 0]) (by kernel_rfl)))) kh fun wi ki => qE [8, 9] ki fun wj kj => coR <| qR 3 [0] kj fun wk kk => qC (K4 wk kk.touch.below wj.heap.size (plane_row (t := 5) (kk.row 10 (bvs [v, 0, 0]) (by kernel_rfl)))) kk fun wl kl => qE [11, 12] kl fun wm km => ?_
  refine coS <| coR <| qR 11 [8, 11, 8] km fun wn kn => wM (xConv (ac_cv (G.pc / 256) bh wn)) <| kBj 134 (.int .u16 (G.pc / 256)) (.int .u16 256) (.int .u16 (G.pc / 256 * 256)) (eg16 _ _ _ _ _) (ac_mul _ bh) <| qR 2 [11] kn fun wo ko => wM (xConv (ac_cv (G.pc % 256) bl wo)) <| kBj 138 (.int .u16 (G.pc / 256 * 256)) (.int .u16 (G.pc % 256)) (.int .u16 G.pc) (eg16 _ _ _ _ _) (fun w => by have := ac_add (G.pc / 256 * 256) (G.pc % 256) ⟨by have := bh.1; have := bl.1; omega, by have := hpc.2; omega⟩ w; rwa [show G.pc / 256 * 256 + G.pc % 256 = G.pc by omega] at this) <| qR 2 [0] ko fun wp kp => kBj 141 (.int .u16 G.pc) (.int .u16 G.pc) (.bool false) (eg16 _ _ _ _ _) (ac_ne16 _) <| qR 7 [8, 0] kp fun wq kq => kBj 149 (.int .u16 ((G.sp - 1) % 65536)) (.int .u16 ((G.sp - 1) % 65536)) (.bool false) (eg16 _ _ _ _ _) (ac_ne16 _) <| qR 7 [11, 0] kq fun wr kr => kBj 157 (.int .u16 ((G.sp - 2) % 65536)) (.int .u16 ((G.sp - 2) % 65536)) (.bool false) (eg16 _ _ _ _ _) (ac_ne16 _) <| qE [] kr fun ws ks => coF <| coSkip <| eoT <| ?_
  refine coR <| qR 1 [3] ks fun wt kt => qC (which_any (jumpG (begG G false G.iff2) 102) false true wt) kt fun wu ku => qR 3 [6] ku fun wv kv => qC (which_any (jumpG (begG G false false) aim) false true wv) kv fun ww kw => qR 4 [6] kw fun wx kx => qC (which_any (jumpG (begG G false false) aim) true false wx) kx fun wy ky => qE [] ky fun wz kz => coRet <| eoIr (.bool true) ⟨rfl, kz.touch.below⟩
end Go.Proofs.YtmnddlkhgajenaaGreatDoor
