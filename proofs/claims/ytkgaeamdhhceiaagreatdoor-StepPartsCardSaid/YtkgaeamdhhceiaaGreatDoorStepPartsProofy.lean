/- The law's walk and what it wants (several texts in one). -/
import Derived.Test.YtkgaeamdhhceiaaGreatDoorStG15
namespace Go.Proofs.YtkgaeamdhhceiaaGreatDoor
open Go.RowKit
set_option linter.unusedVariables false
set_option linter.unusedSimpArgs false
set_option maxRecDepth 20000
set_option maxHeartbeats 20000000
theorem stepParts_walk (g : Rg) (A : Option Addr) (cap : Nat) (ms : List (Int × Int)) (A' : Option Addr) (cap' : Nat) (ps : List Int) (n m : Int) (hg : RgB g) (w : World)
    (hc : ms.length ≤ cap) (hm : cap ≤ maxLen) (h16 : Cells16 ms) (hin : CellsIn w w.heap.size A ms) (hn : A = none → cap = 0) (hc' : ps.length ≤ cap') (hm' : cap' ≤ maxLen) (h8 : Bytes8 ps) (hin' : BytesIn w w.heap.size A' ps) (hn' : A' = none → cap' = 0) (hM : Masks w) (hD : Digits w) (hC : Courses w) (hO : Modes w) :
    Calls Tryz.prog 5 #[worldV g (.slice A ms.length cap) (.slice A' ps.length cap'), .int .i64 n, .int .i64 m] w fun e w' => e = .returned (.bool true) ∧ Below w.heap.size w w' := by
  have ht : Tabs w w.heap.size := (NextTabs.mk hM hC hD hO).tabs
  have hA : AccOk := acc_ok ht
  have hI : InW w w.heap.size (worldV g (.slice A ms.length cap) (.slice A' ps.length cap')) ⟨g, ms, ps⟩ := ⟨A, cap, A', cap', rfl, hin, hn, hc, hin', hn', hc'⟩
  have hok : OkW ⟨g, ms, ps⟩ := ⟨hg, h16, h8⟩
  go_enter Tryz.func5, Tryz.ntmps5
  refine coStart <| qQ [] (Many.begin w) fun w1 k1 => coR <| qC (awake15_any hA w1 (ht.below k1.touch.below)) k1 fun w2 k2 => qE [] k2 fun w3 k3 => coS <| qQ [] k3 fun w4 k4 => coF <| coSkip <| eoT <| coR <| qR 1 [0] k4 fun w5 k5 => qC (sfew_any w5 (hI.on k5.touch.below)) k5 fun w6 k6 => qE [] k6 fun w7 k7 => coS <| coR <| qR 3 [] k7 fun w8 k8 => ?_
  by_cases hf : fewS ⟨g, ms, ps⟩ = true
  case neg => exact tell 22 (show (!fewS ⟨g, ms, ps⟩) = true by simpa using hf) <| qE [] k8 fun w9 k9 => coT <| qQ [] k9 fun wa ka => coRet <| eoTr <| eoIr (.bool true) ⟨rfl, ka.touch.below⟩
  refine tell 22 (show (!fewS ⟨g, ms, ps⟩) = false by simpa using hf) <| qR 4 [] k8 fun w8 k8 => ?_
  by_cases hn0 : n < 0
  · exact tell 26 (show decide (n < 0) = true by simpa using hn0) <| qE [] k8 fun w9 k9 => coT <| qQ [] k9 fun wa ka => coRet <| eoTr <| eoIr (.bool true) ⟨rfl, ka.touch.below⟩
  refine tell 26 (show decide (n < 0) = false by simpa using hn0) <| qR 4 [] k8 fun w8 k8 => ?_
  by_cases hm0 : m < 0
  · exact tell 30 (show decide (m < 0) = true by simpa using hm0) <| qE [] k8 fun w9 k9 => coT <| qQ [] k9 fun wa ka => coRet <| eoTr <| eoIr (.bool true) ⟨rfl, ka.touch.below⟩
  refine tell 30 (show decide (m < 0) = false by simpa using hm0) <| qR 4 [] k8 fun w8 k8 => ?_
  by_cases hn12 : n > 12
  · exact tell 34 (show decide (n > 12) = true by simpa using hn12) <| qE [] k8 fun w9 k9 => coT <| qQ [] k9 fun wa ka => coRet <| eoTr <| eoIr (.bool true) ⟨rfl, ka.touch.below⟩
  refine tell 34 (show decide (n > 12) = false by simpa using hn12) <| qR 3 [] k8 fun w8 k8 => ?_
  by_cases hm12 : m > 12
  · exact tell 37 (show decide (m > 12) = true by simpa using hm12) <| qE [] k8 fun w9 k9 => coT <| qQ [] k9 fun wa ka => coRet <| eoTr <| eoIr (.bool true) ⟨rfl, ka.touch.below⟩
  refine tell 37 (show decide (m > 12) = false by simpa using hm12) <| qE [] k8 fun w9 k9 => coF <| coSkip <| eoT <| coR <| qR 2 [0] k9 fun wa ka => ?_
  have hlen : ms.length ≤ 80 ∧ ps.length ≤ 40 := few_len hf
  have eN := nRun_nat (n := n) (by omega) (by omega)
  have eM := nRun_nat (n := m) (by omega) (by omega)
  have eS := nRun_nat (n := n + m) (by omega) (by omega)
  obtain ⟨N, hN⟩ : ∃ N, N = nRun n := ⟨_, rfl⟩
  obtain ⟨M, hM'⟩ : ∃ M, M = nRun m := ⟨_, rfl⟩
  rw [← hN] at eN
  rw [← hM'] at eM
  have hS : nRun (n + m) = N + M := by omega
  have hba := ka.touch.below
  have r3 : Row wa w.heap.size 28 (worldC g (.slice A ms.length cap) (.slice A' ps.length cap')) := ka.row 0 (worldC g (.slice A ms.length cap) (.slice A' ps.length cap')).toList (by kernel_rfl)
  have w0e : ∃ w0 : Wd, w0 = ⟨g, ms, ps⟩ := ⟨_, rfl⟩
  obtain ⟨w0, hw0⟩ := w0e
  rw [← hw0] at hI hok
  have l0 : w0.m.length ≤ 80 ∧ w0.p.length ≤ 40 := by rw [hw0]; exact hlen
  have lN := runW_len N w0
  have lM := runW_len M (mkW (runW N w0).1)
  have lk := mk_len (runW N w0).1
  have hNl : N ≤ 12 := by omega
  have hMl : M ≤ 12 := by omega
  have KR := prun_any hA n wa hok (by omega) (by omega) (hI.on hba) (ht.below hba)
  rw [← hN] at KR
  refine kX KR fun e wb ⟨V2, he, h2, hbb⟩ => ⟨_, he, ?_⟩
  have h2' := h2
  obtain ⟨A2, c2, B2, d2, rfl, -⟩ := h2'
  refine qE [0] (Many.begin wb) fun wc kc => ?_
  have hbc := kc.touch.below
  have r9 : Row wc wb.heap.size 28 (worldC (mkW (runW N w0).1).g (.slice A2 (mkW (runW N w0).1).m.length c2) (.slice B2 (mkW (runW N w0).1).p.length d2)) := kc.row 0 (worldC (mkW (runW N w0).1).g (.slice A2 (mkW (runW N w0).1).m.length c2) (.slice B2 (mkW (runW N w0).1).p.length d2)).toList (by kernel_rfl)
  have hac : Below wa.heap.size wa wc := hbb.trans (hbc.mono hbb.size)
  have hBc : Below w.heap.size w wc := hba.trans (hac.mono hba.size)
  have r3c := r3.below hac r3.lt
  refine coR <| wM (xLoad (ldAll r9)) <| qR 1 [] (Many.begin wc) fun wd kd => ?_
  have hbd := kd.touch.below
  have hBd := hBc.trans (hbd.mono hBc.size)
  have KM := prun_any hA m wd (w := mkW (runW N w0).1) (mk_okW (hok.run hA N)) (by omega) (by show (runW N w0).1.p.length ≤ _; omega) ((h2.on hbc).on hbd) (ht.below hBd)
  rw [← hM', (mk_run M _).1, (mk_run M _).2, ← (runW_add N M w0).1] at KM
  have sum := (runW_add N M w0).2
  have nN := runW_n N w0
  have nM := runW_n M (runW N w0).1
  obtain ⟨X, hX⟩ : ∃ X, X = mkW (runW (N + M) w0).1 := ⟨_, rfl⟩
  have hX8 : Bytes8 X.p := by rw [hX]; exact (hok.run hA (N + M)).p
  have hXl : X.m.length ≤ 1000000 := by
    have h1 := mk_len (runW (N + M) w0).1
    have h2 := (runW_len (N + M) w0).1
    rw [hX]
    omega
  rw [← hX] at KM
  refine kX KM fun e we ⟨V3, he, h3, hbe⟩ => ⟨_, he, ?_⟩
  have h3' := h3
  obtain ⟨A3, c3, B3, d3, rfl, -⟩ := h3'
  refine qE [0] (Many.begin we) fun wf kf => ?_
  have hbf := kf.touch.below
  have r11 : Row wf we.heap.size 28 (worldC X.g (.slice A3 X.m.length c3) (.slice B3 X.p.length d3)) := kf.row 0 (worldC X.g (.slice A3 X.m.length c3) (.slice B3 X.p.length d3)).toList (by kernel_rfl)
  have hcf : Below wc.heap.size wc wf := hbd.trans ((hbe.trans (hbf.mono hbe.size)).mono hbd.size)
  have hBf := hBc.trans (hcf.mono hBc.size)
  have r3f := r3c.below hcf r3c.lt
  refine coR <| wM (xLoad (ldAll r3f)) <| qR 2 [] (Many.begin wf) fun wg kg => kBj 54 (.int .i64 n) (.int .i64 m) (.int .i64 (n + m)) (egI _ _ _ _ _) (bAddI' _ _ (by omega) (by omega)) ?_
  have hbg := kg.touch.below
  have hBg := hBf.trans (hbg.mono hBf.size)
  have KS := prun_any hA (n + m) wg hok (by omega) (by omega) ((hI.on (hba.trans (hac.mono hba.size))).on (hcf.trans (hbg.mono hcf.size))) (ht.below hBg)
  rw [hS, ← hX] at KS
  refine kX KS fun e wh ⟨V4, he, h4, hbh⟩ => ⟨_, he, ?_⟩
  have h4' := h4
  obtain ⟨A4, c4, B4, d4, rfl, -⟩ := h4'
  refine qE [0] (Many.begin wh) fun wi ki => ?_
  have hbi := ki.touch.below
  have r13 : Row wi wh.heap.size 28 (worldC X.g (.slice A4 X.m.length c4) (.slice B4 X.p.length d4)) := ki.row 0 (worldC X.g (.slice A4 X.m.length c4) (.slice B4 X.p.length d4)).toList (by kernel_rfl)
  have hfi : Below wf.heap.size wf wi := hbg.trans ((hbh.trans (hbi.mono hbh.size)).mono hbg.size)
  have hBi := hBf.trans (hfi.mono hBf.size)
  have r11i := r11.below hfi r11.lt
  refine coR <| wM (xLoad (ldAll r11i)) <| wM (xLoad (ldAll r13)) <| qC (same_any (w := X) wi ((h3.on hbf).on hfi) (h4.on hbi) hX8 (by omega)) (Many.begin wi) fun wj kj => qR 3 [] kj fun wk kk => kBj 64 (.int .i64 (runW N w0).2) (.int .i64 (runW M (runW N w0).1).2) (.int .i64 ((runW N w0).2 + (runW M (runW N w0).1).2)) (egI _ _ _ _ _) (bAddI' _ _ (by omega) (by omega)) <| qR 2 [] kk fun wl kl => tell 66 (show ((runW N w0).2 + (runW M (runW N w0).1).2 == (runW (N + M) w0).2) = true by rw [sum]; simp) <| qR 4 [] kl fun wm km => kBj 71 (.int .i64 4) (.int .i64 n) (.int .i64 (4 * n)) (egI _ _ _ _ _) (bMulI _ _ (by omega) (by omega)) <| qR 1 [] km fun wn kn => tell 72 (show decide ((runW N w0).2 ≥ 4 * n) = true by rw [decide_eq_true_eq]; omega) <| qE [] kn fun wo ko => coRet <| eoIr (.bool true) ⟨rfl, bOn hBi ko⟩
end Go.Proofs.YtkgaeamdhhceiaaGreatDoor
