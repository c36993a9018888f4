/- Contracts and facts that the claim's proof wants (several texts in one). -/
import Derived.WalkKit
import Derived.ProofKit
import Derived.OpenShut
import Derived.ChangeSlices
import Derived.Lib.SmallJoins
import Derived.Test.YtibmpaeaicpbcaaGreatDoorNxG1
import Derived.Test.YtibmpaeaicpbcaaGreatDoorNxG4
import Derived.Test.YtibmpaeaicpbcaaGreatDoorNxG5
import Derived.Test.YtibmpaeaicpbcaaGreatDoorNxG6
namespace Go.Proofs.YtibmpaeaicpbcaaGreatDoor
open Go.RowKit
set_option linter.unusedVariables false
set_option linter.unusedSimpArgs false
set_option maxRecDepth 20000
set_option maxHeartbeats 20000000
theorem w_block (y : Int) (hAy : 0 ≤ y ∧ y ≤ 7) (zA : Int) {s : Ws} {xs : List Int} {z : Zs} {w : World} {p B : Nat} (h : AtW w p B s xs z) :
    Calls Tryz.prog 73 #[pT p 0, .int .i64 (y), .int .i64 (zA)] w (OutY w p B xs ((blockW y zA s).runZ xs z)) := by
 have hn := NowW.begin h
 have hr : (blockW y zA s).runZ xs z = (blockW y zA s).runZ xs z := rfl
 go_enter Tryz.func73, Tryz.ntmps73
 refine coStart <| zQ hn <| coS <| coR <| zR 1 hn ?_
 rcases mod2 (y) with g4 | g4
 · refine kBin 15 (egI _ _ _ _ _) (bRem2 ((hAy).1) g4) <| have hr := hr.trans (zif_neg (by simp [g4])); ?_
   first | have hr := pZ hr | have hr := qZ hr | have hr := pbZ hr | have hr := qbZ hr | skip
   refine zE hn <| coF ?_
   first | have hr := pZ hr | have hr := qZ hr | have hr := pbZ hr | have hr := qbZ hr | skip
   refine coSkip <| eoT <| zQ hn <| coS <| zQ hn <| coB <| zQ hn <| zIf hr (fun g9 hr => ?_) fun g9 hr => ?_
   · refine have b11 := hn.at_.ms.r.hl; coR <| zR 6 hn <| zX (w_read s.r.hl (b11) hn.at_) hn hr <| fun v12 s12 z12 w12 hk12 hn hr => zE hn <| have b14 := hn.at_.ms.r.de; coR <| zR 7 hn <| zY (w_write s12.r.de (b14) v12 (hk12) hn.at_) hn hr <| fun s15 z15 w15 hn hr => wT <| coR <| zR 1 hn <| zY (w_states 2 hn.at_) hn hr <| fun s17 z17 w17 hn hr => wT <| have b19 := hn.at_.ms.r.de; coR <| zR 7 hn <| kE (wrmove_any s17.r.de 1 (b19) _) <| zEs hn (.u_de _ (moveM s17.r.de 1)) (hn.at_.ms.u_de (Wd16.mod _)) <| fun w21 hn => have b23 := hn.at_.ms.r.bc; zQs hn ((s17.u_de (moveM s17.r.de 1)).u_bc ((((s17.u_de (moveM s17.r.de 1)).r.bc) - 1) % 65536)) (hn.at_.ms.u_bc (Wd16.mod _)) <| fun w24 hn => zP 11 hn <| fun w26 hn => have b27 := hn.at_.ms.r.bc; have b28 := aW_byte hn.at_.ms; zD [0, 2, 3, 4, 5, 6, 7, 8] hn <| zDa 1 (w_a hn.at_) hn <| fun w29 hn => have b30 := fW_byte hn.at_.ms; zDa 9 (w_f hn.at_) hn <| fun w31 hn => zDb 10 (rmove_any (((s17.u_de (moveM s17.r.de 1)).u_bc ((((s17.u_de (moveM s17.r.de 1)).r.bc) - 1) % 65536)).a) v12 (((s17.u_de (moveM s17.r.de 1)).u_bc ((((s17.u_de (moveM s17.r.de 1)).r.bc) - 1) % 65536)).r.bc) (((s17.u_de (moveM s17.r.de 1)).u_bc ((((s17.u_de (moveM s17.r.de 1)).r.bc) - 1) % 65536)).f) (b28) (hk12) (b30) (b27).1 (b27).2 _) hn <| fun w32 hn => poE <| zE hn <| have b33 := hn.at_.ms.r.hl; coZ <| zR 7 hn <| kE (wrmove_any (((s17.u_de (moveM s17.r.de 1)).u_bc ((((s17.u_de (moveM s17.r.de 1)).r.bc) - 1) % 65536)).r.hl) 1 (b33) _) <| zFs hn (((s17.u_de (moveM s17.r.de 1)).u_bc ((((s17.u_de (moveM s17.r.de 1)).r.bc) - 1) % 65536)).u_hl (moveM (((s17.u_de (moveM s17.r.de 1)).u_bc ((((s17.u_de (moveM s17.r.de 1)).r.bc) - 1) % 65536)).r.hl) 1)) (hn.at_.ms.u_hl (Wd16.mod _)) <| fun w35 hn => eoB <| eoT <| have b37 := aW_byte hn.at_.ms; coR <| zR 2 hn <| zAA (w_a hn.at_) hn <| fun w38 hn => zR 1 hn <| zAA (w_put ((((s17.u_de (moveM s17.r.de 1)).u_bc ((((s17.u_de (moveM s17.r.de 1)).r.bc) - 1) % 65536)).u_hl (moveM (((s17.u_de (moveM s17.r.de 1)).u_bc ((((s17.u_de (moveM s17.r.de 1)).r.bc) - 1) % 65536)).r.hl) 1)).a) (b37) (moveF (((s17.u_de (moveM s17.r.de 1)).u_bc ((((s17.u_de (moveM s17.r.de 1)).r.bc) - 1) % 65536)).a) v12 (((s17.u_de (moveM s17.r.de 1)).u_bc ((((s17.u_de (moveM s17.r.de 1)).r.bc) - 1) % 65536)).r.bc) (((s17.u_de (moveM s17.r.de 1)).u_bc ((((s17.u_de (moveM s17.r.de 1)).r.bc) - 1) % 65536)).f)) (moveF_byte _ _ _ _) hn.at_) hn <| fun w39 hn => wT <| coR <| zR 3 hn ?_
     rcases Bool.eq_false_or_eq_true (decide (5 < y)) with h41 | h41
     · have g41 : 5 < y := by simpa using h41
       refine tell 244 h41 <| zR 2 hn <| zBB (ragain_any zA (moveF (((s17.u_de (moveM s17.r.de 1)).u_bc ((((s17.u_de (moveM s17.r.de 1)).r.bc) - 1) % 65536)).a) v12 (((s17.u_de (moveM s17.r.de 1)).u_bc ((((s17.u_de (moveM s17.r.de 1)).r.bc) - 1) % 65536)).r.bc) (((s17.u_de (moveM s17.r.de 1)).u_bc ((((s17.u_de (moveM s17.r.de 1)).r.bc) - 1) % 65536)).f)) (moveF_byte _ _ _ _) _) hn <| fun w42 hn => zE hn <| coI (againM zA (moveF (((s17.u_de (moveM s17.r.de 1)).u_bc ((((s17.u_de (moveM s17.r.de 1)).r.bc) - 1) % 65536)).a) v12 (((s17.u_de (moveM s17.r.de 1)).u_bc ((((s17.u_de (moveM s17.r.de 1)).r.bc) - 1) % 65536)).r.bc) (((s17.u_de (moveM s17.r.de 1)).u_bc ((((s17.u_de (moveM s17.r.de 1)).r.bc) - 1) % 65536)).f))) (fun h43 => ?_) fun h43 => ?_
       · have g43 : againM zA (moveF (((s17.u_de (moveM s17.r.de 1)).u_bc ((((s17.u_de (moveM s17.r.de 1)).r.bc) - 1) % 65536)).a) v12 (((s17.u_de (moveM s17.r.de 1)).u_bc ((((s17.u_de (moveM s17.r.de 1)).r.bc) - 1) % 65536)).r.bc) (((s17.u_de (moveM s17.r.de 1)).u_bc ((((s17.u_de (moveM s17.r.de 1)).r.bc) - 1) % 65536)).f)) = true := by simpa using h43
         exact have hr := hr.trans (zif_pos (⟨g41, g43⟩)); coR <| zR 1 hn <| zY (w_states 5 hn.at_) hn hr <| fun s45 z45 w45 hn hr => wT <| have b47 := hn.at_.ms.r.pc; zQs hn (.u_pc _ ((s45.r.pc - 2) % 65536)) (hn.at_.ms.u_pc (Wd16.mod _)) <| fun w48 hn => zQ hn <| coJ (decide (zA < 2)) (fun h50 => absurd h50 (by first | (simp; omega) | simp [*])) <| fun h50 => have hr := hr.trans (zif_pos (by simp [g43, g41, g9, g4])); have b51 := hn.at_.ms.r.pc; coZ <| zFs hn ((s45.u_pc ((s45.r.pc - 2) % 65536)).u_wz ((((s45.u_pc ((s45.r.pc - 2) % 65536)).r.pc) + 1) % 65536)) (hn.at_.ms.u_wz (Wd16.mod _)) <| fun w52 hn => eoV (OutY.ok (dZ hr) hn)
       have g43 : ¬ againM zA (moveF (((s17.u_de (moveM s17.r.de 1)).u_bc ((((s17.u_de (moveM s17.r.de 1)).r.bc) - 1) % 65536)).a) v12 (((s17.u_de (moveM s17.r.de 1)).u_bc ((((s17.u_de (moveM s17.r.de 1)).r.bc) - 1) % 65536)).r.bc) (((s17.u_de (moveM s17.r.de 1)).u_bc ((((s17.u_de (moveM s17.r.de 1)).r.bc) - 1) % 65536)).f)) = true := by simpa using h43
       exact have hr := hr.trans (zif_neg (fun h => g43 h.2)); coSkip <| eoV (OutY.ok (dZ hr) hn)
     have g41 : ¬ 5 < y := by simpa using h41
     exact tell 244 h41 <| zE hn <| coF <| have hr := hr.trans (zif_neg (fun h => g41 h.1)); coSkip <| eoV (OutY.ok (dZ hr) hn)
   refine zQ hn <| zIf hr (fun g54 hr => ?_) fun g54 hr => ?_
   · refine have b56 := hn.at_.ms.r.hl; coR <| zR 6 hn <| zX (w_read s.r.hl (b56) hn.at_) hn hr <| fun v57 s57 z57 w57 hk57 hn hr => zE hn <| coR <| zR 1 hn <| zY (w_states 5 hn.at_) hn hr <| fun s59 z59 w59 hn hr => wT <| have b61 := hn.at_.ms.r.wz; coR <| zR 7 hn <| kE (wrmove_any s59.r.wz 1 (b61) _) <| zEs hn (.u_wz _ (moveM s59.r.wz 1)) (hn.at_.ms.u_wz (Wd16.mod _)) <| fun w63 hn => have b65 := hn.at_.ms.r.bc; zQs hn ((s59.u_wz (moveM s59.r.wz 1)).u_bc ((((s59.u_wz (moveM s59.r.wz 1)).r.bc) - 1) % 65536)) (hn.at_.ms.u_bc (Wd16.mod _)) <| fun w66 hn => zP 11 hn <| fun w68 hn => have b69 := hn.at_.ms.r.bc; have b70 := aW_byte hn.at_.ms; zD [0, 2, 3, 4, 5, 6, 7, 8] hn <| zDa 1 (w_a hn.at_) hn <| fun w71 hn => have b72 := fW_byte hn.at_.ms; zDa 9 (w_f hn.at_) hn <| fun w73 hn => zDb 10 (rfind_any (((s59.u_wz (moveM s59.r.wz 1)).u_bc ((((s59.u_wz (moveM s59.r.wz 1)).r.bc) - 1) % 65536)).a) v57 (((s59.u_wz (moveM s59.r.wz 1)).u_bc ((((s59.u_wz (moveM s59.r.wz 1)).r.bc) - 1) % 65536)).r.bc) (((s59.u_wz (moveM s59.r.wz 1)).u_bc ((((s59.u_wz (moveM s59.r.wz 1)).r.bc) - 1) % 65536)).f) (b70) (hk57) (b72) (b69).1 (b69).2 _) hn <| fun w74 hn => poE <| zE hn <| have b75 := hn.at_.ms.r.hl; coZ <| zR 7 hn <| kE (wrmove_any (((s59.u_wz (moveM s59.r.wz 1)).u_bc ((((s59.u_wz (moveM s59.r.wz 1)).r.bc) - 1) % 65536)).r.hl) 1 (b75) _) <| zFs hn (((s59.u_wz (moveM s59.r.wz 1)).u_bc ((((s59.u_wz (moveM s59.r.wz 1)).r.bc) - 1) % 65536)).u_hl (moveM (((s59.u_wz (moveM s59.r.wz 1)).u_bc ((((s59.u_wz (moveM s59.r.wz 1)).r.bc) - 1) % 65536)).r.hl) 1)) (hn.at_.ms.u_hl (Wd16.mod _)) <| fun w77 hn => eoB <| eoT <| have b79 := aW_byte hn.at_.ms; coR <| zR 2 hn <| zAA (w_a hn.at_) hn <| fun w80 hn => zR 1 hn <| zAA (w_put ((((s59.u_wz (moveM s59.r.wz 1)).u_bc ((((s59.u_wz (moveM s59.r.wz 1)).r.bc) - 1) % 65536)).u_hl (moveM (((s59.u_wz (moveM s59.r.wz 1)).u_bc ((((s59.u_wz (moveM s59.r.wz 1)).r.bc) - 1) % 65536)).r.hl) 1)).a) (b79) (findF (((s59.u_wz (moveM s59.r.wz 1)).u_bc ((((s59.u_wz (moveM s59.r.wz 1)).r.bc) - 1) % 65536)).a) v57 (((s59.u_wz (moveM s59.r.wz 1)).u_bc ((((s59.u_wz (moveM s59.r.wz 1)).r.bc) - 1) % 65536)).r.bc) (((s59.u_wz (moveM s59.r.wz 1)).u_bc ((((s59.u_wz (moveM s59.r.wz 1)).r.bc) - 1) % 65536)).f)) (findF_byte _ _ _ _) hn.at_) hn <| fun w81 hn => wT <| coR <| zR 3 hn ?_
     rcases Bool.eq_false_or_eq_true (decide (5 < y)) with h83 | h83
     · have g83 : 5 < y := by simpa using h83
       refine tell 244 h83 <| zR 2 hn <| zBB (ragain_any zA (findF (((s59.u_wz (moveM s59.r.wz 1)).u_bc ((((s59.u_wz (moveM s59.r.wz 1)).r.bc) - 1) % 65536)).a) v57 (((s59.u_wz (moveM s59.r.wz 1)).u_bc ((((s59.u_wz (moveM s59.r.wz 1)).r.bc) - 1) % 65536)).r.bc) (((s59.u_wz (moveM s59.r.wz 1)).u_bc ((((s59.u_wz (moveM s59.r.wz 1)).r.bc) - 1) % 65536)).f)) (findF_byte _ _ _ _) _) hn <| fun w84 hn => zE hn <| coI (againM zA (findF (((s59.u_wz (moveM s59.r.wz 1)).u_bc ((((s59.u_wz (moveM s59.r.wz 1)).r.bc) - 1) % 65536)).a) v57 (((s59.u_wz (moveM s59.r.wz 1)).u_bc ((((s59.u_wz (moveM s59.r.wz 1)).r.bc) - 1) % 65536)).r.bc) (((s59.u_wz (moveM s59.r.wz 1)).u_bc ((((s59.u_wz (moveM s59.r.wz 1)).r.bc) - 1) % 65536)).f))) (fun h85 => ?_) fun h85 => ?_
       · have g85 : againM zA (findF (((s59.u_wz (moveM s59.r.wz 1)).u_bc ((((s59.u_wz (moveM s59.r.wz 1)).r.bc) - 1) % 65536)).a) v57 (((s59.u_wz (moveM s59.r.wz 1)).u_bc ((((s59.u_wz (moveM s59.r.wz 1)).r.bc) - 1) % 65536)).r.bc) (((s59.u_wz (moveM s59.r.wz 1)).u_bc ((((s59.u_wz (moveM s59.r.wz 1)).r.bc) - 1) % 65536)).f)) = true := by simpa using h85
         exact have hr := hr.trans (zif_pos (⟨g83, g85⟩)); coR <| zR 1 hn <| zY (w_states 5 hn.at_) hn hr <| fun s87 z87 w87 hn hr => wT <| have b89 := hn.at_.ms.r.pc; zQs hn (.u_pc _ ((s87.r.pc - 2) % 65536)) (hn.at_.ms.u_pc (Wd16.mod _)) <| fun w90 hn => zQ hn <| coJ (decide (zA < 2)) (fun h92 => absurd h92 (by first | (simp; omega) | simp [*])) <| fun h92 => have hr := hr.trans (zif_pos (by simp [g85, g83, g54, g9, g4])); have b93 := hn.at_.ms.r.pc; coZ <| zFs hn ((s87.u_pc ((s87.r.pc - 2) % 65536)).u_wz ((((s87.u_pc ((s87.r.pc - 2) % 65536)).r.pc) + 1) % 65536)) (hn.at_.ms.u_wz (Wd16.mod _)) <| fun w94 hn => eoV (OutY.ok (dZ hr) hn)
       have g85 : ¬ againM zA (findF (((s59.u_wz (moveM s59.r.wz 1)).u_bc ((((s59.u_wz (moveM s59.r.wz 1)).r.bc) - 1) % 65536)).a) v57 (((s59.u_wz (moveM s59.r.wz 1)).u_bc ((((s59.u_wz (moveM s59.r.wz 1)).r.bc) - 1) % 65536)).r.bc) (((s59.u_wz (moveM s59.r.wz 1)).u_bc ((((s59.u_wz (moveM s59.r.wz 1)).r.bc) - 1) % 65536)).f)) = true := by simpa using h85
       exact have hr := hr.trans (zif_neg (fun h => g85 h.2)); coSkip <| eoV (OutY.ok (dZ hr) hn)
     have g83 : ¬ 5 < y := by simpa using h83
     exact tell 244 h83 <| zE hn <| coF <| have hr := hr.trans (zif_neg (fun h => g83 h.1)); coSkip <| eoV (OutY.ok (dZ hr) hn)
   refine zQ hn <| zIf hr (fun g96 hr => ?_) fun g96 hr => ?_
   · refine coR <| zR 1 hn <| zY (w_states 1 hn.at_) hn hr <| fun s98 z98 w98 hn hr => wT <| have b100 := hn.at_.ms.r.bc; coR <| zR 6 hn <| zX (w_cycle 4 s98.r.bc (b100) 0 (⟨by decide, by decide⟩) 4 hn.at_) hn hr <| fun v101 s101 z101 w101 hk101 hn hr => zE hn <| have b103 := hn.at_.ms.r.bc; coR <| zR 7 hn <| kE (wrmove_any s101.r.bc 1 (b103) _) <| zEs hn (.u_wz _ (moveM s101.r.bc 1)) (hn.at_.ms.u_wz (Wd16.mod _)) <| fun w105 hn => coR <| zR 1 hn <| zAA (w_less hn.at_) hn <| fun w107 hn => zE hn <| have b109 := hn.at_.ms.r.hl; coR <| zR 7 hn <| zY (w_write (((s101.u_wz (moveM s101.r.bc 1)).less).r.hl) (b109) v101 (hk101) hn.at_) hn hr <| fun s110 z110 w110 hn hr => wT <| have b112 := hn.at_.ms.r.hl; coR <| zR 7 hn <| kE (wrmove_any s110.r.hl 1 (b112) _) <| zEs hn (.u_hl _ (moveM s110.r.hl 1)) (hn.at_.ms.u_hl (Wd16.mod _)) <| fun w114 hn => have b115 := hn.at_.ms.r.bc; coZ <| zR 6 hn <| kE (rlo_any ((s110.u_hl (moveM s110.r.hl 1)).r.bc) (b115).1 (b115).2 _) <| zR 2 hn <| zBB (rtake_any v101 (((s110.u_hl (moveM s110.r.hl 1)).r.bc) % 256) ((s101.u_wz (moveM s101.r.bc 1)).left) 1 (hk101) ((b115).lo8) (B8.mod _) _) hn <| fun w117 hn => zF hn <| eoB <| eoT <| have b119 := aW_byte hn.at_.ms; coR <| zR 2 hn <| zAA (w_a hn.at_) hn <| fun w120 hn => zR 1 hn <| zAA (w_put ((s110.u_hl (moveM s110.r.hl 1)).a) (b119) (passF v101 (v101 + byC (((s110.u_hl (moveM s110.r.hl 1)).r.bc) % 256) 1) ((s101.u_wz (moveM s101.r.bc 1)).left)) (passF_byte _ _ _) hn.at_) hn <| fun w121 hn => wT <| coR <| zR 3 hn ?_
     rcases Bool.eq_false_or_eq_true (decide (5 < y)) with h123 | h123
     · have g123 : 5 < y := by simpa using h123
       refine tell 244 h123 <| zR 2 hn <| zBB (ragain_any zA (passF v101 (v101 + byC (((s110.u_hl (moveM s110.r.hl 1)).r.bc) % 256) 1) ((s101.u_wz (moveM s101.r.bc 1)).left)) (passF_byte _ _ _) _) hn <| fun w124 hn => zE hn <| coI (againM zA (passF v101 (v101 + byC (((s110.u_hl (moveM s110.r.hl 1)).r.bc) % 256) 1) ((s101.u_wz (moveM s101.r.bc 1)).left))) (fun h125 => ?_) fun h125 => ?_
       · have g125 : againM zA (passF v101 (v101 + byC (((s110.u_hl (moveM s110.r.hl 1)).r.bc) % 256) 1) ((s101.u_wz (moveM s101.r.bc 1)).left)) = true := by simpa using h125
         exact have hr := hr.trans (zif_pos (⟨g123, g125⟩)); coR <| zR 1 hn <| zY (w_states 5 hn.at_) hn hr <| fun s127 z127 w127 hn hr => wT <| have b129 := hn.at_.ms.r.pc; zQs hn (.u_pc _ ((s127.r.pc - 2) % 65536)) (hn.at_.ms.u_pc (Wd16.mod _)) <| fun w130 hn => zQ hn <| coK (decide (zA < 2)) (fun h132 => absurd h132 (by first | (simp; omega) | simp [*])) <| fun h132 => have hr := hr.trans (zif_neg (by simp [g125, g123, g96, g54, g9, g4])); coSkip <| eoV (OutY.ok (dZ hr) hn)
       have g125 : ¬ againM zA (passF v101 (v101 + byC (((s110.u_hl (moveM s110.r.hl 1)).r.bc) % 256) 1) ((s101.u_wz (moveM s101.r.bc 1)).left)) = true := by simpa using h125
       exact have hr := hr.trans (zif_neg (fun h => g125 h.2)); coSkip <| eoV (OutY.ok (dZ hr) hn)
     have g123 : ¬ 5 < y := by simpa using h123
     exact tell 244 h123 <| zE hn <| coF <| have hr := hr.trans (zif_neg (fun h => g123 h.1)); coSkip <| eoV (OutY.ok (dZ hr) hn)
   refine coR <| zR 1 hn <| zY (w_states 1 hn.at_) hn hr <| fun s134 z134 w134 hn hr => wT <| have b136 := hn.at_.ms.r.hl; coR <| zR 6 hn <| zX (w_read s134.r.hl (b136) hn.at_) hn hr <| fun v137 s137 z137 w137 hk137 hn hr => zE hn <| coR <| zR 1 hn <| zAA (w_less hn.at_) hn <| fun w139 hn => zE hn <| have b141 := hn.at_.ms.r.bc; coR <| zR 7 hn <| kE (wrmove_any s137.less.r.bc 1 (b141) _) <| zEs hn (.u_wz _ (moveM s137.less.r.bc 1)) (hn.at_.ms.u_wz (Wd16.mod _)) <| fun w143 hn => have b145 := hn.at_.ms.r.bc; coR <| zR 7 hn <| zX (w_cycle 5 ((s137.less.u_wz (moveM s137.less.r.bc 1)).r.bc) (b145) v137 (hk137) 4 hn.at_) hn hr <| fun v146 s146 z146 w146 hk146 hn hr => wT <| have b148 := hn.at_.ms.r.hl; coR <| zR 7 hn <| kE (wrmove_any s146.r.hl 1 (b148) _) <| zEs hn (.u_hl _ (moveM s146.r.hl 1)) (hn.at_.ms.u_hl (Wd16.mod _)) <| fun w150 hn => have b151 := hn.at_.ms.r.hl; coZ <| zR 6 hn <| kE (rlo_any ((s146.u_hl (moveM s146.r.hl 1)).r.hl) (b151).1 (b151).2 _) <| zR 1 hn <| zBB (rgive_any v137 (((s146.u_hl (moveM s146.r.hl 1)).r.hl) % 256) s137.left (hk137) ((b151).lo8) (B8.mod _) _) hn <| fun w153 hn => zF hn <| eoB <| eoT <| have b155 := aW_byte hn.at_.ms; coR <| zR 2 hn <| zAA (w_a hn.at_) hn <| fun w156 hn => zR 1 hn <| zAA (w_put ((s146.u_hl (moveM s146.r.hl 1)).a) (b155) (passF v137 (v137 + (((s146.u_hl (moveM s146.r.hl 1)).r.hl) % 256)) s137.left) (passF_byte _ _ _) hn.at_) hn <| fun w157 hn => wT <| coR <| zR 3 hn ?_
   rcases Bool.eq_false_or_eq_true (decide (5 < y)) with h159 | h159
   · have g159 : 5 < y := by simpa using h159
     refine tell 244 h159 <| zR 2 hn <| zBB (ragain_any zA (passF v137 (v137 + (((s146.u_hl (moveM s146.r.hl 1)).r.hl) % 256)) s137.left) (passF_byte _ _ _) _) hn <| fun w160 hn => zE hn <| coI (againM zA (passF v137 (v137 + (((s146.u_hl (moveM s146.r.hl 1)).r.hl) % 256)) s137.left)) (fun h161 => ?_) fun h161 => ?_
     · have g161 : againM zA (passF v137 (v137 + (((s146.u_hl (moveM s146.r.hl 1)).r.hl) % 256)) s137.left) = true := by simpa using h161
       refine have hr := hr.trans (zif_pos (⟨g159, g161⟩)); coR <| zR 1 hn <| zY (w_states 5 hn.at_) hn hr <| fun s163 z163 w163 hn hr => wT <| have b165 := hn.at_.ms.r.pc; zQs hn (.u_pc _ ((s163.r.pc - 2) % 65536)) (hn.at_.ms.u_pc (Wd16.mod _)) <| fun w166 hn => zQ hn <| zIf hr (fun g168 hr => ?_) fun g168 hr => ?_
       · exact have b169 := hn.at_.ms.r.pc; coZ <| zFs hn ((s163.u_pc ((s163.r.pc - 2) % 65536)).u_wz ((((s163.u_pc ((s163.r.pc - 2) % 65536)).r.pc) + 1) % 65536)) (hn.at_.ms.u_wz (Wd16.mod _)) <| fun w170 hn => eoV (OutY.ok (dZ hr) hn)
       exact coSkip <| eoV (OutY.ok (dZ hr) hn)
     have g161 : ¬ againM zA (passF v137 (v137 + (((s146.u_hl (moveM s146.r.hl 1)).r.hl) % 256)) s137.left) = true := by simpa using h161
     exact have hr := hr.trans (zif_neg (fun h => g161 h.2)); coSkip <| eoV (OutY.ok (dZ hr) hn)
   have g159 : ¬ 5 < y := by simpa using h159
   exact tell 244 h159 <| zE hn <| coF <| have hr := hr.trans (zif_neg (fun h => g159 h.1)); coSkip <| eoV (OutY.ok (dZ hr) hn)
 refine kBin 15 (egI _ _ _ _ _) (bRem2 ((hAy).1) g4) <| have hr := hr.trans (zif_pos g4); ?_
 first | have hr := pZ hr | have hr := qZ hr | have hr := pbZ hr | have hr := qbZ hr | skip
 refine zE hn <| coT ?_
 first | have hr := pZ hr | have hr := qZ hr | have hr := pbZ hr | have hr := qbZ hr | skip
 refine coZ <| zE hn <| zQ hn <| coS <| zQ hn <| coB <| zQ hn <| zIf hr (fun g175 hr => ?_) fun g175 hr => ?_
 · refine have b177 := hn.at_.ms.r.hl; coR <| zR 6 hn <| zX (w_read s.r.hl (b177) hn.at_) hn hr <| fun v178 s178 z178 w178 hk178 hn hr => zE hn <| have b180 := hn.at_.ms.r.de; coR <| zR 7 hn <| zY (w_write s178.r.de (b180) v178 (hk178) hn.at_) hn hr <| fun s181 z181 w181 hn hr => wT <| coR <| zR 1 hn <| zY (w_states 2 hn.at_) hn hr <| fun s183 z183 w183 hn hr => wT <| have b185 := hn.at_.ms.r.de; coR <| zR 7 hn <| kE (wrmove_any s183.r.de ((-1)) (b185) _) <| zEs hn (.u_de _ (moveM s183.r.de ((-1)))) (hn.at_.ms.u_de (Wd16.mod _)) <| fun w187 hn => have b189 := hn.at_.ms.r.bc; zQs hn ((s183.u_de (moveM s183.r.de ((-1)))).u_bc ((((s183.u_de (moveM s183.r.de ((-1)))).r.bc) - 1) % 65536)) (hn.at_.ms.u_bc (Wd16.mod _)) <| fun w190 hn => zP 11 hn <| fun w192 hn => have b193 := hn.at_.ms.r.bc; have b194 := aW_byte hn.at_.ms; zD [0, 2, 3, 4, 5, 6, 7, 8] hn <| zDa 1 (w_a hn.at_) hn <| fun w195 hn => have b196 := fW_byte hn.at_.ms; zDa 9 (w_f hn.at_) hn <| fun w197 hn => zDb 10 (rmove_any (((s183.u_de (moveM s183.r.de ((-1)))).u_bc ((((s183.u_de (moveM s183.r.de ((-1)))).r.bc) - 1) % 65536)).a) v178 (((s183.u_de (moveM s183.r.de ((-1)))).u_bc ((((s183.u_de (moveM s183.r.de ((-1)))).r.bc) - 1) % 65536)).r.bc) (((s183.u_de (moveM s183.r.de ((-1)))).u_bc ((((s183.u_de (moveM s183.r.de ((-1)))).r.bc) - 1) % 65536)).f) (b194) (hk178) (b196) (b193).1 (b193).2 _) hn <| fun w198 hn => poE <| zE hn <| have b199 := hn.at_.ms.r.hl; coZ <| zR 7 hn <| kE (wrmove_any (((s183.u_de (moveM s183.r.de ((-1)))).u_bc ((((s183.u_de (moveM s183.r.de ((-1)))).r.bc) - 1) % 65536)).r.hl) ((-1)) (b199) _) <| zFs hn (((s183.u_de (moveM s183.r.de ((-1)))).u_bc ((((s183.u_de (moveM s183.r.de ((-1)))).r.bc) - 1) % 65536)).u_hl (moveM (((s183.u_de (moveM s183.r.de ((-1)))).u_bc ((((s183.u_de (moveM s183.r.de ((-1)))).r.bc) - 1) % 65536)).r.hl) ((-1)))) (hn.at_.ms.u_hl (Wd16.mod _)) <| fun w201 hn => eoB <| eoT <| have b203 := aW_byte hn.at_.ms; coR <| zR 2 hn <| zAA (w_a hn.at_) hn <| fun w204 hn => zR 1 hn <| zAA (w_put ((((s183.u_de (moveM s183.r.de ((-1)))).u_bc ((((s183.u_de (moveM s183.r.de ((-1)))).r.bc) - 1) % 65536)).u_hl (moveM (((s183.u_de (moveM s183.r.de ((-1)))).u_bc ((((s183.u_de (moveM s183.r.de ((-1)))).r.bc) - 1) % 65536)).r.hl) ((-1)))).a) (b203) (moveF (((s183.u_de (moveM s183.r.de ((-1)))).u_bc ((((s183.u_de (moveM s183.r.de ((-1)))).r.bc) - 1) % 65536)).a) v178 (((s183.u_de (moveM s183.r.de ((-1)))).u_bc ((((s183.u_de (moveM s183.r.de ((-1)))).r.bc) - 1) % 65536)).r.bc) (((s183.u_de (moveM s183.r.de ((-1)))).u_bc ((((s183.u_de (moveM s183.r.de ((-1)))).r.bc) - 1) % 65536)).f)) (moveF_byte _ _ _ _) hn.at_) hn <| fun w205 hn => wT <| coR <| zR 3 hn ?_
   rcases Bool.eq_false_or_eq_true (decide (5 < y)) with h207 | h207
   · have g207 : 5 < y := by simpa using h207
     refine tell 244 h207 <| zR 2 hn <| zBB (ragain_any zA (moveF (((s183.u_de (moveM s183.r.de ((-1)))).u_bc ((((s183.u_de (moveM s183.r.de ((-1)))).r.bc) - 1) % 65536)).a) v178 (((s183.u_de (moveM s183.r.de ((-1)))).u_bc ((((s183.u_de (moveM s183.r.de ((-1)))).r.bc) - 1) % 65536)).r.bc) (((s183.u_de (moveM s183.r.de ((-1)))).u_bc ((((s183.u_de (moveM s183.r.de ((-1)))).r.bc) - 1) % 65536)).f)) (moveF_byte _ _ _ _) _) hn <| fun w208 hn => zE hn <| coI (againM zA (moveF (((s183.u_de (moveM s183.r.de ((-1)))).u_bc ((((s183.u_de (moveM s183.r.de ((-1)))).r.bc) - 1) % 65536)).a) v178 (((s183.u_de (moveM s183.r.de ((-1)))).u_bc ((((s183.u_de (moveM s183.r.de ((-1)))).r.bc) - 1) % 65536)).r.bc) (((s183.u_de (moveM s183.r.de ((-1)))).u_bc ((((s183.u_de (moveM s183.r.de ((-1)))).r.bc) - 1) % 65536)).f))) (fun h209 => ?_) fun h209 => ?_
     · have g209 : againM zA (moveF (((s183.u_de (moveM s183.r.de ((-1)))).u_bc ((((s183.u_de (moveM s183.r.de ((-1)))).r.bc) - 1) % 65536)).a) v178 (((s183.u_de (moveM s183.r.de ((-1)))).u_bc ((((s183.u_de (moveM s183.r.de ((-1)))).r.bc) - 1) % 65536)).r.bc) (((s183.u_de (moveM s183.r.de ((-1)))).u_bc ((((s183.u_de (moveM s183.r.de ((-1)))).r.bc) - 1) % 65536)).f)) = true := by simpa using h209
       exact have hr := hr.trans (zif_pos (⟨g207, g209⟩)); coR <| zR 1 hn <| zY (w_states 5 hn.at_) hn hr <| fun s211 z211 w211 hn hr => wT <| have b213 := hn.at_.ms.r.pc; zQs hn (.u_pc _ ((s211.r.pc - 2) % 65536)) (hn.at_.ms.u_pc (Wd16.mod _)) <| fun w214 hn => zQ hn <| coJ (decide (zA < 2)) (fun h216 => absurd h216 (by first | (simp; omega) | simp [*])) <| fun h216 => have hr := hr.trans (zif_pos (by simp [g209, g207, g175, g4])); have b217 := hn.at_.ms.r.pc; coZ <| zFs hn ((s211.u_pc ((s211.r.pc - 2) % 65536)).u_wz ((((s211.u_pc ((s211.r.pc - 2) % 65536)).r.pc) + 1) % 65536)) (hn.at_.ms.u_wz (Wd16.mod _)) <| fun w218 hn => eoV (OutY.ok (dZ hr) hn)
     have g209 : ¬ againM zA (moveF (((s183.u_de (moveM s183.r.de ((-1)))).u_bc ((((s183.u_de (moveM s183.r.de ((-1)))).r.bc) - 1) % 65536)).a) v178 (((s183.u_de (moveM s183.r.de ((-1)))).u_bc ((((s183.u_de (moveM s183.r.de ((-1)))).r.bc) - 1) % 65536)).r.bc) (((s183.u_de (moveM s183.r.de ((-1)))).u_bc ((((s183.u_de (moveM s183.r.de ((-1)))).r.bc) - 1) % 65536)).f)) = true := by simpa using h209
     exact have hr := hr.trans (zif_neg (fun h => g209 h.2)); coSkip <| eoV (OutY.ok (dZ hr) hn)
   have g207 : ¬ 5 < y := by simpa using h207
   exact tell 244 h207 <| zE hn <| coF <| have hr := hr.trans (zif_neg (fun h => g207 h.1)); coSkip <| eoV (OutY.ok (dZ hr) hn)
 refine zQ hn <| zIf hr (fun g220 hr => ?_) fun g220 hr => ?_
 · refine have b222 := hn.at_.ms.r.hl; coR <| zR 6 hn <| zX (w_read s.r.hl (b222) hn.at_) hn hr <| fun v223 s223 z223 w223 hk223 hn hr => zE hn <| coR <| zR 1 hn <| zY (w_states 5 hn.at_) hn hr <| fun s225 z225 w225 hn hr => wT <| have b227 := hn.at_.ms.r.wz; coR <| zR 7 hn <| kE (wrmove_any s225.r.wz ((-1)) (b227) _) <| zEs hn (.u_wz _ (moveM s225.r.wz ((-1)))) (hn.at_.ms.u_wz (Wd16.mod _)) <| fun w229 hn => have b231 := hn.at_.ms.r.bc; zQs hn ((s225.u_wz (moveM s225.r.wz ((-1)))).u_bc ((((s225.u_wz (moveM s225.r.wz ((-1)))).r.bc) - 1) % 65536)) (hn.at_.ms.u_bc (Wd16.mod _)) <| fun w232 hn => zP 11 hn <| fun w234 hn => have b235 := hn.at_.ms.r.bc; have b236 := aW_byte hn.at_.ms; zD [0, 2, 3, 4, 5, 6, 7, 8] hn <| zDa 1 (w_a hn.at_) hn <| fun w237 hn => have b238 := fW_byte hn.at_.ms; zDa 9 (w_f hn.at_) hn <| fun w239 hn => zDb 10 (rfind_any (((s225.u_wz (moveM s225.r.wz ((-1)))).u_bc ((((s225.u_wz (moveM s225.r.wz ((-1)))).r.bc) - 1) % 65536)).a) v223 (((s225.u_wz (moveM s225.r.wz ((-1)))).u_bc ((((s225.u_wz (moveM s225.r.wz ((-1)))).r.bc) - 1) % 65536)).r.bc) (((s225.u_wz (moveM s225.r.wz ((-1)))).u_bc ((((s225.u_wz (moveM s225.r.wz ((-1)))).r.bc) - 1) % 65536)).f) (b236) (hk223) (b238) (b235).1 (b235).2 _) hn <| fun w240 hn => poE <| zE hn <| have b241 := hn.at_.ms.r.hl; coZ <| zR 7 hn <| kE (wrmove_any (((s225.u_wz (moveM s225.r.wz ((-1)))).u_bc ((((s225.u_wz (moveM s225.r.wz ((-1)))).r.bc) - 1) % 65536)).r.hl) ((-1)) (b241) _) <| zFs hn (((s225.u_wz (moveM s225.r.wz ((-1)))).u_bc ((((s225.u_wz (moveM s225.r.wz ((-1)))).r.bc) - 1) % 65536)).u_hl (moveM (((s225.u_wz (moveM s225.r.wz ((-1)))).u_bc ((((s225.u_wz (moveM s225.r.wz ((-1)))).r.bc) - 1) % 65536)).r.hl) ((-1)))) (hn.at_.ms.u_hl (Wd16.mod _)) <| fun w243 hn => eoB <| eoT <| have b245 := aW_byte hn.at_.ms; coR <| zR 2 hn <| zAA (w_a hn.at_) hn <| fun w246 hn => zR 1 hn <| zAA (w_put ((((s225.u_wz (moveM s225.r.wz ((-1)))).u_bc ((((s225.u_wz (moveM s225.r.wz ((-1)))).r.bc) - 1) % 65536)).u_hl (moveM (((s225.u_wz (moveM s225.r.wz ((-1)))).u_bc ((((s225.u_wz (moveM s225.r.wz ((-1)))).r.bc) - 1) % 65536)).r.hl) ((-1)))).a) (b245) (findF (((s225.u_wz (moveM s225.r.wz ((-1)))).u_bc ((((s225.u_wz (moveM s225.r.wz ((-1)))).r.bc) - 1) % 65536)).a) v223 (((s225.u_wz (moveM s225.r.wz ((-1)))).u_bc ((((s225.u_wz (moveM s225.r.wz ((-1)))).r.bc) - 1) % 65536)).r.bc) (((s225.u_wz (moveM s225.r.wz ((-1)))).u_bc ((((s225.u_wz (moveM s225.r.wz ((-1)))).r.bc) - 1) % 65536)).f)) (findF_byte _ _ _ _) hn.at_) hn <| fun w247 hn => wT <| coR <| zR 3 hn ?_
   rcases Bool.eq_false_or_eq_true (decide (5 < y)) with h249 | h249
   · have g249 : 5 < y := by simpa using h249
     refine tell 244 h249 <| zR 2 hn <| zBB (ragain_any zA (findF (((s225.u_wz (moveM s225.r.wz ((-1)))).u_bc ((((s225.u_wz (moveM s225.r.wz ((-1)))).r.bc) - 1) % 65536)).a) v223 (((s225.u_wz (moveM s225.r.wz ((-1)))).u_bc ((((s225.u_wz (moveM s225.r.wz ((-1)))).r.bc) - 1) % 65536)).r.bc) (((s225.u_wz (moveM s225.r.wz ((-1)))).u_bc ((((s225.u_wz (moveM s225.r.wz ((-1)))).r.bc) - 1) % 65536)).f)) (findF_byte _ _ _ _) _) hn <| fun w250 hn => zE hn <| coI (againM zA (findF (((s225.u_wz (moveM s225.r.wz ((-1)))).u_bc ((((s225.u_wz (moveM s225.r.wz ((-1)))).r.bc) - 1) % 65536)).a) v223 (((s225.u_wz (moveM s225.r.wz ((-1)))).u_bc ((((s225.u_wz (moveM s225.r.wz ((-1)))).r.bc) - 1) % 65536)).r.bc) (((s225.u_wz (moveM s225.r.wz ((-1)))).u_bc ((((s225.u_wz (moveM s225.r.wz ((-1)))).r.bc) - 1) % 65536)).f))) (fun h251 => ?_) fun h251 => ?_
     · have g251 : againM zA (findF (((s225.u_wz (moveM s225.r.wz ((-1)))).u_bc ((((s225.u_wz (moveM s225.r.wz ((-1)))).r.bc) - 1) % 65536)).a) v223 (((s225.u_wz (moveM s225.r.wz ((-1)))).u_bc ((((s225.u_wz (moveM s225.r.wz ((-1)))).r.bc) - 1) % 65536)).r.bc) (((s225.u_wz (moveM s225.r.wz ((-1)))).u_bc ((((s225.u_wz (moveM s225.r.wz ((-1)))).r.bc) - 1) % 65536)).f)) = true := by simpa using h251
       exact have hr := hr.trans (zif_pos (⟨g249, g251⟩)); coR <| zR 1 hn <| zY (w_states 5 hn.at_) hn hr <| fun s253 z253 w253 hn hr => wT <| have b255 := hn.at_.ms.r.pc; zQs hn (.u_pc _ ((s253.r.pc - 2) % 65536)) (hn.at_.ms.u_pc (Wd16.mod _)) <| fun w256 hn => zQ hn <| coJ (decide (zA < 2)) (fun h258 => absurd h258 (by first | (simp; omega) | simp [*])) <| fun h258 => have hr := hr.trans (zif_pos (by simp [g251, g249, g220, g175, g4])); have b259 := hn.at_.ms.r.pc; coZ <| zFs hn ((s253.u_pc ((s253.r.pc - 2) % 65536)).u_wz ((((s253.u_pc ((s253.r.pc - 2) % 65536)).r.pc) + 1) % 65536)) (hn.at_.ms.u_wz (Wd16.mod _)) <| fun w260 hn => eoV (OutY.ok (dZ hr) hn)
     have g251 : ¬ againM zA (findF (((s225.u_wz (moveM s225.r.wz ((-1)))).u_bc ((((s225.u_wz (moveM s225.r.wz ((-1)))).r.bc) - 1) % 65536)).a) v223 (((s225.u_wz (moveM s225.r.wz ((-1)))).u_bc ((((s225.u_wz (moveM s225.r.wz ((-1)))).r.bc) - 1) % 65536)).r.bc) (((s225.u_wz (moveM s225.r.wz ((-1)))).u_bc ((((s225.u_wz (moveM s225.r.wz ((-1)))).r.bc) - 1) % 65536)).f)) = true := by simpa using h251
     exact have hr := hr.trans (zif_neg (fun h => g251 h.2)); coSkip <| eoV (OutY.ok (dZ hr) hn)
   have g249 : ¬ 5 < y := by simpa using h249
   exact tell 244 h249 <| zE hn <| coF <| have hr := hr.trans (zif_neg (fun h => g249 h.1)); coSkip <| eoV (OutY.ok (dZ hr) hn)
 refine zQ hn <| zIf hr (fun g262 hr => ?_) fun g262 hr => ?_
 · refine coR <| zR 1 hn <| zY (w_states 1 hn.at_) hn hr <| fun s264 z264 w264 hn hr => wT <| have b266 := hn.at_.ms.r.bc; coR <| zR 6 hn <| zX (w_cycle 4 s264.r.bc (b266) 0 (⟨by decide, by decide⟩) 4 hn.at_) hn hr <| fun v267 s267 z267 w267 hk267 hn hr => zE hn <| have b269 := hn.at_.ms.r.bc; coR <| zR 7 hn <| kE (wrmove_any s267.r.bc ((-1)) (b269) _) <| zEs hn (.u_wz _ (moveM s267.r.bc ((-1)))) (hn.at_.ms.u_wz (Wd16.mod _)) <| fun w271 hn => coR <| zR 1 hn <| zAA (w_less hn.at_) hn <| fun w273 hn => zE hn <| have b275 := hn.at_.ms.r.hl; coR <| zR 7 hn <| zY (w_write (((s267.u_wz (moveM s267.r.bc ((-1)))).less).r.hl) (b275) v267 (hk267) hn.at_) hn hr <| fun s276 z276 w276 hn hr => wT <| have b278 := hn.at_.ms.r.hl; coR <| zR 7 hn <| kE (wrmove_any s276.r.hl ((-1)) (b278) _) <| zEs hn (.u_hl _ (moveM s276.r.hl ((-1)))) (hn.at_.ms.u_hl (Wd16.mod _)) <| fun w280 hn => have b281 := hn.at_.ms.r.bc; coZ <| zR 6 hn <| kE (rlo_any ((s276.u_hl (moveM s276.r.hl ((-1)))).r.bc) (b281).1 (b281).2 _) <| zR 2 hn <| zBB (rtake_any v267 (((s276.u_hl (moveM s276.r.hl ((-1)))).r.bc) % 256) ((s267.u_wz (moveM s267.r.bc ((-1)))).left) ((-1)) (hk267) ((b281).lo8) (B8.mod _) _) hn <| fun w283 hn => zF hn <| eoB <| eoT <| have b285 := aW_byte hn.at_.ms; coR <| zR 2 hn <| zAA (w_a hn.at_) hn <| fun w286 hn => zR 1 hn <| zAA (w_put ((s276.u_hl (moveM s276.r.hl ((-1)))).a) (b285) (passF v267 (v267 + byC (((s276.u_hl (moveM s276.r.hl ((-1)))).r.bc) % 256) ((-1))) ((s267.u_wz (moveM s267.r.bc ((-1)))).left)) (passF_byte _ _ _) hn.at_) hn <| fun w287 hn => wT <| coR <| zR 3 hn ?_
   rcases Bool.eq_false_or_eq_true (decide (5 < y)) with h289 | h289
   · have g289 : 5 < y := by simpa using h289
     refine tell 244 h289 <| zR 2 hn <| zBB (ragain_any zA (passF v267 (v267 + byC (((s276.u_hl (moveM s276.r.hl ((-1)))).r.bc) % 256) ((-1))) ((s267.u_wz (moveM s267.r.bc ((-1)))).left)) (passF_byte _ _ _) _) hn <| fun w290 hn => zE hn <| coI (againM zA (passF v267 (v267 + byC (((s276.u_hl (moveM s276.r.hl ((-1)))).r.bc) % 256) ((-1))) ((s267.u_wz (moveM s267.r.bc ((-1)))).left))) (fun h291 => ?_) fun h291 => ?_
     · have g291 : againM zA (passF v267 (v267 + byC (((s276.u_hl (moveM s276.r.hl ((-1)))).r.bc) % 256) ((-1))) ((s267.u_wz (moveM s267.r.bc ((-1)))).left)) = true := by simpa using h291
       exact have hr := hr.trans (zif_pos (⟨g289, g291⟩)); coR <| zR 1 hn <| zY (w_states 5 hn.at_) hn hr <| fun s293 z293 w293 hn hr => wT <| have b295 := hn.at_.ms.r.pc; zQs hn (.u_pc _ ((s293.r.pc - 2) % 65536)) (hn.at_.ms.u_pc (Wd16.mod _)) <| fun w296 hn => zQ hn <| coK (decide (zA < 2)) (fun h298 => absurd h298 (by first | (simp; omega) | simp [*])) <| fun h298 => have hr := hr.trans (zif_neg (by simp [g291, g289, g262, g220, g175, g4])); coSkip <| eoV (OutY.ok (dZ hr) hn)
     have g291 : ¬ againM zA (passF v267 (v267 + byC (((s276.u_hl (moveM s276.r.hl ((-1)))).r.bc) % 256) ((-1))) ((s267.u_wz (moveM s267.r.bc ((-1)))).left)) = true := by simpa using h291
     exact have hr := hr.trans (zif_neg (fun h => g291 h.2)); coSkip <| eoV (OutY.ok (dZ hr) hn)
   have g289 : ¬ 5 < y := by simpa using h289
   exact tell 244 h289 <| zE hn <| coF <| have hr := hr.trans (zif_neg (fun h => g289 h.1)); coSkip <| eoV (OutY.ok (dZ hr) hn)
 refine coR <| zR 1 hn <| zY (w_states 1 hn.at_) hn hr <| fun s300 z300 w300 hn hr => wT <| have b302 := hn.at_.ms.r.hl; coR <| zR 6 hn <| zX (w_read s300.r.hl (b302) hn.at_) hn hr <| fun v303 s303 z303 w303 hk303 hn hr => zE hn <| coR <| zR 1 hn <| zAA (w_less hn.at_) hn <| fun w305 hn => zE hn <| have b307 := hn.at_.ms.r.bc; coR <| zR 7 hn <| kE (wrmove_any s303.less.r.bc ((-1)) (b307) _) <| zEs hn (.u_wz _ (moveM s303.less.r.bc ((-1)))) (hn.at_.ms.u_wz (Wd16.mod _)) <| fun w309 hn => have b311 := hn.at_.ms.r.bc; coR <| zR 7 hn <| zX (w_cycle 5 ((s303.less.u_wz (moveM s303.less.r.bc ((-1)))).r.bc) (b311) v303 (hk303) 4 hn.at_) hn hr <| fun v312 s312 z312 w312 hk312 hn hr => wT <| have b314 := hn.at_.ms.r.hl; coR <| zR 7 hn <| kE (wrmove_any s312.r.hl ((-1)) (b314) _) <| zEs hn (.u_hl _ (moveM s312.r.hl ((-1)))) (hn.at_.ms.u_hl (Wd16.mod _)) <| fun w316 hn => have b317 := hn.at_.ms.r.hl; coZ <| zR 6 hn <| kE (rlo_any ((s312.u_hl (moveM s312.r.hl ((-1)))).r.hl) (b317).1 (b317).2 _) <| zR 1 hn <| zBB (rgive_any v303 (((s312.u_hl (moveM s312.r.hl ((-1)))).r.hl) % 256) s303.left (hk303) ((b317).lo8) (B8.mod _) _) hn <| fun w319 hn => zF hn <| eoB <| eoT <| have b321 := aW_byte hn.at_.ms; coR <| zR 2 hn <| zAA (w_a hn.at_) hn <| fun w322 hn => zR 1 hn <| zAA (w_put ((s312.u_hl (moveM s312.r.hl ((-1)))).a) (b321) (passF v303 (v303 + (((s312.u_hl (moveM s312.r.hl ((-1)))).r.hl) % 256)) s303.left) (passF_byte _ _ _) hn.at_) hn <| fun w323 hn => wT <| coR <| zR 3 hn ?_
 rcases Bool.eq_false_or_eq_true (decide (5 < y)) with h325 | h325
 · have g325 : 5 < y := by simpa using h325
   refine tell 244 h325 <| zR 2 hn <| zBB (ragain_any zA (passF v303 (v303 + (((s312.u_hl (moveM s312.r.hl ((-1)))).r.hl) % 256)) s303.left) (passF_byte _ _ _) _) hn <| fun w326 hn => zE hn <| coI (againM zA (passF v303 (v303 + (((s312.u_hl (moveM s312.r.hl ((-1)))).r.hl) % 256)) s303.left)) (fun h327 => ?_) fun h327 => ?_
   · have g327 : againM zA (passF v303 (v303 + (((s312.u_hl (moveM s312.r.hl ((-1)))).r.hl) % 256)) s303.left) = true := by simpa using h327
     refine have hr := hr.trans (zif_pos (⟨g325, g327⟩)); coR <| zR 1 hn <| zY (w_states 5 hn.at_) hn hr <| fun s329 z329 w329 hn hr => wT <| have b331 := hn.at_.ms.r.pc; zQs hn (.u_pc _ ((s329.r.pc - 2) % 65536)) (hn.at_.ms.u_pc (Wd16.mod _)) <| fun w332 hn => zQ hn <| zIf hr (fun g334 hr => ?_) fun g334 hr => ?_
     · exact have b335 := hn.at_.ms.r.pc; coZ <| zFs hn ((s329.u_pc ((s329.r.pc - 2) % 65536)).u_wz ((((s329.u_pc ((s329.r.pc - 2) % 65536)).r.pc) + 1) % 65536)) (hn.at_.ms.u_wz (Wd16.mod _)) <| fun w336 hn => eoV (OutY.ok (dZ hr) hn)
     exact coSkip <| eoV (OutY.ok (dZ hr) hn)
   have g327 : ¬ againM zA (passF v303 (v303 + (((s312.u_hl (moveM s312.r.hl ((-1)))).r.hl) % 256)) s303.left) = true := by simpa using h327
   exact have hr := hr.trans (zif_neg (fun h => g327 h.2)); coSkip <| eoV (OutY.ok (dZ hr) hn)
 have g325 : ¬ 5 < y := by simpa using h325
 exact tell 244 h325 <| zE hn <| coF <| have hr := hr.trans (zif_neg (fun h => g325 h.1)); coSkip <| eoV (OutY.ok (dZ hr) hn)
theorem w_ed (c : Int) (hAc : B8 c) {s : Ws} {xs : List Int} {z : Zs} {w : World} {p B : Nat} (h : AtW w p B s xs z) :
    Calls Tryz.prog 48 #[pT p 0, .int .u8 (c)] w (OutY w p B xs ((edW c s).runZ xs z)) := by
 have hn := NowW.begin h
 have hr : (edW c s).runZ xs z = (edW c s).runZ xs z := rfl
 go_enter Tryz.func48, Tryz.ntmps48
 refine wp_seq_k fun K1 hK1 => regionL <| oM 14 (.int .u8 (c)) <| oC (.tuple #[.int .i64 (fx c), .int .i64 (fy c), .int .i64 (fz c), .int .i64 (fp c), .int .i64 (fq c)]) (rfields_any c (hAc) _) ?_
 rintro _ rfl
 refine oM 13 (.tuple #[.int .i64 (fx c), .int .i64 (fy c), .int .i64 (fz c), .int .i64 (fp c), .int .i64 (fq c)]) <| oX 16 #[.int .i64 (fx c), .int .i64 (fy c), .int .i64 (fz c), .int .i64 (fp c), .int .i64 (fq c)] (.int .i64 (fx c)) <| oX 17 #[.int .i64 (fx c), .int .i64 (fy c), .int .i64 (fz c), .int .i64 (fp c), .int .i64 (fq c)] (.int .i64 (fy c)) <| oX 18 #[.int .i64 (fx c), .int .i64 (fy c), .int .i64 (fz c), .int .i64 (fp c), .int .i64 (fq c)] (.int .i64 (fz c)) <| oX 19 #[.int .i64 (fx c), .int .i64 (fy c), .int .i64 (fz c), .int .i64 (fp c), .int .i64 (fq c)] (.int .i64 (fp c)) <| oX 20 #[.int .i64 (fx c), .int .i64 (fy c), .int .i64 (fz c), .int .i64 (fp c), .int .i64 (fq c)] (.int .i64 (fq c)) <| oA 4 (.int .i64 (fx c)) <| oA 5 (.int .i64 (fy c)) <| oA 6 (.int .i64 (fz c)) <| oA 7 (.int .i64 (fp c)) <| oA 8 (.int .i64 (fq c)) ?_
 refine endL ?_
 try simp only [Act.put, sA, sB, sC]
 refine thenN <| hK1 _ _ <| wp_seq_k fun K3 hK3 => wp_seq_k fun K4 hK4 => regionL <| oM 21 (.int .i64 (fx c)) <| oB 22 (egI _ _ _ _ _) (bEqI (fx c) 2) <| oM 23 (.bool ((fx c) == 2)) ?_
 rcases Bool.eq_false_or_eq_true ((fx c) == 2) with h5 | h5
 · have g5 : (fx c) = 2 := by simpa using h5
   rewrite [h5]
   refine oY 24 (.int .i64 (fz c)) <| oT 25 (.bool (decide ((fz c) < 4))) (heBin (V := .int .i64 (fz c)) (W := .int .i64 (4)) (R := .bool (decide ((fz c) < 4))) rfl (by kernel_rfl) (by kernel_rfl) (egI _ _ _ _ _) (bLtI (fz c) 4) _) <| oP 26 (.bool (decide ((fz c) < 4))) true <| oM 27 (.bool (decide ((fz c) < 4))) ?_
   rcases Bool.eq_false_or_eq_true (decide ((fz c) < 4)) with h6 | h6
   · have g6 : (fz c) < 4 := by simpa using h6
     rewrite [h6]
     refine oY 28 (.int .i64 (fy c)) <| oT 29 (.bool (decide (3 < (fy c)))) (heBin (V := .int .i64 (fy c)) (W := .int .i64 (3)) (R := .bool (decide (3 < (fy c)))) rfl (by kernel_rfl) (by kernel_rfl) (egI _ _ _ _ _) (bGtI (fy c) 3) _) <| oP 30 (.bool (decide (3 < (fy c)))) true ?_
     refine endL ?_
     try simp only [Act.put, sA, sB, sC]
     refine thenN <| hK4 _ _ ?_
     refine wp_cond_split (t := decide (3 < (fy c))) (by kernel_rfl) (fun h7 => ?_) (fun h7 => ?_)
     · have g7 : 3 < (fy c) := by simpa using h7
       have hr := hr.trans (zif_pos (by simp [g7, g6, g5]))
       refine coStart <| coZ <| zR 3 hn <| zYt (w_block (fy c) (fy_b c (hAc)) (fz c) hn.at_) hn hr <| fun s8 z8 w8 hn hr => woE <| eoTk hK3 <| coS <| zQ hn <| coJ ((fx c) != 1) (fun h11 => absurd h11 (by first | (simp; omega) | simp [*])) <| fun h11 => ?_
       first | have hr := pZ hr | have hr := qZ hr | have hr := pbZ hr | have hr := qbZ hr | skip
       exact coRet <| eoTr <| eoVr (OutY.ok hr hn)
     · have g7 : ¬ 3 < (fy c) := by simpa using h7
       have hr := hr.trans (zif_neg (by simp [g7, g6, g5]))
       exact coStart <| coSkip <| eoTk hK3 <| coS <| zQ hn <| coJ ((fx c) != 1) (fun h14 => absurd h14 (by first | (simp; omega) | simp [*])) <| fun h14 => have hr := hr.trans (zif_pos (by simp [g7, g6, g5])); coRet <| eoTr <| eoVr (OutY.ok (dZ hr) hn)
   · have g6 : ¬ (fz c) < 4 := by simpa using h6
     rewrite [h6]
     refine oZ 28 <| oZ 29 <| oP 30 (.bool (false)) false ?_
     refine endL ?_
     try simp only [Act.put, sA, sB, sC]
     refine thenN <| hK4 _ _ ?_
     refine wp_cond_false (by kernel_rfl) ?_
     have hr := hr.trans (zif_neg (by simp [g6, g5]))
     refine wp_skip ?_
     refine thenN <| hK3 _ _ <| wp_seq_k fun K15 hK15 => wp_seq_k fun K16 hK16 => regionL <| oM 35 (.int .i64 (fx c)) <| oB 36 (egI _ _ _ _ _) (bNeI (fx c) 1) ?_
     refine endL ?_
     try simp only [Act.put, sA, sB, sC]
     refine thenN <| hK16 _ _ ?_
     refine wp_cond_split (t := (fx c) != 1) (by kernel_rfl) (fun h17 => ?_) (fun h17 => ?_)
     rotate_left
     · exact coStart <| absurd h17 (by first | (simp; omega) | simp [*])
     have hr := hr.trans (zif_pos (by simp [g6, g5]))
     refine wp_ret ?_
     refine thenR ?_
     refine retV rfl rfl ?_
     exact OutY.ok (hr.trans (doneZ _ _ _)) hn
 · have g5 : ¬ (fx c) = 2 := by simpa using h5
   rewrite [h5]
   refine oZ 24 <| oZ 25 <| oP 26 (.bool (false)) false <| oM 27 (.bool (false)) <| oZ 28 <| oZ 29 <| oP 30 (.bool (false)) false ?_
   refine endL ?_
   try simp only [Act.put, sA, sB, sC]
   refine thenN <| hK4 _ _ ?_
   refine wp_cond_false (by kernel_rfl) ?_
   have hr := hr.trans (zif_neg (fun h => g5 h.1))
   refine wp_skip ?_
   refine thenN <| hK3 _ _ <| wp_seq_k fun K18 hK18 => wp_seq_k fun K19 hK19 => regionL <| oM 35 (.int .i64 (fx c)) <| oB 36 (egI _ _ _ _ _) (bNeI (fx c) 1) ?_
   refine endL ?_
   try simp only [Act.put, sA, sB, sC]
   refine thenN <| hK19 _ _ ?_
   refine wp_cond_split (t := (fx c) != 1) (by kernel_rfl) (fun h20 => ?_) (fun h20 => ?_)
   · have g20 : ¬ (fx c) = 1 := by simpa using h20
     have hr := hr.trans (zif_pos g20)
     exact coStart <| coRet <| eoTr <| eoVr (OutY.ok (dZ hr) hn)
   · have g20 : (fx c) = 1 := by simpa using h20
     have hr := hr.trans (zif_neg (by simp [g20, g5]))
     refine wp_skip ?_
     refine thenN <| hK18 _ _ <| wp_seq_k fun K21 hK21 => regionL <| oM 37 (.int .i64 (fz c)) ?_
     refine endL ?_
     try simp only [Act.put, sA, sB, sC]
     refine thenN <| hK21 _ _ ?_
     refine wp_block ?_
     refine wp_seq_k fun K22 hK22 => regionL <| oB 42 (egI _ _ _ _ _) (bEqI (fz c) 0) <| oA 41 (.bool ((fz c) == 0)) ?_
     refine endL ?_
     try simp only [Act.put, sA, sB, sC]
     refine thenN <| hK22 _ _ ?_
     refine wp_cond_split (t := (fz c) == 0) (by kernel_rfl) (fun h23 => ?_) (fun h23 => ?_)
     · have g23 : (fz c) = 0 := by simpa using h23
       have hr := hr.trans (zif_pos g23)
       refine coStart <| have b25 := hn.at_.ms.r.bc; coR <| zR 6 hn <| zX (w_cycle 4 s.r.bc (b25) 0 (⟨by decide, by decide⟩) 4 hn.at_) hn hr <| fun v26 s26 z26 w26 hk26 hn hr => zE hn <| have b28 := hn.at_.ms.r.bc; zQs hn (.u_wz _ ((s26.r.bc + 1) % 65536)) (hn.at_.ms.u_wz (Wd16.mod _)) <| fun w29 hn => have b31 := aW_byte hn.at_.ms; coR <| zR 2 hn <| zAA (w_a hn.at_) hn <| fun w32 hn => zR 1 hn <| zBB (revenF_any v26 (hk26).1 (hk26).2 _) hn <| fun w33 hn => zR 1 hn <| zAA (w_carry hn.at_) hn <| fun w34 hn => kE (rwith_any (evenFM v26) 0 (isM (s26.u_wz ((s26.r.bc + 1) % 65536)).f 0) (evenFM_byte _).1 (evenFM_byte _).2 _) <| zAA (w_put ((s26.u_wz ((s26.r.bc + 1) % 65536)).a) (b31) (withM (evenFM v26) 0 (isM (s26.u_wz ((s26.r.bc + 1) % 65536)).f 0)) (B8.with (evenFM_byte _) _ _) hn.at_) hn <| fun w36 hn => wT <| zQ hn <| coI ((fy c) != 6) (fun h38 => ?_) fun h38 => ?_
       · have g38 : ¬ (fy c) = 6 := by simpa using h38
         exact have hr := hr.trans (zif_neg g38); coZ <| zR 3 hn <| zYt (w_set (fy c) v26 (hk26) hn.at_) hn hr <| fun s39 z39 w39 hn hr => woE <| eoB <| eoV (OutY.ok hr hn)
       have g38 : (fy c) = 6 := by simpa using h38
       exact have hr := hr.trans (zif_pos g38); coSkip <| eoB <| eoV (OutY.ok (dZ hr) hn)
     · have g23 : ¬ (fz c) = 0 := by simpa using h23
       have hr := hr.trans (zif_neg g23)
       refine wp_seq_k fun K40 hK40 => regionL <| oB 76 (egI _ _ _ _ _) (bEqI (fz c) 1) <| oA 75 (.bool ((fz c) == 1)) ?_
       refine endL ?_
       try simp only [Act.put, sA, sB, sC]
       refine thenN <| hK40 _ _ ?_
       refine wp_cond_split (t := (fz c) == 1) (by kernel_rfl) (fun h41 => ?_) (fun h41 => ?_)
       · have g41 : (fz c) = 1 := by simpa using h41
         have hr := hr.trans (zif_pos g41)
         refine coStart <| zQ hn <| coS <| zQ hn <| coI ((fy c) != 6) (fun h45 => ?_) fun h45 => ?_
         · have g45 : ¬ (fy c) = 6 := by simpa using h45
           exact have hr := hr.trans (zif_neg g45); coZ <| zR 2 hn <| zX (w_get (fy c) hn.at_) hn hr <| fun v46 s46 z46 w46 hk46 hn hr => zE hn <| have b48 := hn.at_.ms.r.bc; coR <| zR 7 hn <| zX (w_cycle 5 s46.r.bc (b48) v46 (hk46) 4 hn.at_) hn hr <| fun v49 s49 z49 w49 hk49 hn hr => wT <| have b50 := hn.at_.ms.r.bc; coZ <| zFs hn (.u_wz _ ((s49.r.bc + 1) % 65536)) (hn.at_.ms.u_wz (Wd16.mod _)) <| fun w51 hn => eoB <| eoV (OutY.ok (dZ hr) hn)
         have g45 : (fy c) = 6 := by simpa using h45
         exact have hr := hr.trans (zif_pos g45); coSkip <| eoT <| have b53 := hn.at_.ms.r.bc; coR <| zR 7 hn <| zX (w_cycle 5 s.r.bc (b53) 0 (⟨by decide, by decide⟩) 4 hn.at_) hn hr <| fun v54 s54 z54 w54 hk54 hn hr => wT <| have b55 := hn.at_.ms.r.bc; coZ <| zFs hn (.u_wz _ ((s54.r.bc + 1) % 65536)) (hn.at_.ms.u_wz (Wd16.mod _)) <| fun w56 hn => eoB <| eoV (OutY.ok (dZ hr) hn)
       · have g41 : ¬ (fz c) = 1 := by simpa using h41
         have hr := hr.trans (zif_neg g41)
         refine wp_seq_k fun K57 hK57 => regionL <| oB 101 (egI _ _ _ _ _) (bEqI (fz c) 2) <| oA 100 (.bool ((fz c) == 2)) ?_
         refine endL ?_
         try simp only [Act.put, sA, sB, sC]
         refine thenN <| hK57 _ _ ?_
         refine wp_cond_split (t := (fz c) == 2) (by kernel_rfl) (fun h58 => ?_) (fun h58 => ?_)
         · have g58 : (fz c) = 2 := by simpa using h58
           have hr := hr.trans (zif_pos g58)
           refine coStart <| coR <| zR 1 hn <| zY (w_states 7 hn.at_) hn hr <| fun s60 z60 w60 hn hr => wT <| have b62 := hn.at_.ms.r.hl; zQs hn (.u_wz _ ((s60.r.hl + 1) % 65536)) (hn.at_.ms.u_wz (Wd16.mod _)) <| fun w63 hn => zP 18 hn <| fun w65 hn => have b66 := hn.at_.ms.r.hl; have b67 := hn.at_.ms.r; zD [0, 1, 2, 3, 4, 5, 6, 7, 8, 9, 11] hn <| zDb 10 (rpair_any ((s60.u_wz ((s60.r.hl + 1) % 65536)).r) 0 (fp c) _) hn <| fun w68 hn => have b69 := fW_byte hn.at_.ms; zDa 12 (w_f hn.at_) hn <| fun w70 hn => zDb 13 (rwsbc_any ((s60.u_wz ((s60.r.hl + 1) % 65536)).r.hl) (pairG ((s60.u_wz ((s60.r.hl + 1) % 65536)).r) 0 (fp c)) ((s60.u_wz ((s60.r.hl + 1) % 65536)).f) (b66) ((b67).pair _ _) (b69) _) hn <| fun w71 hn => zD [14, 15, 16, 17] hn <| poE <| zE hn <| coS <| zQ hn <| zIf hr (fun g74 hr => ?_) fun g74 hr => ?_
           · exact zPz 18 hn <| fun w75 hn => have b76 := hn.at_.ms.r.hl; have b77 := hn.at_.ms.r; zD [0, 1, 2, 3, 4, 5, 6, 7, 8, 9, 11] hn <| zDb 10 (rpair_any ((s60.u_wz ((s60.r.hl + 1) % 65536)).r) 0 (fp c) _) hn <| fun w78 hn => have b79 := fW_byte hn.at_.ms; zDa 12 (w_f hn.at_) hn <| fun w80 hn => zDb 13 (rwadc_any ((s60.u_wz ((s60.r.hl + 1) % 65536)).r.hl) (pairG ((s60.u_wz ((s60.r.hl + 1) % 65536)).r) 0 (fp c)) ((s60.u_wz ((s60.r.hl + 1) % 65536)).f) (b76) ((b77).pair _ _) (b79) _) hn <| fun w81 hn => zD [14, 15, 16, 17] hn <| poE <| zE hn <| zQs hn ((s60.u_wz ((s60.r.hl + 1) % 65536)).u_hl (adcW ((s60.u_wz ((s60.r.hl + 1) % 65536)).r.hl) (pairG ((s60.u_wz ((s60.r.hl + 1) % 65536)).r) 0 (fp c)) (isM ((s60.u_wz ((s60.r.hl + 1) % 65536)).f) 0))) (hn.at_.ms.u_hl (Wd16.mod _)) <| fun w83 hn => have b84 := aW_byte hn.at_.ms; coZ <| zR 2 hn <| zAA (w_a hn.at_) hn <| fun w85 hn => zR 1 hn <| zAA (w_put (((s60.u_wz ((s60.r.hl + 1) % 65536)).u_hl (adcW ((s60.u_wz ((s60.r.hl + 1) % 65536)).r.hl) (pairG ((s60.u_wz ((s60.r.hl + 1) % 65536)).r) 0 (fp c)) (isM ((s60.u_wz ((s60.r.hl + 1) % 65536)).f) 0))).a) (b84) (adcF ((s60.u_wz ((s60.r.hl + 1) % 65536)).r.hl) (pairG ((s60.u_wz ((s60.r.hl + 1) % 65536)).r) 0 (fp c)) (isM ((s60.u_wz ((s60.r.hl + 1) % 65536)).f) 0)) (adcF_byte _ _ _) hn.at_) hn <| fun w86 hn => woE <| eoB <| eoV (OutY.ok (dZ hr) hn)
           exact coSkip <| eoT <| zQs hn ((s60.u_wz ((s60.r.hl + 1) % 65536)).u_hl (sbcW ((s60.u_wz ((s60.r.hl + 1) % 65536)).r.hl) (pairG ((s60.u_wz ((s60.r.hl + 1) % 65536)).r) 0 (fp c)) (isM ((s60.u_wz ((s60.r.hl + 1) % 65536)).f) 0))) (hn.at_.ms.u_hl (Wd16.mod _)) <| fun w88 hn => have b89 := aW_byte hn.at_.ms; coZ <| zR 2 hn <| zAA (w_a hn.at_) hn <| fun w90 hn => zR 1 hn <| zAA (w_put (((s60.u_wz ((s60.r.hl + 1) % 65536)).u_hl (sbcW ((s60.u_wz ((s60.r.hl + 1) % 65536)).r.hl) (pairG ((s60.u_wz ((s60.r.hl + 1) % 65536)).r) 0 (fp c)) (isM ((s60.u_wz ((s60.r.hl + 1) % 65536)).f) 0))).a) (b89) (sbcF ((s60.u_wz ((s60.r.hl + 1) % 65536)).r.hl) (pairG ((s60.u_wz ((s60.r.hl + 1) % 65536)).r) 0 (fp c)) (isM ((s60.u_wz ((s60.r.hl + 1) % 65536)).f) 0)) (sbcF_byte _ _ _) hn.at_) hn <| fun w91 hn => woE <| eoB <| eoV (OutY.ok (dZ hr) hn)
         · have g58 : ¬ (fz c) = 2 := by simpa using h58
           have hr := hr.trans (zif_neg g58)
           refine wp_seq_k fun K92 hK92 => regionL <| oB 161 (egI _ _ _ _ _) (bEqI (fz c) 3) <| oA 160 (.bool ((fz c) == 3)) ?_
           refine endL ?_
           try simp only [Act.put, sA, sB, sC]
           refine thenN <| hK92 _ _ ?_
           refine wp_cond_split (t := (fz c) == 3) (by kernel_rfl) (fun h93 => ?_) (fun h93 => ?_)
           · have g93 : (fz c) = 3 := by simpa using h93
             have hr := hr.trans (zif_pos g93)
             exact coStart <| coZ <| zR 3 hn <| zYt (w_words (fp c) (fq c) hn.at_) hn hr <| fun s94 z94 w94 hn hr => woE <| eoB <| eoV (OutY.ok hr hn)
           · have g93 : ¬ (fz c) = 3 := by simpa using h93
             have hr := hr.trans (zif_neg g93)
             refine wp_seq_k fun K95 hK95 => regionL <| oB 167 (egI _ _ _ _ _) (bEqI (fz c) 4) <| oA 166 (.bool ((fz c) == 4)) ?_
             refine endL ?_
             try simp only [Act.put, sA, sB, sC]
             refine thenN <| hK95 _ _ ?_
             refine wp_cond_split (t := (fz c) == 4) (by kernel_rfl) (fun h96 => ?_) (fun h96 => ?_)
             · have g96 : (fz c) = 4 := by simpa using h96
               have hr := hr.trans (zif_pos g96)
               exact coStart <| have b97 := aW_byte hn.at_.ms; coZ <| zR 2 hn <| zAA (w_a hn.at_) hn <| fun w98 hn => zBB (rneg_any s.a (b97) _) hn <| fun w99 hn => zR 2 hn <| zAA (w_put (subR 0 s.a false) (subR_byte _ _ _) (subF 0 s.a false) (subF_byte _ _ _) hn.at_) hn <| fun w100 hn => woE <| eoB <| eoV (OutY.ok (dZ hr) hn)
             · have g96 : ¬ (fz c) = 4 := by simpa using h96
               have hr := hr.trans (zif_neg g96)
               refine wp_seq_k fun K101 hK101 => regionL <| oB 176 (egI _ _ _ _ _) (bEqI (fz c) 5) <| oA 175 (.bool ((fz c) == 5)) ?_
               refine endL ?_
               try simp only [Act.put, sA, sB, sC]
               refine thenN <| hK101 _ _ ?_
               refine wp_cond_split (t := (fz c) == 5) (by kernel_rfl) (fun h102 => ?_) (fun h102 => ?_)
               · have g102 : (fz c) = 5 := by simpa using h102
                 have hr := hr.trans (zif_pos g102)
                 exact coStart <| coR <| zR 1 hn <| zY (w_back hn.at_) hn hr <| fun s104 z104 w104 hn hr => wT <| coZ <| zFs hn (.u_iff1 _ (s104.r.iff2)) (hn.at_.ms.u_iff1) <| fun w105 hn => eoB <| eoV (OutY.ok (dZ hr) hn)
               · have g102 : ¬ (fz c) = 5 := by simpa using h102
                 have hr := hr.trans (zif_neg g102)
                 refine wp_seq_k fun K106 hK106 => regionL <| oB 189 (egI _ _ _ _ _) (bEqI (fz c) 6) <| oA 188 (.bool ((fz c) == 6)) ?_
                 refine endL ?_
                 try simp only [Act.put, sA, sB, sC]
                 refine thenN <| hK106 _ _ ?_
                 refine wp_cond_split (t := (fz c) == 6) (by kernel_rfl) (fun h107 => ?_) (fun h107 => ?_)
                 · have g107 : (fz c) = 6 := by simpa using h107
                   have hr := hr.trans (zif_pos g107)
                   refine regionL <| oM 190 (pT p 0) ?_
                   refine sQuad 191 hn rfl rfl rfl ?_
                   intro w108 M hM hn
                   refine oM 192 (.int .i64 (fy c)) ?_
                   rcases mod4 (fy c) with g109 | g109 | g109 | g109
                   · refine oB 193 (egI _ _ _ _ _) (bRem4 ((fy_b c (hAc)).1) g109) ?_
                     have hr := hr.trans (zif_neg (by simp [g109, g107, g102, g96, g93, g58, g41, g23, g20, g5]))
                     have hr := hr.trans (zif_neg (by simp [g109, g107, g102, g96, g93, g58, g41, g23, g20, g5]))
                     refine oI 194 (.slice (some ⟨M, 0, none⟩) 4 4) (.int .i64 (0)) (pT M 0) (idxQ_0 M _) <| oL 195 (ldI (hM.cell 0)) <| oN 196 p 0 <| oF 197 (fW0 p) <| oF 198 (fR19 p) ?_
                     refine sSetW hn 19 (.int .i64 (0)) (s.u_mode (0)) rfl rfl rfl (by kernel_rfl) (by kernel_rfl) (stI (hn.at_.cell 19 _ fun _ _ _ => rfl) (hn.at_.frozen 19)) (wu_mode _ _ _) (hn.at_.ms.u_mode (⟨by decide, by decide⟩)) ?_
                     intro w110 hn
                     refine endL ?_
                     try simp only [Act.put, sA, sB, sC]
                     refine blockN ?_
                     refine endV rfl rfl ?_
                     exact OutY.ok (hr.trans (doneZ _ _ _)) hn
                   · refine oB 193 (egI _ _ _ _ _) (bRem4 ((fy_b c (hAc)).1) g109) ?_
                     have hr := hr.trans (zif_neg (by simp [g109, g107, g102, g96, g93, g58, g41, g23, g20, g5]))
                     have hr := hr.trans (zif_neg (by simp [g109, g107, g102, g96, g93, g58, g41, g23, g20, g5]))
                     refine oI 194 (.slice (some ⟨M, 0, none⟩) 4 4) (.int .i64 (1)) (pT M 1) (idxQ_1 M _) <| oL 195 (ldI (hM.cell 1)) <| oN 196 p 0 <| oF 197 (fW0 p) <| oF 198 (fR19 p) ?_
                     refine sSetW hn 19 (.int .i64 (0)) (s.u_mode (0)) rfl rfl rfl (by kernel_rfl) (by kernel_rfl) (stI (hn.at_.cell 19 _ fun _ _ _ => rfl) (hn.at_.frozen 19)) (wu_mode _ _ _) (hn.at_.ms.u_mode (⟨by decide, by decide⟩)) ?_
                     intro w111 hn
                     refine endL ?_
                     try simp only [Act.put, sA, sB, sC]
                     refine blockN ?_
                     refine endV rfl rfl ?_
                     exact OutY.ok (hr.trans (doneZ _ _ _)) hn
                   · refine oB 193 (egI _ _ _ _ _) (bRem4 ((fy_b c (hAc)).1) g109) ?_
                     have hr := hr.trans (zif_pos g109)
                     first | (have hr := hr.trans (zif_pos (by first | exact g109 | exact g107 | exact g102 | exact .inl g109 | exact .inr g109 | exact fun h => g109 h.2 | exact fun h => g109 h.1 | exact ⟨g107, g109⟩ | exact not_or.2 ⟨g107, g109⟩ | (simp [g109, g107, g102, g96, g93, g58, g41, g23, g20, g5]; done) | omega))) | (have hr := hr.trans (zif_neg (by first | exact g109 | exact g107 | exact g102 | exact .inl g109 | exact .inr g109 | exact fun h => g109 h.2 | exact fun h => g109 h.1 | exact ⟨g107, g109⟩ | exact not_or.2 ⟨g107, g109⟩ | (simp [g109, g107, g102, g96, g93, g58, g41, g23, g20, g5]; done) | omega))) | (have hr := hr.trans (zbif_pos (by first | exact g109 | exact g107 | exact g102 | exact .inl g109 | exact .inr g109 | exact fun h => g109 h.2 | exact fun h => g109 h.1 | exact ⟨g107, g109⟩ | exact not_or.2 ⟨g107, g109⟩ | (simp [g109, g107, g102, g96, g93, g58, g41, g23, g20, g5]; done) | omega))) | (have hr := hr.trans (zbif_neg (by first | exact g109 | exact g107 | exact g102 | exact .inl g109 | exact .inr g109 | exact fun h => g109 h.2 | exact fun h => g109 h.1 | exact ⟨g107, g109⟩ | exact not_or.2 ⟨g107, g109⟩ | (simp [g109, g107, g102, g96, g93, g58, g41, g23, g20, g5]; done) | omega))) | skip
                     refine oI 194 (.slice (some ⟨M, 0, none⟩) 4 4) (.int .i64 (2)) (pT M 2) (idxQ_2 M _) <| oL 195 (ldI (hM.cell 2)) <| oN 196 p 0 <| oF 197 (fW0 p) <| oF 198 (fR19 p) ?_
                     refine sSetW hn 19 (.int .i64 (1)) (s.u_mode (1)) rfl rfl rfl (by kernel_rfl) (by kernel_rfl) (stI (hn.at_.cell 19 _ fun _ _ _ => rfl) (hn.at_.frozen 19)) (wu_mode _ _ _) (hn.at_.ms.u_mode (⟨by decide, by decide⟩)) ?_
                     intro w112 hn
                     refine endL ?_
                     try simp only [Act.put, sA, sB, sC]
                     refine blockN ?_
                     refine endV rfl rfl ?_
                     exact OutY.ok (hr.trans (doneZ _ _ _)) hn
                   · refine oB 193 (egI _ _ _ _ _) (bRem4 ((fy_b c (hAc)).1) g109) ?_
                     have hr := hr.trans (zif_neg (by simp [g109, g107, g102, g96, g93, g58, g41, g23, g20, g5]))
                     have hr := hr.trans (zif_pos g109)
                     refine oI 194 (.slice (some ⟨M, 0, none⟩) 4 4) (.int .i64 (3)) (pT M 3) (idxQ_3 M _) <| oL 195 (ldI (hM.cell 3)) <| oN 196 p 0 <| oF 197 (fW0 p) <| oF 198 (fR19 p) ?_
                     refine sSetW hn 19 (.int .i64 (2)) (s.u_mode (2)) rfl rfl rfl (by kernel_rfl) (by kernel_rfl) (stI (hn.at_.cell 19 _ fun _ _ _ => rfl) (hn.at_.frozen 19)) (wu_mode _ _ _) (hn.at_.ms.u_mode (⟨by decide, by decide⟩)) ?_
                     intro w113 hn
                     refine endL ?_
                     try simp only [Act.put, sA, sB, sC]
                     refine blockN ?_
                     refine endV rfl rfl ?_
                     exact OutY.ok (hr.trans (doneZ _ _ _)) hn
                 · have g107 : ¬ (fz c) = 6 := by simpa using h107
                   have hr := hr.trans (zif_neg g107)
                   exact coStart <| coZ <| zR 2 hn <| zYt (w_odd (fy c) (fy_b c (hAc)) hn.at_) hn hr <| fun s114 z114 w114 hn hr => woE <| eoB <| eoV (OutY.ok hr hn)
def firstE : List Int → Int → Int → Ws → Except Cy (Ws × List Int)
  | [], n, b, s => if b = 221 ∨ b = 253 then .error ⟨1, s.r.pc, 0, 4⟩ else (restW n b s).run []
  | x :: ys, n, b, s => if b = 221 ∨ b = 253 then firstE ys (if b = 253 then 4 else 3) x s.pcUp.tick else (restW n b s).run (x :: ys)
theorem first_rest {b : Int} (h : ¬ (b = 221 ∨ b = 253)) (n : Int) (s : Ws) (xs : List Int) : firstE xs n b s = (restW n b s).run xs := by
  cases xs with
  | nil => rw [firstE, if_neg h]
  | cons x ys => rw [firstE, if_neg h]
def Inv (R0 : Except Cy (Ws × List Int)) (xs : List Int) (n b : Int) (s : Ws) (z : Zs) : Prop :=
  (z.lacks = false ∧ R0 = firstE (xs.drop z.pos) n b s) ∨ (z.lacks = true ∧ R0 = .error z.asked)
theorem inv_step {R0 : Except Cy (Ws × List Int)} {xs : List Int} {n b m v : Int} {s t : Ws} {z z2 : Zs} (hI : Inv R0 xs n b s z) (hl : z.lacks = false) (hpre : b = 221 ∨ b = 253) (hm : m = if b = 253 then 4 else 3) (hp : z.pos ≤ xs.length)
    (hX : (fetchW s).runZ xs z = ((v, t), z2)) : Inv R0 xs m v t z2 := by
  subst hm
  have hR := (hI.resolve_right (by rw [hl]; simp)).2
  have e : (fetchW s) = .ask ⟨1, s.r.pc, 0, 4⟩ fun x => .done (x, s.pcUp.tick) := rfl
  rw [e] at hX
  simp only [Tr.runZ, hl, Bool.false_eq_true, if_false] at hX
  by_cases hle : xs.length ≤ z.pos
  · rw [if_pos hle] at hX
    cases hX
    refine .inr ⟨rfl, ?_⟩
    rw [hR, List.drop_eq_nil_of_le hle, firstE, if_pos hpre]
  · rw [if_neg hle] at hX
    cases hX
    refine .inl ⟨rfl, ?_⟩
    rw [hR, List.drop_eq_getElem_cons (by omega), firstE, if_pos hpre]
    have e2 : xs.getD z.pos 0 = xs[z.pos] := by rw [List.getD_eq_getElem?_getD, List.getElem?_eq_getElem (by omega)]; rfl
    rw [e2]
def muZ (xs : List Int) (z : Zs) : Nat := if z.lacks = true then 0 else xs.length - z.pos + 1
theorem mu_step {xs : List Int} {v : Int} {s t : Ws} {z z2 : Zs} (hl : z.lacks = false) (hX : (fetchW s).runZ xs z = ((v, t), z2)) : muZ xs z2 < muZ xs z := by
  have e : (fetchW s) = .ask ⟨1, s.r.pc, 0, 4⟩ fun x => .done (x, s.pcUp.tick) := rfl
  rw [e] at hX
  simp only [Tr.runZ, hl, Bool.false_eq_true, if_false] at hX
  by_cases hle : xs.length ≤ z.pos
  · rw [if_pos hle] at hX
    cases hX
    simp [muZ, hl]
  · rw [if_neg hle] at hX
    cases hX
    simp only [muZ, hl, Bool.false_eq_true, if_false]
    omega
def muW (p : Nat) (w : World) : Nat :=
  match w.cell? ⟨p, 20, none⟩, w.cell? ⟨p, 21, none⟩, w.cell? ⟨p, 22, none⟩ with
  | some (.slice _ n _), some (.int _ i), some (.bool l) => if l = true then 0 else n - i.toNat + 1
  | _, _, _ => 0
theorem AtW.mu {w : World} {p B : Nat} {s : Ws} {xs : List Int} {z : Zs} (h : AtW w p B s xs z) : muW p w = muZ xs z := by
  obtain ⟨A, cap, hc, hr, hb⟩ := h.row
  have e0 : w.cell? ⟨p, 20, none⟩ = some (.slice A xs.length cap) := hr.cell 20
  have e1 : w.cell? ⟨p, 21, none⟩ = some (.int .i64 (z.pos : Int)) := hr.cell 21
  have e2 : w.cell? ⟨p, 22, none⟩ = some (.bool z.lacks) := hr.cell 22
  unfold muW muZ
  rw [e0, e1, e2]
  simp
def OutE (w0 : World) (p B : Nat) (xs : List Int) (R : Except Cy (Ws × List Int)) : Ending → World → Prop := fun e w' =>
  e = .returned (.tuple #[]) ∧ ∃ s z, NowW w0 p B s xs z w' ∧ ((z.lacks = false ∧ ∃ ys, R = .ok (s, ys)) ∨ (z.lacks = true ∧ R = .error z.asked))
theorem OutE.rest {w0 w : World} {p B : Nat} {xs : List Int} {R : Except Cy (Ws × List Int)} {t : Tr Ws} {z z' : Zs} {s' : Ws} (hR : R = t.run (xs.drop z.pos)) (hl : z.lacks = false) (hp : z.pos ≤ xs.length) (hr : t.runZ xs z = (s', z')) (hn : NowW w0 p B s' xs z' w) : OutE w0 p B xs R (.returned (.tuple #[])) w := by
  have k := Tr.runZ_run xs t z hl hp
  rw [hr] at k
  refine ⟨rfl, s', z', hn, ?_⟩
  subst hR
  cases e : t.run (xs.drop z.pos) with
  | error c =>
    rw [e] at k
    exact .inr ⟨k.1, by rw [k.2]⟩
  | ok r =>
    obtain ⟨a, ys⟩ := r
    rw [e] at k
    have k1 : s' = a := k.1
    exact .inl ⟨k.2.1, ys, by rw [k1]⟩
theorem OutE.lacks {w0 w : World} {p B : Nat} {xs : List Int} {R : Except Cy (Ws × List Int)} {n b : Int} {s : Ws} {z : Zs} (hI : Inv R xs n b s z) (hl : z.lacks = true) (hn : NowW w0 p B s xs z w) : OutE w0 p B xs R (.returned (.tuple #[])) w :=
  ⟨rfl, s, z, hn, .inr ⟨hl, (hI.resolve_left (by rw [hl]; simp)).2⟩⟩
theorem w_first (c : Int) (hAc : B8 c) {s : Ws} {xs : List Int} {z : Zs} {w : World} {p B : Nat} (h : AtW w p B s xs z) {R0 : Except Cy (Ws × List Int)} (hI0 : Inv R0 xs 0 c s z) :
    Calls Tryz.prog 30 #[pT p 0, .int .u8 (c)] w (OutE w p B xs R0) := by
  have hn := NowW.begin h
  go_enter Tryz.func30, Tryz.ntmps30
  refine wp_seq_k fun K1 hK1 => regionL <| oA 4 (.int .i64 (0)) ?_
  refine endL ?_
  try simp only [Act.put, sA, sB, sC]
  refine thenN <| hK1 _ _ <| wp_seq_k fun K2 hK2 => ?_
  refine wp_block ?_
  refine wp_loop (fun a' w' => ∃ (b1 n1 : Int) (s1 : Ws) (z1 : Zs) (y9 y10 y11 y12 y13 y14 y15 y16 y17 y18 y19 y20 y21 y22 y23 y24 y25 : Value), a' = { tmps := #[pT p 0, .int .u8 b1, undef, undef, .int .i64 n1, undef, undef, undef, undef, y9, y10, y11, y12, y13, y14, y15, y16, y17, y18, y19, y20, y21, y22, y23, y24, y25, undef, undef, undef, undef, undef, undef, undef, undef, undef, undef, undef, undef, undef, undef, undef, undef, undef, undef, undef, undef, undef, undef, undef, undef, undef, undef, undef, undef, undef, undef, undef, undef, undef, undef, undef, undef, undef, undef, undef, undef, undef, undef, undef, undef, undef, undef, undef, undef, undef, undef, undef, undef, undef, undef, undef, undef, undef, undef, undef, undef, undef, undef, undef, undef, undef, undef, undef, undef, undef], defers := [] } ∧ NowW w p B s1 xs z1 w' ∧ B8 b1 ∧ Inv R0 xs n1 b1 s1 z1) (fun _ w' => muW p w') ⟨c, 0, s, z, undef, undef, undef, undef, undef, undef, undef, undef, undef, undef, undef, undef, undef, undef, undef, undef, undef, rfl, hn, hAc, hI0⟩ ?_
  rintro a1 w1 ⟨b1, n1, s1, z1, y9, y10, y11, y12, y13, y14, y15, y16, y17, y18, y19, y20, y21, y22, y23, y24, y25, rfl, hn, hb1, hI⟩
  have hm1 := hn.at_.mu
  have hp1 := hn.at_.pos
  refine wp_seq_k fun K3 hK3 => wp_seq_k fun K4 hK4 => regionL <| oM 9 (.int .u8 (b1)) <| oB 10 (eg8 _ _ _ _ _) (bEq8 b1 221) <| oM 11 (.bool (b1 == 221)) ?_
  rcases Bool.eq_false_or_eq_true (b1 == 221) with h5 | h5
  · skip
    have g5 : b1 = 221 := by simpa using h5
    rewrite [h5]
    refine oZ 12 <| oZ 13 <| oP 14 (.bool (true)) true <| oM 15 (.bool (true)) <| oY 16 (pT p 0) <| oT 17 (pT p 0) (heNil (ad := ⟨p, 0, none⟩) rfl (by kernel_rfl) _) <| oT 18 (pT p 22) (heField (V := pT p 0) (R := pT p 22) rfl (by kernel_rfl) (fW3 p) _) <| oT 19 (.bool (z1.lacks)) (heLoad rfl (by kernel_rfl) (ldB (hn.at_.cell 22 (.bool (z1.lacks)) fun _ _ _ => rfl))) <| oT 20 (.bool (!(z1.lacks))) (heUn (V := .bool (z1.lacks)) (R := .bool (!(z1.lacks))) rfl (by kernel_rfl) (fun w => uNot (z1.lacks) w) _) <| oP 21 (.bool (!(z1.lacks))) true ?_
    refine endL ?_
    try simp only [Act.put, sA, sB, sC]
    refine thenN <| hK4 _ _ ?_
    refine wp_cond_split (t := !(z1.lacks)) (by kernel_rfl) (fun h6 => ?_) (fun h6 => ?_)
    · skip
      have g6 : ¬ z1.lacks = true := by simpa using h6
      have h6n : z1.lacks = false := by simpa using h6
      refine wp_skip ?_
      refine thenN <| hK3 _ _ ?_
      refine wp_block ?_
      refine wp_seq_k fun K7 hK7 => regionL <| oA 4 (.int .i64 (3)) ?_
      refine endL ?_
      try simp only [Act.put, sA, sB, sC]
      refine thenN <| hK7 _ _ <| wp_seq_k fun K8 hK8 => wp_seq_k fun K9 hK9 => regionL <| oM 22 (.int .u8 (b1)) <| oB 23 (eg8 _ _ _ _ _) (bEq8 b1 253) ?_
      refine endL ?_
      try simp only [Act.put, sA, sB, sC]
      refine thenN <| hK9 _ _ ?_
      refine wp_cond_split (t := b1 == 253) (by kernel_rfl) (fun h10 => ?_) (fun h10 => ?_)
      · exact absurd h10 (by first | (simp; omega) | simp [*])
      refine wp_skip ?_
      refine thenN <| hK8 _ _ <| regionL <| oM 24 (pT p 0) ?_
      refine sCallX hn rfl (by kernel_rfl) (w_fetch  hn.at_) ?_
      intro v11 s11 z11 w11 hX hk11 hn
      refine oA 1 (.int .u8 (v11)) ?_
      refine endL ?_
      try simp only [Act.put, sA, sB, sC]
      refine blockN ?_
      exact thenN ⟨⟨v11, 3, s11, z11, .int .u8 (b1), .bool (true), .bool (true), undef, undef, .bool (true), .bool (true), pT p 0, pT p 0, pT p 22, .bool (z1.lacks), .bool (!(z1.lacks)), .bool (!(z1.lacks)), .int .u8 (b1), .bool (b1 == 253), pT p 0, .int .u8 (v11), rfl, hn, hk11, inv_step hI (by assumption) (by first | exact .inl (by assumption) | exact .inr (by assumption)) (show (3 : Int) = if b1 = 253 then 4 else 3 by first | rw [if_pos (by assumption)] | rw [if_neg (by assumption)] | rw [if_neg (by omega)]) hp1 hX⟩, by rw [hn.at_.mu, hm1]; exact mu_step (by assumption) hX⟩
    · skip
      have g6 : z1.lacks = true := by simpa using h6
      have h6n : z1.lacks = true := by simpa using h6
      refine wp_exit ?_
      refine thenE ?_
      refine thenE ?_
      refine blockE ?_
      refine thenN <| hK2 _ _ ?_
      refine wp_block ?_
      refine wp_seq_k fun K12 hK12 => regionL <| oM 31 (pT p 0) <| oN 32 p 0 <| oF 33 (fW3 p) <| oL 34 (ldB (hn.at_.cell 22 (.bool (z1.lacks)) fun _ _ _ => rfl)) <| oA 30 (.bool (z1.lacks)) ?_
      refine endL ?_
      try simp only [Act.put, sA, sB, sC]
      refine thenN <| hK12 _ _ ?_
      refine wp_cond_split (t := z1.lacks) (by kernel_rfl) (fun h13 => ?_) (fun h13 => ?_)
      rotate_left
      · exact absurd (h6n.symm.trans h13) (by decide)
      refine wp_skip ?_
      refine blockN ?_
      refine endV rfl rfl ?_
      exact OutE.lacks hI (by assumption) hn
  · skip
    have g5 : ¬ b1 = 221 := by simpa using h5
    rewrite [h5]
    refine oY 12 (.int .u8 (b1)) <| oT 13 (.bool (b1 == 253)) (heBin (V := .int .u8 (b1)) (W := .int .u8 (253)) (R := .bool (b1 == 253)) rfl (by kernel_rfl) (by kernel_rfl) (eg8 _ _ _ _ _) (bEq8 b1 253) _) <| oP 14 (.bool (b1 == 253)) false <| oM 15 (.bool (b1 == 253)) ?_
    rcases Bool.eq_false_or_eq_true (b1 == 253) with h14 | h14
    · skip
      have g14 : b1 = 253 := by simpa using h14
      rewrite [h14]
      refine oY 16 (pT p 0) <| oT 17 (pT p 0) (heNil (ad := ⟨p, 0, none⟩) rfl (by kernel_rfl) _) <| oT 18 (pT p 22) (heField (V := pT p 0) (R := pT p 22) rfl (by kernel_rfl) (fW3 p) _) <| oT 19 (.bool (z1.lacks)) (heLoad rfl (by kernel_rfl) (ldB (hn.at_.cell 22 (.bool (z1.lacks)) fun _ _ _ => rfl))) <| oT 20 (.bool (!(z1.lacks))) (heUn (V := .bool (z1.lacks)) (R := .bool (!(z1.lacks))) rfl (by kernel_rfl) (fun w => uNot (z1.lacks) w) _) <| oP 21 (.bool (!(z1.lacks))) true ?_
      refine endL ?_
      try simp only [Act.put, sA, sB, sC]
      refine thenN <| hK4 _ _ ?_
      refine wp_cond_split (t := !(z1.lacks)) (by kernel_rfl) (fun h15 => ?_) (fun h15 => ?_)
      · skip
        have g15 : ¬ z1.lacks = true := by simpa using h15
        have h15n : z1.lacks = false := by simpa using h15
        refine wp_skip ?_
        refine thenN <| hK3 _ _ ?_
        refine wp_block ?_
        refine wp_seq_k fun K16 hK16 => regionL <| oA 4 (.int .i64 (3)) ?_
        refine endL ?_
        try simp only [Act.put, sA, sB, sC]
        refine thenN <| hK16 _ _ <| wp_seq_k fun K17 hK17 => wp_seq_k fun K18 hK18 => regionL <| oM 22 (.int .u8 (b1)) <| oB 23 (eg8 _ _ _ _ _) (bEq8 b1 253) ?_
        refine endL ?_
        try simp only [Act.put, sA, sB, sC]
        refine thenN <| hK18 _ _ ?_
        refine wp_cond_split (t := b1 == 253) (by kernel_rfl) (fun h19 => ?_) (fun h19 => ?_)
        rotate_left
        · exact absurd h19 (by first | (simp; omega) | simp [*])
        refine regionL <| oA 4 (.int .i64 (4)) ?_
        refine endL ?_
        try simp only [Act.put, sA, sB, sC]
        refine thenN <| hK17 _ _ <| regionL <| oM 24 (pT p 0) ?_
        refine sCallX hn rfl (by kernel_rfl) (w_fetch  hn.at_) ?_
        intro v20 s20 z20 w20 hX hk20 hn
        refine oA 1 (.int .u8 (v20)) ?_
        refine endL ?_
        try simp only [Act.put, sA, sB, sC]
        refine blockN ?_
        exact thenN ⟨⟨v20, 4, s20, z20, .int .u8 (b1), .bool (false), .bool (false), .int .u8 (b1), .bool (true), .bool (true), .bool (true), pT p 0, pT p 0, pT p 22, .bool (z1.lacks), .bool (!(z1.lacks)), .bool (!(z1.lacks)), .int .u8 (b1), .bool (b1 == 253), pT p 0, .int .u8 (v20), rfl, hn, hk20, inv_step hI (by assumption) (by first | exact .inl (by assumption) | exact .inr (by assumption)) (show (4 : Int) = if b1 = 253 then 4 else 3 by first | rw [if_pos (by assumption)] | rw [if_neg (by assumption)] | rw [if_neg (by omega)]) hp1 hX⟩, by rw [hn.at_.mu, hm1]; exact mu_step (by assumption) hX⟩
      · skip
        have g15 : z1.lacks = true := by simpa using h15
        have h15n : z1.lacks = true := by simpa using h15
        refine wp_exit ?_
        refine thenE ?_
        refine thenE ?_
        refine blockE ?_
        refine thenN <| hK2 _ _ ?_
        refine wp_block ?_
        refine wp_seq_k fun K21 hK21 => regionL <| oM 31 (pT p 0) <| oN 32 p 0 <| oF 33 (fW3 p) <| oL 34 (ldB (hn.at_.cell 22 (.bool (z1.lacks)) fun _ _ _ => rfl)) <| oA 30 (.bool (z1.lacks)) ?_
        refine endL ?_
        try simp only [Act.put, sA, sB, sC]
        refine thenN <| hK21 _ _ ?_
        refine wp_cond_split (t := z1.lacks) (by kernel_rfl) (fun h22 => ?_) (fun h22 => ?_)
        rotate_left
        · exact absurd (h15n.symm.trans h22) (by decide)
        refine wp_skip ?_
        refine blockN ?_
        refine endV rfl rfl ?_
        exact OutE.lacks hI (by assumption) hn
    · skip
      have g14 : ¬ b1 = 253 := by simpa using h14
      rewrite [h14]
      refine oZ 16 <| oZ 17 <| oZ 18 <| oZ 19 <| oZ 20 <| oP 21 (.bool (false)) false ?_
      refine endL ?_
      try simp only [Act.put, sA, sB, sC]
      refine thenN <| hK4 _ _ ?_
      refine wp_cond_false (by kernel_rfl) ?_
      refine wp_exit ?_
      refine thenE ?_
      refine thenE ?_
      refine blockE ?_
      refine thenN <| hK2 _ _ ?_
      refine wp_block ?_
      refine wp_seq_k fun K23 hK23 => regionL <| oM 31 (pT p 0) <| oN 32 p 0 <| oF 33 (fW3 p) <| oL 34 (ldB (hn.at_.cell 22 (.bool (z1.lacks)) fun _ _ _ => rfl)) <| oA 30 (.bool (z1.lacks)) ?_
      refine endL ?_
      try simp only [Act.put, sA, sB, sC]
      refine thenN <| hK23 _ _ ?_
      refine wp_cond_split (t := z1.lacks) (by kernel_rfl) (fun h24 => ?_) (fun h24 => ?_)
      · skip
        have g24 : z1.lacks = true := by simpa using h24
        refine wp_skip ?_
        refine blockN ?_
        refine endV rfl rfl ?_
        exact OutE.lacks hI (by assumption) hn
      · skip
        have g24 : ¬ z1.lacks = true := by simpa using h24
        have hl0 : z1.lacks = false := h24
        have hp0 := hn.at_.pos
        have hR0 := (hI.resolve_right (by rw [hl0]; simp)).2.trans (first_rest (fun h => h.elim g5 g14) n1 s1 (xs.drop z1.pos))
        have hr : (restW n1 b1 s1).runZ xs z1 = (restW n1 b1 s1).runZ xs z1 := rfl
        first | (have hr := hr.trans (zif_pos (by first | exact g24 | exact g14 | exact g5 | exact .inl g24 | exact .inr g24 | exact fun h => g24 h.2 | exact fun h => g24 h.1 | exact ⟨g14, g24⟩ | exact not_or.2 ⟨g14, g24⟩ | (simp [g24, g14, g5]; done) | omega))) | (have hr := hr.trans (zif_neg (by first | exact g24 | exact g14 | exact g5 | exact .inl g24 | exact .inr g24 | exact fun h => g24 h.2 | exact fun h => g24 h.1 | exact ⟨g14, g24⟩ | exact not_or.2 ⟨g14, g24⟩ | (simp [g24, g14, g5]; done) | omega))) | (have hr := hr.trans (zbif_pos (by first | exact g24 | exact g14 | exact g5 | exact .inl g24 | exact .inr g24 | exact fun h => g24 h.2 | exact fun h => g24 h.1 | exact ⟨g14, g24⟩ | exact not_or.2 ⟨g14, g24⟩ | (simp [g24, g14, g5]; done) | omega))) | (have hr := hr.trans (zbif_neg (by first | exact g24 | exact g14 | exact g5 | exact .inl g24 | exact .inr g24 | exact fun h => g24 h.2 | exact fun h => g24 h.1 | exact ⟨g14, g24⟩ | exact not_or.2 ⟨g14, g24⟩ | (simp [g24, g14, g5]; done) | omega))) | skip
        refine wp_seq_k fun K25 hK25 => regionL <| oM 36 (.int .u8 (b1)) <| oB 37 (eg8 _ _ _ _ _) (bEq8 b1 237) <| oA 35 (.bool (b1 == 237)) ?_
        refine endL ?_
        try simp only [Act.put, sA, sB, sC]
        refine thenN <| hK25 _ _ ?_
        refine wp_cond_split (t := b1 == 237) (by kernel_rfl) (fun h26 => ?_) (fun h26 => ?_)
        · skip
          have g26 : b1 = 237 := by simpa using h26
          have hr := hr.trans (zif_pos g26)
          refine wp_seq_k fun K27 hK27 => regionL <| oM 38 (pT p 0) ?_
          refine sCallX hn rfl (by kernel_rfl) (w_fetch  hn.at_) ?_
          intro v28 s28 z28 w28 hX hk28 hn
          have hr := hr.trans (bindZ hX _)
          refine oA 5 (.int .u8 (v28)) ?_
          refine endL ?_
          try simp only [Act.put, sA, sB, sC]
          refine thenN <| hK27 _ _ <| wp_seq_k fun K29 hK29 => regionL <| oM 40 (pT p 0) <| oN 41 p 0 <| oF 42 (fW5 p) ?_
          refine sSetW hn 27 (.int .i64 (0)) (s28.u_plane (0)) rfl rfl rfl (by kernel_rfl) (by kernel_rfl) (stI (hn.at_.cell 27 _ fun _ _ _ => rfl) (hn.at_.frozen 27)) (wu_plane _ _ _) (hn.at_.ms.u_plane) ?_
          intro w30 hn
          refine endL ?_
          try simp only [Act.put, sA, sB, sC]
          refine thenN <| hK29 _ _ <| wp_seq_k fun K31 hK31 => regionL <| oM 43 (pT p 0) <| oN 44 p 0 <| oF 45 (fW6 p) ?_
          refine sSetW hn 28 (.int .u8 (0)) ((s28.u_plane (0)).u_code (0)) rfl rfl rfl (by kernel_rfl) (by kernel_rfl) (st8 (hn.at_.cell 28 _ fun _ _ _ => rfl) (hn.at_.frozen 28)) (wu_code _ _ _) (hn.at_.ms.u_code (⟨by decide, by decide⟩)) ?_
          intro w32 hn
          refine endL ?_
          try simp only [Act.put, sA, sB, sC]
          refine thenN <| hK31 _ _ <| regionL <| oM 46 (pT p 0) <| oM 47 (.int .u8 (v28)) ?_
          refine sCallY hn rfl (by kernel_rfl) (w_ed v28 (hk28) hn.at_) ?_
          intro s33 z33 w33 hX hn
          have hr := hr.trans hX
          refine endL ?_
          try simp only [Act.put, sA, sB, sC]
          refine blockN ?_
          refine endV rfl rfl ?_
          exact OutE.rest hR0 hl0 hp0 hr hn
        · skip
          have g26 : ¬ b1 = 237 := by simpa using h26
          have hr := hr.trans (zif_neg g26)
          refine wp_seq_k fun K34 hK34 => regionL <| oM 50 (.int .u8 (b1)) <| oB 51 (eg8 _ _ _ _ _) (bEq8 b1 203) <| oM 52 (.bool (b1 == 203)) ?_
          rcases Bool.eq_false_or_eq_true (b1 == 203) with h35 | h35
          · skip
            have g35 : b1 = 203 := by simpa using h35
            rewrite [h35]
            refine oY 53 (.int .i64 (n1)) <| oT 54 (.bool (n1 == 0)) (heBin (V := .int .i64 (n1)) (W := .int .i64 (0)) (R := .bool (n1 == 0)) rfl (by kernel_rfl) (by kernel_rfl) (egI _ _ _ _ _) (bEqI n1 0) _) <| oP 55 (.bool (n1 == 0)) true <| oA 49 (.bool (n1 == 0)) ?_
            refine endL ?_
            try simp only [Act.put, sA, sB, sC]
            refine thenN <| hK34 _ _ ?_
            refine wp_cond_split (t := n1 == 0) (by kernel_rfl) (fun h36 => ?_) (fun h36 => ?_)
            · skip
              have g36 : n1 = 0 := by simpa using h36
              have hr := hr.trans (zif_pos (⟨g35, g36⟩))
              refine wp_seq_k fun K37 hK37 => regionL <| oM 56 (pT p 0) ?_
              refine sCallX hn rfl (by kernel_rfl) (w_fetch  hn.at_) ?_
              intro v38 s38 z38 w38 hX hk38 hn
              have hr := hr.trans (bindZ hX _)
              refine oA 6 (.int .u8 (v38)) ?_
              refine endL ?_
              try simp only [Act.put, sA, sB, sC]
              refine thenN <| hK37 _ _ <| regionL <| oM 58 (pT p 0) <| oM 59 (.int .u8 (v38)) ?_
              refine sCallY hn rfl (by kernel_rfl) (w_bit false v38 (hk38) hn.at_) ?_
              intro s39 z39 w39 hX hn
              have hr := hr.trans hX
              refine endL ?_
              try simp only [Act.put, sA, sB, sC]
              refine blockN ?_
              refine endV rfl rfl ?_
              exact OutE.rest hR0 hl0 hp0 hr hn
            · skip
              have g36 : ¬ n1 = 0 := by simpa using h36
              have hr := hr.trans (zif_neg (fun h => g36 h.2))
              refine wp_seq_k fun K40 hK40 => regionL <| oM 62 (.int .u8 (b1)) <| oB 63 (eg8 _ _ _ _ _) (bEq8 b1 203) <| oA 61 (.bool (b1 == 203)) ?_
              refine endL ?_
              try simp only [Act.put, sA, sB, sC]
              refine thenN <| hK40 _ _ ?_
              refine wp_cond_split (t := b1 == 203) (by kernel_rfl) (fun h41 => ?_) (fun h41 => ?_)
              rotate_left
              · exact absurd h41 (by first | (simp; omega) | simp [*])
              have hr := hr.trans (zif_pos g35)
              refine wp_seq_k fun K42 hK42 => regionL <| oM 64 (pT p 0) <| oM 65 (.int .i64 (n1)) <| oN 66 p 0 <| oF 67 (fW5 p) ?_
              refine sSetW hn 27 (.int .i64 (n1)) (s1.u_plane (n1)) rfl rfl rfl (by kernel_rfl) (by kernel_rfl) (stI (hn.at_.cell 27 _ fun _ _ _ => rfl) (hn.at_.frozen 27)) (wu_plane _ _ _) (hn.at_.ms.u_plane) ?_
              intro w43 hn
              refine endL ?_
              try simp only [Act.put, sA, sB, sC]
              refine thenN <| hK42 _ _ <| wp_seq_k fun K44 hK44 => regionL <| oM 68 (pT p 0) ?_
              refine sCallX hn rfl (by kernel_rfl) (w_number  hn.at_) ?_
              intro v45 s45 z45 w45 hX hk45 hn
              have hr := hr.trans (bindZ hX _)
              refine oA 7 (.int .u8 (v45)) ?_
              refine endL ?_
              try simp only [Act.put, sA, sB, sC]
              refine thenN <| hK44 _ _ <| wp_seq_k fun K46 hK46 => regionL <| oM 70 (pT p 0) <| oM 71 (pT p 0) ?_
              have b47 := hlW_word hn.at_.ms
              refine oC (.int .u16 (s45.hl)) (w_hl  hn.at_) ?_
              intro w48 hk
              have hn := hn.after hk
              refine oM 73 (.int .u8 (v45)) <| oC (.int .u16 (moveM s45.hl (signedM v45))) (rnear_any s45.hl v45 (b47) (hk45) _) ?_
              rintro _ rfl
              refine oN 75 p 0 <| oF 76 (fW7 p) ?_
              refine sSetW hn 29 (.int .u16 (moveM s45.hl (signedM v45))) (s45.u_m (moveM s45.hl (signedM v45))) rfl rfl rfl (by kernel_rfl) (by kernel_rfl) (st16 (hn.at_.cell 29 _ fun _ _ _ => rfl) (hn.at_.frozen 29)) (wu_m _ _ _) (hn.at_.ms.u_m (Wd16.mod _)) ?_
              intro w50 hn
              refine endL ?_
              try simp only [Act.put, sA, sB, sC]
              refine thenN <| hK46 _ _ <| wp_seq_k fun K51 hK51 => regionL <| oM 77 (pT p 0) <| oN 78 p 0 <| oF 79 (fW8 p) ?_
              refine sSetW hn 30 (.bool (true)) ((s45.u_m (moveM s45.hl (signedM v45))).u_known (true)) rfl rfl rfl (by kernel_rfl) (by kernel_rfl) (stB (hn.at_.cell 30 _ fun _ _ _ => rfl) (hn.at_.frozen 30)) (wu_known _ _ _) (hn.at_.ms.u_known) ?_
              intro w52 hn
              refine endL ?_
              try simp only [Act.put, sA, sB, sC]
              refine thenN <| hK51 _ _ <| wp_seq_k fun K53 hK53 => regionL <| oM 80 (pT p 0) <| oM 81 (pT p 0) <| oN 82 p 0 <| oF 83 (fW7 p) ?_
              have b54 := hn.at_.ms.m
              refine oL 84 (ld16 (hn.at_.cell 29 (.int .u16 (((s45.u_m (moveM s45.hl (signedM v45))).u_known (true)).m)) fun _ _ _ => rfl)) <| oN 85 p 0 <| oF 86 (fW0 p) <| oF 87 (fR12 p) ?_
              refine sSetW hn 12 (.int .u16 (((s45.u_m (moveM s45.hl (signedM v45))).u_known (true)).m)) (((s45.u_m (moveM s45.hl (signedM v45))).u_known (true)).u_wz (((s45.u_m (moveM s45.hl (signedM v45))).u_known (true)).m)) rfl rfl rfl (by kernel_rfl) (by kernel_rfl) (st16 (hn.at_.cell 12 _ fun _ _ _ => rfl) (hn.at_.frozen 12)) (wu_wz _ _ _) (hn.at_.ms.u_wz (b54)) ?_
              intro w55 hn
              refine endL ?_
              try simp only [Act.put, sA, sB, sC]
              refine thenN <| hK53 _ _ <| wp_seq_k fun K56 hK56 => regionL <| oM 88 (pT p 0) ?_
              refine sCallX hn rfl (by kernel_rfl) (w_number  hn.at_) ?_
              intro v57 s57 z57 w57 hX hk57 hn
              have hr := hr.trans (bindZ hX _)
              refine oA 8 (.int .u8 (v57)) ?_
              refine endL ?_
              try simp only [Act.put, sA, sB, sC]
              refine thenN <| hK56 _ _ <| wp_seq_k fun K58 hK58 => regionL <| oM 90 (pT p 0) ?_
              refine sCallY hn rfl (by kernel_rfl) (w_states 2 hn.at_) ?_
              intro s59 z59 w59 hX hn
              have hr := hr.trans (bindZ hX _)
              refine endL ?_
              try simp only [Act.put, sA, sB, sC]
              refine thenN <| hK58 _ _ <| regionL <| oM 92 (pT p 0) <| oM 93 (.int .u8 (v57)) ?_
              refine sCallY hn rfl (by kernel_rfl) (w_bit true v57 (hk57) hn.at_) ?_
              intro s60 z60 w60 hX hn
              have hr := hr.trans hX
              refine endL ?_
              try simp only [Act.put, sA, sB, sC]
              refine blockN ?_
              refine endV rfl rfl ?_
              exact OutE.rest hR0 hl0 hp0 hr hn
          · skip
            have g35 : ¬ b1 = 203 := by simpa using h35
            rewrite [h35]
            refine oZ 53 <| oZ 54 <| oP 55 (.bool (false)) false <| oA 49 (.bool (false)) ?_
            refine endL ?_
            try simp only [Act.put, sA, sB, sC]
            refine thenN <| hK34 _ _ ?_
            refine wp_cond_false (by kernel_rfl) ?_
            have hr := hr.trans (zif_neg (fun h => g35 h.1))
            refine wp_seq_k fun K61 hK61 => regionL <| oM 62 (.int .u8 (b1)) <| oB 63 (eg8 _ _ _ _ _) (bEq8 b1 203) <| oA 61 (.bool (b1 == 203)) ?_
            refine endL ?_
            try simp only [Act.put, sA, sB, sC]
            refine thenN <| hK61 _ _ ?_
            refine wp_cond_split (t := b1 == 203) (by kernel_rfl) (fun h62 => ?_) (fun h62 => ?_)
            · exact absurd h62 (by first | (simp; omega) | simp [*])
            have hr := hr.trans (zif_neg g35)
            refine regionL <| oM 26 (pT p 0) <| oM 27 (.int .i64 (n1)) <| oM 28 (.int .u8 (b1)) ?_
            refine sCallY hn rfl (by kernel_rfl) (w_plain n1 b1 (hb1) hn.at_) ?_
            intro s63 z63 w63 hX hn
            have hr := hr.trans hX
            refine endL ?_
            try simp only [Act.put, sA, sB, sC]
            refine blockN ?_
            refine endV rfl rfl ?_
            exact OutE.rest hR0 hl0 hp0 hr hn
theorem AtW.asked {w : World} {p B : Nat} {s : Ws} {xs : List Int} {z : Zs} (h : AtW w p B s xs z) : w.rangeAt p 23 (cyC z.asked).toList := by
  obtain ⟨A, cap, hc, hr, hb⟩ := h.row
  intro j v hv
  rw [hr.cell]
  have hj : j < 4 := (List.getElem?_eq_some_iff.1 hv).1
  revert hv
  match j, hj with
  | 0, _ => exact id
  | 1, _ => exact id
  | 2, _ => exact id
  | 3, _ => exact id
  | n + 4, h => omega
def tellW : Except Cy (Ws × List Int) → Value
  | .ok (s, _) => .tuple #[cyV zeroCy, regsV s.r, .bool true]
  | .error c => .tuple #[cyV c, regsV zeroRg, .bool false]
theorem w_told {s : Ws} {xs : List Int} {z : Zs} {w : World} {p B : Nat} (h : AtW w p B s xs z) {R : Except Cy (Ws × List Int)} (hR : (z.lacks = false ∧ ∃ ys, R = .ok (s, ys)) ∨ (z.lacks = true ∧ R = .error z.asked)) :
    Calls Tryz.prog 28 #[pT p 0] w (fun e w' => e = .returned (tellW R) ∧ Below w.heap.size w w') := by
  go_enter Tryz.func28, Tryz.ntmps28
  refine wp_seq_k fun K1 hK1 => regionL ?_
  have hp := h.lt
  refine list_make 2 (pT w.heap.size 0) rfl (wantedN rfl) (heAlloc rfl (allocCy w)) ?_
  refine list_make 3 (.pointer (some ⟨(w.alloc (.cells (cyC zeroCy) 28)).heap.size, 0, none⟩)) rfl (wantedN rfl) (heAlloc rfl (allocRg _)) ?_
  have h1 := h.below (Below.alloc (Below.refl w.heap.size w) (Nat.le_refl _) (.cells (cyC zeroCy) 28))
  have h2 := h1.below (Below.alloc (Below.refl _ _) (Nat.le_refl _) (.cells (regsC zeroRg) 24))
  have hb0 : Below w.heap.size w ((w.alloc (.cells (cyC zeroCy) 28)).alloc (.cells (regsC zeroRg) 24)) := Below.alloc (Below.alloc (Below.refl _ _) (Nat.le_refl _) _) (by simp) _
  have hL := (Row.new w 28 (cyC zeroCy)).alloc (.cells (regsC zeroRg) 24)
  have hM := Row.new (w.alloc (.cells (cyC zeroCy) 28)) 24 (regsC zeroRg)
  obtain ⟨L, hLe⟩ : ∃ L, L = w.heap.size := ⟨_, rfl⟩
  obtain ⟨M, hMe⟩ : ∃ M, M = (w.alloc (.cells (cyC zeroCy) 28)).heap.size := ⟨_, rfl⟩
  have hML : M = L + 1 := by rw [hMe, hLe]; simp
  rw [← hMe] at hM ⊢
  rw [← hLe] at hL hb0 ⊢
  generalize (w.alloc (.cells (cyC zeroCy) 28)).alloc (.cells (regsC zeroRg) 24) = W at *
  clear hMe h1
  refine oA 4 (.bool false) ?_
  refine endL ?_
  try simp only [Act.put, sA, sB, sC]
  refine thenN <| hK1 _ _ <| wp_seq_k fun K2 hK2 => wp_seq_k fun K3 hK3 => regionL <| oM 5 (pT p 0) <| oN 6 p 0 <| oF 7 (fW3 p) <| oL 8 (ldB (h2.cell 22 (.bool z.lacks) fun _ _ _ => rfl)) ?_
  refine endL ?_
  try simp only [Act.put, sA, sB, sC]
  refine thenN <| hK3 _ _ ?_
  refine wp_cond_split (t := z.lacks) (by kernel_rfl) (fun hl => ?_) (fun hl => ?_)
  · have hR' : R = .error z.asked := (hR.resolve_left (by rw [hl]; simp)).2
    subst hR'
    refine wp_seq_k fun K4 hK4 => regionL <| oM 9 (pT p 0) <| oN 10 p 0 <| oF 11 (fW4 p) <| oL 12 (run_loadAt_mid W p 23 28 (cyC z.asked).toList _ h2.asked Tryz.underlying28 rfl infoCy) <| oU 13 (regsC zeroRg) <| oS ⟨L, 0, none⟩ (cyV z.asked) (stCy hL) ?_
    have hL3 : Row (W.setCells L 0 (cyC z.asked).toList) L 28 (cyC z.asked) := hL.setAll rfl
    have hM3 := hM.setFar (by omega : M ≠ L) (cyC z.asked).toList 0
    have hb3 := Below.setCellsAll hb0 (b := L) (by omega) (cyC z.asked).toList 0
    refine oS ⟨M, 0, none⟩ (regsV zeroRg) (stRow hM3) ?_
    have hL4 := hL3.setFar (by omega : L ≠ M) (regsC zeroRg).toList 0
    have hM4 : Row ((W.setCells L 0 (cyC z.asked).toList).setCells M 0 (regsC zeroRg).toList) M 24 (regsC zeroRg) := hM3.setAll rfl
    have hb4 := Below.setCellsAll hb3 (b := M) (by omega) (regsC zeroRg).toList 0
    refine oA 4 (.bool false) ?_
    refine endL ?_
    try simp only [Act.put, sA, sB, sC]
    refine thenN <| hK4 _ _ ?_
    refine wp_ret ?_
    refine thenR ?_
    exact bodyPost_ret (results_told rfl (by kernel_rfl) (by kernel_rfl) (by kernel_rfl) hL4 hM4) rfl ⟨rfl, by rw [← hLe]; exact hb4⟩
  · obtain ⟨ys, hR'⟩ := (hR.resolve_right (by rw [hl]; simp)).2
    subst hR'
    refine wp_skip ?_
    refine thenN <| hK2 _ _ <| wp_seq_k fun K4 hK4 => ?_
    refine Code.wp_mono (Q := fun e a w => match e with | .normal => K4 a w | _ => False) (fun e a w h => by cases e <;> first | exact h | exact h.elim) ?_
    refine part_start 6 (fun w' => AtW w' p B s xs z) (by kernel_rfl) (by kernel_rfl) h2.drew ?_
    intro w2 hw2 hS
    have hL2 : Row w2 L 28 (cyC zeroCy) := by subst hw2; exact hL.drew
    have hM2 : Row w2 M 24 (regsC zeroRg) := by subst hw2; exact hM.drew
    have hb2 : Below L w w2 := by subst hw2; exact ⟨hb0.os, hb0.tape, hb0.output, hb0.size, hb0.block⟩
    refine yG 0 14 (cyV zeroCy) rfl (fun w hS => heBuild (cells := cyC zeroCy) rfl (by kernel_rfl) w) hS <| yM 1 15 (pT p 0) hS <| yN 2 16 p 0 hS <| yF 3 17 (fW0 p) hS <| yL 4 18 (regsV s.r) (fun w hS => ldR hS.regs) hS ?_
    have hL3 : Row (w2.setCells L 0 (cyC zeroCy).toList) L 28 (cyC zeroCy) := hL2.setAll rfl
    have hM3 := hM2.setFar (by omega : M ≠ L) (cyC zeroCy).toList 0
    have hb3 := Below.setCellsAll hb2 (b := L) (by omega) (cyC zeroCy).toList 0
    refine part_do (i := 5) (by rfl) rfl (by kernel_rfl) (by kernel_rfl) (by kernel_rfl) (by exact heStore (ad := ⟨L, 0, none⟩) (V := cyV zeroCy) rfl (by kernel_rfl) (by kernel_rfl) (stCy hL2)) (hS.far (by omega) (by have := hS.low; omega) _ _) ?_
    refine part_end (by kernel_rfl) ?_
    simp only [List.drop_succ_cons, List.drop_zero]
    try simp only [Act.put, sA, sB, sC]
    refine oS ⟨M, 0, none⟩ (regsV s.r) (stRow hM3) ?_
    have hL4 := hL3.setFar (by omega : L ≠ M) (regsC s.r).toList 0
    have hM4 : Row ((w2.setCells L 0 (cyC zeroCy).toList).setCells M 0 (regsC s.r).toList) M 24 (regsC s.r) := hM3.setAll rfl
    have hb4 := Below.setCellsAll hb3 (b := M) (by omega) (regsC s.r).toList 0
    refine oA 4 (.bool true) ?_
    refine endL ?_
    try simp only [Act.put, sA, sB, sC]
    refine hK4 _ _ ?_
    refine wp_ret ?_
    exact bodyPost_ret (results_told rfl (by kernel_rfl) (by kernel_rfl) (by kernel_rfl) hL4 hM4) rfl ⟨rfl, by rw [← hLe]; exact hb4⟩
def ws0 (g : Rg) : Ws := ⟨g, 0, 0, 0, false⟩
def zs0 : Zs := ⟨0, false, zeroCy⟩
theorem ws0_b {g : Rg} (h : RgB g) : WsB (ws0 g) := ⟨h, B8.zero, Wd16.zero⟩
def cyW : Except Cy (Ws × List Int) → Cy | .ok _ => zeroCy | .error c => c
def rgW : Except Cy (Ws × List Int) → Rg | .ok (s, _) => s.r | .error _ => zeroRg
def doneW : Except Cy (Ws × List Int) → Bool | .ok _ => true | .error _ => false
theorem tellW_eq (X : Except Cy (Ws × List Int)) : tellW X = .tuple #[cyV (cyW X), regsV (rgW X), .bool (doneW X)] := by
  rcases X with c | ⟨s, ys⟩ <;> rfl
theorem boxW (g : Rg) (A : Option Addr) (n cap : Nat) (w : World) : (Instr.box 52 (.agg (wC (ws0 g) A n cap zs0))).run Tryz.prog w = .ok (pT w.heap.size 0) (w.alloc (.cells (wC (ws0 g) A n cap zs0) 52)) := by
  simp [go_sem]
theorem at_newW {w W : World} {g : Rg} {A : Option Addr} {cap : Nat} {xs : List Int} (hk : ∀ b, b < w.heap.size → W.heap[b]? = w.heap[b]?) (hs : w.heap.size ≤ W.heap.size) (hg : RgB g) (hc : xs.length ≤ cap) (h8 : Bytes8 xs) (hbig : xs.length ≤ 1000000000000000) (hin : BytesIn w w.heap.size A xs) :
    AtW (W.alloc (.cells (wC (ws0 g) A xs.length cap zs0) 52)) W.heap.size w.heap.size (ws0 g) xs zs0 := by
  have k : ∀ b, b < w.heap.size → (W.alloc (.cells (wC (ws0 g) A xs.length cap zs0) 52)).heap[b]? = w.heap[b]? := fun b hb => (Below.heap_alloc W _ b (by omega)).trans (hk b hb)
  exact ⟨⟨A, cap, hc, Row.new W _ _, hin.keep k⟩, hs, h8, ws0_b hg, by simp [zs0], hbig⟩
def rafterOf (g : Rg) (c : Int) (xs : List Int) : Except Cy (Ws × List Int) := firstE xs 0 c ((ws0 g).u_late false)
def nextW (s : Ws) (xs : List Int) : Except Cy (Ws × List Int) :=
  match (fetchW s).run xs with
  | .ok ((b, t), ys) => firstE ys 0 b t
  | .error c => .error c
def haltW (s : Ws) : Tr Ws := (cycW ⟨1, s.r.pc, 0, 4⟩ s).bind fun b => .done b.2.tick
def rnextOf (g : Rg) (xs : List Int) : Except Cy (Ws × List Int) := if g.halted = true then (haltW (ws0 g)).run xs else nextW ((ws0 g).u_late false) xs
theorem told_of {t : Tr Ws} {s : Ws} {z : Zs} {xs : List Int} (hr : t.runZ xs zs0 = (s, z)) : (z.lacks = false ∧ ∃ ys, t.run xs = .ok (s, ys)) ∨ (z.lacks = true ∧ t.run xs = .error z.asked) := by
  have k := Tr.runZ_run xs t zs0 rfl (Nat.zero_le _)
  rw [hr] at k
  have e0 : xs.drop zs0.pos = xs := rfl
  rw [e0] at k
  cases e : t.run xs with
  | error c =>
    rw [e] at k
    exact .inr ⟨k.1, by rw [k.2]⟩
  | ok r =>
    obtain ⟨a, ys⟩ := r
    rw [e] at k
    have k1 : s = a := k.1
    exact .inl ⟨k.2.1, ys, by rw [k1]⟩
theorem inv_of {xs : List Int} {s t : Ws} {v : Int} {z : Zs} (hr : (fetchW s).runZ xs zs0 = ((v, t), z)) : Inv (nextW s xs) xs 0 v t z := by
  have k := Tr.runZ_run xs (fetchW s) zs0 rfl (Nat.zero_le _)
  rw [hr] at k
  have e0 : xs.drop zs0.pos = xs := rfl
  rw [e0] at k
  unfold nextW
  cases e : (fetchW s).run xs with
  | error c =>
    rw [e] at k
    exact .inr ⟨k.1, by rw [k.2]⟩
  | ok r =>
    obtain ⟨a, ys⟩ := r
    rw [e] at k
    have k1 : (v, t) = a := k.1
    subst k1
    exact .inl ⟨k.2.1, by rw [k.2.2.2.1]⟩
theorem rafter_any (g : Rg) (hg : RgB g) (c : Int) (hcb : B8 c) (A : Option Addr) (cap : Nat) (xs : List Int) (hc : xs.length ≤ cap) (h8 : Bytes8 xs) (hbig : xs.length ≤ 1000000000000000) (w : World) (hin : BytesIn w w.heap.size A xs) :
    Calls Tryz.prog 15 #[regsV g, .int .u8 c, .slice A xs.length cap] w (fun e w' => e = .returned (tellW (rafterOf g c xs)) ∧ Below w.heap.size w w') := by
  go_enter Tryz.func15, Tryz.ntmps15
  refine wp_seq_k fun K1 hK1 => regionL ?_
  refine list_make 3 (pT w.heap.size 0) rfl (wantedN rfl) (heBox rfl (by kernel_rfl) (boxRg g w)) ?_
  have r0 := Row.new w 24 (regsC g)
  have hb := Below.alloc (Below.refl w.heap.size w) (Nat.le_refl _) (.cells (regsC g) 24)
  obtain ⟨L0, hL0⟩ : ∃ L, L = w.heap.size := ⟨_, rfl⟩
  rw [← hL0] at r0 ⊢
  generalize w.alloc (.cells (regsC g) 24) = W0 at *
  have l0 := r0.lt
  have hsW0 := hb.size
  refine list_make 6 (pT W0.heap.size 0) rfl (wantedN rfl) (heAlloc rfl (allocCy W0)) ?_
  have r0 := r0.alloc (.cells (cyC zeroCy) 28)
  have r1 := Row.new W0 28 (cyC zeroCy)
  have hb := Below.alloc hb (by have := hb.size; omega) (.cells (cyC zeroCy) 28)
  obtain ⟨L1, hL1⟩ : ∃ L, L = W0.heap.size := ⟨_, rfl⟩
  have q1 : w.heap.size ≤ L1 ∧ L0 < L1 := by rw [hL1]; exact ⟨hsW0, l0⟩
  rw [← hL1] at r1 ⊢
  generalize W0.alloc (.cells (cyC zeroCy) 28) = W1 at *
  have l0 := r0.lt
  have l1 := r1.lt
  have hsW1 := hb.size
  refine list_make 7 (pT W1.heap.size 0) rfl (wantedN rfl) (heAlloc rfl (allocRg W1)) ?_
  have r0 := r0.alloc (.cells (regsC zeroRg) 24)
  have r1 := r1.alloc (.cells (regsC zeroRg) 24)
  have r2 := Row.new W1 24 (regsC zeroRg)
  have hb := Below.alloc hb (by have := hb.size; omega) (.cells (regsC zeroRg) 24)
  obtain ⟨L2, hL2⟩ : ∃ L, L = W1.heap.size := ⟨_, rfl⟩
  have q2 : w.heap.size ≤ L2 ∧ L0 < L2 ∧ L1 < L2 := by rw [hL2]; exact ⟨hsW1, l0, l1⟩
  rw [← hL2] at r2 ⊢
  generalize W1.alloc (.cells (regsC zeroRg) 24) = W2 at *
  have l0 := r0.lt
  have l1 := r1.lt
  have l2 := r2.lt
  have hsW2 := hb.size
  refine oA 8 (.bool false) ?_
  refine endL ?_
  try simp only [Act.put, sA, sB, sC]
  refine thenN <| hK1 _ _ <| wp_seq_k fun K2 hK2 => regionL <| oL 10 (ldR r0.range) <| oM 11 (.slice A xs.length cap) <| oU 12 (wC (ws0 g) A xs.length cap zs0) ?_
  refine list_make 13 (pT W2.heap.size 0) rfl (wantedN rfl) (heBox rfl (by kernel_rfl) (boxW g A xs.length cap W2)) ?_
  have hat := at_newW (w := w) (W := W2) (fun b hlt => hb.block b hlt) hb.size hg hc h8 hbig hin
  have r0 := r0.alloc (.cells (wC (ws0 g) A xs.length cap zs0) 52)
  have r1 := r1.alloc (.cells (wC (ws0 g) A xs.length cap zs0) 52)
  have r2 := r2.alloc (.cells (wC (ws0 g) A xs.length cap zs0) 52)
  have hb := Below.alloc hb (by have := hb.size; omega) (.cells (wC (ws0 g) A xs.length cap zs0) 52)
  obtain ⟨p, hp⟩ : ∃ p, p = W2.heap.size := ⟨_, rfl⟩
  have qp : w.heap.size ≤ p ∧ L0 < p ∧ L1 < p ∧ L2 < p := by rw [hp]; exact ⟨hsW2, l0, l1, l2⟩
  rw [← hp] at hat ⊢
  generalize W2.alloc (.cells (wC (ws0 g) A xs.length cap zs0) 52) = W at *
  refine oA 9 (pT p 0) ?_
  refine endL ?_
  try simp only [Act.put, sA, sB, sC]
  refine thenN <| hK2 _ _ ?_
  have hn := NowW.begin hat
  refine wp_seq_k fun K3 hK3 => regionL <| oM 14 (pT p 0) <| oN 15 p 0 <| oF 16 (fW0 p) <| oF 17 (fR18 p) ?_
  refine sSetW hn 18 (.bool false) ((ws0 g).u_late false) rfl rfl rfl (by kernel_rfl) (by kernel_rfl) (stB (hn.at_.cell 18 _ fun _ _ _ => rfl) (hn.at_.frozen 18)) (wu_late _ _ _) hn.at_.ms.u_late ?_
  intro wl hn
  refine endL ?_
  try simp only [Act.put, sA, sB, sC]
  refine thenN <| hK3 _ _ <| wp_seq_k fun K4 hK4 => regionL <| oM 18 (pT p 0) <| oM 19 (.int .u8 c) ?_
  refine list_call (wantedN rfl) (by kernel_rfl) (w_first c hcb hn.at_ (R0 := rafterOf g c xs) (.inl ⟨rfl, rfl⟩)) (fun e wf ho => ?_)
  obtain ⟨rfl, sf, zf, hnf, hR⟩ := ho
  have hn := hn.after hnf
  refine endL ?_
  try simp only [Act.put, sA, sB, sC]
  refine thenN <| hK4 _ _ <| wp_seq_k fun K5 hK5 => regionL <| oM 21 (pT p 0) ?_
  have r0 := r0.besides hn.bes (by omega) (by omega)
  have r1 := r1.besides hn.bes (by omega) (by omega)
  have r2 := r2.besides hn.bes (by omega) (by omega)
  have hb := hb.trans (hn.bes.below (by omega) (by omega) hb.size)
  refine list_call (wantedN rfl) (by kernel_rfl) (w_told hn.at_ hR) (fun e wt ho => ?_)
  obtain ⟨rfl, hbt⟩ := ho
  have r1 := r1.below hbt r1.lt
  have r2 := r2.below hbt r2.lt
  have hb := hb.trans (hbt.mono (hb.size))
  rw [tellW_eq]
  generalize hX : rafterOf g c xs = X at *
  refine oX 23 #[cyV (cyW X), regsV (rgW X), .bool (doneW X)] (cyV (cyW X)) <| oX 24 #[cyV (cyW X), regsV (rgW X), .bool (doneW X)] (regsV (rgW X)) <| oX 25 #[cyV (cyW X), regsV (rgW X), .bool (doneW X)] (.bool (doneW X)) <| oS ⟨L1, 0, none⟩ (cyV (cyW X)) (stCy r1) ?_
  have r1' : Row (wt.setCells L1 0 (cyC (cyW X)).toList) L1 28 (cyC (cyW X)) := r1.setAll rfl
  have r2' := r2.setFar (by omega : L2 ≠ L1) (cyC (cyW X)).toList 0
  have hb := Below.setCellsAll hb (b := L1) (by omega) (cyC (cyW X)).toList 0
  refine oS ⟨L2, 0, none⟩ (regsV (rgW X)) (stRow r2') ?_
  have r1' := r1'.setFar (by omega : L1 ≠ L2) (regsC (rgW X)).toList 0
  have r2' : Row ((wt.setCells L1 0 (cyC (cyW X)).toList).setCells L2 0 (regsC (rgW X)).toList) L2 24 (regsC (rgW X)) := r2'.setAll rfl
  have hb := Below.setCellsAll hb (b := L2) (by omega) (regsC (rgW X)).toList 0
  refine oA 8 (.bool (doneW X)) ?_
  refine endL ?_
  try simp only [Act.put, sA, sB, sC]
  refine thenN <| hK5 _ _ ?_
  refine wp_ret ?_
  exact bodyPost_ret (results_told rfl (by kernel_rfl) (by kernel_rfl) (by kernel_rfl) r1' r2') rfl ⟨by rw [tellW_eq], hb⟩
theorem rnnext_any (g : Rg) (hg : RgB g) (A : Option Addr) (cap : Nat) (xs : List Int) (hc : xs.length ≤ cap) (h8 : Bytes8 xs) (hbig : xs.length ≤ 1000000000000000) (w : World) (hin : BytesIn w w.heap.size A xs) :
    Calls Tryz.prog 13 #[regsV g, .slice A xs.length cap] w (fun e w' => e = .returned (tellW (rnextOf g xs)) ∧ Below w.heap.size w w') := by
  go_enter Tryz.func13, Tryz.ntmps13
  refine wp_seq_k fun K1 hK1 => regionL ?_
  refine list_make 2 (pT w.heap.size 0) rfl (wantedN rfl) (heBox rfl (by kernel_rfl) (boxRg g w)) ?_
  have r0 := Row.new w 24 (regsC g)
  have hb := Below.alloc (Below.refl w.heap.size w) (Nat.le_refl _) (.cells (regsC g) 24)
  obtain ⟨L0, hL0⟩ : ∃ L, L = w.heap.size := ⟨_, rfl⟩
  rw [← hL0] at r0 ⊢
  generalize w.alloc (.cells (regsC g) 24) = W0 at *
  have l0 := r0.lt
  have hsW0 := hb.size
  refine list_make 4 (pT W0.heap.size 0) rfl (wantedN rfl) (heAlloc rfl (allocCy W0)) ?_
  have r0 := r0.alloc (.cells (cyC zeroCy) 28)
  have r1 := Row.new W0 28 (cyC zeroCy)
  have hb := Below.alloc hb (by have := hb.size; omega) (.cells (cyC zeroCy) 28)
  obtain ⟨L1, hL1⟩ : ∃ L, L = W0.heap.size := ⟨_, rfl⟩
  have q1 : w.heap.size ≤ L1 ∧ L0 < L1 := by rw [hL1]; exact ⟨hsW0, l0⟩
  rw [← hL1] at r1 ⊢
  generalize W0.alloc (.cells (cyC zeroCy) 28) = W1 at *
  have l0 := r0.lt
  have l1 := r1.lt
  have hsW1 := hb.size
  refine list_make 5 (pT W1.heap.size 0) rfl (wantedN rfl) (heAlloc rfl (allocRg W1)) ?_
  have r0 := r0.alloc (.cells (regsC zeroRg) 24)
  have r1 := r1.alloc (.cells (regsC zeroRg) 24)
  have r2 := Row.new W1 24 (regsC zeroRg)
  have hb := Below.alloc hb (by have := hb.size; omega) (.cells (regsC zeroRg) 24)
  obtain ⟨L2, hL2⟩ : ∃ L, L = W1.heap.size := ⟨_, rfl⟩
  have q2 : w.heap.size ≤ L2 ∧ L0 < L2 ∧ L1 < L2 := by rw [hL2]; exact ⟨hsW1, l0, l1⟩
  rw [← hL2] at r2 ⊢
  generalize W1.alloc (.cells (regsC zeroRg) 24) = W2 at *
  have l0 := r0.lt
  have l1 := r1.lt
  have l2 := r2.lt
  have hsW2 := hb.size
  refine oA 6 (.bool false) ?_
  refine endL ?_
  try simp only [Act.put, sA, sB, sC]
  refine thenN <| hK1 _ _ <| wp_seq_k fun K2 hK2 => regionL <| oL 9 (ldR r0.range) <| oM 10 (.slice A xs.length cap) <| oU 11 (wC (ws0 g) A xs.length cap zs0) ?_
  refine list_make 12 (pT W2.heap.size 0) rfl (wantedN rfl) (heBox rfl (by kernel_rfl) (boxW g A xs.length cap W2)) ?_
  have hat := at_newW (w := w) (W := W2) (fun b hlt => hb.block b hlt) hb.size hg hc h8 hbig hin
  have r0 := r0.alloc (.cells (wC (ws0 g) A xs.length cap zs0) 52)
  have r1 := r1.alloc (.cells (wC (ws0 g) A xs.length cap zs0) 52)
  have r2 := r2.alloc (.cells (wC (ws0 g) A xs.length cap zs0) 52)
  have hb := Below.alloc hb (by have := hb.size; omega) (.cells (wC (ws0 g) A xs.length cap zs0) 52)
  obtain ⟨p, hp⟩ : ∃ p, p = W2.heap.size := ⟨_, rfl⟩
  have qp : w.heap.size ≤ p ∧ L0 < p ∧ L1 < p ∧ L2 < p := by rw [hp]; exact ⟨hsW2, l0, l1, l2⟩
  rw [← hp] at hat ⊢
  generalize W2.alloc (.cells (wC (ws0 g) A xs.length cap zs0) 52) = W at *
  refine oA 7 (pT p 0) ?_
  refine endL ?_
  try simp only [Act.put, sA, sB, sC]
  refine thenN <| hK2 _ _ ?_
  have hn := NowW.begin hat
  refine wp_seq_k fun K3 hK3 => wp_seq_k fun K4 hK4 => regionL <| oF 13 (fR17 L0) <| oL 14 (ldB (r0.cell 17)) ?_
  refine endL ?_
  try simp only [Act.put, sA, sB, sC]
  refine thenN <| hK4 _ _ ?_
  refine wp_cond_split (t := g.halted) (by kernel_rfl) (fun hh => ?_) (fun hh => ?_)
  · skip
    have e : rnextOf g xs = (haltW (ws0 g)).run xs := by rw [rnextOf, if_pos hh]
    rw [e]
    refine wp_seq_k fun K5 hK5 => regionL <| oM 15 (pT p 0) <| oF 16 (fR11 L0) <| oL 17 (ld16 (r0.cell 11)) ?_
    refine sCallX hn rfl (by kernel_rfl) (w_cycle 1 g.pc hg.pc 0 B8.zero 4 hn.at_) ?_
    intro v1 s1 z1 w1 hX1 hk1 hn
    refine endL ?_
    try simp only [Act.put, sA, sB, sC]
    refine thenN <| hK5 _ _ <| wp_seq_k fun K6 hK6 => regionL <| oM 19 (pT p 0) ?_
    refine list_call (wantedN rfl) (by kernel_rfl) (w_tick hn.at_) (fun e wf ho => ?_)
    obtain ⟨rfl, hnf⟩ := ho
    have hn := hn.after hnf
    refine endL ?_
    try simp only [Act.put, sA, sB, sC]
    refine thenN <| hK6 _ _ ?_
    have hR := told_of (t := haltW (ws0 g)) (s := s1.tick) (z := z1) (xs := xs) ((bindZ hX1 _).trans (doneZ _ _ _))
    refine wp_seq_k fun K7 hK7 => regionL <| oM 21 (pT p 0) ?_
    have r0 := r0.besides hn.bes (by omega) (by omega)
    have r1 := r1.besides hn.bes (by omega) (by omega)
    have r2 := r2.besides hn.bes (by omega) (by omega)
    have hb := hb.trans (hn.bes.below (by omega) (by omega) hb.size)
    refine list_call (wantedN rfl) (by kernel_rfl) (w_told hn.at_ hR) (fun e wt ho => ?_)
    obtain ⟨rfl, hbt⟩ := ho
    have r1 := r1.below hbt r1.lt
    have r2 := r2.below hbt r2.lt
    have hb := hb.trans (hbt.mono (hb.size))
    rw [tellW_eq]
    generalize hX : (haltW (ws0 g)).run xs = X at *
    refine oX 23 #[cyV (cyW X), regsV (rgW X), .bool (doneW X)] (cyV (cyW X)) <| oX 24 #[cyV (cyW X), regsV (rgW X), .bool (doneW X)] (regsV (rgW X)) <| oX 25 #[cyV (cyW X), regsV (rgW X), .bool (doneW X)] (.bool (doneW X)) <| oS ⟨L1, 0, none⟩ (cyV (cyW X)) (stCy r1) ?_
    have r1' : Row (wt.setCells L1 0 (cyC (cyW X)).toList) L1 28 (cyC (cyW X)) := r1.setAll rfl
    have r2' := r2.setFar (by omega : L2 ≠ L1) (cyC (cyW X)).toList 0
    have hb := Below.setCellsAll hb (b := L1) (by omega) (cyC (cyW X)).toList 0
    refine oS ⟨L2, 0, none⟩ (regsV (rgW X)) (stRow r2') ?_
    have r1' := r1'.setFar (by omega : L1 ≠ L2) (regsC (rgW X)).toList 0
    have r2' : Row ((wt.setCells L1 0 (cyC (cyW X)).toList).setCells L2 0 (regsC (rgW X)).toList) L2 24 (regsC (rgW X)) := r2'.setAll rfl
    have hb := Below.setCellsAll hb (b := L2) (by omega) (regsC (rgW X)).toList 0
    refine oA 6 (.bool (doneW X)) ?_
    refine endL ?_
    try simp only [Act.put, sA, sB, sC]
    refine thenN <| hK7 _ _ ?_
    refine wp_ret ?_
    refine thenR ?_
    exact bodyPost_ret (results_told rfl (by kernel_rfl) (by kernel_rfl) (by kernel_rfl) r1' r2') rfl ⟨by rw [tellW_eq], hb⟩
  · skip
    have e : rnextOf g xs = nextW ((ws0 g).u_late false) xs := by rw [rnextOf, if_neg (by rw [hh]; decide)]
    rw [e]
    refine wp_skip ?_
    refine thenN <| hK3 _ _ ?_
    rw [e]
    refine wp_seq_k fun K5 hK5 => regionL <| oM 26 (pT p 0) <| oN 27 p 0 <| oF 28 (fW0 p) <| oF 29 (fR18 p) ?_
    refine sSetW hn 18 (.bool false) ((ws0 g).u_late false) rfl rfl rfl (by kernel_rfl) (by kernel_rfl) (stB (hn.at_.cell 18 _ fun _ _ _ => rfl) (hn.at_.frozen 18)) (wu_late _ _ _) hn.at_.ms.u_late ?_
    intro wl hn
    refine endL ?_
    try simp only [Act.put, sA, sB, sC]
    refine thenN <| hK5 _ _ <| wp_seq_k fun K6 hK6 => regionL <| oM 30 (pT p 0) ?_
    refine sCallX hn rfl (by kernel_rfl) (w_fetch hn.at_) ?_
    intro v1 s1 z1 w1 hX1 hk1 hn
    refine oA 8 (.int .u8 v1) ?_
    refine endL ?_
    try simp only [Act.put, sA, sB, sC]
    refine thenN <| hK6 _ _ <| wp_seq_k fun K7 hK7 => regionL <| oM 32 (pT p 0) <| oM 33 (.int .u8 v1) ?_
    refine list_call (wantedN rfl) (by kernel_rfl) (w_first v1 hk1 hn.at_ (inv_of hX1)) (fun e wf ho => ?_)
    obtain ⟨rfl, sf, zf, hnf, hR⟩ := ho
    have hn := hn.after hnf
    refine endL ?_
    try simp only [Act.put, sA, sB, sC]
    refine thenN <| hK7 _ _ <| wp_seq_k fun K8 hK8 => regionL <| oM 35 (pT p 0) ?_
    have r0 := r0.besides hn.bes (by omega) (by omega)
    have r1 := r1.besides hn.bes (by omega) (by omega)
    have r2 := r2.besides hn.bes (by omega) (by omega)
    have hb := hb.trans (hn.bes.below (by omega) (by omega) hb.size)
    refine list_call (wantedN rfl) (by kernel_rfl) (w_told hn.at_ hR) (fun e wt ho => ?_)
    obtain ⟨rfl, hbt⟩ := ho
    have r1 := r1.below hbt r1.lt
    have r2 := r2.below hbt r2.lt
    have hb := hb.trans (hbt.mono (hb.size))
    rw [tellW_eq]
    generalize hX : nextW ((ws0 g).u_late false) xs = X at *
    refine oX 37 #[cyV (cyW X), regsV (rgW X), .bool (doneW X)] (cyV (cyW X)) <| oX 38 #[cyV (cyW X), regsV (rgW X), .bool (doneW X)] (regsV (rgW X)) <| oX 39 #[cyV (cyW X), regsV (rgW X), .bool (doneW X)] (.bool (doneW X)) <| oS ⟨L1, 0, none⟩ (cyV (cyW X)) (stCy r1) ?_
    have r1' : Row (wt.setCells L1 0 (cyC (cyW X)).toList) L1 28 (cyC (cyW X)) := r1.setAll rfl
    have r2' := r2.setFar (by omega : L2 ≠ L1) (cyC (cyW X)).toList 0
    have hb := Below.setCellsAll hb (b := L1) (by omega) (cyC (cyW X)).toList 0
    refine oS ⟨L2, 0, none⟩ (regsV (rgW X)) (stRow r2') ?_
    have r1' := r1'.setFar (by omega : L1 ≠ L2) (regsC (rgW X)).toList 0
    have r2' : Row ((wt.setCells L1 0 (cyC (cyW X)).toList).setCells L2 0 (regsC (rgW X)).toList) L2 24 (regsC (rgW X)) := r2'.setAll rfl
    have hb := Below.setCellsAll hb (b := L2) (by omega) (regsC (rgW X)).toList 0
    refine oA 6 (.bool (doneW X)) ?_
    refine endL ?_
    try simp only [Act.put, sA, sB, sC]
    refine thenN <| hK8 _ _ ?_
    refine wp_ret ?_
    exact bodyPost_ret (results_told rfl (by kernel_rfl) (by kernel_rfl) (by kernel_rfl) r1' r2') rfl ⟨by rw [tellW_eq], hb⟩
def Tr.Rel {α β : Type} (R : α → β → Prop) : Tr α → Tr β → Prop
  | .done a, .done b => R a b
  | .ask c k, .ask d l => c = d ∧ ∀ b, B8 b → (k b).Rel R (l b)
  | _, _ => False
theorem Tr.Rel.mono {α β : Type} {R S : α → β → Prop} {t : Tr α} : ∀ {u : Tr β}, t.Rel R u → (∀ a b, R a b → S a b) → t.Rel S u := by
  induction t with
  | done a => intro u h hRS; cases u with
    | done b => exact hRS _ _ h
    | ask d l => exact h.elim
  | ask c k ih => intro u h hRS; cases u with
    | done b => exact h.elim
    | ask d l => exact ⟨h.1, fun b hb => ih b (h.2 b hb) hRS⟩
theorem Tr.Rel.bind {α β γ δ : Type} {R : α → β → Prop} {S : γ → δ → Prop} {t : Tr α} {f : α → Tr γ} {g : β → Tr δ} : ∀ {u : Tr β}, t.Rel R u → (∀ a b, R a b → (f a).Rel S (g b)) → (t.bind f).Rel S (u.bind g) := by
  induction t with
  | done a => intro u h hf; cases u with
    | done b => exact hf _ _ h
    | ask d l => exact h.elim
  | ask c k ih => intro u h hf; cases u with
    | done b => exact h.elim
    | ask d l => exact ⟨h.1, fun b hb => ih b (h.2 b hb) hf⟩
def Told : Except Cy (Ms × List Int) → Except Cy (Ws × List Int) → Prop
  | .ok (s, _), .ok (t, _) => s.r = t.r
  | .error c, .error d => c = d
  | _, _ => False
theorem Told.tell {X : Except Cy (Ms × List Int)} {Y : Except Cy (Ws × List Int)} (h : Told X Y) : tellV X = tellW Y := by
  rcases X with c | ⟨s, ys⟩ <;> rcases Y with d | ⟨t, zs⟩
  · have e : c = d := h
    subst e; rfl
  · exact h.elim
  · exact h.elim
  · have e : s.r = t.r := h
    rw [tellV_eq, tellW_eq]
    simp only [cyOf, rgOf, doneOf, cyW, rgW, doneW, e]
theorem Tr.Rel.told {t : Tr Ms} : ∀ {u : Tr Ws} {xs : List Int}, t.Rel (fun s t => s.r = t.r) u → Bytes8 xs → Told (t.run xs) (u.run xs) := by
  induction t with
  | done a => intro u xs h hx; cases u with
    | done b => rw [Tr.run_done, Tr.run_done]; exact h
    | ask d l => exact h.elim
  | ask c k ih => intro u xs h hx; cases u with
    | done b => exact h.elim
    | ask d l =>
      cases xs with
      | nil => exact h.1
      | cons b bs => exact ih b (h.2 b hx.head) hx.tail
def BodySame : Prop := ∀ (s : Ms) (c : Int), MsB s → s.near = false → B8 c → ¬ (c = 221 ∨ c = 253) → (bodyN c s).Rel (fun s t => s.r = t.r) (restW s.plane c ⟨s.r, 0, 0, 0, false⟩)
theorem exec_same (H : BodySame) : ∀ (xs : List Int) (s : Ms) (c : Int), MsB s → s.near = false → B8 c → Bytes8 xs → Told (execN xs c s) (firstE xs s.plane c ⟨s.r, 0, 0, 0, false⟩) := by
  intro xs
  induction xs with
  | nil =>
    intro s c hs hn hc hx
    by_cases hp : c = 221 ∨ c = 253
    · rw [execN, firstE, if_pos hp, if_pos hp]; exact rfl
    · rw [execN, firstE, if_neg hp, if_neg hp]; exact (H s c hs hn hc hp).told hx
  | cons b bs ih =>
    intro s c hs hn hc hx
    by_cases hp : c = 221 ∨ c = 253
    · rw [execN, firstE, if_pos hp, if_pos hp]
      have hB : MsB (({ s.toPlane (if c = 253 then 4 else 3) with r := tickG s.r 1 } : Ms).pcUp) := by
        have ht : RgB (tickG s.r 1) := hs.r.tick 1
        exact ⟨⟨ht.af, ht.bc, ht.de, ht.hl, ht.af2, ht.bc2, ht.de2, ht.hl2, ht.ix, ht.iy, ht.sp, Wd16.mod _, ht.wz, ht.i, ht.r, ht.mode⟩, by by_cases h : c = 253; exact .inr (.inr (if_pos h)); exact .inr (.inl (if_neg h)), hs.x, hs.y, hs.z, hs.p, hs.q, hs.spot⟩
      exact ih _ b hB hn hx.head hx.tail
    · rw [execN, firstE, if_neg hp, if_neg hp]; exact (H s c hs hn hc hp).told hx
theorem after_same (H : BodySame) {g : Rg} (hg : RgB g) {c : Int} (hc : B8 c) {xs : List Int} (hx : Bytes8 xs) : Told (afterOf g c xs) (rafterOf g c xs) :=
  exec_same H xs (ms0 g).noLate c (ms0_b hg).u_late rfl hc hx
theorem next_same (H : BodySame) {g : Rg} (hg : RgB g) {xs : List Int} (hx : Bytes8 xs) : Told (nextOf g xs) (rnextOf g xs) := by
  by_cases hh : g.halted = true
  · rw [nextOf, rnextOf, if_pos hh, if_pos hh]
    exact Tr.Rel.told (t := (glanceN (ms0 g)).bind fun b => .done b.2) (u := haltW (ws0 g)) ⟨rfl, fun b hb => rfl⟩ hx
  · rw [nextOf, rnextOf, if_neg hh, if_neg hh]
    cases xs with
    | nil => exact rfl
    | cons b bs => 
      have hB : MsB ((({ (ms0 g) with r := tickG g 1 } : Ms).pcUp).noLate) := by
        have ht : RgB (tickG g 1) := hg.tick 1
        exact ⟨⟨ht.af, ht.bc, ht.de, ht.hl, ht.af2, ht.bc2, ht.de2, ht.hl2, ht.ix, ht.iy, ht.sp, Wd16.mod _, ht.wz, ht.i, ht.r, ht.mode⟩, .inl rfl, (ms0_b hg).x, (ms0_b hg).y, (ms0_b hg).z, (ms0_b hg).p, (ms0_b hg).q, (ms0_b hg).spot⟩
      exact exec_same H bs _ b hB rfl hx.head hx.tail
def RR (s : Ms) (t : Ws) : Prop := s.r = t.r
theorem arith_sum (r : Rg) (plane x y z p q spot : Int) (near : Bool) (code m : Int) (known : Bool) (b : Int) (hy : 0 ≤ y ∧ y ≤ 7) : (arithN b ⟨r, plane, x, y, z, p, q, spot, near⟩).r = (sumW y b ⟨r, plane, code, m, known⟩).r := by
  have hc : ∀ t : Bool, ((one t) != 0) = t := by intro t; cases t <;> rfl
  unfold arithN sumW
  dsimp only [Ms.carry, Ms.f, Ms.a, Ws.a, Ws.f, Ms.af, Ws.af]
  simp only [hc]
  repeat' split
  all_goals first | rfl | omega
theorem nhigh_same (r : Rg) (plane x y z p q spot : Int) (near : Bool) (code m : Int) (known : Bool) (hz : 0 ≤ z ∧ z ≤ 7) (hy : 0 ≤ y ∧ y ≤ 7) (hp : 0 ≤ p ∧ p ≤ 3) (hq : 0 ≤ q ∧ q ≤ 1) : (controlN ⟨r, plane, x, y, z, p, q, spot, near⟩).Rel RR (highW y z p q ⟨r, plane, code, m, known⟩) := by
  have hz' : z = 0 ∨ z = 1 ∨ z = 2 ∨ z = 3 ∨ z = 4 ∨ z = 5 ∨ z = 6 ∨ z = 7 := by omega
  have hp' : p = 0 ∨ p = 1 ∨ p = 2 ∨ p = 3 := by omega
  have hq' : q = 0 ∨ q = 1 := by omega
  have hy' : y = 0 ∨ y = 1 ∨ y = 2 ∨ y = 3 ∨ y = 4 ∨ y = 5 ∨ y = 6 ∨ y = 7 := by omega
  have ms2 : (r.sp + 1) % 65536 = (r.sp + 1) % 65536 := rfl
  have m2 : ∀ a : Int, ((a + 1) % 65536 + 1) % 65536 = (a + 2) % 65536 := by intro a; omega
  unfold controlN highW
  rcases hz' with rfl | rfl | rfl | rfl | rfl | rfl | rfl | rfl
  · simp [backW]; simp only [Tr.bind, Tr.Rel, RR, askN, readN, writeN, inN, outN, pauseN, Ms.pc, Ms.sp, Ms.wz, Ms.af, Ms.pcUp, glanceN, fetchN, numberN, wordN, wordAtN, Ms.spDown, pushN, popN, Ms.goTo, Ms.a, Ms.f, Ms.setA, Ms.setF, Ms.hl, Ms.setHL, Ms.pair, Ms.setPair, Ms.holds, cycW, statesW, readW, writeW, Ws.pc, Ws.sp, Ws.wz, Ws.hlTo, Ws.af, Ws.tick, Ws.pcUp, Ws.a, Ws.f, fetchW, numberW, wordW, Ws.spDown, Ws.spUp, pushW, popW, Ws.hl, Ws.setHl, Ws.setP, Ws.setP0, Ws.know, Ws.mTo]; refine ⟨trivial, fun b hb => ?_⟩; split <;> simp only [Tr.bind, Tr.Rel, RR, askN, readN, writeN, inN, outN, pauseN, Ms.pc, Ms.sp, Ms.wz, Ms.af, Ms.pcUp, glanceN, fetchN, numberN, wordN, wordAtN, Ms.spDown, pushN, popN, Ms.goTo, Ms.a, Ms.f, Ms.setA, Ms.setF, Ms.hl, Ms.setHL, Ms.pair, Ms.setPair, Ms.holds, cycW, statesW, readW, writeW, Ws.pc, Ws.sp, Ws.wz, Ws.hlTo, Ws.af, Ws.tick, Ws.pcUp, Ws.a, Ws.f, fetchW, numberW, wordW, Ws.spDown, Ws.spUp, pushW, popW, Ws.hl, Ws.setHl, Ws.setP, Ws.setP0, Ws.know, Ws.mTo] <;> simp [m2]
  · rcases hq' with rfl | rfl <;> rcases hp' with rfl | rfl | rfl | rfl <;> simp [popsN, popsW, backW] <;> simp only [Tr.bind, Tr.Rel, RR, askN, readN, writeN, inN, outN, pauseN, Ms.pc, Ms.sp, Ms.wz, Ms.af, Ms.pcUp, glanceN, fetchN, numberN, wordN, wordAtN, Ms.spDown, pushN, popN, Ms.goTo, Ms.a, Ms.f, Ms.setA, Ms.setF, Ms.hl, Ms.setHL, Ms.pair, Ms.setPair, Ms.holds, cycW, statesW, readW, writeW, Ws.pc, Ws.sp, Ws.wz, Ws.hlTo, Ws.af, Ws.tick, Ws.pcUp, Ws.a, Ws.f, fetchW, numberW, wordW, Ws.spDown, Ws.spUp, pushW, popW, Ws.hl, Ws.setHl, Ws.setP, Ws.setP0, Ws.know, Ws.mTo] <;> simp [m2]
  · simp; simp only [Tr.bind, Tr.Rel, RR, askN, readN, writeN, inN, outN, pauseN, Ms.pc, Ms.sp, Ms.wz, Ms.af, Ms.pcUp, glanceN, fetchN, numberN, wordN, wordAtN, Ms.spDown, pushN, popN, Ms.goTo, Ms.a, Ms.f, Ms.setA, Ms.setF, Ms.hl, Ms.setHL, Ms.pair, Ms.setPair, Ms.holds, cycW, statesW, readW, writeW, Ws.pc, Ws.sp, Ws.wz, Ws.hlTo, Ws.af, Ws.tick, Ws.pcUp, Ws.a, Ws.f, fetchW, numberW, wordW, Ws.spDown, Ws.spUp, pushW, popW, Ws.hl, Ws.setHl, Ws.setP, Ws.setP0, Ws.know, Ws.mTo]; simp; intro b hb c hc; split <;> simp only [Tr.bind, Tr.Rel, RR, askN, readN, writeN, inN, outN, pauseN, Ms.pc, Ms.sp, Ms.wz, Ms.af, Ms.pcUp, glanceN, fetchN, numberN, wordN, wordAtN, Ms.spDown, pushN, popN, Ms.goTo, Ms.a, Ms.f, Ms.setA, Ms.setF, Ms.hl, Ms.setHL, Ms.pair, Ms.setPair, Ms.holds, cycW, statesW, readW, writeW, Ws.pc, Ws.sp, Ws.wz, Ws.hlTo, Ws.af, Ws.tick, Ws.pcUp, Ws.a, Ws.f, fetchW, numberW, wordW, Ws.spDown, Ws.spUp, pushW, popW, Ws.hl, Ws.setHl, Ws.setP, Ws.setP0, Ws.know, Ws.mTo]
  · rcases hy' with rfl | rfl | rfl | rfl | rfl | rfl | rfl | rfl <;> simp [singleN, portsW, trailA, exchangeTopN, storeAN] <;> simp only [Tr.bind, Tr.Rel, RR, askN, readN, writeN, inN, outN, pauseN, Ms.pc, Ms.sp, Ms.wz, Ms.af, Ms.pcUp, glanceN, fetchN, numberN, wordN, wordAtN, Ms.spDown, pushN, popN, Ms.goTo, Ms.a, Ms.f, Ms.setA, Ms.setF, Ms.hl, Ms.setHL, Ms.pair, Ms.setPair, Ms.holds, cycW, statesW, readW, writeW, Ws.pc, Ws.sp, Ws.wz, Ws.hlTo, Ws.af, Ws.tick, Ws.pcUp, Ws.a, Ws.f, fetchW, numberW, wordW, Ws.spDown, Ws.spUp, pushW, popW, Ws.hl, Ws.setHl, Ws.setP, Ws.setP0, Ws.know, Ws.mTo] <;> simp [setPairG]
    all_goals (intros; repeat' split) <;> rfl
  · simp [callN, callW]; simp only [Tr.bind, Tr.Rel, RR, askN, readN, writeN, inN, outN, pauseN, Ms.pc, Ms.sp, Ms.wz, Ms.af, Ms.pcUp, glanceN, fetchN, numberN, wordN, wordAtN, Ms.spDown, pushN, popN, Ms.goTo, Ms.a, Ms.f, Ms.setA, Ms.setF, Ms.hl, Ms.setHL, Ms.pair, Ms.setPair, Ms.holds, cycW, statesW, readW, writeW, Ws.pc, Ws.sp, Ws.wz, Ws.hlTo, Ws.af, Ws.tick, Ws.pcUp, Ws.a, Ws.f, fetchW, numberW, wordW, Ws.spDown, Ws.spUp, pushW, popW, Ws.hl, Ws.setHl, Ws.setP, Ws.setP0, Ws.know, Ws.mTo]; simp; intro b hb c hc; split <;> simp only [Tr.bind, Tr.Rel, RR, askN, readN, writeN, inN, outN, pauseN, Ms.pc, Ms.sp, Ms.wz, Ms.af, Ms.pcUp, glanceN, fetchN, numberN, wordN, wordAtN, Ms.spDown, pushN, popN, Ms.goTo, Ms.a, Ms.f, Ms.setA, Ms.setF, Ms.hl, Ms.setHL, Ms.pair, Ms.setPair, Ms.holds, cycW, statesW, readW, writeW, Ws.pc, Ws.sp, Ws.wz, Ws.hlTo, Ws.af, Ws.tick, Ws.pcUp, Ws.a, Ws.f, fetchW, numberW, wordW, Ws.spDown, Ws.spUp, pushW, popW, Ws.hl, Ws.setHl, Ws.setP, Ws.setP0, Ws.know, Ws.mTo] <;> simp
  · rcases hq' with rfl | rfl
    · by_cases h3 : p = 3
      · subst h3; simp [pushesN]; simp only [Tr.bind, Tr.Rel, RR, askN, readN, writeN, inN, outN, pauseN, Ms.pc, Ms.sp, Ms.wz, Ms.af, Ms.pcUp, glanceN, fetchN, numberN, wordN, wordAtN, Ms.spDown, pushN, popN, Ms.goTo, Ms.a, Ms.f, Ms.setA, Ms.setF, Ms.hl, Ms.setHL, Ms.pair, Ms.setPair, Ms.holds, cycW, statesW, readW, writeW, Ws.pc, Ws.sp, Ws.wz, Ws.hlTo, Ws.af, Ws.tick, Ws.pcUp, Ws.a, Ws.f, fetchW, numberW, wordW, Ws.spDown, Ws.spUp, pushW, popW, Ws.hl, Ws.setHl, Ws.setP, Ws.setP0, Ws.know, Ws.mTo]; simp; simp only [Tr.bind, Tr.Rel, RR, askN, readN, writeN, inN, outN, pauseN, Ms.pc, Ms.sp, Ms.wz, Ms.af, Ms.pcUp, glanceN, fetchN, numberN, wordN, wordAtN, Ms.spDown, pushN, popN, Ms.goTo, Ms.a, Ms.f, Ms.setA, Ms.setF, Ms.hl, Ms.setHL, Ms.pair, Ms.setPair, Ms.holds, cycW, statesW, readW, writeW, Ws.pc, Ws.sp, Ws.wz, Ws.hlTo, Ws.af, Ws.tick, Ws.pcUp, Ws.a, Ws.f, fetchW, numberW, wordW, Ws.spDown, Ws.spUp, pushW, popW, Ws.hl, Ws.setHl, Ws.setP, Ws.setP0, Ws.know, Ws.mTo]; simp
      · simp [pushesN, h3]; simp only [Tr.bind, Tr.Rel, RR, askN, readN, writeN, inN, outN, pauseN, Ms.pc, Ms.sp, Ms.wz, Ms.af, Ms.pcUp, glanceN, fetchN, numberN, wordN, wordAtN, Ms.spDown, pushN, popN, Ms.goTo, Ms.a, Ms.f, Ms.setA, Ms.setF, Ms.hl, Ms.setHL, Ms.pair, Ms.setPair, Ms.holds, cycW, statesW, readW, writeW, Ws.pc, Ws.sp, Ws.wz, Ws.hlTo, Ws.af, Ws.tick, Ws.pcUp, Ws.a, Ws.f, fetchW, numberW, wordW, Ws.spDown, Ws.spUp, pushW, popW, Ws.hl, Ws.setHl, Ws.setP, Ws.setP0, Ws.know, Ws.mTo]; simp [h3]; simp only [Tr.bind, Tr.Rel, RR, askN, readN, writeN, inN, outN, pauseN, Ms.pc, Ms.sp, Ms.wz, Ms.af, Ms.pcUp, glanceN, fetchN, numberN, wordN, wordAtN, Ms.spDown, pushN, popN, Ms.goTo, Ms.a, Ms.f, Ms.setA, Ms.setF, Ms.hl, Ms.setHL, Ms.pair, Ms.setPair, Ms.holds, cycW, statesW, readW, writeW, Ws.pc, Ws.sp, Ws.wz, Ws.hlTo, Ws.af, Ws.tick, Ws.pcUp, Ws.a, Ws.f, fetchW, numberW, wordW, Ws.spDown, Ws.spUp, pushW, popW, Ws.hl, Ws.setHl, Ws.setP, Ws.setP0, Ws.know, Ws.mTo]; simp
    · simp [pushesN, callN, callW]; simp only [Tr.bind, Tr.Rel, RR, askN, readN, writeN, inN, outN, pauseN, Ms.pc, Ms.sp, Ms.wz, Ms.af, Ms.pcUp, glanceN, fetchN, numberN, wordN, wordAtN, Ms.spDown, pushN, popN, Ms.goTo, Ms.a, Ms.f, Ms.setA, Ms.setF, Ms.hl, Ms.setHL, Ms.pair, Ms.setPair, Ms.holds, cycW, statesW, readW, writeW, Ws.pc, Ws.sp, Ws.wz, Ws.hlTo, Ws.af, Ws.tick, Ws.pcUp, Ws.a, Ws.f, fetchW, numberW, wordW, Ws.spDown, Ws.spUp, pushW, popW, Ws.hl, Ws.setHl, Ws.setP, Ws.setP0, Ws.know, Ws.mTo]; simp
  · simp; simp only [Tr.bind, Tr.Rel, RR, askN, readN, writeN, inN, outN, pauseN, Ms.pc, Ms.sp, Ms.wz, Ms.af, Ms.pcUp, glanceN, fetchN, numberN, wordN, wordAtN, Ms.spDown, pushN, popN, Ms.goTo, Ms.a, Ms.f, Ms.setA, Ms.setF, Ms.hl, Ms.setHL, Ms.pair, Ms.setPair, Ms.holds, cycW, statesW, readW, writeW, Ws.pc, Ws.sp, Ws.wz, Ws.hlTo, Ws.af, Ws.tick, Ws.pcUp, Ws.a, Ws.f, fetchW, numberW, wordW, Ws.spDown, Ws.spUp, pushW, popW, Ws.hl, Ws.setHl, Ws.setP, Ws.setP0, Ws.know, Ws.mTo]; simp; intro b hb; exact arith_sum _ _ _ _ _ _ _ _ _ _ _ _ _ hy
  · simp; simp only [Tr.bind, Tr.Rel, RR, askN, readN, writeN, inN, outN, pauseN, Ms.pc, Ms.sp, Ms.wz, Ms.af, Ms.pcUp, glanceN, fetchN, numberN, wordN, wordAtN, Ms.spDown, pushN, popN, Ms.goTo, Ms.a, Ms.f, Ms.setA, Ms.setF, Ms.hl, Ms.setHL, Ms.pair, Ms.setPair, Ms.holds, cycW, statesW, readW, writeW, Ws.pc, Ws.sp, Ws.wz, Ws.hlTo, Ws.af, Ws.tick, Ws.pcUp, Ws.a, Ws.f, fetchW, numberW, wordW, Ws.spDown, Ws.spUp, pushW, popW, Ws.hl, Ws.setHl, Ws.setP, Ws.setP0, Ws.know, Ws.mTo]; simp
theorem nlow_same (r : Rg) (plane x y z p q : Int) (code : Int) (hz : 0 ≤ z ∧ z ≤ 7) (hy : 0 ≤ y ∧ y ≤ 7) (hp : p = y / 2) (hq : q = y % 2) (hn : nearM plane code = false) (h6 : z = 4 ∨ z = 5 ∨ z = 6 → y = 6 → plane = 0) :
    (variousN ⟨r, plane, x, y, z, p, q, r.hl, false⟩).Rel RR (lowW y z p q ⟨r, plane, code, 0, false⟩) := by
  have hz' : z = 0 ∨ z = 1 ∨ z = 2 ∨ z = 3 ∨ z = 4 ∨ z = 5 ∨ z = 6 ∨ z = 7 := by omega
  have hy' : y = 0 ∨ y = 1 ∨ y = 2 ∨ y = 3 ∨ y = 4 ∨ y = 5 ∨ y = 6 ∨ y = 7 := by omega
  have hq' : q = 0 ∨ q = 1 := by omega
  unfold variousN lowW
  rcases hz' with rfl | rfl | rfl | rfl | rfl | rfl | rfl | rfl
  · rcases hy' with rfl | rfl | rfl | rfl | rfl | rfl | rfl | rfl <;> simp [branchN, hopsW, jumpByN, hopW, Ms.left, Ms.lessB, Ws.left, Ws.less, getG, setG, pairG, setPairG] <;> simp only [Tr.bind, Tr.Rel, RR, askN, readN, writeN, inN, outN, pauseN, Ms.pc, Ms.sp, Ms.wz, Ms.af, Ms.pcUp, glanceN, fetchN, numberN, wordN, wordAtN, Ms.spDown, pushN, popN, Ms.goTo, Ms.a, Ms.f, Ms.setA, Ms.setF, Ms.hl, Ms.setHL, Ms.pair, Ms.setPair, Ms.holds, cycW, statesW, readW, writeW, Ws.pc, Ws.sp, Ws.wz, Ws.hlTo, Ws.af, Ws.tick, Ws.pcUp, Ws.a, Ws.f, fetchW, numberW, wordW, Ws.spDown, Ws.spUp, pushW, popW, Ws.hl, Ws.setHl, Ws.setP, Ws.setP0, Ws.know, Ws.mTo] <;> simp
    all_goals (intros; split <;> simp only [Tr.bind, Tr.Rel, RR, askN, readN, writeN, inN, outN, pauseN, Ms.pc, Ms.sp, Ms.wz, Ms.af, Ms.pcUp, glanceN, fetchN, numberN, wordN, wordAtN, Ms.spDown, pushN, popN, Ms.goTo, Ms.a, Ms.f, Ms.setA, Ms.setF, Ms.hl, Ms.setHL, Ms.pair, Ms.setPair, Ms.holds, cycW, statesW, readW, writeW, Ws.pc, Ws.sp, Ws.wz, Ws.hlTo, Ws.af, Ws.tick, Ws.pcUp, Ws.a, Ws.f, fetchW, numberW, wordW, Ws.spDown, Ws.spUp, pushW, popW, Ws.hl, Ws.setHl, Ws.setP, Ws.setP0, Ws.know, Ws.mTo] <;> simp)
  · rcases hq' with h | h <;> rw [h] <;> simp [wholePairN] <;> simp only [Tr.bind, Tr.Rel, RR, askN, readN, writeN, inN, outN, pauseN, Ms.pc, Ms.sp, Ms.wz, Ms.af, Ms.pcUp, glanceN, fetchN, numberN, wordN, wordAtN, Ms.spDown, pushN, popN, Ms.goTo, Ms.a, Ms.f, Ms.setA, Ms.setF, Ms.hl, Ms.setHL, Ms.pair, Ms.setPair, Ms.holds, cycW, statesW, readW, writeW, Ws.pc, Ws.sp, Ws.wz, Ws.hlTo, Ws.af, Ws.tick, Ws.pcUp, Ws.a, Ws.f, fetchW, numberW, wordW, Ws.spDown, Ws.spUp, pushW, popW, Ws.hl, Ws.setHl, Ws.setP, Ws.setP0, Ws.know, Ws.mTo] <;> simp [pairG, setPairG]
    all_goals (repeat' split) <;> first | rfl | simp_all
  · rcases hy' with rfl | rfl | rfl | rfl | rfl | rfl | rfl | rfl <;> subst hp <;> simp [throughPlaceN, storesW, storeAN, storeAW, loadAN, loadAW, storeWordN, loadWordN, trailA] <;> simp only [Tr.bind, Tr.Rel, RR, askN, readN, writeN, inN, outN, pauseN, Ms.pc, Ms.sp, Ms.wz, Ms.af, Ms.pcUp, glanceN, fetchN, numberN, wordN, wordAtN, Ms.spDown, pushN, popN, Ms.goTo, Ms.a, Ms.f, Ms.setA, Ms.setF, Ms.hl, Ms.setHL, Ms.pair, Ms.setPair, Ms.holds, cycW, statesW, readW, writeW, Ws.pc, Ws.sp, Ws.wz, Ws.hlTo, Ws.af, Ws.tick, Ws.pcUp, Ws.a, Ws.f, fetchW, numberW, wordW, Ws.spDown, Ws.spUp, pushW, popW, Ws.hl, Ws.setHl, Ws.setP, Ws.setP0, Ws.know, Ws.mTo] <;> simp [pairG, setPairG]
    all_goals (intros; repeat' split) <;> first | rfl | simp_all
  · rcases hq' with h | h <;> rw [h] <;> simp [stepPairN] <;> repeat (first | simp only [Tr.bind, Tr.Rel, RR, askN, readN, writeN, inN, outN, pauseN, Ms.pc, Ms.sp, Ms.wz, Ms.af, Ms.pcUp, glanceN, fetchN, numberN, wordN, wordAtN, Ms.spDown, pushN, popN, Ms.goTo, Ms.a, Ms.f, Ms.setA, Ms.setF, Ms.hl, Ms.setHL, Ms.pair, Ms.setPair, Ms.holds, cycW, statesW, readW, writeW, Ws.pc, Ws.sp, Ws.wz, Ws.hlTo, Ws.af, Ws.tick, Ws.pcUp, Ws.a, Ws.f, fetchW, numberW, wordW, Ws.spDown, Ws.spUp, pushW, popW, Ws.hl, Ws.setHl, Ws.setP, Ws.setP0, Ws.know, Ws.mTo] | simp)
  · by_cases h : y = 6
    · have hpl := h6 (by omega) h
      subst h; subst hpl; simp [countN, stepW, getN, putN, getW, setW, whereW]; repeat (first | simp only [Tr.bind, Tr.Rel, RR, askN, readN, writeN, inN, outN, pauseN, Ms.pc, Ms.sp, Ms.wz, Ms.af, Ms.pcUp, glanceN, fetchN, numberN, wordN, wordAtN, Ms.spDown, pushN, popN, Ms.goTo, Ms.a, Ms.f, Ms.setA, Ms.setF, Ms.hl, Ms.setHL, Ms.pair, Ms.setPair, Ms.holds, cycW, statesW, readW, writeW, Ws.pc, Ws.sp, Ws.wz, Ws.hlTo, Ws.af, Ws.tick, Ws.pcUp, Ws.a, Ws.f, fetchW, numberW, wordW, Ws.spDown, Ws.spUp, pushW, popW, Ws.hl, Ws.setHl, Ws.setP, Ws.setP0, Ws.know, Ws.mTo] | simp)
    · simp [countN, stepW, getN, putN, getW, setW, throughW, hn, h]; repeat (first | simp only [Tr.bind, Tr.Rel, RR, askN, readN, writeN, inN, outN, pauseN, Ms.pc, Ms.sp, Ms.wz, Ms.af, Ms.pcUp, glanceN, fetchN, numberN, wordN, wordAtN, Ms.spDown, pushN, popN, Ms.goTo, Ms.a, Ms.f, Ms.setA, Ms.setF, Ms.hl, Ms.setHL, Ms.pair, Ms.setPair, Ms.holds, cycW, statesW, readW, writeW, Ws.pc, Ws.sp, Ws.wz, Ws.hlTo, Ws.af, Ws.tick, Ws.pcUp, Ws.a, Ws.f, fetchW, numberW, wordW, Ws.spDown, Ws.spUp, pushW, popW, Ws.hl, Ws.setHl, Ws.setP, Ws.setP0, Ws.know, Ws.mTo] | simp [hn, h])
  · by_cases h : y = 6
    · have hpl := h6 (by omega) h
      subst h; subst hpl; simp [countN, stepW, getN, putN, getW, setW, whereW]; repeat (first | simp only [Tr.bind, Tr.Rel, RR, askN, readN, writeN, inN, outN, pauseN, Ms.pc, Ms.sp, Ms.wz, Ms.af, Ms.pcUp, glanceN, fetchN, numberN, wordN, wordAtN, Ms.spDown, pushN, popN, Ms.goTo, Ms.a, Ms.f, Ms.setA, Ms.setF, Ms.hl, Ms.setHL, Ms.pair, Ms.setPair, Ms.holds, cycW, statesW, readW, writeW, Ws.pc, Ws.sp, Ws.wz, Ws.hlTo, Ws.af, Ws.tick, Ws.pcUp, Ws.a, Ws.f, fetchW, numberW, wordW, Ws.spDown, Ws.spUp, pushW, popW, Ws.hl, Ws.setHl, Ws.setP, Ws.setP0, Ws.know, Ws.mTo] | simp)
    · simp [countN, stepW, getN, putN, getW, setW, throughW, hn, h]; repeat (first | simp only [Tr.bind, Tr.Rel, RR, askN, readN, writeN, inN, outN, pauseN, Ms.pc, Ms.sp, Ms.wz, Ms.af, Ms.pcUp, glanceN, fetchN, numberN, wordN, wordAtN, Ms.spDown, pushN, popN, Ms.goTo, Ms.a, Ms.f, Ms.setA, Ms.setF, Ms.hl, Ms.setHL, Ms.pair, Ms.setPair, Ms.holds, cycW, statesW, readW, writeW, Ws.pc, Ws.sp, Ws.wz, Ws.hlTo, Ws.af, Ws.tick, Ws.pcUp, Ws.a, Ws.f, fetchW, numberW, wordW, Ws.spDown, Ws.spUp, pushW, popW, Ws.hl, Ws.setHl, Ws.setP, Ws.setP0, Ws.know, Ws.mTo] | simp [hn, h])
  · by_cases h : y = 6
    · have hpl := h6 (by omega) h
      subst h; subst hpl; simp [loadNumberN, putN, setW, whereW]; repeat (first | simp only [Tr.bind, Tr.Rel, RR, askN, readN, writeN, inN, outN, pauseN, Ms.pc, Ms.sp, Ms.wz, Ms.af, Ms.pcUp, glanceN, fetchN, numberN, wordN, wordAtN, Ms.spDown, pushN, popN, Ms.goTo, Ms.a, Ms.f, Ms.setA, Ms.setF, Ms.hl, Ms.setHL, Ms.pair, Ms.setPair, Ms.holds, cycW, statesW, readW, writeW, Ws.pc, Ws.sp, Ws.wz, Ws.hlTo, Ws.af, Ws.tick, Ws.pcUp, Ws.a, Ws.f, fetchW, numberW, wordW, Ws.spDown, Ws.spUp, pushW, popW, Ws.hl, Ws.setHl, Ws.setP, Ws.setP0, Ws.know, Ws.mTo] | simp)
    · simp [loadNumberN, putN, setW, throughW, hn, h]; repeat (first | simp only [Tr.bind, Tr.Rel, RR, askN, readN, writeN, inN, outN, pauseN, Ms.pc, Ms.sp, Ms.wz, Ms.af, Ms.pcUp, glanceN, fetchN, numberN, wordN, wordAtN, Ms.spDown, pushN, popN, Ms.goTo, Ms.a, Ms.f, Ms.setA, Ms.setF, Ms.hl, Ms.setHL, Ms.pair, Ms.setPair, Ms.holds, cycW, statesW, readW, writeW, Ws.pc, Ws.sp, Ws.wz, Ws.hlTo, Ws.af, Ws.tick, Ws.pcUp, Ws.a, Ws.f, fetchW, numberW, wordW, Ws.spDown, Ws.spUp, pushW, popW, Ws.hl, Ws.setHl, Ws.setP, Ws.setP0, Ws.know, Ws.mTo] | simp [hn, h])
  · unfold adjustN turnW
    simp
    repeat' split
    all_goals first | rfl | exact trivial | simp_all
theorem load_same (r : Rg) (plane y z p q : Int) (code : Int) (hn : nearM plane code = false) (hh : ¬ (y = 6 ∧ z = 6)) (h6 : y = 6 ∨ z = 6 → plane = 0) :
    (loadN ⟨r, plane, 1, y, z, p, q, r.hl, false⟩).Rel RR ((getW z ⟨r, plane, code, 0, false⟩).bind fun b => setW y b.1 b.2) := by
  by_cases hy : y = 6
  · have hpl := h6 (.inl hy)
    subst hy; subst hpl
    have hz : z ≠ 6 := fun h => hh ⟨rfl, h⟩
    simp [loadN, hz, getN, putN, getW, setW, whereW, throughW, hn]; repeat (first | simp only [Tr.bind, Tr.Rel, RR, askN, readN, writeN, inN, outN, pauseN, Ms.pc, Ms.sp, Ms.wz, Ms.af, Ms.pcUp, glanceN, fetchN, numberN, wordN, wordAtN, Ms.spDown, pushN, popN, Ms.goTo, Ms.a, Ms.f, Ms.setA, Ms.setF, Ms.hl, Ms.setHL, Ms.pair, Ms.setPair, Ms.holds, cycW, statesW, readW, writeW, Ws.pc, Ws.sp, Ws.wz, Ws.hlTo, Ws.af, Ws.tick, Ws.pcUp, Ws.a, Ws.f, fetchW, numberW, wordW, Ws.spDown, Ws.spUp, pushW, popW, Ws.hl, Ws.setHl, Ws.setP, Ws.setP0, Ws.know, Ws.mTo] | simp [hn])
  · by_cases hz : z = 6
    · have hpl := h6 (.inr hz)
      subst hz; subst hpl
      simp [loadN, hy, getN, putN, getW, setW, whereW, throughW, hn]; repeat (first | simp only [Tr.bind, Tr.Rel, RR, askN, readN, writeN, inN, outN, pauseN, Ms.pc, Ms.sp, Ms.wz, Ms.af, Ms.pcUp, glanceN, fetchN, numberN, wordN, wordAtN, Ms.spDown, pushN, popN, Ms.goTo, Ms.a, Ms.f, Ms.setA, Ms.setF, Ms.hl, Ms.setHL, Ms.pair, Ms.setPair, Ms.holds, cycW, statesW, readW, writeW, Ws.pc, Ws.sp, Ws.wz, Ws.hlTo, Ws.af, Ws.tick, Ws.pcUp, Ws.a, Ws.f, fetchW, numberW, wordW, Ws.spDown, Ws.spUp, pushW, popW, Ws.hl, Ws.setHl, Ws.setP, Ws.setP0, Ws.know, Ws.mTo] | simp [hn])
    · simp [loadN, hy, hz, getN, putN, getW, setW, whereW, throughW, hn]; repeat (first | simp only [Tr.bind, Tr.Rel, RR, askN, readN, writeN, inN, outN, pauseN, Ms.pc, Ms.sp, Ms.wz, Ms.af, Ms.pcUp, glanceN, fetchN, numberN, wordN, wordAtN, Ms.spDown, pushN, popN, Ms.goTo, Ms.a, Ms.f, Ms.setA, Ms.setF, Ms.hl, Ms.setHL, Ms.pair, Ms.setPair, Ms.holds, cycW, statesW, readW, writeW, Ws.pc, Ws.sp, Ws.wz, Ws.hlTo, Ws.af, Ws.tick, Ws.pcUp, Ws.a, Ws.f, fetchW, numberW, wordW, Ws.spDown, Ws.spUp, pushW, popW, Ws.hl, Ws.setHl, Ws.setP, Ws.setP0, Ws.know, Ws.mTo] | simp [hn])
theorem reckon_same (r : Rg) (plane y z p q : Int) (code : Int) (hn : nearM plane code = false) (hy : 0 ≤ y ∧ y ≤ 7) (h6 : z = 6 → plane = 0) :
    (reckonN ⟨r, plane, 2, y, z, p, q, r.hl, false⟩).Rel RR ((getW z ⟨r, plane, code, 0, false⟩).bind fun b => .done (sumW y b.1 b.2)) := by
  by_cases hz : z = 6
  · have hpl := h6 hz
    subst hz; subst hpl
    simp [reckonN, getN, getW, whereW]; repeat (first | simp only [Tr.bind, Tr.Rel, RR, askN, readN, writeN, inN, outN, pauseN, Ms.pc, Ms.sp, Ms.wz, Ms.af, Ms.pcUp, glanceN, fetchN, numberN, wordN, wordAtN, Ms.spDown, pushN, popN, Ms.goTo, Ms.a, Ms.f, Ms.setA, Ms.setF, Ms.hl, Ms.setHL, Ms.pair, Ms.setPair, Ms.holds, cycW, statesW, readW, writeW, Ws.pc, Ws.sp, Ws.wz, Ws.hlTo, Ws.af, Ws.tick, Ws.pcUp, Ws.a, Ws.f, fetchW, numberW, wordW, Ws.spDown, Ws.spUp, pushW, popW, Ws.hl, Ws.setHl, Ws.setP, Ws.setP0, Ws.know, Ws.mTo] | simp [hn])
    intro b hb; exact arith_sum _ _ _ _ _ _ _ _ _ _ _ _ _ hy
  · simp [reckonN, hz, getN, getW, throughW, hn]; repeat (first | simp only [Tr.bind, Tr.Rel, RR, askN, readN, writeN, inN, outN, pauseN, Ms.pc, Ms.sp, Ms.wz, Ms.af, Ms.pcUp, glanceN, fetchN, numberN, wordN, wordAtN, Ms.spDown, pushN, popN, Ms.goTo, Ms.a, Ms.f, Ms.setA, Ms.setF, Ms.hl, Ms.setHL, Ms.pair, Ms.setPair, Ms.holds, cycW, statesW, readW, writeW, Ws.pc, Ws.sp, Ws.wz, Ws.hlTo, Ws.af, Ws.tick, Ws.pcUp, Ws.a, Ws.f, fetchW, numberW, wordW, Ws.spDown, Ws.spUp, pushW, popW, Ws.hl, Ws.setHl, Ws.setP, Ws.setP0, Ws.know, Ws.mTo] | simp [hn])
    exact arith_sum _ _ _ _ _ _ _ _ _ _ _ _ _ hy
theorem arith_sum2 (r : Rg) (plane x y z p q spot : Int) (near : Bool) (pl2 code m : Int) (known : Bool) (b : Int) (hy : 0 ≤ y ∧ y ≤ 7) : (arithN b ⟨r, plane, x, y, z, p, q, spot, near⟩).r = (sumW y b ⟨r, pl2, code, m, known⟩).r := by
  have hc : ∀ t : Bool, ((one t) != 0) = t := by intro t; cases t <;> rfl
  unfold arithN sumW
  dsimp only [Ms.carry, Ms.f, Ms.a, Ws.a, Ws.f, Ms.af, Ws.af]
  simp only [hc]
  repeat' split
  all_goals first | rfl | omega
theorem near3 {plane c : Int} (h : nearM plane c = true) (hp : plane = 0 ∨ plane = 3 ∨ plane = 4) : (plane = 3 ∨ plane = 4) ∧ pointsM c = true := by
  unfold nearM at h
  by_cases hq : plane = 3 ∨ plane = 4
  · rw [if_pos hq] at h; exact ⟨hq, h⟩
  · rw [if_neg hq] at h
    rcases hp with rfl | rfl | rfl <;> simp [aheadM] at h hq
theorem far_points {plane c : Int} (h : nearM plane c = false) (hq : plane = 3 ∨ plane = 4) : pointsM c = false := by
  unfold nearM at h
  rwa [if_pos hq] at h
theorem near_same (s : Ms) (c : Int) (hs : MsB s) (hnr : s.near = false) (hc : B8 c) (h : nearM s.plane c = true) :
    ((aloneHead c s.atHL).bind quarterN).Rel RR (plainW s.plane c ⟨s.r, 0, 0, 0, false⟩) := by
  obtain ⟨r, plane, x0, y0, z0, p0, q0, spot, near⟩ := s
  obtain ⟨hp34, hpt⟩ := near3 h hs.plane
  have hx' : fx c = 0 ∨ fx c = 1 ∨ fx c = 2 ∨ fx c = 3 := by unfold fx; have := hc.1; have := hc.2; omega
  have hz' : 0 ≤ fz c ∧ fz c ≤ 7 := by unfold fz; omega
  have hy' : 0 ≤ fy c ∧ fy c ≤ 7 := by unfold fy; omega
  simp only at hp34
  have hg : ∀ (g : Rg) (y : Int), getG g 0 y = getG g 0 y := fun _ _ => rfl
  unfold pointsM at hpt
  unfold aloneHead plainW
  rcases hx' with hx | hx | hx | hx <;> simp only [hx] at hpt ⊢ <;> simp at hpt
  · obtain ⟨hy, hz⟩ := hpt
    have hz3 : fz c = 4 ∨ fz c = 5 ∨ fz c = 6 := by omega
    rcases hz3 with hz | hz | hz <;> rcases hp34 with rfl | rfl <;>
      simp [Ms.atHL, Ms.split, Ws.at_, hx, hy, hz, h, aimN, lowW, stepW, getW, setW, whereW, quarterN, variousN, countN, loadNumberN, getN, putN] <;> repeat (first | simp only [Tr.bind, Tr.Rel, RR, askN, readN, writeN, inN, outN, pauseN, Ms.pc, Ms.sp, Ms.wz, Ms.af, Ms.pcUp, glanceN, fetchN, numberN, wordN, wordAtN, Ms.spDown, pushN, popN, Ms.goTo, Ms.a, Ms.f, Ms.setA, Ms.setF, Ms.hl, Ms.setHL, Ms.pair, Ms.setPair, Ms.holds, cycW, statesW, readW, writeW, Ws.pc, Ws.sp, Ws.wz, Ws.hlTo, Ws.af, Ws.tick, Ws.pcUp, Ws.a, Ws.f, fetchW, numberW, wordW, Ws.spDown, Ws.spUp, pushW, popW, Ws.hl, Ws.setHl, Ws.setP, Ws.setP0, Ws.know, Ws.mTo] | simp [hx, hy, hz, pairG, quarterN, variousN, countN, loadNumberN, getN, putN])
  · rcases hp34 with rfl | rfl <;> by_cases hy : fy c = 6 <;> by_cases hz : fz c = 6 <;> (try simp [hy, hz] at hpt) <;>
      simp [Ms.atHL, Ms.split, Ws.at_, hx, hy, hz, h, aimN, getW, setW, whereW, throughW, quarterN, loadN, getN, putN] <;> repeat (first | simp only [Tr.bind, Tr.Rel, RR, askN, readN, writeN, inN, outN, pauseN, Ms.pc, Ms.sp, Ms.wz, Ms.af, Ms.pcUp, glanceN, fetchN, numberN, wordN, wordAtN, Ms.spDown, pushN, popN, Ms.goTo, Ms.a, Ms.f, Ms.setA, Ms.setF, Ms.hl, Ms.setHL, Ms.pair, Ms.setPair, Ms.holds, cycW, statesW, readW, writeW, Ws.pc, Ws.sp, Ws.wz, Ws.hlTo, Ws.af, Ws.tick, Ws.pcUp, Ws.a, Ws.f, fetchW, numberW, wordW, Ws.spDown, Ws.spUp, pushW, popW, Ws.hl, Ws.setHl, Ws.setP, Ws.setP0, Ws.know, Ws.mTo] | simp [hx, hy, hz, h, pairG, quarterN, loadN, getN, putN])
    all_goals first | (intros; rfl) | exact absurd (by rw [beq_eq_false_iff_ne.2 hy, beq_eq_false_iff_ne.2 hz]) hpt
  · rcases hp34 with rfl | rfl <;> 
      simp [Ms.atHL, Ms.split, Ws.at_, hx, hpt, h, aimN, getW, setW, whereW, throughW, quarterN, reckonN, getN, putN] <;> repeat (first | simp only [Tr.bind, Tr.Rel, RR, askN, readN, writeN, inN, outN, pauseN, Ms.pc, Ms.sp, Ms.wz, Ms.af, Ms.pcUp, glanceN, fetchN, numberN, wordN, wordAtN, Ms.spDown, pushN, popN, Ms.goTo, Ms.a, Ms.f, Ms.setA, Ms.setF, Ms.hl, Ms.setHL, Ms.pair, Ms.setPair, Ms.holds, cycW, statesW, readW, writeW, Ws.pc, Ws.sp, Ws.wz, Ws.hlTo, Ws.af, Ws.tick, Ws.pcUp, Ws.a, Ws.f, fetchW, numberW, wordW, Ws.spDown, Ws.spUp, pushW, popW, Ws.hl, Ws.setHl, Ws.setP, Ws.setP0, Ws.know, Ws.mTo] | simp [hx, hpt, h, pairG, quarterN, reckonN, getN, putN])
    all_goals (intros; exact arith_sum2 _ _ _ _ _ _ _ _ _ _ _ _ _ _ hy')
theorem plain_same (s : Ms) (c : Int) (hs : MsB s) (hnr : s.near = false) (hc : B8 c) :
    ((aloneHead c s.atHL).bind quarterN).Rel RR (plainW s.plane c ⟨s.r, 0, 0, 0, false⟩) := by
  cases h : nearM s.plane c with
  | true => exact near_same s c hs hnr hc h
  | false =>
    obtain ⟨r, plane, x0, y0, z0, p0, q0, spot, near⟩ := s
    have hnr' : near = false := hnr
    subst hnr'
    have hpl : plane = 0 ∨ plane = 3 ∨ plane = 4 := hs.plane
    have h' : nearM plane c = false := h
    have hfar : plane ≠ 0 → pointsM c = false := fun h0 => far_points h' (by omega)
    have hx' : fx c = 0 ∨ fx c = 1 ∨ fx c = 2 ∨ fx c = 3 := by unfold fx; have := hc.1; have := hc.2; omega
    have hz' : 0 ≤ fz c ∧ fz c ≤ 7 := by unfold fz; omega
    have hy' : 0 ≤ fy c ∧ fy c ≤ 7 := by unfold fy; omega
    have hpy : fp c = fy c / 2 := by unfold fp fy; have := hc.1; have := hc.2; omega
    have hqy : fq c = fy c % 2 := by unfold fq fy; have := hc.1; have := hc.2; omega
    have hq' : 0 ≤ fq c ∧ fq c ≤ 1 := by unfold fq; omega
    have hp' : 0 ≤ fp c ∧ fp c ≤ 3 := by unfold fp; omega
    have e : aloneHead c (Ms.atHL ⟨r, plane, x0, y0, z0, p0, q0, spot, false⟩) = .done ⟨r, plane, fx c, fy c, fz c, fp c, fq c, r.hl, false⟩ := by
      unfold aloneHead
      rw [if_neg (by show ¬ nearM plane c = true; rw [h']; simp)]
      rfl
    rw [e, Tr.bind_done]
    unfold quarterN plainW
    show (if fx c = 0 then _ else _ : Tr Ms).Rel RR _
    unfold pointsM at hfar
    rcases hx' with hx | hx | hx | hx <;> simp only [hx] at hfar ⊢
    · exact nlow_same r plane 0 (fy c) (fz c) (fp c) (fq c) c hz' hy' hpy hqy h' (fun h1 h2 => by
        by_cases h0 : plane = 0
        · exact h0
        · have := hfar h0; simp [h2] at this; omega)
    · by_cases hh : fy c = 6 ∧ fz c = 6
      · simp [hh, loadN]; exact rfl
      · simp only [hh]
        exact load_same r plane (fy c) (fz c) (fp c) (fq c) c h' hh (fun h1 => by
          by_cases h0 : plane = 0
          · exact h0
          · have := hfar h0
            rcases h1 with h1 | h1 <;> simp [h1] at this <;> exact absurd ⟨by first | exact h1 | exact this, by first | exact h1 | exact this⟩ hh)
    · exact reckon_same r plane (fy c) (fz c) (fp c) (fq c) c h' hy' (fun h1 => by
        by_cases h0 : plane = 0
        · exact h0
        · have := hfar h0; simp [h1] at this)
    · exact nhigh_same r plane 3 (fy c) (fz c) (fp c) (fq c) r.hl false c 0 false hz' hy' hp' hq'
theorem shown_fin : ∀ b0 b1 b2 b3 c i : Bool, withM (withM (mkM b0 b1 b2 false b3 false false false) 0 c) 2 i = mkM (isM (mkM b0 b1 b2 false b3 false false false) 7) (isM (mkM b0 b1 b2 false b3 false false false) 6) (isM (mkM b0 b1 b2 false b3 false false false) 5) (isM (mkM b0 b1 b2 false b3 false false false) 4) (isM (mkM b0 b1 b2 false b3 false false false) 3) i (isM (mkM b0 b1 b2 false b3 false false false) 1) c := by decide +kernel
theorem shown_eq (b : Int) (c i : Bool) : withM (withM (resultM b) 0 c) 2 i = mkM (isM (resultM b) 7) (isM (resultM b) 6) (isM (resultM b) 5) (isM (resultM b) 4) (isM (resultM b) 3) i (isM (resultM b) 1) c := shown_fin ..
theorem near00 : nearM 0 0 = false := rfl
theorem af_low {a f : Int} (hf : B8 f) : (256 * a + f) % 256 = f := by have := hf.1; have := hf.2; omega
theorem block_same (r : Rg) (x y z p q : Int) (hz : 0 ≤ z ∧ z < 4) (hy : 4 ≤ y ∧ y ≤ 7) (d : Int) :
    (blockSel d ⟨r, 0, x, y, z, p, q, r.hl, false⟩).Rel RR (blockRunW d y z ⟨r, 0, 0, 0, false⟩) := by
  have hz' : z = 0 ∨ z = 1 ∨ z = 2 ∨ z = 3 := by omega
  have hm : ∀ a b bc f, ∀ a2, (256 * a2 + moveF a b bc f) % 256 = moveF a b bc f := fun a b bc f _ => af_low (moveF_byte ..)
  have hf : ∀ a b bc f, ∀ a2, (256 * a2 + findF a b bc f) % 256 = findF a b bc f := fun a b bc f _ => af_low (findF_byte ..)
  have hp : ∀ a b c, ∀ a2, (256 * a2 + passF a b c) % 256 = passF a b c := fun a b c _ => af_low (passF_byte ..)
  have h5 : (5 < y) = (6 ≤ y) := by apply propext; omega
  unfold blockSel blockRunW
  rcases hz' with rfl | rfl | rfl | rfl
  · simp [blockMoveN, tailW]; repeat (first | simp only [Tr.bind, Tr.Rel, RR, askN, readN, writeN, inN, outN, pauseN, Ms.pc, Ms.sp, Ms.wz, Ms.af, Ms.pcUp, glanceN, fetchN, numberN, wordN, wordAtN, Ms.spDown, pushN, popN, Ms.goTo, Ms.a, Ms.f, Ms.setA, Ms.setF, Ms.hl, Ms.setHL, Ms.pair, Ms.setPair, Ms.holds, cycW, statesW, readW, writeW, Ws.pc, Ws.sp, Ws.wz, Ws.hlTo, Ws.af, Ws.tick, Ws.pcUp, Ws.a, Ws.f, fetchW, numberW, wordW, Ws.spDown, Ws.spUp, pushW, popW, Ws.hl, Ws.setHl, Ws.setP, Ws.setP0, Ws.know, Ws.mTo] | simp [Ms.hlBy, Ms.deBy, Ms.bcDown, Ws.hlBy, Ws.deBy, Ws.bcDown, hm, h5])
    intros; split <;> repeat (first | simp only [Tr.bind, Tr.Rel, RR, askN, readN, writeN, inN, outN, pauseN, Ms.pc, Ms.sp, Ms.wz, Ms.af, Ms.pcUp, glanceN, fetchN, numberN, wordN, wordAtN, Ms.spDown, pushN, popN, Ms.goTo, Ms.a, Ms.f, Ms.setA, Ms.setF, Ms.hl, Ms.setHL, Ms.pair, Ms.setPair, Ms.holds, cycW, statesW, readW, writeW, Ws.pc, Ws.sp, Ws.wz, Ws.hlTo, Ws.af, Ws.tick, Ws.pcUp, Ws.a, Ws.f, fetchW, numberW, wordW, Ws.spDown, Ws.spUp, pushW, popW, Ws.hl, Ws.setHl, Ws.setP, Ws.setP0, Ws.know, Ws.mTo] | simp [repeatN])
  · simp [blockFindN, tailW]; repeat (first | simp only [Tr.bind, Tr.Rel, RR, askN, readN, writeN, inN, outN, pauseN, Ms.pc, Ms.sp, Ms.wz, Ms.af, Ms.pcUp, glanceN, fetchN, numberN, wordN, wordAtN, Ms.spDown, pushN, popN, Ms.goTo, Ms.a, Ms.f, Ms.setA, Ms.setF, Ms.hl, Ms.setHL, Ms.pair, Ms.setPair, Ms.holds, cycW, statesW, readW, writeW, Ws.pc, Ws.sp, Ws.wz, Ws.hlTo, Ws.af, Ws.tick, Ws.pcUp, Ws.a, Ws.f, fetchW, numberW, wordW, Ws.spDown, Ws.spUp, pushW, popW, Ws.hl, Ws.setHl, Ws.setP, Ws.setP0, Ws.know, Ws.mTo] | simp [Ms.hlBy, Ms.deBy, Ms.bcDown, Ws.hlBy, Ws.deBy, Ws.bcDown, hf, h5])
    intros; split <;> repeat (first | simp only [Tr.bind, Tr.Rel, RR, askN, readN, writeN, inN, outN, pauseN, Ms.pc, Ms.sp, Ms.wz, Ms.af, Ms.pcUp, glanceN, fetchN, numberN, wordN, wordAtN, Ms.spDown, pushN, popN, Ms.goTo, Ms.a, Ms.f, Ms.setA, Ms.setF, Ms.hl, Ms.setHL, Ms.pair, Ms.setPair, Ms.holds, cycW, statesW, readW, writeW, Ws.pc, Ws.sp, Ws.wz, Ws.hlTo, Ws.af, Ws.tick, Ws.pcUp, Ws.a, Ws.f, fetchW, numberW, wordW, Ws.spDown, Ws.spUp, pushW, popW, Ws.hl, Ws.setHl, Ws.setP, Ws.setP0, Ws.know, Ws.mTo] | simp [repeatN])
  · simp [blockTakeN, tailW]; repeat (first | simp only [Tr.bind, Tr.Rel, RR, askN, readN, writeN, inN, outN, pauseN, Ms.pc, Ms.sp, Ms.wz, Ms.af, Ms.pcUp, glanceN, fetchN, numberN, wordN, wordAtN, Ms.spDown, pushN, popN, Ms.goTo, Ms.a, Ms.f, Ms.setA, Ms.setF, Ms.hl, Ms.setHL, Ms.pair, Ms.setPair, Ms.holds, cycW, statesW, readW, writeW, Ws.pc, Ws.sp, Ws.wz, Ws.hlTo, Ws.af, Ws.tick, Ws.pcUp, Ws.a, Ws.f, fetchW, numberW, wordW, Ws.spDown, Ws.spUp, pushW, popW, Ws.hl, Ws.setHl, Ws.setP, Ws.setP0, Ws.know, Ws.mTo] | simp [Ms.hlBy, Ms.deBy, Ms.bcDown, Ws.hlBy, Ws.deBy, Ws.bcDown, Ms.lessB, Ms.left, Ws.less, Ws.left, getG, setG, pairG, setPairG, hp, h5])
    intros; split <;> repeat (first | simp only [Tr.bind, Tr.Rel, RR, askN, readN, writeN, inN, outN, pauseN, Ms.pc, Ms.sp, Ms.wz, Ms.af, Ms.pcUp, glanceN, fetchN, numberN, wordN, wordAtN, Ms.spDown, pushN, popN, Ms.goTo, Ms.a, Ms.f, Ms.setA, Ms.setF, Ms.hl, Ms.setHL, Ms.pair, Ms.setPair, Ms.holds, cycW, statesW, readW, writeW, Ws.pc, Ws.sp, Ws.wz, Ws.hlTo, Ws.af, Ws.tick, Ws.pcUp, Ws.a, Ws.f, fetchW, numberW, wordW, Ws.spDown, Ws.spUp, pushW, popW, Ws.hl, Ws.setHl, Ws.setP, Ws.setP0, Ws.know, Ws.mTo] | simp [repeatN])
  · simp [blockGiveN, tailW]; repeat (first | simp only [Tr.bind, Tr.Rel, RR, askN, readN, writeN, inN, outN, pauseN, Ms.pc, Ms.sp, Ms.wz, Ms.af, Ms.pcUp, glanceN, fetchN, numberN, wordN, wordAtN, Ms.spDown, pushN, popN, Ms.goTo, Ms.a, Ms.f, Ms.setA, Ms.setF, Ms.hl, Ms.setHL, Ms.pair, Ms.setPair, Ms.holds, cycW, statesW, readW, writeW, Ws.pc, Ws.sp, Ws.wz, Ws.hlTo, Ws.af, Ws.tick, Ws.pcUp, Ws.a, Ws.f, fetchW, numberW, wordW, Ws.spDown, Ws.spUp, pushW, popW, Ws.hl, Ws.setHl, Ws.setP, Ws.setP0, Ws.know, Ws.mTo] | simp [Ms.hlBy, Ms.deBy, Ms.bcDown, Ws.hlBy, Ws.deBy, Ws.bcDown, Ms.lessB, Ms.left, Ws.less, Ws.left, getG, setG, pairG, setPairG, hp, h5])
    intros; split <;> repeat (first | simp only [Tr.bind, Tr.Rel, RR, askN, readN, writeN, inN, outN, pauseN, Ms.pc, Ms.sp, Ms.wz, Ms.af, Ms.pcUp, glanceN, fetchN, numberN, wordN, wordAtN, Ms.spDown, pushN, popN, Ms.goTo, Ms.a, Ms.f, Ms.setA, Ms.setF, Ms.hl, Ms.setHL, Ms.pair, Ms.setPair, Ms.holds, cycW, statesW, readW, writeW, Ws.pc, Ws.sp, Ws.wz, Ws.hlTo, Ws.af, Ws.tick, Ws.pcUp, Ws.a, Ws.f, fetchW, numberW, wordW, Ws.spDown, Ws.spUp, pushW, popW, Ws.hl, Ws.setHl, Ws.setP, Ws.setP0, Ws.know, Ws.mTo] | simp [repeatN])
theorem ed_same (r : Rg) (hr : RgB r) (c : Int) (hc : B8 c) : (quarterE ⟨r, 0, fx c, fy c, fz c, fp c, fq c, r.hl, false⟩).Rel RR (edW c ⟨r, 0, 0, 0, false⟩) := by
  have hx' : fx c = 0 ∨ fx c = 1 ∨ fx c = 2 ∨ fx c = 3 := by unfold fx; have := hc.1; have := hc.2; omega
  have hz' : 0 ≤ fz c ∧ fz c ≤ 7 := by unfold fz; omega
  have hy' : 0 ≤ fy c ∧ fy c ≤ 7 := by unfold fy; omega
  have hqy : fq c = fy c % 2 := by unfold fq fy; have := hc.1; have := hc.2; omega
  unfold quarterE edW
  generalize fx c = x at *
  generalize fy c = y at *
  generalize fz c = z at *
  generalize fp c = p at *
  generalize fq c = q at *
  have hz8 : z = 0 ∨ z = 1 ∨ z = 2 ∨ z = 3 ∨ z = 4 ∨ z = 5 ∨ z = 6 ∨ z = 7 := by omega
  have hy8 : y = 0 ∨ y = 1 ∨ y = 2 ∨ y = 3 ∨ y = 4 ∨ y = 5 ∨ y = 6 ∨ y = 7 := by omega
  have hq' : q = 0 ∨ q = 1 := by omega
  rcases hx' with rfl | rfl | rfl | rfl
  · simp; exact rfl
  · unfold extendedN
    rcases hz8 with rfl | rfl | rfl | rfl | rfl | rfl | rfl | rfl
    · by_cases h : y = 6
      · subst h; simp [takeInN]; repeat (first | simp only [Tr.bind, Tr.Rel, RR, askN, readN, writeN, inN, outN, pauseN, Ms.pc, Ms.sp, Ms.wz, Ms.af, Ms.pcUp, glanceN, fetchN, numberN, wordN, wordAtN, Ms.spDown, pushN, popN, Ms.goTo, Ms.a, Ms.f, Ms.setA, Ms.setF, Ms.hl, Ms.setHL, Ms.pair, Ms.setPair, Ms.holds, cycW, statesW, readW, writeW, Ws.pc, Ws.sp, Ws.wz, Ws.hlTo, Ws.af, Ws.tick, Ws.pcUp, Ws.a, Ws.f, fetchW, numberW, wordW, Ws.spDown, Ws.spUp, pushW, popW, Ws.hl, Ws.setHl, Ws.setP, Ws.setP0, Ws.know, Ws.mTo] | simp)
      · simp [takeInN, h]; repeat (first | simp only [Tr.bind, Tr.Rel, RR, askN, readN, writeN, inN, outN, pauseN, Ms.pc, Ms.sp, Ms.wz, Ms.af, Ms.pcUp, glanceN, fetchN, numberN, wordN, wordAtN, Ms.spDown, pushN, popN, Ms.goTo, Ms.a, Ms.f, Ms.setA, Ms.setF, Ms.hl, Ms.setHL, Ms.pair, Ms.setPair, Ms.holds, cycW, statesW, readW, writeW, Ws.pc, Ws.sp, Ws.wz, Ws.hlTo, Ws.af, Ws.tick, Ws.pcUp, Ws.a, Ws.f, fetchW, numberW, wordW, Ws.spDown, Ws.spUp, pushW, popW, Ws.hl, Ws.setHl, Ws.setP, Ws.setP0, Ws.know, Ws.mTo] | simp [h, putN, setW, throughW, near00])
    · by_cases h : y = 6
      · subst h; simp [giveOutN]; repeat (first | simp only [Tr.bind, Tr.Rel, RR, askN, readN, writeN, inN, outN, pauseN, Ms.pc, Ms.sp, Ms.wz, Ms.af, Ms.pcUp, glanceN, fetchN, numberN, wordN, wordAtN, Ms.spDown, pushN, popN, Ms.goTo, Ms.a, Ms.f, Ms.setA, Ms.setF, Ms.hl, Ms.setHL, Ms.pair, Ms.setPair, Ms.holds, cycW, statesW, readW, writeW, Ws.pc, Ws.sp, Ws.wz, Ws.hlTo, Ws.af, Ws.tick, Ws.pcUp, Ws.a, Ws.f, fetchW, numberW, wordW, Ws.spDown, Ws.spUp, pushW, popW, Ws.hl, Ws.setHl, Ws.setP, Ws.setP0, Ws.know, Ws.mTo] | simp)
      · simp [giveOutN, h]; repeat (first | simp only [Tr.bind, Tr.Rel, RR, askN, readN, writeN, inN, outN, pauseN, Ms.pc, Ms.sp, Ms.wz, Ms.af, Ms.pcUp, glanceN, fetchN, numberN, wordN, wordAtN, Ms.spDown, pushN, popN, Ms.goTo, Ms.a, Ms.f, Ms.setA, Ms.setF, Ms.hl, Ms.setHL, Ms.pair, Ms.setPair, Ms.holds, cycW, statesW, readW, writeW, Ws.pc, Ws.sp, Ws.wz, Ws.hlTo, Ws.af, Ws.tick, Ws.pcUp, Ws.a, Ws.f, fetchW, numberW, wordW, Ws.spDown, Ws.spUp, pushW, popW, Ws.hl, Ws.setHl, Ws.setP, Ws.setP0, Ws.know, Ws.mTo] | simp [h, getN, getW, throughW, near00])
    · rcases hq' with h | h <;> simp [addCarriedN, h] <;> repeat (first | simp only [Tr.bind, Tr.Rel, RR, askN, readN, writeN, inN, outN, pauseN, Ms.pc, Ms.sp, Ms.wz, Ms.af, Ms.pcUp, glanceN, fetchN, numberN, wordN, wordAtN, Ms.spDown, pushN, popN, Ms.goTo, Ms.a, Ms.f, Ms.setA, Ms.setF, Ms.hl, Ms.setHL, Ms.pair, Ms.setPair, Ms.holds, cycW, statesW, readW, writeW, Ws.pc, Ws.sp, Ws.wz, Ws.hlTo, Ws.af, Ws.tick, Ws.pcUp, Ws.a, Ws.f, fetchW, numberW, wordW, Ws.spDown, Ws.spUp, pushW, popW, Ws.hl, Ws.setHl, Ws.setP, Ws.setP0, Ws.know, Ws.mTo] | simp [h])
    · rcases hq' with h | h <;> simp [pairAtPlaceN, wordsW, storeWordN, loadWordN, h] <;> repeat (first | simp only [Tr.bind, Tr.Rel, RR, askN, readN, writeN, inN, outN, pauseN, Ms.pc, Ms.sp, Ms.wz, Ms.af, Ms.pcUp, glanceN, fetchN, numberN, wordN, wordAtN, Ms.spDown, pushN, popN, Ms.goTo, Ms.a, Ms.f, Ms.setA, Ms.setF, Ms.hl, Ms.setHL, Ms.pair, Ms.setPair, Ms.holds, cycW, statesW, readW, writeW, Ws.pc, Ws.sp, Ws.wz, Ws.hlTo, Ws.af, Ws.tick, Ws.pcUp, Ws.a, Ws.f, fetchW, numberW, wordW, Ws.spDown, Ws.spUp, pushW, popW, Ws.hl, Ws.setHl, Ws.setP, Ws.setP0, Ws.know, Ws.mTo] | simp [h])
      all_goals (intros; unfold setPairG; repeat' split) <;> rfl
    · simp; repeat (first | simp only [Tr.bind, Tr.Rel, RR, askN, readN, writeN, inN, outN, pauseN, Ms.pc, Ms.sp, Ms.wz, Ms.af, Ms.pcUp, glanceN, fetchN, numberN, wordN, wordAtN, Ms.spDown, pushN, popN, Ms.goTo, Ms.a, Ms.f, Ms.setA, Ms.setF, Ms.hl, Ms.setHL, Ms.pair, Ms.setPair, Ms.holds, cycW, statesW, readW, writeW, Ws.pc, Ws.sp, Ws.wz, Ws.hlTo, Ws.af, Ws.tick, Ws.pcUp, Ws.a, Ws.f, fetchW, numberW, wordW, Ws.spDown, Ws.spUp, pushW, popW, Ws.hl, Ws.setHl, Ws.setP, Ws.setP0, Ws.know, Ws.mTo] | simp)
    · have m2 : ∀ a : Int, ((a + 1) % 65536 + 1) % 65536 = (a + 2) % 65536 := by intro a; omega
      simp [backW]; repeat (first | simp only [Tr.bind, Tr.Rel, RR, askN, readN, writeN, inN, outN, pauseN, Ms.pc, Ms.sp, Ms.wz, Ms.af, Ms.pcUp, glanceN, fetchN, numberN, wordN, wordAtN, Ms.spDown, pushN, popN, Ms.goTo, Ms.a, Ms.f, Ms.setA, Ms.setF, Ms.hl, Ms.setHL, Ms.pair, Ms.setPair, Ms.holds, cycW, statesW, readW, writeW, Ws.pc, Ws.sp, Ws.wz, Ws.hlTo, Ws.af, Ws.tick, Ws.pcUp, Ws.a, Ws.f, fetchW, numberW, wordW, Ws.spDown, Ws.spUp, pushW, popW, Ws.hl, Ws.setHl, Ws.setP, Ws.setP0, Ws.know, Ws.mTo] | simp [m2])
    · by_cases h2 : y % 4 = 2
      · simp [h2]; exact rfl
      · by_cases h3 : y % 4 = 3
        · simp [h2, h3]; exact rfl
        · simp [h2, h3]; exact rfl
    · rcases hy8 with rfl | rfl | rfl | rfl | rfl | rfl | rfl | rfl <;> simp [specialN, oddW, turnDigitsN] <;> repeat (first | simp only [Tr.bind, Tr.Rel, RR, askN, readN, writeN, inN, outN, pauseN, Ms.pc, Ms.sp, Ms.wz, Ms.af, Ms.pcUp, glanceN, fetchN, numberN, wordN, wordAtN, Ms.spDown, pushN, popN, Ms.goTo, Ms.a, Ms.f, Ms.setA, Ms.setF, Ms.hl, Ms.setHL, Ms.pair, Ms.setPair, Ms.holds, cycW, statesW, readW, writeW, Ws.pc, Ws.sp, Ws.wz, Ws.hlTo, Ws.af, Ws.tick, Ws.pcUp, Ws.a, Ws.f, fetchW, numberW, wordW, Ws.spDown, Ws.spUp, pushW, popW, Ws.hl, Ws.setHl, Ws.setP, Ws.setP0, Ws.know, Ws.mTo] | simp [showN, shownW, shown_eq])
  · by_cases h : z < 4 ∧ 3 < y
    · have h1 : ¬ (4 ≤ z ∨ y < 4) := by omega
      simp only [blocksN, blockW, h, h1]
      rcases hq' with h2 | h2
      · have h3 : ¬ (y % 2 = 1) := by omega
        simp [h2, h3]
        exact block_same r 2 y z p 0 (by omega) (by omega) 1
      · have h3 : y % 2 = 1 := by omega
        simp [h2, h3]
        exact block_same r 2 y z p 1 (by omega) (by omega) (-1)
    · have h1 : 4 ≤ z ∨ y < 4 := by omega
      simp [blocksN, h, h1]
      exact rfl
  · simp; exact rfl
theorem cb_same (r : Rg) (c : Int) (hc : B8 c) : (quarterC ⟨r, 0, fx c, fy c, fz c, fp c, fq c, r.hl, false⟩).Rel RR (bitW false c ⟨r, 0, 0, 0, false⟩) := by
  have hx' : fx c = 0 ∨ fx c = 1 ∨ fx c = 2 ∨ fx c = 3 := by unfold fx; have := hc.1; have := hc.2; omega
  unfold quarterC bitW
  generalize fx c = x at *
  generalize fy c = y at *
  generalize fz c = z at *
  generalize fp c = p at *
  generalize fq c = q at *
  by_cases h : z = 6
  · subst h
    rcases hx' with rfl | rfl | rfl | rfl <;> simp [Ws.at_, getW, whereW, shiftedN, testedN, changedN, operandN, resultN, Ms.inMem, bitopW, bitsetW, setW] <;> repeat (first | simp only [Tr.bind, Tr.Rel, RR, askN, readN, writeN, inN, outN, pauseN, Ms.pc, Ms.sp, Ms.wz, Ms.af, Ms.pcUp, glanceN, fetchN, numberN, wordN, wordAtN, Ms.spDown, pushN, popN, Ms.goTo, Ms.a, Ms.f, Ms.setA, Ms.setF, Ms.hl, Ms.setHL, Ms.pair, Ms.setPair, Ms.holds, cycW, statesW, readW, writeW, Ws.pc, Ws.sp, Ws.wz, Ws.hlTo, Ws.af, Ws.tick, Ws.pcUp, Ws.a, Ws.f, fetchW, numberW, wordW, Ws.spDown, Ws.spUp, pushW, popW, Ws.hl, Ws.setHl, Ws.setP, Ws.setP0, Ws.know, Ws.mTo] | simp)
  · rcases hx' with rfl | rfl | rfl | rfl <;> simp [Ws.at_, getW, whereW, shiftedN, testedN, changedN, operandN, resultN, Ms.inMem, bitopW, bitsetW, setW, h, getN, throughW, near00] <;> repeat (first | simp only [Tr.bind, Tr.Rel, RR, askN, readN, writeN, inN, outN, pauseN, Ms.pc, Ms.sp, Ms.wz, Ms.af, Ms.pcUp, glanceN, fetchN, numberN, wordN, wordAtN, Ms.spDown, pushN, popN, Ms.goTo, Ms.a, Ms.f, Ms.setA, Ms.setF, Ms.hl, Ms.setHL, Ms.pair, Ms.setPair, Ms.holds, cycW, statesW, readW, writeW, Ws.pc, Ws.sp, Ws.wz, Ws.hlTo, Ws.af, Ws.tick, Ws.pcUp, Ws.a, Ws.f, fetchW, numberW, wordW, Ws.spDown, Ws.spUp, pushW, popW, Ws.hl, Ws.setHl, Ws.setP, Ws.setP0, Ws.know, Ws.mTo] | simp [h, putN, throughW, near00])
theorem cb_far (r : Rg) (c spot pl code : Int) (hc : B8 c) : (quarterC ⟨r, 0, fx c, fy c, fz c, fp c, fq c, spot, true⟩).Rel RR (bitW true c ⟨r, pl, code, spot, true⟩) := by
  have hx' : fx c = 0 ∨ fx c = 1 ∨ fx c = 2 ∨ fx c = 3 := by unfold fx; have := hc.1; have := hc.2; omega
  unfold quarterC bitW
  generalize fx c = x at *
  generalize fy c = y at *
  generalize fz c = z at *
  generalize fp c = p at *
  generalize fq c = q at *
  by_cases h : z = 6
  · subst h
    rcases hx' with rfl | rfl | rfl | rfl <;> simp [Ws.at_, getW, whereW, shiftedN, testedN, changedN, operandN, resultN, Ms.inMem, bitopW, bitsetW, setW] <;> repeat (first | simp only [Tr.bind, Tr.Rel, RR, askN, readN, writeN, inN, outN, pauseN, Ms.pc, Ms.sp, Ms.wz, Ms.af, Ms.pcUp, glanceN, fetchN, numberN, wordN, wordAtN, Ms.spDown, pushN, popN, Ms.goTo, Ms.a, Ms.f, Ms.setA, Ms.setF, Ms.hl, Ms.setHL, Ms.pair, Ms.setPair, Ms.holds, cycW, statesW, readW, writeW, Ws.pc, Ws.sp, Ws.wz, Ws.hlTo, Ws.af, Ws.tick, Ws.pcUp, Ws.a, Ws.f, fetchW, numberW, wordW, Ws.spDown, Ws.spUp, pushW, popW, Ws.hl, Ws.setHl, Ws.setP, Ws.setP0, Ws.know, Ws.mTo] | simp)
  · rcases hx' with rfl | rfl | rfl | rfl <;> simp [Ws.at_, getW, whereW, shiftedN, testedN, changedN, operandN, resultN, Ms.inMem, bitopW, bitsetW, setW, h, getN, throughW, near00] <;> repeat (first | simp only [Tr.bind, Tr.Rel, RR, askN, readN, writeN, inN, outN, pauseN, Ms.pc, Ms.sp, Ms.wz, Ms.af, Ms.pcUp, glanceN, fetchN, numberN, wordN, wordAtN, Ms.spDown, pushN, popN, Ms.goTo, Ms.a, Ms.f, Ms.setA, Ms.setF, Ms.hl, Ms.setHL, Ms.pair, Ms.setPair, Ms.holds, cycW, statesW, readW, writeW, Ws.pc, Ws.sp, Ws.wz, Ws.hlTo, Ws.af, Ws.tick, Ws.pcUp, Ws.a, Ws.f, fetchW, numberW, wordW, Ws.spDown, Ws.spUp, pushW, popW, Ws.hl, Ws.setHl, Ws.setP, Ws.setP0, Ws.know, Ws.mTo] | simp [h, putN, throughW, near00])
theorem body_same : BodySame := by
  intro s c hs hnr hc hp
  show (bodyN c s).Rel RR _
  unfold bodyN restW
  by_cases h3 : c = 203
  · subst h3
    rw [if_pos rfl, if_neg (by decide)]
    obtain ⟨r, plane, x0, y0, z0, p0, q0, spot, near⟩ := s
    have hnr' : near = false := hnr
    subst hnr'
    have hpl : plane = 0 ∨ plane = 3 ∨ plane = 4 := hs.plane
    by_cases h0 : plane = 0
    · subst h0
      simp only [codeCBN, Ms.atHL]
      simp only [Tr.bind, Tr.Rel, RR, askN, readN, writeN, inN, outN, pauseN, Ms.pc, Ms.sp, Ms.wz, Ms.af, Ms.pcUp, glanceN, fetchN, numberN, wordN, wordAtN, Ms.spDown, pushN, popN, Ms.goTo, Ms.a, Ms.f, Ms.setA, Ms.setF, Ms.hl, Ms.setHL, Ms.pair, Ms.setPair, Ms.holds, cycW, statesW, readW, writeW, Ws.pc, Ws.sp, Ws.wz, Ws.hlTo, Ws.af, Ws.tick, Ws.pcUp, Ws.a, Ws.f, fetchW, numberW, wordW, Ws.spDown, Ws.spUp, pushW, popW, Ws.hl, Ws.setHl, Ws.setP, Ws.setP0, Ws.know, Ws.mTo]
      simp only [true_and, Ms.split]
      refine ⟨rfl, fun b hb => ?_⟩
      exact cb_same _ b hb
    · have h0' : ¬ ((203 : Int) = 203 ∧ plane = 0) := fun h => h0 h.2
      rw [if_neg h0', if_pos rfl]
      have h34 : plane = 3 ∨ plane = 4 := hpl.resolve_left h0
      rcases h34 with rfl | rfl
      · simp [codeCBN, Ms.atHL, distW, aimN, Ws.at_]
        simp only [Tr.bind, Tr.Rel, RR, askN, readN, writeN, inN, outN, pauseN, Ms.pc, Ms.sp, Ms.wz, Ms.af, Ms.pcUp, glanceN, fetchN, numberN, wordN, wordAtN, Ms.spDown, pushN, popN, Ms.goTo, Ms.a, Ms.f, Ms.setA, Ms.setF, Ms.hl, Ms.setHL, Ms.pair, Ms.setPair, Ms.holds, cycW, statesW, readW, writeW, Ws.pc, Ws.sp, Ws.wz, Ws.hlTo, Ws.af, Ws.tick, Ws.pcUp, Ws.a, Ws.f, fetchW, numberW, wordW, Ws.spDown, Ws.spUp, pushW, popW, Ws.hl, Ws.setHl, Ws.setP, Ws.setP0, Ws.know, Ws.mTo]
        simp [Ms.split, pairG]
        intro b hb c hc _ _
        exact cb_far _ c _ _ _ hc
      · simp [codeCBN, Ms.atHL, distW, aimN, Ws.at_]
        simp only [Tr.bind, Tr.Rel, RR, askN, readN, writeN, inN, outN, pauseN, Ms.pc, Ms.sp, Ms.wz, Ms.af, Ms.pcUp, glanceN, fetchN, numberN, wordN, wordAtN, Ms.spDown, pushN, popN, Ms.goTo, Ms.a, Ms.f, Ms.setA, Ms.setF, Ms.hl, Ms.setHL, Ms.pair, Ms.setPair, Ms.holds, cycW, statesW, readW, writeW, Ws.pc, Ws.sp, Ws.wz, Ws.hlTo, Ws.af, Ws.tick, Ws.pcUp, Ws.a, Ws.f, fetchW, numberW, wordW, Ws.spDown, Ws.spUp, pushW, popW, Ws.hl, Ws.setHl, Ws.setP, Ws.setP0, Ws.know, Ws.mTo]
        simp [Ms.split, pairG]
        intro b hb c hc _ _
        exact cb_far _ c _ _ _ hc
  · by_cases h7 : c = 237
    · subst h7
      rw [if_neg (by decide), if_pos rfl, if_pos rfl]
      obtain ⟨r, plane, x0, y0, z0, p0, q0, spot, near⟩ := s
      have hnr' : near = false := hnr
      subst hnr'
      simp only [Ms.atHL, Ms.toPlane]
      simp only [Tr.bind, Tr.Rel, RR, askN, readN, writeN, inN, outN, pauseN, Ms.pc, Ms.sp, Ms.wz, Ms.af, Ms.pcUp, glanceN, fetchN, numberN, wordN, wordAtN, Ms.spDown, pushN, popN, Ms.goTo, Ms.a, Ms.f, Ms.setA, Ms.setF, Ms.hl, Ms.setHL, Ms.pair, Ms.setPair, Ms.holds, cycW, statesW, readW, writeW, Ws.pc, Ws.sp, Ws.wz, Ws.hlTo, Ws.af, Ws.tick, Ws.pcUp, Ws.a, Ws.f, fetchW, numberW, wordW, Ws.spDown, Ws.spUp, pushW, popW, Ws.hl, Ws.setHl, Ws.setP, Ws.setP0, Ws.know, Ws.mTo]
      simp only [true_and, Ms.split, Ws.at_]
      intro b hb
      refine ed_same _ ?_ b hb
      have ht : RgB (tickG r 1) := hs.r.tick 1
      exact ⟨ht.af, ht.bc, ht.de, ht.hl, ht.af2, ht.bc2, ht.de2, ht.hl2, ht.ix, ht.iy, ht.sp, Wd16.mod _, ht.wz, ht.i, ht.r, ht.mode⟩
    · rw [if_neg h3, if_neg h7, if_neg h7, if_neg (fun h => h3 h.1), if_neg h3]
      exact plain_same s c hs hnr hc
theorem after_tell {g : Rg} (hg : RgB g) {c : Int} (hc : B8 c) {xs : List Int} (hx : Bytes8 xs) : tellV (afterOf g c xs) = tellW (rafterOf g c xs) := (after_same body_same hg hc hx).tell
theorem next_tell {g : Rg} (hg : RgB g) {xs : List Int} (hx : Bytes8 xs) : tellV (nextOf g xs) = tellW (rnextOf g xs) := (next_same body_same hg hx).tell
theorem rnext_hid (g : Rg) (hg : RgB g) (A : Option Addr) (cap : Nat) (xs : List Int) (hc : xs.length ≤ cap) (h8 : Bytes8 xs) (hl : xs.length ≤ 1000000) (w : World) (hin : BytesIn w w.heap.size A xs) :
    ∀ W, Below w.heap.size w W → Calls Tryz.prog 13 #[regsV g, .slice A xs.length cap] W fun e w' => e = .returned (.tuple #[cyV (cyOf (nextOf g xs)), regsV (rgOf (nextOf g xs)), .bool (doneOf (nextOf g xs))]) ∧ Below W.heap.size W w' := fun W hW => by
  have h := rnnext_any g hg A cap xs hc h8 (by omega) W ((hin.below hW).more hW.size)
  rwa [← next_tell hg h8, tellV_eq] at h
theorem rafter_hid (g : Rg) (hg : RgB g) (c : Int) (hcb : B8 c) (A : Option Addr) (cap : Nat) (xs : List Int) (hc : xs.length ≤ cap) (h8 : Bytes8 xs) (hl : xs.length ≤ 1000000) (w : World) (hin : BytesIn w w.heap.size A xs) :
    ∀ W, Below w.heap.size w W → Calls Tryz.prog 15 #[regsV g, .int .u8 c, .slice A xs.length cap] W fun e w' => e = .returned (.tuple #[cyV (cyOf (afterOf g c xs)), regsV (rgOf (afterOf g c xs)), .bool (doneOf (afterOf g c xs))]) ∧ Below W.heap.size W w' := fun W hW => by
  have h := rafter_any g hg c hcb A cap xs hc h8 (by omega) W ((hin.below hW).more hW.size)
  rwa [← after_tell hg hcb h8, tellV_eq] at h
theorem getD8 {xs : List Int} (h : Bytes8 xs) (k : Nat) : B8 (xs.getD k 0) := gb_byte h k
theorem drop_head (xs : List Int) (k : Nat) : (xs.drop k).headD 0 = xs.getD k 0 := by
  rw [List.headD_eq_head?_getD, List.head?_drop, List.getD_eq_getElem?_getD]
theorem getD_out {xs : List Int} {k : Nat} (h : xs.length ≤ k) : xs.getD k 0 = 0 := by
  rw [List.getD_eq_getElem?_getD, List.getElem?_eq_none h]; rfl
section
open Go.ChangeShapes Go.WideShapes Go.ChangeAt Go.RowKit
theorem open_bytes {H : Type} {enc : TypeId × Value → H} {P : Program} {w : World} {r : Reach} {b0 base : Nat} {sp : Nat → Bool} {held : Bool} {t e : TypeId} {v : Value} {d : DataW H} {ps : List MemPlace}
    (ht : P.underlying t = some (.slice e)) (he : P.underlying e = some (.int .u8)) (hc : P.cellsOf e = 1) (hv : Value.okWide P w r b0 t v) (h : DataW.Trod enc P w base sp held t v d ps) :
    ∃ (A : Option Addr) (cap : Nat) (xs : List Int), v = .slice A xs.length cap ∧ xs.length ≤ cap ∧ cap ≤ maxLen ∧ Bytes8 xs ∧ BytesIn w w.heap.size A xs ∧ (A = none → cap = 0) := by
  obtain ⟨a, len, cap, rfl⟩ := okWide_slice ht hv
  obtain ⟨fuel, hf⟩ := h
  rcases open_ints ht he hc hf with ⟨e1, -⟩ | ⟨ad, len', cap', zs, e1, hb, hle, hm, hz, -, hcell, hwf⟩
  · have e1' : (Value.slice a len cap).cells.toList = [.slice none 0 0] := e1
    have e2 : Value.slice a len cap = .slice none 0 0 := by simpa [Value.cells] using e1'
    refine ⟨none, 0, [], e2, Nat.le_refl _, Nat.zero_le _, fun x hx => by simp at hx, BytesIn.nil _ _ _, fun _ => rfl⟩
  · have e1' : (Value.slice a len cap).cells.toList = [.slice (some ad) len' cap'] := e1
    have e2 : Value.slice a len cap = .slice (some ad) len' cap' := by simpa [Value.cells] using e1'
    have hzl : len' ≤ zs.length := by rw [hz]; split <;> omega
    have htl : (zs.take len').length = len' := by rw [List.length_take]; omega
    refine ⟨some ad, cap', zs.take len', by rw [htl]; exact e2, by omega, hm, fun x hx => ?_, fun j x hx => ?_, fun h => by cases h⟩
    · have hw := hwf x (List.mem_of_mem_take hx)
      have := bounds_u8 hw
      exact ⟨by omega, by omega⟩
    · rw [List.getElem?_take] at hx
      split at hx
      · rename_i hj
        have hj2 : j < zs.length := by omega
        have hce := hcell j hj2
        rw [List.getD_eq_getElem?_getD, hx] at hce
        refine ⟨ad, rfl, ?_, hce⟩
        have := World.block_lt_of_cell? _ _ hce
        rw [add_block] at this
        exact this
      · cases hx
end
end Go.Proofs.YtibmpaeaicpbcaaGreatDoor
