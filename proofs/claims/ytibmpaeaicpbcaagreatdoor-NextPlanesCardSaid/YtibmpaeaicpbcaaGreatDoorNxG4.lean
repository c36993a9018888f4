/- Contracts and facts that the claim's proof wants (several texts in one). -/
import Derived.Defers
import Derived.Recover
import Derived.Laws.StructEq
import Derived.BigQuiet
import Derived.Deep.DeepCutAuto
import Derived.Deep.QuietTactic
import Derived.Maps.AppendAt
import Derived.Laws.OwnMore
import Derived.Laws.AppendOwn
import Derived.Laws.AppendOwnNone
import Derived.OwnWalk
import Derived.Deep.RegionHeld3
import Derived.Test.YtibmpaeaicpbcaaGreatDoorNxG1
import Derived.Test.YtibmpaeaicpbcaaGreatDoorNxG2
import Derived.Test.YtibmpaeaicpbcaaGreatDoorNxG3
namespace Go.Proofs.YtibmpaeaicpbcaaGreatDoor
open Go.RowKit
set_option linter.unusedVariables false
set_option linter.unusedSimpArgs false
set_option maxRecDepth 20000
set_option maxHeartbeats 20000000
theorem m_various  {s : Ms} {xs : List Int} {w : World} {p B : Nat} (h : AtN w p B s xs) :
    Calls Tryz.prog 69 #[pT p 0] w (OutV w p B ((variousN s).run xs)) := by
 have hn := NowN.begin h
 have hr : (variousN s).run xs = (variousN s).run xs := rfl
 go_enter Tryz.func69, Tryz.ntmps69
 refine coStart <| nQ hn <| coB <| nQ hn <| nIf hr (fun g3 hr => ?_) fun g3 hr => ?_
 · exact coZ <| nR 1 hn <| nVt (m_branch hn.at_) hn hr <| fun s4 xs4 w4 hn hr => woE <| eoB <| eoV (OutV.ok (dN hr) hn)
 refine nQ hn <| nIf hr (fun g6 hr => ?_) fun g6 hr => ?_
 · exact coZ <| nR 1 hn <| nVt (m_wholePair hn.at_) hn hr <| fun s7 xs7 w7 hn hr => woE <| eoB <| eoV (OutV.ok (dN hr) hn)
 refine nQ hn <| nIf hr (fun g9 hr => ?_) fun g9 hr => ?_
 · exact coZ <| nR 1 hn <| nVt (m_throughPlace hn.at_) hn hr <| fun s10 xs10 w10 hn hr => woE <| eoB <| eoV (OutV.ok (dN hr) hn)
 refine nQ hn <| nIf hr (fun g12 hr => ?_) fun g12 hr => ?_
 · exact coZ <| nR 1 hn <| nVt (m_stepPair hn.at_) hn hr <| fun s13 xs13 w13 hn hr => woE <| eoB <| eoV (OutV.ok (dN hr) hn)
 refine nQ hn <| nIf hr (fun g15 hr => ?_) fun g15 hr => ?_
 · exact coZ <| nR 1 hn <| nVt (m_count_inc hn.at_) hn hr <| fun s16 xs16 w16 hn hr => woE <| eoB <| eoV (OutV.ok (dN hr) hn)
 refine nQ hn <| nIf hr (fun g18 hr => ?_) fun g18 hr => ?_
 · exact coZ <| nR 1 hn <| nVt (m_count_dec hn.at_) hn hr <| fun s19 xs19 w19 hn hr => woE <| eoB <| eoV (OutV.ok (dN hr) hn)
 refine nQ hn <| nIf hr (fun g21 hr => ?_) fun g21 hr => ?_
 · exact coZ <| nR 1 hn <| nVt (m_loadNumber hn.at_) hn hr <| fun s22 xs22 w22 hn hr => woE <| eoB <| eoV (OutV.ok (dN hr) hn)
 refine nQ hn <| nIf hr (fun g24 hr => ?_) fun g24 hr => ?_
 · exact coZ <| nR 1 hn <| nA (m_adjust hn.at_) hn <| fun w25 hn => woE <| eoB <| eoV (OutV.ok (dN hr) hn)
 exact coSkip <| eoB <| eoV (OutV.ok (dN hr) hn)
theorem m_load  {s : Ms} {xs : List Int} {w : World} {p B : Nat} (h : AtN w p B s xs) :
    Calls Tryz.prog 70 #[pT p 0] w (OutV w p B ((loadN s).run xs)) := by
 have hn := NowN.begin h
 have hr : (loadN s).run xs = (loadN s).run xs := rfl
 go_enter Tryz.func70, Tryz.ntmps70
 refine coStart <| coS <| coR <| nR 6 hn ?_
 rcases Bool.eq_false_or_eq_true (s.y == 6) with h3 | h3
 · have g3 : s.y = 6 := by simpa using h3
   refine tell 7 h3 <| nE hn <| coI (s.z == 6) (fun h4 => ?_) fun h4 => ?_
   · have g4 : s.z = 6 := by simpa using h4
     exact have hr := hr.trans (run_if_pos (by simp [g4, g3])); nQs hn (.u_halted _ (true)) (hn.at_.ms.u_halted) <| fun w6 hn => coRet <| eoTr <| eoVr (OutV.ok (dN hr) hn)
   have g4 : ¬ s.z = 6 := by simpa using h4
   exact have hr := hr.trans (run_if_neg (by simp [g4, g3])); coSkip <| eoT <| nPz 11 hn <| fun w7 hn => nD [0, 1, 2, 3, 4, 5, 6, 7, 8, 9] hn <| nDi 10 get_state (m_get s.z hn.at_) hn hr <| fun v8 xs8 w8 hk8 hn hr => poE <| nVt (m_put s.y v8 (hk8) hn.at_) hn hr <| fun s9 xs9 w9 hn hr => woE <| eoV (OutV.ok (dN hr) hn)
 have g3 : ¬ s.y = 6 := by simpa using h3
 exact tell 7 h3 <| nE hn <| coF <| have hr := hr.trans (run_if_neg (by simp [g3])); coSkip <| eoT <| nPz 11 hn <| fun w10 hn => nD [0, 1, 2, 3, 4, 5, 6, 7, 8, 9] hn <| nDi 10 get_state (m_get s.z hn.at_) hn hr <| fun v11 xs11 w11 hk11 hn hr => poE <| nVt (m_put s.y v11 (hk11) hn.at_) hn hr <| fun s12 xs12 w12 hn hr => woE <| eoV (OutV.ok (dN hr) hn)
theorem m_reckon  {s : Ms} {xs : List Int} {w : World} {p B : Nat} (h : AtN w p B s xs) :
    Calls Tryz.prog 71 #[pT p 0] w (OutV w p B ((reckonN s).run xs)) := by
 have hn := NowN.begin h
 have hr : (reckonN s).run xs = (reckonN s).run xs := rfl
 go_enter Tryz.func71, Tryz.ntmps71
 exact coStart <| coZ <| nR 6 hn <| nI (m_get s.z hn.at_) hn hr <| fun v1 s1 xs1 w1 hk1 hn hr => nA (m_arithmetic v1 (hk1) hn.at_) hn <| fun w2 hn => woE <| eoV (OutV.ok (dN hr) hn)
theorem m_unstack  {s : Ms} {xs : List Int} {w : World} {p B : Nat} (h : AtN w p B s xs) :
    Calls Tryz.prog 142 #[pT p 0] w (OutV w p B ((popsN s).run xs)) := by
 have hn := NowN.begin h
 have hr : (popsN s).run xs = (popsN s).run xs := rfl
 go_enter Tryz.func142, Tryz.ntmps142
 refine coStart <| coB <| coR <| nR 6 hn ?_
 rcases Bool.eq_false_or_eq_true (s.q == 0) with h2 | h2
 · have g2 : s.q = 0 := by simpa using h2
   refine tell 8 h2 <| nE hn <| coI (s.p == 3) (fun h3 => ?_) fun h3 => ?_
   · have g3 : s.p = 3 := by simpa using h3
     first | (have hr := hr.trans (run_if_pos g3); have hr := hr.trans (run_if_pos g2)) | (have hr := hr.trans (run_if_pos g2); have hr := hr.trans (run_if_pos g3))
     exact coZ <| nR 2 hn <| nI (m_pop hn.at_) hn hr <| fun v4 s4 xs4 w4 hk4 hn hr => nFs hn (.u_af _ (v4)) (hn.at_.ms.u_af (hk4)) <| fun w5 hn => eoB <| eoV (OutV.ok (dN hr) hn)
   have g3 : ¬ s.p = 3 := by simpa using h3
   first | (have hr := hr.trans (run_if_pos g2); have hr := hr.trans (run_if_neg g3)) | (have hr := hr.trans (run_if_neg g3); have hr := hr.trans (run_if_pos g2))
   exact nQ hn <| coJ (s.q == 0) (fun h7 => absurd (h2.symm.trans h7) (by decide)) <| fun h7 => coZ <| nR 2 hn <| nI (m_pop hn.at_) hn hr <| fun v8 s8 xs8 w8 hk8 hn hr => nA (m_setPair v8 (hk8) hn.at_) hn <| fun w9 hn => woE <| eoB <| eoV (OutV.ok (dN hr) hn)
 have g2 : ¬ s.q = 0 := by simpa using h2
 refine tell 8 h2 <| nE hn <| coF <| have hr := hr.trans (run_if_neg g2); nQ hn <| coK (s.q == 0) (fun h11 => absurd (h2.symm.trans h11) (by decide)) <| fun h11 => nQ hn <| nIf hr (fun g13 hr => ?_) fun g13 hr => ?_
 · exact coZ <| nR 2 hn <| nI (m_pop hn.at_) hn hr <| fun v14 s14 xs14 w14 hk14 hn hr => nA (m_goTo v14 (hk14) hn.at_) hn <| fun w15 hn => woE <| eoB <| eoV (OutV.ok (dN hr) hn)
 refine nQ hn <| nIf hr (fun g17 hr => ?_) fun g17 hr => ?_
 · exact have b18 := hn.at_.ms.r; coZ <| nR 5 hn <| nB (exx_any s.r _) hn <| fun w19 hn => nFs hn _ (hn.at_.ms.u_rg ((b18).exx)) <| fun w20 hn => eoB <| eoV (OutV.ok (dN hr) hn)
 refine nQ hn <| nIf hr (fun g22 hr => ?_) fun g22 hr => ?_
 · exact have b23 := hl_word hn.at_.ms; coZ <| nR 2 hn <| nA (m_hl hn.at_) hn <| fun w24 hn => nFs hn (.u_pc _ (s.hl)) (hn.at_.ms.u_pc (b23)) <| fun w25 hn => eoB <| eoV (OutV.ok (dN hr) hn)
 refine nQ hn <| nIf hr (fun g27 hr => ?_) fun g27 hr => ?_
 · exact coR <| nR 1 hn <| nV (m_pause 2 hn.at_) hn hr <| fun s29 xs29 w29 hn hr => wT <| have b30 := hl_word hn.at_.ms; coZ <| nR 2 hn <| nA (m_hl hn.at_) hn <| fun w31 hn => nFs hn (.u_sp _ (s29.hl)) (hn.at_.ms.u_sp (b30)) <| fun w32 hn => eoB <| eoV (OutV.ok (dN hr) hn)
 exact coSkip <| eoB <| eoV (OutV.ok (dN hr) hn)
theorem m_call (o : Bool) {s : Ms} {xs : List Int} {w : World} {p B : Nat} (h : AtN w p B s xs) :
    Calls Tryz.prog 145 #[pT p 0, .bool (o)] w (OutV w p B ((callN o s).run xs)) := by
 have hn := NowN.begin h
 have hr : (callN o s).run xs = (callN o s).run xs := rfl
 go_enter Tryz.func145, Tryz.ntmps145
 refine coStart <| coR <| nR 2 hn <| nI (m_word hn.at_) hn hr <| fun v2 s2 xs2 w2 hk2 hn hr => nEs hn (.u_wz _ (v2)) (hn.at_.ms.u_wz (hk2)) <| fun w3 hn => coS <| nQ hn <| coI (!(o)) (fun h6 => ?_) fun h6 => ?_
 · have g6 : ¬ o = true := by simpa using h6
   exact have hr := hr.trans (run_if_neg g6); coRet <| eoTr <| eoVr (OutV.ok (dN hr) hn)
 have g6 : o = true := by simpa using h6
 exact have hr := hr.trans (run_if_pos g6); coSkip <| eoT <| coR <| nR 1 hn <| nV (m_pause 1 hn.at_) hn hr <| fun s8 xs8 w8 hn hr => wT <| have b10 := hn.at_.ms.r.pc; coR <| nR 6 hn <| nV (m_push s8.r.pc (b10) hn.at_) hn hr <| fun s11 xs11 w11 hn hr => wT <| have b12 := hn.at_.ms.r.wz; coZ <| nFs hn (.u_pc _ (s11.r.wz)) (hn.at_.ms.u_pc (b12)) <| fun w13 hn => eoV (OutV.ok (dN hr) hn)
theorem m_stack  {s : Ms} {xs : List Int} {w : World} {p B : Nat} (h : AtN w p B s xs) :
    Calls Tryz.prog 146 #[pT p 0] w (OutV w p B ((pushesN s).run xs)) := by
 have hn := NowN.begin h
 have hr : (pushesN s).run xs = (pushesN s).run xs := rfl
 go_enter Tryz.func146, Tryz.ntmps146
 refine coStart <| coS <| nQ hn <| coI (s.q != 0) (fun h3 => ?_) fun h3 => ?_
 · have g3 : ¬ s.q = 0 := by simpa using h3
   exact have hr := hr.trans (run_if_neg g3); coR <| nR 1 hn <| nV (m_call true hn.at_) hn hr <| fun s5 xs5 w5 hn hr => wT <| coRet <| eoTr <| eoVr (OutV.ok (dN hr) hn)
 have g3 : s.q = 0 := by simpa using h3
 refine have hr := hr.trans (run_if_pos g3); coSkip <| eoT <| coR <| nR 1 hn <| nV (m_pause 1 hn.at_) hn hr <| fun s7 xs7 w7 hn hr => wT <| nQ hn <| nIf hr (fun g9 hr => ?_) fun g9 hr => ?_
 · exact have b10 := hn.at_.ms.r.af; coZ <| nR 6 hn <| nV (m_push s7.r.af (b10) hn.at_) hn hr <| fun s11 xs11 w11 hn hr => woE <| eoV (OutV.ok (dN hr) hn)
 exact have b12 := pair_word hn.at_.ms; coZ <| nR 2 hn <| nA (m_pair hn.at_) hn <| fun w13 hn => nV (m_push s7.pair (b12) hn.at_) hn hr <| fun s14 xs14 w14 hn hr => woE <| eoV (OutV.ok (dN hr) hn)
theorem m_exchangeTop  {s : Ms} {xs : List Int} {w : World} {p B : Nat} (h : AtN w p B s xs) :
    Calls Tryz.prog 244 #[pT p 0] w (OutV w p B ((exchangeTopN s).run xs)) := by
 have hn := NowN.begin h
 have hr : (exchangeTopN s).run xs = (exchangeTopN s).run xs := rfl
 go_enter Tryz.func244, Tryz.ntmps244
 exact coStart <| have b2 := hn.at_.ms.r.sp; coR <| nR 6 hn <| nI (m_wordAt s.r.sp (b2) hn.at_) hn hr <| fun v3 s3 xs3 w3 hk3 hn hr => have b4 := hl_word hn.at_.ms; nR 1 hn <| nA (m_hl hn.at_) hn <| fun w5 hn => nE hn <| coR <| nR 1 hn <| nV (m_pause 1 hn.at_) hn hr <| fun s7 xs7 w7 hn hr => wT <| nP 9 hn <| fun w9 hn => have b10 := hn.at_.ms.r.sp; nD [0, 1, 2, 3, 4, 5, 6, 7] hn <| nDe 8 (hi_any s3.hl (b4).1 (b4).2 _) hn <| poE <| nV (m_write ((s7.r.sp + 1) % 65536) (Wd16.mod _) (s3.hl / 256) ((b4).hi) hn.at_) hn hr <| fun s12 xs12 w12 hn hr => wT <| nP 8 hn <| fun w14 hn => have b15 := hn.at_.ms.r.sp; nD [0, 1, 2, 3, 4, 5, 6] hn <| nDe 7 (lo_any s3.hl (b4).1 (b4).2 _) hn <| poE <| nV (m_write s12.r.sp (b15) (s3.hl % 256) ((b4).lo8) hn.at_) hn hr <| fun s17 xs17 w17 hn hr => wT <| coR <| nR 1 hn <| nV (m_pause 2 hn.at_) hn hr <| fun s19 xs19 w19 hn hr => wT <| coR <| nR 2 hn <| nA (m_setHL v3 (hk3) hn.at_) hn <| fun w21 hn => wT <| coZ <| nFs hn (.u_wz _ (v3)) (hn.at_.ms.u_wz (hk3)) <| fun w22 hn => eoV (OutV.ok (dN hr) hn)
theorem m_single  {s : Ms} {xs : List Int} {w : World} {p B : Nat} (h : AtN w p B s xs) :
    Calls Tryz.prog 144 #[pT p 0] w (OutV w p B ((singleN s).run xs)) := by
 have hn := NowN.begin h
 have hr : (singleN s).run xs = (singleN s).run xs := rfl
 go_enter Tryz.func144, Tryz.ntmps144
 refine wp_seq_k fun K1 hK1 => regionL <| oM 4 (pT p 0) <| oN 5 p 0 <| oF 6 (fM4 p) <| oL 7 (ldI (hn.at_.cell 23 (.int .i64 (s.y)) fun _ _ _ => rfl)) ?_
 refine endL ?_
 try simp only [Act.put, sA, sB, sC]
 refine thenN <| hK1 _ _ ?_
 refine wp_block ?_
 refine wp_seq_k fun K2 hK2 => regionL <| oB 9 (egI _ _ _ _ _) (bEqI s.y 0) <| oA 8 (.bool (s.y == 0)) ?_
 refine endL ?_
 try simp only [Act.put, sA, sB, sC]
 refine thenN <| hK2 _ _ ?_
 refine wp_cond_split (t := s.y == 0) (by kernel_rfl) (fun h3 => ?_) (fun h3 => ?_)
 · have g3 : s.y = 0 := by simpa using h3
   have hr := hr.trans (run_if_pos g3)
   exact coStart <| coZ <| nR 2 hn <| nI (m_word hn.at_) hn hr <| fun v4 s4 xs4 w4 hk4 hn hr => nA (m_goTo v4 (hk4) hn.at_) hn <| fun w5 hn => woE <| eoB <| eoV (OutV.ok (dN hr) hn)
 · have g3 : ¬ s.y = 0 := by simpa using h3
   have hr := hr.trans (run_if_neg g3)
   refine wp_seq_k fun K6 hK6 => regionL <| oB 15 (egI _ _ _ _ _) (bEqI s.y 2) <| oA 14 (.bool (s.y == 2)) ?_
   refine endL ?_
   try simp only [Act.put, sA, sB, sC]
   refine thenN <| hK6 _ _ ?_
   refine wp_cond_split (t := s.y == 2) (by kernel_rfl) (fun h7 => ?_) (fun h7 => ?_)
   · have g7 : s.y = 2 := by simpa using h7
     have hr := hr.trans (run_if_pos g7)
     exact coStart <| have b9 := a_byte hn.at_.ms; coR <| nR 1 hn <| nA (m_a hn.at_) hn <| fun w10 hn => nR 1 hn <| nI (m_number hn.at_) hn hr <| fun v11 s11 xs11 w11 hk11 hn hr => kE (word_any s.a v11 (b9).1 (b9).2 (hk11).1 (hk11).2 _) <| nE hn <| have b14 := a_byte hn.at_.ms; coR <| nR 3 hn <| nA (m_a hn.at_) hn <| fun w15 hn => nV (m_out (256 * s.a + v11) (Wd16.mk8 (b9) (hk11)) s11.a (b14) hn.at_) hn hr <| fun s16 xs16 w16 hn hr => wT <| coZ <| nR 2 hn <| nA (m_trailA (256 * s.a + v11) (Wd16.mk8 (b9) (hk11)) hn.at_) hn <| fun w17 hn => woE <| eoB <| eoV (OutV.ok (dN hr) hn)
   · have g7 : ¬ s.y = 2 := by simpa using h7
     have hr := hr.trans (run_if_neg g7)
     refine wp_seq_k fun K18 hK18 => regionL <| oB 30 (egI _ _ _ _ _) (bEqI s.y 3) <| oA 29 (.bool (s.y == 3)) ?_
     refine endL ?_
     try simp only [Act.put, sA, sB, sC]
     refine thenN <| hK18 _ _ ?_
     refine wp_cond_split (t := s.y == 3) (by kernel_rfl) (fun h19 => ?_) (fun h19 => ?_)
     · have g19 : s.y = 3 := by simpa using h19
       have hr := hr.trans (run_if_pos g19)
       exact coStart <| have b21 := a_byte hn.at_.ms; coR <| nR 1 hn <| nA (m_a hn.at_) hn <| fun w22 hn => nR 1 hn <| nI (m_number hn.at_) hn hr <| fun v23 s23 xs23 w23 hk23 hn hr => kE (word_any s.a v23 (b21).1 (b21).2 (hk23).1 (hk23).2 _) <| nE hn <| coR <| nR 3 hn <| nI (m_in (256 * s.a + v23) (Wd16.mk8 (b21) (hk23)) hn.at_) hn hr <| fun v26 s26 xs26 w26 hk26 hn hr => nA (m_setA v26 (hk26) hn.at_) hn <| fun w27 hn => wT <| coZ <| nFs hn (.u_wz _ (((256 * s.a + v23) + 1) % 65536)) (hn.at_.ms.u_wz (Wd16.mod _)) <| fun w28 hn => eoB <| eoV (OutV.ok (dN hr) hn)
     · have g19 : ¬ s.y = 3 := by simpa using h19
       have hr := hr.trans (run_if_neg g19)
       refine wp_seq_k fun K29 hK29 => regionL <| oB 48 (egI _ _ _ _ _) (bEqI s.y 4) <| oA 47 (.bool (s.y == 4)) ?_
       refine endL ?_
       try simp only [Act.put, sA, sB, sC]
       refine thenN <| hK29 _ _ ?_
       refine wp_cond_split (t := s.y == 4) (by kernel_rfl) (fun h30 => ?_) (fun h30 => ?_)
       · have g30 : s.y = 4 := by simpa using h30
         have hr := hr.trans (run_if_pos g30)
         exact coStart <| coZ <| nR 1 hn <| nV (m_exchangeTop hn.at_) hn hr <| fun s31 xs31 w31 hn hr => woE <| eoB <| eoV (OutV.ok (dN hr) hn)
       · have g30 : ¬ s.y = 4 := by simpa using h30
         have hr := hr.trans (run_if_neg g30)
         refine wp_seq_k fun K32 hK32 => regionL <| oB 52 (egI _ _ _ _ _) (bEqI s.y 5) <| oA 51 (.bool (s.y == 5)) ?_
         refine endL ?_
         try simp only [Act.put, sA, sB, sC]
         refine thenN <| hK32 _ _ ?_
         refine wp_cond_split (t := s.y == 5) (by kernel_rfl) (fun h33 => ?_) (fun h33 => ?_)
         · have g33 : s.y = 5 := by simpa using h33
           have hr := hr.trans (run_if_pos g33)
           have b34 := hn.at_.ms.r.hl
           have b35 := hn.at_.ms.r.de
           have c3 := hn.at_.cell 3 (.int .u16 (s.r.hl)) (fun _ _ _ => rfl)
           have c2 := hn.at_.cell 2 (.int .u16 (s.r.de)) (fun _ _ _ => rfl)
           have z2 := hn.at_.frozen 2
           have z3 := hn.at_.frozen 3
           have hn := hn.drew
           go_region
           have hn := hn.set 2 (.int .u16 (s.r.hl)) (s.u_de (s.r.hl)) (mu_de _ _) (hn.at_.ms.u_de (b34))
           have hn := hn.set 3 (.int .u16 (s.r.de)) ((s.u_de (s.r.hl)).u_hl (s.r.de)) (mu_hl _ _) (hn.at_.ms.u_hl (b35))
           refine blockN ?_
           refine endV rfl rfl ?_
           exact OutV.ok (hr.trans (Tr.run_done _ _)) hn
         · have g33 : ¬ s.y = 5 := by simpa using h33
           have hr := hr.trans (run_if_neg g33)
           refine coStart <| nQ hn <| nIf hr (fun g37 hr => ?_) fun g37 hr => ?_
           · exact coZ <| nRs 6 hn (.u_iff1 _ (false)) (hn.at_.ms.u_iff1) <| fun w38 hn => nFs hn (.u_iff2 _ (false)) (hn.at_.ms.u_iff2) <| fun w39 hn => eoB <| eoV (OutV.ok (dN hr) hn)
           refine nQ hn <| nIf hr (fun g41 hr => ?_) fun g41 hr => ?_
           · exact coZ <| nRs 7 hn (.u_iff1 _ (true)) (hn.at_.ms.u_iff1) <| fun w42 hn => nRs 4 hn (.u_iff2 _ (true)) (hn.at_.ms.u_iff2) <| fun w43 hn => nFs hn (.u_late _ (true)) (hn.at_.ms.u_late) <| fun w44 hn => eoB <| eoV (OutV.ok (dN hr) hn)
           exact coSkip <| eoB <| eoV (OutV.ok (dN hr) hn)
theorem m_control  {s : Ms} {xs : List Int} {w : World} {p B : Nat} (h : AtN w p B s xs) :
    Calls Tryz.prog 72 #[pT p 0] w (OutV w p B ((controlN s).run xs)) := by
 have hn := NowN.begin h
 have hr : (controlN s).run xs = (controlN s).run xs := rfl
 go_enter Tryz.func72, Tryz.ntmps72
 refine coStart <| nQ hn <| coB <| nQ hn <| nIf hr (fun g3 hr => ?_) fun g3 hr => ?_
 · refine coR <| nR 1 hn <| nV (m_pause 1 hn.at_) hn hr <| fun s5 xs5 w5 hn hr => wT <| coR <| nR 5 hn <| nA (m_holds s5.y hn.at_) hn <| fun w7 hn => wT <| coI (s5.holds s5.y) (fun h8 => ?_) fun h8 => ?_
   · have g8 : s5.holds s5.y = true := by simpa using h8
     exact have hr := hr.trans (run_if_pos g8); coZ <| nR 2 hn <| nI (m_pop hn.at_) hn hr <| fun v9 s9 xs9 w9 hk9 hn hr => nA (m_goTo v9 (hk9) hn.at_) hn <| fun w10 hn => woE <| eoB <| eoV (OutV.ok (dN hr) hn)
   have g8 : ¬ s5.holds s5.y = true := by simpa using h8
   exact have hr := hr.trans (run_if_neg g8); coSkip <| eoB <| eoV (OutV.ok (dN hr) hn)
 refine nQ hn <| nIf hr (fun g12 hr => ?_) fun g12 hr => ?_
 · exact coZ <| nR 1 hn <| nVt (m_unstack hn.at_) hn hr <| fun s13 xs13 w13 hn hr => woE <| eoB <| eoV (OutV.ok (dN hr) hn)
 refine nQ hn <| nIf hr (fun g15 hr => ?_) fun g15 hr => ?_
 · refine coR <| nR 2 hn <| nI (m_word hn.at_) hn hr <| fun v17 s17 xs17 w17 hk17 hn hr => nEs hn (.u_wz _ (v17)) (hn.at_.ms.u_wz (hk17)) <| fun w18 hn => coR <| nR 5 hn <| nA (m_holds ((s17.u_wz (v17)).y) hn.at_) hn <| fun w20 hn => wT <| coI ((s17.u_wz (v17)).holds ((s17.u_wz (v17)).y)) (fun h21 => ?_) fun h21 => ?_
   · have g21 : (s17.u_wz (v17)).holds ((s17.u_wz (v17)).y) = true := by simpa using h21
     exact have hr := hr.trans (run_if_pos g21); have b22 := hn.at_.ms.r.wz; coZ <| nFs hn ((s17.u_wz (v17)).u_pc ((s17.u_wz (v17)).r.wz)) (hn.at_.ms.u_pc (b22)) <| fun w23 hn => eoB <| eoV (OutV.ok (dN hr) hn)
   have g21 : ¬ (s17.u_wz (v17)).holds ((s17.u_wz (v17)).y) = true := by simpa using h21
   exact have hr := hr.trans (run_if_neg g21); coSkip <| eoB <| eoV (OutV.ok (dN hr) hn)
 refine nQ hn <| nIf hr (fun g25 hr => ?_) fun g25 hr => ?_
 · exact coZ <| nR 1 hn <| nVt (m_single hn.at_) hn hr <| fun s26 xs26 w26 hn hr => woE <| eoB <| eoV (OutV.ok (dN hr) hn)
 refine nQ hn <| nIf hr (fun g28 hr => ?_) fun g28 hr => ?_
 · exact coZ <| nR 6 hn <| nA (m_holds s.y hn.at_) hn <| fun w29 hn => nVt (m_call (s.holds s.y) hn.at_) hn hr <| fun s30 xs30 w30 hn hr => woE <| eoB <| eoV (OutV.ok (dN hr) hn)
 refine nQ hn <| nIf hr (fun g32 hr => ?_) fun g32 hr => ?_
 · exact coZ <| nR 1 hn <| nVt (m_stack hn.at_) hn hr <| fun s33 xs33 w33 hn hr => woE <| eoB <| eoV (OutV.ok (dN hr) hn)
 refine nQ hn <| nIf hr (fun g35 hr => ?_) fun g35 hr => ?_
 · exact coZ <| nR 2 hn <| nI (m_number hn.at_) hn hr <| fun v36 s36 xs36 w36 hk36 hn hr => nA (m_arithmetic v36 (hk36) hn.at_) hn <| fun w37 hn => woE <| eoB <| eoV (OutV.ok (dN hr) hn)
 refine nQ hn <| nIf hr (fun g39 hr => ?_) fun g39 hr => ?_
 · exact coR <| nR 1 hn <| nV (m_pause 1 hn.at_) hn hr <| fun s41 xs41 w41 hn hr => wT <| have b43 := hn.at_.ms.r.pc; coR <| nR 6 hn <| nV (m_push s41.r.pc (b43) hn.at_) hn hr <| fun s44 xs44 w44 hn hr => wT <| coZ <| nR 5 hn <| kBin 87 (egI _ _ _ _ _) (bMulI 8 s44.y (by have := hn.at_.ms.y; omega) (by have := hn.at_.ms.y; omega)) <| nR 1 hn <| nA (m_goTo ((8 * s44.y) % 65536) (Wd16.mod _) hn.at_) hn <| fun w45 hn => woE <| eoB <| eoV (OutV.ok (dN hr) hn)
 exact coSkip <| eoB <| eoV (OutV.ok (dN hr) hn)
theorem m_blockMove (d : Int) {s : Ms} {xs : List Int} {w : World} {p B : Nat} (h : AtN w p B s xs) :
    Calls Tryz.prog 119 #[pT p 0, .int .i64 (d)] w (OutV w p B ((blockMoveN d s).run xs)) := by
 have hn := NowN.begin h
 have hr : (blockMoveN d s).run xs = (blockMoveN d s).run xs := rfl
 go_enter Tryz.func119, Tryz.ntmps119
 exact coStart <| have b2 := hn.at_.ms.r.hl; coR <| nR 6 hn <| nI (m_read s.r.hl (b2) hn.at_) hn hr <| fun v3 s3 xs3 w3 hk3 hn hr => nE hn <| have b5 := hn.at_.ms.r.de; coR <| nR 7 hn <| nV (m_write s3.r.de (b5) v3 (hk3) hn.at_) hn hr <| fun s6 xs6 w6 hn hr => wT <| coR <| nR 1 hn <| nV (m_pause 2 hn.at_) hn hr <| fun s8 xs8 w8 hn hr => wT <| have b10 := hn.at_.ms.r.hl; coR <| nR 7 hn <| kE (wmove_any s8.r.hl d (b10) _) <| nEs hn (.u_hl _ (moveM s8.r.hl d)) (hn.at_.ms.u_hl (Wd16.mod _)) <| fun w12 hn => have b14 := hn.at_.ms.r.de; coR <| nR 7 hn <| kE (wmove_any ((s8.u_hl (moveM s8.r.hl d)).r.de) d (b14) _) <| nEs hn ((s8.u_hl (moveM s8.r.hl d)).u_de (moveM ((s8.u_hl (moveM s8.r.hl d)).r.de) d)) (hn.at_.ms.u_de (Wd16.mod _)) <| fun w16 hn => have b18 := hn.at_.ms.r.bc; nQs hn (((s8.u_hl (moveM s8.r.hl d)).u_de (moveM ((s8.u_hl (moveM s8.r.hl d)).r.de) d)).u_bc (((((s8.u_hl (moveM s8.r.hl d)).u_de (moveM ((s8.u_hl (moveM s8.r.hl d)).r.de) d)).r.bc) - 1) % 65536)) (hn.at_.ms.u_bc (Wd16.mod _)) <| fun w19 hn => nPz 12 hn <| fun w20 hn => have b21 := hn.at_.ms.r.bc; have b22 := a_byte hn.at_.ms; nD [0, 1, 3, 4, 5, 6, 7, 8, 9] hn <| nDa 2 (m_a hn.at_) hn <| fun w23 hn => have b24 := f_byte hn.at_.ms; nDa 10 (m_f hn.at_) hn <| fun w25 hn => nDb 11 (move_any ((((s8.u_hl (moveM s8.r.hl d)).u_de (moveM ((s8.u_hl (moveM s8.r.hl d)).r.de) d)).u_bc (((((s8.u_hl (moveM s8.r.hl d)).u_de (moveM ((s8.u_hl (moveM s8.r.hl d)).r.de) d)).r.bc) - 1) % 65536)).a) v3 ((((s8.u_hl (moveM s8.r.hl d)).u_de (moveM ((s8.u_hl (moveM s8.r.hl d)).r.de) d)).u_bc (((((s8.u_hl (moveM s8.r.hl d)).u_de (moveM ((s8.u_hl (moveM s8.r.hl d)).r.de) d)).r.bc) - 1) % 65536)).r.bc) ((((s8.u_hl (moveM s8.r.hl d)).u_de (moveM ((s8.u_hl (moveM s8.r.hl d)).r.de) d)).u_bc (((((s8.u_hl (moveM s8.r.hl d)).u_de (moveM ((s8.u_hl (moveM s8.r.hl d)).r.de) d)).r.bc) - 1) % 65536)).f) (b22) (hk3) (b24) (b21).1 (b21).2 _) hn <| fun w26 hn => poE <| nA (m_setF (moveF ((((s8.u_hl (moveM s8.r.hl d)).u_de (moveM ((s8.u_hl (moveM s8.r.hl d)).r.de) d)).u_bc (((((s8.u_hl (moveM s8.r.hl d)).u_de (moveM ((s8.u_hl (moveM s8.r.hl d)).r.de) d)).r.bc) - 1) % 65536)).a) v3 ((((s8.u_hl (moveM s8.r.hl d)).u_de (moveM ((s8.u_hl (moveM s8.r.hl d)).r.de) d)).u_bc (((((s8.u_hl (moveM s8.r.hl d)).u_de (moveM ((s8.u_hl (moveM s8.r.hl d)).r.de) d)).r.bc) - 1) % 65536)).r.bc) ((((s8.u_hl (moveM s8.r.hl d)).u_de (moveM ((s8.u_hl (moveM s8.r.hl d)).r.de) d)).u_bc (((((s8.u_hl (moveM s8.r.hl d)).u_de (moveM ((s8.u_hl (moveM s8.r.hl d)).r.de) d)).r.bc) - 1) % 65536)).f)) (moveF_byte _ _ _ _) hn.at_) hn <| fun w27 hn => woE <| eoV (OutV.ok (dN hr) hn)
theorem m_blockFind (d : Int) {s : Ms} {xs : List Int} {w : World} {p B : Nat} (h : AtN w p B s xs) :
    Calls Tryz.prog 120 #[pT p 0, .int .i64 (d)] w (OutV w p B ((blockFindN d s).run xs)) := by
 have hn := NowN.begin h
 have hr : (blockFindN d s).run xs = (blockFindN d s).run xs := rfl
 go_enter Tryz.func120, Tryz.ntmps120
 exact coStart <| have b2 := hn.at_.ms.r.hl; coR <| nR 6 hn <| nI (m_read s.r.hl (b2) hn.at_) hn hr <| fun v3 s3 xs3 w3 hk3 hn hr => nE hn <| coR <| nR 1 hn <| nV (m_pause 5 hn.at_) hn hr <| fun s5 xs5 w5 hn hr => wT <| have b7 := hn.at_.ms.r.hl; coR <| nR 7 hn <| kE (wmove_any s5.r.hl d (b7) _) <| nEs hn (.u_hl _ (moveM s5.r.hl d)) (hn.at_.ms.u_hl (Wd16.mod _)) <| fun w9 hn => have b11 := hn.at_.ms.r.wz; coR <| nR 7 hn <| kE (wmove_any ((s5.u_hl (moveM s5.r.hl d)).r.wz) d (b11) _) <| nEs hn ((s5.u_hl (moveM s5.r.hl d)).u_wz (moveM ((s5.u_hl (moveM s5.r.hl d)).r.wz) d)) (hn.at_.ms.u_wz (Wd16.mod _)) <| fun w13 hn => have b15 := hn.at_.ms.r.bc; nQs hn (((s5.u_hl (moveM s5.r.hl d)).u_wz (moveM ((s5.u_hl (moveM s5.r.hl d)).r.wz) d)).u_bc (((((s5.u_hl (moveM s5.r.hl d)).u_wz (moveM ((s5.u_hl (moveM s5.r.hl d)).r.wz) d)).r.bc) - 1) % 65536)) (hn.at_.ms.u_bc (Wd16.mod _)) <| fun w16 hn => nPz 12 hn <| fun w17 hn => have b18 := hn.at_.ms.r.bc; have b19 := a_byte hn.at_.ms; nD [0, 1, 3, 4, 5, 6, 7, 8, 9] hn <| nDa 2 (m_a hn.at_) hn <| fun w20 hn => have b21 := f_byte hn.at_.ms; nDa 10 (m_f hn.at_) hn <| fun w22 hn => nDb 11 (find_any ((((s5.u_hl (moveM s5.r.hl d)).u_wz (moveM ((s5.u_hl (moveM s5.r.hl d)).r.wz) d)).u_bc (((((s5.u_hl (moveM s5.r.hl d)).u_wz (moveM ((s5.u_hl (moveM s5.r.hl d)).r.wz) d)).r.bc) - 1) % 65536)).a) v3 ((((s5.u_hl (moveM s5.r.hl d)).u_wz (moveM ((s5.u_hl (moveM s5.r.hl d)).r.wz) d)).u_bc (((((s5.u_hl (moveM s5.r.hl d)).u_wz (moveM ((s5.u_hl (moveM s5.r.hl d)).r.wz) d)).r.bc) - 1) % 65536)).r.bc) ((((s5.u_hl (moveM s5.r.hl d)).u_wz (moveM ((s5.u_hl (moveM s5.r.hl d)).r.wz) d)).u_bc (((((s5.u_hl (moveM s5.r.hl d)).u_wz (moveM ((s5.u_hl (moveM s5.r.hl d)).r.wz) d)).r.bc) - 1) % 65536)).f) (b19) (hk3) (b21) (b18).1 (b18).2 _) hn <| fun w23 hn => poE <| nA (m_setF (findF ((((s5.u_hl (moveM s5.r.hl d)).u_wz (moveM ((s5.u_hl (moveM s5.r.hl d)).r.wz) d)).u_bc (((((s5.u_hl (moveM s5.r.hl d)).u_wz (moveM ((s5.u_hl (moveM s5.r.hl d)).r.wz) d)).r.bc) - 1) % 65536)).a) v3 ((((s5.u_hl (moveM s5.r.hl d)).u_wz (moveM ((s5.u_hl (moveM s5.r.hl d)).r.wz) d)).u_bc (((((s5.u_hl (moveM s5.r.hl d)).u_wz (moveM ((s5.u_hl (moveM s5.r.hl d)).r.wz) d)).r.bc) - 1) % 65536)).r.bc) ((((s5.u_hl (moveM s5.r.hl d)).u_wz (moveM ((s5.u_hl (moveM s5.r.hl d)).r.wz) d)).u_bc (((((s5.u_hl (moveM s5.r.hl d)).u_wz (moveM ((s5.u_hl (moveM s5.r.hl d)).r.wz) d)).r.bc) - 1) % 65536)).f)) (findF_byte _ _ _ _) hn.at_) hn <| fun w24 hn => woE <| eoV (OutV.ok (dN hr) hn)
theorem m_blockTake (d : Int) {s : Ms} {xs : List Int} {w : World} {p B : Nat} (h : AtN w p B s xs) :
    Calls Tryz.prog 121 #[pT p 0, .int .i64 (d)] w (OutV w p B ((blockTakeN d s).run xs)) := by
 have hn := NowN.begin h
 have hr : (blockTakeN d s).run xs = (blockTakeN d s).run xs := rfl
 go_enter Tryz.func121, Tryz.ntmps121
 exact coStart <| coR <| nR 1 hn <| nV (m_pause 1 hn.at_) hn hr <| fun s2 xs2 w2 hn hr => wT <| have b4 := hn.at_.ms.r.bc; coR <| nR 6 hn <| nI (m_in s2.r.bc (b4) hn.at_) hn hr <| fun v5 s5 xs5 w5 hk5 hn hr => nE hn <| have b7 := hn.at_.ms.r.bc; coR <| nR 7 hn <| kE (wmove_any s5.r.bc d (b7) _) <| nEs hn (.u_wz _ (moveM s5.r.bc d)) (hn.at_.ms.u_wz (Wd16.mod _)) <| fun w9 hn => coR <| nR 1 hn <| nA (m_lessB hn.at_) hn <| fun w11 hn => nE hn <| have b13 := hn.at_.ms.r.hl; coR <| nR 7 hn <| nV (m_write (((s5.u_wz (moveM s5.r.bc d)).lessB).r.hl) (b13) v5 (hk5) hn.at_) hn hr <| fun s14 xs14 w14 hn hr => wT <| have b16 := hn.at_.ms.r.hl; coR <| nR 7 hn <| kE (wmove_any s14.r.hl d (b16) _) <| nEs hn (.u_hl _ (moveM s14.r.hl d)) (hn.at_.ms.u_hl (Wd16.mod _)) <| fun w18 hn => have b19 := hn.at_.ms.r.get (s14.u_hl (moveM s14.r.hl d)).plane 1; coZ <| nR 3 hn <| nA (m_getP 1 (by decide) hn.at_) hn <| fun w20 hn => nR 2 hn <| nB (take_any v5 (getG (s14.u_hl (moveM s14.r.hl d)).r (s14.u_hl (moveM s14.r.hl d)).plane 1) ((s5.u_wz (moveM s5.r.bc d)).left) d (hk5) (b19) (B8.mod _) _) hn <| fun w21 hn => nA (m_setF (passF v5 (v5 + byC (getG (s14.u_hl (moveM s14.r.hl d)).r (s14.u_hl (moveM s14.r.hl d)).plane 1) d) ((s5.u_wz (moveM s5.r.bc d)).left)) (passF_byte _ _ _) hn.at_) hn <| fun w22 hn => woE <| eoV (OutV.ok (dN hr) hn)
theorem m_blockGive (d : Int) {s : Ms} {xs : List Int} {w : World} {p B : Nat} (h : AtN w p B s xs) :
    Calls Tryz.prog 122 #[pT p 0, .int .i64 (d)] w (OutV w p B ((blockGiveN d s).run xs)) := by
 have hn := NowN.begin h
 have hr : (blockGiveN d s).run xs = (blockGiveN d s).run xs := rfl
 go_enter Tryz.func122, Tryz.ntmps122
 exact coStart <| coR <| nR 1 hn <| nV (m_pause 1 hn.at_) hn hr <| fun s2 xs2 w2 hn hr => wT <| have b4 := hn.at_.ms.r.hl; coR <| nR 6 hn <| nI (m_read s2.r.hl (b4) hn.at_) hn hr <| fun v5 s5 xs5 w5 hk5 hn hr => nE hn <| coR <| nR 1 hn <| nA (m_lessB hn.at_) hn <| fun w7 hn => nE hn <| have b9 := hn.at_.ms.r.bc; coR <| nR 7 hn <| kE (wmove_any s5.lessB.r.bc d (b9) _) <| nEs hn (.u_wz _ (moveM s5.lessB.r.bc d)) (hn.at_.ms.u_wz (Wd16.mod _)) <| fun w11 hn => have b13 := hn.at_.ms.r.bc; coR <| nR 7 hn <| nV (m_out ((s5.lessB.u_wz (moveM s5.lessB.r.bc d)).r.bc) (b13) v5 (hk5) hn.at_) hn hr <| fun s14 xs14 w14 hn hr => wT <| have b16 := hn.at_.ms.r.hl; coR <| nR 7 hn <| kE (wmove_any s14.r.hl d (b16) _) <| nEs hn (.u_hl _ (moveM s14.r.hl d)) (hn.at_.ms.u_hl (Wd16.mod _)) <| fun w18 hn => have b19 := hn.at_.ms.r.hl; coZ <| nR 7 hn <| kE (lo_any ((s14.u_hl (moveM s14.r.hl d)).r.hl) (b19).1 (b19).2 _) <| nR 1 hn <| nB (give_any v5 (((s14.u_hl (moveM s14.r.hl d)).r.hl) % 256) s5.left (hk5) ((b19).lo8) (B8.mod _) _) hn <| fun w21 hn => nA (m_setF (passF v5 (v5 + (((s14.u_hl (moveM s14.r.hl d)).r.hl) % 256)) s5.left) (passF_byte _ _ _) hn.at_) hn <| fun w22 hn => woE <| eoV (OutV.ok (dN hr) hn)
theorem m_repeat  {s : Ms} {xs : List Int} {w : World} {p B : Nat} (h : AtN w p B s xs) :
    Calls Tryz.prog 124 #[pT p 0] w (OutV w p B ((repeatN s).run xs)) := by
 have hn := NowN.begin h
 have hr : (repeatN s).run xs = (repeatN s).run xs := rfl
 go_enter Tryz.func124, Tryz.ntmps124
 refine coStart <| coR <| nR 1 hn <| nV (m_pause 5 hn.at_) hn hr <| fun s2 xs2 w2 hn hr => wT <| have b4 := hn.at_.ms.r.pc; nQs hn (.u_pc _ ((s2.r.pc - 2) % 65536)) (hn.at_.ms.u_pc (Wd16.mod _)) <| fun w5 hn => coR <| nR 6 hn ?_
 rcases Bool.eq_false_or_eq_true (((s2.u_pc ((s2.r.pc - 2) % 65536)).z) == 0) with h7 | h7
 · have g7 : ((s2.u_pc ((s2.r.pc - 2) % 65536)).z) = 0 := by simpa using h7
   exact tell 18 h7 <| nE hn <| coT <| have hr := hr.trans (run_if_pos (.inl g7)); have b8 := hn.at_.ms.r.pc; coZ <| nFs hn ((s2.u_pc ((s2.r.pc - 2) % 65536)).u_wz ((((s2.u_pc ((s2.r.pc - 2) % 65536)).r.pc) + 1) % 65536)) (hn.at_.ms.u_wz (Wd16.mod _)) <| fun w9 hn => eoV (OutV.ok (dN hr) hn)
 have g7 : ¬ ((s2.u_pc ((s2.r.pc - 2) % 65536)).z) = 0 := by simpa using h7
 refine tell 18 h7 <| nE hn <| coI (((s2.u_pc ((s2.r.pc - 2) % 65536)).z) == 1) (fun h10 => ?_) fun h10 => ?_
 · have g10 : ((s2.u_pc ((s2.r.pc - 2) % 65536)).z) = 1 := by simpa using h10
   exact have hr := hr.trans (run_if_pos (.inr g10)); have b11 := hn.at_.ms.r.pc; coZ <| nFs hn ((s2.u_pc ((s2.r.pc - 2) % 65536)).u_wz ((((s2.u_pc ((s2.r.pc - 2) % 65536)).r.pc) + 1) % 65536)) (hn.at_.ms.u_wz (Wd16.mod _)) <| fun w12 hn => eoV (OutV.ok (dN hr) hn)
 have g10 : ¬ ((s2.u_pc ((s2.r.pc - 2) % 65536)).z) = 1 := by simpa using h10
 exact have hr := hr.trans (run_if_neg (not_or.2 ⟨g7, g10⟩)); coSkip <| eoV (OutV.ok (dN hr) hn)
theorem m_blocks  {s : Ms} {xs : List Int} {w : World} {p B : Nat} (h : AtN w p B s xs) :
    Calls Tryz.prog 65 #[pT p 0] w (OutV w p B ((blocksN s).run xs)) := by
 have hn := NowN.begin h
 have hr : (blocksN s).run xs = (blocksN s).run xs := rfl
 go_enter Tryz.func65, Tryz.ntmps65
 refine coStart <| coS <| coR <| nR 6 hn ?_
 rcases Bool.eq_false_or_eq_true (decide (4 ≤ s.z)) with h3 | h3
 · have g3 : 4 ≤ s.z := by simpa using h3
   exact tell 8 h3 <| nE hn <| coT <| have hr := hr.trans (run_if_pos (.inl g3)); coRet <| eoTr <| eoVr (OutV.ok (dN hr) hn)
 have g3 : ¬ 4 ≤ s.z := by simpa using h3
 refine tell 8 h3 <| nE hn <| coI (decide (s.y < 4)) (fun h4 => ?_) fun h4 => ?_
 · have g4 : s.y < 4 := by simpa using h4
   exact have hr := hr.trans (run_if_pos (.inr g4)); coRet <| eoTr <| eoVr (OutV.ok (dN hr) hn)
 have g4 : ¬ s.y < 4 := by simpa using h4
 refine have hr := hr.trans (run_if_neg (not_or.2 ⟨g3, g4⟩)); coSkip <| eoT <| nQ hn <| coS <| nQ hn <| coI (s.q != 0) (fun h8 => ?_) fun h8 => ?_
 · have g8 : ¬ s.q = 0 := by simpa using h8
   refine have hr := hr.trans (run_if_neg g8); coZ <| nE hn <| coS <| nQ hn <| coB <| nQ hn <| nIfb hr (fun g12 hr => ?_) fun g12 hr => ?_
   · refine coZ <| nR 2 hn <| nV (m_blockMove ((-1)) hn.at_) hn hr <| fun s13 xs13 w13 hn hr => woE <| eoB <| eoT <| nP 13 hn <| fun w15 hn => nD [0, 1, 2, 3, 4, 5] hn ?_
     rcases Bool.eq_false_or_eq_true (decide (6 ≤ s13.y)) with h16 | h16
     · have g16 : 6 ≤ s13.y := by simpa using h16
       refine tellP 49 h16 <| have b17 := f_byte hn.at_.ms; nD [6, 7, 8, 9, 10] hn <| nDa 11 (m_f hn.at_) hn <| fun w18 hn => nDe 12 (again_any s13.z s13.f (b17) _) hn <| poE <| nE hn <| coI (againM s13.z s13.f) (fun h20 => ?_) fun h20 => ?_
       · have g20 : againM s13.z s13.f = true := by simpa using h20
         exact have hr := hr.trans (run_if_pos (by simp [g20, g16, g12, g8, g4, g3])); coZ <| nR 1 hn <| nVt (m_repeat hn.at_) hn hr <| fun s21 xs21 w21 hn hr => woE <| eoV (OutV.ok (dN hr) hn)
       have g20 : ¬ againM s13.z s13.f = true := by simpa using h20
       exact have hr := hr.trans (run_if_neg (by simp [g20, g16, g12, g8, g4, g3])); coSkip <| eoV (OutV.ok (dN hr) hn)
     have g16 : ¬ 6 ≤ s13.y := by simpa using h16
     exact tellP 49 h16 <| nD [6, 7, 8, 9, 10, 11, 12] hn <| poE <| nE hn <| coF <| have hr := hr.trans (run_if_neg (by simp [g16, g12, g8, g4, g3])); coSkip <| eoV (OutV.ok (dN hr) hn)
   refine nQ hn <| nIfb hr (fun g23 hr => ?_) fun g23 hr => ?_
   · refine coZ <| nR 2 hn <| nV (m_blockFind ((-1)) hn.at_) hn hr <| fun s24 xs24 w24 hn hr => woE <| eoB <| eoT <| nP 13 hn <| fun w26 hn => nD [0, 1, 2, 3, 4, 5] hn ?_
     rcases Bool.eq_false_or_eq_true (decide (6 ≤ s24.y)) with h27 | h27
     · have g27 : 6 ≤ s24.y := by simpa using h27
       refine tellP 49 h27 <| have b28 := f_byte hn.at_.ms; nD [6, 7, 8, 9, 10] hn <| nDa 11 (m_f hn.at_) hn <| fun w29 hn => nDe 12 (again_any s24.z s24.f (b28) _) hn <| poE <| nE hn <| coI (againM s24.z s24.f) (fun h31 => ?_) fun h31 => ?_
       · have g31 : againM s24.z s24.f = true := by simpa using h31
         exact have hr := hr.trans (run_if_pos (by simp [g31, g27, g23, g12, g8, g4, g3])); coZ <| nR 1 hn <| nVt (m_repeat hn.at_) hn hr <| fun s32 xs32 w32 hn hr => woE <| eoV (OutV.ok (dN hr) hn)
       have g31 : ¬ againM s24.z s24.f = true := by simpa using h31
       exact have hr := hr.trans (run_if_neg (by simp [g31, g27, g23, g12, g8, g4, g3])); coSkip <| eoV (OutV.ok (dN hr) hn)
     have g27 : ¬ 6 ≤ s24.y := by simpa using h27
     exact tellP 49 h27 <| nD [6, 7, 8, 9, 10, 11, 12] hn <| poE <| nE hn <| coF <| have hr := hr.trans (run_if_neg (by simp [g27, g23, g12, g8, g4, g3])); coSkip <| eoV (OutV.ok (dN hr) hn)
   refine nQ hn <| nIfb hr (fun g34 hr => ?_) fun g34 hr => ?_
   · refine coZ <| nR 2 hn <| nV (m_blockTake ((-1)) hn.at_) hn hr <| fun s35 xs35 w35 hn hr => woE <| eoB <| eoT <| nP 13 hn <| fun w37 hn => nD [0, 1, 2, 3, 4, 5] hn ?_
     rcases Bool.eq_false_or_eq_true (decide (6 ≤ s35.y)) with h38 | h38
     · have g38 : 6 ≤ s35.y := by simpa using h38
       refine tellP 49 h38 <| have b39 := f_byte hn.at_.ms; nD [6, 7, 8, 9, 10] hn <| nDa 11 (m_f hn.at_) hn <| fun w40 hn => nDe 12 (again_any s35.z s35.f (b39) _) hn <| poE <| nE hn <| coI (againM s35.z s35.f) (fun h42 => ?_) fun h42 => ?_
       · have g42 : againM s35.z s35.f = true := by simpa using h42
         exact have hr := hr.trans (run_if_pos (by simp [g42, g38, g34, g23, g12, g8, g4, g3])); coZ <| nR 1 hn <| nVt (m_repeat hn.at_) hn hr <| fun s43 xs43 w43 hn hr => woE <| eoV (OutV.ok (dN hr) hn)
       have g42 : ¬ againM s35.z s35.f = true := by simpa using h42
       exact have hr := hr.trans (run_if_neg (by simp [g42, g38, g34, g23, g12, g8, g4, g3])); coSkip <| eoV (OutV.ok (dN hr) hn)
     have g38 : ¬ 6 ≤ s35.y := by simpa using h38
     exact tellP 49 h38 <| nD [6, 7, 8, 9, 10, 11, 12] hn <| poE <| nE hn <| coF <| have hr := hr.trans (run_if_neg (by simp [g38, g34, g23, g12, g8, g4, g3])); coSkip <| eoV (OutV.ok (dN hr) hn)
   refine nQ hn <| nIfb hr (fun g45 hr => ?_) fun g45 hr => ?_
   · refine coZ <| nR 2 hn <| nV (m_blockGive ((-1)) hn.at_) hn hr <| fun s46 xs46 w46 hn hr => woE <| eoB <| eoT <| nP 13 hn <| fun w48 hn => nD [0, 1, 2, 3, 4, 5] hn ?_
     rcases Bool.eq_false_or_eq_true (decide (6 ≤ s46.y)) with h49 | h49
     · have g49 : 6 ≤ s46.y := by simpa using h49
       refine tellP 49 h49 <| have b50 := f_byte hn.at_.ms; nD [6, 7, 8, 9, 10] hn <| nDa 11 (m_f hn.at_) hn <| fun w51 hn => nDe 12 (again_any s46.z s46.f (b50) _) hn <| poE <| nE hn <| coI (againM s46.z s46.f) (fun h53 => ?_) fun h53 => ?_
       · have g53 : againM s46.z s46.f = true := by simpa using h53
         exact have hr := hr.trans (run_if_pos (by simp [g53, g49, g45, g34, g23, g12, g8, g4, g3])); coZ <| nR 1 hn <| nVt (m_repeat hn.at_) hn hr <| fun s54 xs54 w54 hn hr => woE <| eoV (OutV.ok (dN hr) hn)
       have g53 : ¬ againM s46.z s46.f = true := by simpa using h53
       exact have hr := hr.trans (run_if_neg (by simp [g53, g49, g45, g34, g23, g12, g8, g4, g3])); coSkip <| eoV (OutV.ok (dN hr) hn)
     have g49 : ¬ 6 ≤ s46.y := by simpa using h49
     exact tellP 49 h49 <| nD [6, 7, 8, 9, 10, 11, 12] hn <| poE <| nE hn <| coF <| have hr := hr.trans (run_if_neg (by simp [g49, g45, g34, g23, g12, g8, g4, g3])); coSkip <| eoV (OutV.ok (dN hr) hn)
   refine coSkip <| eoB <| eoT <| nP 13 hn <| fun w56 hn => nD [0, 1, 2, 3, 4, 5] hn ?_
   rcases Bool.eq_false_or_eq_true (decide (6 ≤ s.y)) with h57 | h57
   · have g57 : 6 ≤ s.y := by simpa using h57
     refine tellP 49 h57 <| have b58 := f_byte hn.at_.ms; nD [6, 7, 8, 9, 10] hn <| nDa 11 (m_f hn.at_) hn <| fun w59 hn => nDe 12 (again_any s.z s.f (b58) _) hn <| poE <| nE hn <| coI (againM s.z s.f) (fun h61 => ?_) fun h61 => ?_
     · have g61 : againM s.z s.f = true := by simpa using h61
       exact have hr := hr.trans (run_if_pos (by simp [g61, g57, g45, g34, g23, g12, g8, g4, g3])); coZ <| nR 1 hn <| nVt (m_repeat hn.at_) hn hr <| fun s62 xs62 w62 hn hr => woE <| eoV (OutV.ok (dN hr) hn)
     have g61 : ¬ againM s.z s.f = true := by simpa using h61
     exact have hr := hr.trans (run_if_neg (by simp [g61, g57, g45, g34, g23, g12, g8, g4, g3])); coSkip <| eoV (OutV.ok (dN hr) hn)
   have g57 : ¬ 6 ≤ s.y := by simpa using h57
   exact tellP 49 h57 <| nD [6, 7, 8, 9, 10, 11, 12] hn <| poE <| nE hn <| coF <| have hr := hr.trans (run_if_neg (by simp [g57, g45, g34, g23, g12, g8, g4, g3])); coSkip <| eoV (OutV.ok (dN hr) hn)
 have g8 : s.q = 0 := by simpa using h8
 refine have hr := hr.trans (run_if_pos g8); coSkip <| eoT <| coS <| nQ hn <| coB <| nQ hn <| nIfb hr (fun g66 hr => ?_) fun g66 hr => ?_
 · refine coZ <| nR 2 hn <| nV (m_blockMove 1 hn.at_) hn hr <| fun s67 xs67 w67 hn hr => woE <| eoB <| eoT <| nP 13 hn <| fun w69 hn => nD [0, 1, 2, 3, 4, 5] hn ?_
   rcases Bool.eq_false_or_eq_true (decide (6 ≤ s67.y)) with h70 | h70
   · have g70 : 6 ≤ s67.y := by simpa using h70
     refine tellP 49 h70 <| have b71 := f_byte hn.at_.ms; nD [6, 7, 8, 9, 10] hn <| nDa 11 (m_f hn.at_) hn <| fun w72 hn => nDe 12 (again_any s67.z s67.f (b71) _) hn <| poE <| nE hn <| coI (againM s67.z s67.f) (fun h74 => ?_) fun h74 => ?_
     · have g74 : againM s67.z s67.f = true := by simpa using h74
       exact have hr := hr.trans (run_if_pos (by simp [g74, g70, g66, g8, g4, g3])); coZ <| nR 1 hn <| nVt (m_repeat hn.at_) hn hr <| fun s75 xs75 w75 hn hr => woE <| eoV (OutV.ok (dN hr) hn)
     have g74 : ¬ againM s67.z s67.f = true := by simpa using h74
     exact have hr := hr.trans (run_if_neg (by simp [g74, g70, g66, g8, g4, g3])); coSkip <| eoV (OutV.ok (dN hr) hn)
   have g70 : ¬ 6 ≤ s67.y := by simpa using h70
   exact tellP 49 h70 <| nD [6, 7, 8, 9, 10, 11, 12] hn <| poE <| nE hn <| coF <| have hr := hr.trans (run_if_neg (by simp [g70, g66, g8, g4, g3])); coSkip <| eoV (OutV.ok (dN hr) hn)
 refine nQ hn <| nIfb hr (fun g77 hr => ?_) fun g77 hr => ?_
 · refine coZ <| nR 2 hn <| nV (m_blockFind 1 hn.at_) hn hr <| fun s78 xs78 w78 hn hr => woE <| eoB <| eoT <| nP 13 hn <| fun w80 hn => nD [0, 1, 2, 3, 4, 5] hn ?_
   rcases Bool.eq_false_or_eq_true (decide (6 ≤ s78.y)) with h81 | h81
   · have g81 : 6 ≤ s78.y := by simpa using h81
     refine tellP 49 h81 <| have b82 := f_byte hn.at_.ms; nD [6, 7, 8, 9, 10] hn <| nDa 11 (m_f hn.at_) hn <| fun w83 hn => nDe 12 (again_any s78.z s78.f (b82) _) hn <| poE <| nE hn <| coI (againM s78.z s78.f) (fun h85 => ?_) fun h85 => ?_
     · have g85 : againM s78.z s78.f = true := by simpa using h85
       exact have hr := hr.trans (run_if_pos (by simp [g85, g81, g77, g66, g8, g4, g3])); coZ <| nR 1 hn <| nVt (m_repeat hn.at_) hn hr <| fun s86 xs86 w86 hn hr => woE <| eoV (OutV.ok (dN hr) hn)
     have g85 : ¬ againM s78.z s78.f = true := by simpa using h85
     exact have hr := hr.trans (run_if_neg (by simp [g85, g81, g77, g66, g8, g4, g3])); coSkip <| eoV (OutV.ok (dN hr) hn)
   have g81 : ¬ 6 ≤ s78.y := by simpa using h81
   exact tellP 49 h81 <| nD [6, 7, 8, 9, 10, 11, 12] hn <| poE <| nE hn <| coF <| have hr := hr.trans (run_if_neg (by simp [g81, g77, g66, g8, g4, g3])); coSkip <| eoV (OutV.ok (dN hr) hn)
 refine nQ hn <| nIfb hr (fun g88 hr => ?_) fun g88 hr => ?_
 · refine coZ <| nR 2 hn <| nV (m_blockTake 1 hn.at_) hn hr <| fun s89 xs89 w89 hn hr => woE <| eoB <| eoT <| nP 13 hn <| fun w91 hn => nD [0, 1, 2, 3, 4, 5] hn ?_
   rcases Bool.eq_false_or_eq_true (decide (6 ≤ s89.y)) with h92 | h92
   · have g92 : 6 ≤ s89.y := by simpa using h92
     refine tellP 49 h92 <| have b93 := f_byte hn.at_.ms; nD [6, 7, 8, 9, 10] hn <| nDa 11 (m_f hn.at_) hn <| fun w94 hn => nDe 12 (again_any s89.z s89.f (b93) _) hn <| poE <| nE hn <| coI (againM s89.z s89.f) (fun h96 => ?_) fun h96 => ?_
     · have g96 : againM s89.z s89.f = true := by simpa using h96
       exact have hr := hr.trans (run_if_pos (by simp [g96, g92, g88, g77, g66, g8, g4, g3])); coZ <| nR 1 hn <| nVt (m_repeat hn.at_) hn hr <| fun s97 xs97 w97 hn hr => woE <| eoV (OutV.ok (dN hr) hn)
     have g96 : ¬ againM s89.z s89.f = true := by simpa using h96
     exact have hr := hr.trans (run_if_neg (by simp [g96, g92, g88, g77, g66, g8, g4, g3])); coSkip <| eoV (OutV.ok (dN hr) hn)
   have g92 : ¬ 6 ≤ s89.y := by simpa using h92
   exact tellP 49 h92 <| nD [6, 7, 8, 9, 10, 11, 12] hn <| poE <| nE hn <| coF <| have hr := hr.trans (run_if_neg (by simp [g92, g88, g77, g66, g8, g4, g3])); coSkip <| eoV (OutV.ok (dN hr) hn)
 refine nQ hn <| nIfb hr (fun g99 hr => ?_) fun g99 hr => ?_
 · refine coZ <| nR 2 hn <| nV (m_blockGive 1 hn.at_) hn hr <| fun s100 xs100 w100 hn hr => woE <| eoB <| eoT <| nP 13 hn <| fun w102 hn => nD [0, 1, 2, 3, 4, 5] hn ?_
   rcases Bool.eq_false_or_eq_true (decide (6 ≤ s100.y)) with h103 | h103
   · have g103 : 6 ≤ s100.y := by simpa using h103
     refine tellP 49 h103 <| have b104 := f_byte hn.at_.ms; nD [6, 7, 8, 9, 10] hn <| nDa 11 (m_f hn.at_) hn <| fun w105 hn => nDe 12 (again_any s100.z s100.f (b104) _) hn <| poE <| nE hn <| coI (againM s100.z s100.f) (fun h107 => ?_) fun h107 => ?_
     · have g107 : againM s100.z s100.f = true := by simpa using h107
       exact have hr := hr.trans (run_if_pos (by simp [g107, g103, g99, g88, g77, g66, g8, g4, g3])); coZ <| nR 1 hn <| nVt (m_repeat hn.at_) hn hr <| fun s108 xs108 w108 hn hr => woE <| eoV (OutV.ok (dN hr) hn)
     have g107 : ¬ againM s100.z s100.f = true := by simpa using h107
     exact have hr := hr.trans (run_if_neg (by simp [g107, g103, g99, g88, g77, g66, g8, g4, g3])); coSkip <| eoV (OutV.ok (dN hr) hn)
   have g103 : ¬ 6 ≤ s100.y := by simpa using h103
   exact tellP 49 h103 <| nD [6, 7, 8, 9, 10, 11, 12] hn <| poE <| nE hn <| coF <| have hr := hr.trans (run_if_neg (by simp [g103, g99, g88, g77, g66, g8, g4, g3])); coSkip <| eoV (OutV.ok (dN hr) hn)
 refine coSkip <| eoB <| eoT <| nP 13 hn <| fun w110 hn => nD [0, 1, 2, 3, 4, 5] hn ?_
 rcases Bool.eq_false_or_eq_true (decide (6 ≤ s.y)) with h111 | h111
 · have g111 : 6 ≤ s.y := by simpa using h111
   refine tellP 49 h111 <| have b112 := f_byte hn.at_.ms; nD [6, 7, 8, 9, 10] hn <| nDa 11 (m_f hn.at_) hn <| fun w113 hn => nDe 12 (again_any s.z s.f (b112) _) hn <| poE <| nE hn <| coI (againM s.z s.f) (fun h115 => ?_) fun h115 => ?_
   · have g115 : againM s.z s.f = true := by simpa using h115
     exact have hr := hr.trans (run_if_pos (by simp [g115, g111, g99, g88, g77, g66, g8, g4, g3])); coZ <| nR 1 hn <| nVt (m_repeat hn.at_) hn hr <| fun s116 xs116 w116 hn hr => woE <| eoV (OutV.ok (dN hr) hn)
   have g115 : ¬ againM s.z s.f = true := by simpa using h115
   exact have hr := hr.trans (run_if_neg (by simp [g115, g111, g99, g88, g77, g66, g8, g4, g3])); coSkip <| eoV (OutV.ok (dN hr) hn)
 have g111 : ¬ 6 ≤ s.y := by simpa using h111
 exact tellP 49 h111 <| nD [6, 7, 8, 9, 10, 11, 12] hn <| poE <| nE hn <| coF <| have hr := hr.trans (run_if_neg (by simp [g111, g99, g88, g77, g66, g8, g4, g3])); coSkip <| eoV (OutV.ok (dN hr) hn)
theorem m_inMemory  {s : Ms} {xs : List Int} {w : World} {p B : Nat} (h : AtN w p B s xs) :
    Calls Tryz.prog 105 #[pT p 0] w (fun e w' => e = .returned (.bool (s.inMem)) ∧ NowN w p B (s) xs w') := by
 have hn := NowN.begin h
 go_enter Tryz.func105, Tryz.ntmps105
 refine coStart <| nQ hn <| coR <| nR 5 hn ?_
 rcases Bool.eq_false_or_eq_true (s.near) with h3 | h3
 · have g3 : s.near = true := by simpa using h3
   refine tell 7 h3 <| nE hn <| coRet <| eoIr (.bool (true)) ?_
   have e : s.inMem = (true) := by simp [Ms.inMem, g3]
   exact ⟨by rw [e], hn⟩
 have g3 : ¬ s.near = true := by simpa using h3
 refine tell 7 h3 <| nE hn <| coRet <| eoIr (.bool (s.z == 6)) ?_
 have e : s.inMem = (s.z == 6) := by simp [Ms.inMem, g3]
 exact ⟨by rw [e], hn⟩
theorem m_operand  {s : Ms} {xs : List Int} {w : World} {p B : Nat} (h : AtN w p B s xs) :
    Calls Tryz.prog 101 #[pT p 0] w (OutI w p B .u8 ((operandN s).run xs)) := by
 have hn := NowN.begin h
 have hr : (operandN s).run xs = (operandN s).run xs := rfl
 go_enter Tryz.func101, Tryz.ntmps101
 refine coStart <| nQ hn <| coS <| coR <| nR 1 hn <| nA (m_inMemory hn.at_) hn <| fun w4 hn => nE hn <| coI (!(s.inMem)) (fun h5 => ?_) fun h5 => ?_
 · have g5 : ¬ s.inMem = true := by simpa using h5
   exact have hr := hr.trans (run_if_neg g5); coR <| nR 5 hn <| nIt (m_get s.z hn.at_) hn hr <| fun v7 s7 xs7 w7 hk7 hn hr => nE hn <| coRet <| eoTr <| eoIr (.int .u8 (v7)) (OutI.ok (dN hr) (hk7) hn)
 have g5 : s.inMem = true := by simpa using h5
 exact have hr := hr.trans (run_if_pos g5); coSkip <| eoT <| have b9 := hn.at_.ms.spot; coR <| nR 5 hn <| nI (m_read s.spot (b9) hn.at_) hn hr <| fun v10 s10 xs10 w10 hk10 hn hr => nE hn <| coR <| nR 1 hn <| nV (m_pause 1 hn.at_) hn hr <| fun s12 xs12 w12 hn hr => wT <| nQ hn <| coRet <| eoIr (.int .u8 (v10)) (OutI.ok (dN hr) (hk10) hn)
theorem m_result (b : Int) (hAb : B8 b) {s : Ms} {xs : List Int} {w : World} {p B : Nat} (h : AtN w p B s xs) :
    Calls Tryz.prog 104 #[pT p 0, .int .u8 (b)] w (OutV w p B ((resultN b s).run xs)) := by
 have hn := NowN.begin h
 have hr : (resultN b s).run xs = (resultN b s).run xs := rfl
 go_enter Tryz.func104, Tryz.ntmps104
 refine coStart <| coS <| coR <| nR 1 hn <| nA (m_inMemory hn.at_) hn <| fun w3 hn => wT <| coI (s.inMem) (fun h4 => ?_) fun h4 => ?_
 · have g4 : s.inMem = true := by simpa using h4
   refine have hr := hr.trans (run_bif_pos g4); have b5 := hn.at_.ms.spot; coZ <| nR 6 hn <| nV (m_write s.spot (b5) b (hAb) hn.at_) hn hr <| fun s6 xs6 w6 hn hr => wT <| nQ hn <| coI (s6.z != 6) (fun h8 => ?_) fun h8 => ?_
   · have g8 : ¬ s6.z = 6 := by simpa using h8
     exact have hr := hr.trans (run_if_neg g8); coZ <| nR 6 hn <| nVt (m_put s6.z b (hAb) hn.at_) hn hr <| fun s9 xs9 w9 hn hr => woE <| eoV (OutV.ok (dN hr) hn)
   have g8 : s6.z = 6 := by simpa using h8
   exact have hr := hr.trans (run_if_pos g8); coSkip <| eoV (OutV.ok (dN hr) hn)
 have g4 : ¬ s.inMem = true := by simpa using h4
 refine have hr := hr.trans (run_bif_neg g4); coSkip <| eoT <| nQ hn <| coI (s.z != 6) (fun h11 => ?_) fun h11 => ?_
 · have g11 : ¬ s.z = 6 := by simpa using h11
   exact have hr := hr.trans (run_if_neg g11); coZ <| nR 6 hn <| nVt (m_put s.z b (hAb) hn.at_) hn hr <| fun s12 xs12 w12 hn hr => woE <| eoV (OutV.ok (dN hr) hn)
 have g11 : s.z = 6 := by simpa using h11
 exact have hr := hr.trans (run_if_pos g11); coSkip <| eoV (OutV.ok (dN hr) hn)
theorem m_shifted  {s : Ms} {xs : List Int} {w : World} {p B : Nat} (h : AtN w p B s xs) :
    Calls Tryz.prog 59 #[pT p 0] w (OutV w p B ((shiftedN s).run xs)) := by
 have hn := NowN.begin h
 have hr : (shiftedN s).run xs = (shiftedN s).run xs := rfl
 go_enter Tryz.func59, Tryz.ntmps59
 exact coStart <| nP 13 hn <| fun w2 hn => nD [0, 1, 2, 3, 4, 6] hn <| nDi 5 operand_state (m_operand hn.at_) hn hr <| fun v3 xs3 w3 hk3 hn hr => have b4 := f_byte hn.at_.ms; nDa 7 (m_f hn.at_) hn <| fun w5 hn => nDb 8 (do_any s.y v3 s.f (hk3) (b4) _ hn.at_.tabs.courses) hn <| fun w6 hn => nD [9, 10, 11, 12] hn <| poE <| nE hn <| coR <| nR 2 hn <| nA (m_setF (doF s.y v3 s.f) (doF_byte _ _ _ (b4)) hn.at_) hn <| fun w8 hn => wT <| coZ <| nR 2 hn <| nVt (m_result (doR s.y v3 s.f) (doR_byte _ _ _ (hk3)) hn.at_) hn hr <| fun s9 xs9 w9 hn hr => woE <| eoV (OutV.ok (dN hr) hn)
theorem m_tested  {s : Ms} {xs : List Int} {w : World} {p B : Nat} (h : AtN w p B s xs) :
    Calls Tryz.prog 60 #[pT p 0] w (OutV w p B ((testedN s).run xs)) := by
 have hn := NowN.begin h
 have hr : (testedN s).run xs = (testedN s).run xs := rfl
 go_enter Tryz.func60, Tryz.ntmps60
 refine coStart <| coR <| nR 1 hn <| nI (m_operand hn.at_) hn hr <| fun v2 s2 xs2 w2 hk2 hn hr => nE hn <| nQ hn <| coS <| coR <| nR 1 hn <| nA (m_inMemory hn.at_) hn <| fun w6 hn => wT <| coI (s2.inMem) (fun h7 => ?_) fun h7 => ?_
 · have g7 : s2.inMem = true := by simpa using h7
   exact have hr := hr.trans (run_if_pos g7); have b8 := hn.at_.ms.r.wz; coZ <| nR 5 hn <| kE (hi_any s2.r.wz (b8).1 (b8).2 _) <| nE hn <| nPz 10 hn <| fun w10 hn => have b11 := f_byte hn.at_.ms; nD [0, 1, 2, 3, 4, 5, 6, 7] hn <| nDa 8 (m_f hn.at_) hn <| fun w12 hn => nDe 9 (bit6_any s2.y v2 (s2.r.wz / 256) s2.f (hk2) ((b8).hi) (b11) _) hn <| poE <| nA (m_setF (bitF s2.y v2 (s2.r.wz / 256) s2.f) (bitF_byte _ _ _ _) hn.at_) hn <| fun w14 hn => woE <| eoV (OutV.ok (dN hr) hn)
 have g7 : ¬ s2.inMem = true := by simpa using h7
 exact have hr := hr.trans (run_if_neg g7); coSkip <| eoT <| nPz 10 hn <| fun w15 hn => have b16 := f_byte hn.at_.ms; nD [0, 1, 2, 3, 4, 5, 6, 7] hn <| nDa 8 (m_f hn.at_) hn <| fun w17 hn => nDe 9 (bit6_any s2.y v2 v2 s2.f (hk2) (hk2) (b16) _) hn <| poE <| nA (m_setF (bitF s2.y v2 v2 s2.f) (bitF_byte _ _ _ _) hn.at_) hn <| fun w19 hn => woE <| eoV (OutV.ok (dN hr) hn)
theorem m_cleared  {s : Ms} {xs : List Int} {w : World} {p B : Nat} (h : AtN w p B s xs) :
    Calls Tryz.prog 61 #[pT p 0] w (OutV w p B ((changedN false s).run xs)) := by
 have hn := NowN.begin h
 have hr : (changedN false s).run xs = (changedN false s).run xs := rfl
 go_enter Tryz.func61, Tryz.ntmps61
 exact coStart <| nPz 8 hn <| fun w1 hn => nD [0, 1, 3, 4, 5, 6] hn <| nDi 2 operand_state (m_operand hn.at_) hn hr <| fun v2 xs2 w2 hk2 hn hr => nDe 7 (with_any v2 s.y false (hk2).1 (hk2).2 _) hn <| poE <| nVt (m_result (withM v2 s.y false) (B8.with (hk2) _ _) hn.at_) hn hr <| fun s4 xs4 w4 hn hr => woE <| eoV (OutV.ok (dN hr) hn)
theorem m_raised  {s : Ms} {xs : List Int} {w : World} {p B : Nat} (h : AtN w p B s xs) :
    Calls Tryz.prog 62 #[pT p 0] w (OutV w p B ((changedN true s).run xs)) := by
 have hn := NowN.begin h
 have hr : (changedN true s).run xs = (changedN true s).run xs := rfl
 go_enter Tryz.func62, Tryz.ntmps62
 exact coStart <| nPz 8 hn <| fun w1 hn => nD [0, 1, 3, 4, 5, 6] hn <| nDi 2 operand_state (m_operand hn.at_) hn hr <| fun v2 xs2 w2 hk2 hn hr => nDe 7 (with_any v2 s.y true (hk2).1 (hk2).2 _) hn <| poE <| nVt (m_result (withM v2 s.y true) (B8.with (hk2) _ _) hn.at_) hn hr <| fun s4 xs4 w4 hn hr => woE <| eoV (OutV.ok (dN hr) hn)
theorem m_codeBehindCB  {s : Ms} {xs : List Int} {w : World} {p B : Nat} (h : AtN w p B s xs) :
    Calls Tryz.prog 58 #[pT p 0] w (OutI w p B .u8 ((codeCBN s).run xs)) := by
 have hn := NowN.begin h
 have hr : (codeCBN s).run xs = (codeCBN s).run xs := rfl
 go_enter Tryz.func58, Tryz.ntmps58
 refine coStart <| nQ hn <| coS <| nQ hn <| nIf hr (fun g4 hr => ?_) fun g4 hr => ?_
 · exact coR <| nR 1 hn <| nI (m_fetch hn.at_) hn hr <| fun v6 s6 xs6 w6 hk6 hn hr => nE hn <| coRet <| eoTr <| eoIr (.int .u8 (v6)) (OutI.ok (dN hr) (hk6) hn)
 exact coSkip <| eoT <| coR <| nR 1 hn <| nV (m_aim hn.at_) hn hr <| fun s8 xs8 w8 hn hr => wT <| coR <| nR 1 hn <| nI (m_number hn.at_) hn hr <| fun v10 s10 xs10 w10 hk10 hn hr => nE hn <| coR <| nR 1 hn <| nV (m_pause 2 hn.at_) hn hr <| fun s12 xs12 w12 hn hr => wT <| nQ hn <| coRet <| eoIr (.int .u8 (v10)) (OutI.ok (dN hr) (hk10) hn)
theorem m_takeIn  {s : Ms} {xs : List Int} {w : World} {p B : Nat} (h : AtN w p B s xs) :
    Calls Tryz.prog 109 #[pT p 0] w (OutV w p B ((takeInN s).run xs)) := by
 have hn := NowN.begin h
 have hr : (takeInN s).run xs = (takeInN s).run xs := rfl
 go_enter Tryz.func109, Tryz.ntmps109
 refine coStart <| have b2 := hn.at_.ms.r.bc; coR <| nR 6 hn <| nI (m_in s.r.bc (b2) hn.at_) hn hr <| fun v3 s3 xs3 w3 hk3 hn hr => nE hn <| have b5 := hn.at_.ms.r.bc; nQs hn (.u_wz _ ((s3.r.bc + 1) % 65536)) (hn.at_.ms.u_wz (Wd16.mod _)) <| fun w6 hn => coR <| nR 2 hn <| nB (evenF_any v3 (hk3).1 (hk3).2 _) hn <| fun w8 hn => nR 1 hn <| nA (m_carry hn.at_) hn <| fun w9 hn => kBj 25 (.int .u8 (evenFM v3)) (.int .u8 ((s3.u_wz ((s3.r.bc + 1) % 65536)).carry)) (.int .u8 (withM (evenFM v3) 0 (isM (s3.u_wz ((s3.r.bc + 1) % 65536)).f 0))) (eg8 _ _ _ _ _) (bOrEven _ _) <| nA (m_setF (withM (evenFM v3) 0 (isM (s3.u_wz ((s3.r.bc + 1) % 65536)).f 0)) (B8.with (evenFM_byte _) _ _) hn.at_) hn <| fun w10 hn => wT <| nQ hn <| coI ((((s3.u_wz ((s3.r.bc + 1) % 65536)).setF (withM (evenFM v3) 0 (isM (s3.u_wz ((s3.r.bc + 1) % 65536)).f 0))).y) != 6) (fun h12 => ?_) fun h12 => ?_
 · have g12 : ¬ (((s3.u_wz ((s3.r.bc + 1) % 65536)).setF (withM (evenFM v3) 0 (isM (s3.u_wz ((s3.r.bc + 1) % 65536)).f 0))).y) = 6 := by simpa using h12
   exact have hr := hr.trans (run_if_neg g12); coZ <| nR 6 hn <| nVt (m_put (((s3.u_wz ((s3.r.bc + 1) % 65536)).setF (withM (evenFM v3) 0 (isM (s3.u_wz ((s3.r.bc + 1) % 65536)).f 0))).y) v3 (hk3) hn.at_) hn hr <| fun s13 xs13 w13 hn hr => woE <| eoV (OutV.ok (dN hr) hn)
 have g12 : (((s3.u_wz ((s3.r.bc + 1) % 65536)).setF (withM (evenFM v3) 0 (isM (s3.u_wz ((s3.r.bc + 1) % 65536)).f 0))).y) = 6 := by simpa using h12
 exact have hr := hr.trans (run_if_pos g12); coSkip <| eoV (OutV.ok (dN hr) hn)
theorem m_giveOut  {s : Ms} {xs : List Int} {w : World} {p B : Nat} (h : AtN w p B s xs) :
    Calls Tryz.prog 110 #[pT p 0] w (OutV w p B ((giveOutN s).run xs)) := by
 have hn := NowN.begin h
 have hr : (giveOutN s).run xs = (giveOutN s).run xs := rfl
 go_enter Tryz.func110, Tryz.ntmps110
 refine coStart <| nQ hn <| coS <| nQ hn <| coI (s.y != 6) (fun h4 => ?_) fun h4 => ?_
 · have g4 : ¬ s.y = 6 := by simpa using h4
   exact have hr := hr.trans (run_bif_neg g4); coZ <| nR 5 hn <| nI (m_get s.y hn.at_) hn hr <| fun v5 s5 xs5 w5 hk5 hn hr => nE hn <| have b7 := hn.at_.ms.r.bc; coR <| nR 7 hn <| nV (m_out s5.r.bc (b7) v5 (hk5) hn.at_) hn hr <| fun s8 xs8 w8 hn hr => wT <| have b9 := hn.at_.ms.r.bc; coZ <| nFs hn (.u_wz _ ((s8.r.bc + 1) % 65536)) (hn.at_.ms.u_wz (Wd16.mod _)) <| fun w10 hn => eoV (OutV.ok (dN hr) hn)
 have g4 : s.y = 6 := by simpa using h4
 exact have hr := hr.trans (run_bif_pos g4); coSkip <| eoT <| have b12 := hn.at_.ms.r.bc; coR <| nR 7 hn <| nV (m_out s.r.bc (b12) 0 (⟨by decide, by decide⟩) hn.at_) hn hr <| fun s13 xs13 w13 hn hr => wT <| have b14 := hn.at_.ms.r.bc; coZ <| nFs hn (.u_wz _ ((s13.r.bc + 1) % 65536)) (hn.at_.ms.u_wz (Wd16.mod _)) <| fun w15 hn => eoV (OutV.ok (dN hr) hn)
theorem m_addCarried  {s : Ms} {xs : List Int} {w : World} {p B : Nat} (h : AtN w p B s xs) :
    Calls Tryz.prog 111 #[pT p 0] w (OutV w p B ((addCarriedN s).run xs)) := by
  have hn := NowN.begin h
  have hr : (addCarriedN s).run xs = (addCarriedN s).run xs := rfl
  go_enter Tryz.func111, Tryz.ntmps111
  refine wp_seq_k fun K1 hK1 => regionL <| oM 3 (pT p 0) ?_
  refine sCallV hn rfl (by kernel_rfl) (m_pause 7 hn.at_) (fun _ _ hX hb => thenX (panicP rfl (OutV.err (hr.trans (Tr.run_bind_error hX _)) hb))) ?_
  intro s2 xs2 w2 hX hn
  have hr := hr.trans (Tr.run_bind_ok hX _)
  refine endL ?_
  try simp only [Act.put, sA, sB, sC]
  refine thenN <| hK1 _ _ <| wp_seq_k fun K3 hK3 => regionL <| oM 5 (pT p 0) <| oM 6 (pT p 0) <| oN 7 p 0 <| oF 8 (fM0 p) <| oF 9 (fR3 p) ?_
  have b4 := hn.at_.ms.r.hl
  refine oL 10 (ld16 (hn.at_.cell 3 (.int .u16 (s2.r.hl)) fun _ _ _ => rfl)) <| oB 11 (eg16 _ _ _ _ _) (bAdd16 s2.r.hl 1) <| oN 12 p 0 <| oF 13 (fM0 p) <| oF 14 (fR12 p) ?_
  refine sSetN hn 12 (.int .u16 ((s2.r.hl + 1) % 65536)) (s2.u_wz ((s2.r.hl + 1) % 65536)) rfl rfl rfl (by kernel_rfl) (by kernel_rfl) (st16 (hn.at_.cell 12 _ fun _ _ _ => rfl) (hn.at_.frozen 12)) (mu_wz _ _) (hn.at_.ms.u_wz (Wd16.mod _)) ?_
  intro w5 hn
  refine endL ?_
  try simp only [Act.put, sA, sB, sC]
  refine thenN <| hK3 _ _ <| wp_seq_k fun K6 hK6 => regionL <| oA 2 (.int .u8 (0)) ?_
  refine endL ?_
  try simp only [Act.put, sA, sB, sC]
  refine thenN <| hK6 _ _ <| wp_seq_k fun K7 hK7 => wp_seq_k fun K8 hK8 => regionL <| oM 15 (pT p 0) <| oN 16 p 0 <| oF 17 (fM7 p) <| oL 18 (ldI (hn.at_.cell 26 (.int .i64 ((s2.u_wz ((s2.r.hl + 1) % 65536)).q)) fun _ _ _ => rfl)) <| oB 19 (egI _ _ _ _ _) (bEqI ((s2.u_wz ((s2.r.hl + 1) % 65536)).q) 0) ?_
  refine endL ?_
  try simp only [Act.put, sA, sB, sC]
  refine thenN <| hK8 _ _ ?_
  refine wp_cond_split (t := ((s2.u_wz ((s2.r.hl + 1) % 65536)).q) == 0) (by kernel_rfl) (fun h9 => ?_) (fun h9 => ?_)
  · skip
    have g9 : ((s2.u_wz ((s2.r.hl + 1) % 65536)).q) = 0 := by simpa using h9
    have hr := hr.trans (run_if_pos g9)
    refine turn_start 17 18 (fun w' => NowN w p B (s2.u_wz ((s2.r.hl + 1) % 65536)) xs2 w') (by kernel_rfl) (by kernel_rfl) hn.drew ?_
    intro w10 _ hS
    have hn := hS
    refine turn_take (i := 0) 21 (pT p 0) rfl rfl (by kernel_rfl) (by kernel_rfl) (by kernel_rfl) (by kernel_rfl) (by kernel_rfl) (fun _ _ _ h => h) (by kernel_rfl) (fun w hS => heMove (.inl rfl) (by kernel_rfl) w) hS ?_
    refine turn_take (i := 1) 22 (pT p 0) rfl rfl (by kernel_rfl) (by kernel_rfl) (by kernel_rfl) (by kernel_rfl) (by kernel_rfl) (fun _ _ _ h => h) (by kernel_rfl) (fun w hS => heMove (.inl rfl) (by kernel_rfl) w) hS ?_
    refine turn_take (i := 2) 23 (pT p 0) rfl rfl (by kernel_rfl) (by kernel_rfl) (by kernel_rfl) (by kernel_rfl) (by kernel_rfl) (fun _ _ _ h => h) (by kernel_rfl) (fun w hS => heNil (ad := ⟨p, 0, none⟩) rfl (by kernel_rfl) w) hS ?_
    refine turn_take (i := 3) 24 (pT p 0) rfl rfl (by kernel_rfl) (by kernel_rfl) (by kernel_rfl) (by kernel_rfl) (by kernel_rfl) (fun _ _ _ h => h) (by kernel_rfl) (fun w hS => heField (V := pT p 0) (R := pT p 0) rfl (by kernel_rfl) (fM0 p) w) hS ?_
    refine turn_take (i := 4) 25 (pT p 3) rfl rfl (by kernel_rfl) (by kernel_rfl) (by kernel_rfl) (by kernel_rfl) (by kernel_rfl) (fun _ _ _ h => h) (by kernel_rfl) (fun w hS => heField (V := pT p 0) (R := pT p 3) rfl (by kernel_rfl) (fR3 p) w) hS ?_
    have b11 := hn.at_.ms.r.hl
    refine turn_take (i := 5) 26 (.int .u16 ((s2.u_wz ((s2.r.hl + 1) % 65536)).r.hl)) rfl rfl (by kernel_rfl) (by kernel_rfl) (by kernel_rfl) (by kernel_rfl) (by kernel_rfl) (fun _ _ _ h => h) (by kernel_rfl) (fun w hS => heLoad rfl (by kernel_rfl) (ld16 (hS.at_.cell 3 (.int .u16 ((s2.u_wz ((s2.r.hl + 1) % 65536)).r.hl)) fun _ _ _ => rfl))) hS ?_
    refine turn_take (i := 6) 27 (pT p 0) rfl rfl (by kernel_rfl) (by kernel_rfl) (by kernel_rfl) (by kernel_rfl) (by kernel_rfl) (fun _ _ _ h => h) (by kernel_rfl) (fun w hS => heMove (.inl rfl) (by kernel_rfl) w) hS ?_
    refine turn_take (i := 8) 29 (pT p 0) rfl rfl (by kernel_rfl) (by kernel_rfl) (by kernel_rfl) (by kernel_rfl) (by kernel_rfl) (fun _ _ _ h => h) (by kernel_rfl) (fun w hS => heMove (.inl rfl) (by kernel_rfl) w) hS ?_
    have b12 := pair_word hn.at_.ms
    refine turnO (i := 7) (.int .u16 ((s2.u_wz ((s2.r.hl + 1) % 65536)).pair)) rfl (by kernel_rfl) (by kernel_rfl) (by kernel_rfl) (by kernel_rfl) (m_pair  hn.at_) (fun w' hk => hS.after hk) ?_
    intro w13 hk
    have hn := hn.after hk
    have hS := hn
    have b14 := f_byte hn.at_.ms
    refine turnO (i := 9) (.int .u8 ((s2.u_wz ((s2.r.hl + 1) % 65536)).f)) rfl (by kernel_rfl) (by kernel_rfl) (by kernel_rfl) (by kernel_rfl) (m_f  hn.at_) (fun w' hk => hS.after hk) ?_
    intro w15 hk
    have hn := hn.after hk
    have hS := hn
    refine turnO (i := 10) (.tuple #[.int .u16 (sbcW ((s2.u_wz ((s2.r.hl + 1) % 65536)).r.hl) ((s2.u_wz ((s2.r.hl + 1) % 65536)).pair) (isM ((s2.u_wz ((s2.r.hl + 1) % 65536)).f) 0)), .int .u8 (sbcF ((s2.u_wz ((s2.r.hl + 1) % 65536)).r.hl) ((s2.u_wz ((s2.r.hl + 1) % 65536)).pair) (isM ((s2.u_wz ((s2.r.hl + 1) % 65536)).f) 0))]) rfl (by kernel_rfl) (by kernel_rfl) (by kernel_rfl) (by kernel_rfl) (wsbc_any ((s2.u_wz ((s2.r.hl + 1) % 65536)).r.hl) ((s2.u_wz ((s2.r.hl + 1) % 65536)).pair) ((s2.u_wz ((s2.r.hl + 1) % 65536)).f) (b11) (b12) (b14) _) (fun w' hb => hS.below hb) ?_
    intro w16 hb
    have hn := hn.below hb
    have hS := hn
    refine turn_take (i := 11) 20 (.tuple #[.int .u16 (sbcW ((s2.u_wz ((s2.r.hl + 1) % 65536)).r.hl) ((s2.u_wz ((s2.r.hl + 1) % 65536)).pair) (isM ((s2.u_wz ((s2.r.hl + 1) % 65536)).f) 0)), .int .u8 (sbcF ((s2.u_wz ((s2.r.hl + 1) % 65536)).r.hl) ((s2.u_wz ((s2.r.hl + 1) % 65536)).pair) (isM ((s2.u_wz ((s2.r.hl + 1) % 65536)).f) 0))]) rfl rfl (by kernel_rfl) (by kernel_rfl) (by kernel_rfl) (by kernel_rfl) (by kernel_rfl) (fun _ _ _ h => h) (by kernel_rfl) (fun w hS => heMove (.inl rfl) (by kernel_rfl) w) hS ?_
    refine turn_take (i := 12) 32 (.int .u16 (sbcW ((s2.u_wz ((s2.r.hl + 1) % 65536)).r.hl) ((s2.u_wz ((s2.r.hl + 1) % 65536)).pair) (isM ((s2.u_wz ((s2.r.hl + 1) % 65536)).f) 0))) rfl rfl (by kernel_rfl) (by kernel_rfl) (by kernel_rfl) (by kernel_rfl) (by kernel_rfl) (fun _ _ _ h => h) (by kernel_rfl) (fun w hS => heExtract (vs := #[.int .u16 (sbcW ((s2.u_wz ((s2.r.hl + 1) % 65536)).r.hl) ((s2.u_wz ((s2.r.hl + 1) % 65536)).pair) (isM ((s2.u_wz ((s2.r.hl + 1) % 65536)).f) 0)), .int .u8 (sbcF ((s2.u_wz ((s2.r.hl + 1) % 65536)).r.hl) ((s2.u_wz ((s2.r.hl + 1) % 65536)).pair) (isM ((s2.u_wz ((s2.r.hl + 1) % 65536)).f) 0))]) rfl (by kernel_rfl) (by kernel_rfl) w) hS ?_
    refine turn_free (i := 13) 33 (.int .u8 (sbcF ((s2.u_wz ((s2.r.hl + 1) % 65536)).r.hl) ((s2.u_wz ((s2.r.hl + 1) % 65536)).pair) (isM ((s2.u_wz ((s2.r.hl + 1) % 65536)).f) 0))) rfl rfl (by kernel_rfl) (by kernel_rfl) (by kernel_rfl) (by kernel_rfl) (by kernel_rfl) (fun _ _ _ h => h) (by kernel_rfl) (fun w => heExtract (vs := #[.int .u16 (sbcW ((s2.u_wz ((s2.r.hl + 1) % 65536)).r.hl) ((s2.u_wz ((s2.r.hl + 1) % 65536)).pair) (isM ((s2.u_wz ((s2.r.hl + 1) % 65536)).f) 0)), .int .u8 (sbcF ((s2.u_wz ((s2.r.hl + 1) % 65536)).r.hl) ((s2.u_wz ((s2.r.hl + 1) % 65536)).pair) (isM ((s2.u_wz ((s2.r.hl + 1) % 65536)).f) 0))]) rfl (by kernel_rfl) (by kernel_rfl) w) (fun _ => hS) ?_
    refine turn_free (i := 14) 34 (pT p 0) rfl rfl (by kernel_rfl) (by kernel_rfl) (by kernel_rfl) (by kernel_rfl) (by kernel_rfl) (fun _ _ _ h => h) (by kernel_rfl) (fun w => heNil (ad := ⟨p, 0, none⟩) rfl (by kernel_rfl) w) (fun _ => hS) ?_
    refine turn_free (i := 15) 35 (pT p 0) rfl rfl (by kernel_rfl) (by kernel_rfl) (by kernel_rfl) (by kernel_rfl) (by kernel_rfl) (fun _ _ _ h => h) (by kernel_rfl) (fun w => heField (V := pT p 0) (R := pT p 0) rfl (by kernel_rfl) (fM0 p) w) (fun _ => hS) ?_
    refine turn_take (i := 16) 36 (pT p 3) rfl rfl (by kernel_rfl) (by kernel_rfl) (by kernel_rfl) (by kernel_rfl) (by kernel_rfl) (fun _ _ _ h => h) (by kernel_rfl) (fun w hS => heField (V := pT p 0) (R := pT p 3) rfl (by kernel_rfl) (fR3 p) w) hS ?_
    refine turn_do rfl rfl (by kernel_rfl) (by kernel_rfl) (by kernel_rfl) (heStore (ad := ⟨p, 3, none⟩) (V := .int .u16 (sbcW ((s2.u_wz ((s2.r.hl + 1) % 65536)).r.hl) ((s2.u_wz ((s2.r.hl + 1) % 65536)).pair) (isM ((s2.u_wz ((s2.r.hl + 1) % 65536)).f) 0))) rfl (by kernel_rfl) (by kernel_rfl) (st16 (hn.at_.cell 3 _ fun _ _ _ => rfl) (hn.at_.frozen 3))) ?_
    have hn := hn.set 3 (.int .u16 (sbcW ((s2.u_wz ((s2.r.hl + 1) % 65536)).r.hl) ((s2.u_wz ((s2.r.hl + 1) % 65536)).pair) (isM ((s2.u_wz ((s2.r.hl + 1) % 65536)).f) 0))) ((s2.u_wz ((s2.r.hl + 1) % 65536)).u_hl (sbcW ((s2.u_wz ((s2.r.hl + 1) % 65536)).r.hl) ((s2.u_wz ((s2.r.hl + 1) % 65536)).pair) (isM ((s2.u_wz ((s2.r.hl + 1) % 65536)).f) 0))) (mu_hl _ _) (hn.at_.ms.u_hl (Wd16.mod _))
    refine turn_end (by kernel_rfl) ?_
    simp only [List.drop_succ_cons, List.drop_zero]
    try simp only [Act.put, sA, sB, sC]
    refine oA 2 (.int .u8 (sbcF ((s2.u_wz ((s2.r.hl + 1) % 65536)).r.hl) ((s2.u_wz ((s2.r.hl + 1) % 65536)).pair) (isM ((s2.u_wz ((s2.r.hl + 1) % 65536)).f) 0))) ?_
    refine endL ?_
    try simp only [Act.put, sA, sB, sC]
    refine thenN <| hK7 _ _ <| regionL <| oM 54 (pT p 0) <| oM 55 (.int .u8 (sbcF ((s2.u_wz ((s2.r.hl + 1) % 65536)).r.hl) ((s2.u_wz ((s2.r.hl + 1) % 65536)).pair) (isM ((s2.u_wz ((s2.r.hl + 1) % 65536)).f) 0))) <| oC (.tuple #[]) (m_setF (sbcF ((s2.u_wz ((s2.r.hl + 1) % 65536)).r.hl) ((s2.u_wz ((s2.r.hl + 1) % 65536)).pair) (isM ((s2.u_wz ((s2.r.hl + 1) % 65536)).f) 0)) (sbcF_byte _ _ _) hn.at_) ?_
    intro w17 hk
    have hn := hn.after hk
    refine endL ?_
    try simp only [Act.put, sA, sB, sC]
    refine endV rfl rfl ?_
    exact OutV.ok (hr.trans (Tr.run_done _ _)) hn
  · skip
    have g9 : ¬ ((s2.u_wz ((s2.r.hl + 1) % 65536)).q) = 0 := by simpa using h9
    have hr := hr.trans (run_if_neg g9)
    refine turn_start 17 18 (fun w' => NowN w p B (s2.u_wz ((s2.r.hl + 1) % 65536)) xs2 w') (by kernel_rfl) (by kernel_rfl) hn.drew ?_
    intro w18 _ hS
    have hn := hS
    refine turn_take (i := 0) 38 (pT p 0) rfl rfl (by kernel_rfl) (by kernel_rfl) (by kernel_rfl) (by kernel_rfl) (by kernel_rfl) (fun _ _ _ h => h) (by kernel_rfl) (fun w hS => heMove (.inl rfl) (by kernel_rfl) w) hS ?_
    refine turn_take (i := 1) 39 (pT p 0) rfl rfl (by kernel_rfl) (by kernel_rfl) (by kernel_rfl) (by kernel_rfl) (by kernel_rfl) (fun _ _ _ h => h) (by kernel_rfl) (fun w hS => heMove (.inl rfl) (by kernel_rfl) w) hS ?_
    refine turn_take (i := 2) 40 (pT p 0) rfl rfl (by kernel_rfl) (by kernel_rfl) (by kernel_rfl) (by kernel_rfl) (by kernel_rfl) (fun _ _ _ h => h) (by kernel_rfl) (fun w hS => heNil (ad := ⟨p, 0, none⟩) rfl (by kernel_rfl) w) hS ?_
    refine turn_take (i := 3) 41 (pT p 0) rfl rfl (by kernel_rfl) (by kernel_rfl) (by kernel_rfl) (by kernel_rfl) (by kernel_rfl) (fun _ _ _ h => h) (by kernel_rfl) (fun w hS => heField (V := pT p 0) (R := pT p 0) rfl (by kernel_rfl) (fM0 p) w) hS ?_
    refine turn_take (i := 4) 42 (pT p 3) rfl rfl (by kernel_rfl) (by kernel_rfl) (by kernel_rfl) (by kernel_rfl) (by kernel_rfl) (fun _ _ _ h => h) (by kernel_rfl) (fun w hS => heField (V := pT p 0) (R := pT p 3) rfl (by kernel_rfl) (fR3 p) w) hS ?_
    have b19 := hn.at_.ms.r.hl
    refine turn_take (i := 5) 43 (.int .u16 ((s2.u_wz ((s2.r.hl + 1) % 65536)).r.hl)) rfl rfl (by kernel_rfl) (by kernel_rfl) (by kernel_rfl) (by kernel_rfl) (by kernel_rfl) (fun _ _ _ h => h) (by kernel_rfl) (fun w hS => heLoad rfl (by kernel_rfl) (ld16 (hS.at_.cell 3 (.int .u16 ((s2.u_wz ((s2.r.hl + 1) % 65536)).r.hl)) fun _ _ _ => rfl))) hS ?_
    refine turn_take (i := 6) 44 (pT p 0) rfl rfl (by kernel_rfl) (by kernel_rfl) (by kernel_rfl) (by kernel_rfl) (by kernel_rfl) (fun _ _ _ h => h) (by kernel_rfl) (fun w hS => heMove (.inl rfl) (by kernel_rfl) w) hS ?_
    refine turn_take (i := 8) 46 (pT p 0) rfl rfl (by kernel_rfl) (by kernel_rfl) (by kernel_rfl) (by kernel_rfl) (by kernel_rfl) (fun _ _ _ h => h) (by kernel_rfl) (fun w hS => heMove (.inl rfl) (by kernel_rfl) w) hS ?_
    have b20 := pair_word hn.at_.ms
    refine turnO (i := 7) (.int .u16 ((s2.u_wz ((s2.r.hl + 1) % 65536)).pair)) rfl (by kernel_rfl) (by kernel_rfl) (by kernel_rfl) (by kernel_rfl) (m_pair  hn.at_) (fun w' hk => hS.after hk) ?_
    intro w21 hk
    have hn := hn.after hk
    have hS := hn
    have b22 := f_byte hn.at_.ms
    refine turnO (i := 9) (.int .u8 ((s2.u_wz ((s2.r.hl + 1) % 65536)).f)) rfl (by kernel_rfl) (by kernel_rfl) (by kernel_rfl) (by kernel_rfl) (m_f  hn.at_) (fun w' hk => hS.after hk) ?_
    intro w23 hk
    have hn := hn.after hk
    have hS := hn
    refine turnO (i := 10) (.tuple #[.int .u16 (adcW ((s2.u_wz ((s2.r.hl + 1) % 65536)).r.hl) ((s2.u_wz ((s2.r.hl + 1) % 65536)).pair) (isM ((s2.u_wz ((s2.r.hl + 1) % 65536)).f) 0)), .int .u8 (adcF ((s2.u_wz ((s2.r.hl + 1) % 65536)).r.hl) ((s2.u_wz ((s2.r.hl + 1) % 65536)).pair) (isM ((s2.u_wz ((s2.r.hl + 1) % 65536)).f) 0))]) rfl (by kernel_rfl) (by kernel_rfl) (by kernel_rfl) (by kernel_rfl) (wadc_any ((s2.u_wz ((s2.r.hl + 1) % 65536)).r.hl) ((s2.u_wz ((s2.r.hl + 1) % 65536)).pair) ((s2.u_wz ((s2.r.hl + 1) % 65536)).f) (b19) (b20) (b22) _) (fun w' hb => hS.below hb) ?_
    intro w24 hb
    have hn := hn.below hb
    have hS := hn
    refine turn_take (i := 11) 37 (.tuple #[.int .u16 (adcW ((s2.u_wz ((s2.r.hl + 1) % 65536)).r.hl) ((s2.u_wz ((s2.r.hl + 1) % 65536)).pair) (isM ((s2.u_wz ((s2.r.hl + 1) % 65536)).f) 0)), .int .u8 (adcF ((s2.u_wz ((s2.r.hl + 1) % 65536)).r.hl) ((s2.u_wz ((s2.r.hl + 1) % 65536)).pair) (isM ((s2.u_wz ((s2.r.hl + 1) % 65536)).f) 0))]) rfl rfl (by kernel_rfl) (by kernel_rfl) (by kernel_rfl) (by kernel_rfl) (by kernel_rfl) (fun _ _ _ h => h) (by kernel_rfl) (fun w hS => heMove (.inl rfl) (by kernel_rfl) w) hS ?_
    refine turn_take (i := 12) 49 (.int .u16 (adcW ((s2.u_wz ((s2.r.hl + 1) % 65536)).r.hl) ((s2.u_wz ((s2.r.hl + 1) % 65536)).pair) (isM ((s2.u_wz ((s2.r.hl + 1) % 65536)).f) 0))) rfl rfl (by kernel_rfl) (by kernel_rfl) (by kernel_rfl) (by kernel_rfl) (by kernel_rfl) (fun _ _ _ h => h) (by kernel_rfl) (fun w hS => heExtract (vs := #[.int .u16 (adcW ((s2.u_wz ((s2.r.hl + 1) % 65536)).r.hl) ((s2.u_wz ((s2.r.hl + 1) % 65536)).pair) (isM ((s2.u_wz ((s2.r.hl + 1) % 65536)).f) 0)), .int .u8 (adcF ((s2.u_wz ((s2.r.hl + 1) % 65536)).r.hl) ((s2.u_wz ((s2.r.hl + 1) % 65536)).pair) (isM ((s2.u_wz ((s2.r.hl + 1) % 65536)).f) 0))]) rfl (by kernel_rfl) (by kernel_rfl) w) hS ?_
    refine turn_free (i := 13) 50 (.int .u8 (adcF ((s2.u_wz ((s2.r.hl + 1) % 65536)).r.hl) ((s2.u_wz ((s2.r.hl + 1) % 65536)).pair) (isM ((s2.u_wz ((s2.r.hl + 1) % 65536)).f) 0))) rfl rfl (by kernel_rfl) (by kernel_rfl) (by kernel_rfl) (by kernel_rfl) (by kernel_rfl) (fun _ _ _ h => h) (by kernel_rfl) (fun w => heExtract (vs := #[.int .u16 (adcW ((s2.u_wz ((s2.r.hl + 1) % 65536)).r.hl) ((s2.u_wz ((s2.r.hl + 1) % 65536)).pair) (isM ((s2.u_wz ((s2.r.hl + 1) % 65536)).f) 0)), .int .u8 (adcF ((s2.u_wz ((s2.r.hl + 1) % 65536)).r.hl) ((s2.u_wz ((s2.r.hl + 1) % 65536)).pair) (isM ((s2.u_wz ((s2.r.hl + 1) % 65536)).f) 0))]) rfl (by kernel_rfl) (by kernel_rfl) w) (fun _ => hS) ?_
    refine turn_free (i := 14) 51 (pT p 0) rfl rfl (by kernel_rfl) (by kernel_rfl) (by kernel_rfl) (by kernel_rfl) (by kernel_rfl) (fun _ _ _ h => h) (by kernel_rfl) (fun w => heNil (ad := ⟨p, 0, none⟩) rfl (by kernel_rfl) w) (fun _ => hS) ?_
    refine turn_free (i := 15) 52 (pT p 0) rfl rfl (by kernel_rfl) (by kernel_rfl) (by kernel_rfl) (by kernel_rfl) (by kernel_rfl) (fun _ _ _ h => h) (by kernel_rfl) (fun w => heField (V := pT p 0) (R := pT p 0) rfl (by kernel_rfl) (fM0 p) w) (fun _ => hS) ?_
    refine turn_take (i := 16) 53 (pT p 3) rfl rfl (by kernel_rfl) (by kernel_rfl) (by kernel_rfl) (by kernel_rfl) (by kernel_rfl) (fun _ _ _ h => h) (by kernel_rfl) (fun w hS => heField (V := pT p 0) (R := pT p 3) rfl (by kernel_rfl) (fR3 p) w) hS ?_
    refine turn_do rfl rfl (by kernel_rfl) (by kernel_rfl) (by kernel_rfl) (heStore (ad := ⟨p, 3, none⟩) (V := .int .u16 (adcW ((s2.u_wz ((s2.r.hl + 1) % 65536)).r.hl) ((s2.u_wz ((s2.r.hl + 1) % 65536)).pair) (isM ((s2.u_wz ((s2.r.hl + 1) % 65536)).f) 0))) rfl (by kernel_rfl) (by kernel_rfl) (st16 (hn.at_.cell 3 _ fun _ _ _ => rfl) (hn.at_.frozen 3))) ?_
    have hn := hn.set 3 (.int .u16 (adcW ((s2.u_wz ((s2.r.hl + 1) % 65536)).r.hl) ((s2.u_wz ((s2.r.hl + 1) % 65536)).pair) (isM ((s2.u_wz ((s2.r.hl + 1) % 65536)).f) 0))) ((s2.u_wz ((s2.r.hl + 1) % 65536)).u_hl (adcW ((s2.u_wz ((s2.r.hl + 1) % 65536)).r.hl) ((s2.u_wz ((s2.r.hl + 1) % 65536)).pair) (isM ((s2.u_wz ((s2.r.hl + 1) % 65536)).f) 0))) (mu_hl _ _) (hn.at_.ms.u_hl (Wd16.mod _))
    refine turn_end (by kernel_rfl) ?_
    simp only [List.drop_succ_cons, List.drop_zero]
    try simp only [Act.put, sA, sB, sC]
    refine oA 2 (.int .u8 (adcF ((s2.u_wz ((s2.r.hl + 1) % 65536)).r.hl) ((s2.u_wz ((s2.r.hl + 1) % 65536)).pair) (isM ((s2.u_wz ((s2.r.hl + 1) % 65536)).f) 0))) ?_
    refine endL ?_
    try simp only [Act.put, sA, sB, sC]
    refine thenN <| hK7 _ _ <| regionL <| oM 54 (pT p 0) <| oM 55 (.int .u8 (adcF ((s2.u_wz ((s2.r.hl + 1) % 65536)).r.hl) ((s2.u_wz ((s2.r.hl + 1) % 65536)).pair) (isM ((s2.u_wz ((s2.r.hl + 1) % 65536)).f) 0))) <| oC (.tuple #[]) (m_setF (adcF ((s2.u_wz ((s2.r.hl + 1) % 65536)).r.hl) ((s2.u_wz ((s2.r.hl + 1) % 65536)).pair) (isM ((s2.u_wz ((s2.r.hl + 1) % 65536)).f) 0)) (adcF_byte _ _ _) hn.at_) ?_
    intro w25 hk
    have hn := hn.after hk
    refine endL ?_
    try simp only [Act.put, sA, sB, sC]
    refine endV rfl rfl ?_
    exact OutV.ok (hr.trans (Tr.run_done _ _)) hn
theorem m_pairAtPlace  {s : Ms} {xs : List Int} {w : World} {p B : Nat} (h : AtN w p B s xs) :
    Calls Tryz.prog 112 #[pT p 0] w (OutV w p B ((pairAtPlaceN s).run xs)) := by
 have hn := NowN.begin h
 have hr : (pairAtPlaceN s).run xs = (pairAtPlaceN s).run xs := rfl
 go_enter Tryz.func112, Tryz.ntmps112
 refine coStart <| coR <| nR 1 hn <| nI (m_word hn.at_) hn hr <| fun v2 s2 xs2 w2 hk2 hn hr => nE hn <| nQ hn <| nIf hr (fun g4 hr => ?_) fun g4 hr => ?_
 · exact have b5 := pair_word hn.at_.ms; coZ <| nR 3 hn <| nA (m_pair hn.at_) hn <| fun w6 hn => nV (m_storeWord v2 (hk2) s2.pair (b5) hn.at_) hn hr <| fun s7 xs7 w7 hn hr => woE <| eoV (OutV.ok (dN hr) hn)
 exact coZ <| nR 3 hn <| nI (m_loadWord v2 (hk2) hn.at_) hn hr <| fun v8 s8 xs8 w8 hk8 hn hr => nA (m_setPair v8 (hk8) hn.at_) hn <| fun w9 hn => woE <| eoV (OutV.ok (dN hr) hn)
theorem m_show (b : Int) (hAb : B8 b) {s : Ms} {xs : List Int} {w : World} {p B : Nat} (h : AtN w p B s xs) :
    Calls Tryz.prog 212 #[pT p 0, .int .u8 (b)] w (fun e w' => e = .returned (.tuple #[]) ∧ NowN w p B (showN b s) xs w') := by
 have hn := NowN.begin h
 go_enter Tryz.func212, Tryz.ntmps212
 refine coStart <| coR <| nR 1 hn <| kE (result_any b (hAb).1 (hAb).2 _) <| nR 1 hn <| nA (m_carry hn.at_) hn <| fun w3 hn => kBj 9 (.int .u8 (resultM b)) (.int .u8 (s.carry)) (.int .u8 (withM (resultM b) 0 (isM s.f 0))) (eg8 _ _ _ _ _) (bOrResult _ _) <| nE hn <| coS <| nQ hn <| coI (s.r.iff2) (fun h6 => ?_) fun h6 => ?_
 · have g6 : s.r.iff2 = true := by simpa using h6
   refine coZ <| nR 1 hn <| kBj 16 (.int .u8 (withM (resultM b) 0 (isM s.f 0))) (.int .u8 (4)) (.int .u8 (withM (withM (resultM b) 0 (isM s.f 0)) 2 true)) (eg8 _ _ _ _ _) (bOrP _ (B8.with (resultM_byte _) _ _)) <| nE hn <| coZ <| nR 3 hn <| kE (word_any b (withM (withM (resultM b) 0 (isM s.f 0)) 2 true) (hAb).1 (hAb).2 (B8.with (B8.with (resultM_byte _) _ _) _ _).1 (B8.with (B8.with (resultM_byte _) _ _) _ _).2 _) <| nFs hn (.u_af _ (256 * b + (withM (withM (resultM b) 0 (isM s.f 0)) 2 true))) (hn.at_.ms.u_af (Wd16.mk8 (hAb) (B8.with (B8.with (resultM_byte _) _ _) _ _))) <| fun w8 hn => eoV ?_
   have e : showN b s = s.u_af (256 * b + (withM (withM (resultM b) 0 (isM s.f 0)) 2 true)) := by
    unfold showN
    repeat (first | rw [if_pos (by assumption)] | rw [if_neg (by assumption)])
    rw [show s.r.iff2 = true from by assumption]; rfl
   exact ⟨rfl, e ▸ hn⟩
 have g6 : ¬ s.r.iff2 = true := by simpa using h6
 refine coSkip <| eoT <| coZ <| nR 3 hn <| kE (word_any b (withM (resultM b) 0 (isM s.f 0)) (hAb).1 (hAb).2 (B8.with (resultM_byte _) _ _).1 (B8.with (resultM_byte _) _ _).2 _) <| nFs hn (.u_af _ (256 * b + (withM (resultM b) 0 (isM s.f 0)))) (hn.at_.ms.u_af (Wd16.mk8 (hAb) (B8.with (resultM_byte _) _ _))) <| fun w10 hn => eoV ?_
 have e : showN b s = s.u_af (256 * b + (withM (resultM b) 0 (isM s.f 0))) := by
  unfold showN
  repeat (first | rw [if_pos (by assumption)] | rw [if_neg (by assumption)])
  rw [show s.r.iff2 = false from by simpa using (by assumption : ¬ s.r.iff2 = true), with2_off]; rfl
 exact ⟨rfl, e ▸ hn⟩
theorem m_turnDigits  {s : Ms} {xs : List Int} {w : World} {p B : Nat} (h : AtN w p B s xs) :
    Calls Tryz.prog 213 #[pT p 0] w (OutV w p B ((turnDigitsN s).run xs)) := by
 have hn := NowN.begin h
 have hr : (turnDigitsN s).run xs = (turnDigitsN s).run xs := rfl
 go_enter Tryz.func213, Tryz.ntmps213
 exact coStart <| have b2 := hn.at_.ms.r.hl; coR <| nR 6 hn <| nI (m_read s.r.hl (b2) hn.at_) hn hr <| fun v3 s3 xs3 w3 hk3 hn hr => nE hn <| coR <| nR 1 hn <| nV (m_pause 4 hn.at_) hn hr <| fun s5 xs5 w5 hn hr => wT <| nQ hn <| have b8 := a_byte hn.at_.ms; coR <| nR 2 hn <| nA (m_a hn.at_) hn <| fun w9 hn => have b10 := f_byte hn.at_.ms; nR 2 hn <| nA (m_f hn.at_) hn <| fun w11 hn => nB (digit_any (s5.y == 4) s5.a v3 s5.f (b8) (hk3) (b10) _) hn <| fun w12 hn => nE hn <| coR <| nR 3 hn <| kE (word_any (digA (s5.y == 4) s5.a v3) (evenC (digA (s5.y == 4) s5.a v3) (isM s5.f 0)) (digA_byte _ _ _ (b8) (hk3)).1 (digA_byte _ _ _ (b8) (hk3)).2 (evenC_byte _ _).1 (evenC_byte _ _).2 _) <| nEs hn (.u_af _ (256 * (digA (s5.y == 4) s5.a v3) + (evenC (digA (s5.y == 4) s5.a v3) (isM s5.f 0)))) (hn.at_.ms.u_af (Wd16.mk8 (digA_byte _ _ _ (b8) (hk3)) (evenC_byte _ _))) <| fun w15 hn => have b17 := hn.at_.ms.r.hl; coR <| nR 7 hn <| nV (m_write ((s5.u_af (256 * (digA (s5.y == 4) s5.a v3) + (evenC (digA (s5.y == 4) s5.a v3) (isM s5.f 0)))).r.hl) (b17) (digB (s5.y == 4) s5.a v3) (digB_byte _ _ _ (b8) (hk3)) hn.at_) hn hr <| fun s18 xs18 w18 hn hr => wT <| have b19 := hn.at_.ms.r.hl; coZ <| nFs hn (.u_wz _ ((s18.r.hl + 1) % 65536)) (hn.at_.ms.u_wz (Wd16.mod _)) <| fun w20 hn => eoV (OutV.ok (dN hr) hn)
theorem m_special  {s : Ms} {xs : List Int} {w : World} {p B : Nat} (h : AtN w p B s xs) :
    Calls Tryz.prog 118 #[pT p 0] w (OutV w p B ((specialN s).run xs)) := by
 have hn := NowN.begin h
 have hr : (specialN s).run xs = (specialN s).run xs := rfl
 go_enter Tryz.func118, Tryz.ntmps118
 refine coStart <| nQ hn <| coB <| nQ hn <| nIf hr (fun g3 hr => ?_) fun g3 hr => ?_
 · exact coR <| nR 1 hn <| nV (m_pause 1 hn.at_) hn hr <| fun s5 xs5 w5 hn hr => wT <| have b6 := a_byte hn.at_.ms; coZ <| nR 2 hn <| nA (m_a hn.at_) hn <| fun w7 hn => nFs hn (.u_i _ (s5.a)) (hn.at_.ms.u_i (b6)) <| fun w8 hn => eoB <| eoV (OutV.ok (dN hr) hn)
 refine nQ hn <| nIf hr (fun g10 hr => ?_) fun g10 hr => ?_
 · exact coR <| nR 1 hn <| nV (m_pause 1 hn.at_) hn hr <| fun s12 xs12 w12 hn hr => wT <| have b13 := a_byte hn.at_.ms; coZ <| nR 2 hn <| nA (m_a hn.at_) hn <| fun w14 hn => nFs hn (.u_r _ (s12.a)) (hn.at_.ms.u_r (b13)) <| fun w15 hn => eoB <| eoV (OutV.ok (dN hr) hn)
 refine nQ hn <| nIf hr (fun g17 hr => ?_) fun g17 hr => ?_
 · exact coR <| nR 1 hn <| nV (m_pause 1 hn.at_) hn hr <| fun s19 xs19 w19 hn hr => wT <| have b20 := hn.at_.ms.r.i; coZ <| nR 6 hn <| nA (m_show s19.r.i (b20) hn.at_) hn <| fun w21 hn => woE <| eoB <| eoV (OutV.ok (dN hr) hn)
 refine nQ hn <| nIf hr (fun g23 hr => ?_) fun g23 hr => ?_
 · exact coR <| nR 1 hn <| nV (m_pause 1 hn.at_) hn hr <| fun s25 xs25 w25 hn hr => wT <| have b26 := hn.at_.ms.r.r; coZ <| nR 6 hn <| nA (m_show s25.r.r (b26) hn.at_) hn <| fun w27 hn => woE <| eoB <| eoV (OutV.ok (dN hr) hn)
 refine coS <| nQ hn <| coI (s.y == 4) (fun h30 => ?_) fun h30 => ?_
 · have g30 : s.y = 4 := by simpa using h30
   exact have hr := hr.trans (run_if_pos (.inl g30)); coSkip <| eoT <| coJ (s.y == 4) (fun h31 => absurd (h30.symm.trans h31) (by decide)) <| fun h31 => coZ <| nR 1 hn <| nV (m_turnDigits hn.at_) hn hr <| fun s32 xs32 w32 hn hr => woE <| eoB <| eoV (OutV.ok (dN hr) hn)
 have g30 : ¬ s.y = 4 := by simpa using h30
 refine coZ <| nE hn <| coI (s.y == 5) (fun h33 => ?_) fun h33 => ?_
 · have g33 : s.y = 5 := by simpa using h33
   exact have hr := hr.trans (run_if_pos (.inr g33)); coZ <| nR 1 hn <| nV (m_turnDigits hn.at_) hn hr <| fun s34 xs34 w34 hn hr => woE <| eoB <| eoV (OutV.ok (dN hr) hn)
 have g33 : ¬ s.y = 5 := by simpa using h33
 exact have hr := hr.trans (run_if_neg (not_or.2 ⟨g30, g33⟩)); coSkip <| eoB <| eoV (OutV.ok (dN hr) hn)
theorem m_nothing  {s : Ms} {xs : List Int} {w : World} {p B : Nat} (h : AtN w p B s xs) :
    Calls Tryz.prog 63 #[pT p 0] w (fun e w' => e = .returned (.tuple #[]) ∧ NowN w p B (s) xs w') := by
 have hn := NowN.begin h
 go_enter Tryz.func63, Tryz.ntmps63
 exact coStart <| coSkip <| eoV (⟨rfl, hn⟩)
theorem m_extended  {s : Ms} {xs : List Int} {w : World} {p B : Nat} (h : AtN w p B s xs) :
    Calls Tryz.prog 64 #[pT p 0] w (OutV w p B ((extendedN s).run xs)) := by
 have hn := NowN.begin h
 have hr : (extendedN s).run xs = (extendedN s).run xs := rfl
 go_enter Tryz.func64, Tryz.ntmps64
 refine wp_seq_k fun K1 hK1 => regionL <| oM 4 (pT p 0) <| oN 5 p 0 <| oF 6 (fM5 p) <| oL 7 (ldI (hn.at_.cell 24 (.int .i64 (s.z)) fun _ _ _ => rfl)) ?_
 refine endL ?_
 try simp only [Act.put, sA, sB, sC]
 refine thenN <| hK1 _ _ ?_
 refine wp_block ?_
 refine wp_seq_k fun K2 hK2 => regionL <| oB 9 (egI _ _ _ _ _) (bEqI s.z 0) <| oA 8 (.bool (s.z == 0)) ?_
 refine endL ?_
 try simp only [Act.put, sA, sB, sC]
 refine thenN <| hK2 _ _ ?_
 refine wp_cond_split (t := s.z == 0) (by kernel_rfl) (fun h3 => ?_) (fun h3 => ?_)
 · have g3 : s.z = 0 := by simpa using h3
   have hr := hr.trans (run_if_pos g3)
   exact coStart <| coZ <| nR 1 hn <| nVt (m_takeIn hn.at_) hn hr <| fun s4 xs4 w4 hn hr => woE <| eoB <| eoV (OutV.ok (dN hr) hn)
 · have g3 : ¬ s.z = 0 := by simpa using h3
   have hr := hr.trans (run_if_neg g3)
   refine wp_seq_k fun K5 hK5 => regionL <| oB 13 (egI _ _ _ _ _) (bEqI s.z 1) <| oA 12 (.bool (s.z == 1)) ?_
   refine endL ?_
   try simp only [Act.put, sA, sB, sC]
   refine thenN <| hK5 _ _ ?_
   refine wp_cond_split (t := s.z == 1) (by kernel_rfl) (fun h6 => ?_) (fun h6 => ?_)
   · have g6 : s.z = 1 := by simpa using h6
     have hr := hr.trans (run_if_pos g6)
     exact coStart <| coZ <| nR 1 hn <| nVt (m_giveOut hn.at_) hn hr <| fun s7 xs7 w7 hn hr => woE <| eoB <| eoV (OutV.ok (dN hr) hn)
   · have g6 : ¬ s.z = 1 := by simpa using h6
     have hr := hr.trans (run_if_neg g6)
     refine wp_seq_k fun K8 hK8 => regionL <| oB 17 (egI _ _ _ _ _) (bEqI s.z 2) <| oA 16 (.bool (s.z == 2)) ?_
     refine endL ?_
     try simp only [Act.put, sA, sB, sC]
     refine thenN <| hK8 _ _ ?_
     refine wp_cond_split (t := s.z == 2) (by kernel_rfl) (fun h9 => ?_) (fun h9 => ?_)
     · have g9 : s.z = 2 := by simpa using h9
       have hr := hr.trans (run_if_pos g9)
       exact coStart <| coZ <| nR 1 hn <| nVt (m_addCarried hn.at_) hn hr <| fun s10 xs10 w10 hn hr => woE <| eoB <| eoV (OutV.ok (dN hr) hn)
     · have g9 : ¬ s.z = 2 := by simpa using h9
       have hr := hr.trans (run_if_neg g9)
       refine wp_seq_k fun K11 hK11 => regionL <| oB 21 (egI _ _ _ _ _) (bEqI s.z 3) <| oA 20 (.bool (s.z == 3)) ?_
       refine endL ?_
       try simp only [Act.put, sA, sB, sC]
       refine thenN <| hK11 _ _ ?_
       refine wp_cond_split (t := s.z == 3) (by kernel_rfl) (fun h12 => ?_) (fun h12 => ?_)
       · have g12 : s.z = 3 := by simpa using h12
         have hr := hr.trans (run_if_pos g12)
         exact coStart <| coZ <| nR 1 hn <| nVt (m_pairAtPlace hn.at_) hn hr <| fun s13 xs13 w13 hn hr => woE <| eoB <| eoV (OutV.ok (dN hr) hn)
       · have g12 : ¬ s.z = 3 := by simpa using h12
         have hr := hr.trans (run_if_neg g12)
         refine wp_seq_k fun K14 hK14 => regionL <| oB 25 (egI _ _ _ _ _) (bEqI s.z 4) <| oA 24 (.bool (s.z == 4)) ?_
         refine endL ?_
         try simp only [Act.put, sA, sB, sC]
         refine thenN <| hK14 _ _ ?_
         refine wp_cond_split (t := s.z == 4) (by kernel_rfl) (fun h15 => ?_) (fun h15 => ?_)
         · have g15 : s.z = 4 := by simpa using h15
           have hr := hr.trans (run_if_pos g15)
           exact coStart <| have b17 := a_byte hn.at_.ms; coR <| nR 1 hn <| nA (m_a hn.at_) hn <| fun w18 hn => nB (neg_any s.a (b17) _) hn <| fun w19 hn => nE hn <| coZ <| nR 3 hn <| kE (word_any (subR 0 s.a false) (subF 0 s.a false) (subR_byte _ _ _).1 (subR_byte _ _ _).2 (subF_byte _ _ _).1 (subF_byte _ _ _).2 _) <| nFs hn (.u_af _ (256 * (subR 0 s.a false) + (subF 0 s.a false))) (hn.at_.ms.u_af (Wd16.mk8 (subR_byte _ _ _) (subF_byte _ _ _))) <| fun w21 hn => eoB <| eoV (OutV.ok (dN hr) hn)
         · have g15 : ¬ s.z = 4 := by simpa using h15
           have hr := hr.trans (run_if_neg g15)
           refine wp_seq_k fun K22 hK22 => regionL <| oB 40 (egI _ _ _ _ _) (bEqI s.z 5) <| oA 39 (.bool (s.z == 5)) ?_
           refine endL ?_
           try simp only [Act.put, sA, sB, sC]
           refine thenN <| hK22 _ _ ?_
           refine wp_cond_split (t := s.z == 5) (by kernel_rfl) (fun h23 => ?_) (fun h23 => ?_)
           · have g23 : s.z = 5 := by simpa using h23
             have hr := hr.trans (run_if_pos g23)
             exact coStart <| coR <| nR 2 hn <| nI (m_pop hn.at_) hn hr <| fun v25 s25 xs25 w25 hk25 hn hr => nA (m_goTo v25 (hk25) hn.at_) hn <| fun w26 hn => wT <| coZ <| nFs hn (.u_iff1 _ ((s25.goTo v25).r.iff2)) (hn.at_.ms.u_iff1) <| fun w27 hn => eoB <| eoV (OutV.ok (dN hr) hn)
           · have g23 : ¬ s.z = 5 := by simpa using h23
             have hr := hr.trans (run_if_neg g23)
             refine wp_seq_k fun K28 hK28 => regionL <| oB 55 (egI _ _ _ _ _) (bEqI s.z 6) <| oA 54 (.bool (s.z == 6)) ?_
             refine endL ?_
             try simp only [Act.put, sA, sB, sC]
             refine thenN <| hK28 _ _ ?_
             refine wp_cond_split (t := s.z == 6) (by kernel_rfl) (fun h29 => ?_) (fun h29 => ?_)
             · have g29 : s.z = 6 := by simpa using h29
               have hr := hr.trans (run_if_pos g29)
               refine regionL <| oM 56 (pT p 0) <| oM 57 (pT p 0) <| oN 58 p 0 <| oF 59 (fM4 p) <| oL 60 (ldI (hn.at_.cell 23 (.int .i64 (s.y)) fun _ _ _ => rfl)) ?_
               rcases mod4 (s.y) with g30 | g30 | g30 | g30
               · refine oB 61 (egI _ _ _ _ _) (bRem4 (hn.at_.ms.y.1) g30) ?_
                 have hr := hr.trans (run_if_neg (by simp [g30, g29, g23, g15, g12, g9, g6, g3]))
                 have hr := hr.trans (run_if_neg (by simp [g30, g29, g23, g15, g12, g9, g6, g3]))
                 refine oI 62 (pT 0 0) (.int .i64 (0)) (pT 0 0) (idx4_0 _) <| oL 63 (ldI (hn.at_.tabs.modes.1)) <| oN 64 p 0 <| oF 65 (fM0 p) <| oF 66 (fR19 p) ?_
                 refine sSetN hn 19 (.int .i64 (0)) (s.u_mode (0)) rfl rfl rfl (by kernel_rfl) (by kernel_rfl) (stI (hn.at_.cell 19 _ fun _ _ _ => rfl) (hn.at_.frozen 19)) (mu_mode _ _) (hn.at_.ms.u_mode (⟨by decide, by decide⟩)) ?_
                 intro w31 hn
                 refine endL ?_
                 try simp only [Act.put, sA, sB, sC]
                 refine blockN ?_
                 refine endV rfl rfl ?_
                 exact OutV.ok (hr.trans (Tr.run_done _ _)) hn
               · refine oB 61 (egI _ _ _ _ _) (bRem4 (hn.at_.ms.y.1) g30) ?_
                 have hr := hr.trans (run_if_neg (by simp [g30, g29, g23, g15, g12, g9, g6, g3]))
                 have hr := hr.trans (run_if_neg (by simp [g30, g29, g23, g15, g12, g9, g6, g3]))
                 refine oI 62 (pT 0 0) (.int .i64 (1)) (pT 0 1) (idx4_1 _) <| oL 63 (ldI (hn.at_.tabs.modes.2.1)) <| oN 64 p 0 <| oF 65 (fM0 p) <| oF 66 (fR19 p) ?_
                 refine sSetN hn 19 (.int .i64 (0)) (s.u_mode (0)) rfl rfl rfl (by kernel_rfl) (by kernel_rfl) (stI (hn.at_.cell 19 _ fun _ _ _ => rfl) (hn.at_.frozen 19)) (mu_mode _ _) (hn.at_.ms.u_mode (⟨by decide, by decide⟩)) ?_
                 intro w32 hn
                 refine endL ?_
                 try simp only [Act.put, sA, sB, sC]
                 refine blockN ?_
                 refine endV rfl rfl ?_
                 exact OutV.ok (hr.trans (Tr.run_done _ _)) hn
               · refine oB 61 (egI _ _ _ _ _) (bRem4 (hn.at_.ms.y.1) g30) ?_
                 have hr := hr.trans (run_if_pos g30)
                 refine oI 62 (pT 0 0) (.int .i64 (2)) (pT 0 2) (idx4_2 _) <| oL 63 (ldI (hn.at_.tabs.modes.2.2.1)) <| oN 64 p 0 <| oF 65 (fM0 p) <| oF 66 (fR19 p) ?_
                 refine sSetN hn 19 (.int .i64 (1)) (s.u_mode (1)) rfl rfl rfl (by kernel_rfl) (by kernel_rfl) (stI (hn.at_.cell 19 _ fun _ _ _ => rfl) (hn.at_.frozen 19)) (mu_mode _ _) (hn.at_.ms.u_mode (⟨by decide, by decide⟩)) ?_
                 intro w33 hn
                 refine endL ?_
                 try simp only [Act.put, sA, sB, sC]
                 refine blockN ?_
                 refine endV rfl rfl ?_
                 exact OutV.ok (hr.trans (Tr.run_done _ _)) hn
               · refine oB 61 (egI _ _ _ _ _) (bRem4 (hn.at_.ms.y.1) g30) ?_
                 have hr := hr.trans (run_if_neg (by simp [g30, g29, g23, g15, g12, g9, g6, g3]))
                 have hr := hr.trans (run_if_pos g30)
                 refine oI 62 (pT 0 0) (.int .i64 (3)) (pT 0 3) (idx4_3 _) <| oL 63 (ldI (hn.at_.tabs.modes.2.2.2)) <| oN 64 p 0 <| oF 65 (fM0 p) <| oF 66 (fR19 p) ?_
                 refine sSetN hn 19 (.int .i64 (2)) (s.u_mode (2)) rfl rfl rfl (by kernel_rfl) (by kernel_rfl) (stI (hn.at_.cell 19 _ fun _ _ _ => rfl) (hn.at_.frozen 19)) (mu_mode _ _) (hn.at_.ms.u_mode (⟨by decide, by decide⟩)) ?_
                 intro w34 hn
                 refine endL ?_
                 try simp only [Act.put, sA, sB, sC]
                 refine blockN ?_
                 refine endV rfl rfl ?_
                 exact OutV.ok (hr.trans (Tr.run_done _ _)) hn
             · have g29 : ¬ s.z = 6 := by simpa using h29
               have hr := hr.trans (run_if_neg g29)
               refine coStart <| nQ hn <| nIf hr (fun g36 hr => ?_) fun g36 hr => ?_
               · exact coZ <| nR 1 hn <| nVt (m_special hn.at_) hn hr <| fun s37 xs37 w37 hn hr => woE <| eoB <| eoV (OutV.ok (dN hr) hn)
               exact coSkip <| eoB <| eoV (OutV.ok (dN hr) hn)
def OutF (w0 : World) (p B : Nat) (vals : Array Value) : Except Cy (Ms × List Int) → Ending → World → Prop
  | .ok (s, ys), e, w' => e = .returned (.agg vals) ∧ NowN w0 p B s ys w'
  | .error c, e, w' => e = .panicked [{ v := .iface 28 (cyV c), recovered := false }] ∧ Besides p p w0 w'
theorem OutF.ok {w0 w : World} {p B : Nat} {vals : Array Value} {X : Except Cy (Ms × List Int)} {s : Ms} {ys : List Int} (h : X = .ok (s, ys)) (hn : NowN w0 p B s ys w) : OutF w0 p B vals X (.returned (.agg vals)) w := by
  subst h
  exact ⟨rfl, hn⟩
theorem OutF.err {w0 w : World} {p B : Nat} {vals : Array Value} {X : Except Cy (Ms × List Int)} {c : Cy} (h : X = .error c) (hb : Besides p p w0 w) : OutF w0 p B vals X (.panicked [{ v := .iface 28 (cyV c), recovered := false }]) w := by
  subst h
  exact ⟨rfl, hb⟩
@[reducible] def zero4 : Array Value := #[.nilFunc, .nilFunc, .nilFunc, .nilFunc]
theorem info4 : (Tryz.prog.info? 70).map (·.size) = some 4 := by kernel_rfl
theorem alloc4 (w : World) : (Instr.alloc 70 true (.tuple #[])).run Tryz.prog w = .ok (pT w.heap.size 0) (w.alloc (.cells zero4 70)) := by
  simp [go_sem]
theorem heAlloc {P : Program} {a : Act} {o : Oper} {t : TypeId} {w w' : World} {V : Value} (ho : o.op = .alloc t) (h : (Instr.alloc t true (.tuple #[])).run P w = .ok V w') : (execOp a.eval o).run P w = .ok (.value V) w' := by
  unfold execOp
  simp only [ho, Sem.run_bind, h, Result.andThen_ok, Sem.run_pure]
theorem AtN.far {w : World} {p B L : Nat} {s : Ms} {xs : List Int} (h : AtN w p B s xs) (hp : L ≠ p) (hB : B ≤ L) (vs : List Value) (o : Nat) : AtN (w.setCells L o vs) p B s xs := by
  obtain ⟨⟨A, cap, hc, hr, hby⟩, hl, h8, hm, ht⟩ := h
  have k : ∀ b, b < B → (w.setCells L o vs).heap[b]? = w.heap[b]? := fun b hlt => heap_setCells L b (by omega) _ _ _
  exact ⟨⟨A, cap, hc, hr.setFar (Ne.symm hp) vs o, hby.keep k⟩, hl, h8, hm, ht.keep k⟩
theorem NowN.far {w0 w : World} {p B L : Nat} {s : Ms} {xs : List Int} (h : NowN w0 p B s xs w) (hp : L ≠ p) (hB : B ≤ L) (h0 : w0.heap.size ≤ L) (vs : List Value) (o : Nat) : NowN w0 p B s xs (w.setCells L o vs) :=
  ⟨h.at_.far hp hB vs o, h.bes.setCells (.inr (.inr h0)) _ _⟩
theorem NowN.base {w w0 w' : World} {p B : Nat} {s : Ms} {xs : List Int} (h : NowN w0 p B s xs w') (k : Besides p p w w0) : NowN w p B s xs w' := ⟨h.at_, k.trans h.bes⟩
theorem heFunc {P : Program} {a : Act} {o : Oper} {fn : Fn} {first cap : Array Operand} {fv cv : Array Value} (ho : o.op = .makeFunc fn first cap) (hf : first.map a.eval = fv) (hc : cap.map a.eval = cv) (w : World) : (execOp a.eval o).run P w = .ok (.value (.func fn fv cv)) w := by
  unfold execOp
  simp only [ho, hf, hc, Sem.run_bind, Sem.run_pure]
  rfl
theorem m_behindCB  {s : Ms} {xs : List Int} {w : World} {p B : Nat} (h : AtN w p B s xs) :
    Calls Tryz.prog 44 #[pT p 0] w (OutF w p B #[.func (.func 59) #[pT p 0] #[], .func (.func 60) #[pT p 0] #[], .func (.func 61) #[pT p 0] #[], .func (.func 62) #[pT p 0] #[]] (((codeCBN s).bind fun c => .done (c.2.split c.1)).run xs)) := by
  have hn := NowN.begin h
  have hr : ((codeCBN s).bind fun c => .done (c.2.split c.1)).run xs = ((codeCBN s).bind fun c => .done (c.2.split c.1)).run xs := rfl
  go_enter Tryz.func44, Tryz.ntmps44
  refine wp_seq_k fun K1 hK1 => regionL ?_
  refine list_make 2 (pT w.heap.size 0) rfl (wantedN rfl) (heAlloc rfl (alloc4 _)) ?_
  have hL := Row.new w 70 zero4
  have hb0 : Besides p p w (w.alloc (.cells zero4 70)) := (Besides.refl ..).alloc _
  have hLp : w.heap.size ≠ p := by have := h.lt; omega
  have hLB : B ≤ w.heap.size := by have := h.lt; have := h.low; omega
  have hn := NowN.begin (h.below (Below.alloc (Below.refl _ _) (Nat.le_refl _) (.cells zero4 70)))
  generalize w.alloc (.cells zero4 70) = W1 at *
  refine endL ?_
  try simp only [Act.put, sA, sB, sC]
  refine thenN <| hK1 _ _ <| wp_seq_k fun K2 hK2 => regionL <| oM 3 (pT p 0) <| oM 4 (pT p 0) ?_
  refine sCallI hn rfl (by kernel_rfl) (m_codeBehindCB  hn.at_) (fun _ _ hX hb => thenX (panicP rfl (OutF.err (hr.trans (Tr.run_bind_error hX _)) (hb0.trans hb)))) ?_
  intro v3 s3 xs3 w3 hX hk3 hn
  have hr := hr.trans (Tr.run_bind_ok hX _)
  refine oC (.tuple #[]) (m_split v3 (hk3) hn.at_) ?_
  intro w4 hk
  have hn := hn.after hk
  refine endL ?_
  try simp only [Act.put, sA, sB, sC]
  refine thenN <| hK2 _ _ <| wp_seq_k fun K5 hK5 => regionL <| oM 7 (pT p 0) ?_
  refine list_take 8 (.func (.func 59) #[pT p 0] #[]) rfl (wantedN rfl) (heFunc rfl (by kernel_rfl) (by kernel_rfl) _) ?_
  refine oM 9 (pT p 0) ?_
  refine list_take 10 (.func (.func 60) #[pT p 0] #[]) rfl (wantedN rfl) (heFunc rfl (by kernel_rfl) (by kernel_rfl) _) ?_
  refine oM 11 (pT p 0) ?_
  refine list_take 12 (.func (.func 61) #[pT p 0] #[]) rfl (wantedN rfl) (heFunc rfl (by kernel_rfl) (by kernel_rfl) _) ?_
  refine oM 13 (pT p 0) ?_
  refine list_take 14 (.func (.func 62) #[pT p 0] #[]) rfl (wantedN rfl) (heFunc rfl (by kernel_rfl) (by kernel_rfl) _) ?_
  refine oU 15 #[.func (.func 59) #[pT p 0] #[], .func (.func 60) #[pT p 0] #[], .func (.func 61) #[pT p 0] #[], .func (.func 62) #[pT p 0] #[]] ?_
  have hk := hL.besides hn.bes hLp hLp
  refine list_do rfl (wantedN rfl) (heStore (ad := ⟨w.heap.size, 0, none⟩) (V := .agg #[.func (.func 59) #[pT p 0] #[], .func (.func 60) #[pT p 0] #[], .func (.func 61) #[pT p 0] #[], .func (.func 62) #[pT p 0] #[]]) rfl (by kernel_rfl) (by kernel_rfl) (run_storeAt_mid _ _ 0 _ #[.func (.func 59) #[pT p 0] #[], .func (.func 60) #[pT p 0] #[], .func (.func 61) #[pT p 0] #[], .func (.func 62) #[pT p 0] #[]] hk.there info4 (by simp [Value.oneCell']))) ?_
  have hr4 := hk.setAll (vs := #[.func (.func 59) #[pT p 0] #[], .func (.func 60) #[pT p 0] #[], .func (.func 61) #[pT p 0] #[], .func (.func 62) #[pT p 0] #[]]) rfl
  have hn := (hn.base hb0).far hLp hLB (Nat.le_refl _) (#[.func (.func 59) #[pT p 0] #[], .func (.func 60) #[pT p 0] #[], .func (.func 61) #[pT p 0] #[], .func (.func 62) #[pT p 0] #[]] : Array Value).toList 0
  refine endL ?_
  try simp only [Act.put, sA, sB, sC]
  refine thenN <| hK5 _ _ ?_
  refine wp_ret ?_
  refine bodyPost_ret (results_row rfl rfl hr4 _ Tryz.underlying70 rfl info4) rfl ?_
  exact OutF.ok (hr.trans (Tr.run_done _ _)) hn
theorem m_behindED  {s : Ms} {xs : List Int} {w : World} {p B : Nat} (h : AtN w p B s xs) :
    Calls Tryz.prog 45 #[pT p 0] w (OutF w p B #[.func (.func 63) #[pT p 0] #[], .func (.func 64) #[pT p 0] #[], .func (.func 65) #[pT p 0] #[], .func (.func 63) #[pT p 0] #[]] (((fetchN (s.u_plane 0)).bind fun c => .done (c.2.split c.1)).run xs)) := by
  have hn := NowN.begin h
  have hr : ((fetchN (s.u_plane 0)).bind fun c => .done (c.2.split c.1)).run xs = ((fetchN (s.u_plane 0)).bind fun c => .done (c.2.split c.1)).run xs := rfl
  go_enter Tryz.func45, Tryz.ntmps45
  refine wp_seq_k fun K1 hK1 => regionL ?_
  refine list_make 2 (pT w.heap.size 0) rfl (wantedN rfl) (heAlloc rfl (alloc4 _)) ?_
  have hL := Row.new w 70 zero4
  have hb0 : Besides p p w (w.alloc (.cells zero4 70)) := (Besides.refl ..).alloc _
  have hLp : w.heap.size ≠ p := by have := h.lt; omega
  have hLB : B ≤ w.heap.size := by have := h.lt; have := h.low; omega
  have hn := NowN.begin (h.below (Below.alloc (Below.refl _ _) (Nat.le_refl _) (.cells zero4 70)))
  generalize w.alloc (.cells zero4 70) = W1 at *
  refine endL ?_
  try simp only [Act.put, sA, sB, sC]
  refine thenN <| hK1 _ _ <| wp_seq_k fun K2 hK2 => regionL <| oM 3 (pT p 0) <| oN 4 p 0 <| oF 5 (fM2 p) ?_
  refine sSetN hn 21 (.int .i64 (0)) (s.u_plane (0)) rfl rfl rfl (by kernel_rfl) (by kernel_rfl) (stI (hn.at_.cell 21 _ fun _ _ _ => rfl) (hn.at_.frozen 21)) (mu_plane _ _) (hn.at_.ms.u_plane ((by decide))) ?_
  intro w3 hn
  refine endL ?_
  try simp only [Act.put, sA, sB, sC]
  refine thenN <| hK2 _ _ <| wp_seq_k fun K4 hK4 => regionL <| oM 6 (pT p 0) <| oM 7 (pT p 0) ?_
  refine sCallI hn rfl (by kernel_rfl) (m_fetch  hn.at_) (fun _ _ hX hb => thenX (panicP rfl (OutF.err (hr.trans (Tr.run_bind_error hX _)) (hb0.trans hb)))) ?_
  intro v5 s5 xs5 w5 hX hk5 hn
  have hr := hr.trans (Tr.run_bind_ok hX _)
  refine oC (.tuple #[]) (m_split v5 (hk5) hn.at_) ?_
  intro w6 hk
  have hn := hn.after hk
  refine endL ?_
  try simp only [Act.put, sA, sB, sC]
  refine thenN <| hK4 _ _ <| wp_seq_k fun K7 hK7 => regionL <| oM 10 (pT p 0) ?_
  refine list_take 11 (.func (.func 63) #[pT p 0] #[]) rfl (wantedN rfl) (heFunc rfl (by kernel_rfl) (by kernel_rfl) _) ?_
  refine oM 12 (pT p 0) ?_
  refine list_take 13 (.func (.func 64) #[pT p 0] #[]) rfl (wantedN rfl) (heFunc rfl (by kernel_rfl) (by kernel_rfl) _) ?_
  refine oM 14 (pT p 0) ?_
  refine list_take 15 (.func (.func 65) #[pT p 0] #[]) rfl (wantedN rfl) (heFunc rfl (by kernel_rfl) (by kernel_rfl) _) ?_
  refine oM 16 (pT p 0) ?_
  refine list_take 17 (.func (.func 63) #[pT p 0] #[]) rfl (wantedN rfl) (heFunc rfl (by kernel_rfl) (by kernel_rfl) _) ?_
  refine oU 18 #[.func (.func 63) #[pT p 0] #[], .func (.func 64) #[pT p 0] #[], .func (.func 65) #[pT p 0] #[], .func (.func 63) #[pT p 0] #[]] ?_
  have hk := hL.besides hn.bes hLp hLp
  refine list_do rfl (wantedN rfl) (heStore (ad := ⟨w.heap.size, 0, none⟩) (V := .agg #[.func (.func 63) #[pT p 0] #[], .func (.func 64) #[pT p 0] #[], .func (.func 65) #[pT p 0] #[], .func (.func 63) #[pT p 0] #[]]) rfl (by kernel_rfl) (by kernel_rfl) (run_storeAt_mid _ _ 0 _ #[.func (.func 63) #[pT p 0] #[], .func (.func 64) #[pT p 0] #[], .func (.func 65) #[pT p 0] #[], .func (.func 63) #[pT p 0] #[]] hk.there info4 (by simp [Value.oneCell']))) ?_
  have hr4 := hk.setAll (vs := #[.func (.func 63) #[pT p 0] #[], .func (.func 64) #[pT p 0] #[], .func (.func 65) #[pT p 0] #[], .func (.func 63) #[pT p 0] #[]]) rfl
  have hn := (hn.base hb0).far hLp hLB (Nat.le_refl _) (#[.func (.func 63) #[pT p 0] #[], .func (.func 64) #[pT p 0] #[], .func (.func 65) #[pT p 0] #[], .func (.func 63) #[pT p 0] #[]] : Array Value).toList 0
  refine endL ?_
  try simp only [Act.put, sA, sB, sC]
  refine thenN <| hK7 _ _ ?_
  refine wp_ret ?_
  refine bodyPost_ret (results_row rfl rfl hr4 _ Tryz.underlying70 rfl info4) rfl ?_
  exact OutF.ok (hr.trans (Tr.run_done _ _)) hn
theorem m_alone (c : Int) (hAc : B8 c) {s : Ms} {xs : List Int} {w : World} {p B : Nat} (h : AtN w p B s xs) :
    Calls Tryz.prog 46 #[pT p 0, .int .u8 (c)] w (OutF w p B #[.func (.func 69) #[pT p 0] #[], .func (.func 70) #[pT p 0] #[], .func (.func 71) #[pT p 0] #[], .func (.func 72) #[pT p 0] #[]] ((aloneHead c s).run xs)) := by
  have hn := NowN.begin h
  have hr : (aloneHead c s).run xs = (aloneHead c s).run xs := rfl
  go_enter Tryz.func46, Tryz.ntmps46
  refine wp_seq_k fun K1 hK1 => regionL ?_
  refine list_make 4 (pT w.heap.size 0) rfl (wantedN rfl) (heAlloc rfl (alloc4 _)) ?_
  have hL := Row.new w 70 zero4
  have hb0 : Besides p p w (w.alloc (.cells zero4 70)) := (Besides.refl ..).alloc _
  have hLp : w.heap.size ≠ p := by have := h.lt; omega
  have hLB : B ≤ w.heap.size := by have := h.lt; have := h.low; omega
  have hn := NowN.begin (h.below (Below.alloc (Below.refl _ _) (Nat.le_refl _) (.cells zero4 70)))
  generalize w.alloc (.cells zero4 70) = W1 at *
  refine endL ?_
  try simp only [Act.put, sA, sB, sC]
  refine thenN <| hK1 _ _ <| wp_seq_k fun K2 hK2 => regionL <| oM 5 (pT p 0) <| oM 6 (.int .u8 (c)) <| oC (.tuple #[]) (m_split c (hAc) hn.at_) ?_
  intro w3 hk
  have hn := hn.after hk
  refine endL ?_
  try simp only [Act.put, sA, sB, sC]
  refine thenN <| hK2 _ _ <| wp_seq_k fun K4 hK4 => wp_seq_k fun K5 hK5 => regionL <| oM 8 (pT p 0) <| oN 9 p 0 <| oF 10 (fM2 p) <| oL 11 (ldI (hn.at_.cell 21 (.int .i64 ((s.split c).plane)) fun _ _ _ => rfl)) <| oM 12 (.int .u8 (c)) <| oC (.bool (nearM ((s.split c).plane) c)) (dnear_any ((s.split c).plane) c (hAc) _) ?_
  rintro _ rfl
  refine endL ?_
  try simp only [Act.put, sA, sB, sC]
  refine thenN <| hK5 _ _ ?_
  refine wp_cond_split (t := nearM ((s.split c).plane) c) (by kernel_rfl) (fun h7 => ?_) (fun h7 => ?_)
  · skip
    have g7 : nearM ((s.split c).plane) c = true := by simpa using h7
    have hr := hr.trans (run_if_pos g7)
    refine wp_seq_k fun K8 hK8 => regionL <| oM 14 (pT p 0) ?_
    refine sCallV hn rfl (by kernel_rfl) (m_aim  hn.at_) (fun _ _ hX hb => thenX (thenX (panicP rfl (OutF.err (hr.trans (Tr.run_bind_error hX _)) (hb0.trans hb))))) ?_
    intro s9 xs9 w9 hX hn
    have hr := hr.trans (Tr.run_bind_ok hX _)
    refine endL ?_
    try simp only [Act.put, sA, sB, sC]
    refine thenN <| hK8 _ _ <| wp_seq_k fun K10 hK10 => regionL <| oM 16 (pT p 0) <| oN 17 p 0 <| oF 18 (fM3 p) <| oL 19 (ldI (hn.at_.cell 22 (.int .i64 (s9.x)) fun _ _ _ => rfl)) <| oB 20 (egI _ _ _ _ _) (bNeI s9.x 0) <| oM 21 (.bool (s9.x != 0)) ?_
    rcases Bool.eq_false_or_eq_true (s9.x != 0) with h11 | h11
    · skip
      have g11 : ¬ s9.x = 0 := by simpa using h11
      rewrite [h11]
      refine oZ 22 <| oZ 23 <| oZ 24 <| oZ 25 <| oZ 26 <| oP 27 (.bool (true)) true ?_
      refine endL ?_
      try simp only [Act.put, sA, sB, sC]
      refine thenN <| hK10 _ _ ?_
      refine wp_cond_true (by kernel_rfl) ?_
      have hr := hr.trans (run_if_pos (.inl g11))
      refine regionL <| oM 28 (pT p 0) ?_
      refine sCallV hn rfl (by kernel_rfl) (m_pause 5 hn.at_) (fun _ _ hX hb => thenX (panicP rfl (OutF.err (hr.trans (Tr.run_bind_error hX _)) (hb0.trans hb)))) ?_
      intro s12 xs12 w12 hX hn
      have hr := hr.trans (Tr.run_bind_ok hX _)
      refine endL ?_
      try simp only [Act.put, sA, sB, sC]
      refine thenN <| hK4 _ _ <| wp_seq_k fun K13 hK13 => regionL <| oM 30 (pT p 0) ?_
      refine list_take 31 (.func (.func 69) #[pT p 0] #[]) rfl (wantedN rfl) (heFunc rfl (by kernel_rfl) (by kernel_rfl) _) ?_
      refine oM 32 (pT p 0) ?_
      refine list_take 33 (.func (.func 70) #[pT p 0] #[]) rfl (wantedN rfl) (heFunc rfl (by kernel_rfl) (by kernel_rfl) _) ?_
      refine oM 34 (pT p 0) ?_
      refine list_take 35 (.func (.func 71) #[pT p 0] #[]) rfl (wantedN rfl) (heFunc rfl (by kernel_rfl) (by kernel_rfl) _) ?_
      refine oM 36 (pT p 0) ?_
      refine list_take 37 (.func (.func 72) #[pT p 0] #[]) rfl (wantedN rfl) (heFunc rfl (by kernel_rfl) (by kernel_rfl) _) ?_
      refine oU 38 #[.func (.func 69) #[pT p 0] #[], .func (.func 70) #[pT p 0] #[], .func (.func 71) #[pT p 0] #[], .func (.func 72) #[pT p 0] #[]] ?_
      have hk := hL.besides hn.bes hLp hLp
      refine list_do rfl (wantedN rfl) (heStore (ad := ⟨w.heap.size, 0, none⟩) (V := .agg #[.func (.func 69) #[pT p 0] #[], .func (.func 70) #[pT p 0] #[], .func (.func 71) #[pT p 0] #[], .func (.func 72) #[pT p 0] #[]]) rfl (by kernel_rfl) (by kernel_rfl) (run_storeAt_mid _ _ 0 _ #[.func (.func 69) #[pT p 0] #[], .func (.func 70) #[pT p 0] #[], .func (.func 71) #[pT p 0] #[], .func (.func 72) #[pT p 0] #[]] hk.there info4 (by simp [Value.oneCell']))) ?_
      have hr4 := hk.setAll (vs := #[.func (.func 69) #[pT p 0] #[], .func (.func 70) #[pT p 0] #[], .func (.func 71) #[pT p 0] #[], .func (.func 72) #[pT p 0] #[]]) rfl
      have hn := (hn.base hb0).far hLp hLB (Nat.le_refl _) (#[.func (.func 69) #[pT p 0] #[], .func (.func 70) #[pT p 0] #[], .func (.func 71) #[pT p 0] #[], .func (.func 72) #[pT p 0] #[]] : Array Value).toList 0
      refine endL ?_
      try simp only [Act.put, sA, sB, sC]
      refine thenN <| hK13 _ _ ?_
      refine wp_ret ?_
      refine bodyPost_ret (results_row rfl rfl hr4 _ Tryz.underlying70 rfl info4) rfl ?_
      exact OutF.ok (hr.trans (Tr.run_done _ _)) hn
    · skip
      have g11 : s9.x = 0 := by simpa using h11
      rewrite [h11]
      refine oY 22 (pT p 0) <| oT 23 (pT p 0) (heNil (ad := ⟨p, 0, none⟩) rfl (by kernel_rfl) _) <| oT 24 (pT p 24) (heField (V := pT p 0) (R := pT p 24) rfl (by kernel_rfl) (fM5 p) _) <| oT 25 (.int .i64 (s9.z)) (heLoad rfl (by kernel_rfl) (ldI (hn.at_.cell 24 (.int .i64 (s9.z)) fun _ _ _ => rfl))) <| oT 26 (.bool (s9.z != 6)) (heBin (V := .int .i64 (s9.z)) (W := .int .i64 (6)) (R := .bool (s9.z != 6)) rfl (by kernel_rfl) (by kernel_rfl) (egI _ _ _ _ _) (bNeI s9.z 6) _) <| oP 27 (.bool (s9.z != 6)) false ?_
      refine endL ?_
      try simp only [Act.put, sA, sB, sC]
      refine thenN <| hK10 _ _ ?_
      refine wp_cond_split (t := s9.z != 6) (by kernel_rfl) (fun h14 => ?_) (fun h14 => ?_)
      · skip
        have g14 : ¬ s9.z = 6 := by simpa using h14
        have hr := hr.trans (run_if_pos (.inr g14))
        refine regionL <| oM 28 (pT p 0) ?_
        refine sCallV hn rfl (by kernel_rfl) (m_pause 5 hn.at_) (fun _ _ hX hb => thenX (panicP rfl (OutF.err (hr.trans (Tr.run_bind_error hX _)) (hb0.trans hb)))) ?_
        intro s15 xs15 w15 hX hn
        have hr := hr.trans (Tr.run_bind_ok hX _)
        refine endL ?_
        try simp only [Act.put, sA, sB, sC]
        refine thenN <| hK4 _ _ <| wp_seq_k fun K16 hK16 => regionL <| oM 30 (pT p 0) ?_
        refine list_take 31 (.func (.func 69) #[pT p 0] #[]) rfl (wantedN rfl) (heFunc rfl (by kernel_rfl) (by kernel_rfl) _) ?_
        refine oM 32 (pT p 0) ?_
        refine list_take 33 (.func (.func 70) #[pT p 0] #[]) rfl (wantedN rfl) (heFunc rfl (by kernel_rfl) (by kernel_rfl) _) ?_
        refine oM 34 (pT p 0) ?_
        refine list_take 35 (.func (.func 71) #[pT p 0] #[]) rfl (wantedN rfl) (heFunc rfl (by kernel_rfl) (by kernel_rfl) _) ?_
        refine oM 36 (pT p 0) ?_
        refine list_take 37 (.func (.func 72) #[pT p 0] #[]) rfl (wantedN rfl) (heFunc rfl (by kernel_rfl) (by kernel_rfl) _) ?_
        refine oU 38 #[.func (.func 69) #[pT p 0] #[], .func (.func 70) #[pT p 0] #[], .func (.func 71) #[pT p 0] #[], .func (.func 72) #[pT p 0] #[]] ?_
        have hk := hL.besides hn.bes hLp hLp
        refine list_do rfl (wantedN rfl) (heStore (ad := ⟨w.heap.size, 0, none⟩) (V := .agg #[.func (.func 69) #[pT p 0] #[], .func (.func 70) #[pT p 0] #[], .func (.func 71) #[pT p 0] #[], .func (.func 72) #[pT p 0] #[]]) rfl (by kernel_rfl) (by kernel_rfl) (run_storeAt_mid _ _ 0 _ #[.func (.func 69) #[pT p 0] #[], .func (.func 70) #[pT p 0] #[], .func (.func 71) #[pT p 0] #[], .func (.func 72) #[pT p 0] #[]] hk.there info4 (by simp [Value.oneCell']))) ?_
        have hr4 := hk.setAll (vs := #[.func (.func 69) #[pT p 0] #[], .func (.func 70) #[pT p 0] #[], .func (.func 71) #[pT p 0] #[], .func (.func 72) #[pT p 0] #[]]) rfl
        have hn := (hn.base hb0).far hLp hLB (Nat.le_refl _) (#[.func (.func 69) #[pT p 0] #[], .func (.func 70) #[pT p 0] #[], .func (.func 71) #[pT p 0] #[], .func (.func 72) #[pT p 0] #[]] : Array Value).toList 0
        refine endL ?_
        try simp only [Act.put, sA, sB, sC]
        refine thenN <| hK16 _ _ ?_
        refine wp_ret ?_
        refine bodyPost_ret (results_row rfl rfl hr4 _ Tryz.underlying70 rfl info4) rfl ?_
        exact OutF.ok (hr.trans (Tr.run_done _ _)) hn
      · skip
        have g14 : s9.z = 6 := by simpa using h14
        have hr := hr.trans (run_if_neg (by simp [g14, g11, g7]))
        refine wp_skip ?_
        refine thenN <| hK4 _ _ <| wp_seq_k fun K17 hK17 => regionL <| oM 30 (pT p 0) ?_
        refine list_take 31 (.func (.func 69) #[pT p 0] #[]) rfl (wantedN rfl) (heFunc rfl (by kernel_rfl) (by kernel_rfl) _) ?_
        refine oM 32 (pT p 0) ?_
        refine list_take 33 (.func (.func 70) #[pT p 0] #[]) rfl (wantedN rfl) (heFunc rfl (by kernel_rfl) (by kernel_rfl) _) ?_
        refine oM 34 (pT p 0) ?_
        refine list_take 35 (.func (.func 71) #[pT p 0] #[]) rfl (wantedN rfl) (heFunc rfl (by kernel_rfl) (by kernel_rfl) _) ?_
        refine oM 36 (pT p 0) ?_
        refine list_take 37 (.func (.func 72) #[pT p 0] #[]) rfl (wantedN rfl) (heFunc rfl (by kernel_rfl) (by kernel_rfl) _) ?_
        refine oU 38 #[.func (.func 69) #[pT p 0] #[], .func (.func 70) #[pT p 0] #[], .func (.func 71) #[pT p 0] #[], .func (.func 72) #[pT p 0] #[]] ?_
        have hk := hL.besides hn.bes hLp hLp
        refine list_do rfl (wantedN rfl) (heStore (ad := ⟨w.heap.size, 0, none⟩) (V := .agg #[.func (.func 69) #[pT p 0] #[], .func (.func 70) #[pT p 0] #[], .func (.func 71) #[pT p 0] #[], .func (.func 72) #[pT p 0] #[]]) rfl (by kernel_rfl) (by kernel_rfl) (run_storeAt_mid _ _ 0 _ #[.func (.func 69) #[pT p 0] #[], .func (.func 70) #[pT p 0] #[], .func (.func 71) #[pT p 0] #[], .func (.func 72) #[pT p 0] #[]] hk.there info4 (by simp [Value.oneCell']))) ?_
        have hr4 := hk.setAll (vs := #[.func (.func 69) #[pT p 0] #[], .func (.func 70) #[pT p 0] #[], .func (.func 71) #[pT p 0] #[], .func (.func 72) #[pT p 0] #[]]) rfl
        have hn := (hn.base hb0).far hLp hLB (Nat.le_refl _) (#[.func (.func 69) #[pT p 0] #[], .func (.func 70) #[pT p 0] #[], .func (.func 71) #[pT p 0] #[], .func (.func 72) #[pT p 0] #[]] : Array Value).toList 0
        refine endL ?_
        try simp only [Act.put, sA, sB, sC]
        refine thenN <| hK17 _ _ ?_
        refine wp_ret ?_
        refine bodyPost_ret (results_row rfl rfl hr4 _ Tryz.underlying70 rfl info4) rfl ?_
        exact OutF.ok (hr.trans (Tr.run_done _ _)) hn
  · skip
    have g7 : ¬ nearM ((s.split c).plane) c = true := by simpa using h7
    have hr := hr.trans (run_if_neg g7)
    refine wp_skip ?_
    refine thenN <| hK4 _ _ <| wp_seq_k fun K18 hK18 => regionL <| oM 30 (pT p 0) ?_
    refine list_take 31 (.func (.func 69) #[pT p 0] #[]) rfl (wantedN rfl) (heFunc rfl (by kernel_rfl) (by kernel_rfl) _) ?_
    refine oM 32 (pT p 0) ?_
    refine list_take 33 (.func (.func 70) #[pT p 0] #[]) rfl (wantedN rfl) (heFunc rfl (by kernel_rfl) (by kernel_rfl) _) ?_
    refine oM 34 (pT p 0) ?_
    refine list_take 35 (.func (.func 71) #[pT p 0] #[]) rfl (wantedN rfl) (heFunc rfl (by kernel_rfl) (by kernel_rfl) _) ?_
    refine oM 36 (pT p 0) ?_
    refine list_take 37 (.func (.func 72) #[pT p 0] #[]) rfl (wantedN rfl) (heFunc rfl (by kernel_rfl) (by kernel_rfl) _) ?_
    refine oU 38 #[.func (.func 69) #[pT p 0] #[], .func (.func 70) #[pT p 0] #[], .func (.func 71) #[pT p 0] #[], .func (.func 72) #[pT p 0] #[]] ?_
    have hk := hL.besides hn.bes hLp hLp
    refine list_do rfl (wantedN rfl) (heStore (ad := ⟨w.heap.size, 0, none⟩) (V := .agg #[.func (.func 69) #[pT p 0] #[], .func (.func 70) #[pT p 0] #[], .func (.func 71) #[pT p 0] #[], .func (.func 72) #[pT p 0] #[]]) rfl (by kernel_rfl) (by kernel_rfl) (run_storeAt_mid _ _ 0 _ #[.func (.func 69) #[pT p 0] #[], .func (.func 70) #[pT p 0] #[], .func (.func 71) #[pT p 0] #[], .func (.func 72) #[pT p 0] #[]] hk.there info4 (by simp [Value.oneCell']))) ?_
    have hr4 := hk.setAll (vs := #[.func (.func 69) #[pT p 0] #[], .func (.func 70) #[pT p 0] #[], .func (.func 71) #[pT p 0] #[], .func (.func 72) #[pT p 0] #[]]) rfl
    have hn := (hn.base hb0).far hLp hLB (Nat.le_refl _) (#[.func (.func 69) #[pT p 0] #[], .func (.func 70) #[pT p 0] #[], .func (.func 71) #[pT p 0] #[], .func (.func 72) #[pT p 0] #[]] : Array Value).toList 0
    refine endL ?_
    try simp only [Act.put, sA, sB, sC]
    refine thenN <| hK18 _ _ ?_
    refine wp_ret ?_
    refine bodyPost_ret (results_row rfl rfl hr4 _ Tryz.underlying70 rfl info4) rfl ?_
    exact OutF.ok (hr.trans (Tr.run_done _ _)) hn
def lenAt (p : Nat) (w : World) : Nat := match w.cell? ⟨p, 20, none⟩ with | some (.slice _ n _) => n | _ => 0
theorem AtN.len {w : World} {p B : Nat} {s : Ms} {xs : List Int} (h : AtN w p B s xs) : lenAt p w = xs.length := by
  obtain ⟨A, cap, hc, hr, hb⟩ := h.row
  have e : w.cell? ⟨p, 20, none⟩ = some (.slice A xs.length cap) := hr.cell 20
  unfold lenAt
  rw [e]
section
variable {ops : Array Oper} {Q : Exit → Act → World → Prop} {a : Act} {w w0 W1 : World} {o : Oper} {rest : List Oper} {p B L : Nat} {s : Ms} {xs : List Int} {x y : Operand}
theorem sAlloc4 (d : Tmp) (hn : NowN w0 p B s xs w) (hd : o.dst = some d) (hg : o.guard = none) (ho : o.op = .alloc 70)
    (h : ∀ w' L, L ≠ p → B ≤ L → w0.heap.size ≤ L → Row w' L 70 zero4 → AtN w' p B s xs → Besides p p w0 w' → WL Tryz.prog ops Q rest (a.put (some d) (pT L 0)) w') : WL Tryz.prog ops Q (o :: rest) a w := by
  have hlt := hn.at_.lt
  have hlow := hn.at_.low
  refine list_make d (pT w.heap.size 0) hd (wantedN hg) (heAlloc ho (alloc4 _)) ?_
  exact h _ _ (by omega) (by omega) hn.bes.size (Row.new w _ zero4) (hn.at_.below (Below.alloc (Below.refl _ _) (Nat.le_refl _) _)) (hn.bes.alloc _)
theorem sPut4 (hn : NowN W1 p B s xs w) (hb0 : Besides p p w0 W1) (hL : Row W1 L 70 zero4) (hLp : L ≠ p) (hLB : B ≤ L) (hL0 : w0.heap.size ≤ L) (vals : Array Value) (hv : vals.size = 4) (h1 : vals.all (·.oneCell') = true)
    (hd : o.dst = none) (hg : o.guard = none) (ho : o.op = .store 70 x y) (hx : a.eval x = pT L 0) (hy : a.eval y = .agg vals)
    (h : ∀ w', Row w' L 70 vals → NowN w0 p B s xs w' → WL Tryz.prog ops Q rest (a.put none undef) w') : WL Tryz.prog ops Q (o :: rest) a w := by
  have hk := hL.besides hn.bes hLp hLp
  refine list_do hd (wantedN hg) (heStore ho hx hy (run_storeAt_mid w L 0 _ vals (by rw [hv]; exact hk.there) (by rw [hv]; exact info4) h1)) ?_
  exact h _ (hk.setAll (by rw [hv]; rfl)) ((hn.base hb0).far hLp hLB hL0 _ _)
theorem sCallF {vals : Array Value} {X : Except Cy (Ms × List Int)} {g : FuncId} {args : Array Value} (hn : NowN w0 p B s xs w) (hg : o.guard = none) (he : (execOp a.eval o).run Tryz.prog w = .ok (.enter g args) w) (hc : Calls Tryz.prog g args w (OutF w p B vals X))
    (hP : ∀ c w', X = .error c → Besides p p w0 w' → Q (.panic [{ v := .iface 28 (cyV c), recovered := false }]) a w')
    (hK : ∀ s ys w', X = .ok (s, ys) → NowN w0 p B s ys w' → WL Tryz.prog ops Q rest (a.put o.dst (.agg vals)) w') : WL Tryz.prog ops Q (o :: rest) a w :=
  list_call (wantedN hg) he hc fun e w' ho => by
    rcases X with c | ⟨s, ys⟩
    · obtain ⟨rfl, hb⟩ := ho
      exact hP c w' rfl (hn.bes.trans hb)
    · obtain ⟨rfl, hN⟩ := ho
      exact hK s ys w' rfl (hn.after hN)
end
theorem idxF_0 (L : Nat) (w : World) : (Instr.indexAt 70 (pT L 0) (.int .i64 0)).run Tryz.prog w = .ok (pT L 0) w := by simp [go_sem, Addr.add]
theorem idxF_1 (L : Nat) (w : World) : (Instr.indexAt 70 (pT L 0) (.int .i64 1)).run Tryz.prog w = .ok (pT L 1) w := by simp [go_sem, Addr.add]
theorem idxF_2 (L : Nat) (w : World) : (Instr.indexAt 70 (pT L 0) (.int .i64 2)).run Tryz.prog w = .ok (pT L 2) w := by simp [go_sem, Addr.add]
theorem idxF_3 (L : Nat) (w : World) : (Instr.indexAt 70 (pT L 0) (.int .i64 3)).run Tryz.prog w = .ok (pT L 3) w := by simp [go_sem, Addr.add]
theorem ldF {w : World} {ad : Addr} {V : Value} (h : w.cell? ad = some V) : (Instr.loadAt 1 (.pointer (some ad))).run Tryz.prog w = .ok V w := by simp [go_sem, h]
theorem four_x {s : Ms} (h : MsB s) : s.x = 0 ∨ s.x = 1 ∨ s.x = 2 ∨ s.x = 3 := by have := h.x; omega
theorem AtN.isX {w : World} {p B : Nat} {s : Ms} {xs : List Int} (h : AtN w p B s xs) {k : Int} (hx : s.x = k) : w.cell? ⟨p, 22, none⟩ = some (.int .i64 k) := by
  subst hx
  exact h.cell 22 _ fun _ _ _ => rfl
theorem m_instruction (c : Int) (hAc : B8 c) {s : Ms} {xs : List Int} {w : World} {p B : Nat} (h : AtN w p B s xs) :
    Calls Tryz.prog 24 #[pT p 0, .int .u8 (c)] w (OutV w p B (execN xs c s.noLate)) := by
  have hn := NowN.begin h
  go_enter Tryz.func24, Tryz.ntmps24
  refine wp_seq_k fun K1 hK1 => regionL <| oM 5 (pT p 0) <| oN 6 p 0 <| oF 7 (fM0 p) <| oF 8 (fR18 p) ?_
  refine sSetN hn 18 (.bool (false)) (s.u_late (false)) rfl rfl rfl (by kernel_rfl) (by kernel_rfl) (stB (hn.at_.cell 18 _ fun _ _ _ => rfl) (hn.at_.frozen 18)) (mu_late _ _) (hn.at_.ms.u_late) ?_
  intro w2 hn
  refine endL ?_
  try simp only [Act.put, sA, sB, sC]
  refine thenN <| hK1 _ _ <| wp_seq_k fun K3 hK3 => ?_
  refine wp_block ?_
  refine wp_loop (fun a' w' => ∃ (c1 : Int) (s1 : Ms) (xs1 : List Int) (y9 y10 y11 y12 y13 y14 y15 y16 y17 y18 y19 y20 y21 y22 y23 y24 : Value), a' = { tmps := #[pT p 0, .int .u8 c1, undef, undef, undef, pT p 0, pT p 0, pT p 0, pT p 18, y9, y10, y11, y12, y13, y14, y15, y16, y17, y18, y19, y20, y21, y22, y23, y24, undef, undef, undef, undef, undef, undef, undef, undef, undef, undef, undef, undef, undef, undef, undef, undef, undef, undef, undef, undef, undef, undef, undef, undef, undef, undef, undef], defers := [] } ∧ NowN w p B s1 xs1 w' ∧ B8 c1 ∧ execN xs c (s.u_late (false)) = execN xs1 c1 s1) (fun _ w' => lenAt p w') ⟨c, s.u_late (false), xs, undef, undef, undef, undef, undef, undef, undef, undef, undef, undef, undef, undef, undef, undef, undef, undef, rfl, hn, hAc, rfl⟩ ?_
  rintro a1 w1 ⟨c1, s1, xs1, y9, y10, y11, y12, y13, y14, y15, y16, y17, y18, y19, y20, y21, y22, y23, y24, rfl, hn, hc1, hX0⟩
  have hl1 := hn.at_.len
  refine wp_seq_k fun K4 hK4 => wp_seq_k fun K5 hK5 => regionL <| oM 9 (.int .u8 (c1)) <| oB 10 (eg8 _ _ _ _ _) (bEq8 c1 221) <| oM 11 (.bool (c1 == 221)) ?_
  rcases Bool.eq_false_or_eq_true (c1 == 221) with h6 | h6
  · skip
    have g6 : c1 = 221 := by simpa using h6
    rewrite [h6]
    refine oZ 12 <| oZ 13 <| oP 14 (.bool (true)) true ?_
    refine endL ?_
    try simp only [Act.put, sA, sB, sC]
    refine thenN <| hK5 _ _ ?_
    refine wp_cond_true (by kernel_rfl) ?_
    refine wp_skip ?_
    refine thenN <| hK4 _ _ ?_
    refine wp_block ?_
    refine wp_seq_k fun K7 hK7 => regionL <| oM 15 (pT p 0) <| oN 16 p 0 <| oF 17 (fM2 p) ?_
    refine sSetN hn 21 (.int .i64 (3)) (s1.u_plane (3)) rfl rfl rfl (by kernel_rfl) (by kernel_rfl) (stI (hn.at_.cell 21 _ fun _ _ _ => rfl) (hn.at_.frozen 21)) (mu_plane _ _) (hn.at_.ms.u_plane ((by decide))) ?_
    intro w8 hn
    refine endL ?_
    try simp only [Act.put, sA, sB, sC]
    refine thenN <| hK7 _ _ <| wp_seq_k fun K9 hK9 => wp_seq_k fun K10 hK10 => regionL <| oM 18 (.int .u8 (c1)) <| oB 19 (eg8 _ _ _ _ _) (bEq8 c1 253) ?_
    refine endL ?_
    try simp only [Act.put, sA, sB, sC]
    refine thenN <| hK10 _ _ ?_
    refine wp_cond_split (t := c1 == 253) (by kernel_rfl) (fun h11 => ?_) (fun h11 => ?_)
    · skip
      have g11 : c1 = 253 := by simpa using h11
      refine regionL <| oM 20 (pT p 0) <| oN 21 p 0 <| oF 22 (fM2 p) ?_
      refine sSetN hn 21 (.int .i64 (4)) ((s1.u_plane (3)).u_plane (4)) rfl rfl rfl (by kernel_rfl) (by kernel_rfl) (stI (hn.at_.cell 21 _ fun _ _ _ => rfl) (hn.at_.frozen 21)) (mu_plane _ _) (hn.at_.ms.u_plane ((by decide))) ?_
      intro w12 hn
      refine endL ?_
      try simp only [Act.put, sA, sB, sC]
      refine thenN <| hK9 _ _ <| regionL <| oM 23 (pT p 0) ?_
      have hp := hX0.trans (exec_pre (by first | exact .inl (by assumption) | exact .inr (by assumption)) (show (s1.u_plane (3)).u_plane (4) = s1.toPlane (if c1 = 253 then 4 else 3) by first | (rw [if_pos (by assumption)]; rfl) | (rw [if_neg (by assumption)]; rfl)) xs1)
      refine sCallI hn rfl (by kernel_rfl) (m_fetch  hn.at_) (fun c w' hX hb => blockX (thenX (blockX (thenX (panicP rfl (OutV.err (hp.trans (by rw [hX])) hb)))))) ?_
      intro v13 s13 xs13 w13 hX hk13 hn
      have hl := fetch_len hX
      rw [hX] at hp
      refine oA 1 (.int .u8 (v13)) ?_
      refine endL ?_
      try simp only [Act.put, sA, sB, sC]
      refine blockN ?_
      exact thenN ⟨⟨v13, s13, xs13, .int .u8 (c1), .bool (true), .bool (true), undef, undef, .bool (true), pT p 0, pT p 0, pT p 21, .int .u8 (c1), .bool (c1 == 253), pT p 0, pT p 0, pT p 21, pT p 0, .int .u8 (v13), rfl, hn, hk13, hp⟩, by rw [hn.at_.len, hl1]; exact hl⟩
    · skip
      have g11 : ¬ c1 = 253 := by simpa using h11
      refine wp_skip ?_
      refine thenN <| hK9 _ _ <| regionL <| oM 23 (pT p 0) ?_
      have hp := hX0.trans (exec_pre (by first | exact .inl (by assumption) | exact .inr (by assumption)) (show s1.u_plane (3) = s1.toPlane (if c1 = 253 then 4 else 3) by first | (rw [if_pos (by assumption)]; rfl) | (rw [if_neg (by assumption)]; rfl)) xs1)
      refine sCallI hn rfl (by kernel_rfl) (m_fetch  hn.at_) (fun c w' hX hb => blockX (thenX (blockX (thenX (panicP rfl (OutV.err (hp.trans (by rw [hX])) hb)))))) ?_
      intro v14 s14 xs14 w14 hX hk14 hn
      have hl := fetch_len hX
      rw [hX] at hp
      refine oA 1 (.int .u8 (v14)) ?_
      refine endL ?_
      try simp only [Act.put, sA, sB, sC]
      refine blockN ?_
      exact thenN ⟨⟨v14, s14, xs14, .int .u8 (c1), .bool (true), .bool (true), undef, undef, .bool (true), pT p 0, pT p 0, pT p 21, .int .u8 (c1), .bool (c1 == 253), y20, y21, y22, pT p 0, .int .u8 (v14), rfl, hn, hk14, hp⟩, by rw [hn.at_.len, hl1]; exact hl⟩
  · skip
    have g6 : ¬ c1 = 221 := by simpa using h6
    rewrite [h6]
    refine oY 12 (.int .u8 (c1)) <| oT 13 (.bool (c1 == 253)) (heBin (V := .int .u8 (c1)) (W := .int .u8 (253)) (R := .bool (c1 == 253)) rfl (by kernel_rfl) (by kernel_rfl) (eg8 _ _ _ _ _) (bEq8 c1 253) _) <| oP 14 (.bool (c1 == 253)) false ?_
    refine endL ?_
    try simp only [Act.put, sA, sB, sC]
    refine thenN <| hK5 _ _ ?_
    refine wp_cond_split (t := c1 == 253) (by kernel_rfl) (fun h15 => ?_) (fun h15 => ?_)
    · skip
      have g15 : c1 = 253 := by simpa using h15
      refine wp_skip ?_
      refine thenN <| hK4 _ _ ?_
      refine wp_block ?_
      refine wp_seq_k fun K16 hK16 => regionL <| oM 15 (pT p 0) <| oN 16 p 0 <| oF 17 (fM2 p) ?_
      refine sSetN hn 21 (.int .i64 (3)) (s1.u_plane (3)) rfl rfl rfl (by kernel_rfl) (by kernel_rfl) (stI (hn.at_.cell 21 _ fun _ _ _ => rfl) (hn.at_.frozen 21)) (mu_plane _ _) (hn.at_.ms.u_plane ((by decide))) ?_
      intro w17 hn
      refine endL ?_
      try simp only [Act.put, sA, sB, sC]
      refine thenN <| hK16 _ _ <| wp_seq_k fun K18 hK18 => wp_seq_k fun K19 hK19 => regionL <| oM 18 (.int .u8 (c1)) <| oB 19 (eg8 _ _ _ _ _) (bEq8 c1 253) ?_
      refine endL ?_
      try simp only [Act.put, sA, sB, sC]
      refine thenN <| hK19 _ _ ?_
      refine wp_cond_split (t := c1 == 253) (by kernel_rfl) (fun h20 => ?_) (fun h20 => ?_)
      rotate_left
      · exact absurd (h15.symm.trans h20) (by decide)
      refine regionL <| oM 20 (pT p 0) <| oN 21 p 0 <| oF 22 (fM2 p) ?_
      refine sSetN hn 21 (.int .i64 (4)) ((s1.u_plane (3)).u_plane (4)) rfl rfl rfl (by kernel_rfl) (by kernel_rfl) (stI (hn.at_.cell 21 _ fun _ _ _ => rfl) (hn.at_.frozen 21)) (mu_plane _ _) (hn.at_.ms.u_plane ((by decide))) ?_
      intro w21 hn
      refine endL ?_
      try simp only [Act.put, sA, sB, sC]
      refine thenN <| hK18 _ _ <| regionL <| oM 23 (pT p 0) ?_
      have hp := hX0.trans (exec_pre (by first | exact .inl (by assumption) | exact .inr (by assumption)) (show (s1.u_plane (3)).u_plane (4) = s1.toPlane (if c1 = 253 then 4 else 3) by first | (rw [if_pos (by assumption)]; rfl) | (rw [if_neg (by assumption)]; rfl)) xs1)
      refine sCallI hn rfl (by kernel_rfl) (m_fetch  hn.at_) (fun c w' hX hb => blockX (thenX (blockX (thenX (panicP rfl (OutV.err (hp.trans (by rw [hX])) hb)))))) ?_
      intro v22 s22 xs22 w22 hX hk22 hn
      have hl := fetch_len hX
      rw [hX] at hp
      refine oA 1 (.int .u8 (v22)) ?_
      refine endL ?_
      try simp only [Act.put, sA, sB, sC]
      refine blockN ?_
      exact thenN ⟨⟨v22, s22, xs22, .int .u8 (c1), .bool (false), .bool (false), .int .u8 (c1), .bool (c1 == 253), .bool (c1 == 253), pT p 0, pT p 0, pT p 21, .int .u8 (c1), .bool (c1 == 253), pT p 0, pT p 0, pT p 21, pT p 0, .int .u8 (v22), rfl, hn, hk22, hp⟩, by rw [hn.at_.len, hl1]; exact hl⟩
    · skip
      have g15 : ¬ c1 = 253 := by simpa using h15
      refine wp_exit ?_
      refine thenE ?_
      refine thenE ?_
      have hr := hX0.trans (exec_body (fun h => h.elim g6 g15) s1 xs1)
      refine blockE ?_
      refine thenN <| hK3 _ _ <| wp_seq_k fun K23 hK23 => regionL <| oM 25 (pT p 0) <| oM 26 (pT p 0) <| oN 27 p 0 <| oF 28 (fM0 p) <| oF 29 (fR3 p) ?_
      have b24 := hn.at_.ms.r.hl
      refine oL 30 (ld16 (hn.at_.cell 3 (.int .u16 (s1.r.hl)) fun _ _ _ => rfl)) <| oN 31 p 0 <| oF 32 (fM8 p) ?_
      refine sSetN hn 27 (.int .u16 (s1.r.hl)) (s1.u_spot (s1.r.hl)) rfl rfl rfl (by kernel_rfl) (by kernel_rfl) (st16 (hn.at_.cell 27 _ fun _ _ _ => rfl) (hn.at_.frozen 27)) (mu_spot _ _) (hn.at_.ms.u_spot (b24)) ?_
      intro w25 hn
      refine endL ?_
      try simp only [Act.put, sA, sB, sC]
      refine thenN <| hK23 _ _ <| wp_seq_k fun K26 hK26 => regionL ?_
      refine sAlloc4 4 hn rfl rfl rfl ?_
      intro W1 L hLp hLB hL0 hL h1 hb0
      have hn := NowN.begin h1
      refine endL ?_
      try simp only [Act.put, sA, sB, sC]
      refine thenN <| hK26 _ _ <| wp_seq_k fun K27 hK27 => wp_seq_k fun K28 hK28 => regionL <| oM 33 (.int .u8 (c1)) ?_
      refine endL ?_
      try simp only [Act.put, sA, sB, sC]
      refine thenN <| hK28 _ _ ?_
      refine wp_block ?_
      refine wp_seq_k fun K29 hK29 => regionL <| oB 38 (eg8 _ _ _ _ _) (bEq8 c1 203) <| oA 37 (.bool (c1 == 203)) ?_
      refine endL ?_
      try simp only [Act.put, sA, sB, sC]
      refine thenN <| hK29 _ _ ?_
      refine wp_cond_split (t := c1 == 203) (by kernel_rfl) (fun h30 => ?_) (fun h30 => ?_)
      · skip
        have g30 : c1 = 203 := by simpa using h30
        have hr := hr.trans (run_if_pos g30)
        refine regionL <| oM 39 (pT p 0) ?_
        refine sCallF hn rfl (by kernel_rfl) (m_behindCB  hn.at_) (fun _ _ hX hb => blockX (thenX (panicP rfl (OutV.err (hr.trans (Tr.run_bind_error hX _)) (hb0.trans hb))))) ?_
        intro s31 xs31 w31 hX hn
        have hr := hr.trans (Tr.run_bind_ok hX _)
        refine sPut4 hn hb0 hL hLp hLB hL0 #[.func (.func 59) #[pT p 0] #[], .func (.func 60) #[pT p 0] #[], .func (.func 61) #[pT p 0] #[], .func (.func 62) #[pT p 0] #[]] rfl (by simp [Value.oneCell']) rfl rfl rfl (by kernel_rfl) (by kernel_rfl) ?_
        intro w32 hL4 hn
        refine endL ?_
        try simp only [Act.put, sA, sB, sC]
        refine blockN ?_
        refine thenN <| hK27 _ _ ?_
        rcases four_x hn.at_.ms with g33 | g33 | g33 | g33
        · skip
          have hr := hr.trans (run_if_pos g33)
          refine regionL <| oM 45 (pT p 0) <| oN 46 p 0 <| oF 47 (fM3 p) <| oL 48 (ldI (hn.at_.isX g33)) <| oI 49 (pT L 0) (.int .i64 (0)) (pT L 0) (idxF_0 L _) <| oL 50 (ldF ((hL4.cell 0).trans rfl)) ?_
          refine sCallV hn rfl (by kernel_rfl) (m_shifted  hn.at_) (fun _ _ hX hb => panicP rfl (OutV.err (hr.trans hX) hb)) ?_
          intro s34 xs34 w34 hX hn
          have hr := hr.trans hX
          refine endL ?_
          try simp only [Act.put, sA, sB, sC]
          refine endV rfl rfl ?_
          exact OutV.ok (hr.trans (Tr.run_done _ _)) hn
        · skip
          have hr := hr.trans (run_if_neg (by simp [g33, g30, g15, g6]))
          have hr := hr.trans (run_if_pos g33)
          refine regionL <| oM 45 (pT p 0) <| oN 46 p 0 <| oF 47 (fM3 p) <| oL 48 (ldI (hn.at_.isX g33)) <| oI 49 (pT L 0) (.int .i64 (1)) (pT L 1) (idxF_1 L _) <| oL 50 (ldF ((hL4.cell 1).trans rfl)) ?_
          refine sCallV hn rfl (by kernel_rfl) (m_tested  hn.at_) (fun _ _ hX hb => panicP rfl (OutV.err (hr.trans hX) hb)) ?_
          intro s35 xs35 w35 hX hn
          have hr := hr.trans hX
          refine endL ?_
          try simp only [Act.put, sA, sB, sC]
          refine endV rfl rfl ?_
          exact OutV.ok (hr.trans (Tr.run_done _ _)) hn
        · skip
          have hr := hr.trans (run_if_neg (by simp [g33, g30, g15, g6]))
          have hr := hr.trans (run_if_neg (by simp [g33, g30, g15, g6]))
          have hr := hr.trans (run_if_pos g33)
          refine regionL <| oM 45 (pT p 0) <| oN 46 p 0 <| oF 47 (fM3 p) <| oL 48 (ldI (hn.at_.isX g33)) <| oI 49 (pT L 0) (.int .i64 (2)) (pT L 2) (idxF_2 L _) <| oL 50 (ldF ((hL4.cell 2).trans rfl)) ?_
          refine sCallV hn rfl (by kernel_rfl) (m_cleared  hn.at_) (fun _ _ hX hb => panicP rfl (OutV.err (hr.trans hX) hb)) ?_
          intro s36 xs36 w36 hX hn
          have hr := hr.trans hX
          refine endL ?_
          try simp only [Act.put, sA, sB, sC]
          refine endV rfl rfl ?_
          exact OutV.ok (hr.trans (Tr.run_done _ _)) hn
        · skip
          have hr := hr.trans (run_if_neg (by simp [g33, g30, g15, g6]))
          have hr := hr.trans (run_if_neg (by simp [g33, g30, g15, g6]))
          have hr := hr.trans (run_if_neg (by simp [g33, g30, g15, g6]))
          refine regionL <| oM 45 (pT p 0) <| oN 46 p 0 <| oF 47 (fM3 p) <| oL 48 (ldI (hn.at_.isX g33)) <| oI 49 (pT L 0) (.int .i64 (3)) (pT L 3) (idxF_3 L _) <| oL 50 (ldF ((hL4.cell 3).trans rfl)) ?_
          refine sCallV hn rfl (by kernel_rfl) (m_raised  hn.at_) (fun _ _ hX hb => panicP rfl (OutV.err (hr.trans hX) hb)) ?_
          intro s37 xs37 w37 hX hn
          have hr := hr.trans hX
          refine endL ?_
          try simp only [Act.put, sA, sB, sC]
          refine endV rfl rfl ?_
          exact OutV.ok (hr.trans (Tr.run_done _ _)) hn
      · skip
        have g30 : ¬ c1 = 203 := by simpa using h30
        have hr := hr.trans (run_if_neg g30)
        refine wp_seq_k fun K38 hK38 => regionL <| oB 42 (eg8 _ _ _ _ _) (bEq8 c1 237) <| oA 41 (.bool (c1 == 237)) ?_
        refine endL ?_
        try simp only [Act.put, sA, sB, sC]
        refine thenN <| hK38 _ _ ?_
        refine wp_cond_split (t := c1 == 237) (by kernel_rfl) (fun h39 => ?_) (fun h39 => ?_)
        · skip
          have g39 : c1 = 237 := by simpa using h39
          have hr := hr.trans (run_if_pos g39)
          refine regionL <| oM 43 (pT p 0) ?_
          refine sCallF hn rfl (by kernel_rfl) (m_behindED  hn.at_) (fun _ _ hX hb => blockX (thenX (panicP rfl (OutV.err (hr.trans (Tr.run_bind_error hX _)) (hb0.trans hb))))) ?_
          intro s40 xs40 w40 hX hn
          have hr := hr.trans (Tr.run_bind_ok hX _)
          refine sPut4 hn hb0 hL hLp hLB hL0 #[.func (.func 63) #[pT p 0] #[], .func (.func 64) #[pT p 0] #[], .func (.func 65) #[pT p 0] #[], .func (.func 63) #[pT p 0] #[]] rfl (by simp [Value.oneCell']) rfl rfl rfl (by kernel_rfl) (by kernel_rfl) ?_
          intro w41 hL4 hn
          refine endL ?_
          try simp only [Act.put, sA, sB, sC]
          refine blockN ?_
          refine thenN <| hK27 _ _ ?_
          rcases four_x hn.at_.ms with g42 | g42 | g42 | g42
          · skip
            have hr := hr.trans (run_if_neg (by simp [g42, g39, g30, g15, g6]))
            have hr := hr.trans (run_if_neg (by simp [g42, g39, g30, g15, g6]))
            refine regionL <| oM 45 (pT p 0) <| oN 46 p 0 <| oF 47 (fM3 p) <| oL 48 (ldI (hn.at_.isX g42)) <| oI 49 (pT L 0) (.int .i64 (0)) (pT L 0) (idxF_0 L _) <| oL 50 (ldF ((hL4.cell 0).trans rfl)) <| oC (.tuple #[]) (m_nothing  hn.at_) ?_
            intro w43 hk
            have hn := hn.after hk
            refine endL ?_
            try simp only [Act.put, sA, sB, sC]
            refine endV rfl rfl ?_
            exact OutV.ok (hr.trans (Tr.run_done _ _)) hn
          · skip
            have hr := hr.trans (run_if_pos g42)
            refine regionL <| oM 45 (pT p 0) <| oN 46 p 0 <| oF 47 (fM3 p) <| oL 48 (ldI (hn.at_.isX g42)) <| oI 49 (pT L 0) (.int .i64 (1)) (pT L 1) (idxF_1 L _) <| oL 50 (ldF ((hL4.cell 1).trans rfl)) ?_
            refine sCallV hn rfl (by kernel_rfl) (m_extended  hn.at_) (fun _ _ hX hb => panicP rfl (OutV.err (hr.trans hX) hb)) ?_
            intro s44 xs44 w44 hX hn
            have hr := hr.trans hX
            refine endL ?_
            try simp only [Act.put, sA, sB, sC]
            refine endV rfl rfl ?_
            exact OutV.ok (hr.trans (Tr.run_done _ _)) hn
          · skip
            have hr := hr.trans (run_if_neg (by simp [g42, g39, g30, g15, g6]))
            have hr := hr.trans (run_if_pos g42)
            refine regionL <| oM 45 (pT p 0) <| oN 46 p 0 <| oF 47 (fM3 p) <| oL 48 (ldI (hn.at_.isX g42)) <| oI 49 (pT L 0) (.int .i64 (2)) (pT L 2) (idxF_2 L _) <| oL 50 (ldF ((hL4.cell 2).trans rfl)) ?_
            refine sCallV hn rfl (by kernel_rfl) (m_blocks  hn.at_) (fun _ _ hX hb => panicP rfl (OutV.err (hr.trans hX) hb)) ?_
            intro s45 xs45 w45 hX hn
            have hr := hr.trans hX
            refine endL ?_
            try simp only [Act.put, sA, sB, sC]
            refine endV rfl rfl ?_
            exact OutV.ok (hr.trans (Tr.run_done _ _)) hn
          · skip
            have hr := hr.trans (run_if_neg (by simp [g42, g39, g30, g15, g6]))
            have hr := hr.trans (run_if_neg (by simp [g42, g39, g30, g15, g6]))
            refine regionL <| oM 45 (pT p 0) <| oN 46 p 0 <| oF 47 (fM3 p) <| oL 48 (ldI (hn.at_.isX g42)) <| oI 49 (pT L 0) (.int .i64 (3)) (pT L 3) (idxF_3 L _) <| oL 50 (ldF ((hL4.cell 3).trans rfl)) <| oC (.tuple #[]) (m_nothing  hn.at_) ?_
            intro w46 hk
            have hn := hn.after hk
            refine endL ?_
            try simp only [Act.put, sA, sB, sC]
            refine endV rfl rfl ?_
            exact OutV.ok (hr.trans (Tr.run_done _ _)) hn
        · skip
          have g39 : ¬ c1 = 237 := by simpa using h39
          have hr := hr.trans (run_if_neg g39)
          refine regionL <| oM 34 (pT p 0) <| oM 35 (.int .u8 (c1)) ?_
          refine sCallF hn rfl (by kernel_rfl) (m_alone c1 (hc1) hn.at_) (fun _ _ hX hb => blockX (thenX (panicP rfl (OutV.err (hr.trans (Tr.run_bind_error hX _)) (hb0.trans hb))))) ?_
          intro s47 xs47 w47 hX hn
          have hr := hr.trans (Tr.run_bind_ok hX _)
          refine sPut4 hn hb0 hL hLp hLB hL0 #[.func (.func 69) #[pT p 0] #[], .func (.func 70) #[pT p 0] #[], .func (.func 71) #[pT p 0] #[], .func (.func 72) #[pT p 0] #[]] rfl (by simp [Value.oneCell']) rfl rfl rfl (by kernel_rfl) (by kernel_rfl) ?_
          intro w48 hL4 hn
          refine endL ?_
          try simp only [Act.put, sA, sB, sC]
          refine blockN ?_
          refine thenN <| hK27 _ _ ?_
          rcases four_x hn.at_.ms with g49 | g49 | g49 | g49
          · skip
            have hr := hr.trans (run_if_pos g49)
            refine regionL <| oM 45 (pT p 0) <| oN 46 p 0 <| oF 47 (fM3 p) <| oL 48 (ldI (hn.at_.isX g49)) <| oI 49 (pT L 0) (.int .i64 (0)) (pT L 0) (idxF_0 L _) <| oL 50 (ldF ((hL4.cell 0).trans rfl)) ?_
            refine sCallV hn rfl (by kernel_rfl) (m_various  hn.at_) (fun _ _ hX hb => panicP rfl (OutV.err (hr.trans hX) hb)) ?_
            intro s50 xs50 w50 hX hn
            have hr := hr.trans hX
            refine endL ?_
            try simp only [Act.put, sA, sB, sC]
            refine endV rfl rfl ?_
            exact OutV.ok (hr.trans (Tr.run_done _ _)) hn
          · skip
            have hr := hr.trans (run_if_neg (by simp [g49, g39, g30, g15, g6]))
            have hr := hr.trans (run_if_pos g49)
            refine regionL <| oM 45 (pT p 0) <| oN 46 p 0 <| oF 47 (fM3 p) <| oL 48 (ldI (hn.at_.isX g49)) <| oI 49 (pT L 0) (.int .i64 (1)) (pT L 1) (idxF_1 L _) <| oL 50 (ldF ((hL4.cell 1).trans rfl)) ?_
            refine sCallV hn rfl (by kernel_rfl) (m_load  hn.at_) (fun _ _ hX hb => panicP rfl (OutV.err (hr.trans hX) hb)) ?_
            intro s51 xs51 w51 hX hn
            have hr := hr.trans hX
            refine endL ?_
            try simp only [Act.put, sA, sB, sC]
            refine endV rfl rfl ?_
            exact OutV.ok (hr.trans (Tr.run_done _ _)) hn
          · skip
            have hr := hr.trans (run_if_neg (by simp [g49, g39, g30, g15, g6]))
            have hr := hr.trans (run_if_neg (by simp [g49, g39, g30, g15, g6]))
            have hr := hr.trans (run_if_pos g49)
            refine regionL <| oM 45 (pT p 0) <| oN 46 p 0 <| oF 47 (fM3 p) <| oL 48 (ldI (hn.at_.isX g49)) <| oI 49 (pT L 0) (.int .i64 (2)) (pT L 2) (idxF_2 L _) <| oL 50 (ldF ((hL4.cell 2).trans rfl)) ?_
            refine sCallV hn rfl (by kernel_rfl) (m_reckon  hn.at_) (fun _ _ hX hb => panicP rfl (OutV.err (hr.trans hX) hb)) ?_
            intro s52 xs52 w52 hX hn
            have hr := hr.trans hX
            refine endL ?_
            try simp only [Act.put, sA, sB, sC]
            refine endV rfl rfl ?_
            exact OutV.ok (hr.trans (Tr.run_done _ _)) hn
          · skip
            have hr := hr.trans (run_if_neg (by simp [g49, g39, g30, g15, g6]))
            have hr := hr.trans (run_if_neg (by simp [g49, g39, g30, g15, g6]))
            have hr := hr.trans (run_if_neg (by simp [g49, g39, g30, g15, g6]))
            refine regionL <| oM 45 (pT p 0) <| oN 46 p 0 <| oF 47 (fM3 p) <| oL 48 (ldI (hn.at_.isX g49)) <| oI 49 (pT L 0) (.int .i64 (3)) (pT L 3) (idxF_3 L _) <| oL 50 (ldF ((hL4.cell 3).trans rfl)) ?_
            refine sCallV hn rfl (by kernel_rfl) (m_control  hn.at_) (fun _ _ hX hb => panicP rfl (OutV.err (hr.trans hX) hb)) ?_
            intro s53 xs53 w53 hX hn
            have hr := hr.trans hX
            refine endL ?_
            try simp only [Act.put, sA, sB, sC]
            refine endV rfl rfl ?_
            exact OutV.ok (hr.trans (Tr.run_done _ _)) hn
theorem infoCy : (Tryz.prog.info? 28).map (·.size) = some 4 := by kernel_rfl
theorem ldCy {w : World} {b : Nat} {t : TypeId} {c : Cy} (h : Row w b t (cyC c)) : (Instr.loadAt 28 (pT b 0)).run Tryz.prog w = .ok (cyV c) w :=
  run_loadAt_mid w b 0 28 (cyC c).toList _ h.range Tryz.underlying28 rfl infoCy
theorem stCy {w : World} {b : Nat} {t : TypeId} {c d : Cy} (h : Row w b t (cyC d)) : (Instr.storeAt 28 (pT b 0) (cyV c)).run Tryz.prog w = .ok () (w.setCells b 0 (cyC c).toList) :=
  run_storeAt_mid w b 0 28 (cyC c) h.there infoCy (by simp [cyC, Value.oneCell'])
theorem allocCy (w : World) : (Instr.alloc 28 true (.tuple #[])).run Tryz.prog w = .ok (pT w.heap.size 0) (w.alloc (.cells (cyC zeroCy) 28)) := by
  simp [go_sem, zeroCy]
section
variable {P : Program} {ops : Array Oper} {Q : Exit → Act → List Frame → World → Prop} {a : Act} {cs cs' : List Frame} {w w' : World} {i : Nat} {rest : List Nat} {o : Oper}
structure WS (P : Program) (ops : Array Oper) (Q : Exit → Act → List Frame → World → Prop) (l : List Nat) (a : Act) (cs : List Frame) (w : World) : Prop where
  h : wpOpsS P ops Q l a cs w
theorem regionS {id : Nat} (l : List Nat) (hl : List.range ops.size = l) (h : WS P ops Q l a cs w) : (Code.region id ops false).wpS P Q a cs w := wpS_region (by rw [hl]; exact h.h)
theorem endS (h : Q .normal a cs w) : WS P ops Q [] a cs w := ⟨by unfold wpOpsS; exact h⟩
theorem rTake (V : Value) (ho : ops[i]? = some o) (hg : o.guard = none) (he : (execOp a.eval o).run P w = .ok (.value V) w') (h : WS P ops Q rest (a.put o.dst V) cs w') : WS P ops Q (i :: rest) a cs w := by
  constructor
  unfold wpOpsS
  simp only [ho, wantedN hg, if_true, he, Oper.upon_value]
  exact h.h
theorem rDo (ho : ops[i]? = some o) (hg : o.guard = none) (he : (execOp a.eval o).run P w = .ok .skip w') (h : WS P ops Q rest (a.put o.dst undef) cs w') : WS P ops Q (i :: rest) a cs w := by
  constructor
  unfold wpOpsS
  simp only [ho, wantedN hg, if_true, he, Oper.upon_skip]
  exact h.h
theorem rRecover (V : Value) (ho : ops[i]? = some o) (hg : o.guard = none) (he : (execOp a.eval o).run P w = .ok .recover w) (hc : recoverD cs = some (V, cs')) (h : WS P ops Q rest (a.put o.dst V) cs' w) : WS P ops Q (i :: rest) a cs w := by
  constructor
  unfold wpOpsS
  simp only [ho, wantedN hg, if_true, he, hc]
  exact h.h
theorem rNone (ho : ops[i]? = some o) (hg : o.guard = none) (he : (execOp a.eval o).run P w = .ok .recover w) (hc : recoverD cs = none) (h : WS P ops Q rest (a.put o.dst .nilIface) cs w) : WS P ops Q (i :: rest) a cs w := by
  constructor
  unfold wpOpsS
  simp only [ho, wantedN hg, if_true, he, hc]
  exact h.h
theorem heAssert {x : Operand} {V R : Value} {t u : TypeId} {ok : Bool} (ho : o.op = .typeAssert x t u ok) (hx : a.eval x = V) (hr : (Instr.typeAssert V t u ok).run P w = .ok R w) : (execOp a.eval o).run P w = .ok (.value R) w := by
  unfold execOp
  simp only [ho, hx, hr, Sem.run_bind, Sem.run_pure, Result.andThen_ok]
end
theorem ta_yes (v : Value) (w : World) : (Instr.typeAssert (.iface 28 v) 20 28 true).run Tryz.prog w = .ok (.tuple #[v, .bool true]) w := by kernel_rfl
theorem ta_no (w : World) : (Instr.typeAssert .nilIface 20 28 true).run Tryz.prog w = .ok (.tuple #[cyV zeroCy, .bool false]) w := by kernel_rfl
theorem catch_panicking (L : Nat) (c : Cy) (older : List PanicEntry) (w : World) (hL : Row w L 28 (cyC zeroCy)) :
    CallsD Tryz.prog 41 #[pT L 0] (.panicking ({ v := .iface 28 (cyV c), recovered := false } :: older)) w fun e u' w' =>
      e = .returned (.tuple #[]) ∧ u' = .panicking ({ v := .iface 28 (cyV c), recovered := true } :: older) ∧ Row w' L 28 (cyC c) ∧ Besides L L w w' := by
  refine callsD_of_wpS Tryz.func41 rfl fun c₀ cs hu => ?_
  simp only [Tryz.ntmps41, List.size_toArray, List.length_cons, List.length_nil, Nat.reduceAdd, Nat.reduceSub, Array.replicate_succ, Array.replicate_zero, List.push_toArray, List.append_toArray, List.nil_append, List.cons_append]
  apply wpS_seq
  refine regionS [0, 1, 2, 3, 4, 5, 6, 7] (by simp only [List.size_toArray, List.length_cons, List.length_nil, Nat.reduceAdd]; rfl) ?_
  refine rRecover (.iface 28 (cyV c)) rfl rfl (by kernel_rfl) (show recoverD (c₀ :: cs) = some (_, { c₀ with mode := .panicking ({ v := .iface 28 (cyV c), recovered := true } :: older) } :: cs) by simp only [recoverD, hu]) ?_
  refine rTake (.tuple #[cyV c, .bool true]) rfl rfl (heAssert rfl (by kernel_rfl) (ta_yes _ _)) ?_
  refine rTake (.tuple #[cyV c, .bool true]) rfl rfl (heMove (.inl rfl) (by kernel_rfl) _) ?_
  refine rTake (cyV c) rfl rfl (heExtract (vs := #[cyV c, .bool true]) rfl (by kernel_rfl) (by kernel_rfl) _) ?_
  refine rTake (.bool true) rfl rfl (heExtract (vs := #[cyV c, .bool true]) rfl (by kernel_rfl) (by kernel_rfl) _) ?_
  refine rTake (pT w.heap.size 0) rfl rfl (heAlloc rfl (allocCy w)) ?_
  have hL' : Row (w.alloc (.cells (cyC zeroCy) 28)) L 28 (cyC zeroCy) := hL.alloc _
  have hlt := hL.lt
  refine rDo rfl rfl (heStore (ad := ⟨w.heap.size, 0, none⟩) (V := cyV c) rfl (by kernel_rfl) (by kernel_rfl) (stCy (Row.new w _ (cyC zeroCy)))) ?_
  have hN : Row ((w.alloc (.cells (cyC zeroCy) 28)).setCells w.heap.size 0 (cyC c).toList) w.heap.size 28 (cyC c) := (Row.new w _ (cyC zeroCy)).setAll rfl
  have hL2 : Row ((w.alloc (.cells (cyC zeroCy) 28)).setCells w.heap.size 0 (cyC c).toList) L 28 (cyC zeroCy) := hL'.setFar (by omega) _ _
  have hB : Besides L L w ((w.alloc (.cells (cyC zeroCy) 28)).setCells w.heap.size 0 (cyC c).toList) := ((Besides.refl L L w).alloc _).setCells (.inr (.inr (Nat.le_refl _))) _ _
  generalize (w.alloc (.cells (cyC zeroCy) 28)).setCells w.heap.size 0 (cyC c).toList = W at *
  refine rTake (.bool true) rfl rfl (heMove (.inr rfl) (by kernel_rfl) _) ?_
  refine endS ?_
  simp only [Exit.thenS]
  refine wpS_of_wp ?_
  try simp only [Act.put, sA, sB, sC]
  refine wp_seq_k fun K1 hK1 => regionL <| oM 8 (.bool true) ?_
  refine endL ?_
  refine thenN <| hK1 _ _ ?_
  refine wp_cond_true (by kernel_rfl) ?_
  refine regionL <| oL 9 (ldCy hN) <| oS ⟨L, 0, none⟩ (cyV c) (stCy hL2) ?_
  refine endL ?_
  exact ⟨rfl, _, rfl, _, results_none rfl _ _ _, rfl, rfl, hL2.setAll rfl, hB.setCells (.inl rfl) _ _⟩
theorem catch_idle (L : Nat) (w : World) :
    CallsD Tryz.prog 41 #[pT L 0] .returning w fun e u' w' => e = .returned (.tuple #[]) ∧ u' = .returning ∧ Below w.heap.size w w' := by
  refine callsD_of_wpS Tryz.func41 rfl fun c₀ cs hu => ?_
  simp only [Tryz.ntmps41, List.size_toArray, List.length_cons, List.length_nil, Nat.reduceAdd, Nat.reduceSub, Array.replicate_succ, Array.replicate_zero, List.push_toArray, List.append_toArray, List.nil_append, List.cons_append]
  apply wpS_seq
  refine regionS [0, 1, 2, 3, 4, 5, 6, 7] (by simp only [List.size_toArray, List.length_cons, List.length_nil, Nat.reduceAdd]; rfl) ?_
  refine rNone rfl rfl (by kernel_rfl) (show recoverD (c₀ :: cs) = none by simp only [recoverD, hu]) ?_
  refine rTake (.tuple #[cyV zeroCy, .bool false]) rfl rfl (heAssert rfl (by kernel_rfl) (ta_no _)) ?_
  refine rTake (.tuple #[cyV zeroCy, .bool false]) rfl rfl (heMove (.inl rfl) (by kernel_rfl) _) ?_
  refine rTake (cyV zeroCy) rfl rfl (heExtract (vs := #[cyV zeroCy, .bool false]) rfl (by kernel_rfl) (by kernel_rfl) _) ?_
  refine rTake (.bool false) rfl rfl (heExtract (vs := #[cyV zeroCy, .bool false]) rfl (by kernel_rfl) (by kernel_rfl) _) ?_
  refine rTake (pT w.heap.size 0) rfl rfl (heAlloc rfl (allocCy w)) ?_
  refine rDo rfl rfl (heStore (ad := ⟨w.heap.size, 0, none⟩) (V := cyV zeroCy) rfl (by kernel_rfl) (by kernel_rfl) (stCy (Row.new w _ (cyC zeroCy)))) ?_
  have hB : Below w.heap.size w ((w.alloc (.cells (cyC zeroCy) 28)).setCells w.heap.size 0 (cyC zeroCy).toList) := Below.setCellsAll (Below.alloc (Below.refl _ _) (Nat.le_refl _) _) (Nat.le_refl _) _ _
  refine rTake (.bool false) rfl rfl (heMove (.inr rfl) (by kernel_rfl) _) ?_
  refine endS ?_
  simp only [Exit.thenS]
  refine wpS_of_wp ?_
  try simp only [Act.put, sA, sB, sC]
  refine wp_seq_k fun K1 hK1 => regionL <| oM 8 (.bool false) ?_
  refine endL ?_
  refine thenN <| hK1 _ _ ?_
  refine wp_cond_false (by kernel_rfl) ?_
  refine wp_skip ?_
  exact ⟨rfl, _, by rw [← hu], _, results_none rfl _ _ _, rfl, rfl, hB⟩
theorem allocRg (w : World) : (Instr.alloc 24 true (.tuple #[])).run Tryz.prog w = .ok (pT w.heap.size 0) (w.alloc (.cells (regsC zeroRg) 24)) := by
  simp [go_sem, zeroRg, regsC]
theorem stRow {w : World} {b : Nat} {t : TypeId} {g d : Rg} (h : Row w b t (regsC d)) : (Instr.storeAt 24 (pT b 0) (regsV g)).run Tryz.prog w = .ok () (w.setCells b 0 (regsC g).toList) := stR h.there
theorem Besides.more {p L : Nat} {w w' w'' : World} (h : Besides p p w w') (k : Besides L L w' w'') (hL : w.heap.size ≤ L) : Besides p p w w'' :=
  ⟨k.os.trans h.os, k.tape.trans h.tape, k.output.trans h.output, Nat.le_trans h.size k.size, fun b hb n1 n2 => (k.block b (Nat.lt_of_lt_of_le hb h.size) (by omega) (by omega)).trans (h.block b hb n1 n2)⟩
theorem results_told {fn : Func} {t1 t2 t3 : Tmp} {u v : TypeId} (h : fn.results = #[.cell t1 28, .cell t2 24, .tmp t3]) {tmps : Array Value} {w : World} {L M : Nat} {c : Cy} {g : Rg} {b : Bool}
    (h1 : tmps.getD t1 undef = pT L 0) (h2 : tmps.getD t2 undef = pT M 0) (h3 : tmps.getD t3 undef = .bool b) (hL : Row w L u (cyC c)) (hM : Row w M v (regsC g)) : (results fn tmps).run Tryz.prog w = .ok (.tuple #[cyV c, regsV g, .bool b]) w := by
  have h1' : tmps[t1]?.getD undef = pT L 0 := by simpa using h1
  have h2' : tmps[t2]?.getD undef = pT M 0 := by simpa using h2
  have h3' : tmps[t3]?.getD undef = .bool b := by simpa using h3
  have e1 := loadVar_row (P := Tryz.prog) hL Tryz.underlying28 rfl infoCy
  have e2 := loadVar_row (P := Tryz.prog) hM Tryz.underlying24 rfl infoRg
  simp [results, h, h1', h2', h3', asAddr, e1, e2]
def tellV : Except Cy (Ms × List Int) → Value
  | .ok (s, _) => .tuple #[cyV zeroCy, regsV s.r, .bool true]
  | .error c => .tuple #[cyV c, regsV zeroRg, .bool false]
theorem sDefer {P : Program} {ops : Array Oper} {Q : Exit → Act → World → Prop} {a : Act} {w : World} {o : Oper} {rest : List Oper} (d : Deferred) (hd : o.dst = none) (hg : o.guard = none) (he : (execOp a.eval o).run P w = .ok (.defer d) w)
    (h : WL P ops Q rest { a with defers := d :: a.defers } w) : WL P ops Q (o :: rest) a w :=
  ⟨wpList_step fun K hK => by
    rw [if_pos (wantedN hg)]
    unfold Oper.wp
    rw [he, Oper.upon_defer, hd]
    exact hK _ _ h.h⟩
theorem heFn {P : Program} {a : Act} {o : Oper} {x : Operand} {F : FuncId} {cap : Array Value} {w : World} (ho : o.op = .call { callee := .value x, args := #[], argTypes := #[] }) (hx : a.eval x = .func (.func F) #[] cap) (hen : (callFunc F cap).run P w = .ok (.enter F cap) w) :
    (execOp a.eval o).run P w = .ok (.enter F cap) w := by
  unfold execOp
  simp [ho, resolve, hx, Deferred.ofValue, invoke, hen]
theorem part_do {P : Program} {ops : Array Oper} {Q : Exit → Act → World → Prop} {S : World → Prop} {n i f : Nat} {listed : Array Bool} {a : Act} {w w' : World} {o : Oper} (hd : o.dst = none) (ho : ops[i]? = some o) (hr : Region.ready .any ops listed = [i]) (hin : decide (i < n) = true)
    (hw : Region.wanted o (yielded ops a.tmps) = true) (he : (execOp a.eval o).run P w = .ok .skip w') (hS : S w')
    (hK : partT P ops Q S n f (listed.setIfInBounds i true) a w') : partT P ops Q S n (f + 1) listed a w := by
  intro inv
  have hr' : i ∈ Region.ready .any ops listed := by rw [hr]; simp
  refine ⟨by rw [hr]; simp, fun j hj => ?_⟩
  rw [hr] at hj
  have hji : j = i := by simpa using hj
  subst hji
  refine ⟨of_decide_eq_true hin, ?_⟩
  unfold wpOp
  simp only [ho, hw, if_true]
  refine .inl ?_
  unfold Oper.wp
  rw [he, Oper.upon_skip, hd]
  exact ⟨hS, hK (inv.set hr' (of_decide_eq_true hin))⟩
theorem m_run (F : FuncId) (cap : Array Value) (hen : ∀ w, (callFunc F cap).run Tryz.prog w = .ok (.enter F cap) w) {X : Except Cy (Ms × List Int)} {s : Ms} {xs : List Int} {w : World} {p B : Nat} (h : AtN w p B s xs)
    (hF : ∀ w', AtN w' p B s xs → Below w.heap.size w w' → Calls Tryz.prog F cap w' (OutV w' p B X)) :
    Calls Tryz.prog 20 #[pT p 0, .func (.func F) #[] cap] w (fun e w' => e = .returned (tellV X) ∧ Besides p p w w') := by
  go_enter_defers Tryz.func20, Tryz.ntmps20
  refine wp_seq_k fun K1 hK1 => regionL ?_
  have hp := h.lt
  refine list_make 4 (pT w.heap.size 0) rfl (wantedN rfl) (heAlloc rfl (allocCy w)) ?_
  refine list_make 5 (.pointer (some ⟨(w.alloc (.cells (cyC zeroCy) 28)).heap.size, 0, none⟩)) rfl (wantedN rfl) (heAlloc rfl (allocRg _)) ?_
  have h1 := h.below (Below.alloc (Below.refl w.heap.size w) (Nat.le_refl _) (.cells (cyC zeroCy) 28))
  have h2 := h1.below (Below.alloc (Below.refl _ _) (Nat.le_refl _) (.cells (regsC zeroRg) 24))
  have hb0 : Besides p p w ((w.alloc (.cells (cyC zeroCy) 28)).alloc (.cells (regsC zeroRg) 24)) := ((Besides.refl p p w).alloc _).alloc _
  have hW : Below w.heap.size w ((w.alloc (.cells (cyC zeroCy) 28)).alloc (.cells (regsC zeroRg) 24)) := Below.alloc (Below.alloc (Below.refl _ _) (Nat.le_refl _) _) (by simp) _
  have hL := (Row.new w 28 (cyC zeroCy)).alloc (.cells (regsC zeroRg) 24)
  have hM := Row.new (w.alloc (.cells (cyC zeroCy) 28)) 24 (regsC zeroRg)
  obtain ⟨L, hLe⟩ : ∃ L, L = w.heap.size := ⟨_, rfl⟩
  obtain ⟨M, hMe⟩ : ∃ M, M = (w.alloc (.cells (cyC zeroCy) 28)).heap.size := ⟨_, rfl⟩
  have hML : M = L + 1 := by rw [hMe, hLe]; simp
  rw [← hMe] at hM ⊢
  rw [← hLe] at hL hW ⊢
  generalize (w.alloc (.cells (cyC zeroCy) 28)).alloc (.cells (regsC zeroRg) 24) = W at *
  clear hMe h1
  refine oA 6 (.bool false) ?_
  refine endL ?_
  try simp only [Act.put, sA, sB, sC]
  refine thenN <| hK1 _ _ <| wp_seq_k fun K2 hK2 => regionL ?_
  refine list_take 7 (.func (.func 41) #[] #[pT L 0]) rfl (wantedN rfl) (heFunc rfl (by kernel_rfl) (by kernel_rfl) _) ?_
  refine sDefer { target := .fn (.func 41) #[pT L 0], args := #[] } rfl rfl (by kernel_rfl) ?_
  refine endL ?_
  try simp only [Act.put, sA, sB, sC]
  refine thenN <| hK2 _ _ <| wp_seq_k fun K3 hK3 => regionL <| oM 8 (.func (.func F) #[] cap) ?_
  have hn := NowN.begin h2
  refine sCallV hn rfl (heFn rfl (by kernel_rfl) (hen W)) (hF W h2 (by rw [← hLe]; exact hW)) (fun c w' hX hb => ?_) ?_
  · refine thenX ?_
    subst hX
    refine leaves_cons (f := 41) (args := #[pT L 0]) (by simp) (by simp [go_sem]) ?_
    have hL' := hL.besides hb (by omega) (by omega)
    have hM' := hM.besides hb (by omega) (by omega)
    refine (catch_panicking L c [] w' hL').mono ?_
    rintro e u' w'' ⟨rfl, rfl, hA, hB⟩
    refine ⟨_, results_told rfl (by kernel_rfl) (by kernel_rfl) (by kernel_rfl) hA (hM'.besides hB (by omega) (by omega)), rfl, ?_⟩
    exact (hb0.trans hb).more hB (by omega)
  intro s1 xs1 w1 hX hn
  subst hX
  have hL' := hL.besides hn.bes (by omega) (by omega)
  have hM' := hM.besides hn.bes (by omega) (by omega)
  refine endL ?_
  try simp only [Act.put, sA, sB, sC]
  refine thenN <| hK3 _ _ <| wp_seq_k fun K4 hK4 => ?_
  refine Code.wp_mono (Q := fun e a w => match e with | .normal => K4 a w | _ => False) (fun e a w h => by cases e <;> first | exact h | exact h.elim) ?_
  refine part_start 6 (fun w' => AtN w' p B s1 xs1) (by kernel_rfl) (by kernel_rfl) hn.at_.drew ?_
  intro w2 hw2 hS
  have hL2 : Row w2 L 28 (cyC zeroCy) := by subst hw2; exact hL'.drew
  have hM2 : Row w2 M 24 (regsC zeroRg) := by subst hw2; exact hM'.drew
  refine yG 0 10 (cyV zeroCy) rfl (fun w hS => heBuild (cells := cyC zeroCy) rfl (by kernel_rfl) w) hS <| yM 1 11 (pT p 0) hS <| yN 2 12 p 0 hS <| yF 3 13 (fM0 p) hS <| yL 4 14 (regsV s1.r) (fun w hS => ldR hS.regs) hS ?_
  have hL3 : Row (w2.setCells L 0 (cyC zeroCy).toList) L 28 (cyC zeroCy) := hL2.setAll rfl
  have hM3 := hM2.setFar (by omega : M ≠ L) (cyC zeroCy).toList 0
  have hb3 : Besides L L w2 (w2.setCells L 0 (cyC zeroCy).toList) := (Besides.refl L L w2).setCells (.inl rfl) _ _
  have hb2 : Besides p p W w2 := by subst hw2; exact hn.bes.drew
  refine part_do (i := 5) (by rfl) rfl (by kernel_rfl) (by kernel_rfl) (by kernel_rfl) (by exact heStore (ad := ⟨L, 0, none⟩) (V := cyV zeroCy) rfl (by kernel_rfl) (by kernel_rfl) (stCy hL2)) (hS.far (by omega) (by have := hS.low; omega) _ _) ?_
  refine part_end (by kernel_rfl) ?_
  simp only [List.drop_succ_cons, List.drop_zero]
  try simp only [Act.put, sA, sB, sC]
  refine oS ⟨M, 0, none⟩ (regsV s1.r) (stRow hM3) ?_
  have hL4 := hL3.setFar (by omega : L ≠ M) (regsC s1.r).toList 0
  have hM4 : Row ((w2.setCells L 0 (cyC zeroCy).toList).setCells M 0 (regsC s1.r).toList) M 24 (regsC s1.r) := hM3.setAll rfl
  have hb4 : Besides M M (w2.setCells L 0 (cyC zeroCy).toList) ((w2.setCells L 0 (cyC zeroCy).toList).setCells M 0 (regsC s1.r).toList) := (Besides.refl M M _).setCells (.inl rfl) _ _
  have hbes : Besides p p w ((w2.setCells L 0 (cyC zeroCy).toList).setCells M 0 (regsC s1.r).toList) := ((hb0.trans hb2).more hb3 (by omega)).more hb4 (by omega)
  generalize (w2.setCells L 0 (cyC zeroCy).toList).setCells M 0 (regsC s1.r).toList = W5 at *
  refine oA 6 (.bool true) ?_
  refine endL ?_
  try simp only [Act.put, sA, sB, sC]
  refine hK4 _ _ ?_
  refine wp_ret ?_
  refine leaves_cons (f := 41) (args := #[pT L 0]) (by simp) (by simp [go_sem]) ?_
  refine (catch_idle L _).mono ?_
  rintro e u' w'' ⟨rfl, rfl, hB⟩
  exact ⟨_, results_told rfl (by kernel_rfl) (by kernel_rfl) (by kernel_rfl) (hL4.below hB hL4.lt) (hM4.below hB hM4.lt), rfl, hbes.trans (.of_below hB)⟩
theorem m_glance1 {s : Ms} {xs : List Int} {w : World} {p B : Nat} (h : AtN w p B s xs) :
    Calls Tryz.prog 21 #[pT p 0] w (OutV w p B (((glanceN s).bind fun b => .done b.2).run xs)) := by
  have hn := NowN.begin h
  go_enter Tryz.func21, Tryz.ntmps21
  refine regionL ?_
  refine sCallI hn rfl (by kernel_rfl) (m_glance hn.at_) (fun c w' hX hb => panicP rfl (OutV.err (Tr.run_bind_error hX _) hb)) ?_
  intro v1 s1 xs1 w1 hX hk hn
  refine endL ?_
  refine endV rfl rfl ?_
  exact OutV.ok ((Tr.run_bind_ok hX _).trans (Tr.run_done _ _)) hn
def nextX (s : Ms) (xs : List Int) : Except Cy (Ms × List Int) :=
  match (fetchN s).run xs with
  | .ok ((b, t), ys) => execN ys b t.noLate
  | .error c => .error c
theorem m_whole {s : Ms} {xs : List Int} {w : World} {p B : Nat} (h : AtN w p B s xs) :
    Calls Tryz.prog 23 #[pT p 0] w (OutV w p B (nextX s xs)) := by
  have hn := NowN.begin h
  go_enter Tryz.func23, Tryz.ntmps23
  refine regionL ?_
  refine sCallI hn rfl (by kernel_rfl) (m_fetch hn.at_) (fun c w' hX hb => panicP rfl (OutV.err (by rw [nextX, hX]) hb)) ?_
  intro v1 s1 xs1 w1 hX hk hn
  have e : nextX s xs = execN xs1 v1 s1.noLate := by rw [nextX, hX]
  refine sCallV hn rfl (by kernel_rfl) (m_instruction v1 hk hn.at_) (fun c w' hX hb => panicP rfl (OutV.err (e.trans hX) hb)) ?_
  intro s2 xs2 w2 hX hn
  refine endL ?_
  refine endV rfl rfl ?_
  exact OutV.ok (e.trans hX) hn
theorem m_after1 (c : Int) (hc : B8 c) {L : Nat} {t : TypeId} {s : Ms} {xs : List Int} {w : World} {p B : Nat} (h : AtN w p B s xs) (hL : Row w L t #[.int .u8 c]) :
    Calls Tryz.prog 31 #[pT p 0, pT L 0] w (OutV w p B (execN xs c s.noLate)) := by
  have hn := NowN.begin h
  go_enter Tryz.func31, Tryz.ntmps31
  refine regionL <| oL 2 (ld8 (hL.cell 0)) ?_
  refine sCallV hn rfl (by kernel_rfl) (m_instruction c hc hn.at_) (fun c w' hX hb => panicP rfl (OutV.err hX hb)) ?_
  intro s2 xs2 w2 hX hn
  refine endL ?_
  refine endV rfl rfl ?_
  exact OutV.ok hX hn
def ms0 (g : Rg) : Ms := ⟨g, 0, 0, 0, 0, 0, 0, 0, false⟩
theorem ms0_b {g : Rg} (h : RgB g) : MsB (ms0 g) := ⟨h, .inl rfl, by simp [ms0], by simp [ms0], by simp [ms0], by simp [ms0], by simp [ms0], Wd16.zero⟩
def zeroM : Array Value := mC (ms0 zeroRg) none 0 0
theorem infoM : (Tryz.prog.info? 46).map (·.size) = some 29 := by kernel_rfl
theorem allocM (w : World) : (Instr.alloc 46 true (.tuple #[])).run Tryz.prog w = .ok (pT w.heap.size 0) (w.alloc (.cells zeroM 46)) := by
  simp [go_sem, zeroM, zeroRg, ms0]
theorem boxRg (g : Rg) (w : World) : (Instr.box 24 (regsV g)).run Tryz.prog w = .ok (pT w.heap.size 0) (w.alloc (.cells (regsC g) 24)) := by
  simp [go_sem]
theorem box8 (c : Int) (w : World) : (Instr.box 5 (.int .u8 c)).run Tryz.prog w = .ok (pT w.heap.size 0) (w.alloc (.cells #[.int .u8 c] 5)) := by
  simp [go_sem]
theorem heBox {P : Program} {a : Act} {o : Oper} {t : TypeId} {x : Operand} {V R : Value} {w w' : World} (ho : o.op = .box t x) (hx : a.eval x = V) (h : (Instr.box t V).run P w = .ok R w') : (execOp a.eval o).run P w = .ok (.value R) w' := by
  unfold execOp
  simp only [ho, hx, Sem.run_bind, h, Result.andThen_ok, Sem.run_pure]
def nextOf (g : Rg) (xs : List Int) : Except Cy (Ms × List Int) := if g.halted = true then ((glanceN (ms0 g)).bind fun b => .done b.2).run xs else nextX (ms0 g) xs
def afterOf (g : Rg) (c : Int) (xs : List Int) : Except Cy (Ms × List Int) := execN xs c (ms0 g).noLate
def cyOf : Except Cy (Ms × List Int) → Cy | .ok _ => zeroCy | .error c => c
def rgOf : Except Cy (Ms × List Int) → Rg | .ok (s, _) => s.r | .error _ => zeroRg
def doneOf : Except Cy (Ms × List Int) → Bool | .ok _ => true | .error _ => false
theorem tellV_eq (X : Except Cy (Ms × List Int)) : tellV X = .tuple #[cyV (cyOf X), regsV (rgOf X), .bool (doneOf X)] := by
  rcases X with c | ⟨s, ys⟩ <;> rfl
section
variable {w : World} {g : Rg} {A : Option Addr} {cap : Nat} {xs : List Int}
theorem at_new {w W : World} (hk : ∀ b, b < w.heap.size → W.heap[b]? = w.heap[b]?) (hs : w.heap.size ≤ W.heap.size) (hg : RgB g) (hc : xs.length ≤ cap) (h8 : Bytes8 xs) (hin : BytesIn w w.heap.size A xs) (ht : Tabs w w.heap.size) :
    AtN ((W.alloc (.cells zeroM 46)).setCells W.heap.size 0 (mC (ms0 g) A xs.length cap).toList) W.heap.size w.heap.size (ms0 g) xs := by
  rw [setCells_new W _ zeroM (mC (ms0 g) A xs.length cap) rfl]
  have k : ∀ b, b < w.heap.size → (W.alloc (.cells (mC (ms0 g) A xs.length cap) 46)).heap[b]? = w.heap[b]? := fun b hb => (Below.heap_alloc W _ b (by omega)).trans (hk b hb)
  exact ⟨⟨A, cap, hc, Row.new W _ _, hin.keep k⟩, hs, h8, ms0_b hg, ht.keep k⟩
theorem stM {W : World} (g : Rg) (A : Option Addr) (n cap : Nat) : (Instr.storeAt 46 (pT W.heap.size 0) (.agg (mC (ms0 g) A n cap))).run Tryz.prog (W.alloc (.cells zeroM 46)) = .ok () ((W.alloc (.cells zeroM 46)).setCells W.heap.size 0 (mC (ms0 g) A n cap).toList) :=
  run_storeAt_mid _ _ 0 _ (mC (ms0 g) A n cap) (Row.new W _ zeroM).there infoM (by simp [mC, Value.oneCell'])
end
theorem nnext_any (g : Rg) (hg : RgB g) (A : Option Addr) (cap : Nat) (xs : List Int) (hc : xs.length ≤ cap) (h8 : Bytes8 xs) (w : World) (hin : BytesIn w w.heap.size A xs) (ht : Tabs w w.heap.size) :
    Calls Tryz.prog 12 #[regsV g, .slice A xs.length cap] w (fun e w' => e = .returned (tellV (nextOf g xs)) ∧ Below w.heap.size w w') := by
  go_enter Tryz.func12, Tryz.ntmps12
  refine wp_seq_k fun K1 hK1 => regionL ?_
  refine list_make 2 (pT w.heap.size 0) rfl (wantedN rfl) (heBox rfl (by kernel_rfl) (boxRg g w)) ?_
  have r0 := Row.new w 24 (regsC g)
  have hb := Below.alloc (Below.refl w.heap.size w) (Nat.le_refl _) (.cells (regsC g) 24)
  obtain ⟨L0, hL0⟩ : ∃ L, L = w.heap.size := ⟨_, rfl⟩
  rw [← hL0] at r0 ⊢
  have l0 := r0.lt
  generalize w.alloc (.cells (regsC g) 24) = W0 at *
  have hsW0 := hb.size
  refine list_make 4 (pT W0.heap.size 0) rfl (wantedN rfl) (heAlloc rfl (allocCy W0)) ?_
  have r0 := r0.alloc (.cells (cyC zeroCy) 28)
  have r1 := Row.new W0 28 (cyC zeroCy)
  have hb := Below.alloc hb (by have := hb.size; omega) (.cells (cyC zeroCy) 28)
  obtain ⟨L1, hL1⟩ : ∃ L, L = W0.heap.size := ⟨_, rfl⟩
  have q1 : w.heap.size ≤ L1 ∧ L0 < L1 := by rw [hL1]; exact ⟨hsW0, l0⟩
  rw [← hL1] at r1 ⊢
  generalize W0.alloc (.cells (cyC zeroCy) 28) = W1 at *
  have l0 := r0.lt
  have l1 := r1.lt
  have hsW1 := hb.size
  refine list_make 5 (pT W1.heap.size 0) rfl (wantedN rfl) (heAlloc rfl (allocRg W1)) ?_
  have r0 := r0.alloc (.cells (regsC zeroRg) 24)
  have r1 := r1.alloc (.cells (regsC zeroRg) 24)
  have r2 := Row.new W1 24 (regsC zeroRg)
  have hb := Below.alloc hb (by have := hb.size; omega) (.cells (regsC zeroRg) 24)
  obtain ⟨L2, hL2⟩ : ∃ L, L = W1.heap.size := ⟨_, rfl⟩
  have q2 : w.heap.size ≤ L2 ∧ L0 < L2 ∧ L1 < L2 := by rw [hL2]; exact ⟨hsW1, l0, l1⟩
  rw [← hL2] at r2 ⊢
  generalize W1.alloc (.cells (regsC zeroRg) 24) = W2 at *
  have l0 := r0.lt
  have l1 := r1.lt
  have l2 := r2.lt
  have hsW2 := hb.size
  refine oA 6 (.bool false) ?_
  refine endL ?_
  try simp only [Act.put, sA, sB, sC]
  refine thenN <| hK1 _ _ <| wp_seq_k fun K2 hK2 => regionL <| oL 8 (ldR r0.range) <| oM 9 (.slice A xs.length cap) <| oU 10 (mC (ms0 g) A xs.length cap) ?_
  refine list_make 7 (pT W2.heap.size 0) rfl (wantedN rfl) (heAlloc rfl (allocM W2)) ?_
  have hat := at_new (w := w) (W := W2) (fun b hlt => hb.block b hlt) hb.size hg hc h8 hin ht
  refine list_do rfl (wantedN rfl) (heStore (ad := ⟨W2.heap.size, 0, none⟩) (V := .agg (mC (ms0 g) A xs.length cap)) rfl (by kernel_rfl) (by kernel_rfl) (stM g A xs.length cap)) ?_
  have r0 := (r0.alloc (.cells zeroM 46)).setFar (by omega) (mC (ms0 g) A xs.length cap).toList 0 (b := W2.heap.size)
  have r1 := (r1.alloc (.cells zeroM 46)).setFar (by omega) (mC (ms0 g) A xs.length cap).toList 0 (b := W2.heap.size)
  have r2 := (r2.alloc (.cells zeroM 46)).setFar (by omega) (mC (ms0 g) A xs.length cap).toList 0 (b := W2.heap.size)
  have hb := Below.setCellsAll (Below.alloc hb (by have := hb.size; omega) (.cells zeroM 46)) (b := W2.heap.size) (by have := hb.size; omega) (mC (ms0 g) A xs.length cap).toList 0
  obtain ⟨p, hp⟩ : ∃ p, p = W2.heap.size := ⟨_, rfl⟩
  have qp : w.heap.size ≤ p ∧ L0 < p ∧ L1 < p ∧ L2 < p := by rw [hp]; exact ⟨hsW2, l0, l1, l2⟩
  rw [← hp] at hat ⊢
  rw [← hp] at r0 r1 r2 hb
  generalize (W2.alloc (.cells zeroM 46)).setCells p 0 (mC (ms0 g) A xs.length cap).toList = W at *
  refine endL ?_
  try simp only [Act.put, sA, sB, sC]
  refine thenN <| hK2 _ _ <| wp_seq_k fun K3 hK3 => wp_seq_k fun K4 hK4 => regionL <| oF 11 (fR17 L0) <| oL 12 (ldB (r0.cell 17)) ?_
  refine endL ?_
  try simp only [Act.put, sA, sB, sC]
  refine thenN <| hK4 _ _ ?_
  refine wp_cond_split (t := g.halted) (by kernel_rfl) (fun hh => ?_) (fun hh => ?_)
  · skip
    have e : nextOf g xs = ((glanceN (ms0 g)).bind fun b => .done b.2).run xs := by rw [nextOf, if_pos hh]
    rw [e]
    refine wp_seq_k fun K5 hK5 => regionL ?_
    refine list_take 13 (.func (.func 21) #[] #[pT p 0]) rfl (wantedN rfl) (heFunc rfl (by kernel_rfl) (by kernel_rfl) _) ?_
    refine oC (tellV (((glanceN (ms0 g)).bind fun b => .done b.2).run xs)) (m_run 21 #[pT p 0] (fun _ => by kernel_rfl) hat (fun w' h' _ => m_glance1 h')) ?_
    intro W' hbes
    have r0 := r0.besides hbes (by omega) (by omega)
    have r1 := r1.besides hbes (by omega) (by omega)
    have r2 := r2.besides hbes (by omega) (by omega)
    have hb := hb.trans (hbes.below (by omega) (by omega) hb.size)
    rw [tellV_eq]
    generalize hX : ((glanceN (ms0 g)).bind fun b => .done b.2).run xs = X at *
    refine oX 15 #[cyV (cyOf X), regsV (rgOf X), .bool (doneOf X)] (cyV (cyOf X)) <| oX 16 #[cyV (cyOf X), regsV (rgOf X), .bool (doneOf X)] (regsV (rgOf X)) <| oX 17 #[cyV (cyOf X), regsV (rgOf X), .bool (doneOf X)] (.bool (doneOf X)) <| oS ⟨L1, 0, none⟩ (cyV (cyOf X)) (stCy r1) ?_
    have r1' : Row (W'.setCells L1 0 (cyC (cyOf X)).toList) L1 28 (cyC (cyOf X)) := r1.setAll rfl
    have r2' := r2.setFar (by omega : L2 ≠ L1) (cyC (cyOf X)).toList 0
    have hb := Below.setCellsAll hb (b := L1) (by omega) (cyC (cyOf X)).toList 0
    refine oS ⟨L2, 0, none⟩ (regsV (rgOf X)) (stRow r2') ?_
    have r1' := r1'.setFar (by omega : L1 ≠ L2) (regsC (rgOf X)).toList 0
    have r2' : Row ((W'.setCells L1 0 (cyC (cyOf X)).toList).setCells L2 0 (regsC (rgOf X)).toList) L2 24 (regsC (rgOf X)) := r2'.setAll rfl
    have hb := Below.setCellsAll hb (b := L2) (by omega) (regsC (rgOf X)).toList 0
    refine oA 6 (.bool (doneOf X)) ?_
    refine endL ?_
    try simp only [Act.put, sA, sB, sC]
    refine thenN <| hK5 _ _ ?_
    refine wp_ret ?_
    refine thenR ?_
    exact bodyPost_ret (results_told rfl (by kernel_rfl) (by kernel_rfl) (by kernel_rfl) r1' r2') rfl ⟨by first | rfl | (rw [tellV_eq]; done) | (rw [e, tellV_eq]; done), hb⟩
  · skip
    have e : nextOf g xs = nextX (ms0 g) xs := by rw [nextOf, if_neg (by rw [hh]; decide)]
    rw [e]
    refine wp_skip ?_
    refine thenN <| hK3 _ _ ?_
    rw [e]
    refine wp_seq_k fun K5 hK5 => regionL ?_
    refine list_take 18 (.func (.func 23) #[] #[pT p 0]) rfl (wantedN rfl) (heFunc rfl (by kernel_rfl) (by kernel_rfl) _) ?_
    refine oC (tellV (nextX (ms0 g) xs)) (m_run 23 #[pT p 0] (fun _ => by kernel_rfl) hat (fun w' h' _ => m_whole h')) ?_
    intro W' hbes
    have r0 := r0.besides hbes (by omega) (by omega)
    have r1 := r1.besides hbes (by omega) (by omega)
    have r2 := r2.besides hbes (by omega) (by omega)
    have hb := hb.trans (hbes.below (by omega) (by omega) hb.size)
    rw [tellV_eq]
    generalize hX : nextX (ms0 g) xs = X at *
    refine oX 20 #[cyV (cyOf X), regsV (rgOf X), .bool (doneOf X)] (cyV (cyOf X)) <| oX 21 #[cyV (cyOf X), regsV (rgOf X), .bool (doneOf X)] (regsV (rgOf X)) <| oX 22 #[cyV (cyOf X), regsV (rgOf X), .bool (doneOf X)] (.bool (doneOf X)) <| oS ⟨L1, 0, none⟩ (cyV (cyOf X)) (stCy r1) ?_
    have r1' : Row (W'.setCells L1 0 (cyC (cyOf X)).toList) L1 28 (cyC (cyOf X)) := r1.setAll rfl
    have r2' := r2.setFar (by omega : L2 ≠ L1) (cyC (cyOf X)).toList 0
    have hb := Below.setCellsAll hb (b := L1) (by omega) (cyC (cyOf X)).toList 0
    refine oS ⟨L2, 0, none⟩ (regsV (rgOf X)) (stRow r2') ?_
    have r1' := r1'.setFar (by omega : L1 ≠ L2) (regsC (rgOf X)).toList 0
    have r2' : Row ((W'.setCells L1 0 (cyC (cyOf X)).toList).setCells L2 0 (regsC (rgOf X)).toList) L2 24 (regsC (rgOf X)) := r2'.setAll rfl
    have hb := Below.setCellsAll hb (b := L2) (by omega) (regsC (rgOf X)).toList 0
    refine oA 6 (.bool (doneOf X)) ?_
    refine endL ?_
    try simp only [Act.put, sA, sB, sC]
    refine thenN <| hK5 _ _ ?_
    refine wp_ret ?_
    exact bodyPost_ret (results_told rfl (by kernel_rfl) (by kernel_rfl) (by kernel_rfl) r1' r2') rfl ⟨by first | rfl | (rw [tellV_eq]; done) | (rw [e, tellV_eq]; done), hb⟩
theorem nafter_any (g : Rg) (hg : RgB g) (c : Int) (hcb : B8 c) (A : Option Addr) (cap : Nat) (xs : List Int) (hc : xs.length ≤ cap) (h8 : Bytes8 xs) (w : World) (hin : BytesIn w w.heap.size A xs) (ht : Tabs w w.heap.size) :
    Calls Tryz.prog 14 #[regsV g, .int .u8 c, .slice A xs.length cap] w (fun e w' => e = .returned (tellV (afterOf g c xs)) ∧ Below w.heap.size w w') := by
  go_enter Tryz.func14, Tryz.ntmps14
  refine wp_seq_k fun K1 hK1 => regionL ?_
  refine list_make 3 (pT w.heap.size 0) rfl (wantedN rfl) (heBox rfl (by kernel_rfl) (boxRg g w)) ?_
  have r0 := Row.new w 24 (regsC g)
  have hb := Below.alloc (Below.refl w.heap.size w) (Nat.le_refl _) (.cells (regsC g) 24)
  obtain ⟨L0, hL0⟩ : ∃ L, L = w.heap.size := ⟨_, rfl⟩
  rw [← hL0] at r0 ⊢
  have l0 := r0.lt
  generalize w.alloc (.cells (regsC g) 24) = W0 at *
  have hsW0 := hb.size
  refine list_make 4 (pT W0.heap.size 0) rfl (wantedN rfl) (heBox rfl (by kernel_rfl) (box8 c W0)) ?_
  have r0 := r0.alloc (.cells #[.int .u8 c] 5)
  have r1 := Row.new W0 5 #[.int .u8 c]
  have hb := Below.alloc hb (by have := hb.size; omega) (.cells #[.int .u8 c] 5)
  obtain ⟨L1, hL1⟩ : ∃ L, L = W0.heap.size := ⟨_, rfl⟩
  have q1 : w.heap.size ≤ L1 ∧ L0 < L1 := by rw [hL1]; exact ⟨hsW0, l0⟩
  rw [← hL1] at r1 ⊢
  generalize W0.alloc (.cells #[.int .u8 c] 5) = W1 at *
  have l0 := r0.lt
  have l1 := r1.lt
  have hsW1 := hb.size
  refine list_make 6 (pT W1.heap.size 0) rfl (wantedN rfl) (heAlloc rfl (allocCy W1)) ?_
  have r0 := r0.alloc (.cells (cyC zeroCy) 28)
  have r1 := r1.alloc (.cells (cyC zeroCy) 28)
  have r2 := Row.new W1 28 (cyC zeroCy)
  have hb := Below.alloc hb (by have := hb.size; omega) (.cells (cyC zeroCy) 28)
  obtain ⟨L2, hL2⟩ : ∃ L, L = W1.heap.size := ⟨_, rfl⟩
  have q2 : w.heap.size ≤ L2 ∧ L0 < L2 ∧ L1 < L2 := by rw [hL2]; exact ⟨hsW1, l0, l1⟩
  rw [← hL2] at r2 ⊢
  generalize W1.alloc (.cells (cyC zeroCy) 28) = W2 at *
  have l0 := r0.lt
  have l1 := r1.lt
  have l2 := r2.lt
  have hsW2 := hb.size
  refine list_make 7 (pT W2.heap.size 0) rfl (wantedN rfl) (heAlloc rfl (allocRg W2)) ?_
  have r0 := r0.alloc (.cells (regsC zeroRg) 24)
  have r1 := r1.alloc (.cells (regsC zeroRg) 24)
  have r2 := r2.alloc (.cells (regsC zeroRg) 24)
  have r3 := Row.new W2 24 (regsC zeroRg)
  have hb := Below.alloc hb (by have := hb.size; omega) (.cells (regsC zeroRg) 24)
  obtain ⟨L3, hL3⟩ : ∃ L, L = W2.heap.size := ⟨_, rfl⟩
  have q3 : w.heap.size ≤ L3 ∧ L0 < L3 ∧ L1 < L3 ∧ L2 < L3 := by rw [hL3]; exact ⟨hsW2, l0, l1, l2⟩
  rw [← hL3] at r3 ⊢
  generalize W2.alloc (.cells (regsC zeroRg) 24) = W3 at *
  have l0 := r0.lt
  have l1 := r1.lt
  have l2 := r2.lt
  have l3 := r3.lt
  have hsW3 := hb.size
  refine oA 8 (.bool false) ?_
  refine endL ?_
  try simp only [Act.put, sA, sB, sC]
  refine thenN <| hK1 _ _ <| wp_seq_k fun K2 hK2 => regionL <| oL 10 (ldR r0.range) <| oM 11 (.slice A xs.length cap) <| oU 12 (mC (ms0 g) A xs.length cap) ?_
  refine list_make 9 (pT W3.heap.size 0) rfl (wantedN rfl) (heAlloc rfl (allocM W3)) ?_
  have hat := at_new (w := w) (W := W3) (fun b hlt => hb.block b hlt) hb.size hg hc h8 hin ht
  refine list_do rfl (wantedN rfl) (heStore (ad := ⟨W3.heap.size, 0, none⟩) (V := .agg (mC (ms0 g) A xs.length cap)) rfl (by kernel_rfl) (by kernel_rfl) (stM g A xs.length cap)) ?_
  have r0 := (r0.alloc (.cells zeroM 46)).setFar (by omega) (mC (ms0 g) A xs.length cap).toList 0 (b := W3.heap.size)
  have r1 := (r1.alloc (.cells zeroM 46)).setFar (by omega) (mC (ms0 g) A xs.length cap).toList 0 (b := W3.heap.size)
  have r2 := (r2.alloc (.cells zeroM 46)).setFar (by omega) (mC (ms0 g) A xs.length cap).toList 0 (b := W3.heap.size)
  have r3 := (r3.alloc (.cells zeroM 46)).setFar (by omega) (mC (ms0 g) A xs.length cap).toList 0 (b := W3.heap.size)
  have hb := Below.setCellsAll (Below.alloc hb (by have := hb.size; omega) (.cells zeroM 46)) (b := W3.heap.size) (by have := hb.size; omega) (mC (ms0 g) A xs.length cap).toList 0
  obtain ⟨p, hp⟩ : ∃ p, p = W3.heap.size := ⟨_, rfl⟩
  have qp : w.heap.size ≤ p ∧ L0 < p ∧ L1 < p ∧ L2 < p ∧ L3 < p := by rw [hp]; exact ⟨hsW3, l0, l1, l2, l3⟩
  rw [← hp] at hat ⊢
  rw [← hp] at r0 r1 r2 r3 hb
  generalize (W3.alloc (.cells zeroM 46)).setCells p 0 (mC (ms0 g) A xs.length cap).toList = W at *
  refine endL ?_
  try simp only [Act.put, sA, sB, sC]
  refine thenN <| hK2 _ _ <| wp_seq_k fun K3 hK3 => regionL ?_
  refine list_take 13 (.func (.func 31) #[] #[pT p 0, pT L1 0]) rfl (wantedN rfl) (heFunc rfl (by kernel_rfl) (by kernel_rfl) _) ?_
  refine oC (tellV (afterOf g c xs)) (m_run 31 #[pT p 0, pT L1 0] (fun _ => by kernel_rfl) hat (fun w' h' hbw => m_after1 c hcb h' (r1.below hbw r1.lt))) ?_
  intro W' hbes
  have r0 := r0.besides hbes (by omega) (by omega)
  have r1 := r1.besides hbes (by omega) (by omega)
  have r2 := r2.besides hbes (by omega) (by omega)
  have r3 := r3.besides hbes (by omega) (by omega)
  have hb := hb.trans (hbes.below (by omega) (by omega) hb.size)
  rw [tellV_eq]
  generalize hX : afterOf g c xs = X at *
  refine oX 15 #[cyV (cyOf X), regsV (rgOf X), .bool (doneOf X)] (cyV (cyOf X)) <| oX 16 #[cyV (cyOf X), regsV (rgOf X), .bool (doneOf X)] (regsV (rgOf X)) <| oX 17 #[cyV (cyOf X), regsV (rgOf X), .bool (doneOf X)] (.bool (doneOf X)) <| oS ⟨L2, 0, none⟩ (cyV (cyOf X)) (stCy r2) ?_
  have r2' : Row (W'.setCells L2 0 (cyC (cyOf X)).toList) L2 28 (cyC (cyOf X)) := r2.setAll rfl
  have r3' := r3.setFar (by omega : L3 ≠ L2) (cyC (cyOf X)).toList 0
  have hb := Below.setCellsAll hb (b := L2) (by omega) (cyC (cyOf X)).toList 0
  refine oS ⟨L3, 0, none⟩ (regsV (rgOf X)) (stRow r3') ?_
  have r2' := r2'.setFar (by omega : L2 ≠ L3) (regsC (rgOf X)).toList 0
  have r3' : Row ((W'.setCells L2 0 (cyC (cyOf X)).toList).setCells L3 0 (regsC (rgOf X)).toList) L3 24 (regsC (rgOf X)) := r3'.setAll rfl
  have hb := Below.setCellsAll hb (b := L3) (by omega) (regsC (rgOf X)).toList 0
  refine oA 8 (.bool (doneOf X)) ?_
  refine endL ?_
  try simp only [Act.put, sA, sB, sC]
  refine thenN <| hK3 _ _ ?_
  refine wp_ret ?_
  exact bodyPost_ret (results_told rfl (by kernel_rfl) (by kernel_rfl) (by kernel_rfl) r2' r3') rfl ⟨by first | rfl | (rw [tellV_eq]; done) | (rw [e, tellV_eq]; done), hb⟩
def readsM (k : Int) : Bool := k == 1 || (k == 2 || k == 4)
def takesGo (rd : Int → Bool) (f : List Int → Cy × Bool) : Nat → List Int → List Int → Int → Int × List Int
  | 0, got, ans, n => (n, got)
  | k + 1, got, ans, n =>
    if (f got).2 = true then (n, got) else
    if rd (f got).1.kind = true then takesGo rd f k (got ++ [ans.headD 0]) ans.tail (n + (f got).1.t) else takesGo rd f k (got ++ [0]) ans (n + (f got).1.t)
def nextF (g : Rg) (xs : List Int) : Cy × Bool := (cyOf (nextOf g xs), doneOf (nextOf g xs))
def takesOf (g : Rg) (ans : List Int) : Int × List Int := takesGo readsM (nextF g) 200 [] ans 0
def g5 : Rg := { zeroRg with pc := 5 }
theorem ex_0 : nextOf g5 [] = .error ⟨1, 5, 0, 4⟩ := by rfl
theorem ex_1 : nextOf g5 [62] = .error ⟨2, 6, 0, 3⟩ := by rfl
theorem ex_2 : doneOf (nextOf g5 [62, 7]) = true ∧ rgOf (nextOf g5 [62, 7]) = { zeroRg with af := 1792, pc := 7, r := 1 } := by exact ⟨by rfl, by rfl⟩
theorem ex_3 : doneOf (afterOf g5 60 []) = true ∧ (rgOf (afterOf g5 60 [])).af = 256 := by exact ⟨by rfl, by decide +kernel⟩
theorem ex_4 : (takesOf g5 [62, 7]).1 = 7 ∧ (takesOf g5 [62, 7]).2.length = 2 := by exact ⟨by rfl, by rfl⟩
theorem regs_same (g : Rg) (w : World) : (Op.equalIn 10000 24 (regsV g) (regsV g)).run Tryz.prog w = .ok true w := by
  unfold regsV regsC
  rw [run_equalIn_agg (P := Tryz.prog) w 9999 24 _ _ (by kernel_rfl) (by kernel_rfl)]
  simp [go_sem]
theorem regs_eql (g : Rg) (w : World) : (binOp .eql 24 (regsV g) (regsV g)).run Tryz.prog w = .ok (.bool true) w := by
  have h := regs_same g w
  unfold regsV at *
  rw [run_eql_struct, h]
  rfl
theorem regs_neq (g : Rg) (w : World) : (binOp .neq 24 (regsV g) (regsV g)).run Tryz.prog w = .ok (.bool false) w := by
  have h := regs_same g w
  unfold regsV at *
  rw [run_neq_struct, h]
  rfl
theorem regs_guard (op : BinOp) (g h : Rg) (x y : Operand) (w : World) : (eqGuard op 24 x y (regsV g) (regsV h)).run Tryz.prog w = .ok () w := by
  unfold regsV
  exact run_eqGuard_agg (P := Tryz.prog) w op _ x y _ _ (by kernel_rfl)
theorem cells_list_new' (w : World) (cs : List Value) (t : TypeId) : ∀ j u, cs[j]? = some u → (w.alloc (.cells cs.toArray t)).cell? ((⟨w.heap.size, 0, none⟩ : Addr).add j) = some u := by
  intro j u hj
  have h := (Row.new w t cs.toArray).cell j
  have e : (⟨w.heap.size, 0, none⟩ : Addr).add j = ⟨w.heap.size, j, none⟩ := by
    unfold Addr.add
    split
    · rename_i h0; rw [h0]
    · simp
  rw [e, h]
  simpa using hj
theorem own_below {w w' : World} {b : Nat} {e : TypeId} {s : Nat} {v : Value} {n : Nat} {xs : List Value} (h : w.ownsRow b e s v n xs) (k : Below w.heap.size w w') : w'.ownsRow b e s v n xs := by
  refine h.kept (row := none) ⟨k.os, k.tape, k.output, k.size, fun i hi _ => k.block i hi⟩ ?_
  cases e2 : v.ownBlock with
  | none => exact .inl rfl
  | some g => exact .inr (by simp)
theorem grown_below {w W w1 : World} {base : Nat} {e : TypeId} {size : Nat} {v : Value} {n : Nat} {xs : List Value} (h : Below w.heap.size w W) (hg : W.grownBy w1 v.ownBlock) (ho : W.ownsRow base e size v n xs) (hb : w.heap.size ≤ base) : Below w.heap.size w w1 :=
  h.grown hg h.size (fun k e => Nat.le_trans hb (ho.lt k e).1)
def bvs (l : List Int) : List Value := l.map fun x => .int .u8 x
theorem u8_info : (Tryz.prog.info? 5).map (fun i => (i.zero, i.size, i.bytes)) = some (some (.int .u8 0), 1, 1) := by kernel_rfl
theorem bvs_one (l : List Int) : ∀ u ∈ bvs l, u.oneCell' = true := by
  intro u hu
  unfold bvs at hu
  rw [List.mem_map] at hu
  obtain ⟨x, -, rfl⟩ := hu
  rfl
theorem bvs_append (l m : List Int) : bvs l ++ bvs m = bvs (l ++ m) := by simp [bvs]
theorem bvs_length (l : List Int) : (bvs l).length = l.length := by simp [bvs]
theorem own_bytes {w : World} {b n c : Nat} {Av : Option Addr} {l : List Int} (h : w.ownsRow b 5 1 (.slice Av n c) n (bvs l)) : BytesIn w w.heap.size Av l := by
  rcases h.2 with ⟨e1, e2⟩ | ⟨g, cap, cur, e1, -, hh, -⟩
  · have h1 := h.1
    rw [bvs_length, e2] at h1
    obtain rfl : l = [] := List.eq_nil_of_length_eq_zero (by omega)
    exact BytesIn.nil _ _ _
  · injection e1 with e3 e4 e5
    subst e3
    intro j x hx
    refine ⟨_, rfl, (Array.getElem?_eq_some_iff.1 hh).1, h.cells (g := g) rfl j _ ?_⟩
    unfold bvs
    rw [List.getElem?_map, hx]
    rfl
theorem wpList_append_bytes {ops : Array Oper} {rest : List Oper} {o : Oper} {a : Act} {w : World} {Q : Exit → Act → World → Prop} (hgd : o.guard = none) (s x : Operand)
    (ho : o.op = .call { callee := .builtin .append, args := #[s, x], argTypes := #[25, 25] })
    (w0 : World) (base B : Nat) (hB : Below w0.heap.size w0 w) (hb0 : w0.heap.size ≤ base) (hbase : base ≤ w.heap.size)
    (v : Value) (n : Nat) (l : List Int) (hs : a.eval s = v) (hown : w.ownsRow base 5 1 v n (bvs l))
    (A : Option Addr) (c : Nat) (ys : List Int) (hx : a.eval x = .slice A ys.length c) (hy : BytesIn w B A ys) (hn : A = none → c = 0) (hmax : n + ys.length ≤ 140737488355328)
    (h : ∀ v' w', w'.ownsRow base 5 1 v' (n + ys.length) (bvs (l ++ ys)) → Below w0.heap.size w0 w' → base ≤ w'.heap.size → wpList Tryz.prog ops Q rest (a.put o.dst v') w') :
    wpList Tryz.prog ops Q (o :: rest) a w := by
  obtain ⟨i0, hi0, hz0, hz1, hz2⟩ := info_parts u8_info
  rcases A with _ | p
  · obtain rfl := hn rfl
    have hy0 : ys = [] := by
      cases ys with
      | nil => rfl
      | cons y ys' =>
        obtain ⟨ad, e, -⟩ := hy 0 y rfl
        cases e
    subst hy0
    refine wpList_append_own_none hgd s x _ ho base 5 i0 1 Tryz.underlying25 hi0 v n (bvs l) hs hown hx ?_
    exact h v w (by simpa using hown) hB hbase
  · refine wpList_append_own_at _ hgd s x _ ho base 5 i0 _ 1 1 Tryz.underlying25 hi0 hz0 hz1 hz2 rfl (by omega) v n (bvs l) hs hown p ys.length c (bvs ys) hx (by rw [bvs_length]; omega) (fun j u hj => ?_) (bvs_one ys) (by simp only [maxLen]; omega) (by omega) hbase ?_
    · unfold bvs at hj
      rw [List.getElem?_map] at hj
      obtain ⟨y, hy1, hy2⟩ := Option.map_eq_some_iff.1 hj
      obtain ⟨ad, e1, -, e2⟩ := hy j y hy1
      cases e1
      rw [e2, ← hy2]
    · intro v' w' own' hg _ _
      rw [bvs_append] at own'
      exact h v' w' own' (grown_below hB hg hown hb0) (Nat.le_trans hbase hg.size)
theorem own_slice {W : World} {b n : Nat} {v : Value} {l : List Int} (h : W.ownsRow b 5 1 v n (bvs l)) : ∃ A c, v = .slice A n c ∧ n ≤ c ∧ BytesIn W W.heap.size A l ∧ (A = none → c = 0) := by
  rcases h.2 with ⟨e1, e2⟩ | ⟨g, c, cur, e1, -, -, hle, -⟩
  · subst e1 e2
    exact ⟨none, 0, rfl, Nat.le_refl _, own_bytes h, fun _ => rfl⟩
  · subst e1
    exact ⟨_, c, rfl, hle, own_bytes h, fun e => by cases e⟩
theorem byte_new (w : World) (b : Int) (t : TypeId) : BytesIn (w.alloc (.cells #[.int .u8 b] t)) (w.heap.size + 1) (some ⟨w.heap.size, 0, none⟩) [b] := fun j x hx => by
  obtain ⟨rfl, rfl⟩ : j = 0 ∧ x = b := by
    cases j with
    | zero => simp at hx; exact ⟨rfl, hx.symm⟩
    | succ j => simp at hx
  exact ⟨_, rfl, by simp, cells_list_new' w [.int .u8 x] t 0 _ rfl⟩
theorem cy_same (c : Cy) (w : World) : (Op.equalIn 10000 28 (cyV c) (cyV c)).run Tryz.prog w = .ok true w := by
  unfold cyV cyC
  rw [run_equalIn_agg (P := Tryz.prog) w 9999 28 _ _ (by kernel_rfl) (by kernel_rfl)]
  simp [go_sem]
theorem cy_eql (c : Cy) (w : World) : (binOp .eql 28 (cyV c) (cyV c)).run Tryz.prog w = .ok (.bool true) w := by
  have h := cy_same c w
  unfold cyV at *
  rw [run_eql_struct, h]
  rfl
theorem cy_neq (c : Cy) (w : World) : (binOp .neq 28 (cyV c) (cyV c)).run Tryz.prog w = .ok (.bool false) w := by
  have h := cy_same c w
  unfold cyV at *
  rw [run_neq_struct, h]
  rfl
theorem cy_guard (op : BinOp) (c d : Cy) (x y : Operand) (w : World) : (eqGuard op 28 x y (cyV c) (cyV d)).run Tryz.prog w = .ok () w := by
  unfold cyV
  exact run_eqGuard_agg (P := Tryz.prog) w op _ x y _ _ (by kernel_rfl)
structure NextTabs (w : World) : Prop where
  masks : Masks w
  courses : Courses w
  digits : Digits w
  modes : Modes w
theorem NextTabs.tabs {w : World} (h : NextTabs w) : Tabs w w.heap.size :=
  ⟨h.masks, h.courses, h.digits, h.modes, World.block_lt_of_cell? _ _ h.masks.1, World.block_lt_of_cell? _ _ h.courses.1, World.block_lt_of_cell? _ _ h.digits.1, World.block_lt_of_cell? _ _ h.modes.1⟩
theorem Tabs.more {w : World} {B B' : Nat} (h : Tabs w B) (k : B ≤ B') : Tabs w B' := ⟨h.masks, h.courses, h.digits, h.modes, Nat.lt_of_lt_of_le h.gMasks k, Nat.lt_of_lt_of_le h.gCourses k, Nat.lt_of_lt_of_le h.gDigits k, Nat.lt_of_lt_of_le h.gModes k⟩
theorem Tabs.below {w w' : World} (h : Tabs w w.heap.size) (k : Below w.heap.size w w') : Tabs w' w'.heap.size := (h.keep fun b hb => k.block b hb).more k.size
theorem next_hid (g : Rg) (hg : RgB g) (A : Option Addr) (cap : Nat) (xs : List Int) (hc : xs.length ≤ cap) (h8 : Bytes8 xs) (w : World) (hin : BytesIn w w.heap.size A xs) (ht : Tabs w w.heap.size) :
    ∀ W, Below w.heap.size w W → Calls Tryz.prog 12 #[regsV g, .slice A xs.length cap] W fun e w' => e = .returned (.tuple #[cyV (cyOf (nextOf g xs)), regsV (rgOf (nextOf g xs)), .bool (doneOf (nextOf g xs))]) ∧ Below W.heap.size W w' := fun W hW => by
  have h := nnext_any g hg A cap xs hc h8 W ((hin.below hW).more hW.size) (ht.below hW)
  rwa [tellV_eq] at h
theorem after_hid (g : Rg) (hg : RgB g) (c : Int) (hcb : B8 c) (A : Option Addr) (cap : Nat) (xs : List Int) (hc : xs.length ≤ cap) (h8 : Bytes8 xs) (w : World) (hin : BytesIn w w.heap.size A xs) (ht : Tabs w w.heap.size) :
    ∀ W, Below w.heap.size w W → Calls Tryz.prog 14 #[regsV g, .int .u8 c, .slice A xs.length cap] W fun e w' => e = .returned (.tuple #[cyV (cyOf (afterOf g c xs)), regsV (rgOf (afterOf g c xs)), .bool (doneOf (afterOf g c xs))]) ∧ Below W.heap.size W w' := fun W hW => by
  have h := nafter_any g hg c hcb A cap xs hc h8 W ((hin.below hW).more hW.size) (ht.below hW)
  rwa [tellV_eq] at h
theorem Row.at {w : World} {g : Nat} {t : TypeId} {cs : Array Value} (h : Row w g t cs) (i : Nat) (V : Value) (e : cs[i]? = some V := by exact rfl) : w.cell? ⟨g, i, none⟩ = some V := (h.cell i).trans e
section
variable {P : Program} {a : Act} {o : Oper} {x y : Operand} {V W R : Value}
theorem heBS {t : TypeId} {n : Nat} {parts : Array (Nat × Operand)} {ps : Array (Nat × Value)} {w w' : World} (ho : o.op = .buildSlice t n parts) (hx : (parts.map fun (i, x) => (i, a.eval x)) = ps) (h : (Instr.buildSlice t n ps).run P w = .ok V w') : (execOp a.eval o).run P w = .ok (.value V) w' := by
  unfold execOp
  simp only [ho, hx, Sem.run_bind, Sem.run_pure, h, Result.andThen_ok]
theorem heSlice {t : TypeId} {lo hi mx : Option Operand} {l m n : Option Value} {w : World} (ho : o.op = .slice t x lo hi mx) (hx : a.eval x = V) (hl : lo.map a.eval = l) (hh : hi.map a.eval = m) (hm : mx.map a.eval = n) (h : (Instr.sliceAt t V l m n).run P w = .ok R w) : (execOp a.eval o).run P w = .ok (.value R) w := by
  unfold execOp
  simp only [ho, hx, hl, hh, hm, Sem.run_bind, Sem.run_pure, h, Result.andThen_ok]
end
theorem slTo (A : Option Addr) (n c k : Nat) (h : k ≤ c) (w : World) : (Instr.sliceAt 25 (.slice A n c) none (some (.int .i64 (k : Int))) none).run Tryz.prog w = .ok (.slice A k c) w := by
  have h1 : ¬ ((k : Int) < 0) := by omega
  have h2 : ¬ (c < k) := by omega
  simp [go_sem, h1, h2]
theorem slFrom1 (A : Option Addr) (n c : Nat) (h : 1 ≤ n) (hc : n ≤ c) (w : World) : (Instr.sliceAt 25 (.slice A n c) (some (.int .i64 1)) none none).run Tryz.prog w = .ok (.slice (if c = 1 then A else A.map (·.add 1)) (n - 1) (c - 1)) w := by
  have h1 : ¬ ((n : Int) < 1) := by omega
  simp [go_sem, h1]
theorem bs1 (b : Int) (w : World) : (Instr.buildSlice 25 1 #[(0, .int .u8 b)]).run Tryz.prog w = .ok (.slice (some ⟨w.heap.size, 0, none⟩) 1 1) (w.alloc (.cells #[.int .u8 b] 5)) := by simp [go_sem]
theorem bs2 (b c : Int) (w : World) : (Instr.buildSlice 25 2 #[(0, .int .u8 b), (1, .int .u8 c)]).run Tryz.prog w = .ok (.slice (some ⟨w.heap.size, 0, none⟩) 2 2) (w.alloc (.cells #[.int .u8 b, .int .u8 c] 5)) := by simp [go_sem]
theorem fC0 (b : Nat) (w : World) : (Instr.fieldAt 28 (pT b 0) 0).run Tryz.prog w = .ok (pT b 0) w := by simp [go_sem]
theorem fC3 (b : Nat) (w : World) : (Instr.fieldAt 28 (pT b 0) 3).run Tryz.prog w = .ok (pT b 3) w := by simp [go_sem]
theorem ix0 (ad : Addr) (n c : Nat) (h : 1 ≤ n) (w : World) : (Instr.indexAt 25 (.slice (some ad) n c) (.int .i64 0)).run Tryz.prog w = .ok (.pointer (some (ad.add 0))) w := by
  have h1 : 0 < n := h
  simp [go_sem, h1]
theorem ixk (ad : Addr) (n c k : Nat) (h : k < n) (w : World) : (Instr.indexAt 25 (.slice (some ad) n c) (.int .i64 (k : Int))).run Tryz.prog w = .ok (.pointer (some (ad.add k))) w := by
  have h1 : ¬ ((k : Int) < 0) := by omega
  simp [go_sem, h1, h]
theorem egB (op : BinOp) (x y : Operand) (a b : Bool) (w : World) : (eqGuard op 4 x y (.bool a) (.bool b)).run Tryz.prog w = .ok () w := by simp [go_sem]
theorem bNeB0 (x : Bool) (w : World) : (binOp .neq 4 (.bool x) (.bool x)).run Tryz.prog w = .ok (.bool false) w := by simp [go_sem]
theorem bEq16 (x y : Int) (w : World) : (binOp .eql 22 (.int .u16 x) (.int .u16 y)).run Tryz.prog w = .ok (.bool (x == y)) w := by simp [go_sem]
theorem bLeI' (x y : Int) (w : World) : (binOp .leq 3 (.int .i64 x) (.int .i64 y)).run Tryz.prog w = .ok (.bool (decide (x ≤ y))) w := by simp [go_sem]
theorem bGtI' (x y : Int) (w : World) : (binOp .gtr 3 (.int .i64 x) (.int .i64 y)).run Tryz.prog w = .ok (.bool (decide (y < x))) w := by simp [go_sem]
theorem bAddI' (x y : Int) (h : -9223372036854775808 ≤ x + y) (h' : x + y ≤ 9223372036854775807) (w : World) : (binOp .add 3 (.int .i64 x) (.int .i64 y)).run Tryz.prog w = .ok (.int .i64 (x + y)) w := by
  have e : IntKind.i64.wrap (x + y) = x + y := by rw [IntKind.wrap_i64]; omega
  simp [go_sem, e]
theorem bInc (n : Nat) (h : n ≤ 1000000000) (w : World) : (binOp .add 3 (.int .i64 (n : Int)) (.int .i64 1)).run Tryz.prog w = .ok (.int .i64 ((n + 1 : Nat) : Int)) w := by
  have e : IntKind.i64.wrap ((n : Int) + 1) = ((n + 1 : Nat) : Int) := by rw [IntKind.wrap_i64]; omega
  simp [go_sem, e]
theorem blockO {Q : Exit → Act → World → Prop} {a : Act} {w : World} {i j : Nat} (hne : j ≠ i) (h : Q (.exit j) a w) : Exit.inBlock i Q (.exit j) a w := by simp only [Exit.inBlock, if_neg hne]; exact h
def lenV : Value → Nat | .slice _ n _ => n | _ => 0
def intV : Value → Nat | .int _ x => x.toNat | _ => 0
section
variable {P : Program} {ops : Array Oper} {Q : Exit → Act → World → Prop} {a : Act} {w : World} {o : Oper} {rest : List Oper} {x y : Operand} {t : TypeId}
theorem oW (d : Tmp) (V R : Value) {op : UnOp} (hb : ∀ w, (Op.unary op V).run P w = .ok R w) (h : WL P ops Q rest (a.put (some d) R) w) (hd : o.dst = some d := by exact rfl) (hg : o.guard = none := by exact rfl) (ho : o.op = .unOp op t x := by exact rfl) (hx : a.eval x = V := by kernel_rfl) : WL P ops Q (o :: rest) a w := sUn d V R hd hg ho hx hb h
theorem oV (d : Tmp) (n : Nat) (cs : Array Value) (e : TypeId) (ps : Array (Nat × Value)) {parts : Array (Nat × Operand)} (hl : (Instr.buildSlice t n ps).run P w = .ok (.slice (some ⟨w.heap.size, 0, none⟩) n n) (w.alloc (.cells cs e))) (h : WL P ops Q rest (a.put (some d) (.slice (some ⟨w.heap.size, 0, none⟩) n n)) (w.alloc (.cells cs e)))
    (hd : o.dst = some d := by exact rfl) (hg : o.guard = none := by exact rfl) (ho : o.op = .buildSlice t n parts := by exact rfl) (hx : (parts.map fun (i, x) => (i, a.eval x)) = ps := by kernel_rfl) : WL P ops Q (o :: rest) a w := list_make d _ hd (wantedN hg) (heBS ho hx hl) h
end
theorem oE {ops : Array Oper} {Q : Exit → Act → World → Prop} {a : Act} {w : World} {o : Oper} {rest : List Oper} {s x : Operand} (w0 : World) (base : Nat) {B : Nat} {v : Value} {n : Nat} {l : List Int} {A : Option Addr} {c : Nat} (ys : List Int) (hB : Below w0.heap.size w0 w) (hb0 : w0.heap.size ≤ base) (hbase : base ≤ w.heap.size) (hown : w.ownsRow base 5 1 v n (bvs l)) (hy : BytesIn w B A ys) (hn : A = none → c = 0) (hmax : n + ys.length ≤ 140737488355328)
    (h : ∀ v' w', w'.ownsRow base 5 1 v' (n + ys.length) (bvs (l ++ ys)) → Below w0.heap.size w0 w' → base ≤ w'.heap.size → WL Tryz.prog ops Q rest (a.put o.dst v') w')
    (hg : o.guard = none := by exact rfl) (ho : o.op = .call { callee := .builtin .append, args := #[s, x], argTypes := #[25, 25] } := by exact rfl) (hs : a.eval s = v := by kernel_rfl) (hx : a.eval x = .slice A ys.length c := by kernel_rfl) : WL Tryz.prog ops Q (o :: rest) a w :=
  ⟨wpList_append_bytes hg s x ho w0 base B hB hb0 hbase v n l hs hown A c ys hx hy hn hmax fun v' w' h1 h2 h3 => (h v' w' h1 h2 h3).h⟩
theorem bEqI0 (x : Int) (w : World) : (binOp .eql 3 (.int .i64 x) (.int .i64 x)).run Tryz.prog w = .ok (.bool true) w := by simp [go_sem]
section
variable {P : Program} {ops : Array Oper} {Q : Exit → Act → World → Prop} {md : Region.Mode} {S : World → Prop} {fuel : Nat} {listed : Array Bool} {a : Act} {w : World}
theorem heldTake {i : Nat} {o : Oper} (d : Tmp) (v : Value) (hd : o.dst = some d) (ho : ops[i]? = some o) (hs : Region.noSelect ops = true) (hf : Region.free md ops listed i = true) (hr : (Region.ready md ops listed).contains i = true)
    (hQ : ∀ c a w, Q (.panic c) (a.put o.dst v) w → Q (.panic c) a w) (hw : Region.wanted o (yielded ops a.tmps) = true) (he : ∀ w, S w → (execOp a.eval o).run P w = .ok (.value v) w) (hS : S w)
    (h : wpAnyH P md ops Q S fuel (listed.setIfInBounds i true) (a.put (some d) v) w) : wpAnyH P md ops Q S (fuel + 1) listed a w :=
  wpAnyH_take ho hs hf hr hQ (.inl ⟨hw, he⟩) hS (by rw [hd]; exact h)
theorem held_start {id : Nat} (S : World → Prop) (hm : P.follows .mixedOrders = true) (hk : ∀ w', S w' → S w'.drew) (hS : S w)
    (h : ∀ w', S w' → wpAnyH P .any ops Q S ops.size (Array.replicate ops.size false) a w') : (Code.region id ops true).wp P Q a w :=
  wp_region_held_drew (S := S) hm (hk w hS) (fun hS' => h _ hS')
end
theorem reads_any (k : Int) (w : World) : Calls Tryz.prog 32 #[.int .i64 k] w (fun e w' => e = .returned (.bool (readsM k)) ∧ Below w.heap.size w w') := by
  unfold readsM
  go_enter Tryz.func32, Tryz.ntmps32
  go_wp2_with fail
  · rename_i h; subst h; exact retI 2 (.bool true) rfl rfl rfl ⟨rfl, Below.refl ..⟩
  · rename_i h; subst h; exact retI 2 (.bool true) rfl rfl rfl ⟨rfl, Below.refl ..⟩
  · refine retI 2 (.bool (k == 1 || k == 2 || k == 4)) rfl rfl rfl ⟨?_, Below.refl ..⟩
    rw [Bool.or_assoc]
def Tr.Depth {α : Type} : Tr α → Nat → Prop
  | .done _, _ => True
  | .ask _ _, 0 => False
  | .ask _ k, d + 1 => ∀ b, (k b).Depth d
theorem Tr.depth_done {α : Type} (a : α) (d : Nat) : (Tr.done a).Depth d := by cases d <;> exact trivial
theorem Tr.Depth.mono {α : Type} {t : Tr α} : ∀ {m n : Nat}, t.Depth m → m ≤ n → t.Depth n := by
  induction t with
  | done a => intro m n _ _; exact Tr.depth_done _ _
  | ask c k ih =>
    intro m n h hmn
    cases m with
    | zero => exact h.elim
    | succ m =>
      cases n with
      | zero => omega
      | succ n => exact fun b => ih b (h b) (by omega)
theorem Tr.Depth.bind {α β : Type} {t : Tr α} {f : α → Tr β} : ∀ {m n : Nat}, t.Depth m → (∀ a, (f a).Depth n) → (t.bind f).Depth (m + n) := by
  induction t with
  | done a => intro m n _ hf; exact (hf a).mono (by omega)
  | ask c k ih =>
    intro m n h hf
    cases m with
    | zero => exact h.elim
    | succ m =>
      rw [show m + 1 + n = (m + n) + 1 by omega]
      exact fun b => ih b (h b) hf
def CyK (c : Cy) : Prop := 1 ≤ c.kind ∧ c.kind ≤ 7 ∧ c.kind ≠ 6 ∧ 1 ≤ c.t ∧ c.t ≤ 7 ∧ (c.kind ≠ 3 → c.kind ≠ 5 → c.data = 0)
def Tr.Deaf {α : Type} : Tr α → Prop
  | .done _ => True
  | .ask c k => CyK c ∧ (c.kind = 3 ∨ c.kind = 5 ∨ c.kind = 7 → ∀ b b', k b = k b') ∧ ∀ b, (k b).Deaf
theorem Tr.Deaf.bind {α β : Type} {t : Tr α} {f : α → Tr β} (h : t.Deaf) (hf : ∀ a, (f a).Deaf) : (t.bind f).Deaf := by
  induction t with
  | done a => exact hf a
  | ask c k ih => exact ⟨h.1, fun hk b b' => by show (k b).bind f = (k b').bind f; rw [h.2.1 hk b b'], fun b => ih b (h.2.2 b)⟩
theorem Tr.Deaf.run {α : Type} {t : Tr α} (h : t.Deaf) : ∀ {xs : List Int} {c : Cy}, t.run xs = .error c → (c.kind = 3 ∨ c.kind = 5 ∨ c.kind = 7) → ∀ b b' zs, t.run (xs ++ b :: zs) = t.run (xs ++ b' :: zs) := by
  induction t with
  | done a => intro xs c e; rw [Tr.run_done] at e; cases e
  | ask c k ih =>
    intro xs c' e hk b b' zs
    cases xs with
    | nil =>
      rw [Tr.run_nil] at e
      injection e with e; subst e
      show (k b).run zs = (k b').run zs
      rw [h.2.1 hk b b']
    | cons x xs => exact ih x (h.2.2 x) e hk b b' zs
theorem Tr.Deaf.error {α : Type} {t : Tr α} (h : t.Deaf) : ∀ {xs : List Int} {c : Cy}, t.run xs = .error c → CyK c := by
  induction t with
  | done a => intro xs c e; rw [Tr.run_done] at e; cases e
  | ask c k ih =>
    intro xs c' e
    cases xs with
    | nil =>
      rw [Tr.run_nil] at e
      injection e with e; subst e
      exact h.1
    | cons x xs => exact ih x (h.2.2 x) e
end Go.Proofs.YtibmpaeaicpbcaaGreatDoor
