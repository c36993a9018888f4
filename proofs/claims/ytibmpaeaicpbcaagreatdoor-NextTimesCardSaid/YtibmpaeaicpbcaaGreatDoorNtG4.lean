/- Contracts and facts that the claim's proof wants (several texts in one). -/
import Derived.Defers
import Derived.Recover
import Derived.RowKit
import Derived.Test.YtibmpaeaicpbcaaGreatDoorNtG1
import Derived.Test.YtibmpaeaicpbcaaGreatDoorNtG3
namespace Go.Proofs.YtibmpaeaicpbcaaGreatDoor
open Go.RowKit
set_option linter.unusedVariables false
set_option linter.unusedSimpArgs false
set_option maxRecDepth 20000 in
set_option maxHeartbeats 4000000 in
theorem m_takeIn  {s : Ms} {xs : List Int} {w : World} {p B : Nat} (h : AtN w p B s xs) :
    Calls Tryz.prog 109 #[pT p 0] w (OutV w p B ((takeInN s).run xs)) := by
 have hn := NowN.begin h
 have hr : (takeInN s).run xs = (takeInN s).run xs := rfl
 go_enter Tryz.func109, Tryz.ntmps109
 refine coStart <| have b2 := hn.at_.ms.r.bc; coR <| nR 6 hn <| nI (m_in s.r.bc (b2) hn.at_) hn hr <| fun v3 s3 xs3 w3 hk3 hn hr => nE hn <| have b5 := hn.at_.ms.r.bc; nQs hn (.u_wz _ ((s3.r.bc + 1) % 65536)) (hn.at_.ms.u_wz (Wd16.mod _)) <| fun w6 hn => coR <| nR 2 hn <| nB (evenF_any v3 (hk3).1 (hk3).2 _) hn <| fun w8 hn => nR 1 hn <| nA (m_carry hn.at_) hn <| fun w9 hn => kBj 25 (.int .u8 (evenFM v3)) (.int .u8 ((s3.u_wz ((s3.r.bc + 1) % 65536)).carry)) (.int .u8 (withM (evenFM v3) 0 (isM (s3.u_wz ((s3.r.bc + 1) % 65536)).f 0))) (eg8 _ _ _ _ _) (bOrEven _ _) <| nA (m_setF (withM (evenFM v3) 0 (isM (s3.u_wz ((s3.r.bc + 1) % 65536)).f 0)) (B8.with (evenFM_byte _) _ _) hn.at_) hn <| fun w10 hn => wT <| nQ hn <| coI ((((s3.u_wz ((s3.r.bc + 1) % 65536)).setF (withM (evenFM v3) 0 (isM (s3.u_wz ((s3.r.bc + 1) % 65536)).f 0))).y) != 6) (fun h12 => ?_) fun h12 => ?_
 · have g12 : ¬ (((s3.u_wz ((s3.r.bc + 1) % 65536)).setF (withM (evenFM v3) 0 (isM (s3.u_wz ((s3.r.bc + 1) % 65536)).f 0))).y) = 6 := by simpa using h12
   exact have hr := hr.trans (run_if_neg g12); coZ <| nR 6 hn <| nVt (m_put (((s3.u_wz ((s3.r.bc + 1) % 65536)).setF (withM (evenFM v3) 0 (isM (s3.u_wz ((s3.r.bc + 1) % 65536)).f 0))).y) v3 (hk3) hn.at_) hn hr <| fun s13 xs13 w13 hn hr => woE <| eoV (OutV.ok (dN hr) hn)
 have g12 : (((s3.u_wz ((s3.r.bc + 1) % 65536)).setF (withM (evenFM v3) 0 (isM (s3.u_wz ((s3.r.bc + 1) % 65536)).f 0))).y) = 6 := by simpa using h12
 exact have hr := hr.trans (run_if_pos g12); coSkip <| eoV (OutV.ok (dN hr) hn)
set_option maxRecDepth 20000 in
set_option maxHeartbeats 4000000 in
theorem m_giveOut  {s : Ms} {xs : List Int} {w : World} {p B : Nat} (h : AtN w p B s xs) :
    Calls Tryz.prog 110 #[pT p 0] w (OutV w p B ((giveOutN s).run xs)) := by
 have hn := NowN.begin h
 have hr : (giveOutN s).run xs = (giveOutN s).run xs := rfl
 go_enter Tryz.func110, Tryz.ntmps110
 refine coStart <| nQ hn <| coS <| nQ hn <| coI (s.y != 6) (fun h4 => ?_) fun h4 => ?_
 · have g4 : ¬ s.y = 6 := by simpa using h4
   exact have hr := hr.trans (run_bif_neg g4); coZ <| nR 5 hn <| nI (m_get s.y hn.at_) hn hr <| fun v5 s5 xs5 w5 hk5 hn hr => nE hn <| have b7 := hn.at_.ms.r.bc; coR <| nR 7 hn <| nV (m_out s5.r.bc (b7) v5 (hk5) hn.at_) hn hr <| fun s8 xs8 w8 hn hr => wT <| have b9 := hn.at_.ms.r.bc; coZ <| nFs hn (.u_wz _ ((s8.r.bc + 1) % 65536)) (hn.at_.ms.u_wz (Wd16.mod _)) <| fun w10 hn => eoV (OutV.ok (dN hr) hn)
 have g4 : s.y = 6 := by simpa using h4
 exact have hr := hr.trans (run_bif_pos g4); coSkip <| eoT <| have b12 := hn.at_.ms.r.bc; coR <| nR 7 hn <| nV (m_out s.r.bc (b12) 0 (⟨by decide, by decide⟩) hn.at_) hn hr <| fun s13 xs13 w13 hn hr => wT <| have b14 := hn.at_.ms.r.bc; coZ <| nFs hn (.u_wz _ ((s13.r.bc + 1) % 65536)) (hn.at_.ms.u_wz (Wd16.mod _)) <| fun w15 hn => eoV (OutV.ok (dN hr) hn)
set_option maxRecDepth 20000 in
set_option maxHeartbeats 4000000 in
theorem m_addCarried  {s : Ms} {xs : List Int} {w : World} {p B : Nat} (h : AtN w p B s xs) :
    Calls Tryz.prog 111 #[pT p 0] w (OutV w p B ((addCarriedN s).run xs)) := by
  have hn := NowN.begin h
  have hr : (addCarriedN s).run xs = (addCarriedN s).run xs := rfl
  go_enter Tryz.func111, Tryz.ntmps111
  refine wp_seq_k fun K1 hK1 => regionL <| oM 3 (pT p 0) ?_
  refine sCallV hn rfl (by kernel_rfl) (m_pause 7 hn.at_) (fun _ _ hX hb => thenX (panicP rfl (OutV.err (hr.trans (Tr.run_bind_error hX _)) hb))) ?_
  intro s2 xs2 w2 hX hn
  have hr := hr.trans (Tr.run_bind_ok hX _)
  refine endL ?_
  try simp only [Act.put, sA, sB, sC]
  refine thenN <| hK1 _ _ <| wp_seq_k fun K3 hK3 => regionL <| oM 5 (pT p 0) <| oM 6 (pT p 0) <| oN 7 p 0 <| oF 8 (fM0 p) <| oF 9 (fR3 p) ?_
  have b4 := hn.at_.ms.r.hl
  refine oL 10 (ld16 (hn.at_.cell 3 (.int .u16 (s2.r.hl)) fun _ _ _ => rfl)) <| oB 11 (eg16 _ _ _ _ _) (bAdd16 s2.r.hl 1) <| oN 12 p 0 <| oF 13 (fM0 p) <| oF 14 (fR12 p) ?_
  refine sSetN hn 12 (.int .u16 ((s2.r.hl + 1) % 65536)) (s2.u_wz ((s2.r.hl + 1) % 65536)) rfl rfl rfl (by kernel_rfl) (by kernel_rfl) (st16 (hn.at_.cell 12 _ fun _ _ _ => rfl) (hn.at_.frozen 12)) (mu_wz _ _) (hn.at_.ms.u_wz (Wd16.mod _)) ?_
  intro w5 hn
  refine endL ?_
  try simp only [Act.put, sA, sB, sC]
  refine thenN <| hK3 _ _ <| wp_seq_k fun K6 hK6 => regionL <| oA 2 (.int .u8 (0)) ?_
  refine endL ?_
  try simp only [Act.put, sA, sB, sC]
  refine thenN <| hK6 _ _ <| wp_seq_k fun K7 hK7 => wp_seq_k fun K8 hK8 => regionL <| oM 15 (pT p 0) <| oN 16 p 0 <| oF 17 (fM7 p) <| oL 18 (ldI (hn.at_.cell 26 (.int .i64 ((s2.u_wz ((s2.r.hl + 1) % 65536)).q)) fun _ _ _ => rfl)) <| oB 19 (egI _ _ _ _ _) (bEqI ((s2.u_wz ((s2.r.hl + 1) % 65536)).q) 0) ?_
  refine endL ?_
  try simp only [Act.put, sA, sB, sC]
  refine thenN <| hK8 _ _ ?_
  refine wp_cond_split (t := ((s2.u_wz ((s2.r.hl + 1) % 65536)).q) == 0) (by kernel_rfl) (fun h9 => ?_) (fun h9 => ?_)
  · skip
    have g9 : ((s2.u_wz ((s2.r.hl + 1) % 65536)).q) = 0 := by simpa using h9
    have hr := hr.trans (run_if_pos g9)
    refine turn_start 17 18 (fun w' => NowN w p B (s2.u_wz ((s2.r.hl + 1) % 65536)) xs2 w') (by kernel_rfl) (by kernel_rfl) hn.drew ?_
    intro w10 _ hS
    have hn := hS
    refine turn_take (i := 0) 21 (pT p 0) rfl rfl (by kernel_rfl) (by kernel_rfl) (by kernel_rfl) (by kernel_rfl) (by kernel_rfl) (fun _ _ _ h => h) (by kernel_rfl) (fun w hS => heMove (.inl rfl) (by kernel_rfl) w) hS ?_
    refine turn_take (i := 1) 22 (pT p 0) rfl rfl (by kernel_rfl) (by kernel_rfl) (by kernel_rfl) (by kernel_rfl) (by kernel_rfl) (fun _ _ _ h => h) (by kernel_rfl) (fun w hS => heMove (.inl rfl) (by kernel_rfl) w) hS ?_
    refine turn_take (i := 2) 23 (pT p 0) rfl rfl (by kernel_rfl) (by kernel_rfl) (by kernel_rfl) (by kernel_rfl) (by kernel_rfl) (fun _ _ _ h => h) (by kernel_rfl) (fun w hS => heNil (ad := ⟨p, 0, none⟩) rfl (by kernel_rfl) w) hS ?_
    refine turn_take (i := 3) 24 (pT p 0) rfl rfl (by kernel_rfl) (by kernel_rfl) (by kernel_rfl) (by kernel_rfl) (by kernel_rfl) (fun _ _ _ h => h) (by kernel_rfl) (fun w hS => heField (V := pT p 0) (R := pT p 0) rfl (by kernel_rfl) (fM0 p) w) hS ?_
    refine turn_take (i := 4) 25 (pT p 3) rfl rfl (by kernel_rfl) (by kernel_rfl) (by kernel_rfl) (by kernel_rfl) (by kernel_rfl) (fun _ _ _ h => h) (by kernel_rfl) (fun w hS => heField (V := pT p 0) (R := pT p 3) rfl (by kernel_rfl) (fR3 p) w) hS ?_
    have b11 := hn.at_.ms.r.hl
    refine turn_take (i := 5) 26 (.int .u16 ((s2.u_wz ((s2.r.hl + 1) % 65536)).r.hl)) rfl rfl (by kernel_rfl) (by kernel_rfl) (by kernel_rfl) (by kernel_rfl) (by kernel_rfl) (fun _ _ _ h => h) (by kernel_rfl) (fun w hS => heLoad rfl (by kernel_rfl) (ld16 (hS.at_.cell 3 (.int .u16 ((s2.u_wz ((s2.r.hl + 1) % 65536)).r.hl)) fun _ _ _ => rfl))) hS ?_
    refine turn_take (i := 6) 27 (pT p 0) rfl rfl (by kernel_rfl) (by kernel_rfl) (by kernel_rfl) (by kernel_rfl) (by kernel_rfl) (fun _ _ _ h => h) (by kernel_rfl) (fun w hS => heMove (.inl rfl) (by kernel_rfl) w) hS ?_
    refine turn_take (i := 8) 29 (pT p 0) rfl rfl (by kernel_rfl) (by kernel_rfl) (by kernel_rfl) (by kernel_rfl) (by kernel_rfl) (fun _ _ _ h => h) (by kernel_rfl) (fun w hS => heMove (.inl rfl) (by kernel_rfl) w) hS ?_
    have b12 := pair_word hn.at_.ms
    refine turnO (i := 7) (.int .u16 ((s2.u_wz ((s2.r.hl + 1) % 65536)).pair)) rfl (by kernel_rfl) (by kernel_rfl) (by kernel_rfl) (by kernel_rfl) (m_pair  hn.at_) (fun w' hk => hS.after hk) ?_
    intro w13 hk
    have hn := hn.after hk
    have hS := hn
    have b14 := f_byte hn.at_.ms
    refine turnO (i := 9) (.int .u8 ((s2.u_wz ((s2.r.hl + 1) % 65536)).f)) rfl (by kernel_rfl) (by kernel_rfl) (by kernel_rfl) (by kernel_rfl) (m_f  hn.at_) (fun w' hk => hS.after hk) ?_
    intro w15 hk
    have hn := hn.after hk
    have hS := hn
    refine turnO (i := 10) (.tuple #[.int .u16 (sbcW ((s2.u_wz ((s2.r.hl + 1) % 65536)).r.hl) ((s2.u_wz ((s2.r.hl + 1) % 65536)).pair) (isM ((s2.u_wz ((s2.r.hl + 1) % 65536)).f) 0)), .int .u8 (sbcF ((s2.u_wz ((s2.r.hl + 1) % 65536)).r.hl) ((s2.u_wz ((s2.r.hl + 1) % 65536)).pair) (isM ((s2.u_wz ((s2.r.hl + 1) % 65536)).f) 0))]) rfl (by kernel_rfl) (by kernel_rfl) (by kernel_rfl) (by kernel_rfl) (wsbc_any ((s2.u_wz ((s2.r.hl + 1) % 65536)).r.hl) ((s2.u_wz ((s2.r.hl + 1) % 65536)).pair) ((s2.u_wz ((s2.r.hl + 1) % 65536)).f) (b11) (b12) (b14) _) (fun w' hb => hS.below hb) ?_
    intro w16 hb
    have hn := hn.below hb
    have hS := hn
    refine turn_take (i := 11) 20 (.tuple #[.int .u16 (sbcW ((s2.u_wz ((s2.r.hl + 1) % 65536)).r.hl) ((s2.u_wz ((s2.r.hl + 1) % 65536)).pair) (isM ((s2.u_wz ((s2.r.hl + 1) % 65536)).f) 0)), .int .u8 (sbcF ((s2.u_wz ((s2.r.hl + 1) % 65536)).r.hl) ((s2.u_wz ((s2.r.hl + 1) % 65536)).pair) (isM ((s2.u_wz ((s2.r.hl + 1) % 65536)).f) 0))]) rfl rfl (by kernel_rfl) (by kernel_rfl) (by kernel_rfl) (by kernel_rfl) (by kernel_rfl) (fun _ _ _ h => h) (by kernel_rfl) (fun w hS => heMove (.inl rfl) (by kernel_rfl) w) hS ?_
    refine turn_take (i := 12) 32 (.int .u16 (sbcW ((s2.u_wz ((s2.r.hl + 1) % 65536)).r.hl) ((s2.u_wz ((s2.r.hl + 1) % 65536)).pair) (isM ((s2.u_wz ((s2.r.hl + 1) % 65536)).f) 0))) rfl rfl (by kernel_rfl) (by kernel_rfl) (by kernel_rfl) (by kernel_rfl) (by kernel_rfl) (fun _ _ _ h => h) (by kernel_rfl) (fun w hS => heExtract (vs := #[.int .u16 (sbcW ((s2.u_wz ((s2.r.hl + 1) % 65536)).r.hl) ((s2.u_wz ((s2.r.hl + 1) % 65536)).pair) (isM ((s2.u_wz ((s2.r.hl + 1) % 65536)).f) 0)), .int .u8 (sbcF ((s2.u_wz ((s2.r.hl + 1) % 65536)).r.hl) ((s2.u_wz ((s2.r.hl + 1) % 65536)).pair) (isM ((s2.u_wz ((s2.r.hl + 1) % 65536)).f) 0))]) rfl (by kernel_rfl) (by kernel_rfl) w) hS ?_
    refine turn_free (i := 13) 33 (.int .u8 (sbcF ((s2.u_wz ((s2.r.hl + 1) % 65536)).r.hl) ((s2.u_wz ((s2.r.hl + 1) % 65536)).pair) (isM ((s2.u_wz ((s2.r.hl + 1) % 65536)).f) 0))) rfl rfl (by kernel_rfl) (by kernel_rfl) (by kernel_rfl) (by kernel_rfl) (by kernel_rfl) (fun _ _ _ h => h) (by kernel_rfl) (fun w => heExtract (vs := #[.int .u16 (sbcW ((s2.u_wz ((s2.r.hl + 1) % 65536)).r.hl) ((s2.u_wz ((s2.r.hl + 1) % 65536)).pair) (isM ((s2.u_wz ((s2.r.hl + 1) % 65536)).f) 0)), .int .u8 (sbcF ((s2.u_wz ((s2.r.hl + 1) % 65536)).r.hl) ((s2.u_wz ((s2.r.hl + 1) % 65536)).pair) (isM ((s2.u_wz ((s2.r.hl + 1) % 65536)).f) 0))]) rfl (by kernel_rfl) (by kernel_rfl) w) (fun _ => hS) ?_
    refine turn_free (i := 14) 34 (pT p 0) rfl rfl (by kernel_rfl) (by kernel_rfl) (by kernel_rfl) (by kernel_rfl) (by kernel_rfl) (fun _ _ _ h => h) (by kernel_rfl) (fun w => heNil (ad := ⟨p, 0, none⟩) rfl (by kernel_rfl) w) (fun _ => hS) ?_
    refine turn_free (i := 15) 35 (pT p 0) rfl rfl (by kernel_rfl) (by kernel_rfl) (by kernel_rfl) (by kernel_rfl) (by kernel_rfl) (fun _ _ _ h => h) (by kernel_rfl) (fun w => heField (V := pT p 0) (R := pT p 0) rfl (by kernel_rfl) (fM0 p) w) (fun _ => hS) ?_
    refine turn_take (i := 16) 36 (pT p 3) rfl rfl (by kernel_rfl) (by kernel_rfl) (by kernel_rfl) (by kernel_rfl) (by kernel_rfl) (fun _ _ _ h => h) (by kernel_rfl) (fun w hS => heField (V := pT p 0) (R := pT p 3) rfl (by kernel_rfl) (fR3 p) w) hS ?_
    refine turn_do rfl rfl (by kernel_rfl) (by kernel_rfl) (by kernel_rfl) (heStore (ad := ⟨p, 3, none⟩) (V := .int .u16 (sbcW ((s2.u_wz ((s2.r.hl + 1) % 65536)).r.hl) ((s2.u_wz ((s2.r.hl + 1) % 65536)).pair) (isM ((s2.u_wz ((s2.r.hl + 1) % 65536)).f) 0))) rfl (by kernel_rfl) (by kernel_rfl) (st16 (hn.at_.cell 3 _ fun _ _ _ => rfl) (hn.at_.frozen 3))) ?_
    have hn := hn.set 3 (.int .u16 (sbcW ((s2.u_wz ((s2.r.hl + 1) % 65536)).r.hl) ((s2.u_wz ((s2.r.hl + 1) % 65536)).pair) (isM ((s2.u_wz ((s2.r.hl + 1) % 65536)).f) 0))) ((s2.u_wz ((s2.r.hl + 1) % 65536)).u_hl (sbcW ((s2.u_wz ((s2.r.hl + 1) % 65536)).r.hl) ((s2.u_wz ((s2.r.hl + 1) % 65536)).pair) (isM ((s2.u_wz ((s2.r.hl + 1) % 65536)).f) 0))) (mu_hl _ _) (hn.at_.ms.u_hl (Wd16.mod _))
    refine turn_end (by kernel_rfl) ?_
    simp only [List.drop_succ_cons, List.drop_zero]
    try simp only [Act.put, sA, sB, sC]
    refine oA 2 (.int .u8 (sbcF ((s2.u_wz ((s2.r.hl + 1) % 65536)).r.hl) ((s2.u_wz ((s2.r.hl + 1) % 65536)).pair) (isM ((s2.u_wz ((s2.r.hl + 1) % 65536)).f) 0))) ?_
    refine endL ?_
    try simp only [Act.put, sA, sB, sC]
    refine thenN <| hK7 _ _ <| regionL <| oM 54 (pT p 0) <| oM 55 (.int .u8 (sbcF ((s2.u_wz ((s2.r.hl + 1) % 65536)).r.hl) ((s2.u_wz ((s2.r.hl + 1) % 65536)).pair) (isM ((s2.u_wz ((s2.r.hl + 1) % 65536)).f) 0))) <| oC (.tuple #[]) (m_setF (sbcF ((s2.u_wz ((s2.r.hl + 1) % 65536)).r.hl) ((s2.u_wz ((s2.r.hl + 1) % 65536)).pair) (isM ((s2.u_wz ((s2.r.hl + 1) % 65536)).f) 0)) (sbcF_byte _ _ _) hn.at_) ?_
    intro w17 hk
    have hn := hn.after hk
    refine endL ?_
    try simp only [Act.put, sA, sB, sC]
    refine endV rfl rfl ?_
    exact OutV.ok (hr.trans (Tr.run_done _ _)) hn
  · skip
    have g9 : ¬ ((s2.u_wz ((s2.r.hl + 1) % 65536)).q) = 0 := by simpa using h9
    have hr := hr.trans (run_if_neg g9)
    refine turn_start 17 18 (fun w' => NowN w p B (s2.u_wz ((s2.r.hl + 1) % 65536)) xs2 w') (by kernel_rfl) (by kernel_rfl) hn.drew ?_
    intro w18 _ hS
    have hn := hS
    refine turn_take (i := 0) 38 (pT p 0) rfl rfl (by kernel_rfl) (by kernel_rfl) (by kernel_rfl) (by kernel_rfl) (by kernel_rfl) (fun _ _ _ h => h) (by kernel_rfl) (fun w hS => heMove (.inl rfl) (by kernel_rfl) w) hS ?_
    refine turn_take (i := 1) 39 (pT p 0) rfl rfl (by kernel_rfl) (by kernel_rfl) (by kernel_rfl) (by kernel_rfl) (by kernel_rfl) (fun _ _ _ h => h) (by kernel_rfl) (fun w hS => heMove (.inl rfl) (by kernel_rfl) w) hS ?_
    refine turn_take (i := 2) 40 (pT p 0) rfl rfl (by kernel_rfl) (by kernel_rfl) (by kernel_rfl) (by kernel_rfl) (by kernel_rfl) (fun _ _ _ h => h) (by kernel_rfl) (fun w hS => heNil (ad := ⟨p, 0, none⟩) rfl (by kernel_rfl) w) hS ?_
    refine turn_take (i := 3) 41 (pT p 0) rfl rfl (by kernel_rfl) (by kernel_rfl) (by kernel_rfl) (by kernel_rfl) (by kernel_rfl) (fun _ _ _ h => h) (by kernel_rfl) (fun w hS => heField (V := pT p 0) (R := pT p 0) rfl (by kernel_rfl) (fM0 p) w) hS ?_
    refine turn_take (i := 4) 42 (pT p 3) rfl rfl (by kernel_rfl) (by kernel_rfl) (by kernel_rfl) (by kernel_rfl) (by kernel_rfl) (fun _ _ _ h => h) (by kernel_rfl) (fun w hS => heField (V := pT p 0) (R := pT p 3) rfl (by kernel_rfl) (fR3 p) w) hS ?_
    have b19 := hn.at_.ms.r.hl
    refine turn_take (i := 5) 43 (.int .u16 ((s2.u_wz ((s2.r.hl + 1) % 65536)).r.hl)) rfl rfl (by kernel_rfl) (by kernel_rfl) (by kernel_rfl) (by kernel_rfl) (by kernel_rfl) (fun _ _ _ h => h) (by kernel_rfl) (fun w hS => heLoad rfl (by kernel_rfl) (ld16 (hS.at_.cell 3 (.int .u16 ((s2.u_wz ((s2.r.hl + 1) % 65536)).r.hl)) fun _ _ _ => rfl))) hS ?_
    refine turn_take (i := 6) 44 (pT p 0) rfl rfl (by kernel_rfl) (by kernel_rfl) (by kernel_rfl) (by kernel_rfl) (by kernel_rfl) (fun _ _ _ h => h) (by kernel_rfl) (fun w hS => heMove (.inl rfl) (by kernel_rfl) w) hS ?_
    refine turn_take (i := 8) 46 (pT p 0) rfl rfl (by kernel_rfl) (by kernel_rfl) (by kernel_rfl) (by kernel_rfl) (by kernel_rfl) (fun _ _ _ h => h) (by kernel_rfl) (fun w hS => heMove (.inl rfl) (by kernel_rfl) w) hS ?_
    have b20 := pair_word hn.at_.ms
    refine turnO (i := 7) (.int .u16 ((s2.u_wz ((s2.r.hl + 1) % 65536)).pair)) rfl (by kernel_rfl) (by kernel_rfl) (by kernel_rfl) (by kernel_rfl) (m_pair  hn.at_) (fun w' hk => hS.after hk) ?_
    intro w21 hk
    have hn := hn.after hk
    have hS := hn
    have b22 := f_byte hn.at_.ms
    refine turnO (i := 9) (.int .u8 ((s2.u_wz ((s2.r.hl + 1) % 65536)).f)) rfl (by kernel_rfl) (by kernel_rfl) (by kernel_rfl) (by kernel_rfl) (m_f  hn.at_) (fun w' hk => hS.after hk) ?_
    intro w23 hk
    have hn := hn.after hk
    have hS := hn
    refine turnO (i := 10) (.tuple #[.int .u16 (adcW ((s2.u_wz ((s2.r.hl + 1) % 65536)).r.hl) ((s2.u_wz ((s2.r.hl + 1) % 65536)).pair) (isM ((s2.u_wz ((s2.r.hl + 1) % 65536)).f) 0)), .int .u8 (adcF ((s2.u_wz ((s2.r.hl + 1) % 65536)).r.hl) ((s2.u_wz ((s2.r.hl + 1) % 65536)).pair) (isM ((s2.u_wz ((s2.r.hl + 1) % 65536)).f) 0))]) rfl (by kernel_rfl) (by kernel_rfl) (by kernel_rfl) (by kernel_rfl) (wadc_any ((s2.u_wz ((s2.r.hl + 1) % 65536)).r.hl) ((s2.u_wz ((s2.r.hl + 1) % 65536)).pair) ((s2.u_wz ((s2.r.hl + 1) % 65536)).f) (b19) (b20) (b22) _) (fun w' hb => hS.below hb) ?_
    intro w24 hb
    have hn := hn.below hb
    have hS := hn
    refine turn_take (i := 11) 37 (.tuple #[.int .u16 (adcW ((s2.u_wz ((s2.r.hl + 1) % 65536)).r.hl) ((s2.u_wz ((s2.r.hl + 1) % 65536)).pair) (isM ((s2.u_wz ((s2.r.hl + 1) % 65536)).f) 0)), .int .u8 (adcF ((s2.u_wz ((s2.r.hl + 1) % 65536)).r.hl) ((s2.u_wz ((s2.r.hl + 1) % 65536)).pair) (isM ((s2.u_wz ((s2.r.hl + 1) % 65536)).f) 0))]) rfl rfl (by kernel_rfl) (by kernel_rfl) (by kernel_rfl) (by kernel_rfl) (by kernel_rfl) (fun _ _ _ h => h) (by kernel_rfl) (fun w hS => heMove (.inl rfl) (by kernel_rfl) w) hS ?_
    refine turn_take (i := 12) 49 (.int .u16 (adcW ((s2.u_wz ((s2.r.hl + 1) % 65536)).r.hl) ((s2.u_wz ((s2.r.hl + 1) % 65536)).pair) (isM ((s2.u_wz ((s2.r.hl + 1) % 65536)).f) 0))) rfl rfl (by kernel_rfl) (by kernel_rfl) (by kernel_rfl) (by kernel_rfl) (by kernel_rfl) (fun _ _ _ h => h) (by kernel_rfl) (fun w hS => heExtract (vs := #[.int .u16 (adcW ((s2.u_wz ((s2.r.hl + 1) % 65536)).r.hl) ((s2.u_wz ((s2.r.hl + 1) % 65536)).pair) (isM ((s2.u_wz ((s2.r.hl + 1) % 65536)).f) 0)), .int .u8 (adcF ((s2.u_wz ((s2.r.hl + 1) % 65536)).r.hl) ((s2.u_wz ((s2.r.hl + 1) % 65536)).pair) (isM ((s2.u_wz ((s2.r.hl + 1) % 65536)).f) 0))]) rfl (by kernel_rfl) (by kernel_rfl) w) hS ?_
    refine turn_free (i := 13) 50 (.int .u8 (adcF ((s2.u_wz ((s2.r.hl + 1) % 65536)).r.hl) ((s2.u_wz ((s2.r.hl + 1) % 65536)).pair) (isM ((s2.u_wz ((s2.r.hl + 1) % 65536)).f) 0))) rfl rfl (by kernel_rfl) (by kernel_rfl) (by kernel_rfl) (by kernel_rfl) (by kernel_rfl) (fun _ _ _ h => h) (by kernel_rfl) (fun w => heExtract (vs := #[.int .u16 (adcW ((s2.u_wz ((s2.r.hl + 1) % 65536)).r.hl) ((s2.u_wz ((s2.r.hl + 1) % 65536)).pair) (isM ((s2.u_wz ((s2.r.hl + 1) % 65536)).f) 0)), .int .u8 (adcF ((s2.u_wz ((s2.r.hl + 1) % 65536)).r.hl) ((s2.u_wz ((s2.r.hl + 1) % 65536)).pair) (isM ((s2.u_wz ((s2.r.hl + 1) % 65536)).f) 0))]) rfl (by kernel_rfl) (by kernel_rfl) w) (fun _ => hS) ?_
    refine turn_free (i := 14) 51 (pT p 0) rfl rfl (by kernel_rfl) (by kernel_rfl) (by kernel_rfl) (by kernel_rfl) (by kernel_rfl) (fun _ _ _ h => h) (by kernel_rfl) (fun w => heNil (ad := ⟨p, 0, none⟩) rfl (by kernel_rfl) w) (fun _ => hS) ?_
    refine turn_free (i := 15) 52 (pT p 0) rfl rfl (by kernel_rfl) (by kernel_rfl) (by kernel_rfl) (by kernel_rfl) (by kernel_rfl) (fun _ _ _ h => h) (by kernel_rfl) (fun w => heField (V := pT p 0) (R := pT p 0) rfl (by kernel_rfl) (fM0 p) w) (fun _ => hS) ?_
    refine turn_take (i := 16) 53 (pT p 3) rfl rfl (by kernel_rfl) (by kernel_rfl) (by kernel_rfl) (by kernel_rfl) (by kernel_rfl) (fun _ _ _ h => h) (by kernel_rfl) (fun w hS => heField (V := pT p 0) (R := pT p 3) rfl (by kernel_rfl) (fR3 p) w) hS ?_
    refine turn_do rfl rfl (by kernel_rfl) (by kernel_rfl) (by kernel_rfl) (heStore (ad := ⟨p, 3, none⟩) (V := .int .u16 (adcW ((s2.u_wz ((s2.r.hl + 1) % 65536)).r.hl) ((s2.u_wz ((s2.r.hl + 1) % 65536)).pair) (isM ((s2.u_wz ((s2.r.hl + 1) % 65536)).f) 0))) rfl (by kernel_rfl) (by kernel_rfl) (st16 (hn.at_.cell 3 _ fun _ _ _ => rfl) (hn.at_.frozen 3))) ?_
    have hn := hn.set 3 (.int .u16 (adcW ((s2.u_wz ((s2.r.hl + 1) % 65536)).r.hl) ((s2.u_wz ((s2.r.hl + 1) % 65536)).pair) (isM ((s2.u_wz ((s2.r.hl + 1) % 65536)).f) 0))) ((s2.u_wz ((s2.r.hl + 1) % 65536)).u_hl (adcW ((s2.u_wz ((s2.r.hl + 1) % 65536)).r.hl) ((s2.u_wz ((s2.r.hl + 1) % 65536)).pair) (isM ((s2.u_wz ((s2.r.hl + 1) % 65536)).f) 0))) (mu_hl _ _) (hn.at_.ms.u_hl (Wd16.mod _))
    refine turn_end (by kernel_rfl) ?_
    simp only [List.drop_succ_cons, List.drop_zero]
    try simp only [Act.put, sA, sB, sC]
    refine oA 2 (.int .u8 (adcF ((s2.u_wz ((s2.r.hl + 1) % 65536)).r.hl) ((s2.u_wz ((s2.r.hl + 1) % 65536)).pair) (isM ((s2.u_wz ((s2.r.hl + 1) % 65536)).f) 0))) ?_
    refine endL ?_
    try simp only [Act.put, sA, sB, sC]
    refine thenN <| hK7 _ _ <| regionL <| oM 54 (pT p 0) <| oM 55 (.int .u8 (adcF ((s2.u_wz ((s2.r.hl + 1) % 65536)).r.hl) ((s2.u_wz ((s2.r.hl + 1) % 65536)).pair) (isM ((s2.u_wz ((s2.r.hl + 1) % 65536)).f) 0))) <| oC (.tuple #[]) (m_setF (adcF ((s2.u_wz ((s2.r.hl + 1) % 65536)).r.hl) ((s2.u_wz ((s2.r.hl + 1) % 65536)).pair) (isM ((s2.u_wz ((s2.r.hl + 1) % 65536)).f) 0)) (adcF_byte _ _ _) hn.at_) ?_
    intro w25 hk
    have hn := hn.after hk
    refine endL ?_
    try simp only [Act.put, sA, sB, sC]
    refine endV rfl rfl ?_
    exact OutV.ok (hr.trans (Tr.run_done _ _)) hn
set_option maxRecDepth 20000 in
set_option maxHeartbeats 4000000 in
theorem m_pairAtPlace  {s : Ms} {xs : List Int} {w : World} {p B : Nat} (h : AtN w p B s xs) :
    Calls Tryz.prog 112 #[pT p 0] w (OutV w p B ((pairAtPlaceN s).run xs)) := by
 have hn := NowN.begin h
 have hr : (pairAtPlaceN s).run xs = (pairAtPlaceN s).run xs := rfl
 go_enter Tryz.func112, Tryz.ntmps112
 refine coStart <| coR <| nR 1 hn <| nI (m_word hn.at_) hn hr <| fun v2 s2 xs2 w2 hk2 hn hr => nE hn <| nQ hn <| nIf hr (fun g4 hr => ?_) fun g4 hr => ?_
 · exact have b5 := pair_word hn.at_.ms; coZ <| nR 3 hn <| nA (m_pair hn.at_) hn <| fun w6 hn => nV (m_storeWord v2 (hk2) s2.pair (b5) hn.at_) hn hr <| fun s7 xs7 w7 hn hr => woE <| eoV (OutV.ok (dN hr) hn)
 exact coZ <| nR 3 hn <| nI (m_loadWord v2 (hk2) hn.at_) hn hr <| fun v8 s8 xs8 w8 hk8 hn hr => nA (m_setPair v8 (hk8) hn.at_) hn <| fun w9 hn => woE <| eoV (OutV.ok (dN hr) hn)
set_option maxRecDepth 20000 in
set_option maxHeartbeats 4000000 in
theorem m_show (b : Int) (hAb : B8 b) {s : Ms} {xs : List Int} {w : World} {p B : Nat} (h : AtN w p B s xs) :
    Calls Tryz.prog 212 #[pT p 0, .int .u8 (b)] w (fun e w' => e = .returned (.tuple #[]) ∧ NowN w p B (showN b s) xs w') := by
 have hn := NowN.begin h
 go_enter Tryz.func212, Tryz.ntmps212
 refine coStart <| coR <| nR 1 hn <| kE (result_any b (hAb).1 (hAb).2 _) <| nR 1 hn <| nA (m_carry hn.at_) hn <| fun w3 hn => kBj 9 (.int .u8 (resultM b)) (.int .u8 (s.carry)) (.int .u8 (withM (resultM b) 0 (isM s.f 0))) (eg8 _ _ _ _ _) (bOrResult _ _) <| nE hn <| coS <| nQ hn <| coI (s.r.iff2) (fun h6 => ?_) fun h6 => ?_
 · have g6 : s.r.iff2 = true := by simpa using h6
   refine coZ <| nR 1 hn <| kBj 16 (.int .u8 (withM (resultM b) 0 (isM s.f 0))) (.int .u8 (4)) (.int .u8 (withM (withM (resultM b) 0 (isM s.f 0)) 2 true)) (eg8 _ _ _ _ _) (bOrP _ (B8.with (resultM_byte _) _ _)) <| nE hn <| coZ <| nR 3 hn <| kE (word_any b (withM (withM (resultM b) 0 (isM s.f 0)) 2 true) (hAb).1 (hAb).2 (B8.with (B8.with (resultM_byte _) _ _) _ _).1 (B8.with (B8.with (resultM_byte _) _ _) _ _).2 _) <| nFs hn (.u_af _ (256 * b + (withM (withM (resultM b) 0 (isM s.f 0)) 2 true))) (hn.at_.ms.u_af (Wd16.mk8 (hAb) (B8.with (B8.with (resultM_byte _) _ _) _ _))) <| fun w8 hn => eoV ?_
   have e : showN b s = s.u_af (256 * b + (withM (withM (resultM b) 0 (isM s.f 0)) 2 true)) := by
    unfold showN
    repeat (first | rw [if_pos (by assumption)] | rw [if_neg (by assumption)])
    rw [show s.r.iff2 = true from by assumption]; rfl
   exact ⟨rfl, e ▸ hn⟩
 have g6 : ¬ s.r.iff2 = true := by simpa using h6
 refine coSkip <| eoT <| coZ <| nR 3 hn <| kE (word_any b (withM (resultM b) 0 (isM s.f 0)) (hAb).1 (hAb).2 (B8.with (resultM_byte _) _ _).1 (B8.with (resultM_byte _) _ _).2 _) <| nFs hn (.u_af _ (256 * b + (withM (resultM b) 0 (isM s.f 0)))) (hn.at_.ms.u_af (Wd16.mk8 (hAb) (B8.with (resultM_byte _) _ _))) <| fun w10 hn => eoV ?_
 have e : showN b s = s.u_af (256 * b + (withM (resultM b) 0 (isM s.f 0))) := by
  unfold showN
  repeat (first | rw [if_pos (by assumption)] | rw [if_neg (by assumption)])
  rw [show s.r.iff2 = false from by simpa using (by assumption : ¬ s.r.iff2 = true), with2_off]; rfl
 exact ⟨rfl, e ▸ hn⟩
set_option maxRecDepth 20000 in
set_option maxHeartbeats 4000000 in
theorem m_turnDigits  {s : Ms} {xs : List Int} {w : World} {p B : Nat} (h : AtN w p B s xs) :
    Calls Tryz.prog 213 #[pT p 0] w (OutV w p B ((turnDigitsN s).run xs)) := by
 have hn := NowN.begin h
 have hr : (turnDigitsN s).run xs = (turnDigitsN s).run xs := rfl
 go_enter Tryz.func213, Tryz.ntmps213
 exact coStart <| have b2 := hn.at_.ms.r.hl; coR <| nR 6 hn <| nI (m_read s.r.hl (b2) hn.at_) hn hr <| fun v3 s3 xs3 w3 hk3 hn hr => nE hn <| coR <| nR 1 hn <| nV (m_pause 4 hn.at_) hn hr <| fun s5 xs5 w5 hn hr => wT <| nQ hn <| have b8 := a_byte hn.at_.ms; coR <| nR 2 hn <| nA (m_a hn.at_) hn <| fun w9 hn => have b10 := f_byte hn.at_.ms; nR 2 hn <| nA (m_f hn.at_) hn <| fun w11 hn => nB (digit_any (s5.y == 4) s5.a v3 s5.f (b8) (hk3) (b10) _) hn <| fun w12 hn => nE hn <| coR <| nR 3 hn <| kE (word_any (digA (s5.y == 4) s5.a v3) (evenC (digA (s5.y == 4) s5.a v3) (isM s5.f 0)) (digA_byte _ _ _ (b8) (hk3)).1 (digA_byte _ _ _ (b8) (hk3)).2 (evenC_byte _ _).1 (evenC_byte _ _).2 _) <| nEs hn (.u_af _ (256 * (digA (s5.y == 4) s5.a v3) + (evenC (digA (s5.y == 4) s5.a v3) (isM s5.f 0)))) (hn.at_.ms.u_af (Wd16.mk8 (digA_byte _ _ _ (b8) (hk3)) (evenC_byte _ _))) <| fun w15 hn => have b17 := hn.at_.ms.r.hl; coR <| nR 7 hn <| nV (m_write ((s5.u_af (256 * (digA (s5.y == 4) s5.a v3) + (evenC (digA (s5.y == 4) s5.a v3) (isM s5.f 0)))).r.hl) (b17) (digB (s5.y == 4) s5.a v3) (digB_byte _ _ _ (b8) (hk3)) hn.at_) hn hr <| fun s18 xs18 w18 hn hr => wT <| have b19 := hn.at_.ms.r.hl; coZ <| nFs hn (.u_wz _ ((s18.r.hl + 1) % 65536)) (hn.at_.ms.u_wz (Wd16.mod _)) <| fun w20 hn => eoV (OutV.ok (dN hr) hn)
set_option maxRecDepth 20000 in
set_option maxHeartbeats 4000000 in
theorem m_special  {s : Ms} {xs : List Int} {w : World} {p B : Nat} (h : AtN w p B s xs) :
    Calls Tryz.prog 118 #[pT p 0] w (OutV w p B ((specialN s).run xs)) := by
 have hn := NowN.begin h
 have hr : (specialN s).run xs = (specialN s).run xs := rfl
 go_enter Tryz.func118, Tryz.ntmps118
 refine coStart <| nQ hn <| coB <| nQ hn <| nIf hr (fun g3 hr => ?_) fun g3 hr => ?_
 · exact coR <| nR 1 hn <| nV (m_pause 1 hn.at_) hn hr <| fun s5 xs5 w5 hn hr => wT <| have b6 := a_byte hn.at_.ms; coZ <| nR 2 hn <| nA (m_a hn.at_) hn <| fun w7 hn => nFs hn (.u_i _ (s5.a)) (hn.at_.ms.u_i (b6)) <| fun w8 hn => eoB <| eoV (OutV.ok (dN hr) hn)
 refine nQ hn <| nIf hr (fun g10 hr => ?_) fun g10 hr => ?_
 · exact coR <| nR 1 hn <| nV (m_pause 1 hn.at_) hn hr <| fun s12 xs12 w12 hn hr => wT <| have b13 := a_byte hn.at_.ms; coZ <| nR 2 hn <| nA (m_a hn.at_) hn <| fun w14 hn => nFs hn (.u_r _ (s12.a)) (hn.at_.ms.u_r (b13)) <| fun w15 hn => eoB <| eoV (OutV.ok (dN hr) hn)
 refine nQ hn <| nIf hr (fun g17 hr => ?_) fun g17 hr => ?_
 · exact coR <| nR 1 hn <| nV (m_pause 1 hn.at_) hn hr <| fun s19 xs19 w19 hn hr => wT <| have b20 := hn.at_.ms.r.i; coZ <| nR 6 hn <| nA (m_show s19.r.i (b20) hn.at_) hn <| fun w21 hn => woE <| eoB <| eoV (OutV.ok (dN hr) hn)
 refine nQ hn <| nIf hr (fun g23 hr => ?_) fun g23 hr => ?_
 · exact coR <| nR 1 hn <| nV (m_pause 1 hn.at_) hn hr <| fun s25 xs25 w25 hn hr => wT <| have b26 := hn.at_.ms.r.r; coZ <| nR 6 hn <| nA (m_show s25.r.r (b26) hn.at_) hn <| fun w27 hn => woE <| eoB <| eoV (OutV.ok (dN hr) hn)
 refine coS <| nQ hn <| coI (s.y == 4) (fun h30 => ?_) fun h30 => ?_
 · have g30 : s.y = 4 := by simpa using h30
   exact have hr := hr.trans (run_if_pos (.inl g30)); coSkip <| eoT <| coJ (s.y == 4) (fun h31 => absurd (h30.symm.trans h31) (by decide)) <| fun h31 => coZ <| nR 1 hn <| nV (m_turnDigits hn.at_) hn hr <| fun s32 xs32 w32 hn hr => woE <| eoB <| eoV (OutV.ok (dN hr) hn)
 have g30 : ¬ s.y = 4 := by simpa using h30
 refine coZ <| nE hn <| coI (s.y == 5) (fun h33 => ?_) fun h33 => ?_
 · have g33 : s.y = 5 := by simpa using h33
   exact have hr := hr.trans (run_if_pos (.inr g33)); coZ <| nR 1 hn <| nV (m_turnDigits hn.at_) hn hr <| fun s34 xs34 w34 hn hr => woE <| eoB <| eoV (OutV.ok (dN hr) hn)
 have g33 : ¬ s.y = 5 := by simpa using h33
 exact have hr := hr.trans (run_if_neg (not_or.2 ⟨g30, g33⟩)); coSkip <| eoB <| eoV (OutV.ok (dN hr) hn)
set_option maxRecDepth 20000 in
set_option maxHeartbeats 4000000 in
theorem m_nothing  {s : Ms} {xs : List Int} {w : World} {p B : Nat} (h : AtN w p B s xs) :
    Calls Tryz.prog 63 #[pT p 0] w (fun e w' => e = .returned (.tuple #[]) ∧ NowN w p B (s) xs w') := by
 have hn := NowN.begin h
 go_enter Tryz.func63, Tryz.ntmps63
 exact coStart <| coSkip <| eoV (⟨rfl, hn⟩)
set_option maxRecDepth 20000 in
set_option maxHeartbeats 4000000 in
theorem m_extended  {s : Ms} {xs : List Int} {w : World} {p B : Nat} (h : AtN w p B s xs) :
    Calls Tryz.prog 64 #[pT p 0] w (OutV w p B ((extendedN s).run xs)) := by
 have hn := NowN.begin h
 have hr : (extendedN s).run xs = (extendedN s).run xs := rfl
 go_enter Tryz.func64, Tryz.ntmps64
 refine wp_seq_k fun K1 hK1 => regionL <| oM 4 (pT p 0) <| oN 5 p 0 <| oF 6 (fM5 p) <| oL 7 (ldI (hn.at_.cell 24 (.int .i64 (s.z)) fun _ _ _ => rfl)) ?_
 refine endL ?_
 try simp only [Act.put, sA, sB, sC]
 refine thenN <| hK1 _ _ ?_
 refine wp_block ?_
 refine wp_seq_k fun K2 hK2 => regionL <| oB 9 (egI _ _ _ _ _) (bEqI s.z 0) <| oA 8 (.bool (s.z == 0)) ?_
 refine endL ?_
 try simp only [Act.put, sA, sB, sC]
 refine thenN <| hK2 _ _ ?_
 refine wp_cond_split (t := s.z == 0) (by kernel_rfl) (fun h3 => ?_) (fun h3 => ?_)
 · have g3 : s.z = 0 := by simpa using h3
   have hr := hr.trans (run_if_pos g3)
   exact coStart <| coZ <| nR 1 hn <| nVt (m_takeIn hn.at_) hn hr <| fun s4 xs4 w4 hn hr => woE <| eoB <| eoV (OutV.ok (dN hr) hn)
 · have g3 : ¬ s.z = 0 := by simpa using h3
   have hr := hr.trans (run_if_neg g3)
   refine wp_seq_k fun K5 hK5 => regionL <| oB 13 (egI _ _ _ _ _) (bEqI s.z 1) <| oA 12 (.bool (s.z == 1)) ?_
   refine endL ?_
   try simp only [Act.put, sA, sB, sC]
   refine thenN <| hK5 _ _ ?_
   refine wp_cond_split (t := s.z == 1) (by kernel_rfl) (fun h6 => ?_) (fun h6 => ?_)
   · have g6 : s.z = 1 := by simpa using h6
     have hr := hr.trans (run_if_pos g6)
     exact coStart <| coZ <| nR 1 hn <| nVt (m_giveOut hn.at_) hn hr <| fun s7 xs7 w7 hn hr => woE <| eoB <| eoV (OutV.ok (dN hr) hn)
   · have g6 : ¬ s.z = 1 := by simpa using h6
     have hr := hr.trans (run_if_neg g6)
     refine wp_seq_k fun K8 hK8 => regionL <| oB 17 (egI _ _ _ _ _) (bEqI s.z 2) <| oA 16 (.bool (s.z == 2)) ?_
     refine endL ?_
     try simp only [Act.put, sA, sB, sC]
     refine thenN <| hK8 _ _ ?_
     refine wp_cond_split (t := s.z == 2) (by kernel_rfl) (fun h9 => ?_) (fun h9 => ?_)
     · have g9 : s.z = 2 := by simpa using h9
       have hr := hr.trans (run_if_pos g9)
       exact coStart <| coZ <| nR 1 hn <| nVt (m_addCarried hn.at_) hn hr <| fun s10 xs10 w10 hn hr => woE <| eoB <| eoV (OutV.ok (dN hr) hn)
     · have g9 : ¬ s.z = 2 := by simpa using h9
       have hr := hr.trans (run_if_neg g9)
       refine wp_seq_k fun K11 hK11 => regionL <| oB 21 (egI _ _ _ _ _) (bEqI s.z 3) <| oA 20 (.bool (s.z == 3)) ?_
       refine endL ?_
       try simp only [Act.put, sA, sB, sC]
       refine thenN <| hK11 _ _ ?_
       refine wp_cond_split (t := s.z == 3) (by kernel_rfl) (fun h12 => ?_) (fun h12 => ?_)
       · have g12 : s.z = 3 := by simpa using h12
         have hr := hr.trans (run_if_pos g12)
         exact coStart <| coZ <| nR 1 hn <| nVt (m_pairAtPlace hn.at_) hn hr <| fun s13 xs13 w13 hn hr => woE <| eoB <| eoV (OutV.ok (dN hr) hn)
       · have g12 : ¬ s.z = 3 := by simpa using h12
         have hr := hr.trans (run_if_neg g12)
         refine wp_seq_k fun K14 hK14 => regionL <| oB 25 (egI _ _ _ _ _) (bEqI s.z 4) <| oA 24 (.bool (s.z == 4)) ?_
         refine endL ?_
         try simp only [Act.put, sA, sB, sC]
         refine thenN <| hK14 _ _ ?_
         refine wp_cond_split (t := s.z == 4) (by kernel_rfl) (fun h15 => ?_) (fun h15 => ?_)
         · have g15 : s.z = 4 := by simpa using h15
           have hr := hr.trans (run_if_pos g15)
           exact coStart <| have b17 := a_byte hn.at_.ms; coR <| nR 1 hn <| nA (m_a hn.at_) hn <| fun w18 hn => nB (neg_any s.a (b17) _) hn <| fun w19 hn => nE hn <| coZ <| nR 3 hn <| kE (word_any (subR 0 s.a false) (subF 0 s.a false) (subR_byte _ _ _).1 (subR_byte _ _ _).2 (subF_byte _ _ _).1 (subF_byte _ _ _).2 _) <| nFs hn (.u_af _ (256 * (subR 0 s.a false) + (subF 0 s.a false))) (hn.at_.ms.u_af (Wd16.mk8 (subR_byte _ _ _) (subF_byte _ _ _))) <| fun w21 hn => eoB <| eoV (OutV.ok (dN hr) hn)
         · have g15 : ¬ s.z = 4 := by simpa using h15
           have hr := hr.trans (run_if_neg g15)
           refine wp_seq_k fun K22 hK22 => regionL <| oB 40 (egI _ _ _ _ _) (bEqI s.z 5) <| oA 39 (.bool (s.z == 5)) ?_
           refine endL ?_
           try simp only [Act.put, sA, sB, sC]
           refine thenN <| hK22 _ _ ?_
           refine wp_cond_split (t := s.z == 5) (by kernel_rfl) (fun h23 => ?_) (fun h23 => ?_)
           · have g23 : s.z = 5 := by simpa using h23
             have hr := hr.trans (run_if_pos g23)
             exact coStart <| coR <| nR 2 hn <| nI (m_pop hn.at_) hn hr <| fun v25 s25 xs25 w25 hk25 hn hr => nA (m_goTo v25 (hk25) hn.at_) hn <| fun w26 hn => wT <| coZ <| nFs hn (.u_iff1 _ ((s25.goTo v25).r.iff2)) (hn.at_.ms.u_iff1) <| fun w27 hn => eoB <| eoV (OutV.ok (dN hr) hn)
           · have g23 : ¬ s.z = 5 := by simpa using h23
             have hr := hr.trans (run_if_neg g23)
             refine wp_seq_k fun K28 hK28 => regionL <| oB 55 (egI _ _ _ _ _) (bEqI s.z 6) <| oA 54 (.bool (s.z == 6)) ?_
             refine endL ?_
             try simp only [Act.put, sA, sB, sC]
             refine thenN <| hK28 _ _ ?_
             refine wp_cond_split (t := s.z == 6) (by kernel_rfl) (fun h29 => ?_) (fun h29 => ?_)
             · have g29 : s.z = 6 := by simpa using h29
               have hr := hr.trans (run_if_pos g29)
               refine regionL <| oM 56 (pT p 0) <| oM 57 (pT p 0) <| oN 58 p 0 <| oF 59 (fM4 p) <| oL 60 (ldI (hn.at_.cell 23 (.int .i64 (s.y)) fun _ _ _ => rfl)) ?_
               rcases mod4 (s.y) with g30 | g30 | g30 | g30
               · refine oB 61 (egI _ _ _ _ _) (bRem4 (hn.at_.ms.y.1) g30) ?_
                 have hr := hr.trans (run_if_neg (by simp [g30, g29, g23, g15, g12, g9, g6, g3]))
                 have hr := hr.trans (run_if_neg (by simp [g30, g29, g23, g15, g12, g9, g6, g3]))
                 refine oI 62 (pT 0 0) (.int .i64 (0)) (pT 0 0) (idx4_0 _) <| oL 63 (ldI (hn.at_.tabs.modes.1)) <| oN 64 p 0 <| oF 65 (fM0 p) <| oF 66 (fR19 p) ?_
                 refine sSetN hn 19 (.int .i64 (0)) (s.u_mode (0)) rfl rfl rfl (by kernel_rfl) (by kernel_rfl) (stI (hn.at_.cell 19 _ fun _ _ _ => rfl) (hn.at_.frozen 19)) (mu_mode _ _) (hn.at_.ms.u_mode (⟨by decide, by decide⟩)) ?_
                 intro w31 hn
                 refine endL ?_
                 try simp only [Act.put, sA, sB, sC]
                 refine blockN ?_
                 refine endV rfl rfl ?_
                 exact OutV.ok (hr.trans (Tr.run_done _ _)) hn
               · refine oB 61 (egI _ _ _ _ _) (bRem4 (hn.at_.ms.y.1) g30) ?_
                 have hr := hr.trans (run_if_neg (by simp [g30, g29, g23, g15, g12, g9, g6, g3]))
                 have hr := hr.trans (run_if_neg (by simp [g30, g29, g23, g15, g12, g9, g6, g3]))
                 refine oI 62 (pT 0 0) (.int .i64 (1)) (pT 0 1) (idx4_1 _) <| oL 63 (ldI (hn.at_.tabs.modes.2.1)) <| oN 64 p 0 <| oF 65 (fM0 p) <| oF 66 (fR19 p) ?_
                 refine sSetN hn 19 (.int .i64 (0)) (s.u_mode (0)) rfl rfl rfl (by kernel_rfl) (by kernel_rfl) (stI (hn.at_.cell 19 _ fun _ _ _ => rfl) (hn.at_.frozen 19)) (mu_mode _ _) (hn.at_.ms.u_mode (⟨by decide, by decide⟩)) ?_
                 intro w32 hn
                 refine endL ?_
                 try simp only [Act.put, sA, sB, sC]
                 refine blockN ?_
                 refine endV rfl rfl ?_
                 exact OutV.ok (hr.trans (Tr.run_done _ _)) hn
               · refine oB 61 (egI _ _ _ _ _) (bRem4 (hn.at_.ms.y.1) g30) ?_
                 have hr := hr.trans (run_if_pos g30)
                 refine oI 62 (pT 0 0) (.int .i64 (2)) (pT 0 2) (idx4_2 _) <| oL 63 (ldI (hn.at_.tabs.modes.2.2.1)) <| oN 64 p 0 <| oF 65 (fM0 p) <| oF 66 (fR19 p) ?_
                 refine sSetN hn 19 (.int .i64 (1)) (s.u_mode (1)) rfl rfl rfl (by kernel_rfl) (by kernel_rfl) (stI (hn.at_.cell 19 _ fun _ _ _ => rfl) (hn.at_.frozen 19)) (mu_mode _ _) (hn.at_.ms.u_mode (⟨by decide, by decide⟩)) ?_
                 intro w33 hn
                 refine endL ?_
                 try simp only [Act.put, sA, sB, sC]
                 refine blockN ?_
                 refine endV rfl rfl ?_
                 exact OutV.ok (hr.trans (Tr.run_done _ _)) hn
               · refine oB 61 (egI _ _ _ _ _) (bRem4 (hn.at_.ms.y.1) g30) ?_
                 have hr := hr.trans (run_if_neg (by simp [g30, g29, g23, g15, g12, g9, g6, g3]))
                 have hr := hr.trans (run_if_pos g30)
                 refine oI 62 (pT 0 0) (.int .i64 (3)) (pT 0 3) (idx4_3 _) <| oL 63 (ldI (hn.at_.tabs.modes.2.2.2)) <| oN 64 p 0 <| oF 65 (fM0 p) <| oF 66 (fR19 p) ?_
                 refine sSetN hn 19 (.int .i64 (2)) (s.u_mode (2)) rfl rfl rfl (by kernel_rfl) (by kernel_rfl) (stI (hn.at_.cell 19 _ fun _ _ _ => rfl) (hn.at_.frozen 19)) (mu_mode _ _) (hn.at_.ms.u_mode (⟨by decide, by decide⟩)) ?_
                 intro w34 hn
                 refine endL ?_
                 try simp only [Act.put, sA, sB, sC]
                 refine blockN ?_
                 refine endV rfl rfl ?_
                 exact OutV.ok (hr.trans (Tr.run_done _ _)) hn
             · have g29 : ¬ s.z = 6 := by simpa using h29
               have hr := hr.trans (run_if_neg g29)
               refine coStart <| nQ hn <| nIf hr (fun g36 hr => ?_) fun g36 hr => ?_
               · exact coZ <| nR 1 hn <| nVt (m_special hn.at_) hn hr <| fun s37 xs37 w37 hn hr => woE <| eoB <| eoV (OutV.ok (dN hr) hn)
               exact coSkip <| eoB <| eoV (OutV.ok (dN hr) hn)
def OutF (w0 : World) (p B : Nat) (vals : Array Value) : Except Cy (Ms × List Int) → Ending → World → Prop
  | .ok (s, ys), e, w' => e = .returned (.agg vals) ∧ NowN w0 p B s ys w'
  | .error c, e, w' => e = .panicked [{ v := .iface 28 (cyV c), recovered := false }] ∧ Besides p p w0 w'
theorem OutF.ok {w0 w : World} {p B : Nat} {vals : Array Value} {X : Except Cy (Ms × List Int)} {s : Ms} {ys : List Int} (h : X = .ok (s, ys)) (hn : NowN w0 p B s ys w) : OutF w0 p B vals X (.returned (.agg vals)) w := by
  subst h
  exact ⟨rfl, hn⟩
theorem OutF.err {w0 w : World} {p B : Nat} {vals : Array Value} {X : Except Cy (Ms × List Int)} {c : Cy} (h : X = .error c) (hb : Besides p p w0 w) : OutF w0 p B vals X (.panicked [{ v := .iface 28 (cyV c), recovered := false }]) w := by
  subst h
  exact ⟨rfl, hb⟩
@[reducible] def zero4 : Array Value := #[.nilFunc, .nilFunc, .nilFunc, .nilFunc]
theorem info4 : (Tryz.prog.info? 70).map (·.size) = some 4 := by kernel_rfl
theorem alloc4 (w : World) : (Instr.alloc 70 true (.tuple #[])).run Tryz.prog w = .ok (pT w.heap.size 0) (w.alloc (.cells zero4 70)) := by
  simp [go_sem]
theorem heAlloc {P : Program} {a : Act} {o : Oper} {t : TypeId} {w w' : World} {V : Value} (ho : o.op = .alloc t) (h : (Instr.alloc t true (.tuple #[])).run P w = .ok V w') : (execOp a.eval o).run P w = .ok (.value V) w' := by
  unfold execOp
  simp only [ho, Sem.run_bind, h, Result.andThen_ok, Sem.run_pure]
theorem AtN.far {w : World} {p B L : Nat} {s : Ms} {xs : List Int} (h : AtN w p B s xs) (hp : L ≠ p) (hB : B ≤ L) (vs : List Value) (o : Nat) : AtN (w.setCells L o vs) p B s xs := by
  obtain ⟨⟨A, cap, hc, hr, hby⟩, hl, h8, hm, ht⟩ := h
  have k : ∀ b, b < B → (w.setCells L o vs).heap[b]? = w.heap[b]? := fun b hlt => heap_setCells L b (by omega) _ _ _
  exact ⟨⟨A, cap, hc, hr.setFar (Ne.symm hp) vs o, hby.keep k⟩, hl, h8, hm, ht.keep k⟩
theorem NowN.far {w0 w : World} {p B L : Nat} {s : Ms} {xs : List Int} (h : NowN w0 p B s xs w) (hp : L ≠ p) (hB : B ≤ L) (h0 : w0.heap.size ≤ L) (vs : List Value) (o : Nat) : NowN w0 p B s xs (w.setCells L o vs) :=
  ⟨h.at_.far hp hB vs o, h.bes.setCells (.inr (.inr h0)) _ _⟩
theorem NowN.base {w w0 w' : World} {p B : Nat} {s : Ms} {xs : List Int} (h : NowN w0 p B s xs w') (k : Besides p p w w0) : NowN w p B s xs w' := ⟨h.at_, k.trans h.bes⟩
theorem heFunc {P : Program} {a : Act} {o : Oper} {fn : Fn} {first cap : Array Operand} {fv cv : Array Value} (ho : o.op = .makeFunc fn first cap) (hf : first.map a.eval = fv) (hc : cap.map a.eval = cv) (w : World) : (execOp a.eval o).run P w = .ok (.value (.func fn fv cv)) w := by
  unfold execOp
  simp only [ho, hf, hc, Sem.run_bind, Sem.run_pure]
  rfl
set_option maxRecDepth 20000 in
set_option maxHeartbeats 4000000 in
theorem m_behindCB  {s : Ms} {xs : List Int} {w : World} {p B : Nat} (h : AtN w p B s xs) :
    Calls Tryz.prog 44 #[pT p 0] w (OutF w p B #[.func (.func 59) #[pT p 0] #[], .func (.func 60) #[pT p 0] #[], .func (.func 61) #[pT p 0] #[], .func (.func 62) #[pT p 0] #[]] (((codeCBN s).bind fun c => .done (c.2.split c.1)).run xs)) := by
  have hn := NowN.begin h
  have hr : ((codeCBN s).bind fun c => .done (c.2.split c.1)).run xs = ((codeCBN s).bind fun c => .done (c.2.split c.1)).run xs := rfl
  go_enter Tryz.func44, Tryz.ntmps44
  refine wp_seq_k fun K1 hK1 => regionL ?_
  refine list_make 2 (pT w.heap.size 0) rfl (wantedN rfl) (heAlloc rfl (alloc4 _)) ?_
  have hL := Row.new w 70 zero4
  have hb0 : Besides p p w (w.alloc (.cells zero4 70)) := (Besides.refl ..).alloc _
  have hLp : w.heap.size ≠ p := by have := h.lt; omega
  have hLB : B ≤ w.heap.size := by have := h.lt; have := h.low; omega
  have hn := NowN.begin (h.below (Below.alloc (Below.refl _ _) (Nat.le_refl _) (.cells zero4 70)))
  generalize w.alloc (.cells zero4 70) = W1 at *
  refine endL ?_
  try simp only [Act.put, sA, sB, sC]
  refine thenN <| hK1 _ _ <| wp_seq_k fun K2 hK2 => regionL <| oM 3 (pT p 0) <| oM 4 (pT p 0) ?_
  refine sCallI hn rfl (by kernel_rfl) (m_codeBehindCB  hn.at_) (fun _ _ hX hb => thenX (panicP rfl (OutF.err (hr.trans (Tr.run_bind_error hX _)) (hb0.trans hb)))) ?_
  intro v3 s3 xs3 w3 hX hk3 hn
  have hr := hr.trans (Tr.run_bind_ok hX _)
  refine oC (.tuple #[]) (m_split v3 (hk3) hn.at_) ?_
  intro w4 hk
  have hn := hn.after hk
  refine endL ?_
  try simp only [Act.put, sA, sB, sC]
  refine thenN <| hK2 _ _ <| wp_seq_k fun K5 hK5 => regionL <| oM 7 (pT p 0) ?_
  refine list_take 8 (.func (.func 59) #[pT p 0] #[]) rfl (wantedN rfl) (heFunc rfl (by kernel_rfl) (by kernel_rfl) _) ?_
  refine oM 9 (pT p 0) ?_
  refine list_take 10 (.func (.func 60) #[pT p 0] #[]) rfl (wantedN rfl) (heFunc rfl (by kernel_rfl) (by kernel_rfl) _) ?_
  refine oM 11 (pT p 0) ?_
  refine list_take 12 (.func (.func 61) #[pT p 0] #[]) rfl (wantedN rfl) (heFunc rfl (by kernel_rfl) (by kernel_rfl) _) ?_
  refine oM 13 (pT p 0) ?_
  refine list_take 14 (.func (.func 62) #[pT p 0] #[]) rfl (wantedN rfl) (heFunc rfl (by kernel_rfl) (by kernel_rfl) _) ?_
  refine oU 15 #[.func (.func 59) #[pT p 0] #[], .func (.func 60) #[pT p 0] #[], .func (.func 61) #[pT p 0] #[], .func (.func 62) #[pT p 0] #[]] ?_
  have hk := hL.besides hn.bes hLp hLp
  refine list_do rfl (wantedN rfl) (heStore (ad := ⟨w.heap.size, 0, none⟩) (V := .agg #[.func (.func 59) #[pT p 0] #[], .func (.func 60) #[pT p 0] #[], .func (.func 61) #[pT p 0] #[], .func (.func 62) #[pT p 0] #[]]) rfl (by kernel_rfl) (by kernel_rfl) (run_storeAt_mid _ _ 0 _ #[.func (.func 59) #[pT p 0] #[], .func (.func 60) #[pT p 0] #[], .func (.func 61) #[pT p 0] #[], .func (.func 62) #[pT p 0] #[]] hk.there info4 (by simp [Value.oneCell']))) ?_
  have hr4 := hk.setAll (vs := #[.func (.func 59) #[pT p 0] #[], .func (.func 60) #[pT p 0] #[], .func (.func 61) #[pT p 0] #[], .func (.func 62) #[pT p 0] #[]]) rfl
  have hn := (hn.base hb0).far hLp hLB (Nat.le_refl _) (#[.func (.func 59) #[pT p 0] #[], .func (.func 60) #[pT p 0] #[], .func (.func 61) #[pT p 0] #[], .func (.func 62) #[pT p 0] #[]] : Array Value).toList 0
  refine endL ?_
  try simp only [Act.put, sA, sB, sC]
  refine thenN <| hK5 _ _ ?_
  refine wp_ret ?_
  refine bodyPost_ret (results_row rfl rfl hr4 _ Tryz.underlying70 rfl info4) rfl ?_
  exact OutF.ok (hr.trans (Tr.run_done _ _)) hn
set_option maxRecDepth 20000 in
set_option maxHeartbeats 4000000 in
theorem m_behindED  {s : Ms} {xs : List Int} {w : World} {p B : Nat} (h : AtN w p B s xs) :
    Calls Tryz.prog 45 #[pT p 0] w (OutF w p B #[.func (.func 63) #[pT p 0] #[], .func (.func 64) #[pT p 0] #[], .func (.func 65) #[pT p 0] #[], .func (.func 63) #[pT p 0] #[]] (((fetchN (s.u_plane 0)).bind fun c => .done (c.2.split c.1)).run xs)) := by
  have hn := NowN.begin h
  have hr : ((fetchN (s.u_plane 0)).bind fun c => .done (c.2.split c.1)).run xs = ((fetchN (s.u_plane 0)).bind fun c => .done (c.2.split c.1)).run xs := rfl
  go_enter Tryz.func45, Tryz.ntmps45
  refine wp_seq_k fun K1 hK1 => regionL ?_
  refine list_make 2 (pT w.heap.size 0) rfl (wantedN rfl) (heAlloc rfl (alloc4 _)) ?_
  have hL := Row.new w 70 zero4
  have hb0 : Besides p p w (w.alloc (.cells zero4 70)) := (Besides.refl ..).alloc _
  have hLp : w.heap.size ≠ p := by have := h.lt; omega
  have hLB : B ≤ w.heap.size := by have := h.lt; have := h.low; omega
  have hn := NowN.begin (h.below (Below.alloc (Below.refl _ _) (Nat.le_refl _) (.cells zero4 70)))
  generalize w.alloc (.cells zero4 70) = W1 at *
  refine endL ?_
  try simp only [Act.put, sA, sB, sC]
  refine thenN <| hK1 _ _ <| wp_seq_k fun K2 hK2 => regionL <| oM 3 (pT p 0) <| oN 4 p 0 <| oF 5 (fM2 p) ?_
  refine sSetN hn 21 (.int .i64 (0)) (s.u_plane (0)) rfl rfl rfl (by kernel_rfl) (by kernel_rfl) (stI (hn.at_.cell 21 _ fun _ _ _ => rfl) (hn.at_.frozen 21)) (mu_plane _ _) (hn.at_.ms.u_plane ((by decide))) ?_
  intro w3 hn
  refine endL ?_
  try simp only [Act.put, sA, sB, sC]
  refine thenN <| hK2 _ _ <| wp_seq_k fun K4 hK4 => regionL <| oM 6 (pT p 0) <| oM 7 (pT p 0) ?_
  refine sCallI hn rfl (by kernel_rfl) (m_fetch  hn.at_) (fun _ _ hX hb => thenX (panicP rfl (OutF.err (hr.trans (Tr.run_bind_error hX _)) (hb0.trans hb)))) ?_
  intro v5 s5 xs5 w5 hX hk5 hn
  have hr := hr.trans (Tr.run_bind_ok hX _)
  refine oC (.tuple #[]) (m_split v5 (hk5) hn.at_) ?_
  intro w6 hk
  have hn := hn.after hk
  refine endL ?_
  try simp only [Act.put, sA, sB, sC]
  refine thenN <| hK4 _ _ <| wp_seq_k fun K7 hK7 => regionL <| oM 10 (pT p 0) ?_
  refine list_take 11 (.func (.func 63) #[pT p 0] #[]) rfl (wantedN rfl) (heFunc rfl (by kernel_rfl) (by kernel_rfl) _) ?_
  refine oM 12 (pT p 0) ?_
  refine list_take 13 (.func (.func 64) #[pT p 0] #[]) rfl (wantedN rfl) (heFunc rfl (by kernel_rfl) (by kernel_rfl) _) ?_
  refine oM 14 (pT p 0) ?_
  refine list_take 15 (.func (.func 65) #[pT p 0] #[]) rfl (wantedN rfl) (heFunc rfl (by kernel_rfl) (by kernel_rfl) _) ?_
  refine oM 16 (pT p 0) ?_
  refine list_take 17 (.func (.func 63) #[pT p 0] #[]) rfl (wantedN rfl) (heFunc rfl (by kernel_rfl) (by kernel_rfl) _) ?_
  refine oU 18 #[.func (.func 63) #[pT p 0] #[], .func (.func 64) #[pT p 0] #[], .func (.func 65) #[pT p 0] #[], .func (.func 63) #[pT p 0] #[]] ?_
  have hk := hL.besides hn.bes hLp hLp
  refine list_do rfl (wantedN rfl) (heStore (ad := ⟨w.heap.size, 0, none⟩) (V := .agg #[.func (.func 63) #[pT p 0] #[], .func (.func 64) #[pT p 0] #[], .func (.func 65) #[pT p 0] #[], .func (.func 63) #[pT p 0] #[]]) rfl (by kernel_rfl) (by kernel_rfl) (run_storeAt_mid _ _ 0 _ #[.func (.func 63) #[pT p 0] #[], .func (.func 64) #[pT p 0] #[], .func (.func 65) #[pT p 0] #[], .func (.func 63) #[pT p 0] #[]] hk.there info4 (by simp [Value.oneCell']))) ?_
  have hr4 := hk.setAll (vs := #[.func (.func 63) #[pT p 0] #[], .func (.func 64) #[pT p 0] #[], .func (.func 65) #[pT p 0] #[], .func (.func 63) #[pT p 0] #[]]) rfl
  have hn := (hn.base hb0).far hLp hLB (Nat.le_refl _) (#[.func (.func 63) #[pT p 0] #[], .func (.func 64) #[pT p 0] #[], .func (.func 65) #[pT p 0] #[], .func (.func 63) #[pT p 0] #[]] : Array Value).toList 0
  refine endL ?_
  try simp only [Act.put, sA, sB, sC]
  refine thenN <| hK7 _ _ ?_
  refine wp_ret ?_
  refine bodyPost_ret (results_row rfl rfl hr4 _ Tryz.underlying70 rfl info4) rfl ?_
  exact OutF.ok (hr.trans (Tr.run_done _ _)) hn
set_option maxRecDepth 20000 in
set_option maxHeartbeats 4000000 in
theorem m_alone (c : Int) (hAc : B8 c) {s : Ms} {xs : List Int} {w : World} {p B : Nat} (h : AtN w p B s xs) :
    Calls Tryz.prog 46 #[pT p 0, .int .u8 (c)] w (OutF w p B #[.func (.func 69) #[pT p 0] #[], .func (.func 70) #[pT p 0] #[], .func (.func 71) #[pT p 0] #[], .func (.func 72) #[pT p 0] #[]] ((aloneHead c s).run xs)) := by
  have hn := NowN.begin h
  have hr : (aloneHead c s).run xs = (aloneHead c s).run xs := rfl
  go_enter Tryz.func46, Tryz.ntmps46
  refine wp_seq_k fun K1 hK1 => regionL ?_
  refine list_make 4 (pT w.heap.size 0) rfl (wantedN rfl) (heAlloc rfl (alloc4 _)) ?_
  have hL := Row.new w 70 zero4
  have hb0 : Besides p p w (w.alloc (.cells zero4 70)) := (Besides.refl ..).alloc _
  have hLp : w.heap.size ≠ p := by have := h.lt; omega
  have hLB : B ≤ w.heap.size := by have := h.lt; have := h.low; omega
  have hn := NowN.begin (h.below (Below.alloc (Below.refl _ _) (Nat.le_refl _) (.cells zero4 70)))
  generalize w.alloc (.cells zero4 70) = W1 at *
  refine endL ?_
  try simp only [Act.put, sA, sB, sC]
  refine thenN <| hK1 _ _ <| wp_seq_k fun K2 hK2 => regionL <| oM 5 (pT p 0) <| oM 6 (.int .u8 (c)) <| oC (.tuple #[]) (m_split c (hAc) hn.at_) ?_
  intro w3 hk
  have hn := hn.after hk
  refine endL ?_
  try simp only [Act.put, sA, sB, sC]
  refine thenN <| hK2 _ _ <| wp_seq_k fun K4 hK4 => wp_seq_k fun K5 hK5 => regionL <| oM 8 (pT p 0) <| oN 9 p 0 <| oF 10 (fM2 p) <| oL 11 (ldI (hn.at_.cell 21 (.int .i64 ((s.split c).plane)) fun _ _ _ => rfl)) <| oM 12 (.int .u8 (c)) <| oC (.bool (nearM ((s.split c).plane) c)) (dnear_any ((s.split c).plane) c (hAc) _) ?_
  rintro _ rfl
  refine endL ?_
  try simp only [Act.put, sA, sB, sC]
  refine thenN <| hK5 _ _ ?_
  refine wp_cond_split (t := nearM ((s.split c).plane) c) (by kernel_rfl) (fun h7 => ?_) (fun h7 => ?_)
  · skip
    have g7 : nearM ((s.split c).plane) c = true := by simpa using h7
    have hr := hr.trans (run_if_pos g7)
    refine wp_seq_k fun K8 hK8 => regionL <| oM 14 (pT p 0) ?_
    refine sCallV hn rfl (by kernel_rfl) (m_aim  hn.at_) (fun _ _ hX hb => thenX (thenX (panicP rfl (OutF.err (hr.trans (Tr.run_bind_error hX _)) (hb0.trans hb))))) ?_
    intro s9 xs9 w9 hX hn
    have hr := hr.trans (Tr.run_bind_ok hX _)
    refine endL ?_
    try simp only [Act.put, sA, sB, sC]
    refine thenN <| hK8 _ _ <| wp_seq_k fun K10 hK10 => regionL <| oM 16 (pT p 0) <| oN 17 p 0 <| oF 18 (fM3 p) <| oL 19 (ldI (hn.at_.cell 22 (.int .i64 (s9.x)) fun _ _ _ => rfl)) <| oB 20 (egI _ _ _ _ _) (bNeI s9.x 0) <| oM 21 (.bool (s9.x != 0)) ?_
    rcases Bool.eq_false_or_eq_true (s9.x != 0) with h11 | h11
    · skip
      have g11 : ¬ s9.x = 0 := by simpa using h11
      rewrite [h11]
      refine oZ 22 <| oZ 23 <| oZ 24 <| oZ 25 <| oZ 26 <| oP 27 (.bool (true)) true ?_
      refine endL ?_
      try simp only [Act.put, sA, sB, sC]
      refine thenN <| hK10 _ _ ?_
      refine wp_cond_true (by kernel_rfl) ?_
      have hr := hr.trans (run_if_pos (.inl g11))
      refine regionL <| oM 28 (pT p 0) ?_
      refine sCallV hn rfl (by kernel_rfl) (m_pause 5 hn.at_) (fun _ _ hX hb => thenX (panicP rfl (OutF.err (hr.trans (Tr.run_bind_error hX _)) (hb0.trans hb)))) ?_
      intro s12 xs12 w12 hX hn
      have hr := hr.trans (Tr.run_bind_ok hX _)
      refine endL ?_
      try simp only [Act.put, sA, sB, sC]
      refine thenN <| hK4 _ _ <| wp_seq_k fun K13 hK13 => regionL <| oM 30 (pT p 0) ?_
      refine list_take 31 (.func (.func 69) #[pT p 0] #[]) rfl (wantedN rfl) (heFunc rfl (by kernel_rfl) (by kernel_rfl) _) ?_
      refine oM 32 (pT p 0) ?_
      refine list_take 33 (.func (.func 70) #[pT p 0] #[]) rfl (wantedN rfl) (heFunc rfl (by kernel_rfl) (by kernel_rfl) _) ?_
      refine oM 34 (pT p 0) ?_
      refine list_take 35 (.func (.func 71) #[pT p 0] #[]) rfl (wantedN rfl) (heFunc rfl (by kernel_rfl) (by kernel_rfl) _) ?_
      refine oM 36 (pT p 0) ?_
      refine list_take 37 (.func (.func 72) #[pT p 0] #[]) rfl (wantedN rfl) (heFunc rfl (by kernel_rfl) (by kernel_rfl) _) ?_
      refine oU 38 #[.func (.func 69) #[pT p 0] #[], .func (.func 70) #[pT p 0] #[], .func (.func 71) #[pT p 0] #[], .func (.func 72) #[pT p 0] #[]] ?_
      have hk := hL.besides hn.bes hLp hLp
      refine list_do rfl (wantedN rfl) (heStore (ad := ⟨w.heap.size, 0, none⟩) (V := .agg #[.func (.func 69) #[pT p 0] #[], .func (.func 70) #[pT p 0] #[], .func (.func 71) #[pT p 0] #[], .func (.func 72) #[pT p 0] #[]]) rfl (by kernel_rfl) (by kernel_rfl) (run_storeAt_mid _ _ 0 _ #[.func (.func 69) #[pT p 0] #[], .func (.func 70) #[pT p 0] #[], .func (.func 71) #[pT p 0] #[], .func (.func 72) #[pT p 0] #[]] hk.there info4 (by simp [Value.oneCell']))) ?_
      have hr4 := hk.setAll (vs := #[.func (.func 69) #[pT p 0] #[], .func (.func 70) #[pT p 0] #[], .func (.func 71) #[pT p 0] #[], .func (.func 72) #[pT p 0] #[]]) rfl
      have hn := (hn.base hb0).far hLp hLB (Nat.le_refl _) (#[.func (.func 69) #[pT p 0] #[], .func (.func 70) #[pT p 0] #[], .func (.func 71) #[pT p 0] #[], .func (.func 72) #[pT p 0] #[]] : Array Value).toList 0
      refine endL ?_
      try simp only [Act.put, sA, sB, sC]
      refine thenN <| hK13 _ _ ?_
      refine wp_ret ?_
      refine bodyPost_ret (results_row rfl rfl hr4 _ Tryz.underlying70 rfl info4) rfl ?_
      exact OutF.ok (hr.trans (Tr.run_done _ _)) hn
    · skip
      have g11 : s9.x = 0 := by simpa using h11
      rewrite [h11]
      refine oY 22 (pT p 0) <| oT 23 (pT p 0) (heNil (ad := ⟨p, 0, none⟩) rfl (by kernel_rfl) _) <| oT 24 (pT p 24) (heField (V := pT p 0) (R := pT p 24) rfl (by kernel_rfl) (fM5 p) _) <| oT 25 (.int .i64 (s9.z)) (heLoad rfl (by kernel_rfl) (ldI (hn.at_.cell 24 (.int .i64 (s9.z)) fun _ _ _ => rfl))) <| oT 26 (.bool (s9.z != 6)) (heBin (V := .int .i64 (s9.z)) (W := .int .i64 (6)) (R := .bool (s9.z != 6)) rfl (by kernel_rfl) (by kernel_rfl) (egI _ _ _ _ _) (bNeI s9.z 6) _) <| oP 27 (.bool (s9.z != 6)) false ?_
      refine endL ?_
      try simp only [Act.put, sA, sB, sC]
      refine thenN <| hK10 _ _ ?_
      refine wp_cond_split (t := s9.z != 6) (by kernel_rfl) (fun h14 => ?_) (fun h14 => ?_)
      · skip
        have g14 : ¬ s9.z = 6 := by simpa using h14
        have hr := hr.trans (run_if_pos (.inr g14))
        refine regionL <| oM 28 (pT p 0) ?_
        refine sCallV hn rfl (by kernel_rfl) (m_pause 5 hn.at_) (fun _ _ hX hb => thenX (panicP rfl (OutF.err (hr.trans (Tr.run_bind_error hX _)) (hb0.trans hb)))) ?_
        intro s15 xs15 w15 hX hn
        have hr := hr.trans (Tr.run_bind_ok hX _)
        refine endL ?_
        try simp only [Act.put, sA, sB, sC]
        refine thenN <| hK4 _ _ <| wp_seq_k fun K16 hK16 => regionL <| oM 30 (pT p 0) ?_
        refine list_take 31 (.func (.func 69) #[pT p 0] #[]) rfl (wantedN rfl) (heFunc rfl (by kernel_rfl) (by kernel_rfl) _) ?_
        refine oM 32 (pT p 0) ?_
        refine list_take 33 (.func (.func 70) #[pT p 0] #[]) rfl (wantedN rfl) (heFunc rfl (by kernel_rfl) (by kernel_rfl) _) ?_
        refine oM 34 (pT p 0) ?_
        refine list_take 35 (.func (.func 71) #[pT p 0] #[]) rfl (wantedN rfl) (heFunc rfl (by kernel_rfl) (by kernel_rfl) _) ?_
        refine oM 36 (pT p 0) ?_
        refine list_take 37 (.func (.func 72) #[pT p 0] #[]) rfl (wantedN rfl) (heFunc rfl (by kernel_rfl) (by kernel_rfl) _) ?_
        refine oU 38 #[.func (.func 69) #[pT p 0] #[], .func (.func 70) #[pT p 0] #[], .func (.func 71) #[pT p 0] #[], .func (.func 72) #[pT p 0] #[]] ?_
        have hk := hL.besides hn.bes hLp hLp
        refine list_do rfl (wantedN rfl) (heStore (ad := ⟨w.heap.size, 0, none⟩) (V := .agg #[.func (.func 69) #[pT p 0] #[], .func (.func 70) #[pT p 0] #[], .func (.func 71) #[pT p 0] #[], .func (.func 72) #[pT p 0] #[]]) rfl (by kernel_rfl) (by kernel_rfl) (run_storeAt_mid _ _ 0 _ #[.func (.func 69) #[pT p 0] #[], .func (.func 70) #[pT p 0] #[], .func (.func 71) #[pT p 0] #[], .func (.func 72) #[pT p 0] #[]] hk.there info4 (by simp [Value.oneCell']))) ?_
        have hr4 := hk.setAll (vs := #[.func (.func 69) #[pT p 0] #[], .func (.func 70) #[pT p 0] #[], .func (.func 71) #[pT p 0] #[], .func (.func 72) #[pT p 0] #[]]) rfl
        have hn := (hn.base hb0).far hLp hLB (Nat.le_refl _) (#[.func (.func 69) #[pT p 0] #[], .func (.func 70) #[pT p 0] #[], .func (.func 71) #[pT p 0] #[], .func (.func 72) #[pT p 0] #[]] : Array Value).toList 0
        refine endL ?_
        try simp only [Act.put, sA, sB, sC]
        refine thenN <| hK16 _ _ ?_
        refine wp_ret ?_
        refine bodyPost_ret (results_row rfl rfl hr4 _ Tryz.underlying70 rfl info4) rfl ?_
        exact OutF.ok (hr.trans (Tr.run_done _ _)) hn
      · skip
        have g14 : s9.z = 6 := by simpa using h14
        have hr := hr.trans (run_if_neg (by simp [g14, g11, g7]))
        refine wp_skip ?_
        refine thenN <| hK4 _ _ <| wp_seq_k fun K17 hK17 => regionL <| oM 30 (pT p 0) ?_
        refine list_take 31 (.func (.func 69) #[pT p 0] #[]) rfl (wantedN rfl) (heFunc rfl (by kernel_rfl) (by kernel_rfl) _) ?_
        refine oM 32 (pT p 0) ?_
        refine list_take 33 (.func (.func 70) #[pT p 0] #[]) rfl (wantedN rfl) (heFunc rfl (by kernel_rfl) (by kernel_rfl) _) ?_
        refine oM 34 (pT p 0) ?_
        refine list_take 35 (.func (.func 71) #[pT p 0] #[]) rfl (wantedN rfl) (heFunc rfl (by kernel_rfl) (by kernel_rfl) _) ?_
        refine oM 36 (pT p 0) ?_
        refine list_take 37 (.func (.func 72) #[pT p 0] #[]) rfl (wantedN rfl) (heFunc rfl (by kernel_rfl) (by kernel_rfl) _) ?_
        refine oU 38 #[.func (.func 69) #[pT p 0] #[], .func (.func 70) #[pT p 0] #[], .func (.func 71) #[pT p 0] #[], .func (.func 72) #[pT p 0] #[]] ?_
        have hk := hL.besides hn.bes hLp hLp
        refine list_do rfl (wantedN rfl) (heStore (ad := ⟨w.heap.size, 0, none⟩) (V := .agg #[.func (.func 69) #[pT p 0] #[], .func (.func 70) #[pT p 0] #[], .func (.func 71) #[pT p 0] #[], .func (.func 72) #[pT p 0] #[]]) rfl (by kernel_rfl) (by kernel_rfl) (run_storeAt_mid _ _ 0 _ #[.func (.func 69) #[pT p 0] #[], .func (.func 70) #[pT p 0] #[], .func (.func 71) #[pT p 0] #[], .func (.func 72) #[pT p 0] #[]] hk.there info4 (by simp [Value.oneCell']))) ?_
        have hr4 := hk.setAll (vs := #[.func (.func 69) #[pT p 0] #[], .func (.func 70) #[pT p 0] #[], .func (.func 71) #[pT p 0] #[], .func (.func 72) #[pT p 0] #[]]) rfl
        have hn := (hn.base hb0).far hLp hLB (Nat.le_refl _) (#[.func (.func 69) #[pT p 0] #[], .func (.func 70) #[pT p 0] #[], .func (.func 71) #[pT p 0] #[], .func (.func 72) #[pT p 0] #[]] : Array Value).toList 0
        refine endL ?_
        try simp only [Act.put, sA, sB, sC]
        refine thenN <| hK17 _ _ ?_
        refine wp_ret ?_
        refine bodyPost_ret (results_row rfl rfl hr4 _ Tryz.underlying70 rfl info4) rfl ?_
        exact OutF.ok (hr.trans (Tr.run_done _ _)) hn
  · skip
    have g7 : ¬ nearM ((s.split c).plane) c = true := by simpa using h7
    have hr := hr.trans (run_if_neg g7)
    refine wp_skip ?_
    refine thenN <| hK4 _ _ <| wp_seq_k fun K18 hK18 => regionL <| oM 30 (pT p 0) ?_
    refine list_take 31 (.func (.func 69) #[pT p 0] #[]) rfl (wantedN rfl) (heFunc rfl (by kernel_rfl) (by kernel_rfl) _) ?_
    refine oM 32 (pT p 0) ?_
    refine list_take 33 (.func (.func 70) #[pT p 0] #[]) rfl (wantedN rfl) (heFunc rfl (by kernel_rfl) (by kernel_rfl) _) ?_
    refine oM 34 (pT p 0) ?_
    refine list_take 35 (.func (.func 71) #[pT p 0] #[]) rfl (wantedN rfl) (heFunc rfl (by kernel_rfl) (by kernel_rfl) _) ?_
    refine oM 36 (pT p 0) ?_
    refine list_take 37 (.func (.func 72) #[pT p 0] #[]) rfl (wantedN rfl) (heFunc rfl (by kernel_rfl) (by kernel_rfl) _) ?_
    refine oU 38 #[.func (.func 69) #[pT p 0] #[], .func (.func 70) #[pT p 0] #[], .func (.func 71) #[pT p 0] #[], .func (.func 72) #[pT p 0] #[]] ?_
    have hk := hL.besides hn.bes hLp hLp
    refine list_do rfl (wantedN rfl) (heStore (ad := ⟨w.heap.size, 0, none⟩) (V := .agg #[.func (.func 69) #[pT p 0] #[], .func (.func 70) #[pT p 0] #[], .func (.func 71) #[pT p 0] #[], .func (.func 72) #[pT p 0] #[]]) rfl (by kernel_rfl) (by kernel_rfl) (run_storeAt_mid _ _ 0 _ #[.func (.func 69) #[pT p 0] #[], .func (.func 70) #[pT p 0] #[], .func (.func 71) #[pT p 0] #[], .func (.func 72) #[pT p 0] #[]] hk.there info4 (by simp [Value.oneCell']))) ?_
    have hr4 := hk.setAll (vs := #[.func (.func 69) #[pT p 0] #[], .func (.func 70) #[pT p 0] #[], .func (.func 71) #[pT p 0] #[], .func (.func 72) #[pT p 0] #[]]) rfl
    have hn := (hn.base hb0).far hLp hLB (Nat.le_refl _) (#[.func (.func 69) #[pT p 0] #[], .func (.func 70) #[pT p 0] #[], .func (.func 71) #[pT p 0] #[], .func (.func 72) #[pT p 0] #[]] : Array Value).toList 0
    refine endL ?_
    try simp only [Act.put, sA, sB, sC]
    refine thenN <| hK18 _ _ ?_
    refine wp_ret ?_
    refine bodyPost_ret (results_row rfl rfl hr4 _ Tryz.underlying70 rfl info4) rfl ?_
    exact OutF.ok (hr.trans (Tr.run_done _ _)) hn
def lenAt (p : Nat) (w : World) : Nat := match w.cell? ⟨p, 20, none⟩ with | some (.slice _ n _) => n | _ => 0
theorem AtN.len {w : World} {p B : Nat} {s : Ms} {xs : List Int} (h : AtN w p B s xs) : lenAt p w = xs.length := by
  obtain ⟨A, cap, hc, hr, hb⟩ := h.row
  have e : w.cell? ⟨p, 20, none⟩ = some (.slice A xs.length cap) := hr.cell 20
  unfold lenAt
  rw [e]
section
variable {ops : Array Oper} {Q : Exit → Act → World → Prop} {a : Act} {w w0 W1 : World} {o : Oper} {rest : List Oper} {p B L : Nat} {s : Ms} {xs : List Int} {x y : Operand}
theorem sAlloc4 (d : Tmp) (hn : NowN w0 p B s xs w) (hd : o.dst = some d) (hg : o.guard = none) (ho : o.op = .alloc 70)
    (h : ∀ w' L, L ≠ p → B ≤ L → w0.heap.size ≤ L → Row w' L 70 zero4 → AtN w' p B s xs → Besides p p w0 w' → WL Tryz.prog ops Q rest (a.put (some d) (pT L 0)) w') : WL Tryz.prog ops Q (o :: rest) a w := by
  have hlt := hn.at_.lt
  have hlow := hn.at_.low
  refine list_make d (pT w.heap.size 0) hd (wantedN hg) (heAlloc ho (alloc4 _)) ?_
  exact h _ _ (by omega) (by omega) hn.bes.size (Row.new w _ zero4) (hn.at_.below (Below.alloc (Below.refl _ _) (Nat.le_refl _) _)) (hn.bes.alloc _)
theorem sPut4 (hn : NowN W1 p B s xs w) (hb0 : Besides p p w0 W1) (hL : Row W1 L 70 zero4) (hLp : L ≠ p) (hLB : B ≤ L) (hL0 : w0.heap.size ≤ L) (vals : Array Value) (hv : vals.size = 4) (h1 : vals.all (·.oneCell') = true)
    (hd : o.dst = none) (hg : o.guard = none) (ho : o.op = .store 70 x y) (hx : a.eval x = pT L 0) (hy : a.eval y = .agg vals)
    (h : ∀ w', Row w' L 70 vals → NowN w0 p B s xs w' → WL Tryz.prog ops Q rest (a.put none undef) w') : WL Tryz.prog ops Q (o :: rest) a w := by
  have hk := hL.besides hn.bes hLp hLp
  refine list_do hd (wantedN hg) (heStore ho hx hy (run_storeAt_mid w L 0 _ vals (by rw [hv]; exact hk.there) (by rw [hv]; exact info4) h1)) ?_
  exact h _ (hk.setAll (by rw [hv]; rfl)) ((hn.base hb0).far hLp hLB hL0 _ _)
theorem sCallF {vals : Array Value} {X : Except Cy (Ms × List Int)} {g : FuncId} {args : Array Value} (hn : NowN w0 p B s xs w) (hg : o.guard = none) (he : (execOp a.eval o).run Tryz.prog w = .ok (.enter g args) w) (hc : Calls Tryz.prog g args w (OutF w p B vals X))
    (hP : ∀ c w', X = .error c → Besides p p w0 w' → Q (.panic [{ v := .iface 28 (cyV c), recovered := false }]) a w')
    (hK : ∀ s ys w', X = .ok (s, ys) → NowN w0 p B s ys w' → WL Tryz.prog ops Q rest (a.put o.dst (.agg vals)) w') : WL Tryz.prog ops Q (o :: rest) a w :=
  list_call (wantedN hg) he hc fun e w' ho => by
    rcases X with c | ⟨s, ys⟩
    · obtain ⟨rfl, hb⟩ := ho
      exact hP c w' rfl (hn.bes.trans hb)
    · obtain ⟨rfl, hN⟩ := ho
      exact hK s ys w' rfl (hn.after hN)
end
theorem idxF_0 (L : Nat) (w : World) : (Instr.indexAt 70 (pT L 0) (.int .i64 0)).run Tryz.prog w = .ok (pT L 0) w := by simp [go_sem, Addr.add]
theorem idxF_1 (L : Nat) (w : World) : (Instr.indexAt 70 (pT L 0) (.int .i64 1)).run Tryz.prog w = .ok (pT L 1) w := by simp [go_sem, Addr.add]
theorem idxF_2 (L : Nat) (w : World) : (Instr.indexAt 70 (pT L 0) (.int .i64 2)).run Tryz.prog w = .ok (pT L 2) w := by simp [go_sem, Addr.add]
theorem idxF_3 (L : Nat) (w : World) : (Instr.indexAt 70 (pT L 0) (.int .i64 3)).run Tryz.prog w = .ok (pT L 3) w := by simp [go_sem, Addr.add]
theorem ldF {w : World} {ad : Addr} {V : Value} (h : w.cell? ad = some V) : (Instr.loadAt 1 (.pointer (some ad))).run Tryz.prog w = .ok V w := by simp [go_sem, h]
theorem four_x {s : Ms} (h : MsB s) : s.x = 0 ∨ s.x = 1 ∨ s.x = 2 ∨ s.x = 3 := by have := h.x; omega
theorem AtN.isX {w : World} {p B : Nat} {s : Ms} {xs : List Int} (h : AtN w p B s xs) {k : Int} (hx : s.x = k) : w.cell? ⟨p, 22, none⟩ = some (.int .i64 k) := by
  subst hx
  exact h.cell 22 _ fun _ _ _ => rfl
set_option maxRecDepth 20000 in
set_option maxHeartbeats 16000000 in
theorem m_instruction (c : Int) (hAc : B8 c) {s : Ms} {xs : List Int} {w : World} {p B : Nat} (h : AtN w p B s xs) :
    Calls Tryz.prog 24 #[pT p 0, .int .u8 (c)] w (OutV w p B (execN xs c s.noLate)) := by
  have hn := NowN.begin h
  go_enter Tryz.func24, Tryz.ntmps24
  refine wp_seq_k fun K1 hK1 => regionL <| oM 5 (pT p 0) <| oN 6 p 0 <| oF 7 (fM0 p) <| oF 8 (fR18 p) ?_
  refine sSetN hn 18 (.bool (false)) (s.u_late (false)) rfl rfl rfl (by kernel_rfl) (by kernel_rfl) (stB (hn.at_.cell 18 _ fun _ _ _ => rfl) (hn.at_.frozen 18)) (mu_late _ _) (hn.at_.ms.u_late) ?_
  intro w2 hn
  refine endL ?_
  try simp only [Act.put, sA, sB, sC]
  refine thenN <| hK1 _ _ <| wp_seq_k fun K3 hK3 => ?_
  refine wp_block ?_
  refine wp_loop (fun a' w' => ∃ (c1 : Int) (s1 : Ms) (xs1 : List Int) (y9 y10 y11 y12 y13 y14 y15 y16 y17 y18 y19 y20 y21 y22 y23 y24 : Value), a' = { tmps := #[pT p 0, .int .u8 c1, undef, undef, undef, pT p 0, pT p 0, pT p 0, pT p 18, y9, y10, y11, y12, y13, y14, y15, y16, y17, y18, y19, y20, y21, y22, y23, y24, undef, undef, undef, undef, undef, undef, undef, undef, undef, undef, undef, undef, undef, undef, undef, undef, undef, undef, undef, undef, undef, undef, undef, undef, undef, undef, undef], defers := [] } ∧ NowN w p B s1 xs1 w' ∧ B8 c1 ∧ execN xs c (s.u_late (false)) = execN xs1 c1 s1) (fun _ w' => lenAt p w') ⟨c, s.u_late (false), xs, undef, undef, undef, undef, undef, undef, undef, undef, undef, undef, undef, undef, undef, undef, undef, undef, rfl, hn, hAc, rfl⟩ ?_
  rintro a1 w1 ⟨c1, s1, xs1, y9, y10, y11, y12, y13, y14, y15, y16, y17, y18, y19, y20, y21, y22, y23, y24, rfl, hn, hc1, hX0⟩
  have hl1 := hn.at_.len
  refine wp_seq_k fun K4 hK4 => wp_seq_k fun K5 hK5 => regionL <| oM 9 (.int .u8 (c1)) <| oB 10 (eg8 _ _ _ _ _) (bEq8 c1 221) <| oM 11 (.bool (c1 == 221)) ?_
  rcases Bool.eq_false_or_eq_true (c1 == 221) with h6 | h6
  · skip
    have g6 : c1 = 221 := by simpa using h6
    rewrite [h6]
    refine oZ 12 <| oZ 13 <| oP 14 (.bool (true)) true ?_
    refine endL ?_
    try simp only [Act.put, sA, sB, sC]
    refine thenN <| hK5 _ _ ?_
    refine wp_cond_true (by kernel_rfl) ?_
    refine wp_skip ?_
    refine thenN <| hK4 _ _ ?_
    refine wp_block ?_
    refine wp_seq_k fun K7 hK7 => regionL <| oM 15 (pT p 0) <| oN 16 p 0 <| oF 17 (fM2 p) ?_
    refine sSetN hn 21 (.int .i64 (3)) (s1.u_plane (3)) rfl rfl rfl (by kernel_rfl) (by kernel_rfl) (stI (hn.at_.cell 21 _ fun _ _ _ => rfl) (hn.at_.frozen 21)) (mu_plane _ _) (hn.at_.ms.u_plane ((by decide))) ?_
    intro w8 hn
    refine endL ?_
    try simp only [Act.put, sA, sB, sC]
    refine thenN <| hK7 _ _ <| wp_seq_k fun K9 hK9 => wp_seq_k fun K10 hK10 => regionL <| oM 18 (.int .u8 (c1)) <| oB 19 (eg8 _ _ _ _ _) (bEq8 c1 253) ?_
    refine endL ?_
    try simp only [Act.put, sA, sB, sC]
    refine thenN <| hK10 _ _ ?_
    refine wp_cond_split (t := c1 == 253) (by kernel_rfl) (fun h11 => ?_) (fun h11 => ?_)
    · skip
      have g11 : c1 = 253 := by simpa using h11
      refine regionL <| oM 20 (pT p 0) <| oN 21 p 0 <| oF 22 (fM2 p) ?_
      refine sSetN hn 21 (.int .i64 (4)) ((s1.u_plane (3)).u_plane (4)) rfl rfl rfl (by kernel_rfl) (by kernel_rfl) (stI (hn.at_.cell 21 _ fun _ _ _ => rfl) (hn.at_.frozen 21)) (mu_plane _ _) (hn.at_.ms.u_plane ((by decide))) ?_
      intro w12 hn
      refine endL ?_
      try simp only [Act.put, sA, sB, sC]
      refine thenN <| hK9 _ _ <| regionL <| oM 23 (pT p 0) ?_
      have hp := hX0.trans (exec_pre (by first | exact .inl (by assumption) | exact .inr (by assumption)) (show (s1.u_plane (3)).u_plane (4) = s1.toPlane (if c1 = 253 then 4 else 3) by first | (rw [if_pos (by assumption)]; rfl) | (rw [if_neg (by assumption)]; rfl)) xs1)
      refine sCallI hn rfl (by kernel_rfl) (m_fetch  hn.at_) (fun c w' hX hb => blockX (thenX (blockX (thenX (panicP rfl (OutV.err (hp.trans (by rw [hX])) hb)))))) ?_
      intro v13 s13 xs13 w13 hX hk13 hn
      have hl := fetch_len hX
      rw [hX] at hp
      refine oA 1 (.int .u8 (v13)) ?_
      refine endL ?_
      try simp only [Act.put, sA, sB, sC]
      refine blockN ?_
      exact thenN ⟨⟨v13, s13, xs13, .int .u8 (c1), .bool (true), .bool (true), undef, undef, .bool (true), pT p 0, pT p 0, pT p 21, .int .u8 (c1), .bool (c1 == 253), pT p 0, pT p 0, pT p 21, pT p 0, .int .u8 (v13), rfl, hn, hk13, hp⟩, by rw [hn.at_.len, hl1]; exact hl⟩
    · skip
      have g11 : ¬ c1 = 253 := by simpa using h11
      refine wp_skip ?_
      refine thenN <| hK9 _ _ <| regionL <| oM 23 (pT p 0) ?_
      have hp := hX0.trans (exec_pre (by first | exact .inl (by assumption) | exact .inr (by assumption)) (show s1.u_plane (3) = s1.toPlane (if c1 = 253 then 4 else 3) by first | (rw [if_pos (by assumption)]; rfl) | (rw [if_neg (by assumption)]; rfl)) xs1)
      refine sCallI hn rfl (by kernel_rfl) (m_fetch  hn.at_) (fun c w' hX hb => blockX (thenX (blockX (thenX (panicP rfl (OutV.err (hp.trans (by rw [hX])) hb)))))) ?_
      intro v14 s14 xs14 w14 hX hk14 hn
      have hl := fetch_len hX
      rw [hX] at hp
      refine oA 1 (.int .u8 (v14)) ?_
      refine endL ?_
      try simp only [Act.put, sA, sB, sC]
      refine blockN ?_
      exact thenN ⟨⟨v14, s14, xs14, .int .u8 (c1), .bool (true), .bool (true), undef, undef, .bool (true), pT p 0, pT p 0, pT p 21, .int .u8 (c1), .bool (c1 == 253), y20, y21, y22, pT p 0, .int .u8 (v14), rfl, hn, hk14, hp⟩, by rw [hn.at_.len, hl1]; exact hl⟩
  · skip
    have g6 : ¬ c1 = 221 := by simpa using h6
    rewrite [h6]
    refine oY 12 (.int .u8 (c1)) <| oT 13 (.bool (c1 == 253)) (heBin (V := .int .u8 (c1)) (W := .int .u8 (253)) (R := .bool (c1 == 253)) rfl (by kernel_rfl) (by kernel_rfl) (eg8 _ _ _ _ _) (bEq8 c1 253) _) <| oP 14 (.bool (c1 == 253)) false ?_
    refine endL ?_
    try simp only [Act.put, sA, sB, sC]
    refine thenN <| hK5 _ _ ?_
    refine wp_cond_split (t := c1 == 253) (by kernel_rfl) (fun h15 => ?_) (fun h15 => ?_)
    · skip
      have g15 : c1 = 253 := by simpa using h15
      refine wp_skip ?_
      refine thenN <| hK4 _ _ ?_
      refine wp_block ?_
      refine wp_seq_k fun K16 hK16 => regionL <| oM 15 (pT p 0) <| oN 16 p 0 <| oF 17 (fM2 p) ?_
      refine sSetN hn 21 (.int .i64 (3)) (s1.u_plane (3)) rfl rfl rfl (by kernel_rfl) (by kernel_rfl) (stI (hn.at_.cell 21 _ fun _ _ _ => rfl) (hn.at_.frozen 21)) (mu_plane _ _) (hn.at_.ms.u_plane ((by decide))) ?_
      intro w17 hn
      refine endL ?_
      try simp only [Act.put, sA, sB, sC]
      refine thenN <| hK16 _ _ <| wp_seq_k fun K18 hK18 => wp_seq_k fun K19 hK19 => regionL <| oM 18 (.int .u8 (c1)) <| oB 19 (eg8 _ _ _ _ _) (bEq8 c1 253) ?_
      refine endL ?_
      try simp only [Act.put, sA, sB, sC]
      refine thenN <| hK19 _ _ ?_
      refine wp_cond_split (t := c1 == 253) (by kernel_rfl) (fun h20 => ?_) (fun h20 => ?_)
      rotate_left
      · exact absurd (h15.symm.trans h20) (by decide)
      refine regionL <| oM 20 (pT p 0) <| oN 21 p 0 <| oF 22 (fM2 p) ?_
      refine sSetN hn 21 (.int .i64 (4)) ((s1.u_plane (3)).u_plane (4)) rfl rfl rfl (by kernel_rfl) (by kernel_rfl) (stI (hn.at_.cell 21 _ fun _ _ _ => rfl) (hn.at_.frozen 21)) (mu_plane _ _) (hn.at_.ms.u_plane ((by decide))) ?_
      intro w21 hn
      refine endL ?_
      try simp only [Act.put, sA, sB, sC]
      refine thenN <| hK18 _ _ <| regionL <| oM 23 (pT p 0) ?_
      have hp := hX0.trans (exec_pre (by first | exact .inl (by assumption) | exact .inr (by assumption)) (show (s1.u_plane (3)).u_plane (4) = s1.toPlane (if c1 = 253 then 4 else 3) by first | (rw [if_pos (by assumption)]; rfl) | (rw [if_neg (by assumption)]; rfl)) xs1)
      refine sCallI hn rfl (by kernel_rfl) (m_fetch  hn.at_) (fun c w' hX hb => blockX (thenX (blockX (thenX (panicP rfl (OutV.err (hp.trans (by rw [hX])) hb)))))) ?_
      intro v22 s22 xs22 w22 hX hk22 hn
      have hl := fetch_len hX
      rw [hX] at hp
      refine oA 1 (.int .u8 (v22)) ?_
      refine endL ?_
      try simp only [Act.put, sA, sB, sC]
      refine blockN ?_
      exact thenN ⟨⟨v22, s22, xs22, .int .u8 (c1), .bool (false), .bool (false), .int .u8 (c1), .bool (c1 == 253), .bool (c1 == 253), pT p 0, pT p 0, pT p 21, .int .u8 (c1), .bool (c1 == 253), pT p 0, pT p 0, pT p 21, pT p 0, .int .u8 (v22), rfl, hn, hk22, hp⟩, by rw [hn.at_.len, hl1]; exact hl⟩
    · skip
      have g15 : ¬ c1 = 253 := by simpa using h15
      refine wp_exit ?_
      refine thenE ?_
      refine thenE ?_
      have hr := hX0.trans (exec_body (fun h => h.elim g6 g15) s1 xs1)
      refine blockE ?_
      refine thenN <| hK3 _ _ <| wp_seq_k fun K23 hK23 => regionL <| oM 25 (pT p 0) <| oM 26 (pT p 0) <| oN 27 p 0 <| oF 28 (fM0 p) <| oF 29 (fR3 p) ?_
      have b24 := hn.at_.ms.r.hl
      refine oL 30 (ld16 (hn.at_.cell 3 (.int .u16 (s1.r.hl)) fun _ _ _ => rfl)) <| oN 31 p 0 <| oF 32 (fM8 p) ?_
      refine sSetN hn 27 (.int .u16 (s1.r.hl)) (s1.u_spot (s1.r.hl)) rfl rfl rfl (by kernel_rfl) (by kernel_rfl) (st16 (hn.at_.cell 27 _ fun _ _ _ => rfl) (hn.at_.frozen 27)) (mu_spot _ _) (hn.at_.ms.u_spot (b24)) ?_
      intro w25 hn
      refine endL ?_
      try simp only [Act.put, sA, sB, sC]
      refine thenN <| hK23 _ _ <| wp_seq_k fun K26 hK26 => regionL ?_
      refine sAlloc4 4 hn rfl rfl rfl ?_
      intro W1 L hLp hLB hL0 hL h1 hb0
      have hn := NowN.begin h1
      refine endL ?_
      try simp only [Act.put, sA, sB, sC]
      refine thenN <| hK26 _ _ <| wp_seq_k fun K27 hK27 => wp_seq_k fun K28 hK28 => regionL <| oM 33 (.int .u8 (c1)) ?_
      refine endL ?_
      try simp only [Act.put, sA, sB, sC]
      refine thenN <| hK28 _ _ ?_
      refine wp_block ?_
      refine wp_seq_k fun K29 hK29 => regionL <| oB 38 (eg8 _ _ _ _ _) (bEq8 c1 203) <| oA 37 (.bool (c1 == 203)) ?_
      refine endL ?_
      try simp only [Act.put, sA, sB, sC]
      refine thenN <| hK29 _ _ ?_
      refine wp_cond_split (t := c1 == 203) (by kernel_rfl) (fun h30 => ?_) (fun h30 => ?_)
      · skip
        have g30 : c1 = 203 := by simpa using h30
        have hr := hr.trans (run_if_pos g30)
        refine regionL <| oM 39 (pT p 0) ?_
        refine sCallF hn rfl (by kernel_rfl) (m_behindCB  hn.at_) (fun _ _ hX hb => blockX (thenX (panicP rfl (OutV.err (hr.trans (Tr.run_bind_error hX _)) (hb0.trans hb))))) ?_
        intro s31 xs31 w31 hX hn
        have hr := hr.trans (Tr.run_bind_ok hX _)
        refine sPut4 hn hb0 hL hLp hLB hL0 #[.func (.func 59) #[pT p 0] #[], .func (.func 60) #[pT p 0] #[], .func (.func 61) #[pT p 0] #[], .func (.func 62) #[pT p 0] #[]] rfl (by simp [Value.oneCell']) rfl rfl rfl (by kernel_rfl) (by kernel_rfl) ?_
        intro w32 hL4 hn
        refine endL ?_
        try simp only [Act.put, sA, sB, sC]
        refine blockN ?_
        refine thenN <| hK27 _ _ ?_
        rcases four_x hn.at_.ms with g33 | g33 | g33 | g33
        · skip
          have hr := hr.trans (run_if_pos g33)
          refine regionL <| oM 45 (pT p 0) <| oN 46 p 0 <| oF 47 (fM3 p) <| oL 48 (ldI (hn.at_.isX g33)) <| oI 49 (pT L 0) (.int .i64 (0)) (pT L 0) (idxF_0 L _) <| oL 50 (ldF ((hL4.cell 0).trans rfl)) ?_
          refine sCallV hn rfl (by kernel_rfl) (m_shifted  hn.at_) (fun _ _ hX hb => panicP rfl (OutV.err (hr.trans hX) hb)) ?_
          intro s34 xs34 w34 hX hn
          have hr := hr.trans hX
          refine endL ?_
          try simp only [Act.put, sA, sB, sC]
          refine endV rfl rfl ?_
          exact OutV.ok (hr.trans (Tr.run_done _ _)) hn
        · skip
          have hr := hr.trans (run_if_neg (by simp [g33, g30, g15, g6]))
          have hr := hr.trans (run_if_pos g33)
          refine regionL <| oM 45 (pT p 0) <| oN 46 p 0 <| oF 47 (fM3 p) <| oL 48 (ldI (hn.at_.isX g33)) <| oI 49 (pT L 0) (.int .i64 (1)) (pT L 1) (idxF_1 L _) <| oL 50 (ldF ((hL4.cell 1).trans rfl)) ?_
          refine sCallV hn rfl (by kernel_rfl) (m_tested  hn.at_) (fun _ _ hX hb => panicP rfl (OutV.err (hr.trans hX) hb)) ?_
          intro s35 xs35 w35 hX hn
          have hr := hr.trans hX
          refine endL ?_
          try simp only [Act.put, sA, sB, sC]
          refine endV rfl rfl ?_
          exact OutV.ok (hr.trans (Tr.run_done _ _)) hn
        · skip
          have hr := hr.trans (run_if_neg (by simp [g33, g30, g15, g6]))
          have hr := hr.trans (run_if_neg (by simp [g33, g30, g15, g6]))
          have hr := hr.trans (run_if_pos g33)
          refine regionL <| oM 45 (pT p 0) <| oN 46 p 0 <| oF 47 (fM3 p) <| oL 48 (ldI (hn.at_.isX g33)) <| oI 49 (pT L 0) (.int .i64 (2)) (pT L 2) (idxF_2 L _) <| oL 50 (ldF ((hL4.cell 2).trans rfl)) ?_
          refine sCallV hn rfl (by kernel_rfl) (m_cleared  hn.at_) (fun _ _ hX hb => panicP rfl (OutV.err (hr.trans hX) hb)) ?_
          intro s36 xs36 w36 hX hn
          have hr := hr.trans hX
          refine endL ?_
          try simp only [Act.put, sA, sB, sC]
          refine endV rfl rfl ?_
          exact OutV.ok (hr.trans (Tr.run_done _ _)) hn
        · skip
          have hr := hr.trans (run_if_neg (by simp [g33, g30, g15, g6]))
          have hr := hr.trans (run_if_neg (by simp [g33, g30, g15, g6]))
          have hr := hr.trans (run_if_neg (by simp [g33, g30, g15, g6]))
          refine regionL <| oM 45 (pT p 0) <| oN 46 p 0 <| oF 47 (fM3 p) <| oL 48 (ldI (hn.at_.isX g33)) <| oI 49 (pT L 0) (.int .i64 (3)) (pT L 3) (idxF_3 L _) <| oL 50 (ldF ((hL4.cell 3).trans rfl)) ?_
          refine sCallV hn rfl (by kernel_rfl) (m_raised  hn.at_) (fun _ _ hX hb => panicP rfl (OutV.err (hr.trans hX) hb)) ?_
          intro s37 xs37 w37 hX hn
          have hr := hr.trans hX
          refine endL ?_
          try simp only [Act.put, sA, sB, sC]
          refine endV rfl rfl ?_
          exact OutV.ok (hr.trans (Tr.run_done _ _)) hn
      · skip
        have g30 : ¬ c1 = 203 := by simpa using h30
        have hr := hr.trans (run_if_neg g30)
        refine wp_seq_k fun K38 hK38 => regionL <| oB 42 (eg8 _ _ _ _ _) (bEq8 c1 237) <| oA 41 (.bool (c1 == 237)) ?_
        refine endL ?_
        try simp only [Act.put, sA, sB, sC]
        refine thenN <| hK38 _ _ ?_
        refine wp_cond_split (t := c1 == 237) (by kernel_rfl) (fun h39 => ?_) (fun h39 => ?_)
        · skip
          have g39 : c1 = 237 := by simpa using h39
          have hr := hr.trans (run_if_pos g39)
          refine regionL <| oM 43 (pT p 0) ?_
          refine sCallF hn rfl (by kernel_rfl) (m_behindED  hn.at_) (fun _ _ hX hb => blockX (thenX (panicP rfl (OutV.err (hr.trans (Tr.run_bind_error hX _)) (hb0.trans hb))))) ?_
          intro s40 xs40 w40 hX hn
          have hr := hr.trans (Tr.run_bind_ok hX _)
          refine sPut4 hn hb0 hL hLp hLB hL0 #[.func (.func 63) #[pT p 0] #[], .func (.func 64) #[pT p 0] #[], .func (.func 65) #[pT p 0] #[], .func (.func 63) #[pT p 0] #[]] rfl (by simp [Value.oneCell']) rfl rfl rfl (by kernel_rfl) (by kernel_rfl) ?_
          intro w41 hL4 hn
          refine endL ?_
          try simp only [Act.put, sA, sB, sC]
          refine blockN ?_
          refine thenN <| hK27 _ _ ?_
          rcases four_x hn.at_.ms with g42 | g42 | g42 | g42
          · skip
            have hr := hr.trans (run_if_neg (by simp [g42, g39, g30, g15, g6]))
            have hr := hr.trans (run_if_neg (by simp [g42, g39, g30, g15, g6]))
            refine regionL <| oM 45 (pT p 0) <| oN 46 p 0 <| oF 47 (fM3 p) <| oL 48 (ldI (hn.at_.isX g42)) <| oI 49 (pT L 0) (.int .i64 (0)) (pT L 0) (idxF_0 L _) <| oL 50 (ldF ((hL4.cell 0).trans rfl)) <| oC (.tuple #[]) (m_nothing  hn.at_) ?_
            intro w43 hk
            have hn := hn.after hk
            refine endL ?_
            try simp only [Act.put, sA, sB, sC]
            refine endV rfl rfl ?_
            exact OutV.ok (hr.trans (Tr.run_done _ _)) hn
          · skip
            have hr := hr.trans (run_if_pos g42)
            refine regionL <| oM 45 (pT p 0) <| oN 46 p 0 <| oF 47 (fM3 p) <| oL 48 (ldI (hn.at_.isX g42)) <| oI 49 (pT L 0) (.int .i64 (1)) (pT L 1) (idxF_1 L _) <| oL 50 (ldF ((hL4.cell 1).trans rfl)) ?_
            refine sCallV hn rfl (by kernel_rfl) (m_extended  hn.at_) (fun _ _ hX hb => panicP rfl (OutV.err (hr.trans hX) hb)) ?_
            intro s44 xs44 w44 hX hn
            have hr := hr.trans hX
            refine endL ?_
            try simp only [Act.put, sA, sB, sC]
            refine endV rfl rfl ?_
            exact OutV.ok (hr.trans (Tr.run_done _ _)) hn
          · skip
            have hr := hr.trans (run_if_neg (by simp [g42, g39, g30, g15, g6]))
            have hr := hr.trans (run_if_pos g42)
            refine regionL <| oM 45 (pT p 0) <| oN 46 p 0 <| oF 47 (fM3 p) <| oL 48 (ldI (hn.at_.isX g42)) <| oI 49 (pT L 0) (.int .i64 (2)) (pT L 2) (idxF_2 L _) <| oL 50 (ldF ((hL4.cell 2).trans rfl)) ?_
            refine sCallV hn rfl (by kernel_rfl) (m_blocks  hn.at_) (fun _ _ hX hb => panicP rfl (OutV.err (hr.trans hX) hb)) ?_
            intro s45 xs45 w45 hX hn
            have hr := hr.trans hX
            refine endL ?_
            try simp only [Act.put, sA, sB, sC]
            refine endV rfl rfl ?_
            exact OutV.ok (hr.trans (Tr.run_done _ _)) hn
          · skip
            have hr := hr.trans (run_if_neg (by simp [g42, g39, g30, g15, g6]))
            have hr := hr.trans (run_if_neg (by simp [g42, g39, g30, g15, g6]))
            refine regionL <| oM 45 (pT p 0) <| oN 46 p 0 <| oF 47 (fM3 p) <| oL 48 (ldI (hn.at_.isX g42)) <| oI 49 (pT L 0) (.int .i64 (3)) (pT L 3) (idxF_3 L _) <| oL 50 (ldF ((hL4.cell 3).trans rfl)) <| oC (.tuple #[]) (m_nothing  hn.at_) ?_
            intro w46 hk
            have hn := hn.after hk
            refine endL ?_
            try simp only [Act.put, sA, sB, sC]
            refine endV rfl rfl ?_
            exact OutV.ok (hr.trans (Tr.run_done _ _)) hn
        · skip
          have g39 : ¬ c1 = 237 := by simpa using h39
          have hr := hr.trans (run_if_neg g39)
          refine regionL <| oM 34 (pT p 0) <| oM 35 (.int .u8 (c1)) ?_
          refine sCallF hn rfl (by kernel_rfl) (m_alone c1 (hc1) hn.at_) (fun _ _ hX hb => blockX (thenX (panicP rfl (OutV.err (hr.trans (Tr.run_bind_error hX _)) (hb0.trans hb))))) ?_
          intro s47 xs47 w47 hX hn
          have hr := hr.trans (Tr.run_bind_ok hX _)
          refine sPut4 hn hb0 hL hLp hLB hL0 #[.func (.func 69) #[pT p 0] #[], .func (.func 70) #[pT p 0] #[], .func (.func 71) #[pT p 0] #[], .func (.func 72) #[pT p 0] #[]] rfl (by simp [Value.oneCell']) rfl rfl rfl (by kernel_rfl) (by kernel_rfl) ?_
          intro w48 hL4 hn
          refine endL ?_
          try simp only [Act.put, sA, sB, sC]
          refine blockN ?_
          refine thenN <| hK27 _ _ ?_
          rcases four_x hn.at_.ms with g49 | g49 | g49 | g49
          · skip
            have hr := hr.trans (run_if_pos g49)
            refine regionL <| oM 45 (pT p 0) <| oN 46 p 0 <| oF 47 (fM3 p) <| oL 48 (ldI (hn.at_.isX g49)) <| oI 49 (pT L 0) (.int .i64 (0)) (pT L 0) (idxF_0 L _) <| oL 50 (ldF ((hL4.cell 0).trans rfl)) ?_
            refine sCallV hn rfl (by kernel_rfl) (m_various  hn.at_) (fun _ _ hX hb => panicP rfl (OutV.err (hr.trans hX) hb)) ?_
            intro s50 xs50 w50 hX hn
            have hr := hr.trans hX
            refine endL ?_
            try simp only [Act.put, sA, sB, sC]
            refine endV rfl rfl ?_
            exact OutV.ok (hr.trans (Tr.run_done _ _)) hn
          · skip
            have hr := hr.trans (run_if_neg (by simp [g49, g39, g30, g15, g6]))
            have hr := hr.trans (run_if_pos g49)
            refine regionL <| oM 45 (pT p 0) <| oN 46 p 0 <| oF 47 (fM3 p) <| oL 48 (ldI (hn.at_.isX g49)) <| oI 49 (pT L 0) (.int .i64 (1)) (pT L 1) (idxF_1 L _) <| oL 50 (ldF ((hL4.cell 1).trans rfl)) ?_
            refine sCallV hn rfl (by kernel_rfl) (m_load  hn.at_) (fun _ _ hX hb => panicP rfl (OutV.err (hr.trans hX) hb)) ?_
            intro s51 xs51 w51 hX hn
            have hr := hr.trans hX
            refine endL ?_
            try simp only [Act.put, sA, sB, sC]
            refine endV rfl rfl ?_
            exact OutV.ok (hr.trans (Tr.run_done _ _)) hn
          · skip
            have hr := hr.trans (run_if_neg (by simp [g49, g39, g30, g15, g6]))
            have hr := hr.trans (run_if_neg (by simp [g49, g39, g30, g15, g6]))
            have hr := hr.trans (run_if_pos g49)
            refine regionL <| oM 45 (pT p 0) <| oN 46 p 0 <| oF 47 (fM3 p) <| oL 48 (ldI (hn.at_.isX g49)) <| oI 49 (pT L 0) (.int .i64 (2)) (pT L 2) (idxF_2 L _) <| oL 50 (ldF ((hL4.cell 2).trans rfl)) ?_
            refine sCallV hn rfl (by kernel_rfl) (m_reckon  hn.at_) (fun _ _ hX hb => panicP rfl (OutV.err (hr.trans hX) hb)) ?_
            intro s52 xs52 w52 hX hn
            have hr := hr.trans hX
            refine endL ?_
            try simp only [Act.put, sA, sB, sC]
            refine endV rfl rfl ?_
            exact OutV.ok (hr.trans (Tr.run_done _ _)) hn
          · skip
            have hr := hr.trans (run_if_neg (by simp [g49, g39, g30, g15, g6]))
            have hr := hr.trans (run_if_neg (by simp [g49, g39, g30, g15, g6]))
            have hr := hr.trans (run_if_neg (by simp [g49, g39, g30, g15, g6]))
            refine regionL <| oM 45 (pT p 0) <| oN 46 p 0 <| oF 47 (fM3 p) <| oL 48 (ldI (hn.at_.isX g49)) <| oI 49 (pT L 0) (.int .i64 (3)) (pT L 3) (idxF_3 L _) <| oL 50 (ldF ((hL4.cell 3).trans rfl)) ?_
            refine sCallV hn rfl (by kernel_rfl) (m_control  hn.at_) (fun _ _ hX hb => panicP rfl (OutV.err (hr.trans hX) hb)) ?_
            intro s53 xs53 w53 hX hn
            have hr := hr.trans hX
            refine endL ?_
            try simp only [Act.put, sA, sB, sC]
            refine endV rfl rfl ?_
            exact OutV.ok (hr.trans (Tr.run_done _ _)) hn
theorem infoCy : (Tryz.prog.info? 28).map (·.size) = some 4 := by kernel_rfl
theorem ldCy {w : World} {b : Nat} {t : TypeId} {c : Cy} (h : Row w b t (cyC c)) : (Instr.loadAt 28 (pT b 0)).run Tryz.prog w = .ok (cyV c) w :=
  run_loadAt_mid w b 0 28 (cyC c).toList _ h.range Tryz.underlying28 rfl infoCy
theorem stCy {w : World} {b : Nat} {t : TypeId} {c d : Cy} (h : Row w b t (cyC d)) : (Instr.storeAt 28 (pT b 0) (cyV c)).run Tryz.prog w = .ok () (w.setCells b 0 (cyC c).toList) :=
  run_storeAt_mid w b 0 28 (cyC c) h.there infoCy (by simp [cyC, Value.oneCell'])
theorem allocCy (w : World) : (Instr.alloc 28 true (.tuple #[])).run Tryz.prog w = .ok (pT w.heap.size 0) (w.alloc (.cells (cyC zeroCy) 28)) := by
  simp [go_sem, zeroCy]
section
variable {P : Program} {ops : Array Oper} {Q : Exit → Act → List Frame → World → Prop} {a : Act} {cs cs' : List Frame} {w w' : World} {i : Nat} {rest : List Nat} {o : Oper}
structure WS (P : Program) (ops : Array Oper) (Q : Exit → Act → List Frame → World → Prop) (l : List Nat) (a : Act) (cs : List Frame) (w : World) : Prop where
  h : wpOpsS P ops Q l a cs w
theorem regionS {id : Nat} (l : List Nat) (hl : List.range ops.size = l) (h : WS P ops Q l a cs w) : (Code.region id ops false).wpS P Q a cs w := wpS_region (by rw [hl]; exact h.h)
theorem endS (h : Q .normal a cs w) : WS P ops Q [] a cs w := ⟨by unfold wpOpsS; exact h⟩
theorem rTake (V : Value) (ho : ops[i]? = some o) (hg : o.guard = none) (he : (execOp a.eval o).run P w = .ok (.value V) w') (h : WS P ops Q rest (a.put o.dst V) cs w') : WS P ops Q (i :: rest) a cs w := by
  constructor
  unfold wpOpsS
  simp only [ho, wantedN hg, if_true, he, Oper.upon_value]
  exact h.h
theorem rDo (ho : ops[i]? = some o) (hg : o.guard = none) (he : (execOp a.eval o).run P w = .ok .skip w') (h : WS P ops Q rest (a.put o.dst undef) cs w') : WS P ops Q (i :: rest) a cs w := by
  constructor
  unfold wpOpsS
  simp only [ho, wantedN hg, if_true, he, Oper.upon_skip]
  exact h.h
theorem rRecover (V : Value) (ho : ops[i]? = some o) (hg : o.guard = none) (he : (execOp a.eval o).run P w = .ok .recover w) (hc : recoverD cs = some (V, cs')) (h : WS P ops Q rest (a.put o.dst V) cs' w) : WS P ops Q (i :: rest) a cs w := by
  constructor
  unfold wpOpsS
  simp only [ho, wantedN hg, if_true, he, hc]
  exact h.h
theorem rNone (ho : ops[i]? = some o) (hg : o.guard = none) (he : (execOp a.eval o).run P w = .ok .recover w) (hc : recoverD cs = none) (h : WS P ops Q rest (a.put o.dst .nilIface) cs w) : WS P ops Q (i :: rest) a cs w := by
  constructor
  unfold wpOpsS
  simp only [ho, wantedN hg, if_true, he, hc]
  exact h.h
theorem heAssert {x : Operand} {V R : Value} {t u : TypeId} {ok : Bool} (ho : o.op = .typeAssert x t u ok) (hx : a.eval x = V) (hr : (Instr.typeAssert V t u ok).run P w = .ok R w) : (execOp a.eval o).run P w = .ok (.value R) w := by
  unfold execOp
  simp only [ho, hx, hr, Sem.run_bind, Sem.run_pure, Result.andThen_ok]
end
theorem ta_yes (v : Value) (w : World) : (Instr.typeAssert (.iface 28 v) 20 28 true).run Tryz.prog w = .ok (.tuple #[v, .bool true]) w := by kernel_rfl
theorem ta_no (w : World) : (Instr.typeAssert .nilIface 20 28 true).run Tryz.prog w = .ok (.tuple #[cyV zeroCy, .bool false]) w := by kernel_rfl
set_option maxRecDepth 20000 in
set_option maxHeartbeats 4000000 in
theorem catch_panicking (L : Nat) (c : Cy) (older : List PanicEntry) (w : World) (hL : Row w L 28 (cyC zeroCy)) :
    CallsD Tryz.prog 41 #[pT L 0] (.panicking ({ v := .iface 28 (cyV c), recovered := false } :: older)) w fun e u' w' =>
      e = .returned (.tuple #[]) ∧ u' = .panicking ({ v := .iface 28 (cyV c), recovered := true } :: older) ∧ Row w' L 28 (cyC c) ∧ Besides L L w w' := by
  refine callsD_of_wpS Tryz.func41 rfl fun c₀ cs hu => ?_
  simp only [Tryz.ntmps41, List.size_toArray, List.length_cons, List.length_nil, Nat.reduceAdd, Nat.reduceSub, Array.replicate_succ, Array.replicate_zero, List.push_toArray, List.append_toArray, List.nil_append, List.cons_append]
  apply wpS_seq
  refine regionS [0, 1, 2, 3, 4, 5, 6, 7] (by simp only [List.size_toArray, List.length_cons, List.length_nil, Nat.reduceAdd]; rfl) ?_
  refine rRecover (.iface 28 (cyV c)) rfl rfl (by kernel_rfl) (show recoverD (c₀ :: cs) = some (_, { c₀ with mode := .panicking ({ v := .iface 28 (cyV c), recovered := true } :: older) } :: cs) by simp only [recoverD, hu]) ?_
  refine rTake (.tuple #[cyV c, .bool true]) rfl rfl (heAssert rfl (by kernel_rfl) (ta_yes _ _)) ?_
  refine rTake (.tuple #[cyV c, .bool true]) rfl rfl (heMove (.inl rfl) (by kernel_rfl) _) ?_
  refine rTake (cyV c) rfl rfl (heExtract (vs := #[cyV c, .bool true]) rfl (by kernel_rfl) (by kernel_rfl) _) ?_
  refine rTake (.bool true) rfl rfl (heExtract (vs := #[cyV c, .bool true]) rfl (by kernel_rfl) (by kernel_rfl) _) ?_
  refine rTake (pT w.heap.size 0) rfl rfl (heAlloc rfl (allocCy w)) ?_
  have hL' : Row (w.alloc (.cells (cyC zeroCy) 28)) L 28 (cyC zeroCy) := hL.alloc _
  have hlt := hL.lt
  refine rDo rfl rfl (heStore (ad := ⟨w.heap.size, 0, none⟩) (V := cyV c) rfl (by kernel_rfl) (by kernel_rfl) (stCy (Row.new w _ (cyC zeroCy)))) ?_
  have hN : Row ((w.alloc (.cells (cyC zeroCy) 28)).setCells w.heap.size 0 (cyC c).toList) w.heap.size 28 (cyC c) := (Row.new w _ (cyC zeroCy)).setAll rfl
  have hL2 : Row ((w.alloc (.cells (cyC zeroCy) 28)).setCells w.heap.size 0 (cyC c).toList) L 28 (cyC zeroCy) := hL'.setFar (by omega) _ _
  have hB : Besides L L w ((w.alloc (.cells (cyC zeroCy) 28)).setCells w.heap.size 0 (cyC c).toList) := ((Besides.refl L L w).alloc _).setCells (.inr (.inr (Nat.le_refl _))) _ _
  generalize (w.alloc (.cells (cyC zeroCy) 28)).setCells w.heap.size 0 (cyC c).toList = W at *
  refine rTake (.bool true) rfl rfl (heMove (.inr rfl) (by kernel_rfl) _) ?_
  refine endS ?_
  simp only [Exit.thenS]
  refine wpS_of_wp ?_
  try simp only [Act.put, sA, sB, sC]
  refine wp_seq_k fun K1 hK1 => regionL <| oM 8 (.bool true) ?_
  refine endL ?_
  refine thenN <| hK1 _ _ ?_
  refine wp_cond_true (by kernel_rfl) ?_
  refine regionL <| oL 9 (ldCy hN) <| oS ⟨L, 0, none⟩ (cyV c) (stCy hL2) ?_
  refine endL ?_
  exact ⟨rfl, _, rfl, _, results_none rfl _ _ _, rfl, rfl, hL2.setAll rfl, hB.setCells (.inl rfl) _ _⟩
set_option maxRecDepth 20000 in
set_option maxHeartbeats 4000000 in
theorem catch_idle (L : Nat) (w : World) :
    CallsD Tryz.prog 41 #[pT L 0] .returning w fun e u' w' => e = .returned (.tuple #[]) ∧ u' = .returning ∧ Below w.heap.size w w' := by
  refine callsD_of_wpS Tryz.func41 rfl fun c₀ cs hu => ?_
  simp only [Tryz.ntmps41, List.size_toArray, List.length_cons, List.length_nil, Nat.reduceAdd, Nat.reduceSub, Array.replicate_succ, Array.replicate_zero, List.push_toArray, List.append_toArray, List.nil_append, List.cons_append]
  apply wpS_seq
  refine regionS [0, 1, 2, 3, 4, 5, 6, 7] (by simp only [List.size_toArray, List.length_cons, List.length_nil, Nat.reduceAdd]; rfl) ?_
  refine rNone rfl rfl (by kernel_rfl) (show recoverD (c₀ :: cs) = none by simp only [recoverD, hu]) ?_
  refine rTake (.tuple #[cyV zeroCy, .bool false]) rfl rfl (heAssert rfl (by kernel_rfl) (ta_no _)) ?_
  refine rTake (.tuple #[cyV zeroCy, .bool false]) rfl rfl (heMove (.inl rfl) (by kernel_rfl) _) ?_
  refine rTake (cyV zeroCy) rfl rfl (heExtract (vs := #[cyV zeroCy, .bool false]) rfl (by kernel_rfl) (by kernel_rfl) _) ?_
  refine rTake (.bool false) rfl rfl (heExtract (vs := #[cyV zeroCy, .bool false]) rfl (by kernel_rfl) (by kernel_rfl) _) ?_
  refine rTake (pT w.heap.size 0) rfl rfl (heAlloc rfl (allocCy w)) ?_
  refine rDo rfl rfl (heStore (ad := ⟨w.heap.size, 0, none⟩) (V := cyV zeroCy) rfl (by kernel_rfl) (by kernel_rfl) (stCy (Row.new w _ (cyC zeroCy)))) ?_
  have hB : Below w.heap.size w ((w.alloc (.cells (cyC zeroCy) 28)).setCells w.heap.size 0 (cyC zeroCy).toList) := Below.setCellsAll (Below.alloc (Below.refl _ _) (Nat.le_refl _) _) (Nat.le_refl _) _ _
  refine rTake (.bool false) rfl rfl (heMove (.inr rfl) (by kernel_rfl) _) ?_
  refine endS ?_
  simp only [Exit.thenS]
  refine wpS_of_wp ?_
  try simp only [Act.put, sA, sB, sC]
  refine wp_seq_k fun K1 hK1 => regionL <| oM 8 (.bool false) ?_
  refine endL ?_
  refine thenN <| hK1 _ _ ?_
  refine wp_cond_false (by kernel_rfl) ?_
  refine wp_skip ?_
  exact ⟨rfl, _, by rw [← hu], _, results_none rfl _ _ _, rfl, rfl, hB⟩
theorem allocRg (w : World) : (Instr.alloc 24 true (.tuple #[])).run Tryz.prog w = .ok (pT w.heap.size 0) (w.alloc (.cells (regsC zeroRg) 24)) := by
  simp [go_sem, zeroRg, regsC]
theorem stRow {w : World} {b : Nat} {t : TypeId} {g d : Rg} (h : Row w b t (regsC d)) : (Instr.storeAt 24 (pT b 0) (regsV g)).run Tryz.prog w = .ok () (w.setCells b 0 (regsC g).toList) := stR h.there
theorem Besides.more {p L : Nat} {w w' w'' : World} (h : Besides p p w w') (k : Besides L L w' w'') (hL : w.heap.size ≤ L) : Besides p p w w'' :=
  ⟨k.os.trans h.os, k.tape.trans h.tape, k.output.trans h.output, Nat.le_trans h.size k.size, fun b hb n1 n2 => (k.block b (Nat.lt_of_lt_of_le hb h.size) (by omega) (by omega)).trans (h.block b hb n1 n2)⟩
theorem results_told {fn : Func} {t1 t2 t3 : Tmp} {u v : TypeId} (h : fn.results = #[.cell t1 28, .cell t2 24, .tmp t3]) {tmps : Array Value} {w : World} {L M : Nat} {c : Cy} {g : Rg} {b : Bool}
    (h1 : tmps.getD t1 undef = pT L 0) (h2 : tmps.getD t2 undef = pT M 0) (h3 : tmps.getD t3 undef = .bool b) (hL : Row w L u (cyC c)) (hM : Row w M v (regsC g)) : (results fn tmps).run Tryz.prog w = .ok (.tuple #[cyV c, regsV g, .bool b]) w := by
  have h1' : tmps[t1]?.getD undef = pT L 0 := by simpa using h1
  have h2' : tmps[t2]?.getD undef = pT M 0 := by simpa using h2
  have h3' : tmps[t3]?.getD undef = .bool b := by simpa using h3
  have e1 := loadVar_row (P := Tryz.prog) hL Tryz.underlying28 rfl infoCy
  have e2 := loadVar_row (P := Tryz.prog) hM Tryz.underlying24 rfl infoRg
  simp [results, h, h1', h2', h3', asAddr, e1, e2]
def tellV : Except Cy (Ms × List Int) → Value
  | .ok (s, _) => .tuple #[cyV zeroCy, regsV s.r, .bool true]
  | .error c => .tuple #[cyV c, regsV zeroRg, .bool false]
theorem sDefer {P : Program} {ops : Array Oper} {Q : Exit → Act → World → Prop} {a : Act} {w : World} {o : Oper} {rest : List Oper} (d : Deferred) (hd : o.dst = none) (hg : o.guard = none) (he : (execOp a.eval o).run P w = .ok (.defer d) w)
    (h : WL P ops Q rest { a with defers := d :: a.defers } w) : WL P ops Q (o :: rest) a w :=
  ⟨wpList_step fun K hK => by
    rw [if_pos (wantedN hg)]
    unfold Oper.wp
    rw [he, Oper.upon_defer, hd]
    exact hK _ _ h.h⟩
theorem heFn {P : Program} {a : Act} {o : Oper} {x : Operand} {F : FuncId} {cap : Array Value} {w : World} (ho : o.op = .call { callee := .value x, args := #[], argTypes := #[] }) (hx : a.eval x = .func (.func F) #[] cap) (hen : (callFunc F cap).run P w = .ok (.enter F cap) w) :
    (execOp a.eval o).run P w = .ok (.enter F cap) w := by
  unfold execOp
  simp [ho, resolve, hx, Deferred.ofValue, invoke, hen]
theorem part_do {P : Program} {ops : Array Oper} {Q : Exit → Act → World → Prop} {S : World → Prop} {n i f : Nat} {listed : Array Bool} {a : Act} {w w' : World} {o : Oper} (hd : o.dst = none) (ho : ops[i]? = some o) (hr : Region.ready .any ops listed = [i]) (hin : decide (i < n) = true)
    (hw : Region.wanted o (yielded ops a.tmps) = true) (he : (execOp a.eval o).run P w = .ok .skip w') (hS : S w')
    (hK : partT P ops Q S n f (listed.setIfInBounds i true) a w') : partT P ops Q S n (f + 1) listed a w := by
  intro inv
  have hr' : i ∈ Region.ready .any ops listed := by rw [hr]; simp
  refine ⟨by rw [hr]; simp, fun j hj => ?_⟩
  rw [hr] at hj
  have hji : j = i := by simpa using hj
  subst hji
  refine ⟨of_decide_eq_true hin, ?_⟩
  unfold wpOp
  simp only [ho, hw, if_true]
  refine .inl ?_
  unfold Oper.wp
  rw [he, Oper.upon_skip, hd]
  exact ⟨hS, hK (inv.set hr' (of_decide_eq_true hin))⟩
set_option maxRecDepth 20000 in
set_option maxHeartbeats 8000000 in
theorem m_run (F : FuncId) (cap : Array Value) (hen : ∀ w, (callFunc F cap).run Tryz.prog w = .ok (.enter F cap) w) {X : Except Cy (Ms × List Int)} {s : Ms} {xs : List Int} {w : World} {p B : Nat} (h : AtN w p B s xs)
    (hF : ∀ w', AtN w' p B s xs → Below w.heap.size w w' → Calls Tryz.prog F cap w' (OutV w' p B X)) :
    Calls Tryz.prog 20 #[pT p 0, .func (.func F) #[] cap] w (fun e w' => e = .returned (tellV X) ∧ Besides p p w w') := by
  go_enter_defers Tryz.func20, Tryz.ntmps20
  refine wp_seq_k fun K1 hK1 => regionL ?_
  have hp := h.lt
  refine list_make 4 (pT w.heap.size 0) rfl (wantedN rfl) (heAlloc rfl (allocCy w)) ?_
  refine list_make 5 (.pointer (some ⟨(w.alloc (.cells (cyC zeroCy) 28)).heap.size, 0, none⟩)) rfl (wantedN rfl) (heAlloc rfl (allocRg _)) ?_
  have h1 := h.below (Below.alloc (Below.refl w.heap.size w) (Nat.le_refl _) (.cells (cyC zeroCy) 28))
  have h2 := h1.below (Below.alloc (Below.refl _ _) (Nat.le_refl _) (.cells (regsC zeroRg) 24))
  have hb0 : Besides p p w ((w.alloc (.cells (cyC zeroCy) 28)).alloc (.cells (regsC zeroRg) 24)) := ((Besides.refl p p w).alloc _).alloc _
  have hW : Below w.heap.size w ((w.alloc (.cells (cyC zeroCy) 28)).alloc (.cells (regsC zeroRg) 24)) := Below.alloc (Below.alloc (Below.refl _ _) (Nat.le_refl _) _) (by simp) _
  have hL := (Row.new w 28 (cyC zeroCy)).alloc (.cells (regsC zeroRg) 24)
  have hM := Row.new (w.alloc (.cells (cyC zeroCy) 28)) 24 (regsC zeroRg)
  obtain ⟨L, hLe⟩ : ∃ L, L = w.heap.size := ⟨_, rfl⟩
  obtain ⟨M, hMe⟩ : ∃ M, M = (w.alloc (.cells (cyC zeroCy) 28)).heap.size := ⟨_, rfl⟩
  have hML : M = L + 1 := by rw [hMe, hLe]; simp
  rw [← hMe] at hM ⊢
  rw [← hLe] at hL hW ⊢
  generalize (w.alloc (.cells (cyC zeroCy) 28)).alloc (.cells (regsC zeroRg) 24) = W at *
  clear hMe h1
  refine oA 6 (.bool false) ?_
  refine endL ?_
  try simp only [Act.put, sA, sB, sC]
  refine thenN <| hK1 _ _ <| wp_seq_k fun K2 hK2 => regionL ?_
  refine list_take 7 (.func (.func 41) #[] #[pT L 0]) rfl (wantedN rfl) (heFunc rfl (by kernel_rfl) (by kernel_rfl) _) ?_
  refine sDefer { target := .fn (.func 41) #[pT L 0], args := #[] } rfl rfl (by kernel_rfl) ?_
  refine endL ?_
  try simp only [Act.put, sA, sB, sC]
  refine thenN <| hK2 _ _ <| wp_seq_k fun K3 hK3 => regionL <| oM 8 (.func (.func F) #[] cap) ?_
  have hn := NowN.begin h2
  refine sCallV hn rfl (heFn rfl (by kernel_rfl) (hen W)) (hF W h2 (by rw [← hLe]; exact hW)) (fun c w' hX hb => ?_) ?_
  · refine thenX ?_
    subst hX
    refine leaves_cons (f := 41) (args := #[pT L 0]) (by simp) (by simp [go_sem]) ?_
    have hL' := hL.besides hb (by omega) (by omega)
    have hM' := hM.besides hb (by omega) (by omega)
    refine (catch_panicking L c [] w' hL').mono ?_
    rintro e u' w'' ⟨rfl, rfl, hA, hB⟩
    refine ⟨_, results_told rfl (by kernel_rfl) (by kernel_rfl) (by kernel_rfl) hA (hM'.besides hB (by omega) (by omega)), rfl, ?_⟩
    exact (hb0.trans hb).more hB (by omega)
  intro s1 xs1 w1 hX hn
  subst hX
  have hL' := hL.besides hn.bes (by omega) (by omega)
  have hM' := hM.besides hn.bes (by omega) (by omega)
  refine endL ?_
  try simp only [Act.put, sA, sB, sC]
  refine thenN <| hK3 _ _ <| wp_seq_k fun K4 hK4 => ?_
  refine Code.wp_mono (Q := fun e a w => match e with | .normal => K4 a w | _ => False) (fun e a w h => by cases e <;> first | exact h | exact h.elim) ?_
  refine part_start 6 (fun w' => AtN w' p B s1 xs1) (by kernel_rfl) (by kernel_rfl) hn.at_.drew ?_
  intro w2 hw2 hS
  have hL2 : Row w2 L 28 (cyC zeroCy) := by subst hw2; exact hL'.drew
  have hM2 : Row w2 M 24 (regsC zeroRg) := by subst hw2; exact hM'.drew
  refine yG 0 10 (cyV zeroCy) rfl (fun w hS => heBuild (cells := cyC zeroCy) rfl (by kernel_rfl) w) hS <| yM 1 11 (pT p 0) hS <| yN 2 12 p 0 hS <| yF 3 13 (fM0 p) hS <| yL 4 14 (regsV s1.r) (fun w hS => ldR hS.regs) hS ?_
  have hL3 : Row (w2.setCells L 0 (cyC zeroCy).toList) L 28 (cyC zeroCy) := hL2.setAll rfl
  have hM3 := hM2.setFar (by omega : M ≠ L) (cyC zeroCy).toList 0
  have hb3 : Besides L L w2 (w2.setCells L 0 (cyC zeroCy).toList) := (Besides.refl L L w2).setCells (.inl rfl) _ _
  have hb2 : Besides p p W w2 := by subst hw2; exact hn.bes.drew
  refine part_do (i := 5) (by rfl) rfl (by kernel_rfl) (by kernel_rfl) (by kernel_rfl) (by exact heStore (ad := ⟨L, 0, none⟩) (V := cyV zeroCy) rfl (by kernel_rfl) (by kernel_rfl) (stCy hL2)) (hS.far (by omega) (by have := hS.low; omega) _ _) ?_
  refine part_end (by kernel_rfl) ?_
  simp only [List.drop_succ_cons, List.drop_zero]
  try simp only [Act.put, sA, sB, sC]
  refine oS ⟨M, 0, none⟩ (regsV s1.r) (stRow hM3) ?_
  have hL4 := hL3.setFar (by omega : L ≠ M) (regsC s1.r).toList 0
  have hM4 : Row ((w2.setCells L 0 (cyC zeroCy).toList).setCells M 0 (regsC s1.r).toList) M 24 (regsC s1.r) := hM3.setAll rfl
  have hb4 : Besides M M (w2.setCells L 0 (cyC zeroCy).toList) ((w2.setCells L 0 (cyC zeroCy).toList).setCells M 0 (regsC s1.r).toList) := (Besides.refl M M _).setCells (.inl rfl) _ _
  have hbes : Besides p p w ((w2.setCells L 0 (cyC zeroCy).toList).setCells M 0 (regsC s1.r).toList) := ((hb0.trans hb2).more hb3 (by omega)).more hb4 (by omega)
  generalize (w2.setCells L 0 (cyC zeroCy).toList).setCells M 0 (regsC s1.r).toList = W5 at *
  refine oA 6 (.bool true) ?_
  refine endL ?_
  try simp only [Act.put, sA, sB, sC]
  refine hK4 _ _ ?_
  refine wp_ret ?_
  refine leaves_cons (f := 41) (args := #[pT L 0]) (by simp) (by simp [go_sem]) ?_
  refine (catch_idle L _).mono ?_
  rintro e u' w'' ⟨rfl, rfl, hB⟩
  exact ⟨_, results_told rfl (by kernel_rfl) (by kernel_rfl) (by kernel_rfl) (hL4.below hB hL4.lt) (hM4.below hB hM4.lt), rfl, hbes.trans (.of_below hB)⟩
theorem m_glance1 {s : Ms} {xs : List Int} {w : World} {p B : Nat} (h : AtN w p B s xs) :
    Calls Tryz.prog 21 #[pT p 0] w (OutV w p B (((glanceN s).bind fun b => .done b.2).run xs)) := by
  have hn := NowN.begin h
  go_enter Tryz.func21, Tryz.ntmps21
  refine regionL ?_
  refine sCallI hn rfl (by kernel_rfl) (m_glance hn.at_) (fun c w' hX hb => panicP rfl (OutV.err (Tr.run_bind_error hX _) hb)) ?_
  intro v1 s1 xs1 w1 hX hk hn
  refine endL ?_
  refine endV rfl rfl ?_
  exact OutV.ok ((Tr.run_bind_ok hX _).trans (Tr.run_done _ _)) hn
def nextX (s : Ms) (xs : List Int) : Except Cy (Ms × List Int) :=
  match (fetchN s).run xs with
  | .ok ((b, t), ys) => execN ys b t.noLate
  | .error c => .error c
theorem m_whole {s : Ms} {xs : List Int} {w : World} {p B : Nat} (h : AtN w p B s xs) :
    Calls Tryz.prog 23 #[pT p 0] w (OutV w p B (nextX s xs)) := by
  have hn := NowN.begin h
  go_enter Tryz.func23, Tryz.ntmps23
  refine regionL ?_
  refine sCallI hn rfl (by kernel_rfl) (m_fetch hn.at_) (fun c w' hX hb => panicP rfl (OutV.err (by rw [nextX, hX]) hb)) ?_
  intro v1 s1 xs1 w1 hX hk hn
  have e : nextX s xs = execN xs1 v1 s1.noLate := by rw [nextX, hX]
  refine sCallV hn rfl (by kernel_rfl) (m_instruction v1 hk hn.at_) (fun c w' hX hb => panicP rfl (OutV.err (e.trans hX) hb)) ?_
  intro s2 xs2 w2 hX hn
  refine endL ?_
  refine endV rfl rfl ?_
  exact OutV.ok (e.trans hX) hn
theorem m_after1 (c : Int) (hc : B8 c) {L : Nat} {t : TypeId} {s : Ms} {xs : List Int} {w : World} {p B : Nat} (h : AtN w p B s xs) (hL : Row w L t #[.int .u8 c]) :
    Calls Tryz.prog 31 #[pT p 0, pT L 0] w (OutV w p B (execN xs c s.noLate)) := by
  have hn := NowN.begin h
  go_enter Tryz.func31, Tryz.ntmps31
  refine regionL <| oL 2 (ld8 (hL.cell 0)) ?_
  refine sCallV hn rfl (by kernel_rfl) (m_instruction c hc hn.at_) (fun c w' hX hb => panicP rfl (OutV.err hX hb)) ?_
  intro s2 xs2 w2 hX hn
  refine endL ?_
  refine endV rfl rfl ?_
  exact OutV.ok hX hn
def ms0 (g : Rg) : Ms := ⟨g, 0, 0, 0, 0, 0, 0, 0, false⟩
theorem ms0_b {g : Rg} (h : RgB g) : MsB (ms0 g) := ⟨h, .inl rfl, by simp [ms0], by simp [ms0], by simp [ms0], by simp [ms0], by simp [ms0], Wd16.zero⟩
def zeroM : Array Value := mC (ms0 zeroRg) none 0 0
theorem infoM : (Tryz.prog.info? 46).map (·.size) = some 29 := by kernel_rfl
theorem allocM (w : World) : (Instr.alloc 46 true (.tuple #[])).run Tryz.prog w = .ok (pT w.heap.size 0) (w.alloc (.cells zeroM 46)) := by
  simp [go_sem, zeroM, zeroRg, ms0]
theorem boxRg (g : Rg) (w : World) : (Instr.box 24 (regsV g)).run Tryz.prog w = .ok (pT w.heap.size 0) (w.alloc (.cells (regsC g) 24)) := by
  simp [go_sem]
theorem box8 (c : Int) (w : World) : (Instr.box 5 (.int .u8 c)).run Tryz.prog w = .ok (pT w.heap.size 0) (w.alloc (.cells #[.int .u8 c] 5)) := by
  simp [go_sem]
theorem heBox {P : Program} {a : Act} {o : Oper} {t : TypeId} {x : Operand} {V R : Value} {w w' : World} (ho : o.op = .box t x) (hx : a.eval x = V) (h : (Instr.box t V).run P w = .ok R w') : (execOp a.eval o).run P w = .ok (.value R) w' := by
  unfold execOp
  simp only [ho, hx, Sem.run_bind, h, Result.andThen_ok, Sem.run_pure]
def nextOf (g : Rg) (xs : List Int) : Except Cy (Ms × List Int) := if g.halted = true then ((glanceN (ms0 g)).bind fun b => .done b.2).run xs else nextX (ms0 g) xs
def afterOf (g : Rg) (c : Int) (xs : List Int) : Except Cy (Ms × List Int) := execN xs c (ms0 g).noLate
def cyOf : Except Cy (Ms × List Int) → Cy | .ok _ => zeroCy | .error c => c
def rgOf : Except Cy (Ms × List Int) → Rg | .ok (s, _) => s.r | .error _ => zeroRg
def doneOf : Except Cy (Ms × List Int) → Bool | .ok _ => true | .error _ => false
theorem tellV_eq (X : Except Cy (Ms × List Int)) : tellV X = .tuple #[cyV (cyOf X), regsV (rgOf X), .bool (doneOf X)] := by
  rcases X with c | ⟨s, ys⟩ <;> rfl
section
variable {w : World} {g : Rg} {A : Option Addr} {cap : Nat} {xs : List Int}
theorem at_new {w W : World} (hk : ∀ b, b < w.heap.size → W.heap[b]? = w.heap[b]?) (hs : w.heap.size ≤ W.heap.size) (hg : RgB g) (hc : xs.length ≤ cap) (h8 : Bytes8 xs) (hin : BytesIn w w.heap.size A xs) (ht : Tabs w w.heap.size) :
    AtN ((W.alloc (.cells zeroM 46)).setCells W.heap.size 0 (mC (ms0 g) A xs.length cap).toList) W.heap.size w.heap.size (ms0 g) xs := by
  rw [setCells_new W _ zeroM (mC (ms0 g) A xs.length cap) rfl]
  have k : ∀ b, b < w.heap.size → (W.alloc (.cells (mC (ms0 g) A xs.length cap) 46)).heap[b]? = w.heap[b]? := fun b hb => (Below.heap_alloc W _ b (by omega)).trans (hk b hb)
  exact ⟨⟨A, cap, hc, Row.new W _ _, hin.keep k⟩, hs, h8, ms0_b hg, ht.keep k⟩
theorem stM {W : World} (g : Rg) (A : Option Addr) (n cap : Nat) : (Instr.storeAt 46 (pT W.heap.size 0) (.agg (mC (ms0 g) A n cap))).run Tryz.prog (W.alloc (.cells zeroM 46)) = .ok () ((W.alloc (.cells zeroM 46)).setCells W.heap.size 0 (mC (ms0 g) A n cap).toList) :=
  run_storeAt_mid _ _ 0 _ (mC (ms0 g) A n cap) (Row.new W _ zeroM).there infoM (by simp [mC, Value.oneCell'])
end
set_option maxRecDepth 20000 in
set_option maxHeartbeats 16000000 in
theorem nnext_any (g : Rg) (hg : RgB g) (A : Option Addr) (cap : Nat) (xs : List Int) (hc : xs.length ≤ cap) (h8 : Bytes8 xs) (w : World) (hin : BytesIn w w.heap.size A xs) (ht : Tabs w w.heap.size) :
    Calls Tryz.prog 12 #[regsV g, .slice A xs.length cap] w (fun e w' => e = .returned (tellV (nextOf g xs)) ∧ Below w.heap.size w w') := by
  go_enter Tryz.func12, Tryz.ntmps12
  refine wp_seq_k fun K1 hK1 => regionL ?_
  refine list_make 2 (pT w.heap.size 0) rfl (wantedN rfl) (heBox rfl (by kernel_rfl) (boxRg g w)) ?_
  have r0 := Row.new w 24 (regsC g)
  have hb := Below.alloc (Below.refl w.heap.size w) (Nat.le_refl _) (.cells (regsC g) 24)
  obtain ⟨L0, hL0⟩ : ∃ L, L = w.heap.size := ⟨_, rfl⟩
  rw [← hL0] at r0 ⊢
  have l0 := r0.lt
  generalize w.alloc (.cells (regsC g) 24) = W0 at *
  have hsW0 := hb.size
  refine list_make 4 (pT W0.heap.size 0) rfl (wantedN rfl) (heAlloc rfl (allocCy W0)) ?_
  have r0 := r0.alloc (.cells (cyC zeroCy) 28)
  have r1 := Row.new W0 28 (cyC zeroCy)
  have hb := Below.alloc hb (by have := hb.size; omega) (.cells (cyC zeroCy) 28)
  obtain ⟨L1, hL1⟩ : ∃ L, L = W0.heap.size := ⟨_, rfl⟩
  have q1 : w.heap.size ≤ L1 ∧ L0 < L1 := by rw [hL1]; exact ⟨hsW0, l0⟩
  rw [← hL1] at r1 ⊢
  generalize W0.alloc (.cells (cyC zeroCy) 28) = W1 at *
  have l0 := r0.lt
  have l1 := r1.lt
  have hsW1 := hb.size
  refine list_make 5 (pT W1.heap.size 0) rfl (wantedN rfl) (heAlloc rfl (allocRg W1)) ?_
  have r0 := r0.alloc (.cells (regsC zeroRg) 24)
  have r1 := r1.alloc (.cells (regsC zeroRg) 24)
  have r2 := Row.new W1 24 (regsC zeroRg)
  have hb := Below.alloc hb (by have := hb.size; omega) (.cells (regsC zeroRg) 24)
  obtain ⟨L2, hL2⟩ : ∃ L, L = W1.heap.size := ⟨_, rfl⟩
  have q2 : w.heap.size ≤ L2 ∧ L0 < L2 ∧ L1 < L2 := by rw [hL2]; exact ⟨hsW1, l0, l1⟩
  rw [← hL2] at r2 ⊢
  generalize W1.alloc (.cells (regsC zeroRg) 24) = W2 at *
  have l0 := r0.lt
  have l1 := r1.lt
  have l2 := r2.lt
  have hsW2 := hb.size
  refine oA 6 (.bool false) ?_
  refine endL ?_
  try simp only [Act.put, sA, sB, sC]
  refine thenN <| hK1 _ _ <| wp_seq_k fun K2 hK2 => regionL <| oL 8 (ldR r0.range) <| oM 9 (.slice A xs.length cap) <| oU 10 (mC (ms0 g) A xs.length cap) ?_
  refine list_make 7 (pT W2.heap.size 0) rfl (wantedN rfl) (heAlloc rfl (allocM W2)) ?_
  have hat := at_new (w := w) (W := W2) (fun b hlt => hb.block b hlt) hb.size hg hc h8 hin ht
  refine list_do rfl (wantedN rfl) (heStore (ad := ⟨W2.heap.size, 0, none⟩) (V := .agg (mC (ms0 g) A xs.length cap)) rfl (by kernel_rfl) (by kernel_rfl) (stM g A xs.length cap)) ?_
  have r0 := (r0.alloc (.cells zeroM 46)).setFar (by omega) (mC (ms0 g) A xs.length cap).toList 0 (b := W2.heap.size)
  have r1 := (r1.alloc (.cells zeroM 46)).setFar (by omega) (mC (ms0 g) A xs.length cap).toList 0 (b := W2.heap.size)
  have r2 := (r2.alloc (.cells zeroM 46)).setFar (by omega) (mC (ms0 g) A xs.length cap).toList 0 (b := W2.heap.size)
  have hb := Below.setCellsAll (Below.alloc hb (by have := hb.size; omega) (.cells zeroM 46)) (b := W2.heap.size) (by have := hb.size; omega) (mC (ms0 g) A xs.length cap).toList 0
  obtain ⟨p, hp⟩ : ∃ p, p = W2.heap.size := ⟨_, rfl⟩
  have qp : w.heap.size ≤ p ∧ L0 < p ∧ L1 < p ∧ L2 < p := by rw [hp]; exact ⟨hsW2, l0, l1, l2⟩
  rw [← hp] at hat ⊢
  rw [← hp] at r0 r1 r2 hb
  generalize (W2.alloc (.cells zeroM 46)).setCells p 0 (mC (ms0 g) A xs.length cap).toList = W at *
  refine endL ?_
  try simp only [Act.put, sA, sB, sC]
  refine thenN <| hK2 _ _ <| wp_seq_k fun K3 hK3 => wp_seq_k fun K4 hK4 => regionL <| oF 11 (fR17 L0) <| oL 12 (ldB (r0.cell 17)) ?_
  refine endL ?_
  try simp only [Act.put, sA, sB, sC]
  refine thenN <| hK4 _ _ ?_
  refine wp_cond_split (t := g.halted) (by kernel_rfl) (fun hh => ?_) (fun hh => ?_)
  · skip
    have e : nextOf g xs = ((glanceN (ms0 g)).bind fun b => .done b.2).run xs := by rw [nextOf, if_pos hh]
    rw [e]
    refine wp_seq_k fun K5 hK5 => regionL ?_
    refine list_take 13 (.func (.func 21) #[] #[pT p 0]) rfl (wantedN rfl) (heFunc rfl (by kernel_rfl) (by kernel_rfl) _) ?_
    refine oC (tellV (((glanceN (ms0 g)).bind fun b => .done b.2).run xs)) (m_run 21 #[pT p 0] (fun _ => by kernel_rfl) hat (fun w' h' _ => m_glance1 h')) ?_
    intro W' hbes
    have r0 := r0.besides hbes (by omega) (by omega)
    have r1 := r1.besides hbes (by omega) (by omega)
    have r2 := r2.besides hbes (by omega) (by omega)
    have hb := hb.trans (hbes.below (by omega) (by omega) hb.size)
    rw [tellV_eq]
    generalize hX : ((glanceN (ms0 g)).bind fun b => .done b.2).run xs = X at *
    refine oX 15 #[cyV (cyOf X), regsV (rgOf X), .bool (doneOf X)] (cyV (cyOf X)) <| oX 16 #[cyV (cyOf X), regsV (rgOf X), .bool (doneOf X)] (regsV (rgOf X)) <| oX 17 #[cyV (cyOf X), regsV (rgOf X), .bool (doneOf X)] (.bool (doneOf X)) <| oS ⟨L1, 0, none⟩ (cyV (cyOf X)) (stCy r1) ?_
    have r1' : Row (W'.setCells L1 0 (cyC (cyOf X)).toList) L1 28 (cyC (cyOf X)) := r1.setAll rfl
    have r2' := r2.setFar (by omega : L2 ≠ L1) (cyC (cyOf X)).toList 0
    have hb := Below.setCellsAll hb (b := L1) (by omega) (cyC (cyOf X)).toList 0
    refine oS ⟨L2, 0, none⟩ (regsV (rgOf X)) (stRow r2') ?_
    have r1' := r1'.setFar (by omega : L1 ≠ L2) (regsC (rgOf X)).toList 0
    have r2' : Row ((W'.setCells L1 0 (cyC (cyOf X)).toList).setCells L2 0 (regsC (rgOf X)).toList) L2 24 (regsC (rgOf X)) := r2'.setAll rfl
    have hb := Below.setCellsAll hb (b := L2) (by omega) (regsC (rgOf X)).toList 0
    refine oA 6 (.bool (doneOf X)) ?_
    refine endL ?_
    try simp only [Act.put, sA, sB, sC]
    refine thenN <| hK5 _ _ ?_
    refine wp_ret ?_
    refine thenR ?_
    exact bodyPost_ret (results_told rfl (by kernel_rfl) (by kernel_rfl) (by kernel_rfl) r1' r2') rfl ⟨by first | rfl | (rw [tellV_eq]; done) | (rw [e, tellV_eq]; done), hb⟩
  · skip
    have e : nextOf g xs = nextX (ms0 g) xs := by rw [nextOf, if_neg (by rw [hh]; decide)]
    rw [e]
    refine wp_skip ?_
    refine thenN <| hK3 _ _ ?_
    rw [e]
    refine wp_seq_k fun K5 hK5 => regionL ?_
    refine list_take 18 (.func (.func 23) #[] #[pT p 0]) rfl (wantedN rfl) (heFunc rfl (by kernel_rfl) (by kernel_rfl) _) ?_
    refine oC (tellV (nextX (ms0 g) xs)) (m_run 23 #[pT p 0] (fun _ => by kernel_rfl) hat (fun w' h' _ => m_whole h')) ?_
    intro W' hbes
    have r0 := r0.besides hbes (by omega) (by omega)
    have r1 := r1.besides hbes (by omega) (by omega)
    have r2 := r2.besides hbes (by omega) (by omega)
    have hb := hb.trans (hbes.below (by omega) (by omega) hb.size)
    rw [tellV_eq]
    generalize hX : nextX (ms0 g) xs = X at *
    refine oX 20 #[cyV (cyOf X), regsV (rgOf X), .bool (doneOf X)] (cyV (cyOf X)) <| oX 21 #[cyV (cyOf X), regsV (rgOf X), .bool (doneOf X)] (regsV (rgOf X)) <| oX 22 #[cyV (cyOf X), regsV (rgOf X), .bool (doneOf X)] (.bool (doneOf X)) <| oS ⟨L1, 0, none⟩ (cyV (cyOf X)) (stCy r1) ?_
    have r1' : Row (W'.setCells L1 0 (cyC (cyOf X)).toList) L1 28 (cyC (cyOf X)) := r1.setAll rfl
    have r2' := r2.setFar (by omega : L2 ≠ L1) (cyC (cyOf X)).toList 0
    have hb := Below.setCellsAll hb (b := L1) (by omega) (cyC (cyOf X)).toList 0
    refine oS ⟨L2, 0, none⟩ (regsV (rgOf X)) (stRow r2') ?_
    have r1' := r1'.setFar (by omega : L1 ≠ L2) (regsC (rgOf X)).toList 0
    have r2' : Row ((W'.setCells L1 0 (cyC (cyOf X)).toList).setCells L2 0 (regsC (rgOf X)).toList) L2 24 (regsC (rgOf X)) := r2'.setAll rfl
    have hb := Below.setCellsAll hb (b := L2) (by omega) (regsC (rgOf X)).toList 0
    refine oA 6 (.bool (doneOf X)) ?_
    refine endL ?_
    try simp only [Act.put, sA, sB, sC]
    refine thenN <| hK5 _ _ ?_
    refine wp_ret ?_
    exact bodyPost_ret (results_told rfl (by kernel_rfl) (by kernel_rfl) (by kernel_rfl) r1' r2') rfl ⟨by first | rfl | (rw [tellV_eq]; done) | (rw [e, tellV_eq]; done), hb⟩
set_option maxRecDepth 20000 in
set_option maxHeartbeats 16000000 in
theorem nafter_any (g : Rg) (hg : RgB g) (c : Int) (hcb : B8 c) (A : Option Addr) (cap : Nat) (xs : List Int) (hc : xs.length ≤ cap) (h8 : Bytes8 xs) (w : World) (hin : BytesIn w w.heap.size A xs) (ht : Tabs w w.heap.size) :
    Calls Tryz.prog 14 #[regsV g, .int .u8 c, .slice A xs.length cap] w (fun e w' => e = .returned (tellV (afterOf g c xs)) ∧ Below w.heap.size w w') := by
  go_enter Tryz.func14, Tryz.ntmps14
  refine wp_seq_k fun K1 hK1 => regionL ?_
  refine list_make 3 (pT w.heap.size 0) rfl (wantedN rfl) (heBox rfl (by kernel_rfl) (boxRg g w)) ?_
  have r0 := Row.new w 24 (regsC g)
  have hb := Below.alloc (Below.refl w.heap.size w) (Nat.le_refl _) (.cells (regsC g) 24)
  obtain ⟨L0, hL0⟩ : ∃ L, L = w.heap.size := ⟨_, rfl⟩
  rw [← hL0] at r0 ⊢
  have l0 := r0.lt
  generalize w.alloc (.cells (regsC g) 24) = W0 at *
  have hsW0 := hb.size
  refine list_make 4 (pT W0.heap.size 0) rfl (wantedN rfl) (heBox rfl (by kernel_rfl) (box8 c W0)) ?_
  have r0 := r0.alloc (.cells #[.int .u8 c] 5)
  have r1 := Row.new W0 5 #[.int .u8 c]
  have hb := Below.alloc hb (by have := hb.size; omega) (.cells #[.int .u8 c] 5)
  obtain ⟨L1, hL1⟩ : ∃ L, L = W0.heap.size := ⟨_, rfl⟩
  have q1 : w.heap.size ≤ L1 ∧ L0 < L1 := by rw [hL1]; exact ⟨hsW0, l0⟩
  rw [← hL1] at r1 ⊢
  generalize W0.alloc (.cells #[.int .u8 c] 5) = W1 at *
  have l0 := r0.lt
  have l1 := r1.lt
  have hsW1 := hb.size
  refine list_make 6 (pT W1.heap.size 0) rfl (wantedN rfl) (heAlloc rfl (allocCy W1)) ?_
  have r0 := r0.alloc (.cells (cyC zeroCy) 28)
  have r1 := r1.alloc (.cells (cyC zeroCy) 28)
  have r2 := Row.new W1 28 (cyC zeroCy)
  have hb := Below.alloc hb (by have := hb.size; omega) (.cells (cyC zeroCy) 28)
  obtain ⟨L2, hL2⟩ : ∃ L, L = W1.heap.size := ⟨_, rfl⟩
  have q2 : w.heap.size ≤ L2 ∧ L0 < L2 ∧ L1 < L2 := by rw [hL2]; exact ⟨hsW1, l0, l1⟩
  rw [← hL2] at r2 ⊢
  generalize W1.alloc (.cells (cyC zeroCy) 28) = W2 at *
  have l0 := r0.lt
  have l1 := r1.lt
  have l2 := r2.lt
  have hsW2 := hb.size
  refine list_make 7 (pT W2.heap.size 0) rfl (wantedN rfl) (heAlloc rfl (allocRg W2)) ?_
  have r0 := r0.alloc (.cells (regsC zeroRg) 24)
  have r1 := r1.alloc (.cells (regsC zeroRg) 24)
  have r2 := r2.alloc (.cells (regsC zeroRg) 24)
  have r3 := Row.new W2 24 (regsC zeroRg)
  have hb := Below.alloc hb (by have := hb.size; omega) (.cells (regsC zeroRg) 24)
  obtain ⟨L3, hL3⟩ : ∃ L, L = W2.heap.size := ⟨_, rfl⟩
  have q3 : w.heap.size ≤ L3 ∧ L0 < L3 ∧ L1 < L3 ∧ L2 < L3 := by rw [hL3]; exact ⟨hsW2, l0, l1, l2⟩
  rw [← hL3] at r3 ⊢
  generalize W2.alloc (.cells (regsC zeroRg) 24) = W3 at *
  have l0 := r0.lt
  have l1 := r1.lt
  have l2 := r2.lt
  have l3 := r3.lt
  have hsW3 := hb.size
  refine oA 8 (.bool false) ?_
  refine endL ?_
  try simp only [Act.put, sA, sB, sC]
  refine thenN <| hK1 _ _ <| wp_seq_k fun K2 hK2 => regionL <| oL 10 (ldR r0.range) <| oM 11 (.slice A xs.length cap) <| oU 12 (mC (ms0 g) A xs.length cap) ?_
  refine list_make 9 (pT W3.heap.size 0) rfl (wantedN rfl) (heAlloc rfl (allocM W3)) ?_
  have hat := at_new (w := w) (W := W3) (fun b hlt => hb.block b hlt) hb.size hg hc h8 hin ht
  refine list_do rfl (wantedN rfl) (heStore (ad := ⟨W3.heap.size, 0, none⟩) (V := .agg (mC (ms0 g) A xs.length cap)) rfl (by kernel_rfl) (by kernel_rfl) (stM g A xs.length cap)) ?_
  have r0 := (r0.alloc (.cells zeroM 46)).setFar (by omega) (mC (ms0 g) A xs.length cap).toList 0 (b := W3.heap.size)
  have r1 := (r1.alloc (.cells zeroM 46)).setFar (by omega) (mC (ms0 g) A xs.length cap).toList 0 (b := W3.heap.size)
  have r2 := (r2.alloc (.cells zeroM 46)).setFar (by omega) (mC (ms0 g) A xs.length cap).toList 0 (b := W3.heap.size)
  have r3 := (r3.alloc (.cells zeroM 46)).setFar (by omega) (mC (ms0 g) A xs.length cap).toList 0 (b := W3.heap.size)
  have hb := Below.setCellsAll (Below.alloc hb (by have := hb.size; omega) (.cells zeroM 46)) (b := W3.heap.size) (by have := hb.size; omega) (mC (ms0 g) A xs.length cap).toList 0
  obtain ⟨p, hp⟩ : ∃ p, p = W3.heap.size := ⟨_, rfl⟩
  have qp : w.heap.size ≤ p ∧ L0 < p ∧ L1 < p ∧ L2 < p ∧ L3 < p := by rw [hp]; exact ⟨hsW3, l0, l1, l2, l3⟩
  rw [← hp] at hat ⊢
  rw [← hp] at r0 r1 r2 r3 hb
  generalize (W3.alloc (.cells zeroM 46)).setCells p 0 (mC (ms0 g) A xs.length cap).toList = W at *
  refine endL ?_
  try simp only [Act.put, sA, sB, sC]
  refine thenN <| hK2 _ _ <| wp_seq_k fun K3 hK3 => regionL ?_
  refine list_take 13 (.func (.func 31) #[] #[pT p 0, pT L1 0]) rfl (wantedN rfl) (heFunc rfl (by kernel_rfl) (by kernel_rfl) _) ?_
  refine oC (tellV (afterOf g c xs)) (m_run 31 #[pT p 0, pT L1 0] (fun _ => by kernel_rfl) hat (fun w' h' hbw => m_after1 c hcb h' (r1.below hbw r1.lt))) ?_
  intro W' hbes
  have r0 := r0.besides hbes (by omega) (by omega)
  have r1 := r1.besides hbes (by omega) (by omega)
  have r2 := r2.besides hbes (by omega) (by omega)
  have r3 := r3.besides hbes (by omega) (by omega)
  have hb := hb.trans (hbes.below (by omega) (by omega) hb.size)
  rw [tellV_eq]
  generalize hX : afterOf g c xs = X at *
  refine oX 15 #[cyV (cyOf X), regsV (rgOf X), .bool (doneOf X)] (cyV (cyOf X)) <| oX 16 #[cyV (cyOf X), regsV (rgOf X), .bool (doneOf X)] (regsV (rgOf X)) <| oX 17 #[cyV (cyOf X), regsV (rgOf X), .bool (doneOf X)] (.bool (doneOf X)) <| oS ⟨L2, 0, none⟩ (cyV (cyOf X)) (stCy r2) ?_
  have r2' : Row (W'.setCells L2 0 (cyC (cyOf X)).toList) L2 28 (cyC (cyOf X)) := r2.setAll rfl
  have r3' := r3.setFar (by omega : L3 ≠ L2) (cyC (cyOf X)).toList 0
  have hb := Below.setCellsAll hb (b := L2) (by omega) (cyC (cyOf X)).toList 0
  refine oS ⟨L3, 0, none⟩ (regsV (rgOf X)) (stRow r3') ?_
  have r2' := r2'.setFar (by omega : L2 ≠ L3) (regsC (rgOf X)).toList 0
  have r3' : Row ((W'.setCells L2 0 (cyC (cyOf X)).toList).setCells L3 0 (regsC (rgOf X)).toList) L3 24 (regsC (rgOf X)) := r3'.setAll rfl
  have hb := Below.setCellsAll hb (b := L3) (by omega) (regsC (rgOf X)).toList 0
  refine oA 8 (.bool (doneOf X)) ?_
  refine endL ?_
  try simp only [Act.put, sA, sB, sC]
  refine thenN <| hK3 _ _ ?_
  refine wp_ret ?_
  exact bodyPost_ret (results_told rfl (by kernel_rfl) (by kernel_rfl) (by kernel_rfl) r2' r3') rfl ⟨by first | rfl | (rw [tellV_eq]; done) | (rw [e, tellV_eq]; done), hb⟩
def readsM (k : Int) : Bool := k == 1 || (k == 2 || k == 4)
def takesGo (rd : Int → Bool) (f : List Int → Cy × Bool) : Nat → List Int → List Int → Int → Int × List Int
  | 0, got, ans, n => (n, got)
  | k + 1, got, ans, n =>
    if (f got).2 = true then (n, got) else
    if rd (f got).1.kind = true then takesGo rd f k (got ++ [ans.headD 0]) ans.tail (n + (f got).1.t) else takesGo rd f k (got ++ [0]) ans (n + (f got).1.t)
def nextF (g : Rg) (xs : List Int) : Cy × Bool := (cyOf (nextOf g xs), doneOf (nextOf g xs))
def takesOf (g : Rg) (ans : List Int) : Int × List Int := takesGo readsM (nextF g) 200 [] ans 0
def g5 : Rg := { zeroRg with pc := 5 }
theorem ex_0 : nextOf g5 [] = .error ⟨1, 5, 0, 4⟩ := by rfl
theorem ex_1 : nextOf g5 [62] = .error ⟨2, 6, 0, 3⟩ := by rfl
theorem ex_2 : doneOf (nextOf g5 [62, 7]) = true ∧ rgOf (nextOf g5 [62, 7]) = { zeroRg with af := 1792, pc := 7, r := 1 } := by exact ⟨by rfl, by rfl⟩
theorem ex_3 : doneOf (afterOf g5 60 []) = true ∧ (rgOf (afterOf g5 60 [])).af = 256 := by exact ⟨by rfl, by decide +kernel⟩
theorem ex_4 : (takesOf g5 [62, 7]).1 = 7 ∧ (takesOf g5 [62, 7]).2.length = 2 := by exact ⟨by rfl, by rfl⟩
def Tr.pay {α : Type} (rd : Int → Bool) : Tr α → List Int → Int → Int × List Int × α
  | .done a, ans, n => (n, ans, a)
  | .ask c k, ans, n => if rd c.kind = true then (k (ans.headD 0)).pay rd ans.tail (n + c.t) else (k 0).pay rd ans (n + c.t)
theorem Tr.pay_done {α : Type} (rd : Int → Bool) (a : α) (ans : List Int) (n : Int) : (Tr.done a).pay rd ans n = (n, ans, a) := by unfold Tr.pay; rfl
theorem Tr.pay_bind {α β : Type} (rd : Int → Bool) (t : Tr α) (f : α → Tr β) : ∀ ans n, (t.bind f).pay rd ans n = (f (t.pay rd ans n).2.2).pay rd (t.pay rd ans n).2.1 (t.pay rd ans n).1 := by
  induction t with
  | done a => intro ans n; rw [Tr.bind_done, Tr.pay_done]
  | ask c k ih =>
    intro ans n
    simp only [Tr.bind, Tr.pay]
    split
    · exact ih _ _ _
    · exact ih _ _ _
def Tr.Depth {α : Type} : Tr α → Nat → Prop
  | .done _, _ => True
  | .ask _ _, 0 => False
  | .ask _ k, d + 1 => ∀ b, (k b).Depth d
theorem Tr.depth_done {α : Type} (a : α) (d : Nat) : (Tr.done a).Depth d := by cases d <;> exact trivial
theorem Tr.depth_ask {α : Type} {c : Cy} {k : Int → Tr α} {d : Nat} (h : ∀ b, (k b).Depth d) : (Tr.ask c k).Depth (d + 1) := h
theorem Tr.Depth.mono {α : Type} {t : Tr α} : ∀ {m n : Nat}, t.Depth m → m ≤ n → t.Depth n := by
  induction t with
  | done a => intro m n _ _; exact Tr.depth_done _ _
  | ask c k ih =>
    intro m n h hmn
    cases m with
    | zero => exact h.elim
    | succ m =>
      cases n with
      | zero => omega
      | succ n => exact fun b => ih b (h b) (by omega)
theorem Tr.Depth.bind {α β : Type} {t : Tr α} {f : α → Tr β} : ∀ {m n : Nat}, t.Depth m → (∀ a, (f a).Depth n) → (t.bind f).Depth (m + n) := by
  induction t with
  | done a => intro m n _ hf; exact (hf a).mono (by omega)
  | ask c k ih =>
    intro m n h hf
    cases m with
    | zero => exact h.elim
    | succ m =>
      rw [show m + 1 + n = (m + n) + 1 by omega]
      exact fun b => ih b (h b) hf
def CyK (c : Cy) : Prop := 1 ≤ c.kind ∧ c.kind ≤ 7 ∧ c.kind ≠ 6 ∧ 1 ≤ c.t ∧ c.t ≤ 7 ∧ (c.kind ≠ 3 → c.kind ≠ 5 → c.data = 0)
def Tr.Deaf {α : Type} : Tr α → Prop
  | .done _ => True
  | .ask c k => CyK c ∧ (c.kind = 3 ∨ c.kind = 5 ∨ c.kind = 7 → ∀ b b', k b = k b') ∧ ∀ b, (k b).Deaf
theorem Tr.Deaf.bind {α β : Type} {t : Tr α} {f : α → Tr β} (h : t.Deaf) (hf : ∀ a, (f a).Deaf) : (t.bind f).Deaf := by
  induction t with
  | done a => exact hf a
  | ask c k ih => exact ⟨h.1, fun hk b b' => by show (k b).bind f = (k b').bind f; rw [h.2.1 hk b b'], fun b => ih b (h.2.2 b)⟩
theorem Tr.Deaf.run {α : Type} {t : Tr α} (h : t.Deaf) : ∀ {xs : List Int} {c : Cy}, t.run xs = .error c → (c.kind = 3 ∨ c.kind = 5 ∨ c.kind = 7) → ∀ b b' zs, t.run (xs ++ b :: zs) = t.run (xs ++ b' :: zs) := by
  induction t with
  | done a => intro xs c e; rw [Tr.run_done] at e; cases e
  | ask c k ih =>
    intro xs c' e hk b b' zs
    cases xs with
    | nil =>
      rw [Tr.run_nil] at e
      injection e with e; subst e
      show (k b).run zs = (k b').run zs
      rw [h.2.1 hk b b']
    | cons x xs => exact ih x (h.2.2 x) e hk b b' zs
theorem Tr.Deaf.error {α : Type} {t : Tr α} (h : t.Deaf) : ∀ {xs : List Int} {c : Cy}, t.run xs = .error c → CyK c := by
  induction t with
  | done a => intro xs c e; rw [Tr.run_done] at e; cases e
  | ask c k ih =>
    intro xs c' e
    cases xs with
    | nil =>
      rw [Tr.run_nil] at e
      injection e with e; subst e
      exact h.1
    | cons x xs => exact ih x (h.2.2 x) e
theorem Tr.Deaf.pay {α : Type} {rd rd' : Int → Bool} (e : ∀ k, k ≠ 6 → rd k = rd' k) {t : Tr α} (h : t.Deaf) : ∀ ans n, t.pay rd ans n = t.pay rd' ans n := by
  induction t with
  | done a => intro ans n; rw [Tr.pay_done, Tr.pay_done]
  | ask c k ih =>
    intro ans n
    simp only [Tr.pay, e c.kind h.1.2.2.1]
    split
    · exact ih _ (h.2.2 _) _ _
    · exact ih _ (h.2.2 _) _ _
def toldOf {α : Type} : Except Cy (α × List Int) → Cy × Bool | .ok _ => (zeroCy, true) | .error c => (c, false)
theorem takes_tree {α : Type} {rd : Int → Bool} {f : List Int → Cy × Bool} {t : Tr α} : ∀ {d : Nat} (k : Nat) (pre ans : List Int) (n : Int), t.Depth d → d ≤ k → (∀ xs, f (pre ++ xs) = toldOf (t.run xs)) →
    (takesGo rd f k pre ans n).1 = (t.pay rd ans n).1 ∧ (takesGo rd f k pre ans n).2.length ≤ pre.length + d := by
  induction t with
  | done a =>
    intro d k pre ans n _ _ h
    have h0 := h []
    rw [List.append_nil, Tr.run_done] at h0
    cases k with
    | zero => exact ⟨by rw [Tr.pay_done]; rfl, by show pre.length ≤ _; omega⟩
    | succ k =>
      unfold takesGo
      rw [h0, Tr.pay_done]
      exact ⟨rfl, by show pre.length ≤ _; omega⟩
  | ask c l ih =>
    intro d k pre ans n hd hk h
    cases d with
    | zero => exact hd.elim
    | succ d =>
      cases k with
      | zero => omega
      | succ k =>
        have h0 := h []
        rw [List.append_nil, Tr.run_nil] at h0
        have step : ∀ b xs, f ((pre ++ [b]) ++ xs) = toldOf ((l b).run xs) := fun b xs => by
          rw [List.append_assoc]
          exact h (b :: xs)
        unfold takesGo Tr.pay
        rw [h0]
        cases hr : rd c.kind with
        | true =>
          simp only [toldOf, Bool.false_eq_true, if_false, hr, if_true]
          have := ih (ans.headD 0) k (pre ++ [ans.headD 0]) ans.tail (n + c.t) (hd _) (by omega) (step _)
          rw [List.length_append, List.length_singleton] at this
          exact ⟨this.1, by omega⟩
        | false =>
          simp only [toldOf, Bool.false_eq_true, if_false, hr]
          have := ih 0 k (pre ++ [0]) ans (n + c.t) (hd _) (by omega) (step _)
          rw [List.length_append, List.length_singleton] at this
          exact ⟨this.1, by omega⟩
theorem deaf_read (a : Int) (s : Ms) : (readN a s).Deaf := ⟨by simp [CyK], fun h => absurd (show (2 : Int) = 3 ∨ (2 : Int) = 5 ∨ (2 : Int) = 7 from h) (by decide), fun _ => trivial⟩
theorem deaf_in (a : Int) (s : Ms) : (inN a s).Deaf := ⟨by simp [CyK], fun h => absurd (show (4 : Int) = 3 ∨ (4 : Int) = 5 ∨ (4 : Int) = 7 from h) (by decide), fun _ => trivial⟩
theorem deaf_glance (s : Ms) : (glanceN s).Deaf := ⟨by simp [CyK], fun h => absurd (show (1 : Int) = 3 ∨ (1 : Int) = 5 ∨ (1 : Int) = 7 from h) (by decide), fun _ => trivial⟩
theorem deaf_write (a b : Int) (s : Ms) : (writeN a b s).Deaf := ⟨by simp [CyK], fun _ _ _ => rfl, fun _ => trivial⟩
theorem deaf_out (a b : Int) (s : Ms) : (outN a b s).Deaf := ⟨by simp [CyK], fun _ _ _ => rfl, fun _ => trivial⟩
theorem deaf_pause (n : Int) (s : Ms) (h : 1 ≤ n ∧ n ≤ 7 := by decide) : (pauseN n s).Deaf := ⟨by simpa [CyK] using h, fun _ _ _ => rfl, fun _ => trivial⟩
theorem deaf_fetch (s : Ms) : (fetchN s).Deaf := Tr.Deaf.bind (deaf_glance s) fun _ => trivial
theorem deaf_number (s : Ms) : (numberN s).Deaf := Tr.Deaf.bind (deaf_read ..) fun _ => trivial
theorem deaf_word (s : Ms) : (wordN s).Deaf := Tr.Deaf.bind (deaf_number _) fun _ => Tr.Deaf.bind (deaf_number _) fun _ => trivial
theorem deaf_wordAt (a : Int) (s : Ms) : (wordAtN a s).Deaf := Tr.Deaf.bind (deaf_read ..) fun _ => Tr.Deaf.bind (deaf_read ..) fun _ => trivial
theorem deaf_push (x : Int) (s : Ms) : (pushN x s).Deaf := Tr.Deaf.bind (deaf_write ..) fun _ => deaf_write ..
theorem deaf_pop (s : Ms) : (popN s).Deaf := Tr.Deaf.bind (deaf_wordAt ..) fun _ => trivial
theorem deaf_ite {α : Type} {c : Prop} [Decidable c] {t u : Tr α} (h : t.Deaf) (k : u.Deaf) : (if c then t else u).Deaf := by split <;> assumption
theorem deaf_get (k : Int) (s : Ms) : (getN k s).Deaf := deaf_ite (deaf_read ..) trivial
theorem deaf_put (k b : Int) (s : Ms) : (putN k b s).Deaf := deaf_ite (deaf_write ..) trivial
theorem deaf_aim (s : Ms) : (aimN s).Deaf := Tr.Deaf.bind (deaf_number _) fun _ => trivial
theorem deaf_jump (b : Bool) (s : Ms) : (jumpByN b s).Deaf := Tr.Deaf.bind (deaf_number _) fun _ => deaf_ite (Tr.Deaf.bind (deaf_pause ..) fun _ => trivial) trivial
theorem deaf_call (b : Bool) (s : Ms) : (callN b s).Deaf := Tr.Deaf.bind (deaf_word _) fun _ => deaf_ite (Tr.Deaf.bind (deaf_pause ..) fun _ => Tr.Deaf.bind (deaf_push ..) fun _ => trivial) trivial
theorem deaf_storeA (a : Int) (s : Ms) : (storeAN a s).Deaf := Tr.Deaf.bind (deaf_write ..) fun _ => trivial
theorem deaf_loadA (a : Int) (s : Ms) : (loadAN a s).Deaf := Tr.Deaf.bind (deaf_read ..) fun _ => trivial
theorem deaf_storeWord (a x : Int) (s : Ms) : (storeWordN a x s).Deaf := Tr.Deaf.bind (deaf_write ..) fun _ => Tr.Deaf.bind (deaf_write ..) fun _ => trivial
theorem deaf_loadWord (a : Int) (s : Ms) : (loadWordN a s).Deaf := Tr.Deaf.bind (deaf_wordAt ..) fun _ => trivial
theorem deaf_quarter (s : Ms) : (quarterN s).Deaf := by
  unfold quarterN variousN loadN reckonN controlN branchN wholePairN throughPlaceN stepPairN countN loadNumberN popsN pushesN singleN exchangeTopN
  repeat' first
    | exact trivial
    | exact deaf_jump ..
    | exact deaf_call ..
    | exact deaf_storeA ..
    | exact deaf_loadA ..
    | exact deaf_storeWord ..
    | exact deaf_get ..
    | exact deaf_put ..
    | exact deaf_push ..
    | refine Tr.Deaf.bind (deaf_pause ..) fun _ => ?_
    | refine Tr.Deaf.bind (deaf_word ..) fun _ => ?_
    | refine Tr.Deaf.bind (deaf_wordAt ..) fun _ => ?_
    | refine Tr.Deaf.bind (deaf_pop ..) fun _ => ?_
    | refine Tr.Deaf.bind (deaf_number ..) fun _ => ?_
    | refine Tr.Deaf.bind (deaf_get ..) fun _ => ?_
    | refine Tr.Deaf.bind (deaf_loadWord ..) fun _ => ?_
    | refine Tr.Deaf.bind (deaf_out ..) fun _ => ?_
    | refine Tr.Deaf.bind (deaf_in ..) fun _ => ?_
    | refine Tr.Deaf.bind (deaf_push ..) fun _ => ?_
    | refine Tr.Deaf.bind (deaf_write ..) fun _ => ?_
    | refine Tr.Deaf.bind (deaf_ite (deaf_pause ..) trivial) fun _ => ?_
    | refine deaf_ite ?_ ?_
theorem deaf_quarterE (s : Ms) : (quarterE s).Deaf := by
  unfold quarterE extendedN blocksN blockSel takeInN giveOutN addCarriedN pairAtPlaceN specialN turnDigitsN blockMoveN blockFindN blockTakeN blockGiveN repeatN
  repeat' first
    | exact trivial
    | exact deaf_storeWord ..
    | exact deaf_put ..
    | refine Tr.Deaf.bind (deaf_pause ..) fun _ => ?_
    | refine Tr.Deaf.bind (deaf_word ..) fun _ => ?_
    | refine Tr.Deaf.bind (deaf_pop ..) fun _ => ?_
    | refine Tr.Deaf.bind (deaf_loadWord ..) fun _ => ?_
    | refine Tr.Deaf.bind (deaf_read ..) fun _ => ?_
    | refine Tr.Deaf.bind (deaf_write ..) fun _ => ?_
    | refine Tr.Deaf.bind (deaf_out ..) fun _ => ?_
    | refine Tr.Deaf.bind (deaf_in ..) fun _ => ?_
    | refine Tr.Deaf.bind (deaf_ite trivial (deaf_get ..)) fun _ => ?_
    | refine deaf_ite ?_ ?_
    | refine Tr.Deaf.bind ?_ fun _ => ?_
theorem deaf_quarterC (s : Ms) : (quarterC s).Deaf := by
  unfold quarterC shiftedN testedN changedN operandN resultN
  repeat' first
    | exact trivial
    | exact deaf_put ..
    | exact deaf_get ..
    | exact deaf_write ..
    | refine Tr.Deaf.bind (deaf_pause ..) fun _ => ?_
    | refine Tr.Deaf.bind (deaf_read ..) fun _ => ?_
    | refine deaf_ite ?_ ?_
    | refine Tr.Deaf.bind ?_ fun _ => ?_
theorem deaf_body (c : Int) (s : Ms) : (bodyN c s).Deaf := by
  unfold bodyN
  refine deaf_ite (Tr.Deaf.bind (Tr.Deaf.bind ?_ fun _ => trivial) fun _ => deaf_quarterC _) (deaf_ite (Tr.Deaf.bind (Tr.Deaf.bind (deaf_fetch _) fun _ => trivial) fun _ => deaf_quarterE _) (Tr.Deaf.bind ?_ fun _ => deaf_quarter _))
  · unfold codeCBN
    exact deaf_ite (deaf_fetch _) (Tr.Deaf.bind (deaf_aim _) fun _ => Tr.Deaf.bind (deaf_number _) fun _ => Tr.Deaf.bind (deaf_pause ..) fun _ => trivial)
  · unfold aloneHead
    exact deaf_ite (Tr.Deaf.bind (deaf_aim _) fun _ => deaf_ite (deaf_pause ..) trivial) trivial
theorem depth_ite {α : Type} {c : Prop} [Decidable c] {t u : Tr α} {d : Nat} (h : t.Depth d) (k : u.Depth d) : (if c then t else u).Depth d := by split <;> assumption
theorem depth_bite {α β : Type} {c : Prop} [Decidable c] {t u : Tr α} {f : α → Tr β} {d : Nat} (h : (t.bind f).Depth d) (k : (u.bind f).Depth d) : ((if c then t else u).bind f).Depth d := by split <;> assumption
set_option maxRecDepth 4000 in
theorem depth_quarter (s : Ms) : (quarterN s).Depth 6 := by
  unfold quarterN variousN loadN reckonN controlN branchN wholePairN throughPlaceN stepPairN countN loadNumberN popsN pushesN singleN exchangeTopN callN jumpByN storeAN loadAN storeWordN loadWordN getN putN
  repeat' first
    | exact Tr.depth_done _ _
    | refine depth_ite ?_ ?_
    | refine depth_bite ?_ ?_
    | refine Tr.depth_ask fun _ => ?_
set_option maxRecDepth 4000 in
theorem depth_quarterE (s : Ms) : (quarterE s).Depth 6 := by
  unfold quarterE extendedN blocksN blockSel takeInN giveOutN addCarriedN pairAtPlaceN specialN turnDigitsN blockMoveN blockFindN blockTakeN blockGiveN repeatN storeWordN loadWordN getN putN
  repeat' first
    | exact Tr.depth_done _ _
    | refine depth_ite ?_ ?_
    | refine depth_bite ?_ ?_
    | refine Tr.depth_ask fun _ => ?_
theorem depth_quarterC (s : Ms) : (quarterC s).Depth 4 := by
  unfold quarterC shiftedN testedN changedN operandN resultN getN putN
  repeat' first
    | exact Tr.depth_done _ _
    | refine depth_ite ?_ ?_
    | refine depth_bite ?_ ?_
    | refine Tr.depth_ask fun _ => ?_
theorem depth_body (c : Int) (s : Ms) : (bodyN c s).Depth 8 := by
  unfold bodyN
  refine depth_ite ?_ (depth_ite ?_ ?_)
  · refine Tr.Depth.mono (Tr.Depth.bind (m := 3) (n := 4) ?_ fun _ => depth_quarterC _) (by decide)
    unfold codeCBN
    repeat' first
      | exact Tr.depth_done _ _
      | refine depth_bite ?_ ?_
      | refine Tr.depth_ask fun _ => ?_
  · exact Tr.Depth.mono (Tr.Depth.bind (m := 1) (n := 6) (Tr.depth_ask fun _ => Tr.depth_done _ _) fun _ => depth_quarterE _) (by decide)
  · refine Tr.Depth.bind (m := 2) (n := 6) ?_ fun _ => depth_quarter _
    unfold aloneHead
    repeat' first
      | exact Tr.depth_done _ _
      | refine depth_ite ?_ ?_
      | refine depth_bite ?_ ?_
      | refine Tr.depth_ask fun _ => ?_
def posM (xs : List Int) : Nat → Nat
  | 0 => 0
  | k + 1 => posM xs k + lenOf (xs.drop (posM xs k))
def Runs (xs : List Int) (k : Nat) : Prop := ∀ j, j < k → okM (xs.drop (posM xs j)) = true
def Stops (xs : List Int) (k : Nat) : Prop := Runs xs k ∧ okM (xs.drop (posM xs k)) = false
theorem Runs.zero (xs : List Int) : Runs xs 0 := fun j hj => by omega
theorem Runs.succ {xs : List Int} {k : Nat} (h : Runs xs k) (o : okM (xs.drop (posM xs k)) = true) : Runs xs (k + 1) := fun j hj => by
  by_cases e : j = k
  · subst e; exact o
  · exact h j (by omega)
theorem ok_len {ys : List Int} (h : okM ys = true) : lenOf ys ≤ ys.length := by
  unfold okM at h
  exact of_decide_eq_true h
theorem Runs.pos {xs : List Int} {k : Nat} (h : Runs xs k) : k ≤ posM xs k ∧ posM xs k ≤ xs.length := by
  induction k with
  | zero => exact ⟨Nat.le_refl _, Nat.zero_le _⟩
  | succ k ih =>
    have h1 := ih (fun j hj => h j (by omega))
    have h2 := ok_len (h k (by omega))
    have h3 := lead_lt_len (xs.drop (posM xs k))
    rw [List.length_drop] at h2
    show k + 1 ≤ posM xs k + lenOf (xs.drop (posM xs k)) ∧ posM xs k + lenOf (xs.drop (posM xs k)) ≤ xs.length
    omega
theorem Stops.same {xs : List Int} {j k : Nat} (h : Stops xs j) (h' : Stops xs k) : j = k := by
  rcases Nat.lt_trichotomy j k with e | e | e
  · have := h'.1 j e
    rw [h.2] at this
    cases this
  · exact e
  · have := h.1 k e
    rw [h'.2] at this
    cases this
theorem Bytes8.drop {xs : List Int} (h : Bytes8 xs) (k : Nat) : Bytes8 (xs.drop k) := fun x hx => h x (List.mem_of_mem_drop hx)
theorem Bytes8.take {xs : List Int} (h : Bytes8 xs) (k : Nat) : Bytes8 (xs.take k) := fun x hx => h x (List.mem_of_mem_take hx)
theorem Bytes8.append {xs ys : List Int} (h : Bytes8 xs) (h' : Bytes8 ys) : Bytes8 (xs ++ ys) := fun x hx => by
  rcases List.mem_append.1 hx with e | e
  · exact h x e
  · exact h' x e
def rowsT : List Int := [
  4, 10, 7, 6, 4, 4, 7, 4, 4, 11, 7, 6, 4, 4, 7, 4,
  8, 10, 7, 6, 4, 4, 7, 4, 12, 11, 7, 6, 4, 4, 7, 4,
  7, 10, 16, 6, 4, 4, 7, 4, 7, 11, 16, 6, 4, 4, 7, 4,
  7, 10, 13, 6, 11, 11, 10, 4, 7, 11, 13, 6, 4, 4, 7, 4,
  4, 4, 4, 4, 4, 4, 7, 4, 4, 4, 4, 4, 4, 4, 7, 4,
  7, 7, 7, 7, 7, 7, 4, 7, 4, 4, 4, 4, 4, 4, 7, 4,
  5, 10, 10, 10, 10, 11, 7, 11, 5, 10, 10, 4, 10, 17, 7, 11,
  5, 10, 10, 11, 10, 11, 7, 11, 5, 4, 10, 11, 10, 4, 7, 11,
  5, 10, 10, 19, 10, 11, 7, 11, 5, 4, 10, 4, 10, 4, 7, 11,
  5, 10, 10, 4, 10, 11, 7, 11, 5, 6, 10, 4, 10, 4, 7, 11]
def rowOfT : List Int := [0, 1, 2, 3, 4, 4, 4, 5, 4, 4, 4, 4, 6, 7, 8, 9]
def singleT : List Int := [12, 12, 15, 20, 8, 14, 8]
def specialT : List Int := [9, 9, 9, 9, 18, 18, 8, 8]
def unheldM (c : Int) : Int := rowsT.getD (rowOfT.getD (c / 16).toNat 0 * 16 + c % 16).toNat 0
def addedM (c : Int) : Int := if fx c = 3 ∧ fz c = 4 then 7 else if fx c = 3 ∧ fz c = 0 then 6 else if c = 16 ∨ (fx c = 0 ∧ fz c = 0 ∧ 4 ≤ fy c) then 5 else 0
def plainM (c : Int) (t : Bool) : Int := if t then unheldM c + addedM c else unheldM c
def reachM (p c : Int) : Int := if c = 54 then 5 else if nearM p c then 8 else 0
def bitsCM (c : Int) : Int := if fz c = 6 then (if fx c = 1 then 12 else 15) else 8
def bitsNM (c : Int) : Int := if fx c = 1 then 20 else 23
def extM (c : Int) (t : Bool) : Int := if fx c = 1 then (if fz c < 7 then singleT.getD (fz c).toNat 0 else specialT.getD (fy c).toNat 0) else if fx c = 2 ∧ fz c < 4 ∧ 4 ≤ fy c then (if t && decide (6 ≤ fy c) then 21 else 16) else 8
def netM (p c : Int) (t : Bool) : Int :=
  if p = 0 then plainM c t else if p = 3 ∨ p = 4 then 4 + plainM c t + reachM p c else if p = 1 then bitsCM c else if p = 5 ∨ p = 6 then bitsNM c else if p = 2 then extM c t else 0
def ofM (p c s : Int) (t : Bool) : Int := if p < 0 ∨ 6 < p then 0 else wrap64 (4 * s + netM p c t)
theorem planes_all {P : Int → Int → Prop} (h : ∀ p : Fin 7, ∀ c : Fin 256, P (p.val : Int) (c.val : Int)) (p c : Int) (hp : 0 ≤ p ∧ p ≤ 6) (hc : B8 c) : P p c := by
  obtain ⟨h0, h1⟩ := hc
  have := h ⟨p.toNat, by omega⟩ ⟨c.toNat, by omega⟩
  simp only at this
  rwa [Int.toNat_of_nonneg hp.1, Int.toNat_of_nonneg h0] at this
theorem net_fin : ∀ p : Fin 7, ∀ c : Fin 256, (4 ≤ netM (p.val : Int) (c.val : Int) false ∧ netM (p.val : Int) (c.val : Int) false ≤ 23) ∧
    (netM (p.val : Int) (c.val : Int) true = netM (p.val : Int) (c.val : Int) false ∨ (5 ≤ netM (p.val : Int) (c.val : Int) true - netM (p.val : Int) (c.val : Int) false ∧ netM (p.val : Int) (c.val : Int) true - netM (p.val : Int) (c.val : Int) false ≤ 7)) := by decide +kernel
theorem net_all (p c : Int) (hp : 0 ≤ p ∧ p ≤ 6) (hc : B8 c) : (4 ≤ netM p c false ∧ netM p c false ≤ 23) ∧
    (netM p c true = netM p c false ∨ (5 ≤ netM p c true - netM p c false ∧ netM p c true - netM p c false ≤ 7)) :=
  planes_all (P := fun p c => (4 ≤ netM p c false ∧ netM p c false ≤ 23) ∧ (netM p c true = netM p c false ∨ (5 ≤ netM p c true - netM p c false ∧ netM p c true - netM p c false ≤ 7))) net_fin p c hp hc
theorem net_le (p c : Int) (t : Bool) (hc : B8 c) : 0 ≤ netM p c t ∧ netM p c t ≤ 30 := by
  by_cases hp : 0 ≤ p ∧ p ≤ 6
  · have h := net_all p c hp hc
    cases t <;> omega
  · unfold netM
    rw [if_neg (by omega), if_neg (by omega), if_neg (by omega), if_neg (by omega), if_neg (by omega)]
    omega
theorem of_small (p c s : Int) (t : Bool) (hp : 0 ≤ p ∧ p ≤ 6) (hs : 0 ≤ s ∧ s ≤ 4096) (hc : B8 c) : ofM p c s t = 4 * s + netM p c t := by
  have h := net_le p c t hc
  unfold ofM wrap64
  rw [if_neg (by omega)]
  omega
theorem of_no (p c s : Int) (t : Bool) (hp : p < 0 ∨ 6 < p) : ofM p c s t = 0 := by
  unfold ofM
  rw [if_pos hp]
def costV (near : Bool) (y z q : Int) (t : Bool) : List Int :=
  if z = 0 then (if y = 0 ∨ y = 1 then [] else if y = 2 then 1 :: (if t then [3, 5] else [3]) else if y = 3 then [3, 5] else if t then [3, 5] else [3]) else
  if z = 1 then (if q = 0 then [3, 3] else [7]) else if z = 2 then (if y < 4 then [3] else if y < 6 then [3, 3, 3, 3] else [3, 3, 3]) else if z = 3 then [2] else
  if z = 4 ∨ z = 5 then (if y = 6 then [3, 1, 3] else []) else if z = 6 then 3 :: ((if near then [2] else []) ++ if y = 6 then [3] else []) else []
def costL (y z : Int) : List Int := if y = 6 ∧ z = 6 then [] else if y = 6 ∨ z = 6 then [3] else []
def costA (z : Int) : List Int := if z = 6 then [3] else []
def costH (y z p q : Int) (t : Bool) : List Int :=
  if z = 0 then 1 :: (if t then [3, 3] else []) else
  if z = 1 then (if q = 0 then [3, 3] else if p = 0 then [3, 3] else if p = 1 then [] else if p = 2 then [] else [2]) else
  if z = 2 then [3, 3] else if z = 3 then (if y = 0 then [3, 3] else if y = 2 ∨ y = 3 then [3, 4] else if y = 4 then [3, 3, 1, 3, 3, 2] else []) else
  if z = 4 then 3 :: 3 :: (if t then [1, 3, 3] else []) else if z = 5 then (if q = 0 then [1, 3, 3] else [3, 3, 1, 3, 3]) else if z = 6 then [3] else [1, 3, 3]
def costQ (near : Bool) (x y z p q : Int) (t : Bool) : List Int := if x = 0 then costV near y z q t else if x = 1 then costL y z else if x = 2 then costA z else costH y z p q t
def costE (x y z : Int) (t : Bool) : List Int :=
  if x = 1 then (if z = 0 ∨ z = 1 then [4] else if z = 2 then [7] else if z = 3 then [3, 3, 3, 3] else if z = 5 then [3, 3] else if z = 7 then (if y < 4 then [1] else if y < 6 then [3, 4, 3] else []) else []) else
  if x = 2 then (if 4 ≤ z ∨ y < 4 then [] else (if z = 0 then [3, 3, 2] else if z = 1 then [3, 5] else if z = 2 then [1, 4, 3] else [1, 3, 4]) ++ if decide (6 ≤ y) && t then [5] else []) else []
def costC (mem : Bool) (x : Int) : List Int := if mem then (if x = 1 then [3, 1] else [3, 1, 3]) else []
def headC (plane c : Int) : Int := if nearM plane c = true then (if fx c ≠ 0 ∨ fz c ≠ 6 then 8 else 3) else 0
def plus (l : List Int) (n : Int) : Int := l.foldl (· + ·) n
theorem plus_sum : ∀ (l : List Int) (n : Int), plus l n = n + l.sum
  | [], n => by simp [plus]
  | x :: l, n => by
    show plus l (n + x) = _
    rw [plus_sum l, List.sum_cons]
    omega
theorem cost_fin : ∀ c : Fin 256, ∀ t : Bool, ((c.val : Int) ≠ 203 → (c.val : Int) ≠ 237 → (c.val : Int) ≠ 221 → (c.val : Int) ≠ 253 →
    netM 0 c.val t = 4 + (costQ false (fx c.val) (fy c.val) (fz c.val) (fp c.val) (fq c.val) t).sum ∧
    netM 3 c.val t = 8 + (headC 3 c.val + (costQ (nearM 3 c.val) (fx c.val) (fy c.val) (fz c.val) (fp c.val) (fq c.val) t).sum) ∧
    netM 4 c.val t = 8 + (headC 4 c.val + (costQ (nearM 4 c.val) (fx c.val) (fy c.val) (fz c.val) (fp c.val) (fq c.val) t).sum)) ∧
    netM 2 c.val t = 8 + (costE (fx c.val) (fy c.val) (fz c.val) t).sum ∧ netM 1 c.val t = 8 + (costC (fz c.val == 6) (fx c.val)).sum ∧
    netM 5 c.val t = 16 + (costC true (fx c.val)).sum ∧ netM 6 c.val t = 16 + (costC true (fx c.val)).sum := by decide +kernel
theorem cost_all (c : Int) (t : Bool) (hc : B8 c) : (c ≠ 203 → c ≠ 237 → c ≠ 221 → c ≠ 253 →
    netM 0 c t = 4 + (costQ false (fx c) (fy c) (fz c) (fp c) (fq c) t).sum ∧
    netM 3 c t = 8 + (headC 3 c + (costQ (nearM 3 c) (fx c) (fy c) (fz c) (fp c) (fq c) t).sum) ∧
    netM 4 c t = 8 + (headC 4 c + (costQ (nearM 4 c) (fx c) (fy c) (fz c) (fp c) (fq c) t).sum)) ∧
    netM 2 c t = 8 + (costE (fx c) (fy c) (fz c) t).sum ∧ netM 1 c t = 8 + (costC (fz c == 6) (fx c)).sum ∧
    netM 5 c t = 16 + (costC true (fx c)).sum ∧ netM 6 c t = 16 + (costC true (fx c)).sum := by
  obtain ⟨h0, h1⟩ := hc
  have := cost_fin ⟨c.toNat, by omega⟩ t
  simp only at this
  rwa [Int.toNat_of_nonneg h0] at this
section
variable (a b n m : Int) (s : Ms) (ans : List Int)
theorem pay_pause : (pauseN m s).pay readsM ans n = (n + m, ans, s) := rfl
theorem pay_fetch : (fetchN s).pay readsM ans n = (n + 4, ans.tail, (ans.headD 0, ({ s with r := tickG s.r 1 } : Ms).pcUp)) := rfl
theorem pay_number : (numberN s).pay readsM ans n = (n + 3, ans.tail, (ans.headD 0, s.pcUp)) := rfl
theorem pay_word : (wordN s).pay readsM ans n = (n + 3 + 3, ans.tail.tail, (256 * ans.tail.headD 0 + ans.headD 0, s.pcUp.pcUp)) := rfl
theorem pay_aim : (aimN s).pay readsM ans n = (n + 3, ans.tail, { s.pcUp.wz (moveM s.hl (signedM (ans.headD 0))) with spot := moveM s.hl (signedM (ans.headD 0)), near := true, plane := 0 }) := rfl
end
section
variable (s : Ms) (ans : List Int) (n : Int)
theorem pay_jump (b : Bool) : ((jumpByN b s).pay readsM ans n).1 = plus (if b then [3, 5] else [3]) n := by cases b <;> rfl
theorem pay_call (b : Bool) : ((callN b s).pay readsM ans n).1 = plus (3 :: 3 :: if b then [1, 3, 3] else []) n := by cases b <;> rfl
theorem pay_two {c : Prop} [Decidable c] {α : Type} (t u : Tr α) {x : Int} (h : (t.pay readsM ans n).1 = x) (k : (u.pay readsM ans n).1 = x) : ((if c then t else u).pay readsM ans n).1 = x := by split <;> assumption
end
set_option maxHeartbeats 8000000 in
theorem pay_various (r : Rg) (plane x y z p q spot : Int) (near : Bool) (ans : List Int) (n : Int) (hy : 0 ≤ y ∧ y ≤ 7) (hz : 0 ≤ z ∧ z ≤ 7) (hq : 0 ≤ q ∧ q ≤ 1) :
    ∃ t, ((variousN ⟨r, plane, x, y, z, p, q, spot, near⟩).pay readsM ans n).1 = plus (costV near y z q t) n := by
  have hz' : z = 0 ∨ z = 1 ∨ z = 2 ∨ z = 3 ∨ z = 4 ∨ z = 5 ∨ z = 6 ∨ z = 7 := by omega
  have hy' : y = 0 ∨ y = 1 ∨ y = 2 ∨ y = 3 ∨ y = 4 ∨ y = 5 ∨ y = 6 ∨ y = 7 := by omega
  have hq' : q = 0 ∨ q = 1 := by omega
  rcases hz' with rfl | rfl | rfl | rfl | rfl | rfl | rfl | rfl
  · rcases hy' with rfl | rfl | rfl | rfl | rfl | rfl | rfl | rfl
    · exact ⟨true, rfl⟩
    · exact ⟨true, rfl⟩
    · exact ⟨_, pay_jump _ ans (n + 1) _⟩
    · exact ⟨true, rfl⟩
    all_goals exact ⟨_, pay_jump _ ans n _⟩
  · rcases hq' with rfl | rfl <;> exact ⟨true, rfl⟩
  · rcases hy' with rfl | rfl | rfl | rfl | rfl | rfl | rfl | rfl <;> exact ⟨true, rfl⟩
  · rcases hq' with rfl | rfl <;> exact ⟨true, rfl⟩
  · rcases hy' with rfl | rfl | rfl | rfl | rfl | rfl | rfl | rfl <;> exact ⟨true, rfl⟩
  · rcases hy' with rfl | rfl | rfl | rfl | rfl | rfl | rfl | rfl <;> exact ⟨true, rfl⟩
  · cases near <;> rcases hy' with rfl | rfl | rfl | rfl | rfl | rfl | rfl | rfl <;> exact ⟨true, rfl⟩
  · exact ⟨true, rfl⟩
theorem pay_load (r : Rg) (plane x y z p q spot : Int) (near : Bool) (ans : List Int) (n : Int) : ((loadN ⟨r, plane, x, y, z, p, q, spot, near⟩).pay readsM ans n).1 = plus (costL y z) n := by
  unfold loadN costL getN putN
  by_cases h1 : y = 6
  · by_cases h2 : z = 6
    · subst h1; subst h2; rfl
    · subst h1
      simp only [h2, and_false, if_false, if_true, true_or]
      rfl
  · by_cases h2 : z = 6
    · subst h2
      simp only [h1, false_and, if_false, if_true, or_true]
      rfl
    · simp only [h1, h2, false_and, if_false, or_false]
      rfl
theorem pay_reckon (r : Rg) (plane x y z p q spot : Int) (near : Bool) (ans : List Int) (n : Int) : ((reckonN ⟨r, plane, x, y, z, p, q, spot, near⟩).pay readsM ans n).1 = plus (costA z) n := by
  unfold reckonN costA getN
  by_cases h2 : z = 6
  · subst h2; rfl
  · simp only [h2, if_false]; rfl
set_option maxHeartbeats 8000000 in
theorem pay_control (r : Rg) (plane x y z p q spot : Int) (near : Bool) (ans : List Int) (n : Int) (hy : 0 ≤ y ∧ y ≤ 7) (hz : 0 ≤ z ∧ z ≤ 7) (hp : 0 ≤ p ∧ p ≤ 3) (hq : 0 ≤ q ∧ q ≤ 1) (hne : ¬ (z = 3 ∧ y = 1)) :
    ∃ t, ((controlN ⟨r, plane, x, y, z, p, q, spot, near⟩).pay readsM ans n).1 = plus (costH y z p q t) n := by
  have hz' : z = 0 ∨ z = 1 ∨ z = 2 ∨ z = 3 ∨ z = 4 ∨ z = 5 ∨ z = 6 ∨ z = 7 := by omega
  have hy' : y = 0 ∨ y = 1 ∨ y = 2 ∨ y = 3 ∨ y = 4 ∨ y = 5 ∨ y = 6 ∨ y = 7 := by omega
  have hp' : p = 0 ∨ p = 1 ∨ p = 2 ∨ p = 3 := by omega
  have hq' : q = 0 ∨ q = 1 := by omega
  rcases hz' with rfl | rfl | rfl | rfl | rfl | rfl | rfl | rfl
  · cases hc : (⟨r, plane, x, y, 0, p, q, spot, near⟩ : Ms).holds y with
    | true =>
      refine ⟨true, ?_⟩
      show (Tr.pay readsM (if (⟨r, plane, x, y, 0, p, q, spot, near⟩ : Ms).holds y = true then _ else _) ans (n + 1)).1 = _
      rw [if_pos hc]; rfl
    | false =>
      refine ⟨false, ?_⟩
      show (Tr.pay readsM (if (⟨r, plane, x, y, 0, p, q, spot, near⟩ : Ms).holds y = true then _ else _) ans (n + 1)).1 = _
      rw [if_neg (by rw [hc]; simp)]; rfl
  · rcases hq' with rfl | rfl <;> rcases hp' with rfl | rfl | rfl | rfl <;> exact ⟨true, rfl⟩
  · refine ⟨true, ?_⟩
    cases hc : (wordN (⟨r, plane, x, y, 2, p, q, spot, near⟩ : Ms)).pay readsM ans n with
    | mk m o =>
      obtain ⟨ys, a, st⟩ := o
      have h : (controlN ⟨r, plane, x, y, 2, p, q, spot, near⟩).pay readsM ans n = (if st.holds st.y then Tr.done ((st.wz a).pc a) else .done (st.wz a)).pay readsM ys m := by
        show (Tr.bind (wordN _) _).pay readsM ans n = _
        rw [Tr.pay_bind, hc]
      rw [h]
      rw [pay_word] at hc
      injection hc with hm _
      rw [← hm]
      split <;> rfl
  · rcases hy' with rfl | rfl | rfl | rfl | rfl | rfl | rfl | rfl
    · exact ⟨true, rfl⟩
    · exact absurd ⟨rfl, rfl⟩ hne
    all_goals exact ⟨true, rfl⟩
  · exact ⟨_, pay_call _ ans n _⟩
  · rcases hq' with rfl | rfl
    · rcases hp' with rfl | rfl | rfl | rfl <;> exact ⟨true, rfl⟩
    · exact ⟨true, rfl⟩
  · exact ⟨true, rfl⟩
  · exact ⟨true, rfl⟩
theorem pay_quarter (s : Ms) (ans : List Int) (n : Int) (hx : 0 ≤ s.x ∧ s.x ≤ 3) (hy : 0 ≤ s.y ∧ s.y ≤ 7) (hz : 0 ≤ s.z ∧ s.z ≤ 7) (hp : 0 ≤ s.p ∧ s.p ≤ 3) (hq : 0 ≤ s.q ∧ s.q ≤ 1) (hne : ¬ (s.x = 3 ∧ s.z = 3 ∧ s.y = 1)) :
    ∃ t, ((quarterN s).pay readsM ans n).1 = n + (costQ s.near s.x s.y s.z s.p s.q t).sum := by
  obtain ⟨r, plane, x, y, z, p, q, spot, near⟩ := s
  have hx' : x = 0 ∨ x = 1 ∨ x = 2 ∨ x = 3 := by simp only at hx; omega
  rcases hx' with rfl | rfl | rfl | rfl
  · obtain ⟨t, h⟩ := pay_various r plane 0 y z p q spot near ans n hy hz hq
    exact ⟨t, by rw [← plus_sum]; exact h⟩
  · exact ⟨true, by rw [← plus_sum]; exact pay_load r plane 1 y z p q spot near ans n⟩
  · exact ⟨true, by rw [← plus_sum]; exact pay_reckon r plane 2 y z p q spot near ans n⟩
  · obtain ⟨t, h⟩ := pay_control r plane 3 y z p q spot near ans n hy hz hp hq (fun h => hne ⟨rfl, h⟩)
    exact ⟨t, by rw [← plus_sum]; exact h⟩
set_option maxHeartbeats 8000000 in
theorem pay_extended (r : Rg) (plane x y z p q spot : Int) (near : Bool) (ans : List Int) (n : Int) (hy : 0 ≤ y ∧ y ≤ 7) (hz : 0 ≤ z ∧ z ≤ 7) (hq : 0 ≤ q ∧ q ≤ 1) :
    ((extendedN ⟨r, plane, x, y, z, p, q, spot, near⟩).pay readsM ans n).1 = plus (costE 1 y z true) n := by
  have hz' : z = 0 ∨ z = 1 ∨ z = 2 ∨ z = 3 ∨ z = 4 ∨ z = 5 ∨ z = 6 ∨ z = 7 := by omega
  have hy' : y = 0 ∨ y = 1 ∨ y = 2 ∨ y = 3 ∨ y = 4 ∨ y = 5 ∨ y = 6 ∨ y = 7 := by omega
  have hq' : q = 0 ∨ q = 1 := by omega
  rcases hz' with rfl | rfl | rfl | rfl | rfl | rfl | rfl | rfl
  · rcases hy' with rfl | rfl | rfl | rfl | rfl | rfl | rfl | rfl <;> rfl
  · rcases hy' with rfl | rfl | rfl | rfl | rfl | rfl | rfl | rfl <;> rfl
  · rcases hq' with rfl | rfl <;> rfl
  · rcases hq' with rfl | rfl <;> rfl
  · rfl
  · rfl
  · rcases hy' with rfl | rfl | rfl | rfl | rfl | rfl | rfl | rfl <;> rfl
  · rcases hy' with rfl | rfl | rfl | rfl | rfl | rfl | rfl | rfl <;> rfl
theorem pay_rep (s : Ms) (ans : List Int) (n : Int) : ((if 6 ≤ s.y ∧ againM s.z s.f = true then repeatN s else .done s).pay readsM ans n).1 = plus (if decide (6 ≤ s.y) && againM s.z s.f then [5] else []) n := by
  by_cases h1 : 6 ≤ s.y
  · cases h2 : againM s.z s.f with
    | true =>
      rw [if_pos ⟨h1, rfl⟩, decide_eq_true h1]
      exact pay_two ans (n + 5) _ _ rfl rfl
    | false =>
      rw [if_neg (fun h => by cases h.2), decide_eq_true h1]
      rfl
  · rw [if_neg (fun h => h1 h.1), decide_eq_false h1]
    rfl
theorem pay_block (r : Rg) (plane x y z p q spot : Int) (near : Bool) (ans : List Int) (n d : Int) (hy : 4 ≤ y ∧ y ≤ 7) (hz : 0 ≤ z ∧ z ≤ 3) :
    ∃ t, ((blockSel d ⟨r, plane, x, y, z, p, q, spot, near⟩).pay readsM ans n).1 = plus (costE 2 y z t) n := by
  have hz' : z = 0 ∨ z = 1 ∨ z = 2 ∨ z = 3 := by omega
  have hc : ∀ t, costE 2 y z t = (if z = 0 then [3, 3, 2] else if z = 1 then [3, 5] else if z = 2 then [1, 4, 3] else [1, 3, 4]) ++ if decide (6 ≤ y) && t then [5] else [] := fun t => by
    unfold costE
    rw [if_neg (by decide), if_pos rfl, if_neg (by omega)]
  have two : ∀ (l m : List Int), plus (l ++ m) n = plus m (plus l n) := fun l m => List.foldl_append
  unfold blockSel
  rw [Tr.pay_bind]
  rcases hz' with rfl | rfl | rfl | rfl
  · exact ⟨_, (pay_rep _ _ _).trans (by rw [hc, two]; rfl)⟩
  · exact ⟨_, (pay_rep _ _ _).trans (by rw [hc, two]; rfl)⟩
  · exact ⟨_, (pay_rep _ _ _).trans (by rw [hc, two]; rfl)⟩
  · exact ⟨_, (pay_rep _ _ _).trans (by rw [hc, two]; rfl)⟩
theorem pay_quarterE (r : Rg) (plane x y z p q spot : Int) (near : Bool) (ans : List Int) (n : Int) (hx : 0 ≤ x ∧ x ≤ 3) (hy : 0 ≤ y ∧ y ≤ 7) (hz : 0 ≤ z ∧ z ≤ 7) (hq : 0 ≤ q ∧ q ≤ 1) :
    ∃ t, ((quarterE ⟨r, plane, x, y, z, p, q, spot, near⟩).pay readsM ans n).1 = n + (costE x y z t).sum := by
  unfold quarterE
  by_cases h1 : x = 1
  · subst h1
    rw [if_pos rfl]
    exact ⟨true, by rw [← plus_sum]; exact pay_extended r plane 1 y z p q spot near ans n hy hz hq⟩
  · rw [if_neg h1]
    by_cases h2 : x = 2
    · subst h2
      rw [if_pos rfl]
      unfold blocksN
      by_cases h3 : 4 ≤ z ∨ y < 4
      · rw [if_pos h3]
        refine ⟨true, ?_⟩
        unfold costE
        rw [if_neg h1, if_pos rfl, if_pos h3, Tr.pay_done]
        simp
      · rw [if_neg h3]
        have k : ∀ d, ∃ t, ((blockSel d ⟨r, plane, 2, y, z, p, q, spot, near⟩).pay readsM ans n).1 = n + (costE 2 y z t).sum := fun d => by
          obtain ⟨t, h⟩ := pay_block r plane 2 y z p q spot near ans n d (by omega) (by omega)
          exact ⟨t, by rw [← plus_sum]; exact h⟩
        split
        · exact k 1
        · exact k (-1)
    · rw [if_neg h2]
      refine ⟨true, ?_⟩
      unfold costE
      rw [if_neg h1, if_neg h2, Tr.pay_done]
      simp
theorem pay_quarterC (s : Ms) (ans : List Int) (n : Int) (hx : 0 ≤ s.x ∧ s.x ≤ 3) (hz : 0 ≤ s.z ∧ s.z ≤ 7) : ((quarterC s).pay readsM ans n).1 = n + (costC s.inMem s.x).sum := by
  rw [← plus_sum]
  obtain ⟨r, plane, x, y, z, p, q, spot, near⟩ := s
  have hx' : x = 0 ∨ x = 1 ∨ x = 2 ∨ x = 3 := by simp only at hx; omega
  have hz' : z = 0 ∨ z = 1 ∨ z = 2 ∨ z = 3 ∨ z = 4 ∨ z = 5 ∨ z = 6 ∨ z = 7 := by simp only at hz; omega
  cases near <;> rcases hx' with rfl | rfl | rfl | rfl <;> rcases hz' with rfl | rfl | rfl | rfl | rfl | rfl | rfl | rfl <;> rfl
theorem isPre_iff (c : Int) : isPre c = true ↔ c = 221 ∨ c = 253 := by unfold isPre; simp
theorem isPre_not (c : Int) : isPre c = false ↔ ¬ (c = 221 ∨ c = 253) := by unfold isPre; simp
def preS (c : Int) (s : Ms) : Ms := ({ s.toPlane (if c = 253 then 4 else 3) with r := tickG s.r 1 } : Ms).pcUp
theorem exec_nil {c : Int} (h : c = 221 ∨ c = 253) (s : Ms) : execN [] c s = .error ⟨1, s.r.pc, 0, 4⟩ := by rw [execN, if_pos h]
theorem exec_cons {c : Int} (h : c = 221 ∨ c = 253) (s : Ms) (b : Int) (bs : List Int) : execN (b :: bs) c s = execN bs b (preS c s) := by rw [execN, if_pos h]; rfl
theorem exec_deaf {e : Cy} (hk : e.kind = 3 ∨ e.kind = 5 ∨ e.kind = 7) (b b' : Int) (zs : List Int) : ∀ {xs : List Int} {c : Int} {s : Ms}, execN xs c s = .error e → execN (xs ++ b :: zs) c s = execN (xs ++ b' :: zs) c s := by
  intro xs
  induction xs with
  | nil =>
    intro c s h
    by_cases hp : c = 221 ∨ c = 253
    · rw [exec_nil hp] at h
      injection h with h; subst h
      exact absurd (show (1 : Int) = 3 ∨ (1 : Int) = 5 ∨ (1 : Int) = 7 from hk) (by decide)
    · rw [exec_body hp] at h ⊢; rw [exec_body hp]; exact (deaf_body c s).run h hk b b' zs
  | cons x xs ih =>
    intro c s h
    by_cases hp : c = 221 ∨ c = 253
    · rw [exec_cons hp] at h
      rw [List.cons_append, List.cons_append, exec_cons hp, exec_cons hp]
      exact ih h
    · rw [exec_body hp] at h ⊢; rw [exec_body hp]; exact (deaf_body c s).run h hk b b' zs
theorem fetch_k (a : Int) : CyK ⟨1, a, 0, 4⟩ := by simp [CyK]
theorem exec_k {e : Cy} : ∀ {xs : List Int} {c : Int} {s : Ms}, execN xs c s = .error e → CyK e := by
  intro xs
  induction xs with
  | nil =>
    intro c s h
    by_cases hp : c = 221 ∨ c = 253
    · rw [exec_nil hp] at h
      injection h with h; subst h
      exact fetch_k _
    · rw [exec_body hp] at h; exact (deaf_body c s).error h
  | cons x xs ih =>
    intro c s h
    by_cases hp : c = 221 ∨ c = 253
    · rw [exec_cons hp] at h; exact ih h
    · rw [exec_body hp] at h; exact (deaf_body c s).error h
def ms1 (g : Rg) : Ms := (({ ms0 g with r := tickG g 1 } : Ms).pcUp).noLate
theorem next_nil (g : Rg) : nextOf g [] = .error ⟨1, g.pc, 0, 4⟩ := by unfold nextOf; split <;> rfl
theorem next_halt {g : Rg} (h : g.halted = true) (b : Int) (bs : List Int) : nextOf g (b :: bs) = .ok ({ ms0 g with r := tickG g 1 }, bs) := by unfold nextOf; rw [if_pos h]; exact Tr.run_done _ _
theorem next_cons {g : Rg} (h : g.halted = false) (b : Int) (bs : List Int) : nextOf g (b :: bs) = execN bs b (ms1 g) := by unfold nextOf; rw [if_neg (by rw [h]; simp)]; rfl
theorem next_deaf {g : Rg} {e : Cy} (hk : e.kind = 3 ∨ e.kind = 5 ∨ e.kind = 7) (b b' : Int) (zs : List Int) {xs : List Int} (h : nextOf g xs = .error e) : nextOf g (xs ++ b :: zs) = nextOf g (xs ++ b' :: zs) := by
  cases xs with
  | nil =>
    rw [next_nil] at h
    injection h with h; subst h
    exact absurd (show (1 : Int) = 3 ∨ (1 : Int) = 5 ∨ (1 : Int) = 7 from hk) (by decide)
  | cons x xs =>
    cases hh : g.halted with
    | true => rw [next_halt hh] at h; cases h
    | false =>
      rw [next_cons hh] at h
      rw [List.cons_append, List.cons_append, next_cons hh, next_cons hh]
      exact exec_deaf hk b b' zs h
theorem next_k {g : Rg} {e : Cy} {xs : List Int} (h : nextOf g xs = .error e) : CyK e := by
  cases xs with
  | nil => rw [next_nil] at h; injection h with h; subst h; exact fetch_k _
  | cons x xs =>
    cases hh : g.halted with
    | true => rw [next_halt hh] at h; cases h
    | false => rw [next_cons hh] at h; exact exec_k h
theorem pay_head (c : Int) (s : Ms) (hn : s.near = false) (hp : s.plane = 0 ∨ s.plane = 3 ∨ s.plane = 4) (ans : List Int) (n : Int) :
    ∃ ys st, (aloneHead c s).pay readsM ans n = (n + headC s.plane c, ys, st) ∧ st.near = nearM s.plane c ∧ st.x = fx c ∧ st.y = fy c ∧ st.z = fz c ∧ st.p = fp c ∧ st.q = fq c := by
  unfold aloneHead headC
  cases h : nearM s.plane c with
  | false => exact ⟨ans, s.split c, by simp [Tr.pay_done], hn, rfl, rfl, rfl, rfl, rfl⟩
  | true =>
    obtain ⟨st, hA, e0, e1, e2, e3, e4, e5⟩ : ∃ st : Ms, (aimN (s.split c)).pay readsM ans n = (n + 3, ans.tail, st) ∧ st.near = true ∧ st.x = fx c ∧ st.y = fy c ∧ st.z = fz c ∧ st.p = fp c ∧ st.q = fq c := ⟨_, pay_aim _ _ _, rfl, rfl, rfl, rfl, rfl, rfl⟩
    refine ⟨ans.tail, st, ?_, e0, e1, e2, e3, e4, e5⟩
    rw [if_pos rfl, Tr.pay_bind, hA]
    show (if st.x ≠ 0 ∨ st.z ≠ 6 then pauseN 5 st else .done st).pay readsM ans.tail (n + 3) = _
    rw [e1, e3]
    by_cases hx : fx c ≠ 0 ∨ fz c ≠ 6
    · rw [if_pos hx, if_pos rfl, if_pos hx, pay_pause, show n + 3 + 5 = n + 8 by omega]
    · rw [if_neg hx, if_pos rfl, if_neg hx, Tr.pay_done]
def codeOf (plane c : Int) (ans : List Int) : Int := if c = 203 then (if plane = 0 then ans.headD 0 else ans.tail.headD 0) else if c = 237 then ans.headD 0 else c
theorem head8 {xs : List Int} (h : Bytes8 xs) : B8 (xs.headD 0) := by
  cases xs with
  | nil => exact B8.zero
  | cons b bs => exact h.head
theorem tail8 {xs : List Int} (h : Bytes8 xs) : Bytes8 xs.tail := by
  cases xs with
  | nil => exact h
  | cons b bs => exact h.tail
theorem fx_le {c : Int} (h : B8 c) : 0 ≤ fx c ∧ fx c ≤ 3 := by have := h.1; have := h.2; unfold fx; omega
theorem fy_le (c : Int) : 0 ≤ fy c ∧ fy c ≤ 7 := by unfold fy; omega
theorem fz_le (c : Int) : 0 ≤ fz c ∧ fz c ≤ 7 := by unfold fz; omega
theorem fp_le (c : Int) : 0 ≤ fp c ∧ fp c ≤ 3 := by unfold fp; omega
theorem fq_le (c : Int) : 0 ≤ fq c ∧ fq c ≤ 1 := by unfold fq; omega
theorem cb_of {c : Int} (h : B8 c) (hx : fx c = 3) (hz : fz c = 3) (hy : fy c = 1) : c = 203 := by have := h.1; have := h.2; unfold fx fy fz at *; omega
theorem near_0 (c : Int) : nearM 0 c = false := by unfold nearM aheadM; simp
theorem pay_body {c : Int} (hc : B8 c) (hpre : ¬ (c = 221 ∨ c = 253)) (s : Ms) (hn : s.near = false) (hp : s.plane = 0 ∨ s.plane = 3 ∨ s.plane = 4) {ans : List Int} (ha : Bytes8 ans) (n : Int) :
    ∃ t, ((bodyN c s).pay readsM ans n).1 = n + netM (hPlane s.plane c) (codeOf s.plane c ans) t - (if c = 237 ∨ s.plane = 0 then 4 else 8) := by
  unfold bodyN
  by_cases h3 : c = 203
  · subst h3
    rw [if_pos rfl, Tr.pay_bind, Tr.pay_bind]
    simp only [Tr.pay_done]
    unfold codeCBN codeOf hPlane
    rw [if_pos rfl, if_pos rfl]
    by_cases h0 : s.plane = 0
    · have h0' : s.atHL.plane = 0 := h0
      rw [if_pos h0', if_pos h0, if_pos (.inr h0), pay_fetch, h0]
      have k := (cost_all (ans.headD 0) true (head8 ha)).2.2.1
      refine ⟨true, ?_⟩
      rw [pay_quarterC _ _ _ (fx_le (head8 ha)) (fz_le _)]
      show n + 4 + (costC (s.near || (fz (ans.headD 0) == 6)) (fx (ans.headD 0))).sum = n + netM 1 (ans.headD 0) true - 4
      rw [hn, Bool.false_or, k]
      omega
    · have h0' : ¬ s.atHL.plane = 0 := h0
      have k := cost_all (ans.tail.headD 0) true (head8 (tail8 ha))
      rw [if_neg h0', if_neg h0, if_neg (by rintro (h | h) <;> first | cases h | exact h0 h), Tr.pay_bind, pay_aim]
      simp only [Tr.pay_bind, pay_number, pay_pause, Tr.pay_done]
      refine ⟨true, ?_⟩
      rw [pay_quarterC _ _ _ (fx_le (head8 (tail8 ha))) (fz_le _)]
      show n + 3 + 3 + 2 + (costC true (fx (ans.tail.headD 0))).sum = n + netM (withinM s.plane) (ans.tail.headD 0) true - 8
      rcases hp with h | h | h
      · exact absurd h h0
      · rw [h, show withinM 3 = 5 from rfl, k.2.2.2.1]; omega
      · rw [h, show withinM 4 = 6 from rfl, k.2.2.2.2]; omega
  · by_cases h7 : c = 237
    · subst h7
      rw [if_neg h3, if_pos rfl, Tr.pay_bind, Tr.pay_bind, pay_fetch]
      simp only [Tr.pay_done]
      unfold codeOf hPlane
      rw [if_neg h3, if_pos rfl, if_neg h3, if_pos rfl, if_pos (.inl trivial)]
      obtain ⟨t, ht⟩ := pay_quarterE ({ s.atHL.toPlane 0 with r := tickG (s.atHL.toPlane 0).r 1 } : Ms).pcUp.r 0 (fx (ans.headD 0)) (fy (ans.headD 0)) (fz (ans.headD 0)) (fp (ans.headD 0)) (fq (ans.headD 0)) s.atHL.spot s.near ans.tail (n + 4) (fx_le (head8 ha)) (fy_le _) (fz_le _) (fq_le _)
      refine ⟨t, ht.trans ?_⟩
      rw [(cost_all (ans.headD 0) t (head8 ha)).2.1]
      omega
    · rw [if_neg h3, if_neg h7, Tr.pay_bind]
      obtain ⟨ys, st, e, e1, e2, e3, e4, e5, e6⟩ := pay_head c s.atHL hn hp ans n
      rw [e]
      obtain ⟨t, ht⟩ := pay_quarter st ys (n + headC s.atHL.plane c) (by rw [e2]; exact fx_le hc) (by rw [e3]; exact fy_le _) (by rw [e4]; exact fz_le _) (by rw [e5]; exact fp_le _) (by rw [e6]; exact fq_le _) (fun h => h3 (cb_of hc (e2.symm.trans h.1) (e4.symm.trans h.2.1) (e3.symm.trans h.2.2)))
      refine ⟨t, ht.trans ?_⟩
      have k := (cost_all c t hc).1 h3 h7 (fun h => hpre (.inl h)) (fun h => hpre (.inr h))
      rw [e1, e2, e3, e4, e5, e6]
      unfold codeOf hPlane
      rw [if_neg h3, if_neg h7, if_neg h3, if_neg h7]
      show n + headC s.plane c + (costQ (nearM s.plane c) (fx c) (fy c) (fz c) (fp c) (fq c) t).sum = _
      rcases hp with h | h | h
      · rw [if_pos (.inr h), h, k.1, near_0]
        unfold headC
        rw [near_0, if_neg (by simp)]
        omega
      · rw [if_neg (by rintro (h' | h') <;> omega), h, k.2.1]; omega
      · rw [if_neg (by rintro (h' | h') <;> omega), h, k.2.2]; omega
theorem takes_body {f : List Int → Cy × Bool} {c : Int} (hp : ¬ (c = 221 ∨ c = 253)) (s : Ms) (k : Nat) (hk : 8 ≤ k) (pre ans : List Int) (n : Int) (h : ∀ xs, f (pre ++ xs) = toldOf (execN xs c s)) :
    (takesGo readsM f k pre ans n).1 = ((bodyN c s).pay readsM ans n).1 ∧ (takesGo readsM f k pre ans n).2.length ≤ pre.length + 8 :=
  takes_tree k pre ans n (depth_body c s) hk fun xs => by rw [h, exec_body hp]
theorem takes_exec {f : List Int → Cy × Bool} : ∀ (bs : List Int) (c : Int) (s : Ms) (k : Nat) (pre : List Int) (n : Int), lead (c :: bs) + 8 ≤ k → (∀ xs, f (pre ++ xs) = toldOf (execN xs c s)) →
    ∃ s' : Ms, s'.near = s.near ∧ s'.plane = (if lead (c :: bs) = 0 then s.plane else if gb (c :: bs) (lead (c :: bs) - 1) = 253 then 4 else 3) ∧
      (takesGo readsM f k pre bs n).1 = ((bodyN (gb (c :: bs) (lead (c :: bs))) s').pay readsM (bs.drop (lead (c :: bs))) (n + 4 * (lead (c :: bs) : Int))).1 ∧
      (takesGo readsM f k pre bs n).2.length ≤ pre.length + lead (c :: bs) + 8 := by
  intro bs
  induction bs with
  | nil =>
    intro c s k pre n hk h
    by_cases hp : c = 221 ∨ c = 253
    · have hl : lead [c] = 1 := by rw [lead_cons_pre _ _ ((isPre_iff c).2 hp)]; rfl
      rw [hl] at hk ⊢
      obtain ⟨k, rfl⟩ : ∃ j, k = j + 1 := ⟨k - 1, by omega⟩
      have h0 := h []
      rw [List.append_nil, exec_nil hp] at h0
      have step : ∀ xs, f ((pre ++ [0]) ++ xs) = toldOf (execN xs 0 (preS c s)) := fun xs => by
        rw [List.append_assoc, List.singleton_append, h (0 :: xs), exec_cons hp]
      have key := takes_body (f := f) (c := 0) (by decide) (preS c s) k (by omega) (pre ++ [0]) [] (n + 4) step
      refine ⟨preS c s, rfl, ?_, ?_, ?_⟩
      · rw [if_neg (by decide)]; rfl
      · unfold takesGo
        rw [h0]
        exact key.1
      · unfold takesGo
        rw [h0]
        have := key.2
        rw [List.length_append, List.length_singleton] at this
        exact Nat.le_trans this (by omega)
    · have hl : lead [c] = 0 := lead_cons_no _ _ ((isPre_not c).2 hp)
      rw [hl] at hk ⊢
      have key := takes_body hp s k (by omega) pre [] n h
      refine ⟨s, rfl, by rw [if_pos rfl], ?_, by have := key.2; omega⟩
      rw [key.1]
      simp [gb]
  | cons b bs ih =>
    intro c s k pre n hk h
    by_cases hp : c = 221 ∨ c = 253
    · have hl : lead (c :: b :: bs) = lead (b :: bs) + 1 := lead_cons_pre _ _ ((isPre_iff c).2 hp)
      rw [hl] at hk ⊢
      obtain ⟨k, rfl⟩ : ∃ j, k = j + 1 := ⟨k - 1, by omega⟩
      have h0 := h []
      rw [List.append_nil, exec_nil hp] at h0
      have step : ∀ xs, f ((pre ++ [b]) ++ xs) = toldOf (execN xs b (preS c s)) := fun xs => by
        rw [List.append_assoc, List.singleton_append, h (b :: xs), exec_cons hp]
      obtain ⟨s', h1, h2, h3, h4⟩ := ih b (preS c s) k (pre ++ [b]) (n + 4) (by omega) step
      have eT : takesGo readsM f (k + 1) pre (b :: bs) n = takesGo readsM f k (pre ++ [b]) bs (n + 4) := by
        rw [takesGo, h0]; rfl
      refine ⟨s', h1, ?_, ?_, ?_⟩
      · rw [h2, if_neg (show ¬ lead (b :: bs) + 1 = 0 by omega)]
        by_cases hz : lead (b :: bs) = 0
        · rw [if_pos hz, hz]
          show (preS c s).plane = if gb (c :: b :: bs) 0 = 253 then 4 else 3
          rfl
        · rw [if_neg hz]
          obtain ⟨j, hj⟩ : ∃ j, lead (b :: bs) = j + 1 := ⟨lead (b :: bs) - 1, by omega⟩
          rw [hj]
          rfl
      · rw [eT, h3]
        show ((bodyN (gb (b :: bs) (lead (b :: bs))) s').pay readsM (bs.drop (lead (b :: bs))) (n + 4 + 4 * (lead (b :: bs) : Int))).1 = ((bodyN (gb (b :: bs) (lead (b :: bs))) s').pay readsM (bs.drop (lead (b :: bs))) (n + 4 * ((lead (b :: bs) + 1 : Nat) : Int))).1
        rw [show n + 4 + 4 * (lead (b :: bs) : Int) = n + 4 * ((lead (b :: bs) + 1 : Nat) : Int) by omega]
      · rw [eT]
        rw [List.length_append, List.length_singleton] at h4
        omega
    · have hl : lead (c :: b :: bs) = 0 := lead_cons_no _ _ ((isPre_not c).2 hp)
      rw [hl] at hk ⊢
      have key := takes_body hp s k (by omega) pre (b :: bs) n h
      refine ⟨s, rfl, by rw [if_pos rfl], ?_, by have := key.2; omega⟩
      rw [key.1]
      simp [gb]
theorem next_times {g : Rg} (hh : g.halted = false) {b : List Int} (hb : Bytes8 b) (hl : lead b ≤ 100) (hne : b ≠ []) :
    ∃ t, (takesOf g b).1 = 4 * (opOf b).skip + netM (opOf b).plane (opOf b).code t ∧ 0 ≤ (opOf b).plane ∧ (opOf b).plane ≤ 6 ∧ B8 (opOf b).code ∧ 0 ≤ (opOf b).skip ∧ (opOf b).skip ≤ 100 := by
  obtain ⟨c, bs, rfl⟩ : ∃ c bs, b = c :: bs := by cases b with | nil => exact absurd rfl hne | cons c bs => exact ⟨c, bs, rfl⟩
  have h0 : nextF g [] = (⟨1, g.pc, 0, 4⟩, false) := by unfold nextF; rw [next_nil]; rfl
  have step : ∀ xs, nextF g ([c] ++ xs) = toldOf (execN xs c (ms1 g)) := fun xs => by
    unfold nextF
    rw [List.singleton_append, next_cons hh]
    rcases execN xs c (ms1 g) with e | ⟨s, ys⟩ <;> rfl
  obtain ⟨s', h1, h2, h3, -⟩ := takes_exec bs c (ms1 g) 199 [c] 4 (by omega) step
  have eT : takesOf g (c :: bs) = takesGo readsM (nextF g) 199 [c] bs 4 := by
    unfold takesOf
    show takesGo readsM (nextF g) (199 + 1) [] (c :: bs) 0 = _
    rw [takesGo, h0, if_neg (fun h => by cases h), if_pos (show readsM 1 = true from rfl)]
    show takesGo readsM (nextF g) 199 [c] bs (0 + 4) = _
    rw [Int.zero_add]
  have hpre := (isPre_not _).1 (lead_end (c :: bs))
  have hpl : s'.plane = preP (c :: bs) (lead (c :: bs)) := by
    rw [h2]
    unfold preP
    by_cases hz : lead (c :: bs) = 0
    · rw [if_pos hz, if_pos hz]; rfl
    · rw [if_neg hz, if_neg hz]
      have := (isPre_iff _).1 (lead_pre (c :: bs) (lead (c :: bs) - 1) (by omega))
      rcases this with h | h
      · rw [if_neg (by omega), if_pos h]
      · rw [if_pos h, if_neg (by omega)]
  have hp3 : s'.plane = 0 ∨ s'.plane = 3 ∨ s'.plane = 4 := by
    rw [h2]
    split
    · exact .inl rfl
    · split
      · exact .inr (.inr rfl)
      · exact .inr (.inl rfl)
  have hd8 : Bytes8 (bs.drop (lead (c :: bs))) := fun x hx => hb x (List.mem_cons_of_mem _ (List.mem_of_mem_drop hx))
  obtain ⟨t, ht⟩ := pay_body (gb_byte hb (lead (c :: bs))) hpre s' h1 hp3 hd8 (4 + 4 * (lead (c :: bs) : Int))
  have g1 : (bs.drop (lead (c :: bs))).headD 0 = gb (c :: bs) (lead (c :: bs) + 1) := by
    show _ = gb bs (lead (c :: bs))
    rw [← Nat.add_zero (lead (c :: bs)), ← gb_drop, Nat.add_zero]
    cases bs.drop (lead (c :: bs)) <;> rfl
  have g2 : (bs.drop (lead (c :: bs))).tail.headD 0 = gb (c :: bs) (lead (c :: bs) + 2) := by
    show _ = gb bs (lead (c :: bs) + 1)
    rw [← gb_drop]
    rcases bs.drop (lead (c :: bs)) with _ | ⟨x, _ | ⟨y, l⟩⟩ <;> rfl
  have gcode : codeOf s'.plane (gb (c :: bs) (lead (c :: bs))) (bs.drop (lead (c :: bs))) = hCode (gb (c :: bs)) (lead (c :: bs)) (preP (c :: bs) (lead (c :: bs))) := by
    unfold codeOf hCode hPlane
    rw [g1, g2, ← hpl]
    by_cases k3 : gb (c :: bs) (lead (c :: bs)) = 203
    · rw [if_pos k3, if_pos k3]
      rcases hp3 with h | h | h <;> rw [h] <;> simp [withinM, aheadM, k3]
    · rw [if_neg k3, if_neg k3]
      by_cases k7 : gb (c :: bs) (lead (c :: bs)) = 237
      · rw [if_pos k7, if_pos k7]; simp [aheadM, k7]
      · rw [if_neg k7, if_neg k7]
        rcases hp3 with h | h | h <;> rw [h] <;> simp [aheadM, k3, k7]
  have hcode : B8 (hCode (gb (c :: bs)) (lead (c :: bs)) (preP (c :: bs) (lead (c :: bs)))) := by
    unfold hCode
    split
    · exact gb_byte hb _
    · split <;> exact gb_byte hb _
  have hplane : 0 ≤ hPlane s'.plane (gb (c :: bs) (lead (c :: bs))) ∧ hPlane s'.plane (gb (c :: bs) (lead (c :: bs))) ≤ 6 := by
    unfold hPlane withinM
    rcases hp3 with h | h | h <;> rw [h] <;> (repeat' split) <;> omega
  refine ⟨t, ?_, ?_⟩
  · rw [eT, h3, ht, gcode]
    show _ = 4 * hSkip (preP (c :: bs) (lead (c :: bs))) ((lead (c :: bs) - 1 : Nat) : Int) (gb (c :: bs) (lead (c :: bs))) + netM (hPlane (preP (c :: bs) (lead (c :: bs))) (gb (c :: bs) (lead (c :: bs)))) (hCode (gb (c :: bs)) (lead (c :: bs)) (preP (c :: bs) (lead (c :: bs)))) t
    rw [← hpl]
    generalize netM _ _ t = N
    unfold hSkip
    by_cases hz : lead (c :: bs) = 0
    · have e0 : s'.plane = 0 := by rw [h2, if_pos hz]; rfl
      rw [if_pos (.inr e0), if_neg (fun h => h.2 e0), hz]
      simp
      omega
    · have e0 : s'.plane ≠ 0 := by
        rw [h2, if_neg hz]
        split <;> decide
      by_cases k7 : gb (c :: bs) (lead (c :: bs)) = 237
      · rw [if_pos (.inl k7), if_pos ⟨k7, e0⟩]; omega
      · rw [if_neg (by rintro (h | h); exact k7 h; exact e0 h), if_neg (fun h => k7 h.1)]; omega
  · have es : (opOf (c :: bs)).skip = hSkip (preP (c :: bs) (lead (c :: bs))) ((lead (c :: bs) - 1 : Nat) : Int) (gb (c :: bs) (lead (c :: bs))) := rfl
    have ep : (opOf (c :: bs)).plane = hPlane s'.plane (gb (c :: bs) (lead (c :: bs))) := by rw [hpl]; rfl
    refine ⟨by rw [ep]; exact hplane.1, by rw [ep]; exact hplane.2, hcode, ?_, ?_⟩ <;> rw [es] <;> unfold hSkip <;> split <;> omega
theorem next_t {g : Rg} {xs : List Int} (h : doneOf (nextOf g xs) = false) : 1 ≤ (cyOf (nextOf g xs)).t ∧ (cyOf (nextOf g xs)).t ≤ 7 := by
  cases e : nextOf g xs with
  | ok a => rw [e] at h; cases h
  | error c => have := next_k e; exact ⟨this.2.2.2.1, this.2.2.2.2.1⟩
theorem byte_list {b : Int} (h : B8 b) : Bytes8 [b] := fun x hx => by cases List.mem_singleton.1 hx; exact h
section
variable {rd : Int → Bool} {f : List Int → Cy × Bool} {c : Cy} {d : Bool} {got : List Int}
theorem takes_read (hF : f got = (c, d)) (hd : d = false) (hr : rd c.kind = true) (hl : got.length < 200) (xs : List Int) (n : Int) : takesGo rd f (200 - (got ++ [xs.headD 0]).length) (got ++ [xs.headD 0]) xs.tail (n + c.t) = takesGo rd f (200 - got.length) got xs n := by
  obtain ⟨k, hk⟩ : ∃ k, 200 - got.length = k + 1 := ⟨199 - got.length, by omega⟩
  rw [hk, takesGo, hF, List.length_append, List.length_singleton, show 200 - (got.length + 1) = k by omega]
  subst hd
  simp only [Bool.false_eq_true, if_false, hr, if_true]
theorem takes_none (hF : f got = (c, d)) (hd : d = false) (hr : rd c.kind = false) (hl : got.length < 200) (xs : List Int) (n : Int) : takesGo rd f (200 - (got ++ [0]).length) (got ++ [0]) xs (n + c.t) = takesGo rd f (200 - got.length) got xs n := by
  obtain ⟨k, hk⟩ : ∃ k, 200 - got.length = k + 1 := ⟨199 - got.length, by omega⟩
  rw [hk, takesGo, hF, List.length_append, List.length_singleton, show 200 - (got.length + 1) = k by omega]
  subst hd
  simp only [Bool.false_eq_true, if_false, hr]
theorem takes_done (hF : f got = (c, d)) (hd : d = true) (xs : List Int) (n : Int) : takesGo rd f (200 - got.length) got xs n = (n, got) := by
  cases h : 200 - got.length with
  | zero => rfl
  | succ k => rw [takesGo, hF, hd]; rfl
theorem takes_full (hl : 200 ≤ got.length) (xs : List Int) (n : Int) : takesGo rd f (200 - got.length) got xs n = (n, got) := by
  rw [show 200 - got.length = 0 by omega]; rfl
end
end Go.Proofs.YtibmpaeaicpbcaaGreatDoor
