/- Contracts and facts that the claim's proof wants (several texts in one). -/
import Derived.Test.YtkenebbjodcbcaaGreatDoorCoG10
import Derived.Test.YtkenebbjodcbcaaGreatDoorCoG11
import Derived.Test.YtkenebbjodcbcaaGreatDoorCoG12
namespace Go.Proofs.YtkenebbjodcbcaaGreatDoor
open Go.RowKit
set_option linter.unusedVariables false
set_option linter.unusedSimpArgs false
set_option maxRecDepth 20000
set_option maxHeartbeats 20000000
theorem m_takeIn  {s : Ms} {xs : List Int} {w : World} {p B : Nat} (h : AtN w p B s xs) :
    Calls Tryz.prog 196 #[pT p 0] w (OutV w p B ((takeInN s).run xs)) := by
 have hn := NowN.begin h
 have hr : (takeInN s).run xs = (takeInN s).run xs := rfl
 go_enter Tryz.func196, Tryz.ntmps196
 refine coStart <| have b2 := hn.at_.ms.r.bc; coR <| nR 6 hn <| nI (m_in s.r.bc (b2) hn.at_) hn hr <| fun v3 s3 xs3 w3 hk3 hn hr => nE hn <| have b5 := hn.at_.ms.r.bc; nQs hn (.u_wz _ ((s3.r.bc + 1) % 65536)) (hn.at_.ms.u_wz (Wd16.mod _)) <| fun w6 hn => coR <| nR 2 hn <| nB (evenF_any v3 (hk3).1 (hk3).2 _) hn <| fun w8 hn => nR 1 hn <| nA (m_carry hn.at_) hn <| fun w9 hn => kBj 25 (.int .u8 (evenFM v3)) (.int .u8 ((s3.u_wz ((s3.r.bc + 1) % 65536)).carry)) (.int .u8 (withM (evenFM v3) 0 (isM (s3.u_wz ((s3.r.bc + 1) % 65536)).f 0))) (eg8 _ _ _ _ _) (bOrEven _ _) <| nA (m_setF (withM (evenFM v3) 0 (isM (s3.u_wz ((s3.r.bc + 1) % 65536)).f 0)) (B8.with (evenFM_byte _) _ _) hn.at_) hn <| fun w10 hn => wT <| nQ hn <| coI ((((s3.u_wz ((s3.r.bc + 1) % 65536)).setF (withM (evenFM v3) 0 (isM (s3.u_wz ((s3.r.bc + 1) % 65536)).f 0))).y) != 6) (fun h12 => ?_) fun h12 => ?_
 · have g12 : ¬ (((s3.u_wz ((s3.r.bc + 1) % 65536)).setF (withM (evenFM v3) 0 (isM (s3.u_wz ((s3.r.bc + 1) % 65536)).f 0))).y) = 6 := by simpa using h12
   exact have hr := hr.trans (run_if_neg g12); coZ <| nR 6 hn <| nVt (m_put (((s3.u_wz ((s3.r.bc + 1) % 65536)).setF (withM (evenFM v3) 0 (isM (s3.u_wz ((s3.r.bc + 1) % 65536)).f 0))).y) v3 (hk3) hn.at_) hn hr <| fun s13 xs13 w13 hn hr => woE <| eoV (OutV.ok (dN hr) hn)
 have g12 : (((s3.u_wz ((s3.r.bc + 1) % 65536)).setF (withM (evenFM v3) 0 (isM (s3.u_wz ((s3.r.bc + 1) % 65536)).f 0))).y) = 6 := by simpa using h12
 exact have hr := hr.trans (run_if_pos g12); coSkip <| eoV (OutV.ok (dN hr) hn)
theorem m_giveOut  {s : Ms} {xs : List Int} {w : World} {p B : Nat} (h : AtN w p B s xs) :
    Calls Tryz.prog 197 #[pT p 0] w (OutV w p B ((giveOutN s).run xs)) := by
 have hn := NowN.begin h
 have hr : (giveOutN s).run xs = (giveOutN s).run xs := rfl
 go_enter Tryz.func197, Tryz.ntmps197
 refine coStart <| nQ hn <| coS <| nQ hn <| coI (s.y != 6) (fun h4 => ?_) fun h4 => ?_
 · have g4 : ¬ s.y = 6 := by simpa using h4
   exact have hr := hr.trans (run_bif_neg g4); coZ <| nR 5 hn <| nI (m_get s.y hn.at_) hn hr <| fun v5 s5 xs5 w5 hk5 hn hr => nE hn <| have b7 := hn.at_.ms.r.bc; coR <| nR 7 hn <| nV (m_out s5.r.bc (b7) v5 (hk5) hn.at_) hn hr <| fun s8 xs8 w8 hn hr => wT <| have b9 := hn.at_.ms.r.bc; coZ <| nFs hn (.u_wz _ ((s8.r.bc + 1) % 65536)) (hn.at_.ms.u_wz (Wd16.mod _)) <| fun w10 hn => eoV (OutV.ok (dN hr) hn)
 have g4 : s.y = 6 := by simpa using h4
 exact have hr := hr.trans (run_bif_pos g4); coSkip <| eoT <| have b12 := hn.at_.ms.r.bc; coR <| nR 7 hn <| nV (m_out s.r.bc (b12) 0 (⟨by decide, by decide⟩) hn.at_) hn hr <| fun s13 xs13 w13 hn hr => wT <| have b14 := hn.at_.ms.r.bc; coZ <| nFs hn (.u_wz _ ((s13.r.bc + 1) % 65536)) (hn.at_.ms.u_wz (Wd16.mod _)) <| fun w15 hn => eoV (OutV.ok (dN hr) hn)
theorem m_addCarried  {s : Ms} {xs : List Int} {w : World} {p B : Nat} (h : AtN w p B s xs) :
    Calls Tryz.prog 198 #[pT p 0] w (OutV w p B ((addCarriedN s).run xs)) := by
  have hn := NowN.begin h
  have hr : (addCarriedN s).run xs = (addCarriedN s).run xs := rfl
  go_enter Tryz.func198, Tryz.ntmps198
  refine wp_seq_k fun K1 hK1 => regionL <| oM 3 (pT p 0) ?_
  refine sCallV hn rfl (by kernel_rfl) (m_pause 7 hn.at_) (fun _ _ hX hb => thenX (panicP rfl (OutV.err (hr.trans (Tr.run_bind_error hX _)) hb))) ?_
  intro s2 xs2 w2 hX hn
  have hr := hr.trans (Tr.run_bind_ok hX _)
  refine endL ?_
  try simp only [Act.put, sA, sB, sC]
  refine thenN <| hK1 _ _ <| wp_seq_k fun K3 hK3 => regionL <| oM 5 (pT p 0) <| oM 6 (pT p 0) <| oN 7 p 0 <| oF 8 (fM0 p) <| oF 9 (fR3 p) ?_
  have b4 := hn.at_.ms.r.hl
  refine oL 10 (ld16 (hn.at_.cell 3 (.int .u16 (s2.r.hl)) fun _ _ _ => rfl)) <| oB 11 (eg16 _ _ _ _ _) (bAdd16 s2.r.hl 1) <| oN 12 p 0 <| oF 13 (fM0 p) <| oF 14 (fR12 p) ?_
  refine sSetN hn 12 (.int .u16 ((s2.r.hl + 1) % 65536)) (s2.u_wz ((s2.r.hl + 1) % 65536)) rfl rfl rfl (by kernel_rfl) (by kernel_rfl) (st16 (hn.at_.cell 12 _ fun _ _ _ => rfl) (hn.at_.frozen 12)) (mu_wz _ _) (hn.at_.ms.u_wz (Wd16.mod _)) ?_
  intro w5 hn
  refine endL ?_
  try simp only [Act.put, sA, sB, sC]
  refine thenN <| hK3 _ _ <| wp_seq_k fun K6 hK6 => regionL <| oA 2 (.int .u8 (0)) ?_
  refine endL ?_
  try simp only [Act.put, sA, sB, sC]
  refine thenN <| hK6 _ _ <| wp_seq_k fun K7 hK7 => wp_seq_k fun K8 hK8 => regionL <| oM 15 (pT p 0) <| oN 16 p 0 <| oF 17 (fM7 p) <| oL 18 (ldI (hn.at_.cell 26 (.int .i64 ((s2.u_wz ((s2.r.hl + 1) % 65536)).q)) fun _ _ _ => rfl)) <| oB 19 (egI _ _ _ _ _) (bEqI ((s2.u_wz ((s2.r.hl + 1) % 65536)).q) 0) ?_
  refine endL ?_
  try simp only [Act.put, sA, sB, sC]
  refine thenN <| hK8 _ _ ?_
  refine wp_cond_split (t := ((s2.u_wz ((s2.r.hl + 1) % 65536)).q) == 0) (by kernel_rfl) (fun h9 => ?_) (fun h9 => ?_)
  · skip
    have g9 : ((s2.u_wz ((s2.r.hl + 1) % 65536)).q) = 0 := by simpa using h9
    have hr := hr.trans (run_if_pos g9)
    refine turn_start 17 18 (fun w' => NowN w p B (s2.u_wz ((s2.r.hl + 1) % 65536)) xs2 w') (by kernel_rfl) (by kernel_rfl) hn.drew ?_
    intro w10 _ hS
    have hn := hS
    refine turn_take (i := 0) 21 (pT p 0) rfl rfl (by kernel_rfl) (by kernel_rfl) (by kernel_rfl) (by kernel_rfl) (by kernel_rfl) (fun _ _ _ h => h) (by kernel_rfl) (fun w hS => heMove (.inl rfl) (by kernel_rfl) w) hS ?_
    refine turn_take (i := 1) 22 (pT p 0) rfl rfl (by kernel_rfl) (by kernel_rfl) (by kernel_rfl) (by kernel_rfl) (by kernel_rfl) (fun _ _ _ h => h) (by kernel_rfl) (fun w hS => heMove (.inl rfl) (by kernel_rfl) w) hS ?_
    refine turn_take (i := 2) 23 (pT p 0) rfl rfl (by kernel_rfl) (by kernel_rfl) (by kernel_rfl) (by kernel_rfl) (by kernel_rfl) (fun _ _ _ h => h) (by kernel_rfl) (fun w hS => heNil (ad := ⟨p, 0, none⟩) rfl (by kernel_rfl) w) hS ?_
    refine turn_take (i := 3) 24 (pT p 0) rfl rfl (by kernel_rfl) (by kernel_rfl) (by kernel_rfl) (by kernel_rfl) (by kernel_rfl) (fun _ _ _ h => h) (by kernel_rfl) (fun w hS => heField (V := pT p 0) (R := pT p 0) rfl (by kernel_rfl) (fM0 p) w) hS ?_
    refine turn_take (i := 4) 25 (pT p 3) rfl rfl (by kernel_rfl) (by kernel_rfl) (by kernel_rfl) (by kernel_rfl) (by kernel_rfl) (fun _ _ _ h => h) (by kernel_rfl) (fun w hS => heField (V := pT p 0) (R := pT p 3) rfl (by kernel_rfl) (fR3 p) w) hS ?_
    have b11 := hn.at_.ms.r.hl
    refine turn_take (i := 5) 26 (.int .u16 ((s2.u_wz ((s2.r.hl + 1) % 65536)).r.hl)) rfl rfl (by kernel_rfl) (by kernel_rfl) (by kernel_rfl) (by kernel_rfl) (by kernel_rfl) (fun _ _ _ h => h) (by kernel_rfl) (fun w hS => heLoad rfl (by kernel_rfl) (ld16 (hS.at_.cell 3 (.int .u16 ((s2.u_wz ((s2.r.hl + 1) % 65536)).r.hl)) fun _ _ _ => rfl))) hS ?_
    refine turn_take (i := 6) 27 (pT p 0) rfl rfl (by kernel_rfl) (by kernel_rfl) (by kernel_rfl) (by kernel_rfl) (by kernel_rfl) (fun _ _ _ h => h) (by kernel_rfl) (fun w hS => heMove (.inl rfl) (by kernel_rfl) w) hS ?_
    refine turn_take (i := 8) 29 (pT p 0) rfl rfl (by kernel_rfl) (by kernel_rfl) (by kernel_rfl) (by kernel_rfl) (by kernel_rfl) (fun _ _ _ h => h) (by kernel_rfl) (fun w hS => heMove (.inl rfl) (by kernel_rfl) w) hS ?_
    have b12 := pair_word hn.at_.ms
    refine turnO (i := 7) (.int .u16 ((s2.u_wz ((s2.r.hl + 1) % 65536)).pair)) rfl (by kernel_rfl) (by kernel_rfl) (by kernel_rfl) (by kernel_rfl) (m_pair  hn.at_) (fun w' hk => hS.after hk) ?_
    intro w13 hk
    have hn := hn.after hk
    have hS := hn
    have b14 := f_byte hn.at_.ms
    refine turnO (i := 9) (.int .u8 ((s2.u_wz ((s2.r.hl + 1) % 65536)).f)) rfl (by kernel_rfl) (by kernel_rfl) (by kernel_rfl) (by kernel_rfl) (m_f  hn.at_) (fun w' hk => hS.after hk) ?_
    intro w15 hk
    have hn := hn.after hk
    have hS := hn
    refine turnO (i := 10) (.tuple #[.int .u16 (sbcW ((s2.u_wz ((s2.r.hl + 1) % 65536)).r.hl) ((s2.u_wz ((s2.r.hl + 1) % 65536)).pair) (isM ((s2.u_wz ((s2.r.hl + 1) % 65536)).f) 0)), .int .u8 (sbcF ((s2.u_wz ((s2.r.hl + 1) % 65536)).r.hl) ((s2.u_wz ((s2.r.hl + 1) % 65536)).pair) (isM ((s2.u_wz ((s2.r.hl + 1) % 65536)).f) 0))]) rfl (by kernel_rfl) (by kernel_rfl) (by kernel_rfl) (by kernel_rfl) (wsbc_any ((s2.u_wz ((s2.r.hl + 1) % 65536)).r.hl) ((s2.u_wz ((s2.r.hl + 1) % 65536)).pair) ((s2.u_wz ((s2.r.hl + 1) % 65536)).f) (b11) (b12) (b14) _) (fun w' hb => hS.below hb) ?_
    intro w16 hb
    have hn := hn.below hb
    have hS := hn
    refine turn_take (i := 11) 20 (.tuple #[.int .u16 (sbcW ((s2.u_wz ((s2.r.hl + 1) % 65536)).r.hl) ((s2.u_wz ((s2.r.hl + 1) % 65536)).pair) (isM ((s2.u_wz ((s2.r.hl + 1) % 65536)).f) 0)), .int .u8 (sbcF ((s2.u_wz ((s2.r.hl + 1) % 65536)).r.hl) ((s2.u_wz ((s2.r.hl + 1) % 65536)).pair) (isM ((s2.u_wz ((s2.r.hl + 1) % 65536)).f) 0))]) rfl rfl (by kernel_rfl) (by kernel_rfl) (by kernel_rfl) (by kernel_rfl) (by kernel_rfl) (fun _ _ _ h => h) (by kernel_rfl) (fun w hS => heMove (.inl rfl) (by kernel_rfl) w) hS ?_
    refine turn_take (i := 12) 32 (.int .u16 (sbcW ((s2.u_wz ((s2.r.hl + 1) % 65536)).r.hl) ((s2.u_wz ((s2.r.hl + 1) % 65536)).pair) (isM ((s2.u_wz ((s2.r.hl + 1) % 65536)).f) 0))) rfl rfl (by kernel_rfl) (by kernel_rfl) (by kernel_rfl) (by kernel_rfl) (by kernel_rfl) (fun _ _ _ h => h) (by kernel_rfl) (fun w hS => heExtract (vs := #[.int .u16 (sbcW ((s2.u_wz ((s2.r.hl + 1) % 65536)).r.hl) ((s2.u_wz ((s2.r.hl + 1) % 65536)).pair) (isM ((s2.u_wz ((s2.r.hl + 1) % 65536)).f) 0)), .int .u8 (sbcF ((s2.u_wz ((s2.r.hl + 1) % 65536)).r.hl) ((s2.u_wz ((s2.r.hl + 1) % 65536)).pair) (isM ((s2.u_wz ((s2.r.hl + 1) % 65536)).f) 0))]) rfl (by kernel_rfl) (by kernel_rfl) w) hS ?_
    refine turn_free (i := 13) 33 (.int .u8 (sbcF ((s2.u_wz ((s2.r.hl + 1) % 65536)).r.hl) ((s2.u_wz ((s2.r.hl + 1) % 65536)).pair) (isM ((s2.u_wz ((s2.r.hl + 1) % 65536)).f) 0))) rfl rfl (by kernel_rfl) (by kernel_rfl) (by kernel_rfl) (by kernel_rfl) (by kernel_rfl) (fun _ _ _ h => h) (by kernel_rfl) (fun w => heExtract (vs := #[.int .u16 (sbcW ((s2.u_wz ((s2.r.hl + 1) % 65536)).r.hl) ((s2.u_wz ((s2.r.hl + 1) % 65536)).pair) (isM ((s2.u_wz ((s2.r.hl + 1) % 65536)).f) 0)), .int .u8 (sbcF ((s2.u_wz ((s2.r.hl + 1) % 65536)).r.hl) ((s2.u_wz ((s2.r.hl + 1) % 65536)).pair) (isM ((s2.u_wz ((s2.r.hl + 1) % 65536)).f) 0))]) rfl (by kernel_rfl) (by kernel_rfl) w) (fun _ => hS) ?_
    refine turn_free (i := 14) 34 (pT p 0) rfl rfl (by kernel_rfl) (by kernel_rfl) (by kernel_rfl) (by kernel_rfl) (by kernel_rfl) (fun _ _ _ h => h) (by kernel_rfl) (fun w => heNil (ad := ⟨p, 0, none⟩) rfl (by kernel_rfl) w) (fun _ => hS) ?_
    refine turn_free (i := 15) 35 (pT p 0) rfl rfl (by kernel_rfl) (by kernel_rfl) (by kernel_rfl) (by kernel_rfl) (by kernel_rfl) (fun _ _ _ h => h) (by kernel_rfl) (fun w => heField (V := pT p 0) (R := pT p 0) rfl (by kernel_rfl) (fM0 p) w) (fun _ => hS) ?_
    refine turn_take (i := 16) 36 (pT p 3) rfl rfl (by kernel_rfl) (by kernel_rfl) (by kernel_rfl) (by kernel_rfl) (by kernel_rfl) (fun _ _ _ h => h) (by kernel_rfl) (fun w hS => heField (V := pT p 0) (R := pT p 3) rfl (by kernel_rfl) (fR3 p) w) hS ?_
    refine turn_do rfl rfl (by kernel_rfl) (by kernel_rfl) (by kernel_rfl) (heStore (ad := ⟨p, 3, none⟩) (V := .int .u16 (sbcW ((s2.u_wz ((s2.r.hl + 1) % 65536)).r.hl) ((s2.u_wz ((s2.r.hl + 1) % 65536)).pair) (isM ((s2.u_wz ((s2.r.hl + 1) % 65536)).f) 0))) rfl (by kernel_rfl) (by kernel_rfl) (st16 (hn.at_.cell 3 _ fun _ _ _ => rfl) (hn.at_.frozen 3))) ?_
    have hn := hn.set 3 (.int .u16 (sbcW ((s2.u_wz ((s2.r.hl + 1) % 65536)).r.hl) ((s2.u_wz ((s2.r.hl + 1) % 65536)).pair) (isM ((s2.u_wz ((s2.r.hl + 1) % 65536)).f) 0))) ((s2.u_wz ((s2.r.hl + 1) % 65536)).u_hl (sbcW ((s2.u_wz ((s2.r.hl + 1) % 65536)).r.hl) ((s2.u_wz ((s2.r.hl + 1) % 65536)).pair) (isM ((s2.u_wz ((s2.r.hl + 1) % 65536)).f) 0))) (mu_hl _ _) (hn.at_.ms.u_hl (Wd16.mod _))
    refine turn_end (by kernel_rfl) ?_
    simp only [List.drop_succ_cons, List.drop_zero]
    try simp only [Act.put, sA, sB, sC]
    refine oA 2 (.int .u8 (sbcF ((s2.u_wz ((s2.r.hl + 1) % 65536)).r.hl) ((s2.u_wz ((s2.r.hl + 1) % 65536)).pair) (isM ((s2.u_wz ((s2.r.hl + 1) % 65536)).f) 0))) ?_
    refine endL ?_
    try simp only [Act.put, sA, sB, sC]
    refine thenN <| hK7 _ _ <| regionL <| oM 54 (pT p 0) <| oM 55 (.int .u8 (sbcF ((s2.u_wz ((s2.r.hl + 1) % 65536)).r.hl) ((s2.u_wz ((s2.r.hl + 1) % 65536)).pair) (isM ((s2.u_wz ((s2.r.hl + 1) % 65536)).f) 0))) <| oC (.tuple #[]) (m_setF (sbcF ((s2.u_wz ((s2.r.hl + 1) % 65536)).r.hl) ((s2.u_wz ((s2.r.hl + 1) % 65536)).pair) (isM ((s2.u_wz ((s2.r.hl + 1) % 65536)).f) 0)) (sbcF_byte _ _ _) hn.at_) ?_
    intro w17 hk
    have hn := hn.after hk
    refine endL ?_
    try simp only [Act.put, sA, sB, sC]
    refine endV rfl rfl ?_
    exact OutV.ok (hr.trans (Tr.run_done _ _)) hn
  · skip
    have g9 : ¬ ((s2.u_wz ((s2.r.hl + 1) % 65536)).q) = 0 := by simpa using h9
    have hr := hr.trans (run_if_neg g9)
    refine turn_start 17 18 (fun w' => NowN w p B (s2.u_wz ((s2.r.hl + 1) % 65536)) xs2 w') (by kernel_rfl) (by kernel_rfl) hn.drew ?_
    intro w18 _ hS
    have hn := hS
    refine turn_take (i := 0) 38 (pT p 0) rfl rfl (by kernel_rfl) (by kernel_rfl) (by kernel_rfl) (by kernel_rfl) (by kernel_rfl) (fun _ _ _ h => h) (by kernel_rfl) (fun w hS => heMove (.inl rfl) (by kernel_rfl) w) hS ?_
    refine turn_take (i := 1) 39 (pT p 0) rfl rfl (by kernel_rfl) (by kernel_rfl) (by kernel_rfl) (by kernel_rfl) (by kernel_rfl) (fun _ _ _ h => h) (by kernel_rfl) (fun w hS => heMove (.inl rfl) (by kernel_rfl) w) hS ?_
    refine turn_take (i := 2) 40 (pT p 0) rfl rfl (by kernel_rfl) (by kernel_rfl) (by kernel_rfl) (by kernel_rfl) (by kernel_rfl) (fun _ _ _ h => h) (by kernel_rfl) (fun w hS => heNil (ad := ⟨p, 0, none⟩) rfl (by kernel_rfl) w) hS ?_
    refine turn_take (i := 3) 41 (pT p 0) rfl rfl (by kernel_rfl) (by kernel_rfl) (by kernel_rfl) (by kernel_rfl) (by kernel_rfl) (fun _ _ _ h => h) (by kernel_rfl) (fun w hS => heField (V := pT p 0) (R := pT p 0) rfl (by kernel_rfl) (fM0 p) w) hS ?_
    refine turn_take (i := 4) 42 (pT p 3) rfl rfl (by kernel_rfl) (by kernel_rfl) (by kernel_rfl) (by kernel_rfl) (by kernel_rfl) (fun _ _ _ h => h) (by kernel_rfl) (fun w hS => heField (V := pT p 0) (R := pT p 3) rfl (by kernel_rfl) (fR3 p) w) hS ?_
    have b19 := hn.at_.ms.r.hl
    refine turn_take (i := 5) 43 (.int .u16 ((s2.u_wz ((s2.r.hl + 1) % 65536)).r.hl)) rfl rfl (by kernel_rfl) (by kernel_rfl) (by kernel_rfl) (by kernel_rfl) (by kernel_rfl) (fun _ _ _ h => h) (by kernel_rfl) (fun w hS => heLoad rfl (by kernel_rfl) (ld16 (hS.at_.cell 3 (.int .u16 ((s2.u_wz ((s2.r.hl + 1) % 65536)).r.hl)) fun _ _ _ => rfl))) hS ?_
    refine turn_take (i := 6) 44 (pT p 0) rfl rfl (by kernel_rfl) (by kernel_rfl) (by kernel_rfl) (by kernel_rfl) (by kernel_rfl) (fun _ _ _ h => h) (by kernel_rfl) (fun w hS => heMove (.inl rfl) (by kernel_rfl) w) hS ?_
    refine turn_take (i := 8) 46 (pT p 0) rfl rfl (by kernel_rfl) (by kernel_rfl) (by kernel_rfl) (by kernel_rfl) (by kernel_rfl) (fun _ _ _ h => h) (by kernel_rfl) (fun w hS => heMove (.inl rfl) (by kernel_rfl) w) hS ?_
    have b20 := pair_word hn.at_.ms
    refine turnO (i := 7) (.int .u16 ((s2.u_wz ((s2.r.hl + 1) % 65536)).pair)) rfl (by kernel_rfl) (by kernel_rfl) (by kernel_rfl) (by kernel_rfl) (m_pair  hn.at_) (fun w' hk => hS.after hk) ?_
    intro w21 hk
    have hn := hn.after hk
    have hS := hn
    have b22 := f_byte hn.at_.ms
    refine turnO (i := 9) (.int .u8 ((s2.u_wz ((s2.r.hl + 1) % 65536)).f)) rfl (by kernel_rfl) (by kernel_rfl) (by kernel_rfl) (by kernel_rfl) (m_f  hn.at_) (fun w' hk => hS.after hk) ?_
    intro w23 hk
    have hn := hn.after hk
    have hS := hn
    refine turnO (i := 10) (.tuple #[.int .u16 (adcW ((s2.u_wz ((s2.r.hl + 1) % 65536)).r.hl) ((s2.u_wz ((s2.r.hl + 1) % 65536)).pair) (isM ((s2.u_wz ((s2.r.hl + 1) % 65536)).f) 0)), .int .u8 (adcF ((s2.u_wz ((s2.r.hl + 1) % 65536)).r.hl) ((s2.u_wz ((s2.r.hl + 1) % 65536)).pair) (isM ((s2.u_wz ((s2.r.hl + 1) % 65536)).f) 0))]) rfl (by kernel_rfl) (by kernel_rfl) (by kernel_rfl) (by kernel_rfl) (wadc_any ((s2.u_wz ((s2.r.hl + 1) % 65536)).r.hl) ((s2.u_wz ((s2.r.hl + 1) % 65536)).pair) ((s2.u_wz ((s2.r.hl + 1) % 65536)).f) (b19) (b20) (b22) _) (fun w' hb => hS.below hb) ?_
    intro w24 hb
    have hn := hn.below hb
    have hS := hn
    refine turn_take (i := 11) 37 (.tuple #[.int .u16 (adcW ((s2.u_wz ((s2.r.hl + 1) % 65536)).r.hl) ((s2.u_wz ((s2.r.hl + 1) % 65536)).pair) (isM ((s2.u_wz ((s2.r.hl + 1) % 65536)).f) 0)), .int .u8 (adcF ((s2.u_wz ((s2.r.hl + 1) % 65536)).r.hl) ((s2.u_wz ((s2.r.hl + 1) % 65536)).pair) (isM ((s2.u_wz ((s2.r.hl + 1) % 65536)).f) 0))]) rfl rfl (by kernel_rfl) (by kernel_rfl) (by kernel_rfl) (by kernel_rfl) (by kernel_rfl) (fun _ _ _ h => h) (by kernel_rfl) (fun w hS => heMove (.inl rfl) (by kernel_rfl) w) hS ?_
    refine turn_take (i := 12) 49 (.int .u16 (adcW ((s2.u_wz ((s2.r.hl + 1) % 65536)).r.hl) ((s2.u_wz ((s2.r.hl + 1) % 65536)).pair) (isM ((s2.u_wz ((s2.r.hl + 1) % 65536)).f) 0))) rfl rfl (by kernel_rfl) (by kernel_rfl) (by kernel_rfl) (by kernel_rfl) (by kernel_rfl) (fun _ _ _ h => h) (by kernel_rfl) (fun w hS => heExtract (vs := #[.int .u16 (adcW ((s2.u_wz ((s2.r.hl + 1) % 65536)).r.hl) ((s2.u_wz ((s2.r.hl + 1) % 65536)).pair) (isM ((s2.u_wz ((s2.r.hl + 1) % 65536)).f) 0)), .int .u8 (adcF ((s2.u_wz ((s2.r.hl + 1) % 65536)).r.hl) ((s2.u_wz ((s2.r.hl + 1) % 65536)).pair) (isM ((s2.u_wz ((s2.r.hl + 1) % 65536)).f) 0))]) rfl (by kernel_rfl) (by kernel_rfl) w) hS ?_
    refine turn_free (i := 13) 50 (.int .u8 (adcF ((s2.u_wz ((s2.r.hl + 1) % 65536)).r.hl) ((s2.u_wz ((s2.r.hl + 1) % 65536)).pair) (isM ((s2.u_wz ((s2.r.hl + 1) % 65536)).f) 0))) rfl rfl (by kernel_rfl) (by kernel_rfl) (by kernel_rfl) (by kernel_rfl) (by kernel_rfl) (fun _ _ _ h => h) (by kernel_rfl) (fun w => heExtract (vs := #[.int .u16 (adcW ((s2.u_wz ((s2.r.hl + 1) % 65536)).r.hl) ((s2.u_wz ((s2.r.hl + 1) % 65536)).pair) (isM ((s2.u_wz ((s2.r.hl + 1) % 65536)).f) 0)), .int .u8 (adcF ((s2.u_wz ((s2.r.hl + 1) % 65536)).r.hl) ((s2.u_wz ((s2.r.hl + 1) % 65536)).pair) (isM ((s2.u_wz ((s2.r.hl + 1) % 65536)).f) 0))]) rfl (by kernel_rfl) (by kernel_rfl) w) (fun _ => hS) ?_
    refine turn_free (i := 14) 51 (pT p 0) rfl rfl (by kernel_rfl) (by kernel_rfl) (by kernel_rfl) (by kernel_rfl) (by kernel_rfl) (fun _ _ _ h => h) (by kernel_rfl) (fun w => heNil (ad := ⟨p, 0, none⟩) rfl (by kernel_rfl) w) (fun _ => hS) ?_
    refine turn_free (i := 15) 52 (pT p 0) rfl rfl (by kernel_rfl) (by kernel_rfl) (by kernel_rfl) (by kernel_rfl) (by kernel_rfl) (fun _ _ _ h => h) (by kernel_rfl) (fun w => heField (V := pT p 0) (R := pT p 0) rfl (by kernel_rfl) (fM0 p) w) (fun _ => hS) ?_
    refine turn_take (i := 16) 53 (pT p 3) rfl rfl (by kernel_rfl) (by kernel_rfl) (by kernel_rfl) (by kernel_rfl) (by kernel_rfl) (fun _ _ _ h => h) (by kernel_rfl) (fun w hS => heField (V := pT p 0) (R := pT p 3) rfl (by kernel_rfl) (fR3 p) w) hS ?_
    refine turn_do rfl rfl (by kernel_rfl) (by kernel_rfl) (by kernel_rfl) (heStore (ad := ⟨p, 3, none⟩) (V := .int .u16 (adcW ((s2.u_wz ((s2.r.hl + 1) % 65536)).r.hl) ((s2.u_wz ((s2.r.hl + 1) % 65536)).pair) (isM ((s2.u_wz ((s2.r.hl + 1) % 65536)).f) 0))) rfl (by kernel_rfl) (by kernel_rfl) (st16 (hn.at_.cell 3 _ fun _ _ _ => rfl) (hn.at_.frozen 3))) ?_
    have hn := hn.set 3 (.int .u16 (adcW ((s2.u_wz ((s2.r.hl + 1) % 65536)).r.hl) ((s2.u_wz ((s2.r.hl + 1) % 65536)).pair) (isM ((s2.u_wz ((s2.r.hl + 1) % 65536)).f) 0))) ((s2.u_wz ((s2.r.hl + 1) % 65536)).u_hl (adcW ((s2.u_wz ((s2.r.hl + 1) % 65536)).r.hl) ((s2.u_wz ((s2.r.hl + 1) % 65536)).pair) (isM ((s2.u_wz ((s2.r.hl + 1) % 65536)).f) 0))) (mu_hl _ _) (hn.at_.ms.u_hl (Wd16.mod _))
    refine turn_end (by kernel_rfl) ?_
    simp only [List.drop_succ_cons, List.drop_zero]
    try simp only [Act.put, sA, sB, sC]
    refine oA 2 (.int .u8 (adcF ((s2.u_wz ((s2.r.hl + 1) % 65536)).r.hl) ((s2.u_wz ((s2.r.hl + 1) % 65536)).pair) (isM ((s2.u_wz ((s2.r.hl + 1) % 65536)).f) 0))) ?_
    refine endL ?_
    try simp only [Act.put, sA, sB, sC]
    refine thenN <| hK7 _ _ <| regionL <| oM 54 (pT p 0) <| oM 55 (.int .u8 (adcF ((s2.u_wz ((s2.r.hl + 1) % 65536)).r.hl) ((s2.u_wz ((s2.r.hl + 1) % 65536)).pair) (isM ((s2.u_wz ((s2.r.hl + 1) % 65536)).f) 0))) <| oC (.tuple #[]) (m_setF (adcF ((s2.u_wz ((s2.r.hl + 1) % 65536)).r.hl) ((s2.u_wz ((s2.r.hl + 1) % 65536)).pair) (isM ((s2.u_wz ((s2.r.hl + 1) % 65536)).f) 0)) (adcF_byte _ _ _) hn.at_) ?_
    intro w25 hk
    have hn := hn.after hk
    refine endL ?_
    try simp only [Act.put, sA, sB, sC]
    refine endV rfl rfl ?_
    exact OutV.ok (hr.trans (Tr.run_done _ _)) hn
theorem m_pairAtPlace  {s : Ms} {xs : List Int} {w : World} {p B : Nat} (h : AtN w p B s xs) :
    Calls Tryz.prog 199 #[pT p 0] w (OutV w p B ((pairAtPlaceN s).run xs)) := by
 have hn := NowN.begin h
 have hr : (pairAtPlaceN s).run xs = (pairAtPlaceN s).run xs := rfl
 go_enter Tryz.func199, Tryz.ntmps199
 refine coStart <| coR <| nR 1 hn <| nI (m_word hn.at_) hn hr <| fun v2 s2 xs2 w2 hk2 hn hr => nE hn <| nQ hn <| nIf hr (fun g4 hr => ?_) fun g4 hr => ?_
 · exact have b5 := pair_word hn.at_.ms; coZ <| nR 3 hn <| nA (m_pair hn.at_) hn <| fun w6 hn => nV (m_storeWord v2 (hk2) s2.pair (b5) hn.at_) hn hr <| fun s7 xs7 w7 hn hr => woE <| eoV (OutV.ok (dN hr) hn)
 exact coZ <| nR 3 hn <| nI (m_loadWord v2 (hk2) hn.at_) hn hr <| fun v8 s8 xs8 w8 hk8 hn hr => nA (m_setPair v8 (hk8) hn.at_) hn <| fun w9 hn => woE <| eoV (OutV.ok (dN hr) hn)
theorem m_show (b : Int) (hAb : B8 b) {s : Ms} {xs : List Int} {w : World} {p B : Nat} (h : AtN w p B s xs) :
    Calls Tryz.prog 271 #[pT p 0, .int .u8 (b)] w (fun e w' => e = .returned (.tuple #[]) ∧ NowN w p B (showN b s) xs w') := by
 have hn := NowN.begin h
 go_enter Tryz.func271, Tryz.ntmps271
 refine coStart <| coR <| nR 1 hn <| kE (result_any b (hAb).1 (hAb).2 _) <| nR 1 hn <| nA (m_carry hn.at_) hn <| fun w3 hn => kBj 9 (.int .u8 (resultM b)) (.int .u8 (s.carry)) (.int .u8 (withM (resultM b) 0 (isM s.f 0))) (eg8 _ _ _ _ _) (bOrResult _ _) <| nE hn <| coS <| nQ hn <| coI (s.r.iff2) (fun h6 => ?_) fun h6 => ?_
 · have g6 : s.r.iff2 = true := by simpa using h6
   refine coZ <| nR 1 hn <| kBj 16 (.int .u8 (withM (resultM b) 0 (isM s.f 0))) (.int .u8 (4)) (.int .u8 (withM (withM (resultM b) 0 (isM s.f 0)) 2 true)) (eg8 _ _ _ _ _) (bOrP _ (B8.with (resultM_byte _) _ _)) <| nE hn <| coZ <| nR 3 hn <| kE (word_any b (withM (withM (resultM b) 0 (isM s.f 0)) 2 true) (hAb).1 (hAb).2 (B8.with (B8.with (resultM_byte _) _ _) _ _).1 (B8.with (B8.with (resultM_byte _) _ _) _ _).2 _) <| nFs hn (.u_af _ (256 * b + (withM (withM (resultM b) 0 (isM s.f 0)) 2 true))) (hn.at_.ms.u_af (Wd16.mk8 (hAb) (B8.with (B8.with (resultM_byte _) _ _) _ _))) <| fun w8 hn => eoV ?_
   have e : showN b s = s.u_af (256 * b + (withM (withM (resultM b) 0 (isM s.f 0)) 2 true)) := by
    unfold showN
    repeat (first | rw [if_pos (by assumption)] | rw [if_neg (by assumption)])
    rw [show s.r.iff2 = true from by assumption]; rfl
   exact ⟨rfl, e ▸ hn⟩
 have g6 : ¬ s.r.iff2 = true := by simpa using h6
 refine coSkip <| eoT <| coZ <| nR 3 hn <| kE (word_any b (withM (resultM b) 0 (isM s.f 0)) (hAb).1 (hAb).2 (B8.with (resultM_byte _) _ _).1 (B8.with (resultM_byte _) _ _).2 _) <| nFs hn (.u_af _ (256 * b + (withM (resultM b) 0 (isM s.f 0)))) (hn.at_.ms.u_af (Wd16.mk8 (hAb) (B8.with (resultM_byte _) _ _))) <| fun w10 hn => eoV ?_
 have e : showN b s = s.u_af (256 * b + (withM (resultM b) 0 (isM s.f 0))) := by
  unfold showN
  repeat (first | rw [if_pos (by assumption)] | rw [if_neg (by assumption)])
  rw [show s.r.iff2 = false from by simpa using (by assumption : ¬ s.r.iff2 = true), with2_off]; rfl
 exact ⟨rfl, e ▸ hn⟩
theorem m_turnDigits  {s : Ms} {xs : List Int} {w : World} {p B : Nat} (h : AtN w p B s xs) :
    Calls Tryz.prog 272 #[pT p 0] w (OutV w p B ((turnDigitsN s).run xs)) := by
 have hn := NowN.begin h
 have hr : (turnDigitsN s).run xs = (turnDigitsN s).run xs := rfl
 go_enter Tryz.func272, Tryz.ntmps272
 exact coStart <| have b2 := hn.at_.ms.r.hl; coR <| nR 6 hn <| nI (m_read s.r.hl (b2) hn.at_) hn hr <| fun v3 s3 xs3 w3 hk3 hn hr => nE hn <| coR <| nR 1 hn <| nV (m_pause 4 hn.at_) hn hr <| fun s5 xs5 w5 hn hr => wT <| nQ hn <| have b8 := a_byte hn.at_.ms; coR <| nR 2 hn <| nA (m_a hn.at_) hn <| fun w9 hn => have b10 := f_byte hn.at_.ms; nR 2 hn <| nA (m_f hn.at_) hn <| fun w11 hn => nB (digit_any (s5.y == 4) s5.a v3 s5.f (b8) (hk3) (b10) _) hn <| fun w12 hn => nE hn <| coR <| nR 3 hn <| kE (word_any (digA (s5.y == 4) s5.a v3) (evenC (digA (s5.y == 4) s5.a v3) (isM s5.f 0)) (digA_byte _ _ _ (b8) (hk3)).1 (digA_byte _ _ _ (b8) (hk3)).2 (evenC_byte _ _).1 (evenC_byte _ _).2 _) <| nEs hn (.u_af _ (256 * (digA (s5.y == 4) s5.a v3) + (evenC (digA (s5.y == 4) s5.a v3) (isM s5.f 0)))) (hn.at_.ms.u_af (Wd16.mk8 (digA_byte _ _ _ (b8) (hk3)) (evenC_byte _ _))) <| fun w15 hn => have b17 := hn.at_.ms.r.hl; coR <| nR 7 hn <| nV (m_write ((s5.u_af (256 * (digA (s5.y == 4) s5.a v3) + (evenC (digA (s5.y == 4) s5.a v3) (isM s5.f 0)))).r.hl) (b17) (digB (s5.y == 4) s5.a v3) (digB_byte _ _ _ (b8) (hk3)) hn.at_) hn hr <| fun s18 xs18 w18 hn hr => wT <| have b19 := hn.at_.ms.r.hl; coZ <| nFs hn (.u_wz _ ((s18.r.hl + 1) % 65536)) (hn.at_.ms.u_wz (Wd16.mod _)) <| fun w20 hn => eoV (OutV.ok (dN hr) hn)
theorem m_special  {s : Ms} {xs : List Int} {w : World} {p B : Nat} (h : AtN w p B s xs) :
    Calls Tryz.prog 204 #[pT p 0] w (OutV w p B ((specialN s).run xs)) := by
 have hn := NowN.begin h
 have hr : (specialN s).run xs = (specialN s).run xs := rfl
 go_enter Tryz.func204, Tryz.ntmps204
 refine coStart <| nQ hn <| coB <| nQ hn <| nIf hr (fun g3 hr => ?_) fun g3 hr => ?_
 · exact coR <| nR 1 hn <| nV (m_pause 1 hn.at_) hn hr <| fun s5 xs5 w5 hn hr => wT <| have b6 := a_byte hn.at_.ms; coZ <| nR 2 hn <| nA (m_a hn.at_) hn <| fun w7 hn => nFs hn (.u_i _ (s5.a)) (hn.at_.ms.u_i (b6)) <| fun w8 hn => eoB <| eoV (OutV.ok (dN hr) hn)
 refine nQ hn <| nIf hr (fun g10 hr => ?_) fun g10 hr => ?_
 · exact coR <| nR 1 hn <| nV (m_pause 1 hn.at_) hn hr <| fun s12 xs12 w12 hn hr => wT <| have b13 := a_byte hn.at_.ms; coZ <| nR 2 hn <| nA (m_a hn.at_) hn <| fun w14 hn => nFs hn (.u_r _ (s12.a)) (hn.at_.ms.u_r (b13)) <| fun w15 hn => eoB <| eoV (OutV.ok (dN hr) hn)
 refine nQ hn <| nIf hr (fun g17 hr => ?_) fun g17 hr => ?_
 · exact coR <| nR 1 hn <| nV (m_pause 1 hn.at_) hn hr <| fun s19 xs19 w19 hn hr => wT <| have b20 := hn.at_.ms.r.i; coZ <| nR 6 hn <| nA (m_show s19.r.i (b20) hn.at_) hn <| fun w21 hn => woE <| eoB <| eoV (OutV.ok (dN hr) hn)
 refine nQ hn <| nIf hr (fun g23 hr => ?_) fun g23 hr => ?_
 · exact coR <| nR 1 hn <| nV (m_pause 1 hn.at_) hn hr <| fun s25 xs25 w25 hn hr => wT <| have b26 := hn.at_.ms.r.r; coZ <| nR 6 hn <| nA (m_show s25.r.r (b26) hn.at_) hn <| fun w27 hn => woE <| eoB <| eoV (OutV.ok (dN hr) hn)
 refine coS <| nQ hn <| coI (s.y == 4) (fun h30 => ?_) fun h30 => ?_
 · have g30 : s.y = 4 := by simpa using h30
   exact have hr := hr.trans (run_if_pos (.inl g30)); coSkip <| eoT <| coJ (s.y == 4) (fun h31 => absurd (h30.symm.trans h31) (by decide)) <| fun h31 => coZ <| nR 1 hn <| nV (m_turnDigits hn.at_) hn hr <| fun s32 xs32 w32 hn hr => woE <| eoB <| eoV (OutV.ok (dN hr) hn)
 have g30 : ¬ s.y = 4 := by simpa using h30
 refine coZ <| nE hn <| coI (s.y == 5) (fun h33 => ?_) fun h33 => ?_
 · have g33 : s.y = 5 := by simpa using h33
   exact have hr := hr.trans (run_if_pos (.inr g33)); coZ <| nR 1 hn <| nV (m_turnDigits hn.at_) hn hr <| fun s34 xs34 w34 hn hr => woE <| eoB <| eoV (OutV.ok (dN hr) hn)
 have g33 : ¬ s.y = 5 := by simpa using h33
 exact have hr := hr.trans (run_if_neg (not_or.2 ⟨g30, g33⟩)); coSkip <| eoB <| eoV (OutV.ok (dN hr) hn)
theorem m_nothing  {s : Ms} {xs : List Int} {w : World} {p B : Nat} (h : AtN w p B s xs) :
    Calls Tryz.prog 130 #[pT p 0] w (fun e w' => e = .returned (.tuple #[]) ∧ NowN w p B (s) xs w') := by
 have hn := NowN.begin h
 go_enter Tryz.func130, Tryz.ntmps130
 exact coStart <| coSkip <| eoV (⟨rfl, hn⟩)
theorem m_extended  {s : Ms} {xs : List Int} {w : World} {p B : Nat} (h : AtN w p B s xs) :
    Calls Tryz.prog 131 #[pT p 0] w (OutV w p B ((extendedN s).run xs)) := by
 have hn := NowN.begin h
 have hr : (extendedN s).run xs = (extendedN s).run xs := rfl
 go_enter Tryz.func131, Tryz.ntmps131
 refine wp_seq_k fun K1 hK1 => regionL <| oM 4 (pT p 0) <| oN 5 p 0 <| oF 6 (fM5 p) <| oL 7 (ldI (hn.at_.cell 24 (.int .i64 (s.z)) fun _ _ _ => rfl)) ?_
 refine endL ?_
 try simp only [Act.put, sA, sB, sC]
 refine thenN <| hK1 _ _ ?_
 refine wp_block ?_
 refine wp_seq_k fun K2 hK2 => regionL <| oB 9 (egI _ _ _ _ _) (bEqI s.z 0) <| oA 8 (.bool (s.z == 0)) ?_
 refine endL ?_
 try simp only [Act.put, sA, sB, sC]
 refine thenN <| hK2 _ _ ?_
 refine wp_cond_split (t := s.z == 0) (by kernel_rfl) (fun h3 => ?_) (fun h3 => ?_)
 · have g3 : s.z = 0 := by simpa using h3
   have hr := hr.trans (run_if_pos g3)
   exact coStart <| coZ <| nR 1 hn <| nVt (m_takeIn hn.at_) hn hr <| fun s4 xs4 w4 hn hr => woE <| eoB <| eoV (OutV.ok (dN hr) hn)
 · have g3 : ¬ s.z = 0 := by simpa using h3
   have hr := hr.trans (run_if_neg g3)
   refine wp_seq_k fun K5 hK5 => regionL <| oB 13 (egI _ _ _ _ _) (bEqI s.z 1) <| oA 12 (.bool (s.z == 1)) ?_
   refine endL ?_
   try simp only [Act.put, sA, sB, sC]
   refine thenN <| hK5 _ _ ?_
   refine wp_cond_split (t := s.z == 1) (by kernel_rfl) (fun h6 => ?_) (fun h6 => ?_)
   · have g6 : s.z = 1 := by simpa using h6
     have hr := hr.trans (run_if_pos g6)
     exact coStart <| coZ <| nR 1 hn <| nVt (m_giveOut hn.at_) hn hr <| fun s7 xs7 w7 hn hr => woE <| eoB <| eoV (OutV.ok (dN hr) hn)
   · have g6 : ¬ s.z = 1 := by simpa using h6
     have hr := hr.trans (run_if_neg g6)
     refine wp_seq_k fun K8 hK8 => regionL <| oB 17 (egI _ _ _ _ _) (bEqI s.z 2) <| oA 16 (.bool (s.z == 2)) ?_
     refine endL ?_
     try simp only [Act.put, sA, sB, sC]
     refine thenN <| hK8 _ _ ?_
     refine wp_cond_split (t := s.z == 2) (by kernel_rfl) (fun h9 => ?_) (fun h9 => ?_)
     · have g9 : s.z = 2 := by simpa using h9
       have hr := hr.trans (run_if_pos g9)
       exact coStart <| coZ <| nR 1 hn <| nVt (m_addCarried hn.at_) hn hr <| fun s10 xs10 w10 hn hr => woE <| eoB <| eoV (OutV.ok (dN hr) hn)
     · have g9 : ¬ s.z = 2 := by simpa using h9
       have hr := hr.trans (run_if_neg g9)
       refine wp_seq_k fun K11 hK11 => regionL <| oB 21 (egI _ _ _ _ _) (bEqI s.z 3) <| oA 20 (.bool (s.z == 3)) ?_
       refine endL ?_
       try simp only [Act.put, sA, sB, sC]
       refine thenN <| hK11 _ _ ?_
       refine wp_cond_split (t := s.z == 3) (by kernel_rfl) (fun h12 => ?_) (fun h12 => ?_)
       · have g12 : s.z = 3 := by simpa using h12
         have hr := hr.trans (run_if_pos g12)
         exact coStart <| coZ <| nR 1 hn <| nVt (m_pairAtPlace hn.at_) hn hr <| fun s13 xs13 w13 hn hr => woE <| eoB <| eoV (OutV.ok (dN hr) hn)
       · have g12 : ¬ s.z = 3 := by simpa using h12
         have hr := hr.trans (run_if_neg g12)
         refine wp_seq_k fun K14 hK14 => regionL <| oB 25 (egI _ _ _ _ _) (bEqI s.z 4) <| oA 24 (.bool (s.z == 4)) ?_
         refine endL ?_
         try simp only [Act.put, sA, sB, sC]
         refine thenN <| hK14 _ _ ?_
         refine wp_cond_split (t := s.z == 4) (by kernel_rfl) (fun h15 => ?_) (fun h15 => ?_)
         · have g15 : s.z = 4 := by simpa using h15
           have hr := hr.trans (run_if_pos g15)
           exact coStart <| have b17 := a_byte hn.at_.ms; coR <| nR 1 hn <| nA (m_a hn.at_) hn <| fun w18 hn => nB (neg_any s.a (b17) _) hn <| fun w19 hn => nE hn <| coZ <| nR 3 hn <| kE (word_any (subR 0 s.a false) (subF 0 s.a false) (subR_byte _ _ _).1 (subR_byte _ _ _).2 (subF_byte _ _ _).1 (subF_byte _ _ _).2 _) <| nFs hn (.u_af _ (256 * (subR 0 s.a false) + (subF 0 s.a false))) (hn.at_.ms.u_af (Wd16.mk8 (subR_byte _ _ _) (subF_byte _ _ _))) <| fun w21 hn => eoB <| eoV (OutV.ok (dN hr) hn)
         · have g15 : ¬ s.z = 4 := by simpa using h15
           have hr := hr.trans (run_if_neg g15)
           refine wp_seq_k fun K22 hK22 => regionL <| oB 40 (egI _ _ _ _ _) (bEqI s.z 5) <| oA 39 (.bool (s.z == 5)) ?_
           refine endL ?_
           try simp only [Act.put, sA, sB, sC]
           refine thenN <| hK22 _ _ ?_
           refine wp_cond_split (t := s.z == 5) (by kernel_rfl) (fun h23 => ?_) (fun h23 => ?_)
           · have g23 : s.z = 5 := by simpa using h23
             have hr := hr.trans (run_if_pos g23)
             exact coStart <| coR <| nR 2 hn <| nI (m_pop hn.at_) hn hr <| fun v25 s25 xs25 w25 hk25 hn hr => nA (m_goTo v25 (hk25) hn.at_) hn <| fun w26 hn => wT <| coZ <| nFs hn (.u_iff1 _ ((s25.goTo v25).r.iff2)) (hn.at_.ms.u_iff1) <| fun w27 hn => eoB <| eoV (OutV.ok (dN hr) hn)
           · have g23 : ¬ s.z = 5 := by simpa using h23
             have hr := hr.trans (run_if_neg g23)
             refine wp_seq_k fun K28 hK28 => regionL <| oB 55 (egI _ _ _ _ _) (bEqI s.z 6) <| oA 54 (.bool (s.z == 6)) ?_
             refine endL ?_
             try simp only [Act.put, sA, sB, sC]
             refine thenN <| hK28 _ _ ?_
             refine wp_cond_split (t := s.z == 6) (by kernel_rfl) (fun h29 => ?_) (fun h29 => ?_)
             · have g29 : s.z = 6 := by simpa using h29
               have hr := hr.trans (run_if_pos g29)
               refine regionL <| oM 56 (pT p 0) <| oM 57 (pT p 0) <| oN 58 p 0 <| oF 59 (fM4 p) <| oL 60 (ldI (hn.at_.cell 23 (.int .i64 (s.y)) fun _ _ _ => rfl)) ?_
               rcases mod4 (s.y) with g30 | g30 | g30 | g30
               · refine oB 61 (egI _ _ _ _ _) (bRem4 (hn.at_.ms.y.1) g30) ?_
                 have hr := hr.trans (run_if_neg (by simp [g30, g29, g23, g15, g12, g9, g6, g3]))
                 have hr := hr.trans (run_if_neg (by simp [g30, g29, g23, g15, g12, g9, g6, g3]))
                 refine oI 62 (pT 1 0) (.int .i64 (0)) (pT 1 0) (idx4_0 _) <| oL 63 (ldI (hn.at_.tabs.modes.1)) <| oN 64 p 0 <| oF 65 (fM0 p) <| oF 66 (fR19 p) ?_
                 refine sSetN hn 19 (.int .i64 (0)) (s.u_mode (0)) rfl rfl rfl (by kernel_rfl) (by kernel_rfl) (stI (hn.at_.cell 19 _ fun _ _ _ => rfl) (hn.at_.frozen 19)) (mu_mode _ _) (hn.at_.ms.u_mode (⟨by decide, by decide⟩)) ?_
                 intro w31 hn
                 refine endL ?_
                 try simp only [Act.put, sA, sB, sC]
                 refine blockN ?_
                 refine endV rfl rfl ?_
                 exact OutV.ok (hr.trans (Tr.run_done _ _)) hn
               · refine oB 61 (egI _ _ _ _ _) (bRem4 (hn.at_.ms.y.1) g30) ?_
                 have hr := hr.trans (run_if_neg (by simp [g30, g29, g23, g15, g12, g9, g6, g3]))
                 have hr := hr.trans (run_if_neg (by simp [g30, g29, g23, g15, g12, g9, g6, g3]))
                 refine oI 62 (pT 1 0) (.int .i64 (1)) (pT 1 1) (idx4_1 _) <| oL 63 (ldI (hn.at_.tabs.modes.2.1)) <| oN 64 p 0 <| oF 65 (fM0 p) <| oF 66 (fR19 p) ?_
                 refine sSetN hn 19 (.int .i64 (0)) (s.u_mode (0)) rfl rfl rfl (by kernel_rfl) (by kernel_rfl) (stI (hn.at_.cell 19 _ fun _ _ _ => rfl) (hn.at_.frozen 19)) (mu_mode _ _) (hn.at_.ms.u_mode (⟨by decide, by decide⟩)) ?_
                 intro w32 hn
                 refine endL ?_
                 try simp only [Act.put, sA, sB, sC]
                 refine blockN ?_
                 refine endV rfl rfl ?_
                 exact OutV.ok (hr.trans (Tr.run_done _ _)) hn
               · refine oB 61 (egI _ _ _ _ _) (bRem4 (hn.at_.ms.y.1) g30) ?_
                 have hr := hr.trans (run_if_pos g30)
                 refine oI 62 (pT 1 0) (.int .i64 (2)) (pT 1 2) (idx4_2 _) <| oL 63 (ldI (hn.at_.tabs.modes.2.2.1)) <| oN 64 p 0 <| oF 65 (fM0 p) <| oF 66 (fR19 p) ?_
                 refine sSetN hn 19 (.int .i64 (1)) (s.u_mode (1)) rfl rfl rfl (by kernel_rfl) (by kernel_rfl) (stI (hn.at_.cell 19 _ fun _ _ _ => rfl) (hn.at_.frozen 19)) (mu_mode _ _) (hn.at_.ms.u_mode (⟨by decide, by decide⟩)) ?_
                 intro w33 hn
                 refine endL ?_
                 try simp only [Act.put, sA, sB, sC]
                 refine blockN ?_
                 refine endV rfl rfl ?_
                 exact OutV.ok (hr.trans (Tr.run_done _ _)) hn
               · refine oB 61 (egI _ _ _ _ _) (bRem4 (hn.at_.ms.y.1) g30) ?_
                 have hr := hr.trans (run_if_neg (by simp [g30, g29, g23, g15, g12, g9, g6, g3]))
                 have hr := hr.trans (run_if_pos g30)
                 refine oI 62 (pT 1 0) (.int .i64 (3)) (pT 1 3) (idx4_3 _) <| oL 63 (ldI (hn.at_.tabs.modes.2.2.2)) <| oN 64 p 0 <| oF 65 (fM0 p) <| oF 66 (fR19 p) ?_
                 refine sSetN hn 19 (.int .i64 (2)) (s.u_mode (2)) rfl rfl rfl (by kernel_rfl) (by kernel_rfl) (stI (hn.at_.cell 19 _ fun _ _ _ => rfl) (hn.at_.frozen 19)) (mu_mode _ _) (hn.at_.ms.u_mode (⟨by decide, by decide⟩)) ?_
                 intro w34 hn
                 refine endL ?_
                 try simp only [Act.put, sA, sB, sC]
                 refine blockN ?_
                 refine endV rfl rfl ?_
                 exact OutV.ok (hr.trans (Tr.run_done _ _)) hn
             · have g29 : ¬ s.z = 6 := by simpa using h29
               have hr := hr.trans (run_if_neg g29)
               refine coStart <| nQ hn <| nIf hr (fun g36 hr => ?_) fun g36 hr => ?_
               · exact coZ <| nR 1 hn <| nVt (m_special hn.at_) hn hr <| fun s37 xs37 w37 hn hr => woE <| eoB <| eoV (OutV.ok (dN hr) hn)
               exact coSkip <| eoB <| eoV (OutV.ok (dN hr) hn)
def OutF (w0 : World) (p B : Nat) (vals : Array Value) : Except Cy (Ms × List Int) → Ending → World → Prop
  | .ok (s, ys), e, w' => e = .returned (.agg vals) ∧ NowN w0 p B s ys w'
  | .error c, e, w' => e = .panicked [{ v := .iface 29 (cyV c), recovered := false }] ∧ BesC p c w0 w'
theorem OutF.ok {w0 w : World} {p B : Nat} {vals : Array Value} {X : Except Cy (Ms × List Int)} {s : Ms} {ys : List Int} (h : X = .ok (s, ys)) (hn : NowN w0 p B s ys w) : OutF w0 p B vals X (.returned (.agg vals)) w := by
  subst h
  exact ⟨rfl, hn⟩
theorem OutF.err {w0 w : World} {p B : Nat} {vals : Array Value} {X : Except Cy (Ms × List Int)} {c : Cy} (h : X = .error c) (hb : BesC p c w0 w) : OutF w0 p B vals X (.panicked [{ v := .iface 29 (cyV c), recovered := false }]) w := by
  subst h
  exact ⟨rfl, hb⟩
@[reducible] def zero4 : Array Value := #[.nilFunc, .nilFunc, .nilFunc, .nilFunc]
theorem info4 : (Tryz.prog.info? 132).map (·.size) = some 4 := by kernel_rfl
theorem alloc4 (w : World) : (Instr.alloc 132 true (.tuple #[])).run Tryz.prog w = .ok (pT w.heap.size 0) (w.alloc (.cells zero4 132)) := by
  simp [go_sem]
theorem heAlloc {P : Program} {a : Act} {o : Oper} {t : TypeId} {w w' : World} {V : Value} (ho : o.op = .alloc t) (h : (Instr.alloc t true (.tuple #[])).run P w = .ok V w') : (execOp a.eval o).run P w = .ok (.value V) w' := by
  unfold execOp
  simp only [ho, Sem.run_bind, h, Result.andThen_ok, Sem.run_pure]
theorem AtN.far {w : World} {p B L : Nat} {s : Ms} {xs : List Int} (h : AtN w p B s xs) (hp : L ≠ p) (hB : B ≤ L) (vs : List Value) (o : Nat) : AtN (w.setCells L o vs) p B s xs := by
  obtain ⟨⟨A, cap, hc, hr, hby⟩, hl, h8, hm, ht⟩ := h
  have k : ∀ b, b < B → (w.setCells L o vs).heap[b]? = w.heap[b]? := fun b hlt => heap_setCells L b (by omega) _ _ _
  exact ⟨⟨A, cap, hc, hr.setFar (Ne.symm hp) vs o, hby.keep k⟩, hl, h8, hm, ht.keep k⟩
theorem NowN.far {w0 w : World} {p B L : Nat} {s : Ms} {xs : List Int} (h : NowN w0 p B s xs w) (hp : L ≠ p) (hB : B ≤ L) (h0 : w0.heap.size ≤ L) (vs : List Value) (o : Nat) : NowN w0 p B s xs (w.setCells L o vs) :=
  ⟨h.at_.far hp hB vs o, h.bes.setCells (.inr (.inr h0)) _ _⟩
theorem NowN.base {w w0 w' : World} {p B : Nat} {s : Ms} {xs : List Int} (h : NowN w0 p B s xs w') (k : Besides p p w w0) : NowN w p B s xs w' := ⟨h.at_, k.trans h.bes⟩
theorem heFunc {P : Program} {a : Act} {o : Oper} {fn : Fn} {first cap : Array Operand} {fv cv : Array Value} (ho : o.op = .makeFunc fn first cap) (hf : first.map a.eval = fv) (hc : cap.map a.eval = cv) (w : World) : (execOp a.eval o).run P w = .ok (.value (.func fn fv cv)) w := by
  unfold execOp
  simp only [ho, hf, hc, Sem.run_bind, Sem.run_pure]
  rfl
end Go.Proofs.YtkenebbjodcbcaaGreatDoor
