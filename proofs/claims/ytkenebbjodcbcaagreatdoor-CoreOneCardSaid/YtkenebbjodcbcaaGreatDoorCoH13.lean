/- Contracts and facts that the claim's proof wants (several texts in one). -/
import Derived.Test.YtkenebbjodcbcaaGreatDoorCoH12
namespace Go.Proofs.YtkenebbjodcbcaaGreatDoor
open Go.RowKit
set_option linter.unusedVariables false
set_option linter.unusedSimpArgs false
set_option maxRecDepth 20000
set_option maxHeartbeats 20000000
theorem QOn  {s:Ms} {xs:List Int} {w:World} {p B:Nat}(h:AtN w p B s xs) :
 Calls Tryz.prog 196 #[pT p 0] w (OutV w p B ((qo s).run xs)):=by
 have hn:=NowN.begin h
 have hr:(qo s).run xs=(qo s).run xs:=rfl
 go_enter Tryz.func196,Tryz.ntmps196
 refine JB<|have b2:=hn.at_.ms.r.bc;coR<|nR 6 hn<|nI (QR7 s.r.bc (b2) hn.at_) hn hr<|fun v3 s3 xs3 w3 hk3 hn hr=>nE hn<|have b5:=hn.at_.ms.r.bc;nQs hn (.u_wz _ ((s3.r.bc+1)%65536)) (hn.at_.ms.u_wz (Wd16.mod _))<|fun w6 hn=>coR<|nR 2 hn<|nB (ZO v3 (hk3).1 (hk3).2 _) hn<|fun w8 hn=>nR 1 hn<|nA (QGy hn.at_) hn<|fun w9 hn=>kBj 25 (.int .u8 (Jn v3)) (.int .u8 ((s3.u_wz ((s3.r.bc+1)%65536)).carry)) (.int .u8 (JQ (Jn v3) 0 (isM (s3.u_wz ((s3.r.bc+1)%65536)).f 0))) (eg8 _ _ _ _ _) (QQU _ _)<|nA (Zh (JQ (Jn v3) 0 (isM (s3.u_wz ((s3.r.bc+1)%65536)).f 0)) (B8.with (Jz _) _ _) hn.at_) hn<|fun w10 hn=>wT<|nQ hn<|coI ((((s3.u_wz ((s3.r.bc+1)%65536)).setF (JQ (Jn v3) 0 (isM (s3.u_wz ((s3.r.bc+1)%65536)).f 0))).y) != 6) (fun h12=>?_) fun h12=>?_
 · have g12:¬(((s3.u_wz ((s3.r.bc+1)%65536)).setF (JQ (Jn v3) 0 (isM (s3.u_wz ((s3.r.bc+1)%65536)).f 0))).y)=6:=by simpa using h12
   exact have hr:=hr.trans (JG g12);coZ<|nR 6 hn<|nVt (zx (((s3.u_wz ((s3.r.bc+1)%65536)).setF (JQ (Jn v3) 0 (isM (s3.u_wz ((s3.r.bc+1)%65536)).f 0))).y) v3 (hk3) hn.at_) hn hr<|fun s13 xs13 w13 hn hr=>woE<|eoV (OutV.ok (dN hr) hn)
 have g12:(((s3.u_wz ((s3.r.bc+1)%65536)).setF (JQ (Jn v3) 0 (isM (s3.u_wz ((s3.r.bc+1)%65536)).f 0))).y)=6:=by simpa using h12
 exact have hr:=hr.trans (JK g12);JC<|eoV (OutV.ok (dN hr) hn)
theorem QM0  {s:Ms} {xs:List Int} {w:World} {p B:Nat}(h:AtN w p B s xs) :
 Calls Tryz.prog 197 #[pT p 0] w (OutV w p B ((jh s).run xs)):=by
 have hn:=NowN.begin h
 have hr:(jh s).run xs=(jh s).run xs:=rfl
 go_enter Tryz.func197,Tryz.ntmps197
 refine JB<|nQ hn<|coS<|nQ hn<|coI (s.y != 6) (fun h4=>?_) fun h4=>?_
 · have g4:¬s.y=6:=by simpa using h4
   exact have hr:=hr.trans (qh g4);coZ<|nR 5 hn<|nI (QDT s.y hn.at_) hn hr<|fun v5 s5 xs5 w5 hk5 hn hr=>nE hn<|have b7:=hn.at_.ms.r.bc;coR<|nR 7 hn<|nV (QLE s5.r.bc (b7) v5 (hk5) hn.at_) hn hr<|fun s8 xs8 w8 hn hr=>wT<|have b9:=hn.at_.ms.r.bc;coZ<|nFs hn (.u_wz _ ((s8.r.bc+1)%65536)) (hn.at_.ms.u_wz (Wd16.mod _))<|fun w10 hn=>eoV (OutV.ok (dN hr) hn)
 have g4:s.y=6:=by simpa using h4
 exact have hr:=hr.trans (qj g4);JC<|eoT<|have b12:=hn.at_.ms.r.bc;coR<|nR 7 hn<|nV (QLE s.r.bc (b12) 0 (⟨by decide,by decide⟩) hn.at_) hn hr<|fun s13 xs13 w13 hn hr=>wT<|have b14:=hn.at_.ms.r.bc;coZ<|nFs hn (.u_wz _ ((s13.r.bc+1)%65536)) (hn.at_.ms.u_wz (Wd16.mod _))<|fun w15 hn=>eoV (OutV.ok (dN hr) hn)
theorem QHa  {s:Ms} {xs:List Int} {w:World} {p B:Nat}(h:AtN w p B s xs) :
 Calls Tryz.prog 198 #[pT p 0] w (OutV w p B ((X6 s).run xs)):=by
 have hn:=NowN.begin h
 have hr:(X6 s).run xs=(X6 s).run xs:=rfl
 go_enter Tryz.func198,Tryz.ntmps198
 refine wp_seq_k fun K1 hK1=>JD<|oM 3 (pT p 0) ?_
 refine ZE hn rfl (by kernel_rfl) (QK 7 hn.at_) (fun _ _ hX hb=>jo (Qv rfl (OutV.err (hr.trans (Tr.run_bind_error hX _)) hb))) ?_
 intro s2 xs2 w2 hX hn
 have hr:=hr.trans (Tr.run_bind_ok hX _)
 refine JS ?_
 try simp only[Act.put,sA,sB,sC]
 refine JM<|hK1 _ _<|wp_seq_k fun K3 hK3=>JD<|oM 5 (pT p 0)<|oM 6 (pT p 0)<|oN 7 p 0<|oF 8 (fM0 p)<|oF 9 (fR3 p) ?_
 have b4:=hn.at_.ms.r.hl
 refine oL 10 (QMM (hn.at_.cell 3 (.int .u16 (s2.r.hl)) fun _ _ _=>rfl))<|oB 11 (eg16 _ _ _ _ _) (QTE s2.r.hl 1)<|oN 12 p 0<|oF 13 (fM0 p)<|oF 14 (fR12 p) ?_
 refine zy hn 12 (.int .u16 ((s2.r.hl+1)%65536)) (s2.u_wz ((s2.r.hl+1)%65536)) rfl rfl rfl (by kernel_rfl) (by kernel_rfl) (QMV (hn.at_.cell 12 _ fun _ _ _=>rfl) (hn.at_.frozen 12)) (QTg _ _) (hn.at_.ms.u_wz (Wd16.mod _)) ?_
 intro w5 hn
 refine JS ?_
 try simp only[Act.put,sA,sB,sC]
 refine JM<|hK3 _ _<|wp_seq_k fun K6 hK6=>JD<|oA 2 (.int .u8 (0)) ?_
 refine JS ?_
 try simp only[Act.put,sA,sB,sC]
 refine JM<|hK6 _ _<|wp_seq_k fun K7 hK7=>wp_seq_k fun K8 hK8=>JD<|oM 15 (pT p 0)<|oN 16 p 0<|oF 17 (fM7 p)<|oL 18 (ldI (hn.at_.cell 26 (.int .i64 ((s2.u_wz ((s2.r.hl+1)%65536)).q)) fun _ _ _=>rfl))<|oB 19 (egI _ _ _ _ _) (ZP ((s2.u_wz ((s2.r.hl+1)%65536)).q) 0) ?_
 refine JS ?_
 try simp only[Act.put,sA,sB,sC]
 refine JM<|hK8 _ _ ?_
 refine wp_cond_split (t:=((s2.u_wz ((s2.r.hl+1)%65536)).q)==0) (by kernel_rfl) (fun h9=>?_) (fun h9=>?_)
 · skip
   have g9:((s2.u_wz ((s2.r.hl+1)%65536)).q)=0:=by simpa using h9
   have hr:=hr.trans (JK g9)
   refine QEz 17 18 (fun w'=>NowN w p B (s2.u_wz ((s2.r.hl+1)%65536)) xs2 w') (by kernel_rfl) (by kernel_rfl) hn.drew ?_
   intro w10 _ hS
   have hn:=hS
   refine QC (i:=0) 21 (pT p 0) rfl rfl (by kernel_rfl) (by kernel_rfl) (by kernel_rfl) (by kernel_rfl) (by kernel_rfl) (fun _ _ _ h=>h) (by kernel_rfl) (fun w hS=>XZ (.inl rfl) (by kernel_rfl) w) hS ?_
   refine QC (i:=1) 22 (pT p 0) rfl rfl (by kernel_rfl) (by kernel_rfl) (by kernel_rfl) (by kernel_rfl) (by kernel_rfl) (fun _ _ _ h=>h) (by kernel_rfl) (fun w hS=>XZ (.inl rfl) (by kernel_rfl) w) hS ?_
   refine QC (i:=2) 23 (pT p 0) rfl rfl (by kernel_rfl) (by kernel_rfl) (by kernel_rfl) (by kernel_rfl) (by kernel_rfl) (fun _ _ _ h=>h) (by kernel_rfl) (fun w hS=>QCC (ad:=⟨p,0,none⟩) rfl (by kernel_rfl) w) hS ?_
   refine QC (i:=3) 24 (pT p 0) rfl rfl (by kernel_rfl) (by kernel_rfl) (by kernel_rfl) (by kernel_rfl) (by kernel_rfl) (fun _ _ _ h=>h) (by kernel_rfl) (fun w hS=>ZL (V:=pT p 0) (R:=pT p 0) rfl (by kernel_rfl) (fM0 p) w) hS ?_
   refine QC (i:=4) 25 (pT p 3) rfl rfl (by kernel_rfl) (by kernel_rfl) (by kernel_rfl) (by kernel_rfl) (by kernel_rfl) (fun _ _ _ h=>h) (by kernel_rfl) (fun w hS=>ZL (V:=pT p 0) (R:=pT p 3) rfl (by kernel_rfl) (fR3 p) w) hS ?_
   have b11:=hn.at_.ms.r.hl
   refine QC (i:=5) 26 (.int .u16 ((s2.u_wz ((s2.r.hl+1)%65536)).r.hl)) rfl rfl (by kernel_rfl) (by kernel_rfl) (by kernel_rfl) (by kernel_rfl) (by kernel_rfl) (fun _ _ _ h=>h) (by kernel_rfl) (fun w hS=>jC rfl (by kernel_rfl) (QMM (hS.at_.cell 3 (.int .u16 ((s2.u_wz ((s2.r.hl+1)%65536)).r.hl)) fun _ _ _=>rfl))) hS ?_
   refine QC (i:=6) 27 (pT p 0) rfl rfl (by kernel_rfl) (by kernel_rfl) (by kernel_rfl) (by kernel_rfl) (by kernel_rfl) (fun _ _ _ h=>h) (by kernel_rfl) (fun w hS=>XZ (.inl rfl) (by kernel_rfl) w) hS ?_
   refine QC (i:=8) 29 (pT p 0) rfl rfl (by kernel_rfl) (by kernel_rfl) (by kernel_rfl) (by kernel_rfl) (by kernel_rfl) (fun _ _ _ h=>h) (by kernel_rfl) (fun w hS=>XZ (.inl rfl) (by kernel_rfl) w) hS ?_
   have b12:=Xi hn.at_.ms
   refine QF1 (i:=7) (.int .u16 ((s2.u_wz ((s2.r.hl+1)%65536)).pair)) rfl (by kernel_rfl) (by kernel_rfl) (by kernel_rfl) (by kernel_rfl) (qJ  hn.at_) (fun w' hk=>hS.after hk) ?_
   intro w13 hk
   have hn:=hn.after hk
   have hS:=hn
   have b14:=Ql hn.at_.ms
   refine QF1 (i:=9) (.int .u8 ((s2.u_wz ((s2.r.hl+1)%65536)).f)) rfl (by kernel_rfl) (by kernel_rfl) (by kernel_rfl) (by kernel_rfl) (m_f  hn.at_) (fun w' hk=>hS.after hk) ?_
   intro w15 hk
   have hn:=hn.after hk
   have hS:=hn
   refine QF1 (i:=10) (.tuple #[.int .u16 (jr ((s2.u_wz ((s2.r.hl+1)%65536)).r.hl) ((s2.u_wz ((s2.r.hl+1)%65536)).pair) (isM ((s2.u_wz ((s2.r.hl+1)%65536)).f) 0)),.int .u8 (QAB ((s2.u_wz ((s2.r.hl+1)%65536)).r.hl) ((s2.u_wz ((s2.r.hl+1)%65536)).pair) (isM ((s2.u_wz ((s2.r.hl+1)%65536)).f) 0))]) rfl (by kernel_rfl) (by kernel_rfl) (by kernel_rfl) (by kernel_rfl) (QPI ((s2.u_wz ((s2.r.hl+1)%65536)).r.hl) ((s2.u_wz ((s2.r.hl+1)%65536)).pair) ((s2.u_wz ((s2.r.hl+1)%65536)).f) (b11) (b12) (b14) _) (fun w' hb=>hS.below hb) ?_
   intro w16 hb
   have hn:=hn.below hb
   have hS:=hn
   refine QC (i:=11) 20 (.tuple #[.int .u16 (jr ((s2.u_wz ((s2.r.hl+1)%65536)).r.hl) ((s2.u_wz ((s2.r.hl+1)%65536)).pair) (isM ((s2.u_wz ((s2.r.hl+1)%65536)).f) 0)),.int .u8 (QAB ((s2.u_wz ((s2.r.hl+1)%65536)).r.hl) ((s2.u_wz ((s2.r.hl+1)%65536)).pair) (isM ((s2.u_wz ((s2.r.hl+1)%65536)).f) 0))]) rfl rfl (by kernel_rfl) (by kernel_rfl) (by kernel_rfl) (by kernel_rfl) (by kernel_rfl) (fun _ _ _ h=>h) (by kernel_rfl) (fun w hS=>XZ (.inl rfl) (by kernel_rfl) w) hS ?_
   refine QC (i:=12) 32 (.int .u16 (jr ((s2.u_wz ((s2.r.hl+1)%65536)).r.hl) ((s2.u_wz ((s2.r.hl+1)%65536)).pair) (isM ((s2.u_wz ((s2.r.hl+1)%65536)).f) 0))) rfl rfl (by kernel_rfl) (by kernel_rfl) (by kernel_rfl) (by kernel_rfl) (by kernel_rfl) (fun _ _ _ h=>h) (by kernel_rfl) (fun w hS=>XB (vs:=#[.int .u16 (jr ((s2.u_wz ((s2.r.hl+1)%65536)).r.hl) ((s2.u_wz ((s2.r.hl+1)%65536)).pair) (isM ((s2.u_wz ((s2.r.hl+1)%65536)).f) 0)),.int .u8 (QAB ((s2.u_wz ((s2.r.hl+1)%65536)).r.hl) ((s2.u_wz ((s2.r.hl+1)%65536)).pair) (isM ((s2.u_wz ((s2.r.hl+1)%65536)).f) 0))]) rfl (by kernel_rfl) (by kernel_rfl) w) hS ?_
   refine j9 (i:=13) 33 (.int .u8 (QAB ((s2.u_wz ((s2.r.hl+1)%65536)).r.hl) ((s2.u_wz ((s2.r.hl+1)%65536)).pair) (isM ((s2.u_wz ((s2.r.hl+1)%65536)).f) 0))) rfl rfl (by kernel_rfl) (by kernel_rfl) (by kernel_rfl) (by kernel_rfl) (by kernel_rfl) (fun _ _ _ h=>h) (by kernel_rfl) (fun w=>XB (vs:=#[.int .u16 (jr ((s2.u_wz ((s2.r.hl+1)%65536)).r.hl) ((s2.u_wz ((s2.r.hl+1)%65536)).pair) (isM ((s2.u_wz ((s2.r.hl+1)%65536)).f) 0)),.int .u8 (QAB ((s2.u_wz ((s2.r.hl+1)%65536)).r.hl) ((s2.u_wz ((s2.r.hl+1)%65536)).pair) (isM ((s2.u_wz ((s2.r.hl+1)%65536)).f) 0))]) rfl (by kernel_rfl) (by kernel_rfl) w) (fun _=>hS) ?_
   refine j9 (i:=14) 34 (pT p 0) rfl rfl (by kernel_rfl) (by kernel_rfl) (by kernel_rfl) (by kernel_rfl) (by kernel_rfl) (fun _ _ _ h=>h) (by kernel_rfl) (fun w=>QCC (ad:=⟨p,0,none⟩) rfl (by kernel_rfl) w) (fun _=>hS) ?_
   refine j9 (i:=15) 35 (pT p 0) rfl rfl (by kernel_rfl) (by kernel_rfl) (by kernel_rfl) (by kernel_rfl) (by kernel_rfl) (fun _ _ _ h=>h) (by kernel_rfl) (fun w=>ZL (V:=pT p 0) (R:=pT p 0) rfl (by kernel_rfl) (fM0 p) w) (fun _=>hS) ?_
   refine QC (i:=16) 36 (pT p 3) rfl rfl (by kernel_rfl) (by kernel_rfl) (by kernel_rfl) (by kernel_rfl) (by kernel_rfl) (fun _ _ _ h=>h) (by kernel_rfl) (fun w hS=>ZL (V:=pT p 0) (R:=pT p 3) rfl (by kernel_rfl) (fR3 p) w) hS ?_
   refine QLe rfl rfl (by kernel_rfl) (by kernel_rfl) (by kernel_rfl) (Qy (ad:=⟨p,3,none⟩) (V:=.int .u16 (jr ((s2.u_wz ((s2.r.hl+1)%65536)).r.hl) ((s2.u_wz ((s2.r.hl+1)%65536)).pair) (isM ((s2.u_wz ((s2.r.hl+1)%65536)).f) 0))) rfl (by kernel_rfl) (by kernel_rfl) (QMV (hn.at_.cell 3 _ fun _ _ _=>rfl) (hn.at_.frozen 3))) ?_
   have hn:=hn.set 3 (.int .u16 (jr ((s2.u_wz ((s2.r.hl+1)%65536)).r.hl) ((s2.u_wz ((s2.r.hl+1)%65536)).pair) (isM ((s2.u_wz ((s2.r.hl+1)%65536)).f) 0))) ((s2.u_wz ((s2.r.hl+1)%65536)).u_hl (jr ((s2.u_wz ((s2.r.hl+1)%65536)).r.hl) ((s2.u_wz ((s2.r.hl+1)%65536)).pair) (isM ((s2.u_wz ((s2.r.hl+1)%65536)).f) 0))) (QNi _ _) (hn.at_.ms.u_hl (Wd16.mod _))
   refine QII (by kernel_rfl) ?_
   simp only[List.drop_succ_cons,List.drop_zero]
   try simp only[Act.put,sA,sB,sC]
   refine oA 2 (.int .u8 (QAB ((s2.u_wz ((s2.r.hl+1)%65536)).r.hl) ((s2.u_wz ((s2.r.hl+1)%65536)).pair) (isM ((s2.u_wz ((s2.r.hl+1)%65536)).f) 0))) ?_
   refine JS ?_
   try simp only[Act.put,sA,sB,sC]
   refine JM<|hK7 _ _<|JD<|oM 54 (pT p 0)<|oM 55 (.int .u8 (QAB ((s2.u_wz ((s2.r.hl+1)%65536)).r.hl) ((s2.u_wz ((s2.r.hl+1)%65536)).pair) (isM ((s2.u_wz ((s2.r.hl+1)%65536)).f) 0)))<|oC (.tuple #[]) (Zh (QAB ((s2.u_wz ((s2.r.hl+1)%65536)).r.hl) ((s2.u_wz ((s2.r.hl+1)%65536)).pair) (isM ((s2.u_wz ((s2.r.hl+1)%65536)).f) 0)) (QGH _ _ _) hn.at_) ?_
   intro w17 hk
   have hn:=hn.after hk
   refine JS ?_
   try simp only[Act.put,sA,sB,sC]
   refine X8 rfl rfl ?_
   exact OutV.ok (hr.trans (Tr.run_done _ _)) hn
 · skip
   have g9:¬((s2.u_wz ((s2.r.hl+1)%65536)).q)=0:=by simpa using h9
   have hr:=hr.trans (JG g9)
   refine QEz 17 18 (fun w'=>NowN w p B (s2.u_wz ((s2.r.hl+1)%65536)) xs2 w') (by kernel_rfl) (by kernel_rfl) hn.drew ?_
   intro w18 _ hS
   have hn:=hS
   refine QC (i:=0) 38 (pT p 0) rfl rfl (by kernel_rfl) (by kernel_rfl) (by kernel_rfl) (by kernel_rfl) (by kernel_rfl) (fun _ _ _ h=>h) (by kernel_rfl) (fun w hS=>XZ (.inl rfl) (by kernel_rfl) w) hS ?_
   refine QC (i:=1) 39 (pT p 0) rfl rfl (by kernel_rfl) (by kernel_rfl) (by kernel_rfl) (by kernel_rfl) (by kernel_rfl) (fun _ _ _ h=>h) (by kernel_rfl) (fun w hS=>XZ (.inl rfl) (by kernel_rfl) w) hS ?_
   refine QC (i:=2) 40 (pT p 0) rfl rfl (by kernel_rfl) (by kernel_rfl) (by kernel_rfl) (by kernel_rfl) (by kernel_rfl) (fun _ _ _ h=>h) (by kernel_rfl) (fun w hS=>QCC (ad:=⟨p,0,none⟩) rfl (by kernel_rfl) w) hS ?_
   refine QC (i:=3) 41 (pT p 0) rfl rfl (by kernel_rfl) (by kernel_rfl) (by kernel_rfl) (by kernel_rfl) (by kernel_rfl) (fun _ _ _ h=>h) (by kernel_rfl) (fun w hS=>ZL (V:=pT p 0) (R:=pT p 0) rfl (by kernel_rfl) (fM0 p) w) hS ?_
   refine QC (i:=4) 42 (pT p 3) rfl rfl (by kernel_rfl) (by kernel_rfl) (by kernel_rfl) (by kernel_rfl) (by kernel_rfl) (fun _ _ _ h=>h) (by kernel_rfl) (fun w hS=>ZL (V:=pT p 0) (R:=pT p 3) rfl (by kernel_rfl) (fR3 p) w) hS ?_
   have b19:=hn.at_.ms.r.hl
   refine QC (i:=5) 43 (.int .u16 ((s2.u_wz ((s2.r.hl+1)%65536)).r.hl)) rfl rfl (by kernel_rfl) (by kernel_rfl) (by kernel_rfl) (by kernel_rfl) (by kernel_rfl) (fun _ _ _ h=>h) (by kernel_rfl) (fun w hS=>jC rfl (by kernel_rfl) (QMM (hS.at_.cell 3 (.int .u16 ((s2.u_wz ((s2.r.hl+1)%65536)).r.hl)) fun _ _ _=>rfl))) hS ?_
   refine QC (i:=6) 44 (pT p 0) rfl rfl (by kernel_rfl) (by kernel_rfl) (by kernel_rfl) (by kernel_rfl) (by kernel_rfl) (fun _ _ _ h=>h) (by kernel_rfl) (fun w hS=>XZ (.inl rfl) (by kernel_rfl) w) hS ?_
   refine QC (i:=8) 46 (pT p 0) rfl rfl (by kernel_rfl) (by kernel_rfl) (by kernel_rfl) (by kernel_rfl) (by kernel_rfl) (fun _ _ _ h=>h) (by kernel_rfl) (fun w hS=>XZ (.inl rfl) (by kernel_rfl) w) hS ?_
   have b20:=Xi hn.at_.ms
   refine QF1 (i:=7) (.int .u16 ((s2.u_wz ((s2.r.hl+1)%65536)).pair)) rfl (by kernel_rfl) (by kernel_rfl) (by kernel_rfl) (by kernel_rfl) (qJ  hn.at_) (fun w' hk=>hS.after hk) ?_
   intro w21 hk
   have hn:=hn.after hk
   have hS:=hn
   have b22:=Ql hn.at_.ms
   refine QF1 (i:=9) (.int .u8 ((s2.u_wz ((s2.r.hl+1)%65536)).f)) rfl (by kernel_rfl) (by kernel_rfl) (by kernel_rfl) (by kernel_rfl) (m_f  hn.at_) (fun w' hk=>hS.after hk) ?_
   intro w23 hk
   have hn:=hn.after hk
   have hS:=hn
   refine QF1 (i:=10) (.tuple #[.int .u16 (X0 ((s2.u_wz ((s2.r.hl+1)%65536)).r.hl) ((s2.u_wz ((s2.r.hl+1)%65536)).pair) (isM ((s2.u_wz ((s2.r.hl+1)%65536)).f) 0)),.int .u8 (zZ ((s2.u_wz ((s2.r.hl+1)%65536)).r.hl) ((s2.u_wz ((s2.r.hl+1)%65536)).pair) (isM ((s2.u_wz ((s2.r.hl+1)%65536)).f) 0))]) rfl (by kernel_rfl) (by kernel_rfl) (by kernel_rfl) (by kernel_rfl) (QNh ((s2.u_wz ((s2.r.hl+1)%65536)).r.hl) ((s2.u_wz ((s2.r.hl+1)%65536)).pair) ((s2.u_wz ((s2.r.hl+1)%65536)).f) (b19) (b20) (b22) _) (fun w' hb=>hS.below hb) ?_
   intro w24 hb
   have hn:=hn.below hb
   have hS:=hn
   refine QC (i:=11) 37 (.tuple #[.int .u16 (X0 ((s2.u_wz ((s2.r.hl+1)%65536)).r.hl) ((s2.u_wz ((s2.r.hl+1)%65536)).pair) (isM ((s2.u_wz ((s2.r.hl+1)%65536)).f) 0)),.int .u8 (zZ ((s2.u_wz ((s2.r.hl+1)%65536)).r.hl) ((s2.u_wz ((s2.r.hl+1)%65536)).pair) (isM ((s2.u_wz ((s2.r.hl+1)%65536)).f) 0))]) rfl rfl (by kernel_rfl) (by kernel_rfl) (by kernel_rfl) (by kernel_rfl) (by kernel_rfl) (fun _ _ _ h=>h) (by kernel_rfl) (fun w hS=>XZ (.inl rfl) (by kernel_rfl) w) hS ?_
   refine QC (i:=12) 49 (.int .u16 (X0 ((s2.u_wz ((s2.r.hl+1)%65536)).r.hl) ((s2.u_wz ((s2.r.hl+1)%65536)).pair) (isM ((s2.u_wz ((s2.r.hl+1)%65536)).f) 0))) rfl rfl (by kernel_rfl) (by kernel_rfl) (by kernel_rfl) (by kernel_rfl) (by kernel_rfl) (fun _ _ _ h=>h) (by kernel_rfl) (fun w hS=>XB (vs:=#[.int .u16 (X0 ((s2.u_wz ((s2.r.hl+1)%65536)).r.hl) ((s2.u_wz ((s2.r.hl+1)%65536)).pair) (isM ((s2.u_wz ((s2.r.hl+1)%65536)).f) 0)),.int .u8 (zZ ((s2.u_wz ((s2.r.hl+1)%65536)).r.hl) ((s2.u_wz ((s2.r.hl+1)%65536)).pair) (isM ((s2.u_wz ((s2.r.hl+1)%65536)).f) 0))]) rfl (by kernel_rfl) (by kernel_rfl) w) hS ?_
   refine j9 (i:=13) 50 (.int .u8 (zZ ((s2.u_wz ((s2.r.hl+1)%65536)).r.hl) ((s2.u_wz ((s2.r.hl+1)%65536)).pair) (isM ((s2.u_wz ((s2.r.hl+1)%65536)).f) 0))) rfl rfl (by kernel_rfl) (by kernel_rfl) (by kernel_rfl) (by kernel_rfl) (by kernel_rfl) (fun _ _ _ h=>h) (by kernel_rfl) (fun w=>XB (vs:=#[.int .u16 (X0 ((s2.u_wz ((s2.r.hl+1)%65536)).r.hl) ((s2.u_wz ((s2.r.hl+1)%65536)).pair) (isM ((s2.u_wz ((s2.r.hl+1)%65536)).f) 0)),.int .u8 (zZ ((s2.u_wz ((s2.r.hl+1)%65536)).r.hl) ((s2.u_wz ((s2.r.hl+1)%65536)).pair) (isM ((s2.u_wz ((s2.r.hl+1)%65536)).f) 0))]) rfl (by kernel_rfl) (by kernel_rfl) w) (fun _=>hS) ?_
   refine j9 (i:=14) 51 (pT p 0) rfl rfl (by kernel_rfl) (by kernel_rfl) (by kernel_rfl) (by kernel_rfl) (by kernel_rfl) (fun _ _ _ h=>h) (by kernel_rfl) (fun w=>QCC (ad:=⟨p,0,none⟩) rfl (by kernel_rfl) w) (fun _=>hS) ?_
   refine j9 (i:=15) 52 (pT p 0) rfl rfl (by kernel_rfl) (by kernel_rfl) (by kernel_rfl) (by kernel_rfl) (by kernel_rfl) (fun _ _ _ h=>h) (by kernel_rfl) (fun w=>ZL (V:=pT p 0) (R:=pT p 0) rfl (by kernel_rfl) (fM0 p) w) (fun _=>hS) ?_
   refine QC (i:=16) 53 (pT p 3) rfl rfl (by kernel_rfl) (by kernel_rfl) (by kernel_rfl) (by kernel_rfl) (by kernel_rfl) (fun _ _ _ h=>h) (by kernel_rfl) (fun w hS=>ZL (V:=pT p 0) (R:=pT p 3) rfl (by kernel_rfl) (fR3 p) w) hS ?_
   refine QLe rfl rfl (by kernel_rfl) (by kernel_rfl) (by kernel_rfl) (Qy (ad:=⟨p,3,none⟩) (V:=.int .u16 (X0 ((s2.u_wz ((s2.r.hl+1)%65536)).r.hl) ((s2.u_wz ((s2.r.hl+1)%65536)).pair) (isM ((s2.u_wz ((s2.r.hl+1)%65536)).f) 0))) rfl (by kernel_rfl) (by kernel_rfl) (QMV (hn.at_.cell 3 _ fun _ _ _=>rfl) (hn.at_.frozen 3))) ?_
   have hn:=hn.set 3 (.int .u16 (X0 ((s2.u_wz ((s2.r.hl+1)%65536)).r.hl) ((s2.u_wz ((s2.r.hl+1)%65536)).pair) (isM ((s2.u_wz ((s2.r.hl+1)%65536)).f) 0))) ((s2.u_wz ((s2.r.hl+1)%65536)).u_hl (X0 ((s2.u_wz ((s2.r.hl+1)%65536)).r.hl) ((s2.u_wz ((s2.r.hl+1)%65536)).pair) (isM ((s2.u_wz ((s2.r.hl+1)%65536)).f) 0))) (QNi _ _) (hn.at_.ms.u_hl (Wd16.mod _))
   refine QII (by kernel_rfl) ?_
   simp only[List.drop_succ_cons,List.drop_zero]
   try simp only[Act.put,sA,sB,sC]
   refine oA 2 (.int .u8 (zZ ((s2.u_wz ((s2.r.hl+1)%65536)).r.hl) ((s2.u_wz ((s2.r.hl+1)%65536)).pair) (isM ((s2.u_wz ((s2.r.hl+1)%65536)).f) 0))) ?_
   refine JS ?_
   try simp only[Act.put,sA,sB,sC]
   refine JM<|hK7 _ _<|JD<|oM 54 (pT p 0)<|oM 55 (.int .u8 (zZ ((s2.u_wz ((s2.r.hl+1)%65536)).r.hl) ((s2.u_wz ((s2.r.hl+1)%65536)).pair) (isM ((s2.u_wz ((s2.r.hl+1)%65536)).f) 0)))<|oC (.tuple #[]) (Zh (zZ ((s2.u_wz ((s2.r.hl+1)%65536)).r.hl) ((s2.u_wz ((s2.r.hl+1)%65536)).pair) (isM ((s2.u_wz ((s2.r.hl+1)%65536)).f) 0)) (QCb _ _ _) hn.at_) ?_
   intro w25 hk
   have hn:=hn.after hk
   refine JS ?_
   try simp only[Act.put,sA,sB,sC]
   refine X8 rfl rfl ?_
   exact OutV.ok (hr.trans (Tr.run_done _ _)) hn
theorem QFp  {s:Ms} {xs:List Int} {w:World} {p B:Nat}(h:AtN w p B s xs) :
 Calls Tryz.prog 199 #[pT p 0] w (OutV w p B ((Xp s).run xs)):=by
 have hn:=NowN.begin h
 have hr:(Xp s).run xs=(Xp s).run xs:=rfl
 go_enter Tryz.func199,Tryz.ntmps199
 refine JB<|coR<|nR 1 hn<|nI (zo hn.at_) hn hr<|fun v2 s2 xs2 w2 hk2 hn hr=>nE hn<|nQ hn<|nIf hr (fun g4 hr=>?_) fun g4 hr=>?_
 · exact have b5:=Xi hn.at_.ms;coZ<|nR 3 hn<|nA (qJ hn.at_) hn<|fun w6 hn=>nV (QCy v2 (hk2) s2.pair (b5) hn.at_) hn hr<|fun s7 xs7 w7 hn hr=>woE<|eoV (OutV.ok (dN hr) hn)
 exact coZ<|nR 3 hn<|nI (QFG v2 (hk2) hn.at_) hn hr<|fun v8 s8 xs8 w8 hk8 hn hr=>nA (q8 v8 (hk8) hn.at_) hn<|fun w9 hn=>woE<|eoV (OutV.ok (dN hr) hn)
theorem QPG (b:Int)(hAb:B8 b){s:Ms} {xs:List Int} {w:World} {p B:Nat}(h:AtN w p B s xs) :
 Calls Tryz.prog 271 #[pT p 0,.int .u8 (b)] w (fun e w'=>e=.returned (.tuple #[])∧NowN w p B (QDD b s) xs w'):=by
 have hn:=NowN.begin h
 go_enter Tryz.func271,Tryz.ntmps271
 refine JB<|coR<|nR 1 hn<|kE (jM b (hAb).1 (hAb).2 _)<|nR 1 hn<|nA (QGy hn.at_) hn<|fun w3 hn=>kBj 9 (.int .u8 (JE b)) (.int .u8 (s.carry)) (.int .u8 (JQ (JE b) 0 (isM s.f 0))) (eg8 _ _ _ _ _) (QMR _ _)<|nE hn<|coS<|nQ hn<|coI (s.r.iff2) (fun h6=>?_) fun h6=>?_
 · have g6:s.r.iff2=true:=by simpa using h6
   refine coZ<|nR 1 hn<|kBj 16 (.int .u8 (JQ (JE b) 0 (isM s.f 0))) (.int .u8 (4)) (.int .u8 (JQ (JQ (JE b) 0 (isM s.f 0)) 2 true)) (eg8 _ _ _ _ _) (bOrP _ (B8.with (J7 _) _ _))<|nE hn<|coZ<|nR 3 hn<|kE (J1 b (JQ (JQ (JE b) 0 (isM s.f 0)) 2 true) (hAb).1 (hAb).2 (B8.with (B8.with (J7 _) _ _) _ _).1 (B8.with (B8.with (J7 _) _ _) _ _).2 _)<|nFs hn (.u_af _ (256*b+(JQ (JQ (JE b) 0 (isM s.f 0)) 2 true))) (hn.at_.ms.u_af (Wd16.mk8 (hAb) (B8.with (B8.with (J7 _) _ _) _ _)))<|fun w8 hn=>eoV ?_
   have e:QDD b s=s.u_af (256*b+(JQ (JQ (JE b) 0 (isM s.f 0)) 2 true)):=by
    unfold QDD
    repeat (first|rw[if_pos (by assumption)]|rw[if_neg (by assumption)])
    rw[show s.r.iff2=true from by assumption];rfl
   exact⟨rfl,e▸hn⟩
 have g6:¬s.r.iff2=true:=by simpa using h6
 refine JC<|eoT<|coZ<|nR 3 hn<|kE (J1 b (JQ (JE b) 0 (isM s.f 0)) (hAb).1 (hAb).2 (B8.with (J7 _) _ _).1 (B8.with (J7 _) _ _).2 _)<|nFs hn (.u_af _ (256*b+(JQ (JE b) 0 (isM s.f 0)))) (hn.at_.ms.u_af (Wd16.mk8 (hAb) (B8.with (J7 _) _ _)))<|fun w10 hn=>eoV ?_
 have e:QDD b s=s.u_af (256*b+(JQ (JE b) 0 (isM s.f 0))):=by
  unfold QDD
  repeat (first|rw[if_pos (by assumption)]|rw[if_neg (by assumption)])
  rw[show s.r.iff2=false from by simpa using (by assumption:¬s.r.iff2=true),QMz];rfl
 exact⟨rfl,e▸hn⟩
theorem QCB  {s:Ms} {xs:List Int} {w:World} {p B:Nat}(h:AtN w p B s xs) :
 Calls Tryz.prog 272 #[pT p 0] w (OutV w p B ((ZJ s).run xs)):=by
 have hn:=NowN.begin h
 have hr:(ZJ s).run xs=(ZJ s).run xs:=rfl
 go_enter Tryz.func272,Tryz.ntmps272
 exact JB<|have b2:=hn.at_.ms.r.hl;coR<|nR 6 hn<|nI (qu s.r.hl (b2) hn.at_) hn hr<|fun v3 s3 xs3 w3 hk3 hn hr=>nE hn<|coR<|nR 1 hn<|nV (QK 4 hn.at_) hn hr<|fun s5 xs5 w5 hn hr=>wT<|nQ hn<|have b8:=jD hn.at_.ms;coR<|nR 2 hn<|nA (m_a hn.at_) hn<|fun w9 hn=>have b10:=Ql hn.at_.ms;nR 2 hn<|nA (m_f hn.at_) hn<|fun w11 hn=>nB (QMg (s5.y==4) s5.a v3 s5.f (b8) (hk3) (b10) _) hn<|fun w12 hn=>nE hn<|coR<|nR 3 hn<|kE (J1 (ZY (s5.y==4) s5.a v3) (jx (ZY (s5.y==4) s5.a v3) (isM s5.f 0)) (ZM _ _ _ (b8) (hk3)).1 (ZM _ _ _ (b8) (hk3)).2 (qe _ _).1 (qe _ _).2 _)<|nEs hn (.u_af _ (256*(ZY (s5.y==4) s5.a v3)+(jx (ZY (s5.y==4) s5.a v3) (isM s5.f 0)))) (hn.at_.ms.u_af (Wd16.mk8 (ZM _ _ _ (b8) (hk3)) (qe _ _)))<|fun w15 hn=>have b17:=hn.at_.ms.r.hl;coR<|nR 7 hn<|nV (Ze ((s5.u_af (256*(ZY (s5.y==4) s5.a v3)+(jx (ZY (s5.y==4) s5.a v3) (isM s5.f 0)))).r.hl) (b17) (QDf (s5.y==4) s5.a v3) (QCj _ _ _ (b8) (hk3)) hn.at_) hn hr<|fun s18 xs18 w18 hn hr=>wT<|have b19:=hn.at_.ms.r.hl;coZ<|nFs hn (.u_wz _ ((s18.r.hl+1)%65536)) (hn.at_.ms.u_wz (Wd16.mod _))<|fun w20 hn=>eoV (OutV.ok (dN hr) hn)
theorem QMW  {s:Ms} {xs:List Int} {w:World} {p B:Nat}(h:AtN w p B s xs) :
 Calls Tryz.prog 204 #[pT p 0] w (OutV w p B ((qf s).run xs)):=by
 have hn:=NowN.begin h
 have hr:(qf s).run xs=(qf s).run xs:=rfl
 go_enter Tryz.func204,Tryz.ntmps204
 refine JB<|nQ hn<|coB<|nQ hn<|nIf hr (fun g3 hr=>?_) fun g3 hr=>?_
 · exact coR<|nR 1 hn<|nV (QK 1 hn.at_) hn hr<|fun s5 xs5 w5 hn hr=>wT<|have b6:=jD hn.at_.ms;coZ<|nR 2 hn<|nA (m_a hn.at_) hn<|fun w7 hn=>nFs hn (.u_i _ (s5.a)) (hn.at_.ms.u_i (b6))<|fun w8 hn=>eoB<|eoV (OutV.ok (dN hr) hn)
 refine nQ hn<|nIf hr (fun g10 hr=>?_) fun g10 hr=>?_
 · exact coR<|nR 1 hn<|nV (QK 1 hn.at_) hn hr<|fun s12 xs12 w12 hn hr=>wT<|have b13:=jD hn.at_.ms;coZ<|nR 2 hn<|nA (m_a hn.at_) hn<|fun w14 hn=>nFs hn (.u_r _ (s12.a)) (hn.at_.ms.u_r (b13))<|fun w15 hn=>eoB<|eoV (OutV.ok (dN hr) hn)
 refine nQ hn<|nIf hr (fun g17 hr=>?_) fun g17 hr=>?_
 · exact coR<|nR 1 hn<|nV (QK 1 hn.at_) hn hr<|fun s19 xs19 w19 hn hr=>wT<|have b20:=hn.at_.ms.r.i;coZ<|nR 6 hn<|nA (QPG s19.r.i (b20) hn.at_) hn<|fun w21 hn=>woE<|eoB<|eoV (OutV.ok (dN hr) hn)
 refine nQ hn<|nIf hr (fun g23 hr=>?_) fun g23 hr=>?_
 · exact coR<|nR 1 hn<|nV (QK 1 hn.at_) hn hr<|fun s25 xs25 w25 hn hr=>wT<|have b26:=hn.at_.ms.r.r;coZ<|nR 6 hn<|nA (QPG s25.r.r (b26) hn.at_) hn<|fun w27 hn=>woE<|eoB<|eoV (OutV.ok (dN hr) hn)
 refine coS<|nQ hn<|coI (s.y==4) (fun h30=>?_) fun h30=>?_
 · have g30:s.y=4:=by simpa using h30
   exact have hr:=hr.trans (JK (.inl g30));JC<|eoT<|coJ (s.y==4) (fun h31=>absurd (h30.symm.trans h31) (by decide))<|fun h31=>coZ<|nR 1 hn<|nV (QCB hn.at_) hn hr<|fun s32 xs32 w32 hn hr=>woE<|eoB<|eoV (OutV.ok (dN hr) hn)
 have g30:¬s.y=4:=by simpa using h30
 refine coZ<|nE hn<|coI (s.y==5) (fun h33=>?_) fun h33=>?_
 · have g33:s.y=5:=by simpa using h33
   exact have hr:=hr.trans (JK (.inr g33));coZ<|nR 1 hn<|nV (QCB hn.at_) hn hr<|fun s34 xs34 w34 hn hr=>woE<|eoB<|eoV (OutV.ok (dN hr) hn)
 have g33:¬s.y=5:=by simpa using h33
 exact have hr:=hr.trans (JG (not_or.2 ⟨g30,g33⟩));JC<|eoB<|eoV (OutV.ok (dN hr) hn)
theorem QF2  {s:Ms} {xs:List Int} {w:World} {p B:Nat}(h:AtN w p B s xs) :
 Calls Tryz.prog 130 #[pT p 0] w (fun e w'=>e=.returned (.tuple #[])∧NowN w p B (s) xs w'):=by
 have hn:=NowN.begin h
 go_enter Tryz.func130,Tryz.ntmps130
 exact JB<|JC<|eoV (⟨rfl,hn⟩)
theorem QKM  {s:Ms} {xs:List Int} {w:World} {p B:Nat}(h:AtN w p B s xs) :
 Calls Tryz.prog 131 #[pT p 0] w (OutV w p B ((jL s).run xs)):=by
 have hn:=NowN.begin h
 have hr:(jL s).run xs=(jL s).run xs:=rfl
 go_enter Tryz.func131,Tryz.ntmps131
 refine wp_seq_k fun K1 hK1=>JD<|oM 4 (pT p 0)<|oN 5 p 0<|oF 6 (fM5 p)<|oL 7 (ldI (hn.at_.cell 24 (.int .i64 (s.z)) fun _ _ _=>rfl)) ?_
 refine JS ?_
 try simp only[Act.put,sA,sB,sC]
 refine JM<|hK1 _ _ ?_
 refine wp_block ?_
 refine wp_seq_k fun K2 hK2=>JD<|oB 9 (egI _ _ _ _ _) (ZP s.z 0)<|oA 8 (.bool (s.z==0)) ?_
 refine JS ?_
 try simp only[Act.put,sA,sB,sC]
 refine JM<|hK2 _ _ ?_
 refine wp_cond_split (t:=s.z==0) (by kernel_rfl) (fun h3=>?_) (fun h3=>?_)
 · have g3:s.z=0:=by simpa using h3
   have hr:=hr.trans (JK g3)
   exact JB<|coZ<|nR 1 hn<|nVt (QOn hn.at_) hn hr<|fun s4 xs4 w4 hn hr=>woE<|eoB<|eoV (OutV.ok (dN hr) hn)
 · have g3:¬s.z=0:=by simpa using h3
   have hr:=hr.trans (JG g3)
   refine wp_seq_k fun K5 hK5=>JD<|oB 13 (egI _ _ _ _ _) (ZP s.z 1)<|oA 12 (.bool (s.z==1)) ?_
   refine JS ?_
   try simp only[Act.put,sA,sB,sC]
   refine JM<|hK5 _ _ ?_
   refine wp_cond_split (t:=s.z==1) (by kernel_rfl) (fun h6=>?_) (fun h6=>?_)
   · have g6:s.z=1:=by simpa using h6
     have hr:=hr.trans (JK g6)
     exact JB<|coZ<|nR 1 hn<|nVt (QM0 hn.at_) hn hr<|fun s7 xs7 w7 hn hr=>woE<|eoB<|eoV (OutV.ok (dN hr) hn)
   · have g6:¬s.z=1:=by simpa using h6
     have hr:=hr.trans (JG g6)
     refine wp_seq_k fun K8 hK8=>JD<|oB 17 (egI _ _ _ _ _) (ZP s.z 2)<|oA 16 (.bool (s.z==2)) ?_
     refine JS ?_
     try simp only[Act.put,sA,sB,sC]
     refine JM<|hK8 _ _ ?_
     refine wp_cond_split (t:=s.z==2) (by kernel_rfl) (fun h9=>?_) (fun h9=>?_)
     · have g9:s.z=2:=by simpa using h9
       have hr:=hr.trans (JK g9)
       exact JB<|coZ<|nR 1 hn<|nVt (QHa hn.at_) hn hr<|fun s10 xs10 w10 hn hr=>woE<|eoB<|eoV (OutV.ok (dN hr) hn)
     · have g9:¬s.z=2:=by simpa using h9
       have hr:=hr.trans (JG g9)
       refine wp_seq_k fun K11 hK11=>JD<|oB 21 (egI _ _ _ _ _) (ZP s.z 3)<|oA 20 (.bool (s.z==3)) ?_
       refine JS ?_
       try simp only[Act.put,sA,sB,sC]
       refine JM<|hK11 _ _ ?_
       refine wp_cond_split (t:=s.z==3) (by kernel_rfl) (fun h12=>?_) (fun h12=>?_)
       · have g12:s.z=3:=by simpa using h12
         have hr:=hr.trans (JK g12)
         exact JB<|coZ<|nR 1 hn<|nVt (QFp hn.at_) hn hr<|fun s13 xs13 w13 hn hr=>woE<|eoB<|eoV (OutV.ok (dN hr) hn)
       · have g12:¬s.z=3:=by simpa using h12
         have hr:=hr.trans (JG g12)
         refine wp_seq_k fun K14 hK14=>JD<|oB 25 (egI _ _ _ _ _) (ZP s.z 4)<|oA 24 (.bool (s.z==4)) ?_
         refine JS ?_
         try simp only[Act.put,sA,sB,sC]
         refine JM<|hK14 _ _ ?_
         refine wp_cond_split (t:=s.z==4) (by kernel_rfl) (fun h15=>?_) (fun h15=>?_)
         · have g15:s.z=4:=by simpa using h15
           have hr:=hr.trans (JK g15)
           exact JB<|have b17:=jD hn.at_.ms;coR<|nR 1 hn<|nA (m_a hn.at_) hn<|fun w18 hn=>nB (QQ2 s.a (b17) _) hn<|fun w19 hn=>nE hn<|coZ<|nR 3 hn<|kE (J1 (QQ 0 s.a false) (QE 0 s.a false) (J5 _ _ _).1 (J5 _ _ _).2 (J9 _ _ _).1 (J9 _ _ _).2 _)<|nFs hn (.u_af _ (256*(QQ 0 s.a false)+(QE 0 s.a false))) (hn.at_.ms.u_af (Wd16.mk8 (J5 _ _ _) (J9 _ _ _)))<|fun w21 hn=>eoB<|eoV (OutV.ok (dN hr) hn)
         · have g15:¬s.z=4:=by simpa using h15
           have hr:=hr.trans (JG g15)
           refine wp_seq_k fun K22 hK22=>JD<|oB 40 (egI _ _ _ _ _) (ZP s.z 5)<|oA 39 (.bool (s.z==5)) ?_
           refine JS ?_
           try simp only[Act.put,sA,sB,sC]
           refine JM<|hK22 _ _ ?_
           refine wp_cond_split (t:=s.z==5) (by kernel_rfl) (fun h23=>?_) (fun h23=>?_)
           · have g23:s.z=5:=by simpa using h23
             have hr:=hr.trans (JK g23)
             exact JB<|coR<|nR 2 hn<|nI (QJZ hn.at_) hn hr<|fun v25 s25 xs25 w25 hk25 hn hr=>nA (QCo v25 (hk25) hn.at_) hn<|fun w26 hn=>wT<|coZ<|nFs hn (.u_iff1 _ ((s25.goTo v25).r.iff2)) (hn.at_.ms.u_iff1)<|fun w27 hn=>eoB<|eoV (OutV.ok (dN hr) hn)
           · have g23:¬s.z=5:=by simpa using h23
             have hr:=hr.trans (JG g23)
             refine wp_seq_k fun K28 hK28=>JD<|oB 55 (egI _ _ _ _ _) (ZP s.z 6)<|oA 54 (.bool (s.z==6)) ?_
             refine JS ?_
             try simp only[Act.put,sA,sB,sC]
             refine JM<|hK28 _ _ ?_
             refine wp_cond_split (t:=s.z==6) (by kernel_rfl) (fun h29=>?_) (fun h29=>?_)
             · have g29:s.z=6:=by simpa using h29
               have hr:=hr.trans (JK g29)
               refine JD<|oM 56 (pT p 0)<|oM 57 (pT p 0)<|oN 58 p 0<|oF 59 (fM4 p)<|oL 60 (ldI (hn.at_.cell 23 (.int .i64 (s.y)) fun _ _ _=>rfl)) ?_
               rcases mod4 (s.y) with g30|g30|g30|g30
               · refine oB 61 (egI _ _ _ _ _) (QDM (hn.at_.ms.y.1) g30) ?_
                 have hr:=hr.trans (JG (by simp[g30,g29,g23,g15,g12,g9,g6,g3]))
                 have hr:=hr.trans (JG (by simp[g30,g29,g23,g15,g12,g9,g6,g3]))
                 refine oI 62 (pT 1 0) (.int .i64 (0)) (pT 1 0) (QSt _)<|oL 63 (ldI (hn.at_.tabs.modes.1))<|oN 64 p 0<|oF 65 (fM0 p)<|oF 66 (QHw p) ?_
                 refine zy hn 19 (.int .i64 (0)) (s.u_mode (0)) rfl rfl rfl (by kernel_rfl) (by kernel_rfl) (stI (hn.at_.cell 19 _ fun _ _ _=>rfl) (hn.at_.frozen 19)) (QDu _ _) (hn.at_.ms.u_mode (⟨by decide,by decide⟩)) ?_
                 intro w31 hn
                 refine JS ?_
                 try simp only[Act.put,sA,sB,sC]
                 refine Qt ?_
                 refine X8 rfl rfl ?_
                 exact OutV.ok (hr.trans (Tr.run_done _ _)) hn
               · refine oB 61 (egI _ _ _ _ _) (QDM (hn.at_.ms.y.1) g30) ?_
                 have hr:=hr.trans (JG (by simp[g30,g29,g23,g15,g12,g9,g6,g3]))
                 have hr:=hr.trans (JG (by simp[g30,g29,g23,g15,g12,g9,g6,g3]))
                 refine oI 62 (pT 1 0) (.int .i64 (1)) (pT 1 1) (QS8 _)<|oL 63 (ldI (hn.at_.tabs.modes.2.1))<|oN 64 p 0<|oF 65 (fM0 p)<|oF 66 (QHw p) ?_
                 refine zy hn 19 (.int .i64 (0)) (s.u_mode (0)) rfl rfl rfl (by kernel_rfl) (by kernel_rfl) (stI (hn.at_.cell 19 _ fun _ _ _=>rfl) (hn.at_.frozen 19)) (QDu _ _) (hn.at_.ms.u_mode (⟨by decide,by decide⟩)) ?_
                 intro w32 hn
                 refine JS ?_
                 try simp only[Act.put,sA,sB,sC]
                 refine Qt ?_
                 refine X8 rfl rfl ?_
                 exact OutV.ok (hr.trans (Tr.run_done _ _)) hn
               · refine oB 61 (egI _ _ _ _ _) (QDM (hn.at_.ms.y.1) g30) ?_
                 have hr:=hr.trans (JK g30)
                 refine oI 62 (pT 1 0) (.int .i64 (2)) (pT 1 2) (QSj _)<|oL 63 (ldI (hn.at_.tabs.modes.2.2.1))<|oN 64 p 0<|oF 65 (fM0 p)<|oF 66 (QHw p) ?_
                 refine zy hn 19 (.int .i64 (1)) (s.u_mode (1)) rfl rfl rfl (by kernel_rfl) (by kernel_rfl) (stI (hn.at_.cell 19 _ fun _ _ _=>rfl) (hn.at_.frozen 19)) (QDu _ _) (hn.at_.ms.u_mode (⟨by decide,by decide⟩)) ?_
                 intro w33 hn
                 refine JS ?_
                 try simp only[Act.put,sA,sB,sC]
                 refine Qt ?_
                 refine X8 rfl rfl ?_
                 exact OutV.ok (hr.trans (Tr.run_done _ _)) hn
               · refine oB 61 (egI _ _ _ _ _) (QDM (hn.at_.ms.y.1) g30) ?_
                 have hr:=hr.trans (JG (by simp[g30,g29,g23,g15,g12,g9,g6,g3]))
                 have hr:=hr.trans (JK g30)
                 refine oI 62 (pT 1 0) (.int .i64 (3)) (pT 1 3) (QTO _)<|oL 63 (ldI (hn.at_.tabs.modes.2.2.2))<|oN 64 p 0<|oF 65 (fM0 p)<|oF 66 (QHw p) ?_
                 refine zy hn 19 (.int .i64 (2)) (s.u_mode (2)) rfl rfl rfl (by kernel_rfl) (by kernel_rfl) (stI (hn.at_.cell 19 _ fun _ _ _=>rfl) (hn.at_.frozen 19)) (QDu _ _) (hn.at_.ms.u_mode (⟨by decide,by decide⟩)) ?_
                 intro w34 hn
                 refine JS ?_
                 try simp only[Act.put,sA,sB,sC]
                 refine Qt ?_
                 refine X8 rfl rfl ?_
                 exact OutV.ok (hr.trans (Tr.run_done _ _)) hn
             · have g29:¬s.z=6:=by simpa using h29
               have hr:=hr.trans (JG g29)
               refine JB<|nQ hn<|nIf hr (fun g36 hr=>?_) fun g36 hr=>?_
               · exact coZ<|nR 1 hn<|nVt (QMW hn.at_) hn hr<|fun s37 xs37 w37 hn hr=>woE<|eoB<|eoV (OutV.ok (dN hr) hn)
               exact JC<|eoB<|eoV (OutV.ok (dN hr) hn)
def OutF (w0:World)(p B:Nat)(vals:Array Value):Except Cy (Ms×List Int)→Ending→World→Prop
 | .ok (s,ys),e,w'=>e=.returned (.agg vals)∧NowN w0 p B s ys w'
 | .error c,e,w'=>e=.panicked [{ v:=.iface 29 (cyV c),recovered:=false }]∧BesC p c w0 w'
theorem OutF.ok {w0 w:World} {p B:Nat} {vals:Array Value} {X:Except Cy (Ms×List Int)} {s:Ms} {ys:List Int}(h:X=.ok (s,ys))(hn:NowN w0 p B s ys w):OutF w0 p B vals X (.returned (.agg vals)) w:=by
 subst h
 exact⟨rfl,hn⟩
theorem OutF.err {w0 w:World} {p B:Nat} {vals:Array Value} {X:Except Cy (Ms×List Int)} {c:Cy}(h:X=.error c)(hb:BesC p c w0 w):OutF w0 p B vals X (.panicked [{ v:=.iface 29 (cyV c),recovered:=false }]) w:=by
 subst h
 exact⟨rfl,hb⟩
@[reducible] def jw:Array Value:=#[.nilFunc,.nilFunc,.nilFunc,.nilFunc]
theorem zK:(Tryz.prog.info? 132).map (·.size)=some 4:=by kernel_rfl
theorem QHG (w:World):(Instr.alloc 132 true (.tuple #[])).run Tryz.prog w=.ok (pT w.heap.size 0) (w.alloc (.cells jw 132)):=by
 simp[go_sem]
theorem Qg {P:Program} {a:Act} {o:Oper} {t:TypeId} {w w':World} {V:Value}(ho:o.op=.alloc t)(h:(Instr.alloc t true (.tuple #[])).run P w=.ok V w'):(execOp a.eval o).run P w=.ok (.value V) w':=by
 unfold execOp
 simp only[ho,Sem.run_bind,h,Result.andThen_ok,Sem.run_pure]
theorem AtN.far {w:World} {p B L:Nat} {s:Ms} {xs:List Int}(h:AtN w p B s xs)(hp:L≠p)(hB:B≤L)(vs:List Value)(o:Nat):AtN (w.setCells L o vs) p B s xs:=by
 obtain⟨⟨A,cap,hc,hr,hby⟩,hl,h8,hm,ht⟩:=h
 have k:∀ b,b < B→(w.setCells L o vs).heap[b]? = w.heap[b]?:=fun b hlt=>q4 L b (by omega) _ _ _
 exact⟨⟨A,cap,hc,hr.setFar (Ne.symm hp) vs o,hby.keep k⟩,hl,h8,hm,ht.keep k⟩
theorem NowN.far {w0 w:World} {p B L:Nat} {s:Ms} {xs:List Int}(h:NowN w0 p B s xs w)(hp:L≠p)(hB:B≤L)(h0:w0.heap.size≤L)(vs:List Value)(o:Nat):NowN w0 p B s xs (w.setCells L o vs) :=
 ⟨h.at_.far hp hB vs o,h.bes.setCells (.inr (.inr h0)) _ _⟩
theorem NowN.base {w w0 w':World} {p B:Nat} {s:Ms} {xs:List Int}(h:NowN w0 p B s xs w')(k:Besides p p w w0):NowN w p B s xs w':=⟨h.at_,k.trans h.bes⟩
theorem Qm {P:Program} {a:Act} {o:Oper} {fn:Fn} {first cap:Array Operand} {fv cv:Array Value}(ho:o.op=.makeFunc fn first cap)(hf:first.map a.eval=fv)(hc:cap.map a.eval=cv)(w:World):(execOp a.eval o).run P w=.ok (.value (.func fn fv cv)) w:=by
 unfold execOp
 simp only[ho,hf,hc,Sem.run_bind,Sem.run_pure]
 rfl
end Go.Proofs.YtkenebbjodcbcaaGreatDoor
