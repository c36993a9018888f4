/- Contracts and facts that the claim's proof wants (several texts in one). -/
import Derived.Test.YtmgcgiecimnncaaGreatDoorTlG12
namespace Go.Proofs.YtmgcgiecimnncaaGreatDoor
open Go.RowKit
set_option linter.unusedVariables false
set_option linter.unusedSimpArgs false
set_option maxRecDepth 20000
set_option maxHeartbeats 20000000
theorem QPJ  {s:Ms} {xs:List Int} {w:World} {p B:Nat}(h:AtN w p B s xs) :
 Calls Tryz.prog 210 #[pT p 0] w (OutV w p B ((QB3 s).run xs)):=by
 have hn:=NowN.begin h
 have hr:(QB3 s).run xs=(QB3 s).run xs:=rfl
 go_enter Tryz.func210,Tryz.ntmps210
 refine JA<|have b2:=hn.at_.ms.r.bc;coR<|nR 6 hn<|nI (QU8 s.r.bc (b2) hn.at_) hn hr<|fun v3 s3 xs3 w3 hk3 hn hr=>nE hn<|have b5:=hn.at_.ms.r.bc;nQs hn (.u_wz _ ((s3.r.bc+1)%65536)) (hn.at_.ms.u_wz (Wd16.mod _))<|fun w6 hn=>coR<|nR 2 hn<|nB (Xm v3 (hk3).1 (hk3).2 _) hn<|fun w8 hn=>nR 1 hn<|nA (QGo hn.at_) hn<|fun w9 hn=>kBj 25 (.int .u8 (J2 v3)) (.int .u8 ((s3.u_wz ((s3.r.bc+1)%65536)).carry)) (.int .u8 (JU (J2 v3) 0 (isM (s3.u_wz ((s3.r.bc+1)%65536)).f 0))) (eg8 _ _ _ _ _) (QSD _ _)<|nA (ZE (JU (J2 v3) 0 (isM (s3.u_wz ((s3.r.bc+1)%65536)).f 0)) (B8.with (Qs _) _ _) hn.at_) hn<|fun w10 hn=>wT<|nQ hn<|coI ((((s3.u_wz ((s3.r.bc+1)%65536)).setF (JU (J2 v3) 0 (isM (s3.u_wz ((s3.r.bc+1)%65536)).f 0))).y) != 6) (fun h12=>?_) fun h12=>?_
 · have g12:¬(((s3.u_wz ((s3.r.bc+1)%65536)).setF (JU (J2 v3) 0 (isM (s3.u_wz ((s3.r.bc+1)%65536)).f 0))).y)=6:=by simpa using h12
   exact have hr:=hr.trans (JB g12);coZ<|nR 6 hn<|nVt (zq (((s3.u_wz ((s3.r.bc+1)%65536)).setF (JU (J2 v3) 0 (isM (s3.u_wz ((s3.r.bc+1)%65536)).f 0))).y) v3 (hk3) hn.at_) hn hr<|fun s13 xs13 w13 hn hr=>woE<|eoV (OutV.ok (dN hr) hn)
 have g12:(((s3.u_wz ((s3.r.bc+1)%65536)).setF (JU (J2 v3) 0 (isM (s3.u_wz ((s3.r.bc+1)%65536)).f 0))).y)=6:=by simpa using h12
 exact have hr:=hr.trans (JD g12);JC<|eoV (OutV.ok (dN hr) hn)
theorem QNL  {s:Ms} {xs:List Int} {w:World} {p B:Nat}(h:AtN w p B s xs) :
 Calls Tryz.prog 211 #[pT p 0] w (OutV w p B ((QAE s).run xs)):=by
 have hn:=NowN.begin h
 have hr:(QAE s).run xs=(QAE s).run xs:=rfl
 go_enter Tryz.func211,Tryz.ntmps211
 refine JA<|nQ hn<|coS<|nQ hn<|coI (s.y != 6) (fun h4=>?_) fun h4=>?_
 · have g4:¬s.y=6:=by simpa using h4
   exact have hr:=hr.trans (jy g4);coZ<|nR 5 hn<|nI (QDI s.y hn.at_) hn hr<|fun v5 s5 xs5 w5 hk5 hn hr=>nE hn<|have b7:=hn.at_.ms.r.bc;coR<|nR 7 hn<|nV (QMC s5.r.bc (b7) v5 (hk5) hn.at_) hn hr<|fun s8 xs8 w8 hn hr=>wT<|have b9:=hn.at_.ms.r.bc;coZ<|nFs hn (.u_wz _ ((s8.r.bc+1)%65536)) (hn.at_.ms.u_wz (Wd16.mod _))<|fun w10 hn=>eoV (OutV.ok (dN hr) hn)
 have g4:s.y=6:=by simpa using h4
 exact have hr:=hr.trans (qG g4);JC<|eoT<|have b12:=hn.at_.ms.r.bc;coR<|nR 7 hn<|nV (QMC s.r.bc (b12) 0 (⟨by decide,by decide⟩) hn.at_) hn hr<|fun s13 xs13 w13 hn hr=>wT<|have b14:=hn.at_.ms.r.bc;coZ<|nFs hn (.u_wz _ ((s13.r.bc+1)%65536)) (hn.at_.ms.u_wz (Wd16.mod _))<|fun w15 hn=>eoV (OutV.ok (dN hr) hn)
theorem QGu  {s:Ms} {xs:List Int} {w:World} {p B:Nat}(h:AtN w p B s xs) :
 Calls Tryz.prog 212 #[pT p 0] w (OutV w p B ((Z2 s).run xs)):=by
 have hn:=NowN.begin h
 have hr:(Z2 s).run xs=(Z2 s).run xs:=rfl
 go_enter Tryz.func212,Tryz.ntmps212
 refine wp_seq_k fun K1 hK1=>JG<|oM 3 (pT p 0) ?_
 refine Xf hn rfl (by kernel_rfl) (Jw 7 hn.at_) (fun _ _ hX hb=>Z3 (QR rfl (OutV.err (hr.trans (Tr.run_bind_error hX _)) hb))) ?_
 intro s2 xs2 w2 hX hn
 have hr:=hr.trans (Tr.run_bind_ok hX _)
 refine Jg ?_
 try simp only[Act.put,sA,sB,sC]
 refine JW<|hK1 _ _<|wp_seq_k fun K3 hK3=>JG<|oM 5 (pT p 0)<|oM 6 (pT p 0)<|oN 7 p 0<|oF 8 (fM0 p)<|oF 9 (fR3 p) ?_
 have b4:=hn.at_.ms.r.hl
 refine oL 10 (QTH (hn.at_.cell 3 (.int .u16 (s2.r.hl)) fun _ _ _=>rfl))<|oB 11 (eg16 _ _ _ _ _) (QUd s2.r.hl 1)<|oN 12 p 0<|oF 13 (fM0 p)<|oF 14 (fR12 p) ?_
 refine zt hn 12 (.int .u16 ((s2.r.hl+1)%65536)) (s2.u_wz ((s2.r.hl+1)%65536)) rfl rfl rfl (by kernel_rfl) (by kernel_rfl) (QR0 (hn.at_.cell 12 _ fun _ _ _=>rfl) (hn.at_.frozen 12)) (QWg _ _) (hn.at_.ms.u_wz (Wd16.mod _)) ?_
 intro w5 hn
 refine Jg ?_
 try simp only[Act.put,sA,sB,sC]
 refine JW<|hK3 _ _<|wp_seq_k fun K6 hK6=>JG<|oA 2 (.int .u8 (0)) ?_
 refine Jg ?_
 try simp only[Act.put,sA,sB,sC]
 refine JW<|hK6 _ _<|wp_seq_k fun K7 hK7=>wp_seq_k fun K8 hK8=>JG<|oM 15 (pT p 0)<|oN 16 p 0<|oF 17 (fM7 p)<|oL 18 (ldI (hn.at_.cell 26 (.int .i64 ((s2.u_wz ((s2.r.hl+1)%65536)).q)) fun _ _ _=>rfl))<|oB 19 (egI _ _ _ _ _) (QCZ ((s2.u_wz ((s2.r.hl+1)%65536)).q) 0) ?_
 refine Jg ?_
 try simp only[Act.put,sA,sB,sC]
 refine JW<|hK8 _ _ ?_
 refine wp_cond_split (t:=((s2.u_wz ((s2.r.hl+1)%65536)).q)==0) (by kernel_rfl) (fun h9=>?_) (fun h9=>?_)
 · skip
   have g9:((s2.u_wz ((s2.r.hl+1)%65536)).q)=0:=by simpa using h9
   have hr:=hr.trans (JD g9)
   refine QD6 17 18 (fun w'=>NowN w p B (s2.u_wz ((s2.r.hl+1)%65536)) xs2 w') (by kernel_rfl) (by kernel_rfl) hn.drew ?_
   intro w10 _ hS
   have hn:=hS
   refine Jr (i:=0) 21 (pT p 0) rfl rfl (by kernel_rfl) (by kernel_rfl) (by kernel_rfl) (by kernel_rfl) (by kernel_rfl) (fun _ _ _ h=>h) (by kernel_rfl) (fun w hS=>Q7 (.inl rfl) (by kernel_rfl) w) hS ?_
   refine Jr (i:=1) 22 (pT p 0) rfl rfl (by kernel_rfl) (by kernel_rfl) (by kernel_rfl) (by kernel_rfl) (by kernel_rfl) (fun _ _ _ h=>h) (by kernel_rfl) (fun w hS=>Q7 (.inl rfl) (by kernel_rfl) w) hS ?_
   refine Jr (i:=2) 23 (pT p 0) rfl rfl (by kernel_rfl) (by kernel_rfl) (by kernel_rfl) (by kernel_rfl) (by kernel_rfl) (fun _ _ _ h=>h) (by kernel_rfl) (fun w hS=>QDc (ad:=⟨p,0,none⟩) rfl (by kernel_rfl) w) hS ?_
   refine Jr (i:=3) 24 (pT p 0) rfl rfl (by kernel_rfl) (by kernel_rfl) (by kernel_rfl) (by kernel_rfl) (by kernel_rfl) (fun _ _ _ h=>h) (by kernel_rfl) (fun w hS=>X8 (V:=pT p 0) (R:=pT p 0) rfl (by kernel_rfl) (fM0 p) w) hS ?_
   refine Jr (i:=4) 25 (pT p 3) rfl rfl (by kernel_rfl) (by kernel_rfl) (by kernel_rfl) (by kernel_rfl) (by kernel_rfl) (fun _ _ _ h=>h) (by kernel_rfl) (fun w hS=>X8 (V:=pT p 0) (R:=pT p 3) rfl (by kernel_rfl) (fR3 p) w) hS ?_
   have b11:=hn.at_.ms.r.hl
   refine Jr (i:=5) 26 (.int .u16 ((s2.u_wz ((s2.r.hl+1)%65536)).r.hl)) rfl rfl (by kernel_rfl) (by kernel_rfl) (by kernel_rfl) (by kernel_rfl) (by kernel_rfl) (fun _ _ _ h=>h) (by kernel_rfl) (fun w hS=>zz rfl (by kernel_rfl) (QTH (hS.at_.cell 3 (.int .u16 ((s2.u_wz ((s2.r.hl+1)%65536)).r.hl)) fun _ _ _=>rfl))) hS ?_
   refine Jr (i:=6) 27 (pT p 0) rfl rfl (by kernel_rfl) (by kernel_rfl) (by kernel_rfl) (by kernel_rfl) (by kernel_rfl) (fun _ _ _ h=>h) (by kernel_rfl) (fun w hS=>Q7 (.inl rfl) (by kernel_rfl) w) hS ?_
   refine Jr (i:=8) 29 (pT p 0) rfl rfl (by kernel_rfl) (by kernel_rfl) (by kernel_rfl) (by kernel_rfl) (by kernel_rfl) (fun _ _ _ h=>h) (by kernel_rfl) (fun w hS=>Q7 (.inl rfl) (by kernel_rfl) w) hS ?_
   have b12:=XD hn.at_.ms
   refine QGF (i:=7) (.int .u16 ((s2.u_wz ((s2.r.hl+1)%65536)).pair)) rfl (by kernel_rfl) (by kernel_rfl) (by kernel_rfl) (by kernel_rfl) (jY  hn.at_) (fun w' hk=>hS.after hk) ?_
   intro w13 hk
   have hn:=hn.after hk
   have hS:=hn
   have b14:=QN hn.at_.ms
   refine QGF (i:=9) (.int .u8 ((s2.u_wz ((s2.r.hl+1)%65536)).f)) rfl (by kernel_rfl) (by kernel_rfl) (by kernel_rfl) (by kernel_rfl) (m_f  hn.at_) (fun w' hk=>hS.after hk) ?_
   intro w15 hk
   have hn:=hn.after hk
   have hS:=hn
   refine QGF (i:=10) (.tuple #[.int .u16 (QA8 ((s2.u_wz ((s2.r.hl+1)%65536)).r.hl) ((s2.u_wz ((s2.r.hl+1)%65536)).pair) (isM ((s2.u_wz ((s2.r.hl+1)%65536)).f) 0)),.int .u8 (QBy ((s2.u_wz ((s2.r.hl+1)%65536)).r.hl) ((s2.u_wz ((s2.r.hl+1)%65536)).pair) (isM ((s2.u_wz ((s2.r.hl+1)%65536)).f) 0))]) rfl (by kernel_rfl) (by kernel_rfl) (by kernel_rfl) (by kernel_rfl) (QQ3 ((s2.u_wz ((s2.r.hl+1)%65536)).r.hl) ((s2.u_wz ((s2.r.hl+1)%65536)).pair) ((s2.u_wz ((s2.r.hl+1)%65536)).f) (b11) (b12) (b14) _) (fun w' hb=>hS.below hb) ?_
   intro w16 hb
   have hn:=hn.below hb
   have hS:=hn
   refine Jr (i:=11) 20 (.tuple #[.int .u16 (QA8 ((s2.u_wz ((s2.r.hl+1)%65536)).r.hl) ((s2.u_wz ((s2.r.hl+1)%65536)).pair) (isM ((s2.u_wz ((s2.r.hl+1)%65536)).f) 0)),.int .u8 (QBy ((s2.u_wz ((s2.r.hl+1)%65536)).r.hl) ((s2.u_wz ((s2.r.hl+1)%65536)).pair) (isM ((s2.u_wz ((s2.r.hl+1)%65536)).f) 0))]) rfl rfl (by kernel_rfl) (by kernel_rfl) (by kernel_rfl) (by kernel_rfl) (by kernel_rfl) (fun _ _ _ h=>h) (by kernel_rfl) (fun w hS=>Q7 (.inl rfl) (by kernel_rfl) w) hS ?_
   refine Jr (i:=12) 32 (.int .u16 (QA8 ((s2.u_wz ((s2.r.hl+1)%65536)).r.hl) ((s2.u_wz ((s2.r.hl+1)%65536)).pair) (isM ((s2.u_wz ((s2.r.hl+1)%65536)).f) 0))) rfl rfl (by kernel_rfl) (by kernel_rfl) (by kernel_rfl) (by kernel_rfl) (by kernel_rfl) (fun _ _ _ h=>h) (by kernel_rfl) (fun w hS=>Qp (vs:=#[.int .u16 (QA8 ((s2.u_wz ((s2.r.hl+1)%65536)).r.hl) ((s2.u_wz ((s2.r.hl+1)%65536)).pair) (isM ((s2.u_wz ((s2.r.hl+1)%65536)).f) 0)),.int .u8 (QBy ((s2.u_wz ((s2.r.hl+1)%65536)).r.hl) ((s2.u_wz ((s2.r.hl+1)%65536)).pair) (isM ((s2.u_wz ((s2.r.hl+1)%65536)).f) 0))]) rfl (by kernel_rfl) (by kernel_rfl) w) hS ?_
   refine jK (i:=13) 33 (.int .u8 (QBy ((s2.u_wz ((s2.r.hl+1)%65536)).r.hl) ((s2.u_wz ((s2.r.hl+1)%65536)).pair) (isM ((s2.u_wz ((s2.r.hl+1)%65536)).f) 0))) rfl rfl (by kernel_rfl) (by kernel_rfl) (by kernel_rfl) (by kernel_rfl) (by kernel_rfl) (fun _ _ _ h=>h) (by kernel_rfl) (fun w=>Qp (vs:=#[.int .u16 (QA8 ((s2.u_wz ((s2.r.hl+1)%65536)).r.hl) ((s2.u_wz ((s2.r.hl+1)%65536)).pair) (isM ((s2.u_wz ((s2.r.hl+1)%65536)).f) 0)),.int .u8 (QBy ((s2.u_wz ((s2.r.hl+1)%65536)).r.hl) ((s2.u_wz ((s2.r.hl+1)%65536)).pair) (isM ((s2.u_wz ((s2.r.hl+1)%65536)).f) 0))]) rfl (by kernel_rfl) (by kernel_rfl) w) (fun _=>hS) ?_
   refine jK (i:=14) 34 (pT p 0) rfl rfl (by kernel_rfl) (by kernel_rfl) (by kernel_rfl) (by kernel_rfl) (by kernel_rfl) (fun _ _ _ h=>h) (by kernel_rfl) (fun w=>QDc (ad:=⟨p,0,none⟩) rfl (by kernel_rfl) w) (fun _=>hS) ?_
   refine jK (i:=15) 35 (pT p 0) rfl rfl (by kernel_rfl) (by kernel_rfl) (by kernel_rfl) (by kernel_rfl) (by kernel_rfl) (fun _ _ _ h=>h) (by kernel_rfl) (fun w=>X8 (V:=pT p 0) (R:=pT p 0) rfl (by kernel_rfl) (fM0 p) w) (fun _=>hS) ?_
   refine Jr (i:=16) 36 (pT p 3) rfl rfl (by kernel_rfl) (by kernel_rfl) (by kernel_rfl) (by kernel_rfl) (by kernel_rfl) (fun _ _ _ h=>h) (by kernel_rfl) (fun w hS=>X8 (V:=pT p 0) (R:=pT p 3) rfl (by kernel_rfl) (fR3 p) w) hS ?_
   refine QLm rfl rfl (by kernel_rfl) (by kernel_rfl) (by kernel_rfl) (Qu (ad:=⟨p,3,none⟩) (V:=.int .u16 (QA8 ((s2.u_wz ((s2.r.hl+1)%65536)).r.hl) ((s2.u_wz ((s2.r.hl+1)%65536)).pair) (isM ((s2.u_wz ((s2.r.hl+1)%65536)).f) 0))) rfl (by kernel_rfl) (by kernel_rfl) (QR0 (hn.at_.cell 3 _ fun _ _ _=>rfl) (hn.at_.frozen 3))) ?_
   have hn:=hn.set 3 (.int .u16 (QA8 ((s2.u_wz ((s2.r.hl+1)%65536)).r.hl) ((s2.u_wz ((s2.r.hl+1)%65536)).pair) (isM ((s2.u_wz ((s2.r.hl+1)%65536)).f) 0))) ((s2.u_wz ((s2.r.hl+1)%65536)).u_hl (QA8 ((s2.u_wz ((s2.r.hl+1)%65536)).r.hl) ((s2.u_wz ((s2.r.hl+1)%65536)).pair) (isM ((s2.u_wz ((s2.r.hl+1)%65536)).f) 0))) (QPe _ _) (hn.at_.ms.u_hl (Wd16.mod _))
   refine QJi (by kernel_rfl) ?_
   simp only[List.drop_succ_cons,List.drop_zero]
   try simp only[Act.put,sA,sB,sC]
   refine oA 2 (.int .u8 (QBy ((s2.u_wz ((s2.r.hl+1)%65536)).r.hl) ((s2.u_wz ((s2.r.hl+1)%65536)).pair) (isM ((s2.u_wz ((s2.r.hl+1)%65536)).f) 0))) ?_
   refine Jg ?_
   try simp only[Act.put,sA,sB,sC]
   refine JW<|hK7 _ _<|JG<|oM 54 (pT p 0)<|oM 55 (.int .u8 (QBy ((s2.u_wz ((s2.r.hl+1)%65536)).r.hl) ((s2.u_wz ((s2.r.hl+1)%65536)).pair) (isM ((s2.u_wz ((s2.r.hl+1)%65536)).f) 0)))<|oC (.tuple #[]) (ZE (QBy ((s2.u_wz ((s2.r.hl+1)%65536)).r.hl) ((s2.u_wz ((s2.r.hl+1)%65536)).pair) (isM ((s2.u_wz ((s2.r.hl+1)%65536)).f) 0)) (QMq _ _ _) hn.at_) ?_
   intro w17 hk
   have hn:=hn.after hk
   refine Jg ?_
   try simp only[Act.put,sA,sB,sC]
   refine jt rfl rfl ?_
   exact OutV.ok (hr.trans (Tr.run_done _ _)) hn
 · skip
   have g9:¬((s2.u_wz ((s2.r.hl+1)%65536)).q)=0:=by simpa using h9
   have hr:=hr.trans (JB g9)
   refine QD6 17 18 (fun w'=>NowN w p B (s2.u_wz ((s2.r.hl+1)%65536)) xs2 w') (by kernel_rfl) (by kernel_rfl) hn.drew ?_
   intro w18 _ hS
   have hn:=hS
   refine Jr (i:=0) 38 (pT p 0) rfl rfl (by kernel_rfl) (by kernel_rfl) (by kernel_rfl) (by kernel_rfl) (by kernel_rfl) (fun _ _ _ h=>h) (by kernel_rfl) (fun w hS=>Q7 (.inl rfl) (by kernel_rfl) w) hS ?_
   refine Jr (i:=1) 39 (pT p 0) rfl rfl (by kernel_rfl) (by kernel_rfl) (by kernel_rfl) (by kernel_rfl) (by kernel_rfl) (fun _ _ _ h=>h) (by kernel_rfl) (fun w hS=>Q7 (.inl rfl) (by kernel_rfl) w) hS ?_
   refine Jr (i:=2) 40 (pT p 0) rfl rfl (by kernel_rfl) (by kernel_rfl) (by kernel_rfl) (by kernel_rfl) (by kernel_rfl) (fun _ _ _ h=>h) (by kernel_rfl) (fun w hS=>QDc (ad:=⟨p,0,none⟩) rfl (by kernel_rfl) w) hS ?_
   refine Jr (i:=3) 41 (pT p 0) rfl rfl (by kernel_rfl) (by kernel_rfl) (by kernel_rfl) (by kernel_rfl) (by kernel_rfl) (fun _ _ _ h=>h) (by kernel_rfl) (fun w hS=>X8 (V:=pT p 0) (R:=pT p 0) rfl (by kernel_rfl) (fM0 p) w) hS ?_
   refine Jr (i:=4) 42 (pT p 3) rfl rfl (by kernel_rfl) (by kernel_rfl) (by kernel_rfl) (by kernel_rfl) (by kernel_rfl) (fun _ _ _ h=>h) (by kernel_rfl) (fun w hS=>X8 (V:=pT p 0) (R:=pT p 3) rfl (by kernel_rfl) (fR3 p) w) hS ?_
   have b19:=hn.at_.ms.r.hl
   refine Jr (i:=5) 43 (.int .u16 ((s2.u_wz ((s2.r.hl+1)%65536)).r.hl)) rfl rfl (by kernel_rfl) (by kernel_rfl) (by kernel_rfl) (by kernel_rfl) (by kernel_rfl) (fun _ _ _ h=>h) (by kernel_rfl) (fun w hS=>zz rfl (by kernel_rfl) (QTH (hS.at_.cell 3 (.int .u16 ((s2.u_wz ((s2.r.hl+1)%65536)).r.hl)) fun _ _ _=>rfl))) hS ?_
   refine Jr (i:=6) 44 (pT p 0) rfl rfl (by kernel_rfl) (by kernel_rfl) (by kernel_rfl) (by kernel_rfl) (by kernel_rfl) (fun _ _ _ h=>h) (by kernel_rfl) (fun w hS=>Q7 (.inl rfl) (by kernel_rfl) w) hS ?_
   refine Jr (i:=8) 46 (pT p 0) rfl rfl (by kernel_rfl) (by kernel_rfl) (by kernel_rfl) (by kernel_rfl) (by kernel_rfl) (fun _ _ _ h=>h) (by kernel_rfl) (fun w hS=>Q7 (.inl rfl) (by kernel_rfl) w) hS ?_
   have b20:=XD hn.at_.ms
   refine QGF (i:=7) (.int .u16 ((s2.u_wz ((s2.r.hl+1)%65536)).pair)) rfl (by kernel_rfl) (by kernel_rfl) (by kernel_rfl) (by kernel_rfl) (jY  hn.at_) (fun w' hk=>hS.after hk) ?_
   intro w21 hk
   have hn:=hn.after hk
   have hS:=hn
   have b22:=QN hn.at_.ms
   refine QGF (i:=9) (.int .u8 ((s2.u_wz ((s2.r.hl+1)%65536)).f)) rfl (by kernel_rfl) (by kernel_rfl) (by kernel_rfl) (by kernel_rfl) (m_f  hn.at_) (fun w' hk=>hS.after hk) ?_
   intro w23 hk
   have hn:=hn.after hk
   have hS:=hn
   refine QGF (i:=10) (.tuple #[.int .u16 (qi ((s2.u_wz ((s2.r.hl+1)%65536)).r.hl) ((s2.u_wz ((s2.r.hl+1)%65536)).pair) (isM ((s2.u_wz ((s2.r.hl+1)%65536)).f) 0)),.int .u8 (QBD ((s2.u_wz ((s2.r.hl+1)%65536)).r.hl) ((s2.u_wz ((s2.r.hl+1)%65536)).pair) (isM ((s2.u_wz ((s2.r.hl+1)%65536)).f) 0))]) rfl (by kernel_rfl) (by kernel_rfl) (by kernel_rfl) (by kernel_rfl) (QPo ((s2.u_wz ((s2.r.hl+1)%65536)).r.hl) ((s2.u_wz ((s2.r.hl+1)%65536)).pair) ((s2.u_wz ((s2.r.hl+1)%65536)).f) (b19) (b20) (b22) _) (fun w' hb=>hS.below hb) ?_
   intro w24 hb
   have hn:=hn.below hb
   have hS:=hn
   refine Jr (i:=11) 37 (.tuple #[.int .u16 (qi ((s2.u_wz ((s2.r.hl+1)%65536)).r.hl) ((s2.u_wz ((s2.r.hl+1)%65536)).pair) (isM ((s2.u_wz ((s2.r.hl+1)%65536)).f) 0)),.int .u8 (QBD ((s2.u_wz ((s2.r.hl+1)%65536)).r.hl) ((s2.u_wz ((s2.r.hl+1)%65536)).pair) (isM ((s2.u_wz ((s2.r.hl+1)%65536)).f) 0))]) rfl rfl (by kernel_rfl) (by kernel_rfl) (by kernel_rfl) (by kernel_rfl) (by kernel_rfl) (fun _ _ _ h=>h) (by kernel_rfl) (fun w hS=>Q7 (.inl rfl) (by kernel_rfl) w) hS ?_
   refine Jr (i:=12) 49 (.int .u16 (qi ((s2.u_wz ((s2.r.hl+1)%65536)).r.hl) ((s2.u_wz ((s2.r.hl+1)%65536)).pair) (isM ((s2.u_wz ((s2.r.hl+1)%65536)).f) 0))) rfl rfl (by kernel_rfl) (by kernel_rfl) (by kernel_rfl) (by kernel_rfl) (by kernel_rfl) (fun _ _ _ h=>h) (by kernel_rfl) (fun w hS=>Qp (vs:=#[.int .u16 (qi ((s2.u_wz ((s2.r.hl+1)%65536)).r.hl) ((s2.u_wz ((s2.r.hl+1)%65536)).pair) (isM ((s2.u_wz ((s2.r.hl+1)%65536)).f) 0)),.int .u8 (QBD ((s2.u_wz ((s2.r.hl+1)%65536)).r.hl) ((s2.u_wz ((s2.r.hl+1)%65536)).pair) (isM ((s2.u_wz ((s2.r.hl+1)%65536)).f) 0))]) rfl (by kernel_rfl) (by kernel_rfl) w) hS ?_
   refine jK (i:=13) 50 (.int .u8 (QBD ((s2.u_wz ((s2.r.hl+1)%65536)).r.hl) ((s2.u_wz ((s2.r.hl+1)%65536)).pair) (isM ((s2.u_wz ((s2.r.hl+1)%65536)).f) 0))) rfl rfl (by kernel_rfl) (by kernel_rfl) (by kernel_rfl) (by kernel_rfl) (by kernel_rfl) (fun _ _ _ h=>h) (by kernel_rfl) (fun w=>Qp (vs:=#[.int .u16 (qi ((s2.u_wz ((s2.r.hl+1)%65536)).r.hl) ((s2.u_wz ((s2.r.hl+1)%65536)).pair) (isM ((s2.u_wz ((s2.r.hl+1)%65536)).f) 0)),.int .u8 (QBD ((s2.u_wz ((s2.r.hl+1)%65536)).r.hl) ((s2.u_wz ((s2.r.hl+1)%65536)).pair) (isM ((s2.u_wz ((s2.r.hl+1)%65536)).f) 0))]) rfl (by kernel_rfl) (by kernel_rfl) w) (fun _=>hS) ?_
   refine jK (i:=14) 51 (pT p 0) rfl rfl (by kernel_rfl) (by kernel_rfl) (by kernel_rfl) (by kernel_rfl) (by kernel_rfl) (fun _ _ _ h=>h) (by kernel_rfl) (fun w=>QDc (ad:=⟨p,0,none⟩) rfl (by kernel_rfl) w) (fun _=>hS) ?_
   refine jK (i:=15) 52 (pT p 0) rfl rfl (by kernel_rfl) (by kernel_rfl) (by kernel_rfl) (by kernel_rfl) (by kernel_rfl) (fun _ _ _ h=>h) (by kernel_rfl) (fun w=>X8 (V:=pT p 0) (R:=pT p 0) rfl (by kernel_rfl) (fM0 p) w) (fun _=>hS) ?_
   refine Jr (i:=16) 53 (pT p 3) rfl rfl (by kernel_rfl) (by kernel_rfl) (by kernel_rfl) (by kernel_rfl) (by kernel_rfl) (fun _ _ _ h=>h) (by kernel_rfl) (fun w hS=>X8 (V:=pT p 0) (R:=pT p 3) rfl (by kernel_rfl) (fR3 p) w) hS ?_
   refine QLm rfl rfl (by kernel_rfl) (by kernel_rfl) (by kernel_rfl) (Qu (ad:=⟨p,3,none⟩) (V:=.int .u16 (qi ((s2.u_wz ((s2.r.hl+1)%65536)).r.hl) ((s2.u_wz ((s2.r.hl+1)%65536)).pair) (isM ((s2.u_wz ((s2.r.hl+1)%65536)).f) 0))) rfl (by kernel_rfl) (by kernel_rfl) (QR0 (hn.at_.cell 3 _ fun _ _ _=>rfl) (hn.at_.frozen 3))) ?_
   have hn:=hn.set 3 (.int .u16 (qi ((s2.u_wz ((s2.r.hl+1)%65536)).r.hl) ((s2.u_wz ((s2.r.hl+1)%65536)).pair) (isM ((s2.u_wz ((s2.r.hl+1)%65536)).f) 0))) ((s2.u_wz ((s2.r.hl+1)%65536)).u_hl (qi ((s2.u_wz ((s2.r.hl+1)%65536)).r.hl) ((s2.u_wz ((s2.r.hl+1)%65536)).pair) (isM ((s2.u_wz ((s2.r.hl+1)%65536)).f) 0))) (QPe _ _) (hn.at_.ms.u_hl (Wd16.mod _))
   refine QJi (by kernel_rfl) ?_
   simp only[List.drop_succ_cons,List.drop_zero]
   try simp only[Act.put,sA,sB,sC]
   refine oA 2 (.int .u8 (QBD ((s2.u_wz ((s2.r.hl+1)%65536)).r.hl) ((s2.u_wz ((s2.r.hl+1)%65536)).pair) (isM ((s2.u_wz ((s2.r.hl+1)%65536)).f) 0))) ?_
   refine Jg ?_
   try simp only[Act.put,sA,sB,sC]
   refine JW<|hK7 _ _<|JG<|oM 54 (pT p 0)<|oM 55 (.int .u8 (QBD ((s2.u_wz ((s2.r.hl+1)%65536)).r.hl) ((s2.u_wz ((s2.r.hl+1)%65536)).pair) (isM ((s2.u_wz ((s2.r.hl+1)%65536)).f) 0)))<|oC (.tuple #[]) (ZE (QBD ((s2.u_wz ((s2.r.hl+1)%65536)).r.hl) ((s2.u_wz ((s2.r.hl+1)%65536)).pair) (isM ((s2.u_wz ((s2.r.hl+1)%65536)).f) 0)) (QGO _ _ _) hn.at_) ?_
   intro w25 hk
   have hn:=hn.after hk
   refine Jg ?_
   try simp only[Act.put,sA,sB,sC]
   refine jt rfl rfl ?_
   exact OutV.ok (hr.trans (Tr.run_done _ _)) hn
theorem QFf  {s:Ms} {xs:List Int} {w:World} {p B:Nat}(h:AtN w p B s xs) :
 Calls Tryz.prog 213 #[pT p 0] w (OutV w p B ((ZT s).run xs)):=by
 have hn:=NowN.begin h
 have hr:(ZT s).run xs=(ZT s).run xs:=rfl
 go_enter Tryz.func213,Tryz.ntmps213
 refine JA<|coR<|nR 1 hn<|nI (zf hn.at_) hn hr<|fun v2 s2 xs2 w2 hk2 hn hr=>nE hn<|nQ hn<|nIf hr (fun g4 hr=>?_) fun g4 hr=>?_
 · exact have b5:=XD hn.at_.ms;coZ<|nR 3 hn<|nA (jY hn.at_) hn<|fun w6 hn=>nV (QDb v2 (hk2) s2.pair (b5) hn.at_) hn hr<|fun s7 xs7 w7 hn hr=>woE<|eoV (OutV.ok (dN hr) hn)
 exact coZ<|nR 3 hn<|nI (QEr v2 (hk2) hn.at_) hn hr<|fun v8 s8 xs8 w8 hk8 hn hr=>nA (zJ v8 (hk8) hn.at_) hn<|fun w9 hn=>woE<|eoV (OutV.ok (dN hr) hn)
theorem QQw (b:Int)(hAb:B8 b){s:Ms} {xs:List Int} {w:World} {p B:Nat}(h:AtN w p B s xs) :
 Calls Tryz.prog 266 #[pT p 0,.int .u8 (b)] w (fun e w'=>e=.returned (.tuple #[])∧NowN w p B (QEW b s) xs w'):=by
 have hn:=NowN.begin h
 go_enter Tryz.func266,Tryz.ntmps266
 refine JA<|coR<|nR 1 hn<|kE (Zr b (hAb).1 (hAb).2 _)<|nR 1 hn<|nA (QGo hn.at_) hn<|fun w3 hn=>kBj 9 (.int .u8 (JV b)) (.int .u8 (s.carry)) (.int .u8 (JU (JV b) 0 (isM s.f 0))) (eg8 _ _ _ _ _) (QM3 _ _)<|nE hn<|coS<|nQ hn<|coI (s.r.iff2) (fun h6=>?_) fun h6=>?_
 · have g6:s.r.iff2=true:=by simpa using h6
   refine coZ<|nR 1 hn<|kBj 16 (.int .u8 (JU (JV b) 0 (isM s.f 0))) (.int .u8 (4)) (.int .u8 (JU (JU (JV b) 0 (isM s.f 0)) 2 true)) (eg8 _ _ _ _ _) (bOrP _ (B8.with (Qc _) _ _))<|nE hn<|coZ<|nR 3 hn<|kE (Ja b (JU (JU (JV b) 0 (isM s.f 0)) 2 true) (hAb).1 (hAb).2 (B8.with (B8.with (Qc _) _ _) _ _).1 (B8.with (B8.with (Qc _) _ _) _ _).2 _)<|nFs hn (.u_af _ (256*b+(JU (JU (JV b) 0 (isM s.f 0)) 2 true))) (hn.at_.ms.u_af (Wd16.mk8 (hAb) (B8.with (B8.with (Qc _) _ _) _ _)))<|fun w8 hn=>eoV ?_
   have e:QEW b s=s.u_af (256*b+(JU (JU (JV b) 0 (isM s.f 0)) 2 true)):=by
    unfold QEW
    repeat (first|rw[if_pos (by assumption)]|rw[if_neg (by assumption)])
    rw[show s.r.iff2=true from by assumption];rfl
   exact⟨rfl,e▸hn⟩
 have g6:¬s.r.iff2=true:=by simpa using h6
 refine JC<|eoT<|coZ<|nR 3 hn<|kE (Ja b (JU (JV b) 0 (isM s.f 0)) (hAb).1 (hAb).2 (B8.with (Qc _) _ _).1 (B8.with (Qc _) _ _).2 _)<|nFs hn (.u_af _ (256*b+(JU (JV b) 0 (isM s.f 0)))) (hn.at_.ms.u_af (Wd16.mk8 (hAb) (B8.with (Qc _) _ _)))<|fun w10 hn=>eoV ?_
 have e:QEW b s=s.u_af (256*b+(JU (JV b) 0 (isM s.f 0))):=by
  unfold QEW
  repeat (first|rw[if_pos (by assumption)]|rw[if_neg (by assumption)])
  rw[show s.r.iff2=false from by simpa using (by assumption:¬s.r.iff2=true),QN0];rfl
 exact⟨rfl,e▸hn⟩
theorem QB0  {s:Ms} {xs:List Int} {w:World} {p B:Nat}(h:AtN w p B s xs) :
 Calls Tryz.prog 267 #[pT p 0] w (OutV w p B ((Z5 s).run xs)):=by
 have hn:=NowN.begin h
 have hr:(Z5 s).run xs=(Z5 s).run xs:=rfl
 go_enter Tryz.func267,Tryz.ntmps267
 exact JA<|have b2:=hn.at_.ms.r.hl;coR<|nR 6 hn<|nI (qU s.r.hl (b2) hn.at_) hn hr<|fun v3 s3 xs3 w3 hk3 hn hr=>nE hn<|coR<|nR 1 hn<|nV (Jw 4 hn.at_) hn hr<|fun s5 xs5 w5 hn hr=>wT<|nQ hn<|have b8:=ZZ hn.at_.ms;coR<|nR 2 hn<|nA (m_a hn.at_) hn<|fun w9 hn=>have b10:=QN hn.at_.ms;nR 2 hn<|nA (m_f hn.at_) hn<|fun w11 hn=>nB (QMr (s5.y==4) s5.a v3 s5.f (b8) (hk3) (b10) _) hn<|fun w12 hn=>nE hn<|coR<|nR 3 hn<|kE (Ja (QB7 (s5.y==4) s5.a v3) (QBl (QB7 (s5.y==4) s5.a v3) (isM s5.f 0)) (zP _ _ _ (b8) (hk3)).1 (zP _ _ _ (b8) (hk3)).2 (QBZ _ _).1 (QBZ _ _).2 _)<|nEs hn (.u_af _ (256*(QB7 (s5.y==4) s5.a v3)+(QBl (QB7 (s5.y==4) s5.a v3) (isM s5.f 0)))) (hn.at_.ms.u_af (Wd16.mk8 (zP _ _ _ (b8) (hk3)) (QBZ _ _)))<|fun w15 hn=>have b17:=hn.at_.ms.r.hl;coR<|nR 7 hn<|nV (ZA ((s5.u_af (256*(QB7 (s5.y==4) s5.a v3)+(QBl (QB7 (s5.y==4) s5.a v3) (isM s5.f 0)))).r.hl) (b17) (QKB (s5.y==4) s5.a v3) (QM6 _ _ _ (b8) (hk3)) hn.at_) hn hr<|fun s18 xs18 w18 hn hr=>wT<|have b19:=hn.at_.ms.r.hl;coZ<|nFs hn (.u_wz _ ((s18.r.hl+1)%65536)) (hn.at_.ms.u_wz (Wd16.mod _))<|fun w20 hn=>eoV (OutV.ok (dN hr) hn)
theorem QMO  {s:Ms} {xs:List Int} {w:World} {p B:Nat}(h:AtN w p B s xs) :
 Calls Tryz.prog 218 #[pT p 0] w (OutV w p B ((QAA s).run xs)):=by
 have hn:=NowN.begin h
 have hr:(QAA s).run xs=(QAA s).run xs:=rfl
 go_enter Tryz.func218,Tryz.ntmps218
 refine JA<|nQ hn<|coB<|nQ hn<|nIf hr (fun g3 hr=>?_) fun g3 hr=>?_
 · exact coR<|nR 1 hn<|nV (Jw 1 hn.at_) hn hr<|fun s5 xs5 w5 hn hr=>wT<|have b6:=ZZ hn.at_.ms;coZ<|nR 2 hn<|nA (m_a hn.at_) hn<|fun w7 hn=>nFs hn (.u_i _ (s5.a)) (hn.at_.ms.u_i (b6))<|fun w8 hn=>eoB<|eoV (OutV.ok (dN hr) hn)
 refine nQ hn<|nIf hr (fun g10 hr=>?_) fun g10 hr=>?_
 · exact coR<|nR 1 hn<|nV (Jw 1 hn.at_) hn hr<|fun s12 xs12 w12 hn hr=>wT<|have b13:=ZZ hn.at_.ms;coZ<|nR 2 hn<|nA (m_a hn.at_) hn<|fun w14 hn=>nFs hn (.u_r _ (s12.a)) (hn.at_.ms.u_r (b13))<|fun w15 hn=>eoB<|eoV (OutV.ok (dN hr) hn)
 refine nQ hn<|nIf hr (fun g17 hr=>?_) fun g17 hr=>?_
 · exact coR<|nR 1 hn<|nV (Jw 1 hn.at_) hn hr<|fun s19 xs19 w19 hn hr=>wT<|have b20:=hn.at_.ms.r.i;coZ<|nR 6 hn<|nA (QQw s19.r.i (b20) hn.at_) hn<|fun w21 hn=>woE<|eoB<|eoV (OutV.ok (dN hr) hn)
 refine nQ hn<|nIf hr (fun g23 hr=>?_) fun g23 hr=>?_
 · exact coR<|nR 1 hn<|nV (Jw 1 hn.at_) hn hr<|fun s25 xs25 w25 hn hr=>wT<|have b26:=hn.at_.ms.r.r;coZ<|nR 6 hn<|nA (QQw s25.r.r (b26) hn.at_) hn<|fun w27 hn=>woE<|eoB<|eoV (OutV.ok (dN hr) hn)
 refine coS<|nQ hn<|coI (s.y==4) (fun h30=>?_) fun h30=>?_
 · have g30:s.y=4:=by simpa using h30
   exact have hr:=hr.trans (JD (.inl g30));JC<|eoT<|coJ (s.y==4) (fun h31=>absurd (h30.symm.trans h31) (by decide))<|fun h31=>coZ<|nR 1 hn<|nV (QB0 hn.at_) hn hr<|fun s32 xs32 w32 hn hr=>woE<|eoB<|eoV (OutV.ok (dN hr) hn)
 have g30:¬s.y=4:=by simpa using h30
 refine coZ<|nE hn<|coI (s.y==5) (fun h33=>?_) fun h33=>?_
 · have g33:s.y=5:=by simpa using h33
   exact have hr:=hr.trans (JD (.inr g33));coZ<|nR 1 hn<|nV (QB0 hn.at_) hn hr<|fun s34 xs34 w34 hn hr=>woE<|eoB<|eoV (OutV.ok (dN hr) hn)
 have g33:¬s.y=5:=by simpa using h33
 exact have hr:=hr.trans (JB (not_or.2 ⟨g30,g33⟩));JC<|eoB<|eoV (OutV.ok (dN hr) hn)
theorem QGB  {s:Ms} {xs:List Int} {w:World} {p B:Nat}(h:AtN w p B s xs) :
 Calls Tryz.prog 184 #[pT p 0] w (fun e w'=>e=.returned (.tuple #[])∧NowN w p B (s) xs w'):=by
 have hn:=NowN.begin h
 go_enter Tryz.func184,Tryz.ntmps184
 exact JA<|JC<|eoV (⟨rfl,hn⟩)
theorem QKu  {s:Ms} {xs:List Int} {w:World} {p B:Nat}(h:AtN w p B s xs) :
 Calls Tryz.prog 185 #[pT p 0] w (OutV w p B ((zH s).run xs)):=by
 have hn:=NowN.begin h
 have hr:(zH s).run xs=(zH s).run xs:=rfl
 go_enter Tryz.func185,Tryz.ntmps185
 refine wp_seq_k fun K1 hK1=>JG<|oM 4 (pT p 0)<|oN 5 p 0<|oF 6 (fM5 p)<|oL 7 (ldI (hn.at_.cell 24 (.int .i64 (s.z)) fun _ _ _=>rfl)) ?_
 refine Jg ?_
 try simp only[Act.put,sA,sB,sC]
 refine JW<|hK1 _ _ ?_
 refine wp_block ?_
 refine wp_seq_k fun K2 hK2=>JG<|oB 9 (egI _ _ _ _ _) (QCZ s.z 0)<|oA 8 (.bool (s.z==0)) ?_
 refine Jg ?_
 try simp only[Act.put,sA,sB,sC]
 refine JW<|hK2 _ _ ?_
 refine wp_cond_split (t:=s.z==0) (by kernel_rfl) (fun h3=>?_) (fun h3=>?_)
 · have g3:s.z=0:=by simpa using h3
   have hr:=hr.trans (JD g3)
   exact JA<|coZ<|nR 1 hn<|nVt (QPJ hn.at_) hn hr<|fun s4 xs4 w4 hn hr=>woE<|eoB<|eoV (OutV.ok (dN hr) hn)
 · have g3:¬s.z=0:=by simpa using h3
   have hr:=hr.trans (JB g3)
   refine wp_seq_k fun K5 hK5=>JG<|oB 13 (egI _ _ _ _ _) (QCZ s.z 1)<|oA 12 (.bool (s.z==1)) ?_
   refine Jg ?_
   try simp only[Act.put,sA,sB,sC]
   refine JW<|hK5 _ _ ?_
   refine wp_cond_split (t:=s.z==1) (by kernel_rfl) (fun h6=>?_) (fun h6=>?_)
   · have g6:s.z=1:=by simpa using h6
     have hr:=hr.trans (JD g6)
     exact JA<|coZ<|nR 1 hn<|nVt (QNL hn.at_) hn hr<|fun s7 xs7 w7 hn hr=>woE<|eoB<|eoV (OutV.ok (dN hr) hn)
   · have g6:¬s.z=1:=by simpa using h6
     have hr:=hr.trans (JB g6)
     refine wp_seq_k fun K8 hK8=>JG<|oB 17 (egI _ _ _ _ _) (QCZ s.z 2)<|oA 16 (.bool (s.z==2)) ?_
     refine Jg ?_
     try simp only[Act.put,sA,sB,sC]
     refine JW<|hK8 _ _ ?_
     refine wp_cond_split (t:=s.z==2) (by kernel_rfl) (fun h9=>?_) (fun h9=>?_)
     · have g9:s.z=2:=by simpa using h9
       have hr:=hr.trans (JD g9)
       exact JA<|coZ<|nR 1 hn<|nVt (QGu hn.at_) hn hr<|fun s10 xs10 w10 hn hr=>woE<|eoB<|eoV (OutV.ok (dN hr) hn)
     · have g9:¬s.z=2:=by simpa using h9
       have hr:=hr.trans (JB g9)
       refine wp_seq_k fun K11 hK11=>JG<|oB 21 (egI _ _ _ _ _) (QCZ s.z 3)<|oA 20 (.bool (s.z==3)) ?_
       refine Jg ?_
       try simp only[Act.put,sA,sB,sC]
       refine JW<|hK11 _ _ ?_
       refine wp_cond_split (t:=s.z==3) (by kernel_rfl) (fun h12=>?_) (fun h12=>?_)
       · have g12:s.z=3:=by simpa using h12
         have hr:=hr.trans (JD g12)
         exact JA<|coZ<|nR 1 hn<|nVt (QFf hn.at_) hn hr<|fun s13 xs13 w13 hn hr=>woE<|eoB<|eoV (OutV.ok (dN hr) hn)
       · have g12:¬s.z=3:=by simpa using h12
         have hr:=hr.trans (JB g12)
         refine wp_seq_k fun K14 hK14=>JG<|oB 25 (egI _ _ _ _ _) (QCZ s.z 4)<|oA 24 (.bool (s.z==4)) ?_
         refine Jg ?_
         try simp only[Act.put,sA,sB,sC]
         refine JW<|hK14 _ _ ?_
         refine wp_cond_split (t:=s.z==4) (by kernel_rfl) (fun h15=>?_) (fun h15=>?_)
         · have g15:s.z=4:=by simpa using h15
           have hr:=hr.trans (JD g15)
           exact JA<|have b17:=ZZ hn.at_.ms;coR<|nR 1 hn<|nA (m_a hn.at_) hn<|fun w18 hn=>nB (QSH s.a (b17) _) hn<|fun w19 hn=>nE hn<|coZ<|nR 3 hn<|kE (Ja (Qj 0 s.a false) (Qm 0 s.a false) (QA _ _ _).1 (QA _ _ _).2 (QB _ _ _).1 (QB _ _ _).2 _)<|nFs hn (.u_af _ (256*(Qj 0 s.a false)+(Qm 0 s.a false))) (hn.at_.ms.u_af (Wd16.mk8 (QA _ _ _) (QB _ _ _)))<|fun w21 hn=>eoB<|eoV (OutV.ok (dN hr) hn)
         · have g15:¬s.z=4:=by simpa using h15
           have hr:=hr.trans (JB g15)
           refine wp_seq_k fun K22 hK22=>JG<|oB 40 (egI _ _ _ _ _) (QCZ s.z 5)<|oA 39 (.bool (s.z==5)) ?_
           refine Jg ?_
           try simp only[Act.put,sA,sB,sC]
           refine JW<|hK22 _ _ ?_
           refine wp_cond_split (t:=s.z==5) (by kernel_rfl) (fun h23=>?_) (fun h23=>?_)
           · have g23:s.z=5:=by simpa using h23
             have hr:=hr.trans (JD g23)
             exact JA<|coR<|nR 2 hn<|nI (QI8 hn.at_) hn hr<|fun v25 s25 xs25 w25 hk25 hn hr=>nA (QCm v25 (hk25) hn.at_) hn<|fun w26 hn=>wT<|coZ<|nFs hn (.u_iff1 _ ((s25.goTo v25).r.iff2)) (hn.at_.ms.u_iff1)<|fun w27 hn=>eoB<|eoV (OutV.ok (dN hr) hn)
           · have g23:¬s.z=5:=by simpa using h23
             have hr:=hr.trans (JB g23)
             refine wp_seq_k fun K28 hK28=>JG<|oB 55 (egI _ _ _ _ _) (QCZ s.z 6)<|oA 54 (.bool (s.z==6)) ?_
             refine Jg ?_
             try simp only[Act.put,sA,sB,sC]
             refine JW<|hK28 _ _ ?_
             refine wp_cond_split (t:=s.z==6) (by kernel_rfl) (fun h29=>?_) (fun h29=>?_)
             · have g29:s.z=6:=by simpa using h29
               have hr:=hr.trans (JD g29)
               refine JG<|oM 56 (pT p 0)<|oM 57 (pT p 0)<|oN 58 p 0<|oF 59 (fM4 p)<|oL 60 (ldI (hn.at_.cell 23 (.int .i64 (s.y)) fun _ _ _=>rfl)) ?_
               rcases mod4 (s.y) with g30|g30|g30|g30
               · refine oB 61 (egI _ _ _ _ _) (QLo (hn.at_.ms.y.1) g30) ?_
                 have hr:=hr.trans (JB (by simp[g30,g29,g23,g15,g12,g9,g6,g3]))
                 have hr:=hr.trans (JB (by simp[g30,g29,g23,g15,g12,g9,g6,g3]))
                 refine oI 62 (pT 24 0) (.int .i64 (0)) (pT 24 0) (QVF _)<|oL 63 (ldI (hn.at_.tabs.modes.1))<|oN 64 p 0<|oF 65 (fM0 p)<|oF 66 (QR3 p) ?_
                 refine zt hn 19 (.int .i64 (0)) (s.u_mode (0)) rfl rfl rfl (by kernel_rfl) (by kernel_rfl) (stI (hn.at_.cell 19 _ fun _ _ _=>rfl) (hn.at_.frozen 19)) (QDx _ _) (hn.at_.ms.u_mode (⟨by decide,by decide⟩)) ?_
                 intro w31 hn
                 refine Jg ?_
                 try simp only[Act.put,sA,sB,sC]
                 refine jo ?_
                 refine jt rfl rfl ?_
                 exact OutV.ok (hr.trans (Tr.run_done _ _)) hn
               · refine oB 61 (egI _ _ _ _ _) (QLo (hn.at_.ms.y.1) g30) ?_
                 have hr:=hr.trans (JB (by simp[g30,g29,g23,g15,g12,g9,g6,g3]))
                 have hr:=hr.trans (JB (by simp[g30,g29,g23,g15,g12,g9,g6,g3]))
                 refine oI 62 (pT 24 0) (.int .i64 (1)) (pT 24 1) (QV9 _)<|oL 63 (ldI (hn.at_.tabs.modes.2.1))<|oN 64 p 0<|oF 65 (fM0 p)<|oF 66 (QR3 p) ?_
                 refine zt hn 19 (.int .i64 (0)) (s.u_mode (0)) rfl rfl rfl (by kernel_rfl) (by kernel_rfl) (stI (hn.at_.cell 19 _ fun _ _ _=>rfl) (hn.at_.frozen 19)) (QDx _ _) (hn.at_.ms.u_mode (⟨by decide,by decide⟩)) ?_
                 intro w32 hn
                 refine Jg ?_
                 try simp only[Act.put,sA,sB,sC]
                 refine jo ?_
                 refine jt rfl rfl ?_
                 exact OutV.ok (hr.trans (Tr.run_done _ _)) hn
               · refine oB 61 (egI _ _ _ _ _) (QLo (hn.at_.ms.y.1) g30) ?_
                 have hr:=hr.trans (JD g30)
                 refine oI 62 (pT 24 0) (.int .i64 (2)) (pT 24 2) (QVi _)<|oL 63 (ldI (hn.at_.tabs.modes.2.2.1))<|oN 64 p 0<|oF 65 (fM0 p)<|oF 66 (QR3 p) ?_
                 refine zt hn 19 (.int .i64 (1)) (s.u_mode (1)) rfl rfl rfl (by kernel_rfl) (by kernel_rfl) (stI (hn.at_.cell 19 _ fun _ _ _=>rfl) (hn.at_.frozen 19)) (QDx _ _) (hn.at_.ms.u_mode (⟨by decide,by decide⟩)) ?_
                 intro w33 hn
                 refine Jg ?_
                 try simp only[Act.put,sA,sB,sC]
                 refine jo ?_
                 refine jt rfl rfl ?_
                 exact OutV.ok (hr.trans (Tr.run_done _ _)) hn
               · refine oB 61 (egI _ _ _ _ _) (QLo (hn.at_.ms.y.1) g30) ?_
                 have hr:=hr.trans (JB (by simp[g30,g29,g23,g15,g12,g9,g6,g3]))
                 have hr:=hr.trans (JD g30)
                 refine oI 62 (pT 24 0) (.int .i64 (3)) (pT 24 3) (QVG _)<|oL 63 (ldI (hn.at_.tabs.modes.2.2.2))<|oN 64 p 0<|oF 65 (fM0 p)<|oF 66 (QR3 p) ?_
                 refine zt hn 19 (.int .i64 (2)) (s.u_mode (2)) rfl rfl rfl (by kernel_rfl) (by kernel_rfl) (stI (hn.at_.cell 19 _ fun _ _ _=>rfl) (hn.at_.frozen 19)) (QDx _ _) (hn.at_.ms.u_mode (⟨by decide,by decide⟩)) ?_
                 intro w34 hn
                 refine Jg ?_
                 try simp only[Act.put,sA,sB,sC]
                 refine jo ?_
                 refine jt rfl rfl ?_
                 exact OutV.ok (hr.trans (Tr.run_done _ _)) hn
             · have g29:¬s.z=6:=by simpa using h29
               have hr:=hr.trans (JB g29)
               refine JA<|nQ hn<|nIf hr (fun g36 hr=>?_) fun g36 hr=>?_
               · exact coZ<|nR 1 hn<|nVt (QMO hn.at_) hn hr<|fun s37 xs37 w37 hn hr=>woE<|eoB<|eoV (OutV.ok (dN hr) hn)
               exact JC<|eoB<|eoV (OutV.ok (dN hr) hn)
def OutF (w0:World)(p B:Nat)(vals:Array Value):Except Cy (Ms×List Int)→Ending→World→Prop
 | .ok (s,ys),e,w'=>e=.returned (.agg vals)∧NowN w0 p B s ys w'
 | .error c,e,w'=>e=.panicked [{ v:=.iface 30 (cyV c),recovered:=false }]∧BesC p c w0 w'
theorem OutF.ok {w0 w:World} {p B:Nat} {vals:Array Value} {X:Except Cy (Ms×List Int)} {s:Ms} {ys:List Int}(h:X=.ok (s,ys))(hn:NowN w0 p B s ys w):OutF w0 p B vals X (.returned (.agg vals)) w:=by
 subst h
 exact⟨rfl,hn⟩
theorem OutF.err {w0 w:World} {p B:Nat} {vals:Array Value} {X:Except Cy (Ms×List Int)} {c:Cy}(h:X=.error c)(hb:BesC p c w0 w):OutF w0 p B vals X (.panicked [{ v:=.iface 30 (cyV c),recovered:=false }]) w:=by
 subst h
 exact⟨rfl,hb⟩
@[reducible] def jD:Array Value:=#[.nilFunc,.nilFunc,.nilFunc,.nilFunc]
theorem zX:(Tryz.prog.info? 192).map (·.size)=some 4:=by kernel_rfl
theorem QHQ (w:World):(Instr.alloc 192 true (.tuple #[])).run Tryz.prog w=.ok (pT w.heap.size 0) (w.alloc (.cells jD 192)):=by
 simp[go_sem]
theorem Q3 {P:Program} {a:Act} {o:Oper} {t:TypeId} {w w':World} {V:Value}(ho:o.op=.alloc t)(h:(Instr.alloc t true (.tuple #[])).run P w=.ok V w'):(execOp a.eval o).run P w=.ok (.value V) w':=by
 unfold execOp
 simp only[ho,Sem.run_bind,h,Result.andThen_ok,Sem.run_pure]
theorem AtN.far {w:World} {p B L:Nat} {s:Ms} {xs:List Int}(h:AtN w p B s xs)(hp:L≠p)(hB:B≤L)(vs:List Value)(o:Nat):AtN (w.setCells L o vs) p B s xs:=by
 obtain⟨⟨A,cap,hc,hr,hby⟩,hl,h8,hm,ht⟩:=h
 have k:∀ b,b < B→(w.setCells L o vs).heap[b]? = w.heap[b]?:=fun b hlt=>QBJ L b (by omega) _ _ _
 exact⟨⟨A,cap,hc,hr.setFar (Ne.symm hp) vs o,hby.keep k⟩,hl,h8,hm,ht.keep k⟩
theorem NowN.far {w0 w:World} {p B L:Nat} {s:Ms} {xs:List Int}(h:NowN w0 p B s xs w)(hp:L≠p)(hB:B≤L)(h0:w0.heap.size≤L)(vs:List Value)(o:Nat):NowN w0 p B s xs (w.setCells L o vs) :=
 ⟨h.at_.far hp hB vs o,h.bes.setCells (.inr (.inr h0)) _ _⟩
theorem NowN.base {w w0 w':World} {p B:Nat} {s:Ms} {xs:List Int}(h:NowN w0 p B s xs w')(k:Besides p p w w0):NowN w p B s xs w':=⟨h.at_,k.trans h.bes⟩
theorem QO {P:Program} {a:Act} {o:Oper} {fn:Fn} {first cap:Array Operand} {fv cv:Array Value}(ho:o.op=.makeFunc fn first cap)(hf:first.map a.eval=fv)(hc:cap.map a.eval=cv)(w:World):(execOp a.eval o).run P w=.ok (.value (.func fn fv cv)) w:=by
 unfold execOp
 simp only[ho,hf,hc,Sem.run_bind,Sem.run_pure]
 rfl
end Go.Proofs.YtmgcgiecimnncaaGreatDoor
