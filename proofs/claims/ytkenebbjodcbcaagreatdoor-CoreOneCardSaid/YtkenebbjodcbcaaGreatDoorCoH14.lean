/- Contracts and facts that the claim's proof wants (several texts in one). -/
import Derived.Test.YtkenebbjodcbcaaGreatDoorCoH13
namespace Go.Proofs.YtkenebbjodcbcaaGreatDoor
open Go.RowKit
set_option linter.unusedVariables false
set_option linter.unusedSimpArgs false
set_option maxRecDepth 20000
set_option maxHeartbeats 20000000
theorem QJp  {s:Ms} {xs:List Int} {w:World} {p B:Nat}(h:AtN w p B s xs) :
 Calls Tryz.prog 91 #[pT p 0] w (OutF w p B #[.func (.func 126) #[pT p 0] #[],.func (.func 127) #[pT p 0] #[],.func (.func 128) #[pT p 0] #[],.func (.func 129) #[pT p 0] #[]] (((Zd s).bind fun c=>.done (c.2.split c.1)).run xs)):=by
 have hn:=NowN.begin h
 have hr:((Zd s).bind fun c=>.done (c.2.split c.1)).run xs=((Zd s).bind fun c=>.done (c.2.split c.1)).run xs:=rfl
 go_enter Tryz.func91,Tryz.ntmps91
 refine wp_seq_k fun K1 hK1=>JD ?_
 refine Jw 2 (pT w.heap.size 0) rfl (JN rfl) (Qg rfl (QHG _)) ?_
 have hL:=Row.new w 132 jw
 have hb0:Besides p p w (w.alloc (.cells jw 132)):=(Besides.refl ..).alloc _
 have hLp:w.heap.size≠p:=by have:=h.lt;omega
 have hLB:B≤w.heap.size:=by have:=h.lt;have:=h.low;omega
 have hn:=NowN.begin (h.below (Below.alloc (Below.refl _ _) (Nat.le_refl _) (.cells jw 132)))
 generalize w.alloc (.cells jw 132)=W1 at *
 refine JS ?_
 try simp only[Act.put,sA,sB,sC]
 refine JM<|hK1 _ _<|wp_seq_k fun K2 hK2=>JD<|oM 3 (pT p 0)<|oM 4 (pT p 0) ?_
 refine QBU hn rfl (by kernel_rfl) (QFS  hn.at_) (fun _ _ hX hb=>jo (Qv rfl (OutF.err (hr.trans (Tr.run_bind_error hX _)) (hb.after hb0)))) ?_
 intro v3 s3 xs3 w3 hX hk3 hn
 have hr:=hr.trans (Tr.run_bind_ok hX _)
 refine oC (.tuple #[]) (QHZ v3 (hk3) hn.at_) ?_
 intro w4 hk
 have hn:=hn.after hk
 refine JS ?_
 try simp only[Act.put,sA,sB,sC]
 refine JM<|hK2 _ _<|wp_seq_k fun K5 hK5=>JD<|oM 7 (pT p 0) ?_
 refine Jf 8 (.func (.func 126) #[pT p 0] #[]) rfl (JN rfl) (Qm rfl (by kernel_rfl) (by kernel_rfl) _) ?_
 refine oM 9 (pT p 0) ?_
 refine Jf 10 (.func (.func 127) #[pT p 0] #[]) rfl (JN rfl) (Qm rfl (by kernel_rfl) (by kernel_rfl) _) ?_
 refine oM 11 (pT p 0) ?_
 refine Jf 12 (.func (.func 128) #[pT p 0] #[]) rfl (JN rfl) (Qm rfl (by kernel_rfl) (by kernel_rfl) _) ?_
 refine oM 13 (pT p 0) ?_
 refine Jf 14 (.func (.func 129) #[pT p 0] #[]) rfl (JN rfl) (Qm rfl (by kernel_rfl) (by kernel_rfl) _) ?_
 refine oU 15 #[.func (.func 126) #[pT p 0] #[],.func (.func 127) #[pT p 0] #[],.func (.func 128) #[pT p 0] #[],.func (.func 129) #[pT p 0] #[]] ?_
 have hk:=hL.besides hn.bes hLp hLp
 refine Xo rfl (JN rfl) (Qy (ad:=⟨w.heap.size,0,none⟩) (V:=.agg #[.func (.func 126) #[pT p 0] #[],.func (.func 127) #[pT p 0] #[],.func (.func 128) #[pT p 0] #[],.func (.func 129) #[pT p 0] #[]]) rfl (by kernel_rfl) (by kernel_rfl) (run_storeAt_mid _ _ 0 _ #[.func (.func 126) #[pT p 0] #[],.func (.func 127) #[pT p 0] #[],.func (.func 128) #[pT p 0] #[],.func (.func 129) #[pT p 0] #[]] hk.there zK (by simp[Value.oneCell']))) ?_
 have hr4:=hk.setAll (vs:=#[.func (.func 126) #[pT p 0] #[],.func (.func 127) #[pT p 0] #[],.func (.func 128) #[pT p 0] #[],.func (.func 129) #[pT p 0] #[]]) rfl
 have hn:=(hn.base hb0).far hLp hLB (Nat.le_refl _) (#[.func (.func 126) #[pT p 0] #[],.func (.func 127) #[pT p 0] #[],.func (.func 128) #[pT p 0] #[],.func (.func 129) #[pT p 0] #[]]:Array Value).toList 0
 refine JS ?_
 try simp only[Act.put,sA,sB,sC]
 refine JM<|hK5 _ _ ?_
 refine wp_ret ?_
 refine bodyPost_ret (Qk rfl rfl hr4 _ Tryz.underlying132 rfl zK) rfl ?_
 exact OutF.ok (hr.trans (Tr.run_done _ _)) hn
theorem QKa  {s:Ms} {xs:List Int} {w:World} {p B:Nat}(h:AtN w p B s xs) :
 Calls Tryz.prog 92 #[pT p 0] w (OutF w p B #[.func (.func 130) #[pT p 0] #[],.func (.func 131) #[pT p 0] #[],.func (.func 132) #[pT p 0] #[],.func (.func 130) #[pT p 0] #[]] (((Jd (s.u_plane 0)).bind fun c=>.done (c.2.split c.1)).run xs)):=by
 have hn:=NowN.begin h
 have hr:((Jd (s.u_plane 0)).bind fun c=>.done (c.2.split c.1)).run xs=((Jd (s.u_plane 0)).bind fun c=>.done (c.2.split c.1)).run xs:=rfl
 go_enter Tryz.func92,Tryz.ntmps92
 refine wp_seq_k fun K1 hK1=>JD ?_
 refine Jw 2 (pT w.heap.size 0) rfl (JN rfl) (Qg rfl (QHG _)) ?_
 have hL:=Row.new w 132 jw
 have hb0:Besides p p w (w.alloc (.cells jw 132)):=(Besides.refl ..).alloc _
 have hLp:w.heap.size≠p:=by have:=h.lt;omega
 have hLB:B≤w.heap.size:=by have:=h.lt;have:=h.low;omega
 have hn:=NowN.begin (h.below (Below.alloc (Below.refl _ _) (Nat.le_refl _) (.cells jw 132)))
 generalize w.alloc (.cells jw 132)=W1 at *
 refine JS ?_
 try simp only[Act.put,sA,sB,sC]
 refine JM<|hK1 _ _<|wp_seq_k fun K2 hK2=>JD<|oM 3 (pT p 0)<|oN 4 p 0<|oF 5 (fM2 p) ?_
 refine zy hn 21 (.int .i64 (0)) (s.u_plane (0)) rfl rfl rfl (by kernel_rfl) (by kernel_rfl) (stI (hn.at_.cell 21 _ fun _ _ _=>rfl) (hn.at_.frozen 21)) (QAb _ _) (hn.at_.ms.u_plane ((by decide))) ?_
 intro w3 hn
 refine JS ?_
 try simp only[Act.put,sA,sB,sC]
 refine JM<|hK2 _ _<|wp_seq_k fun K4 hK4=>JD<|oM 6 (pT p 0)<|oM 7 (pT p 0) ?_
 refine QBU hn rfl (by kernel_rfl) (QAx  hn.at_) (fun _ _ hX hb=>jo (Qv rfl (OutF.err (hr.trans (Tr.run_bind_error hX _)) (hb.after hb0)))) ?_
 intro v5 s5 xs5 w5 hX hk5 hn
 have hr:=hr.trans (Tr.run_bind_ok hX _)
 refine oC (.tuple #[]) (QHZ v5 (hk5) hn.at_) ?_
 intro w6 hk
 have hn:=hn.after hk
 refine JS ?_
 try simp only[Act.put,sA,sB,sC]
 refine JM<|hK4 _ _<|wp_seq_k fun K7 hK7=>JD<|oM 10 (pT p 0) ?_
 refine Jf 11 (.func (.func 130) #[pT p 0] #[]) rfl (JN rfl) (Qm rfl (by kernel_rfl) (by kernel_rfl) _) ?_
 refine oM 12 (pT p 0) ?_
 refine Jf 13 (.func (.func 131) #[pT p 0] #[]) rfl (JN rfl) (Qm rfl (by kernel_rfl) (by kernel_rfl) _) ?_
 refine oM 14 (pT p 0) ?_
 refine Jf 15 (.func (.func 132) #[pT p 0] #[]) rfl (JN rfl) (Qm rfl (by kernel_rfl) (by kernel_rfl) _) ?_
 refine oM 16 (pT p 0) ?_
 refine Jf 17 (.func (.func 130) #[pT p 0] #[]) rfl (JN rfl) (Qm rfl (by kernel_rfl) (by kernel_rfl) _) ?_
 refine oU 18 #[.func (.func 130) #[pT p 0] #[],.func (.func 131) #[pT p 0] #[],.func (.func 132) #[pT p 0] #[],.func (.func 130) #[pT p 0] #[]] ?_
 have hk:=hL.besides hn.bes hLp hLp
 refine Xo rfl (JN rfl) (Qy (ad:=⟨w.heap.size,0,none⟩) (V:=.agg #[.func (.func 130) #[pT p 0] #[],.func (.func 131) #[pT p 0] #[],.func (.func 132) #[pT p 0] #[],.func (.func 130) #[pT p 0] #[]]) rfl (by kernel_rfl) (by kernel_rfl) (run_storeAt_mid _ _ 0 _ #[.func (.func 130) #[pT p 0] #[],.func (.func 131) #[pT p 0] #[],.func (.func 132) #[pT p 0] #[],.func (.func 130) #[pT p 0] #[]] hk.there zK (by simp[Value.oneCell']))) ?_
 have hr4:=hk.setAll (vs:=#[.func (.func 130) #[pT p 0] #[],.func (.func 131) #[pT p 0] #[],.func (.func 132) #[pT p 0] #[],.func (.func 130) #[pT p 0] #[]]) rfl
 have hn:=(hn.base hb0).far hLp hLB (Nat.le_refl _) (#[.func (.func 130) #[pT p 0] #[],.func (.func 131) #[pT p 0] #[],.func (.func 132) #[pT p 0] #[],.func (.func 130) #[pT p 0] #[]]:Array Value).toList 0
 refine JS ?_
 try simp only[Act.put,sA,sB,sC]
 refine JM<|hK7 _ _ ?_
 refine wp_ret ?_
 refine bodyPost_ret (Qk rfl rfl hr4 _ Tryz.underlying132 rfl zK) rfl ?_
 exact OutF.ok (hr.trans (Tr.run_done _ _)) hn
theorem QRS (c:Int)(hAc:B8 c){s:Ms} {xs:List Int} {w:World} {p B:Nat}(h:AtN w p B s xs) :
 Calls Tryz.prog 93 #[pT p 0,.int .u8 (c)] w (OutF w p B #[.func (.func 136) #[pT p 0] #[],.func (.func 137) #[pT p 0] #[],.func (.func 138) #[pT p 0] #[],.func (.func 139) #[pT p 0] #[]] ((Xg c s).run xs)):=by
 have hn:=NowN.begin h
 have hr:(Xg c s).run xs=(Xg c s).run xs:=rfl
 go_enter Tryz.func93,Tryz.ntmps93
 refine wp_seq_k fun K1 hK1=>JD ?_
 refine Jw 4 (pT w.heap.size 0) rfl (JN rfl) (Qg rfl (QHG _)) ?_
 have hL:=Row.new w 132 jw
 have hb0:Besides p p w (w.alloc (.cells jw 132)):=(Besides.refl ..).alloc _
 have hLp:w.heap.size≠p:=by have:=h.lt;omega
 have hLB:B≤w.heap.size:=by have:=h.lt;have:=h.low;omega
 have hn:=NowN.begin (h.below (Below.alloc (Below.refl _ _) (Nat.le_refl _) (.cells jw 132)))
 generalize w.alloc (.cells jw 132)=W1 at *
 refine JS ?_
 try simp only[Act.put,sA,sB,sC]
 refine JM<|hK1 _ _<|wp_seq_k fun K2 hK2=>JD<|oM 5 (pT p 0)<|oM 6 (.int .u8 (c))<|oC (.tuple #[]) (QHZ c (hAc) hn.at_) ?_
 intro w3 hk
 have hn:=hn.after hk
 refine JS ?_
 try simp only[Act.put,sA,sB,sC]
 refine JM<|hK2 _ _<|wp_seq_k fun K4 hK4=>wp_seq_k fun K5 hK5=>JD<|oM 8 (pT p 0)<|oN 9 p 0<|oF 10 (fM2 p)<|oL 11 (ldI (hn.at_.cell 21 (.int .i64 ((s.split c).plane)) fun _ _ _=>rfl))<|oM 12 (.int .u8 (c))<|oC (.bool (XT ((s.split c).plane) c)) (QM8 ((s.split c).plane) c (hAc) _) ?_
 rintro _ rfl
 refine JS ?_
 try simp only[Act.put,sA,sB,sC]
 refine JM<|hK5 _ _ ?_
 refine wp_cond_split (t:=XT ((s.split c).plane) c) (by kernel_rfl) (fun h7=>?_) (fun h7=>?_)
 · skip
   have g7:XT ((s.split c).plane) c=true:=by simpa using h7
   have hr:=hr.trans (JK g7)
   refine wp_seq_k fun K8 hK8=>JD<|oM 14 (pT p 0) ?_
   refine ZE hn rfl (by kernel_rfl) (QRn  hn.at_) (fun _ _ hX hb=>jo (jo (Qv rfl (OutF.err (hr.trans (Tr.run_bind_error hX _)) (hb.after hb0))))) ?_
   intro s9 xs9 w9 hX hn
   have hr:=hr.trans (Tr.run_bind_ok hX _)
   refine JS ?_
   try simp only[Act.put,sA,sB,sC]
   refine JM<|hK8 _ _<|wp_seq_k fun K10 hK10=>JD<|oM 16 (pT p 0)<|oN 17 p 0<|oF 18 (fM3 p)<|oL 19 (ldI (hn.at_.cell 22 (.int .i64 (s9.x)) fun _ _ _=>rfl))<|oB 20 (egI _ _ _ _ _) (QPq s9.x 0)<|oM 21 (.bool (s9.x != 0)) ?_
   rcases Bool.eq_false_or_eq_true (s9.x != 0) with h11|h11
   · skip
     have g11:¬s9.x=0:=by simpa using h11
     rewrite [h11]
     refine oZ 22<|oZ 23<|oZ 24<|oZ 25<|oZ 26<|oP 27 (.bool (true)) true ?_
     refine JS ?_
     try simp only[Act.put,sA,sB,sC]
     refine JM<|hK10 _ _ ?_
     refine wp_cond_true (by kernel_rfl) ?_
     have hr:=hr.trans (JK (.inl g11))
     refine JD<|oM 28 (pT p 0) ?_
     refine ZE hn rfl (by kernel_rfl) (QK 5 hn.at_) (fun _ _ hX hb=>jo (Qv rfl (OutF.err (hr.trans (Tr.run_bind_error hX _)) (hb.after hb0)))) ?_
     intro s12 xs12 w12 hX hn
     have hr:=hr.trans (Tr.run_bind_ok hX _)
     refine JS ?_
     try simp only[Act.put,sA,sB,sC]
     refine JM<|hK4 _ _<|wp_seq_k fun K13 hK13=>JD<|oM 30 (pT p 0) ?_
     refine Jf 31 (.func (.func 136) #[pT p 0] #[]) rfl (JN rfl) (Qm rfl (by kernel_rfl) (by kernel_rfl) _) ?_
     refine oM 32 (pT p 0) ?_
     refine Jf 33 (.func (.func 137) #[pT p 0] #[]) rfl (JN rfl) (Qm rfl (by kernel_rfl) (by kernel_rfl) _) ?_
     refine oM 34 (pT p 0) ?_
     refine Jf 35 (.func (.func 138) #[pT p 0] #[]) rfl (JN rfl) (Qm rfl (by kernel_rfl) (by kernel_rfl) _) ?_
     refine oM 36 (pT p 0) ?_
     refine Jf 37 (.func (.func 139) #[pT p 0] #[]) rfl (JN rfl) (Qm rfl (by kernel_rfl) (by kernel_rfl) _) ?_
     refine oU 38 #[.func (.func 136) #[pT p 0] #[],.func (.func 137) #[pT p 0] #[],.func (.func 138) #[pT p 0] #[],.func (.func 139) #[pT p 0] #[]] ?_
     have hk:=hL.besides hn.bes hLp hLp
     refine Xo rfl (JN rfl) (Qy (ad:=⟨w.heap.size,0,none⟩) (V:=.agg #[.func (.func 136) #[pT p 0] #[],.func (.func 137) #[pT p 0] #[],.func (.func 138) #[pT p 0] #[],.func (.func 139) #[pT p 0] #[]]) rfl (by kernel_rfl) (by kernel_rfl) (run_storeAt_mid _ _ 0 _ #[.func (.func 136) #[pT p 0] #[],.func (.func 137) #[pT p 0] #[],.func (.func 138) #[pT p 0] #[],.func (.func 139) #[pT p 0] #[]] hk.there zK (by simp[Value.oneCell']))) ?_
     have hr4:=hk.setAll (vs:=#[.func (.func 136) #[pT p 0] #[],.func (.func 137) #[pT p 0] #[],.func (.func 138) #[pT p 0] #[],.func (.func 139) #[pT p 0] #[]]) rfl
     have hn:=(hn.base hb0).far hLp hLB (Nat.le_refl _) (#[.func (.func 136) #[pT p 0] #[],.func (.func 137) #[pT p 0] #[],.func (.func 138) #[pT p 0] #[],.func (.func 139) #[pT p 0] #[]]:Array Value).toList 0
     refine JS ?_
     try simp only[Act.put,sA,sB,sC]
     refine JM<|hK13 _ _ ?_
     refine wp_ret ?_
     refine bodyPost_ret (Qk rfl rfl hr4 _ Tryz.underlying132 rfl zK) rfl ?_
     exact OutF.ok (hr.trans (Tr.run_done _ _)) hn
   · skip
     have g11:s9.x=0:=by simpa using h11
     rewrite [h11]
     refine oY 22 (pT p 0)<|oT 23 (pT p 0) (QCC (ad:=⟨p,0,none⟩) rfl (by kernel_rfl) _)<|oT 24 (pT p 24) (ZL (V:=pT p 0) (R:=pT p 24) rfl (by kernel_rfl) (fM5 p) _)<|oT 25 (.int .i64 (s9.z)) (jC rfl (by kernel_rfl) (ldI (hn.at_.cell 24 (.int .i64 (s9.z)) fun _ _ _=>rfl)))<|oT 26 (.bool (s9.z != 6)) (QDC (V:=.int .i64 (s9.z)) (W:=.int .i64 (6)) (R:=.bool (s9.z != 6)) rfl (by kernel_rfl) (by kernel_rfl) (egI _ _ _ _ _) (QPq s9.z 6) _)<|oP 27 (.bool (s9.z != 6)) false ?_
     refine JS ?_
     try simp only[Act.put,sA,sB,sC]
     refine JM<|hK10 _ _ ?_
     refine wp_cond_split (t:=s9.z != 6) (by kernel_rfl) (fun h14=>?_) (fun h14=>?_)
     · skip
       have g14:¬s9.z=6:=by simpa using h14
       have hr:=hr.trans (JK (.inr g14))
       refine JD<|oM 28 (pT p 0) ?_
       refine ZE hn rfl (by kernel_rfl) (QK 5 hn.at_) (fun _ _ hX hb=>jo (Qv rfl (OutF.err (hr.trans (Tr.run_bind_error hX _)) (hb.after hb0)))) ?_
       intro s15 xs15 w15 hX hn
       have hr:=hr.trans (Tr.run_bind_ok hX _)
       refine JS ?_
       try simp only[Act.put,sA,sB,sC]
       refine JM<|hK4 _ _<|wp_seq_k fun K16 hK16=>JD<|oM 30 (pT p 0) ?_
       refine Jf 31 (.func (.func 136) #[pT p 0] #[]) rfl (JN rfl) (Qm rfl (by kernel_rfl) (by kernel_rfl) _) ?_
       refine oM 32 (pT p 0) ?_
       refine Jf 33 (.func (.func 137) #[pT p 0] #[]) rfl (JN rfl) (Qm rfl (by kernel_rfl) (by kernel_rfl) _) ?_
       refine oM 34 (pT p 0) ?_
       refine Jf 35 (.func (.func 138) #[pT p 0] #[]) rfl (JN rfl) (Qm rfl (by kernel_rfl) (by kernel_rfl) _) ?_
       refine oM 36 (pT p 0) ?_
       refine Jf 37 (.func (.func 139) #[pT p 0] #[]) rfl (JN rfl) (Qm rfl (by kernel_rfl) (by kernel_rfl) _) ?_
       refine oU 38 #[.func (.func 136) #[pT p 0] #[],.func (.func 137) #[pT p 0] #[],.func (.func 138) #[pT p 0] #[],.func (.func 139) #[pT p 0] #[]] ?_
       have hk:=hL.besides hn.bes hLp hLp
       refine Xo rfl (JN rfl) (Qy (ad:=⟨w.heap.size,0,none⟩) (V:=.agg #[.func (.func 136) #[pT p 0] #[],.func (.func 137) #[pT p 0] #[],.func (.func 138) #[pT p 0] #[],.func (.func 139) #[pT p 0] #[]]) rfl (by kernel_rfl) (by kernel_rfl) (run_storeAt_mid _ _ 0 _ #[.func (.func 136) #[pT p 0] #[],.func (.func 137) #[pT p 0] #[],.func (.func 138) #[pT p 0] #[],.func (.func 139) #[pT p 0] #[]] hk.there zK (by simp[Value.oneCell']))) ?_
       have hr4:=hk.setAll (vs:=#[.func (.func 136) #[pT p 0] #[],.func (.func 137) #[pT p 0] #[],.func (.func 138) #[pT p 0] #[],.func (.func 139) #[pT p 0] #[]]) rfl
       have hn:=(hn.base hb0).far hLp hLB (Nat.le_refl _) (#[.func (.func 136) #[pT p 0] #[],.func (.func 137) #[pT p 0] #[],.func (.func 138) #[pT p 0] #[],.func (.func 139) #[pT p 0] #[]]:Array Value).toList 0
       refine JS ?_
       try simp only[Act.put,sA,sB,sC]
       refine JM<|hK16 _ _ ?_
       refine wp_ret ?_
       refine bodyPost_ret (Qk rfl rfl hr4 _ Tryz.underlying132 rfl zK) rfl ?_
       exact OutF.ok (hr.trans (Tr.run_done _ _)) hn
     · skip
       have g14:s9.z=6:=by simpa using h14
       have hr:=hr.trans (JG (by simp[g14,g11,g7]))
       refine wp_skip ?_
       refine JM<|hK4 _ _<|wp_seq_k fun K17 hK17=>JD<|oM 30 (pT p 0) ?_
       refine Jf 31 (.func (.func 136) #[pT p 0] #[]) rfl (JN rfl) (Qm rfl (by kernel_rfl) (by kernel_rfl) _) ?_
       refine oM 32 (pT p 0) ?_
       refine Jf 33 (.func (.func 137) #[pT p 0] #[]) rfl (JN rfl) (Qm rfl (by kernel_rfl) (by kernel_rfl) _) ?_
       refine oM 34 (pT p 0) ?_
       refine Jf 35 (.func (.func 138) #[pT p 0] #[]) rfl (JN rfl) (Qm rfl (by kernel_rfl) (by kernel_rfl) _) ?_
       refine oM 36 (pT p 0) ?_
       refine Jf 37 (.func (.func 139) #[pT p 0] #[]) rfl (JN rfl) (Qm rfl (by kernel_rfl) (by kernel_rfl) _) ?_
       refine oU 38 #[.func (.func 136) #[pT p 0] #[],.func (.func 137) #[pT p 0] #[],.func (.func 138) #[pT p 0] #[],.func (.func 139) #[pT p 0] #[]] ?_
       have hk:=hL.besides hn.bes hLp hLp
       refine Xo rfl (JN rfl) (Qy (ad:=⟨w.heap.size,0,none⟩) (V:=.agg #[.func (.func 136) #[pT p 0] #[],.func (.func 137) #[pT p 0] #[],.func (.func 138) #[pT p 0] #[],.func (.func 139) #[pT p 0] #[]]) rfl (by kernel_rfl) (by kernel_rfl) (run_storeAt_mid _ _ 0 _ #[.func (.func 136) #[pT p 0] #[],.func (.func 137) #[pT p 0] #[],.func (.func 138) #[pT p 0] #[],.func (.func 139) #[pT p 0] #[]] hk.there zK (by simp[Value.oneCell']))) ?_
       have hr4:=hk.setAll (vs:=#[.func (.func 136) #[pT p 0] #[],.func (.func 137) #[pT p 0] #[],.func (.func 138) #[pT p 0] #[],.func (.func 139) #[pT p 0] #[]]) rfl
       have hn:=(hn.base hb0).far hLp hLB (Nat.le_refl _) (#[.func (.func 136) #[pT p 0] #[],.func (.func 137) #[pT p 0] #[],.func (.func 138) #[pT p 0] #[],.func (.func 139) #[pT p 0] #[]]:Array Value).toList 0
       refine JS ?_
       try simp only[Act.put,sA,sB,sC]
       refine JM<|hK17 _ _ ?_
       refine wp_ret ?_
       refine bodyPost_ret (Qk rfl rfl hr4 _ Tryz.underlying132 rfl zK) rfl ?_
       exact OutF.ok (hr.trans (Tr.run_done _ _)) hn
 · skip
   have g7:¬XT ((s.split c).plane) c=true:=by simpa using h7
   have hr:=hr.trans (JG g7)
   refine wp_skip ?_
   refine JM<|hK4 _ _<|wp_seq_k fun K18 hK18=>JD<|oM 30 (pT p 0) ?_
   refine Jf 31 (.func (.func 136) #[pT p 0] #[]) rfl (JN rfl) (Qm rfl (by kernel_rfl) (by kernel_rfl) _) ?_
   refine oM 32 (pT p 0) ?_
   refine Jf 33 (.func (.func 137) #[pT p 0] #[]) rfl (JN rfl) (Qm rfl (by kernel_rfl) (by kernel_rfl) _) ?_
   refine oM 34 (pT p 0) ?_
   refine Jf 35 (.func (.func 138) #[pT p 0] #[]) rfl (JN rfl) (Qm rfl (by kernel_rfl) (by kernel_rfl) _) ?_
   refine oM 36 (pT p 0) ?_
   refine Jf 37 (.func (.func 139) #[pT p 0] #[]) rfl (JN rfl) (Qm rfl (by kernel_rfl) (by kernel_rfl) _) ?_
   refine oU 38 #[.func (.func 136) #[pT p 0] #[],.func (.func 137) #[pT p 0] #[],.func (.func 138) #[pT p 0] #[],.func (.func 139) #[pT p 0] #[]] ?_
   have hk:=hL.besides hn.bes hLp hLp
   refine Xo rfl (JN rfl) (Qy (ad:=⟨w.heap.size,0,none⟩) (V:=.agg #[.func (.func 136) #[pT p 0] #[],.func (.func 137) #[pT p 0] #[],.func (.func 138) #[pT p 0] #[],.func (.func 139) #[pT p 0] #[]]) rfl (by kernel_rfl) (by kernel_rfl) (run_storeAt_mid _ _ 0 _ #[.func (.func 136) #[pT p 0] #[],.func (.func 137) #[pT p 0] #[],.func (.func 138) #[pT p 0] #[],.func (.func 139) #[pT p 0] #[]] hk.there zK (by simp[Value.oneCell']))) ?_
   have hr4:=hk.setAll (vs:=#[.func (.func 136) #[pT p 0] #[],.func (.func 137) #[pT p 0] #[],.func (.func 138) #[pT p 0] #[],.func (.func 139) #[pT p 0] #[]]) rfl
   have hn:=(hn.base hb0).far hLp hLB (Nat.le_refl _) (#[.func (.func 136) #[pT p 0] #[],.func (.func 137) #[pT p 0] #[],.func (.func 138) #[pT p 0] #[],.func (.func 139) #[pT p 0] #[]]:Array Value).toList 0
   refine JS ?_
   try simp only[Act.put,sA,sB,sC]
   refine JM<|hK18 _ _ ?_
   refine wp_ret ?_
   refine bodyPost_ret (Qk rfl rfl hr4 _ Tryz.underlying132 rfl zK) rfl ?_
   exact OutF.ok (hr.trans (Tr.run_done _ _)) hn
def QO2 (p:Nat)(w:World):Nat:=match w.cell? ⟨p,20,none⟩ with|some (.slice _ n _)=>n|_=>0
theorem AtN.len {w:World} {p B:Nat} {s:Ms} {xs:List Int}(h:AtN w p B s xs):QO2 p w=xs.length:=by
 obtain⟨A,cap,hc,hr,hb⟩:=h.row
 have e:w.cell? ⟨p,20,none⟩=some (.slice A xs.length cap):=hr.cell 20
 unfold QO2
 rw[e]
section
variable {ops:Array Oper} {Q:Exit→Act→World→Prop} {a:Act} {w w0 W1:World} {o:Oper} {rest:List Oper} {p B L:Nat} {s:Ms} {xs:List Int} {x y:Operand}
theorem QPl (d:Tmp)(hn:NowN w0 p B s xs w)(hd:o.dst=some d)(hg:o.guard=none)(ho:o.op=.alloc 132)
 (h:∀ w' L,L≠p→B≤L→w0.heap.size≤L→Row w' L 132 jw→AtN w' p B s xs→Besides p p w0 w'→WL Tryz.prog ops Q rest (a.put (some d) (pT L 0)) w'):WL Tryz.prog ops Q (o :: rest) a w:=by
 have hlt:=hn.at_.lt
 have hlow:=hn.at_.low
 refine Jw d (pT w.heap.size 0) hd (JN hg) (Qg ho (QHG _)) ?_
 exact h _ _ (by omega) (by omega) hn.bes.size (Row.new w _ jw) (hn.at_.below (Below.alloc (Below.refl _ _) (Nat.le_refl _) _)) (hn.bes.alloc _)
theorem QPd (hn:NowN W1 p B s xs w)(hb0:Besides p p w0 W1)(hL:Row W1 L 132 jw)(hLp:L≠p)(hLB:B≤L)(hL0:w0.heap.size≤L)(vals:Array Value)(hv:vals.size=4)(h1:vals.all (·.oneCell')=true)
 (hd:o.dst=none)(hg:o.guard=none)(ho:o.op=.store 132 x y)(hx:a.eval x=pT L 0)(hy:a.eval y=.agg vals)
 (h:∀ w',Row w' L 132 vals→NowN w0 p B s xs w'→WL Tryz.prog ops Q rest (a.put none undef) w'):WL Tryz.prog ops Q (o :: rest) a w:=by
 have hk:=hL.besides hn.bes hLp hLp
 refine Xo hd (JN hg) (Qy ho hx hy (run_storeAt_mid w L 0 _ vals (by rw[hv];exact hk.there) (by rw[hv];exact zK) h1)) ?_
 exact h _ (hk.setAll (by rw[hv];rfl)) ((hn.base hb0).far hLp hLB hL0 _ _)
theorem QKC {vals:Array Value} {X:Except Cy (Ms×List Int)} {g:FuncId} {args:Array Value}(hn:NowN w0 p B s xs w)(hg:o.guard=none)(he:(execOp a.eval o).run Tryz.prog w=.ok (.enter g args) w)(hc:Calls Tryz.prog g args w (OutF w p B vals X))
 (hP:∀ c w',X=.error c→BesC p c w0 w'→Q (.panic [{ v:=.iface 29 (cyV c),recovered:=false }]) a w')
 (hK:∀ s ys w',X=.ok (s,ys)→NowN w0 p B s ys w'→WL Tryz.prog ops Q rest (a.put o.dst (.agg vals)) w'):WL Tryz.prog ops Q (o :: rest) a w :=
 Q9 (JN hg) he hc fun e w' ho=>by
  rcases X with c|⟨s,ys⟩
  · obtain⟨rfl,hb⟩:=ho
    exact hP c w' rfl (hb.after hn.bes)
  · obtain⟨rfl,hN⟩:=ho
    exact hK s ys w' rfl (hn.after hN)
end
theorem QKd (L:Nat)(w:World):(Instr.indexAt 132 (pT L 0) (.int .i64 0)).run Tryz.prog w=.ok (pT L 0) w:=by simp[go_sem,Addr.add]
theorem QKo (L:Nat)(w:World):(Instr.indexAt 132 (pT L 0) (.int .i64 1)).run Tryz.prog w=.ok (pT L 1) w:=by simp[go_sem,Addr.add]
theorem QJ9 (L:Nat)(w:World):(Instr.indexAt 132 (pT L 0) (.int .i64 2)).run Tryz.prog w=.ok (pT L 2) w:=by simp[go_sem,Addr.add]
theorem QKP (L:Nat)(w:World):(Instr.indexAt 132 (pT L 0) (.int .i64 3)).run Tryz.prog w=.ok (pT L 3) w:=by simp[go_sem,Addr.add]
theorem ldF {w:World} {ad:Addr} {V:Value}(h:w.cell? ad=some V):(Instr.loadAt 1 (.pointer (some ad))).run Tryz.prog w=.ok V w:=by simp[go_sem,h]
theorem QJn {s:Ms}(h:MsB s):s.x=0∨s.x=1∨s.x=2∨s.x=3:=by have:=h.x;omega
theorem AtN.isX {w:World} {p B:Nat} {s:Ms} {xs:List Int}(h:AtN w p B s xs){k:Int}(hx:s.x=k):w.cell? ⟨p,22,none⟩=some (.int .i64 k):=by
 subst hx
 exact h.cell 22 _ fun _ _ _=>rfl
theorem qz (c:Int)(hAc:B8 c){s:Ms} {xs:List Int} {w:World} {p B:Nat}(h:AtN w p B s xs) :
 Calls Tryz.prog 74 #[pT p 0,.int .u8 (c)] w (OutV w p B (XK xs c s.noLate)):=by
 have hn:=NowN.begin h
 go_enter Tryz.func74,Tryz.ntmps74
 refine wp_seq_k fun K1 hK1=>JD<|oM 5 (pT p 0)<|oN 6 p 0<|oF 7 (fM0 p)<|oF 8 (QSw p) ?_
 refine zy hn 18 (.bool (false)) (s.u_late (false)) rfl rfl rfl (by kernel_rfl) (by kernel_rfl) (stB (hn.at_.cell 18 _ fun _ _ _=>rfl) (hn.at_.frozen 18)) (QQA _ _) (hn.at_.ms.u_late) ?_
 intro w2 hn
 refine JS ?_
 try simp only[Act.put,sA,sB,sC]
 refine JM<|hK1 _ _<|wp_seq_k fun K3 hK3=>?_
 refine wp_block ?_
 refine wp_loop (fun a' w'=>∃ (c1:Int) (s1:Ms) (xs1:List Int) (y9 y10 y11 y12 y13 y14 y15 y16 y17 y18 y19 y20 y21 y22 y23 y24:Value),a'={ tmps:=#[pT p 0,.int .u8 c1,undef,undef,undef,pT p 0,pT p 0,pT p 0,pT p 18,y9,y10,y11,y12,y13,y14,y15,y16,y17,y18,y19,y20,y21,y22,y23,y24,undef,undef,undef,undef,undef,undef,undef,undef,undef,undef,undef,undef,undef,undef,undef,undef,undef,undef,undef,undef,undef,undef,undef,undef,undef,undef,undef],defers:=[] }∧NowN w p B s1 xs1 w'∧B8 c1∧XK xs c (s.u_late (false))=XK xs1 c1 s1) (fun _ w'=>QO2 p w') ⟨c,s.u_late (false),xs,undef,undef,undef,undef,undef,undef,undef,undef,undef,undef,undef,undef,undef,undef,undef,undef,rfl,hn,hAc,rfl⟩ ?_
 rintro a1 w1 ⟨c1,s1,xs1,y9,y10,y11,y12,y13,y14,y15,y16,y17,y18,y19,y20,y21,y22,y23,y24,rfl,hn,hc1,hX0⟩
 have hl1:=hn.at_.len
 refine wp_seq_k fun K4 hK4=>wp_seq_k fun K5 hK5=>JD<|oM 9 (.int .u8 (c1))<|oB 10 (eg8 _ _ _ _ _) (QBq c1 221)<|oM 11 (.bool (c1==221)) ?_
 rcases Bool.eq_false_or_eq_true (c1==221) with h6|h6
 · skip
   have g6:c1=221:=by simpa using h6
   rewrite [h6]
   refine oZ 12<|oZ 13<|oP 14 (.bool (true)) true ?_
   refine JS ?_
   try simp only[Act.put,sA,sB,sC]
   refine JM<|hK5 _ _ ?_
   refine wp_cond_true (by kernel_rfl) ?_
   refine wp_skip ?_
   refine JM<|hK4 _ _ ?_
   refine wp_block ?_
   refine wp_seq_k fun K7 hK7=>JD<|oM 15 (pT p 0)<|oN 16 p 0<|oF 17 (fM2 p) ?_
   refine zy hn 21 (.int .i64 (3)) (s1.u_plane (3)) rfl rfl rfl (by kernel_rfl) (by kernel_rfl) (stI (hn.at_.cell 21 _ fun _ _ _=>rfl) (hn.at_.frozen 21)) (QAb _ _) (hn.at_.ms.u_plane ((by decide))) ?_
   intro w8 hn
   refine JS ?_
   try simp only[Act.put,sA,sB,sC]
   refine JM<|hK7 _ _<|wp_seq_k fun K9 hK9=>wp_seq_k fun K10 hK10=>JD<|oM 18 (.int .u8 (c1))<|oB 19 (eg8 _ _ _ _ _) (QBq c1 253) ?_
   refine JS ?_
   try simp only[Act.put,sA,sB,sC]
   refine JM<|hK10 _ _ ?_
   refine wp_cond_split (t:=c1==253) (by kernel_rfl) (fun h11=>?_) (fun h11=>?_)
   · skip
     have g11:c1=253:=by simpa using h11
     refine JD<|oM 20 (pT p 0)<|oN 21 p 0<|oF 22 (fM2 p) ?_
     refine zy hn 21 (.int .i64 (4)) ((s1.u_plane (3)).u_plane (4)) rfl rfl rfl (by kernel_rfl) (by kernel_rfl) (stI (hn.at_.cell 21 _ fun _ _ _=>rfl) (hn.at_.frozen 21)) (QAb _ _) (hn.at_.ms.u_plane ((by decide))) ?_
     intro w12 hn
     refine JS ?_
     try simp only[Act.put,sA,sB,sC]
     refine JM<|hK9 _ _<|JD<|oM 23 (pT p 0) ?_
     have hp:=hX0.trans (QFB (by first|exact .inl (by assumption)|exact .inr (by assumption)) (show (s1.u_plane (3)).u_plane (4)=s1.toPlane (if c1=253 then 4 else 3) by first|(rw[if_pos (by assumption)];rfl)|(rw[if_neg (by assumption)];rfl)) xs1)
     refine QBU hn rfl (by kernel_rfl) (QAx  hn.at_) (fun c w' hX hb=>zq (jo (zq (jo (Qv rfl (OutV.err (hp.trans (by rw[hX])) hb)))))) ?_
     intro v13 s13 xs13 w13 hX hk13 hn
     have hl:=QCw hX
     rw[hX] at hp
     refine oA 1 (.int .u8 (v13)) ?_
     refine JS ?_
     try simp only[Act.put,sA,sB,sC]
     refine Qt ?_
     exact JM ⟨⟨v13,s13,xs13,.int .u8 (c1),.bool (true),.bool (true),undef,undef,.bool (true),pT p 0,pT p 0,pT p 21,.int .u8 (c1),.bool (c1==253),pT p 0,pT p 0,pT p 21,pT p 0,.int .u8 (v13),rfl,hn,hk13,hp⟩,by rw[hn.at_.len,hl1];exact hl⟩
   · skip
     have g11:¬c1=253:=by simpa using h11
     refine wp_skip ?_
     refine JM<|hK9 _ _<|JD<|oM 23 (pT p 0) ?_
     have hp:=hX0.trans (QFB (by first|exact .inl (by assumption)|exact .inr (by assumption)) (show s1.u_plane (3)=s1.toPlane (if c1=253 then 4 else 3) by first|(rw[if_pos (by assumption)];rfl)|(rw[if_neg (by assumption)];rfl)) xs1)
     refine QBU hn rfl (by kernel_rfl) (QAx  hn.at_) (fun c w' hX hb=>zq (jo (zq (jo (Qv rfl (OutV.err (hp.trans (by rw[hX])) hb)))))) ?_
     intro v14 s14 xs14 w14 hX hk14 hn
     have hl:=QCw hX
     rw[hX] at hp
     refine oA 1 (.int .u8 (v14)) ?_
     refine JS ?_
     try simp only[Act.put,sA,sB,sC]
     refine Qt ?_
     exact JM ⟨⟨v14,s14,xs14,.int .u8 (c1),.bool (true),.bool (true),undef,undef,.bool (true),pT p 0,pT p 0,pT p 21,.int .u8 (c1),.bool (c1==253),y20,y21,y22,pT p 0,.int .u8 (v14),rfl,hn,hk14,hp⟩,by rw[hn.at_.len,hl1];exact hl⟩
 · skip
   have g6:¬c1=221:=by simpa using h6
   rewrite [h6]
   refine oY 12 (.int .u8 (c1))<|oT 13 (.bool (c1==253)) (QDC (V:=.int .u8 (c1)) (W:=.int .u8 (253)) (R:=.bool (c1==253)) rfl (by kernel_rfl) (by kernel_rfl) (eg8 _ _ _ _ _) (QBq c1 253) _)<|oP 14 (.bool (c1==253)) false ?_
   refine JS ?_
   try simp only[Act.put,sA,sB,sC]
   refine JM<|hK5 _ _ ?_
   refine wp_cond_split (t:=c1==253) (by kernel_rfl) (fun h15=>?_) (fun h15=>?_)
   · skip
     have g15:c1=253:=by simpa using h15
     refine wp_skip ?_
     refine JM<|hK4 _ _ ?_
     refine wp_block ?_
     refine wp_seq_k fun K16 hK16=>JD<|oM 15 (pT p 0)<|oN 16 p 0<|oF 17 (fM2 p) ?_
     refine zy hn 21 (.int .i64 (3)) (s1.u_plane (3)) rfl rfl rfl (by kernel_rfl) (by kernel_rfl) (stI (hn.at_.cell 21 _ fun _ _ _=>rfl) (hn.at_.frozen 21)) (QAb _ _) (hn.at_.ms.u_plane ((by decide))) ?_
     intro w17 hn
     refine JS ?_
     try simp only[Act.put,sA,sB,sC]
     refine JM<|hK16 _ _<|wp_seq_k fun K18 hK18=>wp_seq_k fun K19 hK19=>JD<|oM 18 (.int .u8 (c1))<|oB 19 (eg8 _ _ _ _ _) (QBq c1 253) ?_
     refine JS ?_
     try simp only[Act.put,sA,sB,sC]
     refine JM<|hK19 _ _ ?_
     refine wp_cond_split (t:=c1==253) (by kernel_rfl) (fun h20=>?_) (fun h20=>?_)
     rotate_left
     · exact absurd (h15.symm.trans h20) (by decide)
     refine JD<|oM 20 (pT p 0)<|oN 21 p 0<|oF 22 (fM2 p) ?_
     refine zy hn 21 (.int .i64 (4)) ((s1.u_plane (3)).u_plane (4)) rfl rfl rfl (by kernel_rfl) (by kernel_rfl) (stI (hn.at_.cell 21 _ fun _ _ _=>rfl) (hn.at_.frozen 21)) (QAb _ _) (hn.at_.ms.u_plane ((by decide))) ?_
     intro w21 hn
     refine JS ?_
     try simp only[Act.put,sA,sB,sC]
     refine JM<|hK18 _ _<|JD<|oM 23 (pT p 0) ?_
     have hp:=hX0.trans (QFB (by first|exact .inl (by assumption)|exact .inr (by assumption)) (show (s1.u_plane (3)).u_plane (4)=s1.toPlane (if c1=253 then 4 else 3) by first|(rw[if_pos (by assumption)];rfl)|(rw[if_neg (by assumption)];rfl)) xs1)
     refine QBU hn rfl (by kernel_rfl) (QAx  hn.at_) (fun c w' hX hb=>zq (jo (zq (jo (Qv rfl (OutV.err (hp.trans (by rw[hX])) hb)))))) ?_
     intro v22 s22 xs22 w22 hX hk22 hn
     have hl:=QCw hX
     rw[hX] at hp
     refine oA 1 (.int .u8 (v22)) ?_
     refine JS ?_
     try simp only[Act.put,sA,sB,sC]
     refine Qt ?_
     exact JM ⟨⟨v22,s22,xs22,.int .u8 (c1),.bool (false),.bool (false),.int .u8 (c1),.bool (c1==253),.bool (c1==253),pT p 0,pT p 0,pT p 21,.int .u8 (c1),.bool (c1==253),pT p 0,pT p 0,pT p 21,pT p 0,.int .u8 (v22),rfl,hn,hk22,hp⟩,by rw[hn.at_.len,hl1];exact hl⟩
   · skip
     have g15:¬c1=253:=by simpa using h15
     refine wp_exit ?_
     refine QC9 ?_
     refine QC9 ?_
     have hr:=hX0.trans (zU (fun h=>h.elim g6 g15) s1 xs1)
     refine QGl ?_
     refine JM<|hK3 _ _<|wp_seq_k fun K23 hK23=>JD<|oM 25 (pT p 0)<|oM 26 (pT p 0)<|oN 27 p 0<|oF 28 (fM0 p)<|oF 29 (fR3 p) ?_
     have b24:=hn.at_.ms.r.hl
     refine oL 30 (QMM (hn.at_.cell 3 (.int .u16 (s1.r.hl)) fun _ _ _=>rfl))<|oN 31 p 0<|oF 32 (fM8 p) ?_
     refine zy hn 27 (.int .u16 (s1.r.hl)) (s1.u_spot (s1.r.hl)) rfl rfl rfl (by kernel_rfl) (by kernel_rfl) (QMV (hn.at_.cell 27 _ fun _ _ _=>rfl) (hn.at_.frozen 27)) (QQg _ _) (hn.at_.ms.u_spot (b24)) ?_
     intro w25 hn
     refine JS ?_
     try simp only[Act.put,sA,sB,sC]
     refine JM<|hK23 _ _<|wp_seq_k fun K26 hK26=>JD ?_
     refine QPl 4 hn rfl rfl rfl ?_
     intro W1 L hLp hLB hL0 hL h1 hb0
     have hn:=NowN.begin h1
     refine JS ?_
     try simp only[Act.put,sA,sB,sC]
     refine JM<|hK26 _ _<|wp_seq_k fun K27 hK27=>wp_seq_k fun K28 hK28=>JD<|oM 33 (.int .u8 (c1)) ?_
     refine JS ?_
     try simp only[Act.put,sA,sB,sC]
     refine JM<|hK28 _ _ ?_
     refine wp_block ?_
     refine wp_seq_k fun K29 hK29=>JD<|oB 38 (eg8 _ _ _ _ _) (QBq c1 203)<|oA 37 (.bool (c1==203)) ?_
     refine JS ?_
     try simp only[Act.put,sA,sB,sC]
     refine JM<|hK29 _ _ ?_
     refine wp_cond_split (t:=c1==203) (by kernel_rfl) (fun h30=>?_) (fun h30=>?_)
     · skip
       have g30:c1=203:=by simpa using h30
       have hr:=hr.trans (JK g30)
       refine JD<|oM 39 (pT p 0) ?_
       refine QKC hn rfl (by kernel_rfl) (QJp  hn.at_) (fun _ _ hX hb=>zq (jo (Qv rfl (OutV.err (hr.trans (Tr.run_bind_error hX _)) (hb.after hb0))))) ?_
       intro s31 xs31 w31 hX hn
       have hr:=hr.trans (Tr.run_bind_ok hX _)
       refine QPd hn hb0 hL hLp hLB hL0 #[.func (.func 126) #[pT p 0] #[],.func (.func 127) #[pT p 0] #[],.func (.func 128) #[pT p 0] #[],.func (.func 129) #[pT p 0] #[]] rfl (by simp[Value.oneCell']) rfl rfl rfl (by kernel_rfl) (by kernel_rfl) ?_
       intro w32 hL4 hn
       refine JS ?_
       try simp only[Act.put,sA,sB,sC]
       refine Qt ?_
       refine JM<|hK27 _ _ ?_
       rcases QJn hn.at_.ms with g33|g33|g33|g33
       · skip
         have hr:=hr.trans (JK g33)
         refine JD<|oM 45 (pT p 0)<|oN 46 p 0<|oF 47 (fM3 p)<|oL 48 (ldI (hn.at_.isX g33))<|oI 49 (pT L 0) (.int .i64 (0)) (pT L 0) (QKd L _)<|oL 50 (ldF ((hL4.cell 0).trans rfl)) ?_
         refine ZE hn rfl (by kernel_rfl) (QNB  hn.at_) (fun _ _ hX hb=>Qv rfl (OutV.err (hr.trans hX) hb)) ?_
         intro s34 xs34 w34 hX hn
         have hr:=hr.trans hX
         refine JS ?_
         try simp only[Act.put,sA,sB,sC]
         refine X8 rfl rfl ?_
         exact OutV.ok (hr.trans (Tr.run_done _ _)) hn
       · skip
         have hr:=hr.trans (JG (by simp[g33,g30,g15,g6]))
         have hr:=hr.trans (JK g33)
         refine JD<|oM 45 (pT p 0)<|oN 46 p 0<|oF 47 (fM3 p)<|oL 48 (ldI (hn.at_.isX g33))<|oI 49 (pT L 0) (.int .i64 (1)) (pT L 1) (QKo L _)<|oL 50 (ldF ((hL4.cell 1).trans rfl)) ?_
         refine ZE hn rfl (by kernel_rfl) (QO3  hn.at_) (fun _ _ hX hb=>Qv rfl (OutV.err (hr.trans hX) hb)) ?_
         intro s35 xs35 w35 hX hn
         have hr:=hr.trans hX
         refine JS ?_
         try simp only[Act.put,sA,sB,sC]
         refine X8 rfl rfl ?_
         exact OutV.ok (hr.trans (Tr.run_done _ _)) hn
       · skip
         have hr:=hr.trans (JG (by simp[g33,g30,g15,g6]))
         have hr:=hr.trans (JG (by simp[g33,g30,g15,g6]))
         have hr:=hr.trans (JK g33)
         refine JD<|oM 45 (pT p 0)<|oN 46 p 0<|oF 47 (fM3 p)<|oL 48 (ldI (hn.at_.isX g33))<|oI 49 (pT L 0) (.int .i64 (2)) (pT L 2) (QJ9 L _)<|oL 50 (ldF ((hL4.cell 2).trans rfl)) ?_
         refine ZE hn rfl (by kernel_rfl) (QMS  hn.at_) (fun _ _ hX hb=>Qv rfl (OutV.err (hr.trans hX) hb)) ?_
         intro s36 xs36 w36 hX hn
         have hr:=hr.trans hX
         refine JS ?_
         try simp only[Act.put,sA,sB,sC]
         refine X8 rfl rfl ?_
         exact OutV.ok (hr.trans (Tr.run_done _ _)) hn
       · skip
         have hr:=hr.trans (JG (by simp[g33,g30,g15,g6]))
         have hr:=hr.trans (JG (by simp[g33,g30,g15,g6]))
         have hr:=hr.trans (JG (by simp[g33,g30,g15,g6]))
         refine JD<|oM 45 (pT p 0)<|oN 46 p 0<|oF 47 (fM3 p)<|oL 48 (ldI (hn.at_.isX g33))<|oI 49 (pT L 0) (.int .i64 (3)) (pT L 3) (QKP L _)<|oL 50 (ldF ((hL4.cell 3).trans rfl)) ?_
         refine ZE hn rfl (by kernel_rfl) (QNs  hn.at_) (fun _ _ hX hb=>Qv rfl (OutV.err (hr.trans hX) hb)) ?_
         intro s37 xs37 w37 hX hn
         have hr:=hr.trans hX
         refine JS ?_
         try simp only[Act.put,sA,sB,sC]
         refine X8 rfl rfl ?_
         exact OutV.ok (hr.trans (Tr.run_done _ _)) hn
     · skip
       have g30:¬c1=203:=by simpa using h30
       have hr:=hr.trans (JG g30)
       refine wp_seq_k fun K38 hK38=>JD<|oB 42 (eg8 _ _ _ _ _) (QBq c1 237)<|oA 41 (.bool (c1==237)) ?_
       refine JS ?_
       try simp only[Act.put,sA,sB,sC]
       refine JM<|hK38 _ _ ?_
       refine wp_cond_split (t:=c1==237) (by kernel_rfl) (fun h39=>?_) (fun h39=>?_)
       · skip
         have g39:c1=237:=by simpa using h39
         have hr:=hr.trans (JK g39)
         refine JD<|oM 43 (pT p 0) ?_
         refine QKC hn rfl (by kernel_rfl) (QKa  hn.at_) (fun _ _ hX hb=>zq (jo (Qv rfl (OutV.err (hr.trans (Tr.run_bind_error hX _)) (hb.after hb0))))) ?_
         intro s40 xs40 w40 hX hn
         have hr:=hr.trans (Tr.run_bind_ok hX _)
         refine QPd hn hb0 hL hLp hLB hL0 #[.func (.func 130) #[pT p 0] #[],.func (.func 131) #[pT p 0] #[],.func (.func 132) #[pT p 0] #[],.func (.func 130) #[pT p 0] #[]] rfl (by simp[Value.oneCell']) rfl rfl rfl (by kernel_rfl) (by kernel_rfl) ?_
         intro w41 hL4 hn
         refine JS ?_
         try simp only[Act.put,sA,sB,sC]
         refine Qt ?_
         refine JM<|hK27 _ _ ?_
         rcases QJn hn.at_.ms with g42|g42|g42|g42
         · skip
           have hr:=hr.trans (JG (by simp[g42,g39,g30,g15,g6]))
           have hr:=hr.trans (JG (by simp[g42,g39,g30,g15,g6]))
           refine JD<|oM 45 (pT p 0)<|oN 46 p 0<|oF 47 (fM3 p)<|oL 48 (ldI (hn.at_.isX g42))<|oI 49 (pT L 0) (.int .i64 (0)) (pT L 0) (QKd L _)<|oL 50 (ldF ((hL4.cell 0).trans rfl))<|oC (.tuple #[]) (QF2  hn.at_) ?_
           intro w43 hk
           have hn:=hn.after hk
           refine JS ?_
           try simp only[Act.put,sA,sB,sC]
           refine X8 rfl rfl ?_
           exact OutV.ok (hr.trans (Tr.run_done _ _)) hn
         · skip
           have hr:=hr.trans (JK g42)
           refine JD<|oM 45 (pT p 0)<|oN 46 p 0<|oF 47 (fM3 p)<|oL 48 (ldI (hn.at_.isX g42))<|oI 49 (pT L 0) (.int .i64 (1)) (pT L 1) (QKo L _)<|oL 50 (ldF ((hL4.cell 1).trans rfl)) ?_
           refine ZE hn rfl (by kernel_rfl) (QKM  hn.at_) (fun _ _ hX hb=>Qv rfl (OutV.err (hr.trans hX) hb)) ?_
           intro s44 xs44 w44 hX hn
           have hr:=hr.trans hX
           refine JS ?_
           try simp only[Act.put,sA,sB,sC]
           refine X8 rfl rfl ?_
           exact OutV.ok (hr.trans (Tr.run_done _ _)) hn
         · skip
           have hr:=hr.trans (JG (by simp[g42,g39,g30,g15,g6]))
           have hr:=hr.trans (JK g42)
           refine JD<|oM 45 (pT p 0)<|oN 46 p 0<|oF 47 (fM3 p)<|oL 48 (ldI (hn.at_.isX g42))<|oI 49 (pT L 0) (.int .i64 (2)) (pT L 2) (QJ9 L _)<|oL 50 (ldF ((hL4.cell 2).trans rfl)) ?_
           refine ZE hn rfl (by kernel_rfl) (QPF  hn.at_) (fun _ _ hX hb=>Qv rfl (OutV.err (hr.trans hX) hb)) ?_
           intro s45 xs45 w45 hX hn
           have hr:=hr.trans hX
           refine JS ?_
           try simp only[Act.put,sA,sB,sC]
           refine X8 rfl rfl ?_
           exact OutV.ok (hr.trans (Tr.run_done _ _)) hn
         · skip
           have hr:=hr.trans (JG (by simp[g42,g39,g30,g15,g6]))
           have hr:=hr.trans (JG (by simp[g42,g39,g30,g15,g6]))
           refine JD<|oM 45 (pT p 0)<|oN 46 p 0<|oF 47 (fM3 p)<|oL 48 (ldI (hn.at_.isX g42))<|oI 49 (pT L 0) (.int .i64 (3)) (pT L 3) (QKP L _)<|oL 50 (ldF ((hL4.cell 3).trans rfl))<|oC (.tuple #[]) (QF2  hn.at_) ?_
           intro w46 hk
           have hn:=hn.after hk
           refine JS ?_
           try simp only[Act.put,sA,sB,sC]
           refine X8 rfl rfl ?_
           exact OutV.ok (hr.trans (Tr.run_done _ _)) hn
       · skip
         have g39:¬c1=237:=by simpa using h39
         have hr:=hr.trans (JG g39)
         refine JD<|oM 34 (pT p 0)<|oM 35 (.int .u8 (c1)) ?_
         refine QKC hn rfl (by kernel_rfl) (QRS c1 (hc1) hn.at_) (fun _ _ hX hb=>zq (jo (Qv rfl (OutV.err (hr.trans (Tr.run_bind_error hX _)) (hb.after hb0))))) ?_
         intro s47 xs47 w47 hX hn
         have hr:=hr.trans (Tr.run_bind_ok hX _)
         refine QPd hn hb0 hL hLp hLB hL0 #[.func (.func 136) #[pT p 0] #[],.func (.func 137) #[pT p 0] #[],.func (.func 138) #[pT p 0] #[],.func (.func 139) #[pT p 0] #[]] rfl (by simp[Value.oneCell']) rfl rfl rfl (by kernel_rfl) (by kernel_rfl) ?_
         intro w48 hL4 hn
         refine JS ?_
         try simp only[Act.put,sA,sB,sC]
         refine Qt ?_
         refine JM<|hK27 _ _ ?_
         rcases QJn hn.at_.ms with g49|g49|g49|g49
         · skip
           have hr:=hr.trans (JK g49)
           refine JD<|oM 45 (pT p 0)<|oN 46 p 0<|oF 47 (fM3 p)<|oL 48 (ldI (hn.at_.isX g49))<|oI 49 (pT L 0) (.int .i64 (0)) (pT L 0) (QKd L _)<|oL 50 (ldF ((hL4.cell 0).trans rfl)) ?_
           refine ZE hn rfl (by kernel_rfl) (QM4  hn.at_) (fun _ _ hX hb=>Qv rfl (OutV.err (hr.trans hX) hb)) ?_
           intro s50 xs50 w50 hX hn
           have hr:=hr.trans hX
           refine JS ?_
           try simp only[Act.put,sA,sB,sC]
           refine X8 rfl rfl ?_
           exact OutV.ok (hr.trans (Tr.run_done _ _)) hn
         · skip
           have hr:=hr.trans (JG (by simp[g49,g39,g30,g15,g6]))
           have hr:=hr.trans (JK g49)
           refine JD<|oM 45 (pT p 0)<|oN 46 p 0<|oF 47 (fM3 p)<|oL 48 (ldI (hn.at_.isX g49))<|oI 49 (pT L 0) (.int .i64 (1)) (pT L 1) (QKo L _)<|oL 50 (ldF ((hL4.cell 1).trans rfl)) ?_
           refine ZE hn rfl (by kernel_rfl) (QSP  hn.at_) (fun _ _ hX hb=>Qv rfl (OutV.err (hr.trans hX) hb)) ?_
           intro s51 xs51 w51 hX hn
           have hr:=hr.trans hX
           refine JS ?_
           try simp only[Act.put,sA,sB,sC]
           refine X8 rfl rfl ?_
           exact OutV.ok (hr.trans (Tr.run_done _ _)) hn
         · skip
           have hr:=hr.trans (JG (by simp[g49,g39,g30,g15,g6]))
           have hr:=hr.trans (JG (by simp[g49,g39,g30,g15,g6]))
           have hr:=hr.trans (JK g49)
           refine JD<|oM 45 (pT p 0)<|oN 46 p 0<|oF 47 (fM3 p)<|oL 48 (ldI (hn.at_.isX g49))<|oI 49 (pT L 0) (.int .i64 (2)) (pT L 2) (QJ9 L _)<|oL 50 (ldF ((hL4.cell 2).trans rfl)) ?_
           refine ZE hn rfl (by kernel_rfl) (QNy  hn.at_) (fun _ _ hX hb=>Qv rfl (OutV.err (hr.trans hX) hb)) ?_
           intro s52 xs52 w52 hX hn
           have hr:=hr.trans hX
           refine JS ?_
           try simp only[Act.put,sA,sB,sC]
           refine X8 rfl rfl ?_
           exact OutV.ok (hr.trans (Tr.run_done _ _)) hn
         · skip
           have hr:=hr.trans (JG (by simp[g49,g39,g30,g15,g6]))
           have hr:=hr.trans (JG (by simp[g49,g39,g30,g15,g6]))
           have hr:=hr.trans (JG (by simp[g49,g39,g30,g15,g6]))
           refine JD<|oM 45 (pT p 0)<|oN 46 p 0<|oF 47 (fM3 p)<|oL 48 (ldI (hn.at_.isX g49))<|oI 49 (pT L 0) (.int .i64 (3)) (pT L 3) (QKP L _)<|oL 50 (ldF ((hL4.cell 3).trans rfl)) ?_
           refine ZE hn rfl (by kernel_rfl) (QMn  hn.at_) (fun _ _ hX hb=>Qv rfl (OutV.err (hr.trans hX) hb)) ?_
           intro s53 xs53 w53 hX hn
           have hr:=hr.trans hX
           refine JS ?_
           try simp only[Act.put,sA,sB,sC]
           refine X8 rfl rfl ?_
           exact OutV.ok (hr.trans (Tr.run_done _ _)) hn
end Go.Proofs.YtkenebbjodcbcaaGreatDoor
