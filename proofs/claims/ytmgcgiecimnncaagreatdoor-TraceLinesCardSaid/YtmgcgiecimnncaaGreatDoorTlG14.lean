/- Contracts and facts that the claim's proof wants (several texts in one). -/
import Derived.Test.YtmgcgiecimnncaaGreatDoorTlG13
namespace Go.Proofs.YtmgcgiecimnncaaGreatDoor
open Go.RowKit
set_option linter.unusedVariables false
set_option linter.unusedSimpArgs false
set_option maxRecDepth 20000
set_option maxHeartbeats 20000000
theorem QJr  {s:Ms} {xs:List Int} {w:World} {p B:Nat}(h:AtN w p B s xs) :
 Calls Tryz.prog 162 #[pT p 0] w (OutF w p B #[.func (.func 180) #[pT p 0] #[],.func (.func 181) #[pT p 0] #[],.func (.func 182) #[pT p 0] #[],.func (.func 183) #[pT p 0] #[]] (((j0 s).bind fun c=>.done (c.2.split c.1)).run xs)):=by
 have hn:=NowN.begin h
 have hr:((j0 s).bind fun c=>.done (c.2.split c.1)).run xs=((j0 s).bind fun c=>.done (c.2.split c.1)).run xs:=rfl
 go_enter Tryz.func162,Tryz.ntmps162
 refine wp_seq_k fun K1 hK1=>JG ?_
 refine QK 2 (pT w.heap.size 0) rfl (JK rfl) (Q3 rfl (QHQ _)) ?_
 have hL:=Row.new w 192 jD
 have hb0:Besides p p w (w.alloc (.cells jD 192)):=(Besides.refl ..).alloc _
 have hLp:w.heap.size≠p:=by have:=h.lt;omega
 have hLB:B≤w.heap.size:=by have:=h.lt;have:=h.low;omega
 have hn:=NowN.begin (h.below (Below.alloc (Below.refl _ _) (Nat.le_refl _) (.cells jD 192)))
 generalize w.alloc (.cells jD 192)=W1 at *
 refine Jg ?_
 try simp only[Act.put,sA,sB,sC]
 refine JW<|hK1 _ _<|wp_seq_k fun K2 hK2=>JG<|oM 3 (pT p 0)<|oM 4 (pT p 0) ?_
 refine QBW hn rfl (by kernel_rfl) (QEU  hn.at_) (fun _ _ hX hb=>Z3 (QR rfl (OutF.err (hr.trans (Tr.run_bind_error hX _)) (hb.after hb0)))) ?_
 intro v3 s3 xs3 w3 hX hk3 hn
 have hr:=hr.trans (Tr.run_bind_ok hX _)
 refine oC (.tuple #[]) (QHI v3 (hk3) hn.at_) ?_
 intro w4 hk
 have hn:=hn.after hk
 refine Jg ?_
 try simp only[Act.put,sA,sB,sC]
 refine JW<|hK2 _ _<|wp_seq_k fun K5 hK5=>JG<|oM 7 (pT p 0) ?_
 refine JQ 8 (.func (.func 180) #[pT p 0] #[]) rfl (JK rfl) (QO rfl (by kernel_rfl) (by kernel_rfl) _) ?_
 refine oM 9 (pT p 0) ?_
 refine JQ 10 (.func (.func 181) #[pT p 0] #[]) rfl (JK rfl) (QO rfl (by kernel_rfl) (by kernel_rfl) _) ?_
 refine oM 11 (pT p 0) ?_
 refine JQ 12 (.func (.func 182) #[pT p 0] #[]) rfl (JK rfl) (QO rfl (by kernel_rfl) (by kernel_rfl) _) ?_
 refine oM 13 (pT p 0) ?_
 refine JQ 14 (.func (.func 183) #[pT p 0] #[]) rfl (JK rfl) (QO rfl (by kernel_rfl) (by kernel_rfl) _) ?_
 refine oU 15 #[.func (.func 180) #[pT p 0] #[],.func (.func 181) #[pT p 0] #[],.func (.func 182) #[pT p 0] #[],.func (.func 183) #[pT p 0] #[]] ?_
 have hk:=hL.besides hn.bes hLp hLp
 refine Xo rfl (JK rfl) (Qu (ad:=⟨w.heap.size,0,none⟩) (V:=.agg #[.func (.func 180) #[pT p 0] #[],.func (.func 181) #[pT p 0] #[],.func (.func 182) #[pT p 0] #[],.func (.func 183) #[pT p 0] #[]]) rfl (by kernel_rfl) (by kernel_rfl) (run_storeAt_mid _ _ 0 _ #[.func (.func 180) #[pT p 0] #[],.func (.func 181) #[pT p 0] #[],.func (.func 182) #[pT p 0] #[],.func (.func 183) #[pT p 0] #[]] hk.there zX (by simp[Value.oneCell']))) ?_
 have hr4:=hk.setAll (vs:=#[.func (.func 180) #[pT p 0] #[],.func (.func 181) #[pT p 0] #[],.func (.func 182) #[pT p 0] #[],.func (.func 183) #[pT p 0] #[]]) rfl
 have hn:=(hn.base hb0).far hLp hLB (Nat.le_refl _) (#[.func (.func 180) #[pT p 0] #[],.func (.func 181) #[pT p 0] #[],.func (.func 182) #[pT p 0] #[],.func (.func 183) #[pT p 0] #[]]:Array Value).toList 0
 refine Jg ?_
 try simp only[Act.put,sA,sB,sC]
 refine JW<|hK5 _ _ ?_
 refine wp_ret ?_
 refine bodyPost_ret (QM rfl rfl hr4 _ Tryz.underlying192 rfl zX) rfl ?_
 exact OutF.ok (hr.trans (Tr.run_done _ _)) hn
theorem QJ8  {s:Ms} {xs:List Int} {w:World} {p B:Nat}(h:AtN w p B s xs) :
 Calls Tryz.prog 163 #[pT p 0] w (OutF w p B #[.func (.func 184) #[pT p 0] #[],.func (.func 185) #[pT p 0] #[],.func (.func 186) #[pT p 0] #[],.func (.func 184) #[pT p 0] #[]] (((Zi (s.u_plane 0)).bind fun c=>.done (c.2.split c.1)).run xs)):=by
 have hn:=NowN.begin h
 have hr:((Zi (s.u_plane 0)).bind fun c=>.done (c.2.split c.1)).run xs=((Zi (s.u_plane 0)).bind fun c=>.done (c.2.split c.1)).run xs:=rfl
 go_enter Tryz.func163,Tryz.ntmps163
 refine wp_seq_k fun K1 hK1=>JG ?_
 refine QK 2 (pT w.heap.size 0) rfl (JK rfl) (Q3 rfl (QHQ _)) ?_
 have hL:=Row.new w 192 jD
 have hb0:Besides p p w (w.alloc (.cells jD 192)):=(Besides.refl ..).alloc _
 have hLp:w.heap.size≠p:=by have:=h.lt;omega
 have hLB:B≤w.heap.size:=by have:=h.lt;have:=h.low;omega
 have hn:=NowN.begin (h.below (Below.alloc (Below.refl _ _) (Nat.le_refl _) (.cells jD 192)))
 generalize w.alloc (.cells jD 192)=W1 at *
 refine Jg ?_
 try simp only[Act.put,sA,sB,sC]
 refine JW<|hK1 _ _<|wp_seq_k fun K2 hK2=>JG<|oM 3 (pT p 0)<|oN 4 p 0<|oF 5 (fM2 p) ?_
 refine zt hn 21 (.int .i64 (0)) (s.u_plane (0)) rfl rfl rfl (by kernel_rfl) (by kernel_rfl) (stI (hn.at_.cell 21 _ fun _ _ _=>rfl) (hn.at_.frozen 21)) (QAO _ _) (hn.at_.ms.u_plane ((by decide))) ?_
 intro w3 hn
 refine Jg ?_
 try simp only[Act.put,sA,sB,sC]
 refine JW<|hK2 _ _<|wp_seq_k fun K4 hK4=>JG<|oM 6 (pT p 0)<|oM 7 (pT p 0) ?_
 refine QBW hn rfl (by kernel_rfl) (QA6  hn.at_) (fun _ _ hX hb=>Z3 (QR rfl (OutF.err (hr.trans (Tr.run_bind_error hX _)) (hb.after hb0)))) ?_
 intro v5 s5 xs5 w5 hX hk5 hn
 have hr:=hr.trans (Tr.run_bind_ok hX _)
 refine oC (.tuple #[]) (QHI v5 (hk5) hn.at_) ?_
 intro w6 hk
 have hn:=hn.after hk
 refine Jg ?_
 try simp only[Act.put,sA,sB,sC]
 refine JW<|hK4 _ _<|wp_seq_k fun K7 hK7=>JG<|oM 10 (pT p 0) ?_
 refine JQ 11 (.func (.func 184) #[pT p 0] #[]) rfl (JK rfl) (QO rfl (by kernel_rfl) (by kernel_rfl) _) ?_
 refine oM 12 (pT p 0) ?_
 refine JQ 13 (.func (.func 185) #[pT p 0] #[]) rfl (JK rfl) (QO rfl (by kernel_rfl) (by kernel_rfl) _) ?_
 refine oM 14 (pT p 0) ?_
 refine JQ 15 (.func (.func 186) #[pT p 0] #[]) rfl (JK rfl) (QO rfl (by kernel_rfl) (by kernel_rfl) _) ?_
 refine oM 16 (pT p 0) ?_
 refine JQ 17 (.func (.func 184) #[pT p 0] #[]) rfl (JK rfl) (QO rfl (by kernel_rfl) (by kernel_rfl) _) ?_
 refine oU 18 #[.func (.func 184) #[pT p 0] #[],.func (.func 185) #[pT p 0] #[],.func (.func 186) #[pT p 0] #[],.func (.func 184) #[pT p 0] #[]] ?_
 have hk:=hL.besides hn.bes hLp hLp
 refine Xo rfl (JK rfl) (Qu (ad:=⟨w.heap.size,0,none⟩) (V:=.agg #[.func (.func 184) #[pT p 0] #[],.func (.func 185) #[pT p 0] #[],.func (.func 186) #[pT p 0] #[],.func (.func 184) #[pT p 0] #[]]) rfl (by kernel_rfl) (by kernel_rfl) (run_storeAt_mid _ _ 0 _ #[.func (.func 184) #[pT p 0] #[],.func (.func 185) #[pT p 0] #[],.func (.func 186) #[pT p 0] #[],.func (.func 184) #[pT p 0] #[]] hk.there zX (by simp[Value.oneCell']))) ?_
 have hr4:=hk.setAll (vs:=#[.func (.func 184) #[pT p 0] #[],.func (.func 185) #[pT p 0] #[],.func (.func 186) #[pT p 0] #[],.func (.func 184) #[pT p 0] #[]]) rfl
 have hn:=(hn.base hb0).far hLp hLB (Nat.le_refl _) (#[.func (.func 184) #[pT p 0] #[],.func (.func 185) #[pT p 0] #[],.func (.func 186) #[pT p 0] #[],.func (.func 184) #[pT p 0] #[]]:Array Value).toList 0
 refine Jg ?_
 try simp only[Act.put,sA,sB,sC]
 refine JW<|hK7 _ _ ?_
 refine wp_ret ?_
 refine bodyPost_ret (QM rfl rfl hr4 _ Tryz.underlying192 rfl zX) rfl ?_
 exact OutF.ok (hr.trans (Tr.run_done _ _)) hn
theorem QTZ (c:Int)(hAc:B8 c){s:Ms} {xs:List Int} {w:World} {p B:Nat}(h:AtN w p B s xs) :
 Calls Tryz.prog 164 #[pT p 0,.int .u8 (c)] w (OutF w p B #[.func (.func 189) #[pT p 0] #[],.func (.func 190) #[pT p 0] #[],.func (.func 191) #[pT p 0] #[],.func (.func 192) #[pT p 0] #[]] ((qy c s).run xs)):=by
 have hn:=NowN.begin h
 have hr:(qy c s).run xs=(qy c s).run xs:=rfl
 go_enter Tryz.func164,Tryz.ntmps164
 refine wp_seq_k fun K1 hK1=>JG ?_
 refine QK 4 (pT w.heap.size 0) rfl (JK rfl) (Q3 rfl (QHQ _)) ?_
 have hL:=Row.new w 192 jD
 have hb0:Besides p p w (w.alloc (.cells jD 192)):=(Besides.refl ..).alloc _
 have hLp:w.heap.size≠p:=by have:=h.lt;omega
 have hLB:B≤w.heap.size:=by have:=h.lt;have:=h.low;omega
 have hn:=NowN.begin (h.below (Below.alloc (Below.refl _ _) (Nat.le_refl _) (.cells jD 192)))
 generalize w.alloc (.cells jD 192)=W1 at *
 refine Jg ?_
 try simp only[Act.put,sA,sB,sC]
 refine JW<|hK1 _ _<|wp_seq_k fun K2 hK2=>JG<|oM 5 (pT p 0)<|oM 6 (.int .u8 (c))<|oC (.tuple #[]) (QHI c (hAc) hn.at_) ?_
 intro w3 hk
 have hn:=hn.after hk
 refine Jg ?_
 try simp only[Act.put,sA,sB,sC]
 refine JW<|hK2 _ _<|wp_seq_k fun K4 hK4=>wp_seq_k fun K5 hK5=>JG<|oM 8 (pT p 0)<|oN 9 p 0<|oF 10 (fM2 p)<|oL 11 (ldI (hn.at_.cell 21 (.int .i64 ((s.split c).plane)) fun _ _ _=>rfl))<|oM 12 (.int .u8 (c))<|oC (.bool (JP ((s.split c).plane) c)) (Zy ((s.split c).plane) c (hAc) _) ?_
 rintro _ rfl
 refine Jg ?_
 try simp only[Act.put,sA,sB,sC]
 refine JW<|hK5 _ _ ?_
 refine wp_cond_split (t:=JP ((s.split c).plane) c) (by kernel_rfl) (fun h7=>?_) (fun h7=>?_)
 · skip
   have g7:JP ((s.split c).plane) c=true:=by simpa using h7
   have hr:=hr.trans (JD g7)
   refine wp_seq_k fun K8 hK8=>JG<|oM 14 (pT p 0) ?_
   refine Xf hn rfl (by kernel_rfl) (QUM  hn.at_) (fun _ _ hX hb=>Z3 (Z3 (QR rfl (OutF.err (hr.trans (Tr.run_bind_error hX _)) (hb.after hb0))))) ?_
   intro s9 xs9 w9 hX hn
   have hr:=hr.trans (Tr.run_bind_ok hX _)
   refine Jg ?_
   try simp only[Act.put,sA,sB,sC]
   refine JW<|hK8 _ _<|wp_seq_k fun K10 hK10=>JG<|oM 16 (pT p 0)<|oN 17 p 0<|oF 18 (fM3 p)<|oL 19 (ldI (hn.at_.cell 22 (.int .i64 (s9.x)) fun _ _ _=>rfl))<|oB 20 (egI _ _ _ _ _) (bNeI s9.x 0)<|oM 21 (.bool (s9.x != 0)) ?_
   rcases Bool.eq_false_or_eq_true (s9.x != 0) with h11|h11
   · skip
     have g11:¬s9.x=0:=by simpa using h11
     rewrite [h11]
     refine oZ 22<|oZ 23<|oZ 24<|oZ 25<|oZ 26<|oP 27 (.bool (true)) true ?_
     refine Jg ?_
     try simp only[Act.put,sA,sB,sC]
     refine JW<|hK10 _ _ ?_
     refine wp_cond_true (by kernel_rfl) ?_
     have hr:=hr.trans (JD (.inl g11))
     refine JG<|oM 28 (pT p 0) ?_
     refine Xf hn rfl (by kernel_rfl) (Jw 5 hn.at_) (fun _ _ hX hb=>Z3 (QR rfl (OutF.err (hr.trans (Tr.run_bind_error hX _)) (hb.after hb0)))) ?_
     intro s12 xs12 w12 hX hn
     have hr:=hr.trans (Tr.run_bind_ok hX _)
     refine Jg ?_
     try simp only[Act.put,sA,sB,sC]
     refine JW<|hK4 _ _<|wp_seq_k fun K13 hK13=>JG<|oM 30 (pT p 0) ?_
     refine JQ 31 (.func (.func 189) #[pT p 0] #[]) rfl (JK rfl) (QO rfl (by kernel_rfl) (by kernel_rfl) _) ?_
     refine oM 32 (pT p 0) ?_
     refine JQ 33 (.func (.func 190) #[pT p 0] #[]) rfl (JK rfl) (QO rfl (by kernel_rfl) (by kernel_rfl) _) ?_
     refine oM 34 (pT p 0) ?_
     refine JQ 35 (.func (.func 191) #[pT p 0] #[]) rfl (JK rfl) (QO rfl (by kernel_rfl) (by kernel_rfl) _) ?_
     refine oM 36 (pT p 0) ?_
     refine JQ 37 (.func (.func 192) #[pT p 0] #[]) rfl (JK rfl) (QO rfl (by kernel_rfl) (by kernel_rfl) _) ?_
     refine oU 38 #[.func (.func 189) #[pT p 0] #[],.func (.func 190) #[pT p 0] #[],.func (.func 191) #[pT p 0] #[],.func (.func 192) #[pT p 0] #[]] ?_
     have hk:=hL.besides hn.bes hLp hLp
     refine Xo rfl (JK rfl) (Qu (ad:=⟨w.heap.size,0,none⟩) (V:=.agg #[.func (.func 189) #[pT p 0] #[],.func (.func 190) #[pT p 0] #[],.func (.func 191) #[pT p 0] #[],.func (.func 192) #[pT p 0] #[]]) rfl (by kernel_rfl) (by kernel_rfl) (run_storeAt_mid _ _ 0 _ #[.func (.func 189) #[pT p 0] #[],.func (.func 190) #[pT p 0] #[],.func (.func 191) #[pT p 0] #[],.func (.func 192) #[pT p 0] #[]] hk.there zX (by simp[Value.oneCell']))) ?_
     have hr4:=hk.setAll (vs:=#[.func (.func 189) #[pT p 0] #[],.func (.func 190) #[pT p 0] #[],.func (.func 191) #[pT p 0] #[],.func (.func 192) #[pT p 0] #[]]) rfl
     have hn:=(hn.base hb0).far hLp hLB (Nat.le_refl _) (#[.func (.func 189) #[pT p 0] #[],.func (.func 190) #[pT p 0] #[],.func (.func 191) #[pT p 0] #[],.func (.func 192) #[pT p 0] #[]]:Array Value).toList 0
     refine Jg ?_
     try simp only[Act.put,sA,sB,sC]
     refine JW<|hK13 _ _ ?_
     refine wp_ret ?_
     refine bodyPost_ret (QM rfl rfl hr4 _ Tryz.underlying192 rfl zX) rfl ?_
     exact OutF.ok (hr.trans (Tr.run_done _ _)) hn
   · skip
     have g11:s9.x=0:=by simpa using h11
     rewrite [h11]
     refine oY 22 (pT p 0)<|oT 23 (pT p 0) (QDc (ad:=⟨p,0,none⟩) rfl (by kernel_rfl) _)<|oT 24 (pT p 24) (X8 (V:=pT p 0) (R:=pT p 24) rfl (by kernel_rfl) (fM5 p) _)<|oT 25 (.int .i64 (s9.z)) (zz rfl (by kernel_rfl) (ldI (hn.at_.cell 24 (.int .i64 (s9.z)) fun _ _ _=>rfl)))<|oT 26 (.bool (s9.z != 6)) (QRC (V:=.int .i64 (s9.z)) (W:=.int .i64 (6)) (R:=.bool (s9.z != 6)) rfl (by kernel_rfl) (by kernel_rfl) (egI _ _ _ _ _) (bNeI s9.z 6) _)<|oP 27 (.bool (s9.z != 6)) false ?_
     refine Jg ?_
     try simp only[Act.put,sA,sB,sC]
     refine JW<|hK10 _ _ ?_
     refine wp_cond_split (t:=s9.z != 6) (by kernel_rfl) (fun h14=>?_) (fun h14=>?_)
     · skip
       have g14:¬s9.z=6:=by simpa using h14
       have hr:=hr.trans (JD (.inr g14))
       refine JG<|oM 28 (pT p 0) ?_
       refine Xf hn rfl (by kernel_rfl) (Jw 5 hn.at_) (fun _ _ hX hb=>Z3 (QR rfl (OutF.err (hr.trans (Tr.run_bind_error hX _)) (hb.after hb0)))) ?_
       intro s15 xs15 w15 hX hn
       have hr:=hr.trans (Tr.run_bind_ok hX _)
       refine Jg ?_
       try simp only[Act.put,sA,sB,sC]
       refine JW<|hK4 _ _<|wp_seq_k fun K16 hK16=>JG<|oM 30 (pT p 0) ?_
       refine JQ 31 (.func (.func 189) #[pT p 0] #[]) rfl (JK rfl) (QO rfl (by kernel_rfl) (by kernel_rfl) _) ?_
       refine oM 32 (pT p 0) ?_
       refine JQ 33 (.func (.func 190) #[pT p 0] #[]) rfl (JK rfl) (QO rfl (by kernel_rfl) (by kernel_rfl) _) ?_
       refine oM 34 (pT p 0) ?_
       refine JQ 35 (.func (.func 191) #[pT p 0] #[]) rfl (JK rfl) (QO rfl (by kernel_rfl) (by kernel_rfl) _) ?_
       refine oM 36 (pT p 0) ?_
       refine JQ 37 (.func (.func 192) #[pT p 0] #[]) rfl (JK rfl) (QO rfl (by kernel_rfl) (by kernel_rfl) _) ?_
       refine oU 38 #[.func (.func 189) #[pT p 0] #[],.func (.func 190) #[pT p 0] #[],.func (.func 191) #[pT p 0] #[],.func (.func 192) #[pT p 0] #[]] ?_
       have hk:=hL.besides hn.bes hLp hLp
       refine Xo rfl (JK rfl) (Qu (ad:=⟨w.heap.size,0,none⟩) (V:=.agg #[.func (.func 189) #[pT p 0] #[],.func (.func 190) #[pT p 0] #[],.func (.func 191) #[pT p 0] #[],.func (.func 192) #[pT p 0] #[]]) rfl (by kernel_rfl) (by kernel_rfl) (run_storeAt_mid _ _ 0 _ #[.func (.func 189) #[pT p 0] #[],.func (.func 190) #[pT p 0] #[],.func (.func 191) #[pT p 0] #[],.func (.func 192) #[pT p 0] #[]] hk.there zX (by simp[Value.oneCell']))) ?_
       have hr4:=hk.setAll (vs:=#[.func (.func 189) #[pT p 0] #[],.func (.func 190) #[pT p 0] #[],.func (.func 191) #[pT p 0] #[],.func (.func 192) #[pT p 0] #[]]) rfl
       have hn:=(hn.base hb0).far hLp hLB (Nat.le_refl _) (#[.func (.func 189) #[pT p 0] #[],.func (.func 190) #[pT p 0] #[],.func (.func 191) #[pT p 0] #[],.func (.func 192) #[pT p 0] #[]]:Array Value).toList 0
       refine Jg ?_
       try simp only[Act.put,sA,sB,sC]
       refine JW<|hK16 _ _ ?_
       refine wp_ret ?_
       refine bodyPost_ret (QM rfl rfl hr4 _ Tryz.underlying192 rfl zX) rfl ?_
       exact OutF.ok (hr.trans (Tr.run_done _ _)) hn
     · skip
       have g14:s9.z=6:=by simpa using h14
       have hr:=hr.trans (JB (by simp[g14,g11,g7]))
       refine wp_skip ?_
       refine JW<|hK4 _ _<|wp_seq_k fun K17 hK17=>JG<|oM 30 (pT p 0) ?_
       refine JQ 31 (.func (.func 189) #[pT p 0] #[]) rfl (JK rfl) (QO rfl (by kernel_rfl) (by kernel_rfl) _) ?_
       refine oM 32 (pT p 0) ?_
       refine JQ 33 (.func (.func 190) #[pT p 0] #[]) rfl (JK rfl) (QO rfl (by kernel_rfl) (by kernel_rfl) _) ?_
       refine oM 34 (pT p 0) ?_
       refine JQ 35 (.func (.func 191) #[pT p 0] #[]) rfl (JK rfl) (QO rfl (by kernel_rfl) (by kernel_rfl) _) ?_
       refine oM 36 (pT p 0) ?_
       refine JQ 37 (.func (.func 192) #[pT p 0] #[]) rfl (JK rfl) (QO rfl (by kernel_rfl) (by kernel_rfl) _) ?_
       refine oU 38 #[.func (.func 189) #[pT p 0] #[],.func (.func 190) #[pT p 0] #[],.func (.func 191) #[pT p 0] #[],.func (.func 192) #[pT p 0] #[]] ?_
       have hk:=hL.besides hn.bes hLp hLp
       refine Xo rfl (JK rfl) (Qu (ad:=⟨w.heap.size,0,none⟩) (V:=.agg #[.func (.func 189) #[pT p 0] #[],.func (.func 190) #[pT p 0] #[],.func (.func 191) #[pT p 0] #[],.func (.func 192) #[pT p 0] #[]]) rfl (by kernel_rfl) (by kernel_rfl) (run_storeAt_mid _ _ 0 _ #[.func (.func 189) #[pT p 0] #[],.func (.func 190) #[pT p 0] #[],.func (.func 191) #[pT p 0] #[],.func (.func 192) #[pT p 0] #[]] hk.there zX (by simp[Value.oneCell']))) ?_
       have hr4:=hk.setAll (vs:=#[.func (.func 189) #[pT p 0] #[],.func (.func 190) #[pT p 0] #[],.func (.func 191) #[pT p 0] #[],.func (.func 192) #[pT p 0] #[]]) rfl
       have hn:=(hn.base hb0).far hLp hLB (Nat.le_refl _) (#[.func (.func 189) #[pT p 0] #[],.func (.func 190) #[pT p 0] #[],.func (.func 191) #[pT p 0] #[],.func (.func 192) #[pT p 0] #[]]:Array Value).toList 0
       refine Jg ?_
       try simp only[Act.put,sA,sB,sC]
       refine JW<|hK17 _ _ ?_
       refine wp_ret ?_
       refine bodyPost_ret (QM rfl rfl hr4 _ Tryz.underlying192 rfl zX) rfl ?_
       exact OutF.ok (hr.trans (Tr.run_done _ _)) hn
 · skip
   have g7:¬JP ((s.split c).plane) c=true:=by simpa using h7
   have hr:=hr.trans (JB g7)
   refine wp_skip ?_
   refine JW<|hK4 _ _<|wp_seq_k fun K18 hK18=>JG<|oM 30 (pT p 0) ?_
   refine JQ 31 (.func (.func 189) #[pT p 0] #[]) rfl (JK rfl) (QO rfl (by kernel_rfl) (by kernel_rfl) _) ?_
   refine oM 32 (pT p 0) ?_
   refine JQ 33 (.func (.func 190) #[pT p 0] #[]) rfl (JK rfl) (QO rfl (by kernel_rfl) (by kernel_rfl) _) ?_
   refine oM 34 (pT p 0) ?_
   refine JQ 35 (.func (.func 191) #[pT p 0] #[]) rfl (JK rfl) (QO rfl (by kernel_rfl) (by kernel_rfl) _) ?_
   refine oM 36 (pT p 0) ?_
   refine JQ 37 (.func (.func 192) #[pT p 0] #[]) rfl (JK rfl) (QO rfl (by kernel_rfl) (by kernel_rfl) _) ?_
   refine oU 38 #[.func (.func 189) #[pT p 0] #[],.func (.func 190) #[pT p 0] #[],.func (.func 191) #[pT p 0] #[],.func (.func 192) #[pT p 0] #[]] ?_
   have hk:=hL.besides hn.bes hLp hLp
   refine Xo rfl (JK rfl) (Qu (ad:=⟨w.heap.size,0,none⟩) (V:=.agg #[.func (.func 189) #[pT p 0] #[],.func (.func 190) #[pT p 0] #[],.func (.func 191) #[pT p 0] #[],.func (.func 192) #[pT p 0] #[]]) rfl (by kernel_rfl) (by kernel_rfl) (run_storeAt_mid _ _ 0 _ #[.func (.func 189) #[pT p 0] #[],.func (.func 190) #[pT p 0] #[],.func (.func 191) #[pT p 0] #[],.func (.func 192) #[pT p 0] #[]] hk.there zX (by simp[Value.oneCell']))) ?_
   have hr4:=hk.setAll (vs:=#[.func (.func 189) #[pT p 0] #[],.func (.func 190) #[pT p 0] #[],.func (.func 191) #[pT p 0] #[],.func (.func 192) #[pT p 0] #[]]) rfl
   have hn:=(hn.base hb0).far hLp hLB (Nat.le_refl _) (#[.func (.func 189) #[pT p 0] #[],.func (.func 190) #[pT p 0] #[],.func (.func 191) #[pT p 0] #[],.func (.func 192) #[pT p 0] #[]]:Array Value).toList 0
   refine Jg ?_
   try simp only[Act.put,sA,sB,sC]
   refine JW<|hK18 _ _ ?_
   refine wp_ret ?_
   refine bodyPost_ret (QM rfl rfl hr4 _ Tryz.underlying192 rfl zX) rfl ?_
   exact OutF.ok (hr.trans (Tr.run_done _ _)) hn
def QQH (p:Nat)(w:World):Nat:=match w.cell? ⟨p,20,none⟩ with|some (.slice _ n _)=>n|_=>0
theorem AtN.len {w:World} {p B:Nat} {s:Ms} {xs:List Int}(h:AtN w p B s xs):QQH p w=xs.length:=by
 obtain⟨A,cap,hc,hr,hb⟩:=h.row
 have e:w.cell? ⟨p,20,none⟩=some (.slice A xs.length cap):=hr.cell 20
 unfold QQH
 rw[e]
section
variable {ops:Array Oper} {Q:Exit→Act→World→Prop} {a:Act} {w w0 W1:World} {o:Oper} {rest:List Oper} {p B L:Nat} {s:Ms} {xs:List Int} {x y:Operand}
theorem QSP (d:Tmp)(hn:NowN w0 p B s xs w)(hd:o.dst=some d)(hg:o.guard=none)(ho:o.op=.alloc 192)
 (h:∀ w' L,L≠p→B≤L→w0.heap.size≤L→Row w' L 192 jD→AtN w' p B s xs→Besides p p w0 w'→WL Tryz.prog ops Q rest (a.put (some d) (pT L 0)) w'):WL Tryz.prog ops Q (o :: rest) a w:=by
 have hlt:=hn.at_.lt
 have hlow:=hn.at_.low
 refine QK d (pT w.heap.size 0) hd (JK hg) (Q3 ho (QHQ _)) ?_
 exact h _ _ (by omega) (by omega) hn.bes.size (Row.new w _ jD) (hn.at_.below (Below.alloc (Below.refl _ _) (Nat.le_refl _) _)) (hn.bes.alloc _)
theorem QOQ (hn:NowN W1 p B s xs w)(hb0:Besides p p w0 W1)(hL:Row W1 L 192 jD)(hLp:L≠p)(hLB:B≤L)(hL0:w0.heap.size≤L)(vals:Array Value)(hv:vals.size=4)(h1:vals.all (·.oneCell')=true)
 (hd:o.dst=none)(hg:o.guard=none)(ho:o.op=.store 192 x y)(hx:a.eval x=pT L 0)(hy:a.eval y=.agg vals)
 (h:∀ w',Row w' L 192 vals→NowN w0 p B s xs w'→WL Tryz.prog ops Q rest (a.put none undef) w'):WL Tryz.prog ops Q (o :: rest) a w:=by
 have hk:=hL.besides hn.bes hLp hLp
 refine Xo hd (JK hg) (Qu ho hx hy (run_storeAt_mid w L 0 _ vals (by rw[hv];exact hk.there) (by rw[hv];exact zX) h1)) ?_
 exact h _ (hk.setAll (by rw[hv];rfl)) ((hn.base hb0).far hLp hLB hL0 _ _)
theorem QKz {vals:Array Value} {X:Except Cy (Ms×List Int)} {g:FuncId} {args:Array Value}(hn:NowN w0 p B s xs w)(hg:o.guard=none)(he:(execOp a.eval o).run Tryz.prog w=.ok (.enter g args) w)(hc:Calls Tryz.prog g args w (OutF w p B vals X))
 (hP:∀ c w',X=.error c→BesC p c w0 w'→Q (.panic [{ v:=.iface 30 (cyV c),recovered:=false }]) a w')
 (hK:∀ s ys w',X=.ok (s,ys)→NowN w0 p B s ys w'→WL Tryz.prog ops Q rest (a.put o.dst (.agg vals)) w'):WL Tryz.prog ops Q (o :: rest) a w :=
 zR (JK hg) he hc fun e w' ho=>by
  rcases X with c|⟨s,ys⟩
  · obtain⟨rfl,hb⟩:=ho
    exact hP c w' rfl (hb.after hn.bes)
  · obtain⟨rfl,hN⟩:=ho
    exact hK s ys w' rfl (hn.after hN)
end
theorem QJv (L:Nat)(w:World):(Instr.indexAt 192 (pT L 0) (.int .i64 0)).run Tryz.prog w=.ok (pT L 0) w:=by simp[go_sem,Addr.add]
theorem QKG (L:Nat)(w:World):(Instr.indexAt 192 (pT L 0) (.int .i64 1)).run Tryz.prog w=.ok (pT L 1) w:=by simp[go_sem,Addr.add]
theorem QKg (L:Nat)(w:World):(Instr.indexAt 192 (pT L 0) (.int .i64 2)).run Tryz.prog w=.ok (pT L 2) w:=by simp[go_sem,Addr.add]
theorem QJ7 (L:Nat)(w:World):(Instr.indexAt 192 (pT L 0) (.int .i64 3)).run Tryz.prog w=.ok (pT L 3) w:=by simp[go_sem,Addr.add]
theorem ldF {w:World} {ad:Addr} {V:Value}(h:w.cell? ad=some V):(Instr.loadAt 1 (.pointer (some ad))).run Tryz.prog w=.ok V w:=by simp[go_sem,h]
theorem QKF {s:Ms}(h:MsB s):s.x=0∨s.x=1∨s.x=2∨s.x=3:=by have:=h.x;omega
theorem AtN.isX {w:World} {p B:Nat} {s:Ms} {xs:List Int}(h:AtN w p B s xs){k:Int}(hx:s.x=k):w.cell? ⟨p,22,none⟩=some (.int .i64 k):=by
 subst hx
 exact h.cell 22 _ fun _ _ _=>rfl
theorem qh (c:Int)(hAc:B8 c){s:Ms} {xs:List Int} {w:World} {p B:Nat}(h:AtN w p B s xs) :
 Calls Tryz.prog 150 #[pT p 0,.int .u8 (c)] w (OutV w p B (XX xs c s.noLate)):=by
 have hn:=NowN.begin h
 go_enter Tryz.func150,Tryz.ntmps150
 refine wp_seq_k fun K1 hK1=>JG<|oM 5 (pT p 0)<|oN 6 p 0<|oF 7 (fM0 p)<|oF 8 (fR18 p) ?_
 refine zt hn 18 (.bool (false)) (s.u_late (false)) rfl rfl rfl (by kernel_rfl) (by kernel_rfl) (stB (hn.at_.cell 18 _ fun _ _ _=>rfl) (hn.at_.frozen 18)) (QSX _ _) (hn.at_.ms.u_late) ?_
 intro w2 hn
 refine Jg ?_
 try simp only[Act.put,sA,sB,sC]
 refine JW<|hK1 _ _<|wp_seq_k fun K3 hK3=>?_
 refine wp_block ?_
 refine wp_loop (fun a' w'=>∃ (c1:Int) (s1:Ms) (xs1:List Int) (y9 y10 y11 y12 y13 y14 y15 y16 y17 y18 y19 y20 y21 y22 y23 y24:Value),a'={ tmps:=#[pT p 0,.int .u8 c1,undef,undef,undef,pT p 0,pT p 0,pT p 0,pT p 18,y9,y10,y11,y12,y13,y14,y15,y16,y17,y18,y19,y20,y21,y22,y23,y24,undef,undef,undef,undef,undef,undef,undef,undef,undef,undef,undef,undef,undef,undef,undef,undef,undef,undef,undef,undef,undef,undef,undef,undef,undef,undef,undef],defers:=[] }∧NowN w p B s1 xs1 w'∧B8 c1∧XX xs c (s.u_late (false))=XX xs1 c1 s1) (fun _ w'=>QQH p w') ⟨c,s.u_late (false),xs,undef,undef,undef,undef,undef,undef,undef,undef,undef,undef,undef,undef,undef,undef,undef,undef,rfl,hn,hAc,rfl⟩ ?_
 rintro a1 w1 ⟨c1,s1,xs1,y9,y10,y11,y12,y13,y14,y15,y16,y17,y18,y19,y20,y21,y22,y23,y24,rfl,hn,hc1,hX0⟩
 have hl1:=hn.at_.len
 refine wp_seq_k fun K4 hK4=>wp_seq_k fun K5 hK5=>JG<|oM 9 (.int .u8 (c1))<|oB 10 (eg8 _ _ _ _ _) (QM9 c1 221)<|oM 11 (.bool (c1==221)) ?_
 rcases Bool.eq_false_or_eq_true (c1==221) with h6|h6
 · skip
   have g6:c1=221:=by simpa using h6
   rewrite [h6]
   refine oZ 12<|oZ 13<|oP 14 (.bool (true)) true ?_
   refine Jg ?_
   try simp only[Act.put,sA,sB,sC]
   refine JW<|hK5 _ _ ?_
   refine wp_cond_true (by kernel_rfl) ?_
   refine wp_skip ?_
   refine JW<|hK4 _ _ ?_
   refine wp_block ?_
   refine wp_seq_k fun K7 hK7=>JG<|oM 15 (pT p 0)<|oN 16 p 0<|oF 17 (fM2 p) ?_
   refine zt hn 21 (.int .i64 (3)) (s1.u_plane (3)) rfl rfl rfl (by kernel_rfl) (by kernel_rfl) (stI (hn.at_.cell 21 _ fun _ _ _=>rfl) (hn.at_.frozen 21)) (QAO _ _) (hn.at_.ms.u_plane ((by decide))) ?_
   intro w8 hn
   refine Jg ?_
   try simp only[Act.put,sA,sB,sC]
   refine JW<|hK7 _ _<|wp_seq_k fun K9 hK9=>wp_seq_k fun K10 hK10=>JG<|oM 18 (.int .u8 (c1))<|oB 19 (eg8 _ _ _ _ _) (QM9 c1 253) ?_
   refine Jg ?_
   try simp only[Act.put,sA,sB,sC]
   refine JW<|hK10 _ _ ?_
   refine wp_cond_split (t:=c1==253) (by kernel_rfl) (fun h11=>?_) (fun h11=>?_)
   · skip
     have g11:c1=253:=by simpa using h11
     refine JG<|oM 20 (pT p 0)<|oN 21 p 0<|oF 22 (fM2 p) ?_
     refine zt hn 21 (.int .i64 (4)) ((s1.u_plane (3)).u_plane (4)) rfl rfl rfl (by kernel_rfl) (by kernel_rfl) (stI (hn.at_.cell 21 _ fun _ _ _=>rfl) (hn.at_.frozen 21)) (QAO _ _) (hn.at_.ms.u_plane ((by decide))) ?_
     intro w12 hn
     refine Jg ?_
     try simp only[Act.put,sA,sB,sC]
     refine JW<|hK9 _ _<|JG<|oM 23 (pT p 0) ?_
     have hp:=hX0.trans (QEO (by first|exact .inl (by assumption)|exact .inr (by assumption)) (show (s1.u_plane (3)).u_plane (4)=s1.toPlane (if c1=253 then 4 else 3) by first|(rw[if_pos (by assumption)];rfl)|(rw[if_neg (by assumption)];rfl)) xs1)
     refine QBW hn rfl (by kernel_rfl) (QA6  hn.at_) (fun c w' hX hb=>zm (Z3 (zm (Z3 (QR rfl (OutV.err (hp.trans (by rw[hX])) hb)))))) ?_
     intro v13 s13 xs13 w13 hX hk13 hn
     have hl:=QCe hX
     rw[hX] at hp
     refine oA 1 (.int .u8 (v13)) ?_
     refine Jg ?_
     try simp only[Act.put,sA,sB,sC]
     refine jo ?_
     exact JW ⟨⟨v13,s13,xs13,.int .u8 (c1),.bool (true),.bool (true),undef,undef,.bool (true),pT p 0,pT p 0,pT p 21,.int .u8 (c1),.bool (c1==253),pT p 0,pT p 0,pT p 21,pT p 0,.int .u8 (v13),rfl,hn,hk13,hp⟩,by rw[hn.at_.len,hl1];exact hl⟩
   · skip
     have g11:¬c1=253:=by simpa using h11
     refine wp_skip ?_
     refine JW<|hK9 _ _<|JG<|oM 23 (pT p 0) ?_
     have hp:=hX0.trans (QEO (by first|exact .inl (by assumption)|exact .inr (by assumption)) (show s1.u_plane (3)=s1.toPlane (if c1=253 then 4 else 3) by first|(rw[if_pos (by assumption)];rfl)|(rw[if_neg (by assumption)];rfl)) xs1)
     refine QBW hn rfl (by kernel_rfl) (QA6  hn.at_) (fun c w' hX hb=>zm (Z3 (zm (Z3 (QR rfl (OutV.err (hp.trans (by rw[hX])) hb)))))) ?_
     intro v14 s14 xs14 w14 hX hk14 hn
     have hl:=QCe hX
     rw[hX] at hp
     refine oA 1 (.int .u8 (v14)) ?_
     refine Jg ?_
     try simp only[Act.put,sA,sB,sC]
     refine jo ?_
     exact JW ⟨⟨v14,s14,xs14,.int .u8 (c1),.bool (true),.bool (true),undef,undef,.bool (true),pT p 0,pT p 0,pT p 21,.int .u8 (c1),.bool (c1==253),y20,y21,y22,pT p 0,.int .u8 (v14),rfl,hn,hk14,hp⟩,by rw[hn.at_.len,hl1];exact hl⟩
 · skip
   have g6:¬c1=221:=by simpa using h6
   rewrite [h6]
   refine oY 12 (.int .u8 (c1))<|oT 13 (.bool (c1==253)) (QRC (V:=.int .u8 (c1)) (W:=.int .u8 (253)) (R:=.bool (c1==253)) rfl (by kernel_rfl) (by kernel_rfl) (eg8 _ _ _ _ _) (QM9 c1 253) _)<|oP 14 (.bool (c1==253)) false ?_
   refine Jg ?_
   try simp only[Act.put,sA,sB,sC]
   refine JW<|hK5 _ _ ?_
   refine wp_cond_split (t:=c1==253) (by kernel_rfl) (fun h15=>?_) (fun h15=>?_)
   · skip
     have g15:c1=253:=by simpa using h15
     refine wp_skip ?_
     refine JW<|hK4 _ _ ?_
     refine wp_block ?_
     refine wp_seq_k fun K16 hK16=>JG<|oM 15 (pT p 0)<|oN 16 p 0<|oF 17 (fM2 p) ?_
     refine zt hn 21 (.int .i64 (3)) (s1.u_plane (3)) rfl rfl rfl (by kernel_rfl) (by kernel_rfl) (stI (hn.at_.cell 21 _ fun _ _ _=>rfl) (hn.at_.frozen 21)) (QAO _ _) (hn.at_.ms.u_plane ((by decide))) ?_
     intro w17 hn
     refine Jg ?_
     try simp only[Act.put,sA,sB,sC]
     refine JW<|hK16 _ _<|wp_seq_k fun K18 hK18=>wp_seq_k fun K19 hK19=>JG<|oM 18 (.int .u8 (c1))<|oB 19 (eg8 _ _ _ _ _) (QM9 c1 253) ?_
     refine Jg ?_
     try simp only[Act.put,sA,sB,sC]
     refine JW<|hK19 _ _ ?_
     refine wp_cond_split (t:=c1==253) (by kernel_rfl) (fun h20=>?_) (fun h20=>?_)
     rotate_left
     · exact absurd (h15.symm.trans h20) (by decide)
     refine JG<|oM 20 (pT p 0)<|oN 21 p 0<|oF 22 (fM2 p) ?_
     refine zt hn 21 (.int .i64 (4)) ((s1.u_plane (3)).u_plane (4)) rfl rfl rfl (by kernel_rfl) (by kernel_rfl) (stI (hn.at_.cell 21 _ fun _ _ _=>rfl) (hn.at_.frozen 21)) (QAO _ _) (hn.at_.ms.u_plane ((by decide))) ?_
     intro w21 hn
     refine Jg ?_
     try simp only[Act.put,sA,sB,sC]
     refine JW<|hK18 _ _<|JG<|oM 23 (pT p 0) ?_
     have hp:=hX0.trans (QEO (by first|exact .inl (by assumption)|exact .inr (by assumption)) (show (s1.u_plane (3)).u_plane (4)=s1.toPlane (if c1=253 then 4 else 3) by first|(rw[if_pos (by assumption)];rfl)|(rw[if_neg (by assumption)];rfl)) xs1)
     refine QBW hn rfl (by kernel_rfl) (QA6  hn.at_) (fun c w' hX hb=>zm (Z3 (zm (Z3 (QR rfl (OutV.err (hp.trans (by rw[hX])) hb)))))) ?_
     intro v22 s22 xs22 w22 hX hk22 hn
     have hl:=QCe hX
     rw[hX] at hp
     refine oA 1 (.int .u8 (v22)) ?_
     refine Jg ?_
     try simp only[Act.put,sA,sB,sC]
     refine jo ?_
     exact JW ⟨⟨v22,s22,xs22,.int .u8 (c1),.bool (false),.bool (false),.int .u8 (c1),.bool (c1==253),.bool (c1==253),pT p 0,pT p 0,pT p 21,.int .u8 (c1),.bool (c1==253),pT p 0,pT p 0,pT p 21,pT p 0,.int .u8 (v22),rfl,hn,hk22,hp⟩,by rw[hn.at_.len,hl1];exact hl⟩
   · skip
     have g15:¬c1=253:=by simpa using h15
     refine wp_exit ?_
     refine QT5 ?_
     refine QT5 ?_
     have hr:=hX0.trans (QCp (fun h=>h.elim g6 g15) s1 xs1)
     refine QVR ?_
     refine JW<|hK3 _ _<|wp_seq_k fun K23 hK23=>JG<|oM 25 (pT p 0)<|oM 26 (pT p 0)<|oN 27 p 0<|oF 28 (fM0 p)<|oF 29 (fR3 p) ?_
     have b24:=hn.at_.ms.r.hl
     refine oL 30 (QTH (hn.at_.cell 3 (.int .u16 (s1.r.hl)) fun _ _ _=>rfl))<|oN 31 p 0<|oF 32 (fM8 p) ?_
     refine zt hn 27 (.int .u16 (s1.r.hl)) (s1.u_spot (s1.r.hl)) rfl rfl rfl (by kernel_rfl) (by kernel_rfl) (QR0 (hn.at_.cell 27 _ fun _ _ _=>rfl) (hn.at_.frozen 27)) (QTU _ _) (hn.at_.ms.u_spot (b24)) ?_
     intro w25 hn
     refine Jg ?_
     try simp only[Act.put,sA,sB,sC]
     refine JW<|hK23 _ _<|wp_seq_k fun K26 hK26=>JG ?_
     refine QSP 4 hn rfl rfl rfl ?_
     intro W1 L hLp hLB hL0 hL h1 hb0
     have hn:=NowN.begin h1
     refine Jg ?_
     try simp only[Act.put,sA,sB,sC]
     refine JW<|hK26 _ _<|wp_seq_k fun K27 hK27=>wp_seq_k fun K28 hK28=>JG<|oM 33 (.int .u8 (c1)) ?_
     refine Jg ?_
     try simp only[Act.put,sA,sB,sC]
     refine JW<|hK28 _ _ ?_
     refine wp_block ?_
     refine wp_seq_k fun K29 hK29=>JG<|oB 38 (eg8 _ _ _ _ _) (QM9 c1 203)<|oA 37 (.bool (c1==203)) ?_
     refine Jg ?_
     try simp only[Act.put,sA,sB,sC]
     refine JW<|hK29 _ _ ?_
     refine wp_cond_split (t:=c1==203) (by kernel_rfl) (fun h30=>?_) (fun h30=>?_)
     · skip
       have g30:c1=203:=by simpa using h30
       have hr:=hr.trans (JD g30)
       refine JG<|oM 39 (pT p 0) ?_
       refine QKz hn rfl (by kernel_rfl) (QJr  hn.at_) (fun _ _ hX hb=>zm (Z3 (QR rfl (OutV.err (hr.trans (Tr.run_bind_error hX _)) (hb.after hb0))))) ?_
       intro s31 xs31 w31 hX hn
       have hr:=hr.trans (Tr.run_bind_ok hX _)
       refine QOQ hn hb0 hL hLp hLB hL0 #[.func (.func 180) #[pT p 0] #[],.func (.func 181) #[pT p 0] #[],.func (.func 182) #[pT p 0] #[],.func (.func 183) #[pT p 0] #[]] rfl (by simp[Value.oneCell']) rfl rfl rfl (by kernel_rfl) (by kernel_rfl) ?_
       intro w32 hL4 hn
       refine Jg ?_
       try simp only[Act.put,sA,sB,sC]
       refine jo ?_
       refine JW<|hK27 _ _ ?_
       rcases QKF hn.at_.ms with g33|g33|g33|g33
       · skip
         have hr:=hr.trans (JD g33)
         refine JG<|oM 45 (pT p 0)<|oN 46 p 0<|oF 47 (fM3 p)<|oL 48 (ldI (hn.at_.isX g33))<|oI 49 (pT L 0) (.int .i64 (0)) (pT L 0) (QJv L _)<|oL 50 (ldF ((hL4.cell 0).trans rfl)) ?_
         refine Xf hn rfl (by kernel_rfl) (QN8  hn.at_) (fun _ _ hX hb=>QR rfl (OutV.err (hr.trans hX) hb)) ?_
         intro s34 xs34 w34 hX hn
         have hr:=hr.trans hX
         refine Jg ?_
         try simp only[Act.put,sA,sB,sC]
         refine jt rfl rfl ?_
         exact OutV.ok (hr.trans (Tr.run_done _ _)) hn
       · skip
         have hr:=hr.trans (JB (by simp[g33,g30,g15,g6]))
         have hr:=hr.trans (JD g33)
         refine JG<|oM 45 (pT p 0)<|oN 46 p 0<|oF 47 (fM3 p)<|oL 48 (ldI (hn.at_.isX g33))<|oI 49 (pT L 0) (.int .i64 (1)) (pT L 1) (QKG L _)<|oL 50 (ldF ((hL4.cell 1).trans rfl)) ?_
         refine Xf hn rfl (by kernel_rfl) (QQS  hn.at_) (fun _ _ hX hb=>QR rfl (OutV.err (hr.trans hX) hb)) ?_
         intro s35 xs35 w35 hX hn
         have hr:=hr.trans hX
         refine Jg ?_
         try simp only[Act.put,sA,sB,sC]
         refine jt rfl rfl ?_
         exact OutV.ok (hr.trans (Tr.run_done _ _)) hn
       · skip
         have hr:=hr.trans (JB (by simp[g33,g30,g15,g6]))
         have hr:=hr.trans (JB (by simp[g33,g30,g15,g6]))
         have hr:=hr.trans (JD g33)
         refine JG<|oM 45 (pT p 0)<|oN 46 p 0<|oF 47 (fM3 p)<|oL 48 (ldI (hn.at_.isX g33))<|oI 49 (pT L 0) (.int .i64 (2)) (pT L 2) (QKg L _)<|oL 50 (ldF ((hL4.cell 2).trans rfl)) ?_
         refine Xf hn rfl (by kernel_rfl) (QOD  hn.at_) (fun _ _ hX hb=>QR rfl (OutV.err (hr.trans hX) hb)) ?_
         intro s36 xs36 w36 hX hn
         have hr:=hr.trans hX
         refine Jg ?_
         try simp only[Act.put,sA,sB,sC]
         refine jt rfl rfl ?_
         exact OutV.ok (hr.trans (Tr.run_done _ _)) hn
       · skip
         have hr:=hr.trans (JB (by simp[g33,g30,g15,g6]))
         have hr:=hr.trans (JB (by simp[g33,g30,g15,g6]))
         have hr:=hr.trans (JB (by simp[g33,g30,g15,g6]))
         refine JG<|oM 45 (pT p 0)<|oN 46 p 0<|oF 47 (fM3 p)<|oL 48 (ldI (hn.at_.isX g33))<|oI 49 (pT L 0) (.int .i64 (3)) (pT L 3) (QJ7 L _)<|oL 50 (ldF ((hL4.cell 3).trans rfl)) ?_
         refine Xf hn rfl (by kernel_rfl) (QOm  hn.at_) (fun _ _ hX hb=>QR rfl (OutV.err (hr.trans hX) hb)) ?_
         intro s37 xs37 w37 hX hn
         have hr:=hr.trans hX
         refine Jg ?_
         try simp only[Act.put,sA,sB,sC]
         refine jt rfl rfl ?_
         exact OutV.ok (hr.trans (Tr.run_done _ _)) hn
     · skip
       have g30:¬c1=203:=by simpa using h30
       have hr:=hr.trans (JB g30)
       refine wp_seq_k fun K38 hK38=>JG<|oB 42 (eg8 _ _ _ _ _) (QM9 c1 237)<|oA 41 (.bool (c1==237)) ?_
       refine Jg ?_
       try simp only[Act.put,sA,sB,sC]
       refine JW<|hK38 _ _ ?_
       refine wp_cond_split (t:=c1==237) (by kernel_rfl) (fun h39=>?_) (fun h39=>?_)
       · skip
         have g39:c1=237:=by simpa using h39
         have hr:=hr.trans (JD g39)
         refine JG<|oM 43 (pT p 0) ?_
         refine QKz hn rfl (by kernel_rfl) (QJ8  hn.at_) (fun _ _ hX hb=>zm (Z3 (QR rfl (OutV.err (hr.trans (Tr.run_bind_error hX _)) (hb.after hb0))))) ?_
         intro s40 xs40 w40 hX hn
         have hr:=hr.trans (Tr.run_bind_ok hX _)
         refine QOQ hn hb0 hL hLp hLB hL0 #[.func (.func 184) #[pT p 0] #[],.func (.func 185) #[pT p 0] #[],.func (.func 186) #[pT p 0] #[],.func (.func 184) #[pT p 0] #[]] rfl (by simp[Value.oneCell']) rfl rfl rfl (by kernel_rfl) (by kernel_rfl) ?_
         intro w41 hL4 hn
         refine Jg ?_
         try simp only[Act.put,sA,sB,sC]
         refine jo ?_
         refine JW<|hK27 _ _ ?_
         rcases QKF hn.at_.ms with g42|g42|g42|g42
         · skip
           have hr:=hr.trans (JB (by simp[g42,g39,g30,g15,g6]))
           have hr:=hr.trans (JB (by simp[g42,g39,g30,g15,g6]))
           refine JG<|oM 45 (pT p 0)<|oN 46 p 0<|oF 47 (fM3 p)<|oL 48 (ldI (hn.at_.isX g42))<|oI 49 (pT L 0) (.int .i64 (0)) (pT L 0) (QJv L _)<|oL 50 (ldF ((hL4.cell 0).trans rfl))<|oC (.tuple #[]) (QGB  hn.at_) ?_
           intro w43 hk
           have hn:=hn.after hk
           refine Jg ?_
           try simp only[Act.put,sA,sB,sC]
           refine jt rfl rfl ?_
           exact OutV.ok (hr.trans (Tr.run_done _ _)) hn
         · skip
           have hr:=hr.trans (JD g42)
           refine JG<|oM 45 (pT p 0)<|oN 46 p 0<|oF 47 (fM3 p)<|oL 48 (ldI (hn.at_.isX g42))<|oI 49 (pT L 0) (.int .i64 (1)) (pT L 1) (QKG L _)<|oL 50 (ldF ((hL4.cell 1).trans rfl)) ?_
           refine Xf hn rfl (by kernel_rfl) (QKu  hn.at_) (fun _ _ hX hb=>QR rfl (OutV.err (hr.trans hX) hb)) ?_
           intro s44 xs44 w44 hX hn
           have hr:=hr.trans hX
           refine Jg ?_
           try simp only[Act.put,sA,sB,sC]
           refine jt rfl rfl ?_
           exact OutV.ok (hr.trans (Tr.run_done _ _)) hn
         · skip
           have hr:=hr.trans (JB (by simp[g42,g39,g30,g15,g6]))
           have hr:=hr.trans (JD g42)
           refine JG<|oM 45 (pT p 0)<|oN 46 p 0<|oF 47 (fM3 p)<|oL 48 (ldI (hn.at_.isX g42))<|oI 49 (pT L 0) (.int .i64 (2)) (pT L 2) (QKg L _)<|oL 50 (ldF ((hL4.cell 2).trans rfl)) ?_
           refine Xf hn rfl (by kernel_rfl) (QQl  hn.at_) (fun _ _ hX hb=>QR rfl (OutV.err (hr.trans hX) hb)) ?_
           intro s45 xs45 w45 hX hn
           have hr:=hr.trans hX
           refine Jg ?_
           try simp only[Act.put,sA,sB,sC]
           refine jt rfl rfl ?_
           exact OutV.ok (hr.trans (Tr.run_done _ _)) hn
         · skip
           have hr:=hr.trans (JB (by simp[g42,g39,g30,g15,g6]))
           have hr:=hr.trans (JB (by simp[g42,g39,g30,g15,g6]))
           refine JG<|oM 45 (pT p 0)<|oN 46 p 0<|oF 47 (fM3 p)<|oL 48 (ldI (hn.at_.isX g42))<|oI 49 (pT L 0) (.int .i64 (3)) (pT L 3) (QJ7 L _)<|oL 50 (ldF ((hL4.cell 3).trans rfl))<|oC (.tuple #[]) (QGB  hn.at_) ?_
           intro w46 hk
           have hn:=hn.after hk
           refine Jg ?_
           try simp only[Act.put,sA,sB,sC]
           refine jt rfl rfl ?_
           exact OutV.ok (hr.trans (Tr.run_done _ _)) hn
       · skip
         have g39:¬c1=237:=by simpa using h39
         have hr:=hr.trans (JB g39)
         refine JG<|oM 34 (pT p 0)<|oM 35 (.int .u8 (c1)) ?_
         refine QKz hn rfl (by kernel_rfl) (QTZ c1 (hc1) hn.at_) (fun _ _ hX hb=>zm (Z3 (QR rfl (OutV.err (hr.trans (Tr.run_bind_error hX _)) (hb.after hb0))))) ?_
         intro s47 xs47 w47 hX hn
         have hr:=hr.trans (Tr.run_bind_ok hX _)
         refine QOQ hn hb0 hL hLp hLB hL0 #[.func (.func 189) #[pT p 0] #[],.func (.func 190) #[pT p 0] #[],.func (.func 191) #[pT p 0] #[],.func (.func 192) #[pT p 0] #[]] rfl (by simp[Value.oneCell']) rfl rfl rfl (by kernel_rfl) (by kernel_rfl) ?_
         intro w48 hL4 hn
         refine Jg ?_
         try simp only[Act.put,sA,sB,sC]
         refine jo ?_
         refine JW<|hK27 _ _ ?_
         rcases QKF hn.at_.ms with g49|g49|g49|g49
         · skip
           have hr:=hr.trans (JD g49)
           refine JG<|oM 45 (pT p 0)<|oN 46 p 0<|oF 47 (fM3 p)<|oL 48 (ldI (hn.at_.isX g49))<|oI 49 (pT L 0) (.int .i64 (0)) (pT L 0) (QJv L _)<|oL 50 (ldF ((hL4.cell 0).trans rfl)) ?_
           refine Xf hn rfl (by kernel_rfl) (QNk  hn.at_) (fun _ _ hX hb=>QR rfl (OutV.err (hr.trans hX) hb)) ?_
           intro s50 xs50 w50 hX hn
           have hr:=hr.trans hX
           refine Jg ?_
           try simp only[Act.put,sA,sB,sC]
           refine jt rfl rfl ?_
           exact OutV.ok (hr.trans (Tr.run_done _ _)) hn
         · skip
           have hr:=hr.trans (JB (by simp[g49,g39,g30,g15,g6]))
           have hr:=hr.trans (JD g49)
           refine JG<|oM 45 (pT p 0)<|oN 46 p 0<|oF 47 (fM3 p)<|oL 48 (ldI (hn.at_.isX g49))<|oI 49 (pT L 0) (.int .i64 (1)) (pT L 1) (QKG L _)<|oL 50 (ldF ((hL4.cell 1).trans rfl)) ?_
           refine Xf hn rfl (by kernel_rfl) (QV3  hn.at_) (fun _ _ hX hb=>QR rfl (OutV.err (hr.trans hX) hb)) ?_
           intro s51 xs51 w51 hX hn
           have hr:=hr.trans hX
           refine Jg ?_
           try simp only[Act.put,sA,sB,sC]
           refine jt rfl rfl ?_
           exact OutV.ok (hr.trans (Tr.run_done _ _)) hn
         · skip
           have hr:=hr.trans (JB (by simp[g49,g39,g30,g15,g6]))
           have hr:=hr.trans (JB (by simp[g49,g39,g30,g15,g6]))
           have hr:=hr.trans (JD g49)
           refine JG<|oM 45 (pT p 0)<|oN 46 p 0<|oF 47 (fM3 p)<|oL 48 (ldI (hn.at_.isX g49))<|oI 49 (pT L 0) (.int .i64 (2)) (pT L 2) (QKg L _)<|oL 50 (ldF ((hL4.cell 2).trans rfl)) ?_
           refine Xf hn rfl (by kernel_rfl) (QOi  hn.at_) (fun _ _ hX hb=>QR rfl (OutV.err (hr.trans hX) hb)) ?_
           intro s52 xs52 w52 hX hn
           have hr:=hr.trans hX
           refine Jg ?_
           try simp only[Act.put,sA,sB,sC]
           refine jt rfl rfl ?_
           exact OutV.ok (hr.trans (Tr.run_done _ _)) hn
         · skip
           have hr:=hr.trans (JB (by simp[g49,g39,g30,g15,g6]))
           have hr:=hr.trans (JB (by simp[g49,g39,g30,g15,g6]))
           have hr:=hr.trans (JB (by simp[g49,g39,g30,g15,g6]))
           refine JG<|oM 45 (pT p 0)<|oN 46 p 0<|oF 47 (fM3 p)<|oL 48 (ldI (hn.at_.isX g49))<|oI 49 (pT L 0) (.int .i64 (3)) (pT L 3) (QJ7 L _)<|oL 50 (ldF ((hL4.cell 3).trans rfl)) ?_
           refine Xf hn rfl (by kernel_rfl) (QMm  hn.at_) (fun _ _ hX hb=>QR rfl (OutV.err (hr.trans hX) hb)) ?_
           intro s53 xs53 w53 hX hn
           have hr:=hr.trans hX
           refine Jg ?_
           try simp only[Act.put,sA,sB,sC]
           refine jt rfl rfl ?_
           exact OutV.ok (hr.trans (Tr.run_done _ _)) hn
end Go.Proofs.YtmgcgiecimnncaaGreatDoor
