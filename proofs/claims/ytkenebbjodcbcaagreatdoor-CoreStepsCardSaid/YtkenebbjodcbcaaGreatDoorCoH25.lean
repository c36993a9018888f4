/- Contracts and facts that the claim's proof wants (several texts in one). -/
import Derived.Test.YtkenebbjodcbcaaGreatDoorCoH24
namespace Go.Proofs.YtkenebbjodcbcaaGreatDoor
open Go.RowKit
set_option linter.unusedVariables false
set_option linter.unusedSimpArgs false
set_option maxRecDepth 20000
set_option maxHeartbeats 20000000
theorem QKy (c:Int)(hAc:B8 c){s:Ws} {xs:List Int} {z:Zs} {w:World} {p B:Nat}(h:AtW w p B s xs z){R0:Except Cy (Ws×List Int)}(hI0:Inv R0 xs 0 c s z) :
 Calls Tryz.prog 67 #[pT p 0,.int .u8 (c)] w (OutE w p B xs R0):=by
 have hn:=NowW.begin h
 go_enter Tryz.func67,Tryz.ntmps67
 refine wp_seq_k fun K1 hK1=>JD<|oA 4 (.int .i64 (0)) ?_
 refine JS ?_
 try simp only[Act.put,sA,sB,sC]
 refine JM<|hK1 _ _<|wp_seq_k fun K2 hK2=>?_
 refine wp_block ?_
 refine wp_loop (fun a' w'=>∃ (b1 n1:Int) (s1:Ws) (z1:Zs) (y9 y10 y11 y12 y13 y14 y15 y16 y17 y18 y19 y20 y21 y22 y23 y24 y25:Value),a'={ tmps:=#[pT p 0,.int .u8 b1,undef,undef,.int .i64 n1,undef,undef,undef,undef,y9,y10,y11,y12,y13,y14,y15,y16,y17,y18,y19,y20,y21,y22,y23,y24,y25,undef,undef,undef,undef,undef,undef,undef,undef,undef,undef,undef,undef,undef,undef,undef,undef,undef,undef,undef,undef,undef,undef,undef,undef,undef,undef,undef,undef,undef,undef,undef,undef,undef,undef,undef,undef,undef,undef,undef,undef,undef,undef,undef,undef,undef,undef,undef,undef,undef,undef,undef,undef,undef,undef,undef,undef,undef,undef,undef,undef,undef,undef,undef,undef,undef,undef,undef,undef,undef],defers:=[] }∧NowW w p B s1 xs z1 w'∧B8 b1∧Inv R0 xs n1 b1 s1 z1) (fun _ w'=>muW p w') ⟨c,0,s,z,undef,undef,undef,undef,undef,undef,undef,undef,undef,undef,undef,undef,undef,undef,undef,undef,undef,rfl,hn,hAc,hI0⟩ ?_
 rintro a1 w1 ⟨b1,n1,s1,z1,y9,y10,y11,y12,y13,y14,y15,y16,y17,y18,y19,y20,y21,y22,y23,y24,y25,rfl,hn,hb1,hI⟩
 have hm1:=hn.at_.mu
 have hp1:=hn.at_.pos
 refine wp_seq_k fun K3 hK3=>wp_seq_k fun K4 hK4=>JD<|oM 9 (.int .u8 (b1))<|oB 10 (eg8 _ _ _ _ _) (QBq b1 221)<|oM 11 (.bool (b1==221)) ?_
 rcases Bool.eq_false_or_eq_true (b1==221) with h5|h5
 · skip
   have g5:b1=221:=by simpa using h5
   rewrite [h5]
   refine oZ 12<|oZ 13<|oP 14 (.bool (true)) true<|oM 15 (.bool (true))<|oY 16 (pT p 0)<|oT 17 (pT p 0) (QCC (ad:=⟨p,0,none⟩) rfl (by kernel_rfl) _)<|oT 18 (pT p 22) (ZL (V:=pT p 0) (R:=pT p 22) rfl (by kernel_rfl) (fW3 p) _)<|oT 19 (.bool (z1.lacks)) (jC rfl (by kernel_rfl) (ldB (hn.at_.cell 22 (.bool (z1.lacks)) fun _ _ _=>rfl)))<|oT 20 (.bool (!(z1.lacks))) (heUn (V:=.bool (z1.lacks)) (R:=.bool (!(z1.lacks))) rfl (by kernel_rfl) (fun w=>uNot (z1.lacks) w) _)<|oP 21 (.bool (!(z1.lacks))) true ?_
   refine JS ?_
   try simp only[Act.put,sA,sB,sC]
   refine JM<|hK4 _ _ ?_
   refine wp_cond_split (t:=!(z1.lacks)) (by kernel_rfl) (fun h6=>?_) (fun h6=>?_)
   · skip
     have g6:¬z1.lacks=true:=by simpa using h6
     have h6n:z1.lacks=false:=by simpa using h6
     refine wp_skip ?_
     refine JM<|hK3 _ _ ?_
     refine wp_block ?_
     refine wp_seq_k fun K7 hK7=>JD<|oA 4 (.int .i64 (3)) ?_
     refine JS ?_
     try simp only[Act.put,sA,sB,sC]
     refine JM<|hK7 _ _<|wp_seq_k fun K8 hK8=>wp_seq_k fun K9 hK9=>JD<|oM 22 (.int .u8 (b1))<|oB 23 (eg8 _ _ _ _ _) (QBq b1 253) ?_
     refine JS ?_
     try simp only[Act.put,sA,sB,sC]
     refine JM<|hK9 _ _ ?_
     refine wp_cond_split (t:=b1==253) (by kernel_rfl) (fun h10=>?_) (fun h10=>?_)
     · exact absurd h10 (by first|(simp;omega)|simp[*])
     refine wp_skip ?_
     refine JM<|hK8 _ _<|JD<|oM 24 (pT p 0) ?_
     refine QAD hn rfl (by kernel_rfl) (QB6  hn.at_) ?_
     intro v11 s11 z11 w11 hX hk11 hn
     refine oA 1 (.int .u8 (v11)) ?_
     refine JS ?_
     try simp only[Act.put,sA,sB,sC]
     refine Qt ?_
     exact JM ⟨⟨v11,3,s11,z11,.int .u8 (b1),.bool (true),.bool (true),undef,undef,.bool (true),.bool (true),pT p 0,pT p 0,pT p 22,.bool (z1.lacks),.bool (!(z1.lacks)),.bool (!(z1.lacks)),.int .u8 (b1),.bool (b1==253),pT p 0,.int .u8 (v11),rfl,hn,hk11,QIq hI (by assumption) (by first|exact .inl (by assumption)|exact .inr (by assumption)) (show (3:Int)=if b1=253 then 4 else 3 by first|rw[if_pos (by assumption)]|rw[if_neg (by assumption)]|rw[if_neg (by omega)]) hp1 hX⟩,by rw[hn.at_.mu,hm1];exact mu_step (by assumption) hX⟩
   · skip
     have g6:z1.lacks=true:=by simpa using h6
     have h6n:z1.lacks=true:=by simpa using h6
     refine wp_exit ?_
     refine QC9 ?_
     refine QC9 ?_
     refine QGl ?_
     refine JM<|hK2 _ _ ?_
     refine wp_block ?_
     refine wp_seq_k fun K12 hK12=>JD<|oM 31 (pT p 0)<|oN 32 p 0<|oF 33 (fW3 p)<|oL 34 (ldB (hn.at_.cell 22 (.bool (z1.lacks)) fun _ _ _=>rfl))<|oA 30 (.bool (z1.lacks)) ?_
     refine JS ?_
     try simp only[Act.put,sA,sB,sC]
     refine JM<|hK12 _ _ ?_
     refine wp_cond_split (t:=z1.lacks) (by kernel_rfl) (fun h13=>?_) (fun h13=>?_)
     rotate_left
     · exact absurd (h6n.symm.trans h13) (by decide)
     refine wp_skip ?_
     refine Qt ?_
     refine X8 rfl rfl ?_
     exact OutE.lacks hI (by assumption) hn
 · skip
   have g5:¬b1=221:=by simpa using h5
   rewrite [h5]
   refine oY 12 (.int .u8 (b1))<|oT 13 (.bool (b1==253)) (QDC (V:=.int .u8 (b1)) (W:=.int .u8 (253)) (R:=.bool (b1==253)) rfl (by kernel_rfl) (by kernel_rfl) (eg8 _ _ _ _ _) (QBq b1 253) _)<|oP 14 (.bool (b1==253)) false<|oM 15 (.bool (b1==253)) ?_
   rcases Bool.eq_false_or_eq_true (b1==253) with h14|h14
   · skip
     have g14:b1=253:=by simpa using h14
     rewrite [h14]
     refine oY 16 (pT p 0)<|oT 17 (pT p 0) (QCC (ad:=⟨p,0,none⟩) rfl (by kernel_rfl) _)<|oT 18 (pT p 22) (ZL (V:=pT p 0) (R:=pT p 22) rfl (by kernel_rfl) (fW3 p) _)<|oT 19 (.bool (z1.lacks)) (jC rfl (by kernel_rfl) (ldB (hn.at_.cell 22 (.bool (z1.lacks)) fun _ _ _=>rfl)))<|oT 20 (.bool (!(z1.lacks))) (heUn (V:=.bool (z1.lacks)) (R:=.bool (!(z1.lacks))) rfl (by kernel_rfl) (fun w=>uNot (z1.lacks) w) _)<|oP 21 (.bool (!(z1.lacks))) true ?_
     refine JS ?_
     try simp only[Act.put,sA,sB,sC]
     refine JM<|hK4 _ _ ?_
     refine wp_cond_split (t:=!(z1.lacks)) (by kernel_rfl) (fun h15=>?_) (fun h15=>?_)
     · skip
       have g15:¬z1.lacks=true:=by simpa using h15
       have h15n:z1.lacks=false:=by simpa using h15
       refine wp_skip ?_
       refine JM<|hK3 _ _ ?_
       refine wp_block ?_
       refine wp_seq_k fun K16 hK16=>JD<|oA 4 (.int .i64 (3)) ?_
       refine JS ?_
       try simp only[Act.put,sA,sB,sC]
       refine JM<|hK16 _ _<|wp_seq_k fun K17 hK17=>wp_seq_k fun K18 hK18=>JD<|oM 22 (.int .u8 (b1))<|oB 23 (eg8 _ _ _ _ _) (QBq b1 253) ?_
       refine JS ?_
       try simp only[Act.put,sA,sB,sC]
       refine JM<|hK18 _ _ ?_
       refine wp_cond_split (t:=b1==253) (by kernel_rfl) (fun h19=>?_) (fun h19=>?_)
       rotate_left
       · exact absurd h19 (by first|(simp;omega)|simp[*])
       refine JD<|oA 4 (.int .i64 (4)) ?_
       refine JS ?_
       try simp only[Act.put,sA,sB,sC]
       refine JM<|hK17 _ _<|JD<|oM 24 (pT p 0) ?_
       refine QAD hn rfl (by kernel_rfl) (QB6  hn.at_) ?_
       intro v20 s20 z20 w20 hX hk20 hn
       refine oA 1 (.int .u8 (v20)) ?_
       refine JS ?_
       try simp only[Act.put,sA,sB,sC]
       refine Qt ?_
       exact JM ⟨⟨v20,4,s20,z20,.int .u8 (b1),.bool (false),.bool (false),.int .u8 (b1),.bool (true),.bool (true),.bool (true),pT p 0,pT p 0,pT p 22,.bool (z1.lacks),.bool (!(z1.lacks)),.bool (!(z1.lacks)),.int .u8 (b1),.bool (b1==253),pT p 0,.int .u8 (v20),rfl,hn,hk20,QIq hI (by assumption) (by first|exact .inl (by assumption)|exact .inr (by assumption)) (show (4:Int)=if b1=253 then 4 else 3 by first|rw[if_pos (by assumption)]|rw[if_neg (by assumption)]|rw[if_neg (by omega)]) hp1 hX⟩,by rw[hn.at_.mu,hm1];exact mu_step (by assumption) hX⟩
     · skip
       have g15:z1.lacks=true:=by simpa using h15
       have h15n:z1.lacks=true:=by simpa using h15
       refine wp_exit ?_
       refine QC9 ?_
       refine QC9 ?_
       refine QGl ?_
       refine JM<|hK2 _ _ ?_
       refine wp_block ?_
       refine wp_seq_k fun K21 hK21=>JD<|oM 31 (pT p 0)<|oN 32 p 0<|oF 33 (fW3 p)<|oL 34 (ldB (hn.at_.cell 22 (.bool (z1.lacks)) fun _ _ _=>rfl))<|oA 30 (.bool (z1.lacks)) ?_
       refine JS ?_
       try simp only[Act.put,sA,sB,sC]
       refine JM<|hK21 _ _ ?_
       refine wp_cond_split (t:=z1.lacks) (by kernel_rfl) (fun h22=>?_) (fun h22=>?_)
       rotate_left
       · exact absurd (h15n.symm.trans h22) (by decide)
       refine wp_skip ?_
       refine Qt ?_
       refine X8 rfl rfl ?_
       exact OutE.lacks hI (by assumption) hn
   · skip
     have g14:¬b1=253:=by simpa using h14
     rewrite [h14]
     refine oZ 16<|oZ 17<|oZ 18<|oZ 19<|oZ 20<|oP 21 (.bool (false)) false ?_
     refine JS ?_
     try simp only[Act.put,sA,sB,sC]
     refine JM<|hK4 _ _ ?_
     refine wp_cond_false (by kernel_rfl) ?_
     refine wp_exit ?_
     refine QC9 ?_
     refine QC9 ?_
     refine QGl ?_
     refine JM<|hK2 _ _ ?_
     refine wp_block ?_
     refine wp_seq_k fun K23 hK23=>JD<|oM 31 (pT p 0)<|oN 32 p 0<|oF 33 (fW3 p)<|oL 34 (ldB (hn.at_.cell 22 (.bool (z1.lacks)) fun _ _ _=>rfl))<|oA 30 (.bool (z1.lacks)) ?_
     refine JS ?_
     try simp only[Act.put,sA,sB,sC]
     refine JM<|hK23 _ _ ?_
     refine wp_cond_split (t:=z1.lacks) (by kernel_rfl) (fun h24=>?_) (fun h24=>?_)
     · skip
       have g24:z1.lacks=true:=by simpa using h24
       refine wp_skip ?_
       refine Qt ?_
       refine X8 rfl rfl ?_
       exact OutE.lacks hI (by assumption) hn
     · skip
       have g24:¬z1.lacks=true:=by simpa using h24
       have hl0:z1.lacks=false:=h24
       have hp0:=hn.at_.pos
       have hR0:=(hI.resolve_right (by rw[hl0];simp)).2.trans (QKT (fun h=>h.elim g5 g14) n1 s1 (xs.drop z1.pos))
       have hr:(QEW n1 b1 s1).runZ xs z1=(QEW n1 b1 s1).runZ xs z1:=rfl
       first|(have hr:=hr.trans (JX (by first|exact g24|exact g14|exact g5|exact .inl g24|exact .inr g24|exact fun h=>g24 h.2|exact fun h=>g24 h.1|exact⟨g14,g24⟩|exact not_or.2 ⟨g14,g24⟩|(simp[g24,g14,g5];done)|omega)))|(have hr:=hr.trans (JP (by first|exact g24|exact g14|exact g5|exact .inl g24|exact .inr g24|exact fun h=>g24 h.2|exact fun h=>g24 h.1|exact⟨g14,g24⟩|exact not_or.2 ⟨g14,g24⟩|(simp[g24,g14,g5];done)|omega)))|(have hr:=hr.trans (zG (by first|exact g24|exact g14|exact g5|exact .inl g24|exact .inr g24|exact fun h=>g24 h.2|exact fun h=>g24 h.1|exact⟨g14,g24⟩|exact not_or.2 ⟨g14,g24⟩|(simp[g24,g14,g5];done)|omega)))|(have hr:=hr.trans (q9 (by first|exact g24|exact g14|exact g5|exact .inl g24|exact .inr g24|exact fun h=>g24 h.2|exact fun h=>g24 h.1|exact⟨g14,g24⟩|exact not_or.2 ⟨g14,g24⟩|(simp[g24,g14,g5];done)|omega)))|skip
       refine wp_seq_k fun K25 hK25=>JD<|oM 36 (.int .u8 (b1))<|oB 37 (eg8 _ _ _ _ _) (QBq b1 237)<|oA 35 (.bool (b1==237)) ?_
       refine JS ?_
       try simp only[Act.put,sA,sB,sC]
       refine JM<|hK25 _ _ ?_
       refine wp_cond_split (t:=b1==237) (by kernel_rfl) (fun h26=>?_) (fun h26=>?_)
       · skip
         have g26:b1=237:=by simpa using h26
         have hr:=hr.trans (JX g26)
         refine wp_seq_k fun K27 hK27=>JD<|oM 38 (pT p 0) ?_
         refine QAD hn rfl (by kernel_rfl) (QB6  hn.at_) ?_
         intro v28 s28 z28 w28 hX hk28 hn
         have hr:=hr.trans (QBi hX _)
         refine oA 5 (.int .u8 (v28)) ?_
         refine JS ?_
         try simp only[Act.put,sA,sB,sC]
         refine JM<|hK27 _ _<|wp_seq_k fun K29 hK29=>JD<|oM 40 (pT p 0)<|oN 41 p 0<|oF 42 (fW5 p) ?_
         refine QAA hn 27 (.int .i64 (0)) (s28.u_plane (0)) rfl rfl rfl (by kernel_rfl) (by kernel_rfl) (stI (hn.at_.cell 27 _ fun _ _ _=>rfl) (hn.at_.frozen 27)) (QIh _ _ _) (hn.at_.ms.u_plane) ?_
         intro w30 hn
         refine JS ?_
         try simp only[Act.put,sA,sB,sC]
         refine JM<|hK29 _ _<|wp_seq_k fun K31 hK31=>JD<|oM 43 (pT p 0)<|oN 44 p 0<|oF 45 (fW6 p) ?_
         refine QAA hn 28 (.int .u8 (0)) ((s28.u_plane (0)).u_code (0)) rfl rfl rfl (by kernel_rfl) (by kernel_rfl) (st8 (hn.at_.cell 28 _ fun _ _ _=>rfl) (hn.at_.frozen 28)) (QQF _ _ _) (hn.at_.ms.u_code (⟨by decide,by decide⟩)) ?_
         intro w32 hn
         refine JS ?_
         try simp only[Act.put,sA,sB,sC]
         refine JM<|hK31 _ _<|JD<|oM 46 (pT p 0)<|oM 47 (.int .u8 (v28)) ?_
         refine QCu hn rfl (by kernel_rfl) (w_ed v28 (hk28) hn.at_) ?_
         intro s33 z33 w33 hX hn
         have hr:=hr.trans hX
         refine JS ?_
         try simp only[Act.put,sA,sB,sC]
         refine Qt ?_
         refine X8 rfl rfl ?_
         exact OutE.rest hR0 hl0 hp0 hr hn
       · skip
         have g26:¬b1=237:=by simpa using h26
         have hr:=hr.trans (JP g26)
         refine wp_seq_k fun K34 hK34=>JD<|oM 50 (.int .u8 (b1))<|oB 51 (eg8 _ _ _ _ _) (QBq b1 203)<|oM 52 (.bool (b1==203)) ?_
         rcases Bool.eq_false_or_eq_true (b1==203) with h35|h35
         · skip
           have g35:b1=203:=by simpa using h35
           rewrite [h35]
           refine oY 53 (.int .i64 (n1))<|oT 54 (.bool (n1==0)) (QDC (V:=.int .i64 (n1)) (W:=.int .i64 (0)) (R:=.bool (n1==0)) rfl (by kernel_rfl) (by kernel_rfl) (egI _ _ _ _ _) (ZP n1 0) _)<|oP 55 (.bool (n1==0)) true<|oA 49 (.bool (n1==0)) ?_
           refine JS ?_
           try simp only[Act.put,sA,sB,sC]
           refine JM<|hK34 _ _ ?_
           refine wp_cond_split (t:=n1==0) (by kernel_rfl) (fun h36=>?_) (fun h36=>?_)
           · skip
             have g36:n1=0:=by simpa using h36
             have hr:=hr.trans (JX (⟨g35,g36⟩))
             refine wp_seq_k fun K37 hK37=>JD<|oM 56 (pT p 0) ?_
             refine QAD hn rfl (by kernel_rfl) (QB6  hn.at_) ?_
             intro v38 s38 z38 w38 hX hk38 hn
             have hr:=hr.trans (QBi hX _)
             refine oA 6 (.int .u8 (v38)) ?_
             refine JS ?_
             try simp only[Act.put,sA,sB,sC]
             refine JM<|hK37 _ _<|JD<|oM 58 (pT p 0)<|oM 59 (.int .u8 (v38)) ?_
             refine QCu hn rfl (by kernel_rfl) (QRo false v38 (hk38) hn.at_) ?_
             intro s39 z39 w39 hX hn
             have hr:=hr.trans hX
             refine JS ?_
             try simp only[Act.put,sA,sB,sC]
             refine Qt ?_
             refine X8 rfl rfl ?_
             exact OutE.rest hR0 hl0 hp0 hr hn
           · skip
             have g36:¬n1=0:=by simpa using h36
             have hr:=hr.trans (JP (fun h=>g36 h.2))
             refine wp_seq_k fun K40 hK40=>JD<|oM 62 (.int .u8 (b1))<|oB 63 (eg8 _ _ _ _ _) (QBq b1 203)<|oA 61 (.bool (b1==203)) ?_
             refine JS ?_
             try simp only[Act.put,sA,sB,sC]
             refine JM<|hK40 _ _ ?_
             refine wp_cond_split (t:=b1==203) (by kernel_rfl) (fun h41=>?_) (fun h41=>?_)
             rotate_left
             · exact absurd h41 (by first|(simp;omega)|simp[*])
             have hr:=hr.trans (JX g35)
             refine wp_seq_k fun K42 hK42=>JD<|oM 64 (pT p 0)<|oM 65 (.int .i64 (n1))<|oN 66 p 0<|oF 67 (fW5 p) ?_
             refine QAA hn 27 (.int .i64 (n1)) (s1.u_plane (n1)) rfl rfl rfl (by kernel_rfl) (by kernel_rfl) (stI (hn.at_.cell 27 _ fun _ _ _=>rfl) (hn.at_.frozen 27)) (QIh _ _ _) (hn.at_.ms.u_plane) ?_
             intro w43 hn
             refine JS ?_
             try simp only[Act.put,sA,sB,sC]
             refine JM<|hK42 _ _<|wp_seq_k fun K44 hK44=>JD<|oM 68 (pT p 0) ?_
             refine QAD hn rfl (by kernel_rfl) (XP  hn.at_) ?_
             intro v45 s45 z45 w45 hX hk45 hn
             have hr:=hr.trans (QBi hX _)
             refine oA 7 (.int .u8 (v45)) ?_
             refine JS ?_
             try simp only[Act.put,sA,sB,sC]
             refine JM<|hK44 _ _<|wp_seq_k fun K46 hK46=>JD<|oM 70 (pT p 0)<|oM 71 (pT p 0) ?_
             have b47:=Xs hn.at_.ms
             refine oC (.int .u16 (s45.hl)) (QDh  hn.at_) ?_
             intro w48 hk
             have hn:=hn.after hk
             refine oM 73 (.int .u8 (v45))<|oC (.int .u16 (JA s45.hl (JR v45))) (za s45.hl v45 (b47) (hk45) _) ?_
             rintro _ rfl
             refine oN 75 p 0<|oF 76 (fW7 p) ?_
             refine QAA hn 29 (.int .u16 (JA s45.hl (JR v45))) (s45.u_m (JA s45.hl (JR v45))) rfl rfl rfl (by kernel_rfl) (by kernel_rfl) (QMV (hn.at_.cell 29 _ fun _ _ _=>rfl) (hn.at_.frozen 29)) (wu_m _ _ _) (hn.at_.ms.u_m (Wd16.mod _)) ?_
             intro w50 hn
             refine JS ?_
             try simp only[Act.put,sA,sB,sC]
             refine JM<|hK46 _ _<|wp_seq_k fun K51 hK51=>JD<|oM 77 (pT p 0)<|oN 78 p 0<|oF 79 (fW8 p) ?_
             refine QAA hn 30 (.bool (true)) ((s45.u_m (JA s45.hl (JR v45))).u_known (true)) rfl rfl rfl (by kernel_rfl) (by kernel_rfl) (stB (hn.at_.cell 30 _ fun _ _ _=>rfl) (hn.at_.frozen 30)) (QOf _ _ _) (hn.at_.ms.u_known) ?_
             intro w52 hn
             refine JS ?_
             try simp only[Act.put,sA,sB,sC]
             refine JM<|hK51 _ _<|wp_seq_k fun K53 hK53=>JD<|oM 80 (pT p 0)<|oM 81 (pT p 0)<|oN 82 p 0<|oF 83 (fW7 p) ?_
             have b54:=hn.at_.ms.m
             refine oL 84 (QMM (hn.at_.cell 29 (.int .u16 (((s45.u_m (JA s45.hl (JR v45))).u_known (true)).m)) fun _ _ _=>rfl))<|oN 85 p 0<|oF 86 (fW0 p)<|oF 87 (fR12 p) ?_
             refine QAA hn 12 (.int .u16 (((s45.u_m (JA s45.hl (JR v45))).u_known (true)).m)) (((s45.u_m (JA s45.hl (JR v45))).u_known (true)).u_wz (((s45.u_m (JA s45.hl (JR v45))).u_known (true)).m)) rfl rfl rfl (by kernel_rfl) (by kernel_rfl) (QMV (hn.at_.cell 12 _ fun _ _ _=>rfl) (hn.at_.frozen 12)) (QTo _ _ _) (hn.at_.ms.u_wz (b54)) ?_
             intro w55 hn
             refine JS ?_
             try simp only[Act.put,sA,sB,sC]
             refine JM<|hK53 _ _<|wp_seq_k fun K56 hK56=>JD<|oM 88 (pT p 0) ?_
             refine QAD hn rfl (by kernel_rfl) (XP  hn.at_) ?_
             intro v57 s57 z57 w57 hX hk57 hn
             have hr:=hr.trans (QBi hX _)
             refine oA 8 (.int .u8 (v57)) ?_
             refine JS ?_
             try simp only[Act.put,sA,sB,sC]
             refine JM<|hK56 _ _<|wp_seq_k fun K58 hK58=>JD<|oM 90 (pT p 0) ?_
             refine QCu hn rfl (by kernel_rfl) (Jo 2 hn.at_) ?_
             intro s59 z59 w59 hX hn
             have hr:=hr.trans (QBi hX _)
             refine JS ?_
             try simp only[Act.put,sA,sB,sC]
             refine JM<|hK58 _ _<|JD<|oM 92 (pT p 0)<|oM 93 (.int .u8 (v57)) ?_
             refine QCu hn rfl (by kernel_rfl) (QRo true v57 (hk57) hn.at_) ?_
             intro s60 z60 w60 hX hn
             have hr:=hr.trans hX
             refine JS ?_
             try simp only[Act.put,sA,sB,sC]
             refine Qt ?_
             refine X8 rfl rfl ?_
             exact OutE.rest hR0 hl0 hp0 hr hn
         · skip
           have g35:¬b1=203:=by simpa using h35
           rewrite [h35]
           refine oZ 53<|oZ 54<|oP 55 (.bool (false)) false<|oA 49 (.bool (false)) ?_
           refine JS ?_
           try simp only[Act.put,sA,sB,sC]
           refine JM<|hK34 _ _ ?_
           refine wp_cond_false (by kernel_rfl) ?_
           have hr:=hr.trans (JP (fun h=>g35 h.1))
           refine wp_seq_k fun K61 hK61=>JD<|oM 62 (.int .u8 (b1))<|oB 63 (eg8 _ _ _ _ _) (QBq b1 203)<|oA 61 (.bool (b1==203)) ?_
           refine JS ?_
           try simp only[Act.put,sA,sB,sC]
           refine JM<|hK61 _ _ ?_
           refine wp_cond_split (t:=b1==203) (by kernel_rfl) (fun h62=>?_) (fun h62=>?_)
           · exact absurd h62 (by first|(simp;omega)|simp[*])
           have hr:=hr.trans (JP g35)
           refine JD<|oM 26 (pT p 0)<|oM 27 (.int .i64 (n1))<|oM 28 (.int .u8 (b1)) ?_
           refine QCu hn rfl (by kernel_rfl) (QQH n1 b1 (hb1) hn.at_) ?_
           intro s63 z63 w63 hX hn
           have hr:=hr.trans hX
           refine JS ?_
           try simp only[Act.put,sA,sB,sC]
           refine Qt ?_
           refine X8 rfl rfl ?_
           exact OutE.rest hR0 hl0 hp0 hr hn
theorem AtW.asked {w:World} {p B:Nat} {s:Ws} {xs:List Int} {z:Zs}(h:AtW w p B s xs z):w.rangeAt p 23 (cyC z.asked).toList:=by
 obtain⟨A,cap,hc,hr,hb⟩:=h.row
 intro j v hv
 rw[hr.cell]
 have hj:j < 4:=(List.getElem?_eq_some_iff.1 hv).1
 revert hv
 match j,hj with
 | 0,_=>exact id
 | 1,_=>exact id
 | 2,_=>exact id
 | 3,_=>exact id
 | n+4,h=>omega
def QD1:Except Cy (Ws×List Int)→Value
 | .ok (s,_)=>.tuple #[cyV JL,JH s.r,.bool true]
 | .error c=>.tuple #[cyV c,JH Ja,.bool false]
theorem QKJ {s:Ws} {xs:List Int} {z:Zs} {w:World} {p B:Nat}(h:AtW w p B s xs z){R:Except Cy (Ws×List Int)}(hR:(z.lacks=false∧∃ ys,R=.ok (s,ys))∨(z.lacks=true∧R=.error z.asked)) :
 Calls Tryz.prog 65 #[pT p 0] w (fun e w'=>e=.returned (QD1 R)∧Below w.heap.size w w'):=by
 go_enter Tryz.func65,Tryz.ntmps65
 refine wp_seq_k fun K1 hK1=>JD ?_
 have hp:=h.lt
 refine Jw 2 (pT w.heap.size 0) rfl (JN rfl) (Qg rfl (jc w)) ?_
 refine Jw 3 (.pointer (some ⟨(w.alloc (.cells (cyC JL) 29)).heap.size,0,none⟩)) rfl (JN rfl) (Qg rfl (QAq _)) ?_
 have h1:=h.below (Below.alloc (Below.refl w.heap.size w) (Nat.le_refl _) (.cells (cyC JL) 29))
 have h2:=h1.below (Below.alloc (Below.refl _ _) (Nat.le_refl _) (.cells (JJ Ja) 24))
 have hb0:Below w.heap.size w ((w.alloc (.cells (cyC JL) 29)).alloc (.cells (JJ Ja) 24)):=Below.alloc (Below.alloc (Below.refl _ _) (Nat.le_refl _) _) (by simp) _
 have hL:=(Row.new w 29 (cyC JL)).alloc (.cells (JJ Ja) 24)
 have hM:=Row.new (w.alloc (.cells (cyC JL) 29)) 24 (JJ Ja)
 obtain⟨L,hLe⟩:∃ L,L=w.heap.size:=⟨_,rfl⟩
 obtain⟨M,hMe⟩:∃ M,M=(w.alloc (.cells (cyC JL) 29)).heap.size:=⟨_,rfl⟩
 have hML:M=L+1:=by rw[hMe,hLe];simp
 rw[←hMe] at hM ⊢
 rw[←hLe] at hL hb0 ⊢
 generalize (w.alloc (.cells (cyC JL) 29)).alloc (.cells (JJ Ja) 24)=W at *
 clear hMe h1
 refine oA 4 (.bool false) ?_
 refine JS ?_
 try simp only[Act.put,sA,sB,sC]
 refine JM<|hK1 _ _<|wp_seq_k fun K2 hK2=>wp_seq_k fun K3 hK3=>JD<|oM 5 (pT p 0)<|oN 6 p 0<|oF 7 (fW3 p)<|oL 8 (ldB (h2.cell 22 (.bool z.lacks) fun _ _ _=>rfl)) ?_
 refine JS ?_
 try simp only[Act.put,sA,sB,sC]
 refine JM<|hK3 _ _ ?_
 refine wp_cond_split (t:=z.lacks) (by kernel_rfl) (fun hl=>?_) (fun hl=>?_)
 · have hR':R=.error z.asked:=(hR.resolve_left (by rw[hl];simp)).2
   subst hR'
   refine wp_seq_k fun K4 hK4=>JD<|oM 9 (pT p 0)<|oN 10 p 0<|oF 11 (fW4 p)<|oL 12 (run_loadAt_mid W p 23 29 (cyC z.asked).toList _ h2.asked Tryz.underlying29 rfl QEm)<|oU 13 (JJ Ja)<|oS ⟨L,0,none⟩ (cyV z.asked) (QBY hL) ?_
   have hL3:Row (W.setCells L 0 (cyC z.asked).toList) L 29 (cyC z.asked):=hL.setAll rfl
   have hM3:=hM.setFar (by omega:M≠L) (cyC z.asked).toList 0
   have hb3:=Below.setCellsAll hb0 (b:=L) (by omega) (cyC z.asked).toList 0
   refine oS ⟨M,0,none⟩ (JH Ja) (QBt hM3) ?_
   have hL4:=hL3.setFar (by omega:L≠M) (JJ Ja).toList 0
   have hM4:Row ((W.setCells L 0 (cyC z.asked).toList).setCells M 0 (JJ Ja).toList) M 24 (JJ Ja):=hM3.setAll rfl
   have hb4:=Below.setCellsAll hb3 (b:=M) (by omega) (JJ Ja).toList 0
   refine oA 4 (.bool false) ?_
   refine JS ?_
   try simp only[Act.put,sA,sB,sC]
   refine JM<|hK4 _ _ ?_
   refine wp_ret ?_
   refine QLY ?_
   exact bodyPost_ret (Qe rfl (by kernel_rfl) (by kernel_rfl) (by kernel_rfl) hL4 hM4) rfl ⟨rfl,by rw[←hLe];exact hb4⟩
 · obtain⟨ys,hR'⟩:=(hR.resolve_right (by rw[hl];simp)).2
   subst hR'
   refine wp_skip ?_
   refine JM<|hK2 _ _<|wp_seq_k fun K4 hK4=>?_
   refine Code.wp_mono (Q:=fun e a w=>match e with|.normal=>K4 a w|_=>False) (fun e a w h=>by cases e<;>first|exact h|exact h.elim) ?_
   refine qW 6 (fun w'=>AtW w' p B s xs z) (by kernel_rfl) (by kernel_rfl) h2.drew ?_
   intro w2 hw2 hS
   have hL2:Row w2 L 29 (cyC JL):=by subst hw2;exact hL.drew
   have hM2:Row w2 M 24 (JJ Ja):=by subst hw2;exact hM.drew
   have hb2:Below L w w2:=by subst hw2;exact⟨hb0.os,hb0.tape,hb0.output,hb0.size,hb0.block⟩
   refine yG 0 14 (cyV JL) rfl (fun w hS=>QHS (cells:=cyC JL) rfl (by kernel_rfl) w) hS<|yM 1 15 (pT p 0) hS<|yN 2 16 p 0 hS<|yF 3 17 (fW0 p) hS<|yL 4 18 (JH s.r) (fun w hS=>ldR hS.regs) hS ?_
   have hL3:Row (w2.setCells L 0 (cyC JL).toList) L 29 (cyC JL):=hL2.setAll rfl
   have hM3:=hM2.setFar (by omega:M≠L) (cyC JL).toList 0
   have hb3:=Below.setCellsAll hb2 (b:=L) (by omega) (cyC JL).toList 0
   refine QLW (i:=5) (by rfl) rfl (by kernel_rfl) (by kernel_rfl) (by kernel_rfl) (by exact Qy (ad:=⟨L,0,none⟩) (V:=cyV JL) rfl (by kernel_rfl) (by kernel_rfl) (QBY hL2)) (hS.far (by omega) (by have:=hS.low;omega) _ _) ?_
   refine QB4 (by kernel_rfl) ?_
   simp only[List.drop_succ_cons,List.drop_zero]
   try simp only[Act.put,sA,sB,sC]
   refine oS ⟨M,0,none⟩ (JH s.r) (QBt hM3) ?_
   have hL4:=hL3.setFar (by omega:L≠M) (JJ s.r).toList 0
   have hM4:Row ((w2.setCells L 0 (cyC JL).toList).setCells M 0 (JJ s.r).toList) M 24 (JJ s.r):=hM3.setAll rfl
   have hb4:=Below.setCellsAll hb3 (b:=M) (by omega) (JJ s.r).toList 0
   refine oA 4 (.bool true) ?_
   refine JS ?_
   try simp only[Act.put,sA,sB,sC]
   refine hK4 _ _ ?_
   refine wp_ret ?_
   exact bodyPost_ret (Qe rfl (by kernel_rfl) (by kernel_rfl) (by kernel_rfl) hL4 hM4) rfl ⟨rfl,by rw[←hLe];exact hb4⟩
def ws0 (g:Rg):Ws:=⟨g,0,0,0,false⟩
def zs0:Zs:=⟨0,false,JL⟩
theorem QUC {g:Rg}(h:RgB g):WsB (ws0 g):=⟨h,B8.zero,Wd16.zero⟩
def cyW:Except Cy (Ws×List Int)→Cy|.ok _=>JL|.error c=>c
def rgW:Except Cy (Ws×List Int)→Rg|.ok (s,_)=>s.r|.error _=>Ja
def jg:Except Cy (Ws×List Int)→Bool|.ok _=>true|.error _=>false
theorem qS (X:Except Cy (Ws×List Int)):QD1 X=.tuple #[cyV (cyW X),JH (rgW X),.bool (jg X)]:=by
 rcases X with c|⟨s,ys⟩<;>rfl
theorem boxW (g:Rg)(A:Option Addr)(n cap:Nat)(w:World):(Instr.box 112 (.agg (wC (ws0 g) A n cap zs0))).run Tryz.prog w=.ok (pT w.heap.size 0) (w.alloc (.cells (wC (ws0 g) A n cap zs0) 112)):=by
 simp[go_sem]
theorem QK5 {w W:World} {g:Rg} {A:Option Addr} {cap:Nat} {xs:List Int}(hk:∀ b,b < w.heap.size→W.heap[b]? = w.heap[b]?)(hs:w.heap.size≤W.heap.size)(hg:RgB g)(hc:xs.length≤cap)(h8:Bytes8 xs)(hbig:xs.length≤1000000000000000)(hin:BytesIn w w.heap.size A xs) :
 AtW (W.alloc (.cells (wC (ws0 g) A xs.length cap zs0) 112)) W.heap.size w.heap.size (ws0 g) xs zs0:=by
 have k:∀ b,b < w.heap.size→(W.alloc (.cells (wC (ws0 g) A xs.length cap zs0) 112)).heap[b]? = w.heap[b]?:=fun b hb=>(Below.heap_alloc W _ b (by omega)).trans (hk b hb)
 exact⟨⟨A,cap,hc,Row.new W _ _,hin.keep k⟩,hs,h8,QUC hg,by simp[zs0],hbig⟩
def QAW (g:Rg)(c:Int)(xs:List Int):Except Cy (Ws×List Int):=Z5 xs 0 c ((ws0 g).u_late false)
def QIC (s:Ws)(xs:List Int):Except Cy (Ws×List Int) :=
 match (Je s).run xs with
 | .ok ((b,t),ys)=>Z5 ys 0 b t
 | .error c=>.error c
def QIE (s:Ws):Tr Ws:=(QF ⟨1,s.r.pc,0,4⟩ s).bind fun b=>.done b.2.tick
def jy (g:Rg)(xs:List Int):Except Cy (Ws×List Int):=if g.halted=true then (QIE (ws0 g)).run xs else QIC ((ws0 g).u_late false) xs
theorem QP9 {t:Tr Ws} {s:Ws} {z:Zs} {xs:List Int}(hr:t.runZ xs zs0=(s,z)):(z.lacks=false∧∃ ys,t.run xs=.ok (s,ys))∨(z.lacks=true∧t.run xs=.error z.asked):=by
 have k:=Tr.runZ_run xs t zs0 rfl (Nat.zero_le _)
 rw[hr] at k
 have e0:xs.drop zs0.pos=xs:=rfl
 rw[e0] at k
 cases e:t.run xs with
 | error c =>
   rw[e] at k
   exact .inr ⟨k.1,by rw[k.2]⟩
 | ok r =>
   obtain⟨a,ys⟩:=r
   rw[e] at k
   have k1:s=a:=k.1
   exact .inl ⟨k.2.1,ys,by rw[k1]⟩
theorem inv_of {xs:List Int} {s t:Ws} {v:Int} {z:Zs}(hr:(Je s).runZ xs zs0=((v,t),z)):Inv (QIC s xs) xs 0 v t z:=by
 have k:=Tr.runZ_run xs (Je s) zs0 rfl (Nat.zero_le _)
 rw[hr] at k
 have e0:xs.drop zs0.pos=xs:=rfl
 rw[e0] at k
 unfold QIC
 cases e:(Je s).run xs with
 | error c =>
   rw[e] at k
   exact .inr ⟨k.1,by rw[k.2]⟩
 | ok r =>
   obtain⟨a,ys⟩:=r
   rw[e] at k
   have k1:(v,t)=a:=k.1
   subst k1
   exact .inl ⟨k.2.1,by rw[k.2.2.2.1]⟩
theorem QJi (g:Rg)(hg:RgB g)(c:Int)(hcb:B8 c)(A:Option Addr)(cap:Nat)(xs:List Int)(hc:xs.length≤cap)(h8:Bytes8 xs)(hbig:xs.length≤1000000000000000)(w:World)(hin:BytesIn w w.heap.size A xs) :
 Calls Tryz.prog 52 #[JH g,.int .u8 c,.slice A xs.length cap] w (fun e w'=>e=.returned (QD1 (QAW g c xs))∧Below w.heap.size w w'):=by
 go_enter Tryz.func52,Tryz.ntmps52
 refine wp_seq_k fun K1 hK1=>JD ?_
 refine Jw 3 (pT w.heap.size 0) rfl (JN rfl) (QFC rfl (by kernel_rfl) (QKz g w)) ?_
 have r0:=Row.new w 24 (JJ g)
 have hb:=Below.alloc (Below.refl w.heap.size w) (Nat.le_refl _) (.cells (JJ g) 24)
 obtain⟨L0,hL0⟩:∃ L,L=w.heap.size:=⟨_,rfl⟩
 rw[←hL0] at r0 ⊢
 generalize w.alloc (.cells (JJ g) 24)=W0 at *
 have l0:=r0.lt
 have hsW0:=hb.size
 refine Jw 6 (pT W0.heap.size 0) rfl (JN rfl) (Qg rfl (jc W0)) ?_
 have r0:=r0.alloc (.cells (cyC JL) 29)
 have r1:=Row.new W0 29 (cyC JL)
 have hb:=Below.alloc hb (by have:=hb.size;omega) (.cells (cyC JL) 29)
 obtain⟨L1,hL1⟩:∃ L,L=W0.heap.size:=⟨_,rfl⟩
 have q1:w.heap.size≤L1∧L0 < L1:=by rw[hL1];exact⟨hsW0,l0⟩
 rw[←hL1] at r1 ⊢
 generalize W0.alloc (.cells (cyC JL) 29)=W1 at *
 have l0:=r0.lt
 have l1:=r1.lt
 have hsW1:=hb.size
 refine Jw 7 (pT W1.heap.size 0) rfl (JN rfl) (Qg rfl (QAq W1)) ?_
 have r0:=r0.alloc (.cells (JJ Ja) 24)
 have r1:=r1.alloc (.cells (JJ Ja) 24)
 have r2:=Row.new W1 24 (JJ Ja)
 have hb:=Below.alloc hb (by have:=hb.size;omega) (.cells (JJ Ja) 24)
 obtain⟨L2,hL2⟩:∃ L,L=W1.heap.size:=⟨_,rfl⟩
 have q2:w.heap.size≤L2∧L0 < L2∧L1 < L2:=by rw[hL2];exact⟨hsW1,l0,l1⟩
 rw[←hL2] at r2 ⊢
 generalize W1.alloc (.cells (JJ Ja) 24)=W2 at *
 have l0:=r0.lt
 have l1:=r1.lt
 have l2:=r2.lt
 have hsW2:=hb.size
 refine oA 8 (.bool false) ?_
 refine JS ?_
 try simp only[Act.put,sA,sB,sC]
 refine JM<|hK1 _ _<|wp_seq_k fun K2 hK2=>JD<|oL 10 (ldR r0.range)<|oM 11 (.slice A xs.length cap)<|oU 12 (wC (ws0 g) A xs.length cap zs0) ?_
 refine Jw 13 (pT W2.heap.size 0) rfl (JN rfl) (QFC rfl (by kernel_rfl) (boxW g A xs.length cap W2)) ?_
 have hat:=QK5 (w:=w) (W:=W2) (fun b hlt=>hb.block b hlt) hb.size hg hc h8 hbig hin
 have r0:=r0.alloc (.cells (wC (ws0 g) A xs.length cap zs0) 112)
 have r1:=r1.alloc (.cells (wC (ws0 g) A xs.length cap zs0) 112)
 have r2:=r2.alloc (.cells (wC (ws0 g) A xs.length cap zs0) 112)
 have hb:=Below.alloc hb (by have:=hb.size;omega) (.cells (wC (ws0 g) A xs.length cap zs0) 112)
 obtain⟨p,hp⟩:∃ p,p=W2.heap.size:=⟨_,rfl⟩
 have qp:w.heap.size≤p∧L0 < p∧L1 < p∧L2 < p:=by rw[hp];exact⟨hsW2,l0,l1,l2⟩
 rw[←hp] at hat ⊢
 generalize W2.alloc (.cells (wC (ws0 g) A xs.length cap zs0) 112)=W at *
 refine oA 9 (pT p 0) ?_
 refine JS ?_
 try simp only[Act.put,sA,sB,sC]
 refine JM<|hK2 _ _ ?_
 have hn:=NowW.begin hat
 refine wp_seq_k fun K3 hK3=>JD<|oM 14 (pT p 0)<|oN 15 p 0<|oF 16 (fW0 p)<|oF 17 (QSw p) ?_
 refine QAA hn 18 (.bool false) ((ws0 g).u_late false) rfl rfl rfl (by kernel_rfl) (by kernel_rfl) (stB (hn.at_.cell 18 _ fun _ _ _=>rfl) (hn.at_.frozen 18)) (QLQ _ _ _) hn.at_.ms.u_late ?_
 intro wl hn
 refine JS ?_
 try simp only[Act.put,sA,sB,sC]
 refine JM<|hK3 _ _<|wp_seq_k fun K4 hK4=>JD<|oM 18 (pT p 0)<|oM 19 (.int .u8 c) ?_
 refine Q9 (JN rfl) (by kernel_rfl) (QKy c hcb hn.at_ (R0:=QAW g c xs) (.inl ⟨rfl,rfl⟩)) (fun e wf ho=>?_)
 obtain⟨rfl,sf,zf,hnf,hR⟩:=ho
 have hn:=hn.after hnf
 refine JS ?_
 try simp only[Act.put,sA,sB,sC]
 refine JM<|hK4 _ _<|wp_seq_k fun K5 hK5=>JD<|oM 21 (pT p 0) ?_
 have r0:=r0.besides hn.bes (by omega) (by omega)
 have r1:=r1.besides hn.bes (by omega) (by omega)
 have r2:=r2.besides hn.bes (by omega) (by omega)
 have hb:=hb.trans (hn.bes.below (by omega) (by omega) hb.size)
 refine Q9 (JN rfl) (by kernel_rfl) (QKJ hn.at_ hR) (fun e wt ho=>?_)
 obtain⟨rfl,hbt⟩:=ho
 have r1:=r1.below hbt r1.lt
 have r2:=r2.below hbt r2.lt
 have hb:=hb.trans (hbt.mono (hb.size))
 rw[qS]
 generalize hX:QAW g c xs=X at *
 refine oX 23 #[cyV (cyW X),JH (rgW X),.bool (jg X)] (cyV (cyW X))<|oX 24 #[cyV (cyW X),JH (rgW X),.bool (jg X)] (JH (rgW X))<|oX 25 #[cyV (cyW X),JH (rgW X),.bool (jg X)] (.bool (jg X))<|oS ⟨L1,0,none⟩ (cyV (cyW X)) (QBY r1) ?_
 have r1':Row (wt.setCells L1 0 (cyC (cyW X)).toList) L1 29 (cyC (cyW X)):=r1.setAll rfl
 have r2':=r2.setFar (by omega:L2≠L1) (cyC (cyW X)).toList 0
 have hb:=Below.setCellsAll hb (b:=L1) (by omega) (cyC (cyW X)).toList 0
 refine oS ⟨L2,0,none⟩ (JH (rgW X)) (QBt r2') ?_
 have r1':=r1'.setFar (by omega:L1≠L2) (JJ (rgW X)).toList 0
 have r2':Row ((wt.setCells L1 0 (cyC (cyW X)).toList).setCells L2 0 (JJ (rgW X)).toList) L2 24 (JJ (rgW X)):=r2'.setAll rfl
 have hb:=Below.setCellsAll hb (b:=L2) (by omega) (JJ (rgW X)).toList 0
 refine oA 8 (.bool (jg X)) ?_
 refine JS ?_
 try simp only[Act.put,sA,sB,sC]
 refine JM<|hK5 _ _ ?_
 refine wp_ret ?_
 exact bodyPost_ret (Qe rfl (by kernel_rfl) (by kernel_rfl) (by kernel_rfl) r1' r2') rfl ⟨by rw[qS],hb⟩
theorem QJ2 (g:Rg)(hg:RgB g)(A:Option Addr)(cap:Nat)(xs:List Int)(hc:xs.length≤cap)(h8:Bytes8 xs)(hbig:xs.length≤1000000000000000)(w:World)(hin:BytesIn w w.heap.size A xs) :
 Calls Tryz.prog 48 #[JH g,.slice A xs.length cap] w (fun e w'=>e=.returned (QD1 (jy g xs))∧Below w.heap.size w w'):=by
 go_enter Tryz.func48,Tryz.ntmps48
 refine wp_seq_k fun K1 hK1=>JD ?_
 refine Jw 2 (pT w.heap.size 0) rfl (JN rfl) (QFC rfl (by kernel_rfl) (QKz g w)) ?_
 have r0:=Row.new w 24 (JJ g)
 have hb:=Below.alloc (Below.refl w.heap.size w) (Nat.le_refl _) (.cells (JJ g) 24)
 obtain⟨L0,hL0⟩:∃ L,L=w.heap.size:=⟨_,rfl⟩
 rw[←hL0] at r0 ⊢
 generalize w.alloc (.cells (JJ g) 24)=W0 at *
 have l0:=r0.lt
 have hsW0:=hb.size
 refine Jw 4 (pT W0.heap.size 0) rfl (JN rfl) (Qg rfl (jc W0)) ?_
 have r0:=r0.alloc (.cells (cyC JL) 29)
 have r1:=Row.new W0 29 (cyC JL)
 have hb:=Below.alloc hb (by have:=hb.size;omega) (.cells (cyC JL) 29)
 obtain⟨L1,hL1⟩:∃ L,L=W0.heap.size:=⟨_,rfl⟩
 have q1:w.heap.size≤L1∧L0 < L1:=by rw[hL1];exact⟨hsW0,l0⟩
 rw[←hL1] at r1 ⊢
 generalize W0.alloc (.cells (cyC JL) 29)=W1 at *
 have l0:=r0.lt
 have l1:=r1.lt
 have hsW1:=hb.size
 refine Jw 5 (pT W1.heap.size 0) rfl (JN rfl) (Qg rfl (QAq W1)) ?_
 have r0:=r0.alloc (.cells (JJ Ja) 24)
 have r1:=r1.alloc (.cells (JJ Ja) 24)
 have r2:=Row.new W1 24 (JJ Ja)
 have hb:=Below.alloc hb (by have:=hb.size;omega) (.cells (JJ Ja) 24)
 obtain⟨L2,hL2⟩:∃ L,L=W1.heap.size:=⟨_,rfl⟩
 have q2:w.heap.size≤L2∧L0 < L2∧L1 < L2:=by rw[hL2];exact⟨hsW1,l0,l1⟩
 rw[←hL2] at r2 ⊢
 generalize W1.alloc (.cells (JJ Ja) 24)=W2 at *
 have l0:=r0.lt
 have l1:=r1.lt
 have l2:=r2.lt
 have hsW2:=hb.size
 refine oA 6 (.bool false) ?_
 refine JS ?_
 try simp only[Act.put,sA,sB,sC]
 refine JM<|hK1 _ _<|wp_seq_k fun K2 hK2=>JD<|oL 9 (ldR r0.range)<|oM 10 (.slice A xs.length cap)<|oU 11 (wC (ws0 g) A xs.length cap zs0) ?_
 refine Jw 12 (pT W2.heap.size 0) rfl (JN rfl) (QFC rfl (by kernel_rfl) (boxW g A xs.length cap W2)) ?_
 have hat:=QK5 (w:=w) (W:=W2) (fun b hlt=>hb.block b hlt) hb.size hg hc h8 hbig hin
 have r0:=r0.alloc (.cells (wC (ws0 g) A xs.length cap zs0) 112)
 have r1:=r1.alloc (.cells (wC (ws0 g) A xs.length cap zs0) 112)
 have r2:=r2.alloc (.cells (wC (ws0 g) A xs.length cap zs0) 112)
 have hb:=Below.alloc hb (by have:=hb.size;omega) (.cells (wC (ws0 g) A xs.length cap zs0) 112)
 obtain⟨p,hp⟩:∃ p,p=W2.heap.size:=⟨_,rfl⟩
 have qp:w.heap.size≤p∧L0 < p∧L1 < p∧L2 < p:=by rw[hp];exact⟨hsW2,l0,l1,l2⟩
 rw[←hp] at hat ⊢
 generalize W2.alloc (.cells (wC (ws0 g) A xs.length cap zs0) 112)=W at *
 refine oA 7 (pT p 0) ?_
 refine JS ?_
 try simp only[Act.put,sA,sB,sC]
 refine JM<|hK2 _ _ ?_
 have hn:=NowW.begin hat
 refine wp_seq_k fun K3 hK3=>wp_seq_k fun K4 hK4=>JD<|oF 13 (fR17 L0)<|oL 14 (ldB (r0.cell 17)) ?_
 refine JS ?_
 try simp only[Act.put,sA,sB,sC]
 refine JM<|hK4 _ _ ?_
 refine wp_cond_split (t:=g.halted) (by kernel_rfl) (fun hh=>?_) (fun hh=>?_)
 · skip
   have e:jy g xs=(QIE (ws0 g)).run xs:=by rw[jy,if_pos hh]
   rw[e]
   refine wp_seq_k fun K5 hK5=>JD<|oM 15 (pT p 0)<|oF 16 (fR11 L0)<|oL 17 (QMM (r0.cell 11)) ?_
   refine QAD hn rfl (by kernel_rfl) (Xw 1 g.pc hg.pc 0 B8.zero 4 hn.at_) ?_
   intro v1 s1 z1 w1 hX1 hk1 hn
   refine JS ?_
   try simp only[Act.put,sA,sB,sC]
   refine JM<|hK5 _ _<|wp_seq_k fun K6 hK6=>JD<|oM 19 (pT p 0) ?_
   refine Q9 (JN rfl) (by kernel_rfl) (QOH hn.at_) (fun e wf ho=>?_)
   obtain⟨rfl,hnf⟩:=ho
   have hn:=hn.after hnf
   refine JS ?_
   try simp only[Act.put,sA,sB,sC]
   refine JM<|hK6 _ _ ?_
   have hR:=QP9 (t:=QIE (ws0 g)) (s:=s1.tick) (z:=z1) (xs:=xs) ((QBi hX1 _).trans (QDB _ _ _))
   refine wp_seq_k fun K7 hK7=>JD<|oM 21 (pT p 0) ?_
   have r0:=r0.besides hn.bes (by omega) (by omega)
   have r1:=r1.besides hn.bes (by omega) (by omega)
   have r2:=r2.besides hn.bes (by omega) (by omega)
   have hb:=hb.trans (hn.bes.below (by omega) (by omega) hb.size)
   refine Q9 (JN rfl) (by kernel_rfl) (QKJ hn.at_ hR) (fun e wt ho=>?_)
   obtain⟨rfl,hbt⟩:=ho
   have r1:=r1.below hbt r1.lt
   have r2:=r2.below hbt r2.lt
   have hb:=hb.trans (hbt.mono (hb.size))
   rw[qS]
   generalize hX:(QIE (ws0 g)).run xs=X at *
   refine oX 23 #[cyV (cyW X),JH (rgW X),.bool (jg X)] (cyV (cyW X))<|oX 24 #[cyV (cyW X),JH (rgW X),.bool (jg X)] (JH (rgW X))<|oX 25 #[cyV (cyW X),JH (rgW X),.bool (jg X)] (.bool (jg X))<|oS ⟨L1,0,none⟩ (cyV (cyW X)) (QBY r1) ?_
   have r1':Row (wt.setCells L1 0 (cyC (cyW X)).toList) L1 29 (cyC (cyW X)):=r1.setAll rfl
   have r2':=r2.setFar (by omega:L2≠L1) (cyC (cyW X)).toList 0
   have hb:=Below.setCellsAll hb (b:=L1) (by omega) (cyC (cyW X)).toList 0
   refine oS ⟨L2,0,none⟩ (JH (rgW X)) (QBt r2') ?_
   have r1':=r1'.setFar (by omega:L1≠L2) (JJ (rgW X)).toList 0
   have r2':Row ((wt.setCells L1 0 (cyC (cyW X)).toList).setCells L2 0 (JJ (rgW X)).toList) L2 24 (JJ (rgW X)):=r2'.setAll rfl
   have hb:=Below.setCellsAll hb (b:=L2) (by omega) (JJ (rgW X)).toList 0
   refine oA 6 (.bool (jg X)) ?_
   refine JS ?_
   try simp only[Act.put,sA,sB,sC]
   refine JM<|hK7 _ _ ?_
   refine wp_ret ?_
   refine QLY ?_
   exact bodyPost_ret (Qe rfl (by kernel_rfl) (by kernel_rfl) (by kernel_rfl) r1' r2') rfl ⟨by rw[qS],hb⟩
 · skip
   have e:jy g xs=QIC ((ws0 g).u_late false) xs:=by rw[jy,if_neg (by rw[hh];decide)]
   rw[e]
   refine wp_skip ?_
   refine JM<|hK3 _ _ ?_
   rw[e]
   refine wp_seq_k fun K5 hK5=>JD<|oM 26 (pT p 0)<|oN 27 p 0<|oF 28 (fW0 p)<|oF 29 (QSw p) ?_
   refine QAA hn 18 (.bool false) ((ws0 g).u_late false) rfl rfl rfl (by kernel_rfl) (by kernel_rfl) (stB (hn.at_.cell 18 _ fun _ _ _=>rfl) (hn.at_.frozen 18)) (QLQ _ _ _) hn.at_.ms.u_late ?_
   intro wl hn
   refine JS ?_
   try simp only[Act.put,sA,sB,sC]
   refine JM<|hK5 _ _<|wp_seq_k fun K6 hK6=>JD<|oM 30 (pT p 0) ?_
   refine QAD hn rfl (by kernel_rfl) (QB6 hn.at_) ?_
   intro v1 s1 z1 w1 hX1 hk1 hn
   refine oA 8 (.int .u8 v1) ?_
   refine JS ?_
   try simp only[Act.put,sA,sB,sC]
   refine JM<|hK6 _ _<|wp_seq_k fun K7 hK7=>JD<|oM 32 (pT p 0)<|oM 33 (.int .u8 v1) ?_
   refine Q9 (JN rfl) (by kernel_rfl) (QKy v1 hk1 hn.at_ (inv_of hX1)) (fun e wf ho=>?_)
   obtain⟨rfl,sf,zf,hnf,hR⟩:=ho
   have hn:=hn.after hnf
   refine JS ?_
   try simp only[Act.put,sA,sB,sC]
   refine JM<|hK7 _ _<|wp_seq_k fun K8 hK8=>JD<|oM 35 (pT p 0) ?_
   have r0:=r0.besides hn.bes (by omega) (by omega)
   have r1:=r1.besides hn.bes (by omega) (by omega)
   have r2:=r2.besides hn.bes (by omega) (by omega)
   have hb:=hb.trans (hn.bes.below (by omega) (by omega) hb.size)
   refine Q9 (JN rfl) (by kernel_rfl) (QKJ hn.at_ hR) (fun e wt ho=>?_)
   obtain⟨rfl,hbt⟩:=ho
   have r1:=r1.below hbt r1.lt
   have r2:=r2.below hbt r2.lt
   have hb:=hb.trans (hbt.mono (hb.size))
   rw[qS]
   generalize hX:QIC ((ws0 g).u_late false) xs=X at *
   refine oX 37 #[cyV (cyW X),JH (rgW X),.bool (jg X)] (cyV (cyW X))<|oX 38 #[cyV (cyW X),JH (rgW X),.bool (jg X)] (JH (rgW X))<|oX 39 #[cyV (cyW X),JH (rgW X),.bool (jg X)] (.bool (jg X))<|oS ⟨L1,0,none⟩ (cyV (cyW X)) (QBY r1) ?_
   have r1':Row (wt.setCells L1 0 (cyC (cyW X)).toList) L1 29 (cyC (cyW X)):=r1.setAll rfl
   have r2':=r2.setFar (by omega:L2≠L1) (cyC (cyW X)).toList 0
   have hb:=Below.setCellsAll hb (b:=L1) (by omega) (cyC (cyW X)).toList 0
   refine oS ⟨L2,0,none⟩ (JH (rgW X)) (QBt r2') ?_
   have r1':=r1'.setFar (by omega:L1≠L2) (JJ (rgW X)).toList 0
   have r2':Row ((wt.setCells L1 0 (cyC (cyW X)).toList).setCells L2 0 (JJ (rgW X)).toList) L2 24 (JJ (rgW X)):=r2'.setAll rfl
   have hb:=Below.setCellsAll hb (b:=L2) (by omega) (JJ (rgW X)).toList 0
   refine oA 6 (.bool (jg X)) ?_
   refine JS ?_
   try simp only[Act.put,sA,sB,sC]
   refine JM<|hK8 _ _ ?_
   refine wp_ret ?_
   exact bodyPost_ret (Qe rfl (by kernel_rfl) (by kernel_rfl) (by kernel_rfl) r1' r2') rfl ⟨by rw[qS],hb⟩
def Tr.Rel {α β:Type}(R:α→β→Prop):Tr α→Tr β→Prop
 | .done a,.done b=>R a b
 | .ask c k,.ask d l=>c=d∧∀ b,B8 b→(k b).Rel R (l b)
 | _,_=>False
theorem Tr.Rel.mono {α β:Type} {R S:α→β→Prop} {t:Tr α}:∀ {u:Tr β},t.Rel R u→(∀ a b,R a b→S a b)→t.Rel S u:=by
 induction t with
 | done a=>intro u h hRS;cases u with
   | done b=>exact hRS _ _ h
   | ask d l=>exact h.elim
 | ask c k ih=>intro u h hRS;cases u with
   | done b=>exact h.elim
   | ask d l=>exact⟨h.1,fun b hb=>ih b (h.2 b hb) hRS⟩
theorem Tr.Rel.bind {α β γ δ:Type} {R:α→β→Prop} {S:γ→δ→Prop} {t:Tr α} {f:α→Tr γ} {g:β→Tr δ}:∀ {u:Tr β},t.Rel R u→(∀ a b,R a b→(f a).Rel S (g b))→(t.bind f).Rel S (u.bind g):=by
 induction t with
 | done a=>intro u h hf;cases u with
   | done b=>exact hf _ _ h
   | ask d l=>exact h.elim
 | ask c k ih=>intro u h hf;cases u with
   | done b=>exact h.elim
   | ask d l=>exact⟨h.1,fun b hb=>ih b (h.2 b hb) hf⟩
def Told:Except Cy (Ms×List Int)→Except Cy (Ws×List Int)→Prop
 | .ok (s,_),.ok (t,_)=>s.r=t.r
 | .error c,.error d=>c=d
 | _,_=>False
theorem Told.tell {X:Except Cy (Ms×List Int)} {Y:Except Cy (Ws×List Int)}(h:Told X Y):QBI X=QD1 Y:=by
 rcases X with c|⟨s,ys⟩<;>rcases Y with d|⟨t,zs⟩
 · have e:c=d:=h
   subst e;rfl
 · exact h.elim
 · exact h.elim
 · have e:s.r=t.r:=h
   rw[XU,qS]
   simp only[ZB,ZU,Xe,cyW,rgW,jg,e]
theorem Tr.Rel.told {t:Tr Ms}:∀ {u:Tr Ws} {xs:List Int},t.Rel (fun s t=>s.r=t.r) u→Bytes8 xs→Told (t.run xs) (u.run xs):=by
 induction t with
 | done a=>intro u xs h hx;cases u with
   | done b=>rw[Tr.run_done,Tr.run_done];exact h
   | ask d l=>exact h.elim
 | ask c k ih=>intro u xs h hx;cases u with
   | done b=>exact h.elim
   | ask d l =>
     cases xs with
     | nil=>exact h.1
     | cons b bs=>exact ih b (h.2 b hx.head) hx.tail
def QBr:Prop:=∀ (s:Ms) (c:Int),MsB s→s.near=false→B8 c→¬(c=221∨c=253)→(QBP c s).Rel (fun s t=>s.r=t.r) (QEW s.plane c ⟨s.r,0,0,0,false⟩)
theorem QGK (H:QBr):∀ (xs:List Int) (s:Ms) (c:Int),MsB s→s.near=false→B8 c→Bytes8 xs→Told (XK xs c s) (Z5 xs s.plane c ⟨s.r,0,0,0,false⟩):=by
 intro xs
 induction xs with
 | nil =>
   intro s c hs hn hc hx
   by_cases hp:c=221∨c=253
   · rw[XK,Z5,if_pos hp,if_pos hp];exact rfl
   · rw[XK,Z5,if_neg hp,if_neg hp];exact (H s c hs hn hc hp).told hx
 | cons b bs ih =>
   intro s c hs hn hc hx
   by_cases hp:c=221∨c=253
   · rw[XK,Z5,if_pos hp,if_pos hp]
     have hB:MsB (({ s.toPlane (if c=253 then 4 else 3) with r:=ZI s.r 1 }:Ms).pcUp):=by
      have ht:RgB (ZI s.r 1):=hs.r.tick 1
      exact⟨⟨ht.af,ht.bc,ht.de,ht.hl,ht.af2,ht.bc2,ht.de2,ht.hl2,ht.ix,ht.iy,ht.sp,Wd16.mod _,ht.wz,ht.i,ht.r,ht.mode⟩,by by_cases h:c=253;exact .inr (.inr (if_pos h));exact .inr (.inl (if_neg h)),hs.x,hs.y,hs.z,hs.p,hs.q,hs.spot⟩
     exact ih _ b hB hn hx.head hx.tail
   · rw[XK,Z5,if_neg hp,if_neg hp];exact (H s c hs hn hc hp).told hx
theorem QJq (H:QBr){g:Rg}(hg:RgB g){c:Int}(hc:B8 c){xs:List Int}(hx:Bytes8 xs):Told (Xx g c xs) (QAW g c xs) :=
 QGK H xs (ms0 g).noLate c (QAS hg).u_late rfl hc hx
theorem QMZ (H:QBr){g:Rg}(hg:RgB g){xs:List Int}(hx:Bytes8 xs):Told (Qu g xs) (jy g xs):=by
 by_cases hh:g.halted=true
 · rw[Qu,jy,if_pos hh,if_pos hh]
   exact Tr.Rel.told (t:=(JW (ms0 g)).bind fun b=>.done b.2) (u:=QIE (ws0 g)) ⟨rfl,fun b hb=>rfl⟩ hx
 · rw[Qu,jy,if_neg hh,if_neg hh]
   cases xs with
   | nil=>exact rfl
   | cons b bs => 
     have hB:MsB ((({ (ms0 g) with r:=ZI g 1 }:Ms).pcUp).noLate):=by
      have ht:RgB (ZI g 1):=hg.tick 1
      exact⟨⟨ht.af,ht.bc,ht.de,ht.hl,ht.af2,ht.bc2,ht.de2,ht.hl2,ht.ix,ht.iy,ht.sp,Wd16.mod _,ht.wz,ht.i,ht.r,ht.mode⟩,.inl rfl,(QAS hg).x,(QAS hg).y,(QAS hg).z,(QAS hg).p,(QAS hg).q,(QAS hg).spot⟩
     exact QGK H bs _ b hB rfl hx.head hx.tail
def RR (s:Ms)(t:Ws):Prop:=s.r=t.r
theorem QCa (r:Rg)(plane x y z p q spot:Int)(near:Bool)(code m:Int)(known:Bool)(b:Int)(hy:0≤y∧y≤7):(Qz b ⟨r,plane,x,y,z,p,q,spot,near⟩).r=(j7 y b ⟨r,plane,code,m,known⟩).r:=by
 have hc:∀ t:Bool,((one t) != 0)=t:=by intro t;cases t<;>rfl
 unfold Qz j7
 dsimp only[Ms.carry,Ms.f,Ms.a,Ws.a,Ws.f,Ms.af,Ws.af]
 simp only[hc]
 repeat' split
 all_goals first|rfl|omega
theorem QJr (r:Rg)(plane x y z p q spot:Int)(near:Bool)(code m:Int)(known:Bool)(hz:0≤z∧z≤7)(hy:0≤y∧y≤7)(hp:0≤p∧p≤3)(hq:0≤q∧q≤1):(ji ⟨r,plane,x,y,z,p,q,spot,near⟩).Rel RR (QGY y z p q ⟨r,plane,code,m,known⟩):=by
 have hz':z=0∨z=1∨z=2∨z=3∨z=4∨z=5∨z=6∨z=7:=by omega
 have hp':p=0∨p=1∨p=2∨p=3:=by omega
 have hq':q=0∨q=1:=by omega
 have hy':y=0∨y=1∨y=2∨y=3∨y=4∨y=5∨y=6∨y=7:=by omega
 have ms2:(r.sp+1)%65536=(r.sp+1)%65536:=rfl
 have m2:∀ a:Int,((a+1)%65536+1)%65536=(a+2)%65536:=by intro a;omega
 unfold ji QGY
 rcases hz' with rfl|rfl|rfl|rfl|rfl|rfl|rfl|rfl
 · simp[QCK];simp only[Tr.bind,Tr.Rel,RR,QT,Jq,Jc,inN,QM,JT,Ms.pc,Ms.sp,Ms.wz,Ms.af,Ms.pcUp,JW,Jd,JV,Jt,JY,Ms.spDown,Jv,QS,Ms.goTo,Ms.a,Ms.f,Ms.setA,Ms.setF,Ms.hl,Ms.setHL,Ms.pair,Ms.setPair,Ms.holds,QF,JO,Jm,Jb,Ws.pc,Ws.sp,Ws.wz,Ws.hlTo,Ws.af,Ws.tick,Ws.pcUp,Ws.a,Ws.f,Je,JU,Ju,Ws.spDown,Ws.spUp,Jy,QX,Ws.hl,Ws.setHl,Ws.setP,Ws.setP0,Ws.know,Ws.mTo];refine⟨trivial,fun b hb=>?_⟩;split<;>simp only[Tr.bind,Tr.Rel,RR,QT,Jq,Jc,inN,QM,JT,Ms.pc,Ms.sp,Ms.wz,Ms.af,Ms.pcUp,JW,Jd,JV,Jt,JY,Ms.spDown,Jv,QS,Ms.goTo,Ms.a,Ms.f,Ms.setA,Ms.setF,Ms.hl,Ms.setHL,Ms.pair,Ms.setPair,Ms.holds,QF,JO,Jm,Jb,Ws.pc,Ws.sp,Ws.wz,Ws.hlTo,Ws.af,Ws.tick,Ws.pcUp,Ws.a,Ws.f,Je,JU,Ju,Ws.spDown,Ws.spUp,Jy,QX,Ws.hl,Ws.setHl,Ws.setP,Ws.setP0,Ws.know,Ws.mTo]<;>simp[m2]
 · rcases hq' with rfl|rfl<;>rcases hp' with rfl|rfl|rfl|rfl<;>simp[QD0,QIW,QCK]<;>simp only[Tr.bind,Tr.Rel,RR,QT,Jq,Jc,inN,QM,JT,Ms.pc,Ms.sp,Ms.wz,Ms.af,Ms.pcUp,JW,Jd,JV,Jt,JY,Ms.spDown,Jv,QS,Ms.goTo,Ms.a,Ms.f,Ms.setA,Ms.setF,Ms.hl,Ms.setHL,Ms.pair,Ms.setPair,Ms.holds,QF,JO,Jm,Jb,Ws.pc,Ws.sp,Ws.wz,Ws.hlTo,Ws.af,Ws.tick,Ws.pcUp,Ws.a,Ws.f,Je,JU,Ju,Ws.spDown,Ws.spUp,Jy,QX,Ws.hl,Ws.setHl,Ws.setP,Ws.setP0,Ws.know,Ws.mTo]<;>simp[m2]
 · simp;simp only[Tr.bind,Tr.Rel,RR,QT,Jq,Jc,inN,QM,JT,Ms.pc,Ms.sp,Ms.wz,Ms.af,Ms.pcUp,JW,Jd,JV,Jt,JY,Ms.spDown,Jv,QS,Ms.goTo,Ms.a,Ms.f,Ms.setA,Ms.setF,Ms.hl,Ms.setHL,Ms.pair,Ms.setPair,Ms.holds,QF,JO,Jm,Jb,Ws.pc,Ws.sp,Ws.wz,Ws.hlTo,Ws.af,Ws.tick,Ws.pcUp,Ws.a,Ws.f,Je,JU,Ju,Ws.spDown,Ws.spUp,Jy,QX,Ws.hl,Ws.setHl,Ws.setP,Ws.setP0,Ws.know,Ws.mTo];simp;intro b hb c hc;split<;>simp only[Tr.bind,Tr.Rel,RR,QT,Jq,Jc,inN,QM,JT,Ms.pc,Ms.sp,Ms.wz,Ms.af,Ms.pcUp,JW,Jd,JV,Jt,JY,Ms.spDown,Jv,QS,Ms.goTo,Ms.a,Ms.f,Ms.setA,Ms.setF,Ms.hl,Ms.setHL,Ms.pair,Ms.setPair,Ms.holds,QF,JO,Jm,Jb,Ws.pc,Ws.sp,Ws.wz,Ws.hlTo,Ws.af,Ws.tick,Ws.pcUp,Ws.a,Ws.f,Je,JU,Ju,Ws.spDown,Ws.spUp,Jy,QX,Ws.hl,Ws.setHl,Ws.setP,Ws.setP0,Ws.know,Ws.mTo]
 · rcases hy' with rfl|rfl|rfl|rfl|rfl|rfl|rfl|rfl<;>simp[zk,QEA,QDy,Xl,jz]<;>simp only[Tr.bind,Tr.Rel,RR,QT,Jq,Jc,inN,QM,JT,Ms.pc,Ms.sp,Ms.wz,Ms.af,Ms.pcUp,JW,Jd,JV,Jt,JY,Ms.spDown,Jv,QS,Ms.goTo,Ms.a,Ms.f,Ms.setA,Ms.setF,Ms.hl,Ms.setHL,Ms.pair,Ms.setPair,Ms.holds,QF,JO,Jm,Jb,Ws.pc,Ws.sp,Ws.wz,Ws.hlTo,Ws.af,Ws.tick,Ws.pcUp,Ws.a,Ws.f,Je,JU,Ju,Ws.spDown,Ws.spUp,Jy,QX,Ws.hl,Ws.setHl,Ws.setP,Ws.setP0,Ws.know,Ws.mTo]<;>simp[J8]
   all_goals (intros;repeat' split)<;>rfl
 · simp[QBn,QFL];simp only[Tr.bind,Tr.Rel,RR,QT,Jq,Jc,inN,QM,JT,Ms.pc,Ms.sp,Ms.wz,Ms.af,Ms.pcUp,JW,Jd,JV,Jt,JY,Ms.spDown,Jv,QS,Ms.goTo,Ms.a,Ms.f,Ms.setA,Ms.setF,Ms.hl,Ms.setHL,Ms.pair,Ms.setPair,Ms.holds,QF,JO,Jm,Jb,Ws.pc,Ws.sp,Ws.wz,Ws.hlTo,Ws.af,Ws.tick,Ws.pcUp,Ws.a,Ws.f,Je,JU,Ju,Ws.spDown,Ws.spUp,Jy,QX,Ws.hl,Ws.setHl,Ws.setP,Ws.setP0,Ws.know,Ws.mTo];simp;intro b hb c hc;split<;>simp only[Tr.bind,Tr.Rel,RR,QT,Jq,Jc,inN,QM,JT,Ms.pc,Ms.sp,Ms.wz,Ms.af,Ms.pcUp,JW,Jd,JV,Jt,JY,Ms.spDown,Jv,QS,Ms.goTo,Ms.a,Ms.f,Ms.setA,Ms.setF,Ms.hl,Ms.setHL,Ms.pair,Ms.setPair,Ms.holds,QF,JO,Jm,Jb,Ws.pc,Ws.sp,Ws.wz,Ws.hlTo,Ws.af,Ws.tick,Ws.pcUp,Ws.a,Ws.f,Je,JU,Ju,Ws.spDown,Ws.spUp,Jy,QX,Ws.hl,Ws.setHl,Ws.setP,Ws.setP0,Ws.know,Ws.mTo]<;>simp
 · rcases hq' with rfl|rfl
   · by_cases h3:p=3
     · subst h3;simp[j4];simp only[Tr.bind,Tr.Rel,RR,QT,Jq,Jc,inN,QM,JT,Ms.pc,Ms.sp,Ms.wz,Ms.af,Ms.pcUp,JW,Jd,JV,Jt,JY,Ms.spDown,Jv,QS,Ms.goTo,Ms.a,Ms.f,Ms.setA,Ms.setF,Ms.hl,Ms.setHL,Ms.pair,Ms.setPair,Ms.holds,QF,JO,Jm,Jb,Ws.pc,Ws.sp,Ws.wz,Ws.hlTo,Ws.af,Ws.tick,Ws.pcUp,Ws.a,Ws.f,Je,JU,Ju,Ws.spDown,Ws.spUp,Jy,QX,Ws.hl,Ws.setHl,Ws.setP,Ws.setP0,Ws.know,Ws.mTo];simp;simp only[Tr.bind,Tr.Rel,RR,QT,Jq,Jc,inN,QM,JT,Ms.pc,Ms.sp,Ms.wz,Ms.af,Ms.pcUp,JW,Jd,JV,Jt,JY,Ms.spDown,Jv,QS,Ms.goTo,Ms.a,Ms.f,Ms.setA,Ms.setF,Ms.hl,Ms.setHL,Ms.pair,Ms.setPair,Ms.holds,QF,JO,Jm,Jb,Ws.pc,Ws.sp,Ws.wz,Ws.hlTo,Ws.af,Ws.tick,Ws.pcUp,Ws.a,Ws.f,Je,JU,Ju,Ws.spDown,Ws.spUp,Jy,QX,Ws.hl,Ws.setHl,Ws.setP,Ws.setP0,Ws.know,Ws.mTo];simp
     · simp[j4,h3];simp only[Tr.bind,Tr.Rel,RR,QT,Jq,Jc,inN,QM,JT,Ms.pc,Ms.sp,Ms.wz,Ms.af,Ms.pcUp,JW,Jd,JV,Jt,JY,Ms.spDown,Jv,QS,Ms.goTo,Ms.a,Ms.f,Ms.setA,Ms.setF,Ms.hl,Ms.setHL,Ms.pair,Ms.setPair,Ms.holds,QF,JO,Jm,Jb,Ws.pc,Ws.sp,Ws.wz,Ws.hlTo,Ws.af,Ws.tick,Ws.pcUp,Ws.a,Ws.f,Je,JU,Ju,Ws.spDown,Ws.spUp,Jy,QX,Ws.hl,Ws.setHl,Ws.setP,Ws.setP0,Ws.know,Ws.mTo];simp[h3];simp only[Tr.bind,Tr.Rel,RR,QT,Jq,Jc,inN,QM,JT,Ms.pc,Ms.sp,Ms.wz,Ms.af,Ms.pcUp,JW,Jd,JV,Jt,JY,Ms.spDown,Jv,QS,Ms.goTo,Ms.a,Ms.f,Ms.setA,Ms.setF,Ms.hl,Ms.setHL,Ms.pair,Ms.setPair,Ms.holds,QF,JO,Jm,Jb,Ws.pc,Ws.sp,Ws.wz,Ws.hlTo,Ws.af,Ws.tick,Ws.pcUp,Ws.a,Ws.f,Je,JU,Ju,Ws.spDown,Ws.spUp,Jy,QX,Ws.hl,Ws.setHl,Ws.setP,Ws.setP0,Ws.know,Ws.mTo];simp
   · simp[j4,QBn,QFL];simp only[Tr.bind,Tr.Rel,RR,QT,Jq,Jc,inN,QM,JT,Ms.pc,Ms.sp,Ms.wz,Ms.af,Ms.pcUp,JW,Jd,JV,Jt,JY,Ms.spDown,Jv,QS,Ms.goTo,Ms.a,Ms.f,Ms.setA,Ms.setF,Ms.hl,Ms.setHL,Ms.pair,Ms.setPair,Ms.holds,QF,JO,Jm,Jb,Ws.pc,Ws.sp,Ws.wz,Ws.hlTo,Ws.af,Ws.tick,Ws.pcUp,Ws.a,Ws.f,Je,JU,Ju,Ws.spDown,Ws.spUp,Jy,QX,Ws.hl,Ws.setHl,Ws.setP,Ws.setP0,Ws.know,Ws.mTo];simp
 · simp;simp only[Tr.bind,Tr.Rel,RR,QT,Jq,Jc,inN,QM,JT,Ms.pc,Ms.sp,Ms.wz,Ms.af,Ms.pcUp,JW,Jd,JV,Jt,JY,Ms.spDown,Jv,QS,Ms.goTo,Ms.a,Ms.f,Ms.setA,Ms.setF,Ms.hl,Ms.setHL,Ms.pair,Ms.setPair,Ms.holds,QF,JO,Jm,Jb,Ws.pc,Ws.sp,Ws.wz,Ws.hlTo,Ws.af,Ws.tick,Ws.pcUp,Ws.a,Ws.f,Je,JU,Ju,Ws.spDown,Ws.spUp,Jy,QX,Ws.hl,Ws.setHl,Ws.setP,Ws.setP0,Ws.know,Ws.mTo];simp;intro b hb;exact QCa _ _ _ _ _ _ _ _ _ _ _ _ _ hy
 · simp;simp only[Tr.bind,Tr.Rel,RR,QT,Jq,Jc,inN,QM,JT,Ms.pc,Ms.sp,Ms.wz,Ms.af,Ms.pcUp,JW,Jd,JV,Jt,JY,Ms.spDown,Jv,QS,Ms.goTo,Ms.a,Ms.f,Ms.setA,Ms.setF,Ms.hl,Ms.setHL,Ms.pair,Ms.setPair,Ms.holds,QF,JO,Jm,Jb,Ws.pc,Ws.sp,Ws.wz,Ws.hlTo,Ws.af,Ws.tick,Ws.pcUp,Ws.a,Ws.f,Je,JU,Ju,Ws.spDown,Ws.spUp,Jy,QX,Ws.hl,Ws.setHl,Ws.setP,Ws.setP0,Ws.know,Ws.mTo];simp
end Go.Proofs.YtkenebbjodcbcaaGreatDoor
