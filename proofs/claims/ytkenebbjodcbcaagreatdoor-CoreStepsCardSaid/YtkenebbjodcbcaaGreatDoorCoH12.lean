/- Contracts and facts that the claim's proof wants (several texts in one). -/
import Derived.Test.YtkenebbjodcbcaaGreatDoorCoH11
namespace Go.Proofs.YtkenebbjodcbcaaGreatDoor
open Go.RowKit
set_option linter.unusedVariables false
set_option linter.unusedSimpArgs false
set_option maxRecDepth 20000
set_option maxHeartbeats 20000000
theorem QDF (d:Int){s:Ms} {xs:List Int} {w:World} {p B:Nat}(h:AtN w p B s xs) :
 Calls Tryz.prog 205 #[pT p 0,.int .i64 (d)] w (OutV w p B ((Zl d s).run xs)):=by
 have hn:=NowN.begin h
 have hr:(Zl d s).run xs=(Zl d s).run xs:=rfl
 go_enter Tryz.func205,Tryz.ntmps205
 exact JB<|have b2:=hn.at_.ms.r.hl;coR<|nR 6 hn<|nI (qu s.r.hl (b2) hn.at_) hn hr<|fun v3 s3 xs3 w3 hk3 hn hr=>nE hn<|have b5:=hn.at_.ms.r.de;coR<|nR 7 hn<|nV (Ze s3.r.de (b5) v3 (hk3) hn.at_) hn hr<|fun s6 xs6 w6 hn hr=>wT<|coR<|nR 1 hn<|nV (QK 2 hn.at_) hn hr<|fun s8 xs8 w8 hn hr=>wT<|have b10:=hn.at_.ms.r.hl;coR<|nR 7 hn<|kE (ZK s8.r.hl d (b10) _)<|nEs hn (.u_hl _ (JA s8.r.hl d)) (hn.at_.ms.u_hl (Wd16.mod _))<|fun w12 hn=>have b14:=hn.at_.ms.r.de;coR<|nR 7 hn<|kE (ZK ((s8.u_hl (JA s8.r.hl d)).r.de) d (b14) _)<|nEs hn ((s8.u_hl (JA s8.r.hl d)).u_de (JA ((s8.u_hl (JA s8.r.hl d)).r.de) d)) (hn.at_.ms.u_de (Wd16.mod _))<|fun w16 hn=>have b18:=hn.at_.ms.r.bc;nQs hn (((s8.u_hl (JA s8.r.hl d)).u_de (JA ((s8.u_hl (JA s8.r.hl d)).r.de) d)).u_bc (((((s8.u_hl (JA s8.r.hl d)).u_de (JA ((s8.u_hl (JA s8.r.hl d)).r.de) d)).r.bc)-1)%65536)) (hn.at_.ms.u_bc (Wd16.mod _))<|fun w19 hn=>nPz 12 hn<|fun w20 hn=>have b21:=hn.at_.ms.r.bc;have b22:=jD hn.at_.ms;nD [0,1,3,4,5,6,7,8,9] hn<|nDa 2 (m_a hn.at_) hn<|fun w23 hn=>have b24:=Ql hn.at_.ms;nDa 10 (m_f hn.at_) hn<|fun w25 hn=>nDb 11 (QPf ((((s8.u_hl (JA s8.r.hl d)).u_de (JA ((s8.u_hl (JA s8.r.hl d)).r.de) d)).u_bc (((((s8.u_hl (JA s8.r.hl d)).u_de (JA ((s8.u_hl (JA s8.r.hl d)).r.de) d)).r.bc)-1)%65536)).a) v3 ((((s8.u_hl (JA s8.r.hl d)).u_de (JA ((s8.u_hl (JA s8.r.hl d)).r.de) d)).u_bc (((((s8.u_hl (JA s8.r.hl d)).u_de (JA ((s8.u_hl (JA s8.r.hl d)).r.de) d)).r.bc)-1)%65536)).r.bc) ((((s8.u_hl (JA s8.r.hl d)).u_de (JA ((s8.u_hl (JA s8.r.hl d)).r.de) d)).u_bc (((((s8.u_hl (JA s8.r.hl d)).u_de (JA ((s8.u_hl (JA s8.r.hl d)).r.de) d)).r.bc)-1)%65536)).f) (b22) (hk3) (b24) (b21).1 (b21).2 _) hn<|fun w26 hn=>poE<|nA (Zh (moveF ((((s8.u_hl (JA s8.r.hl d)).u_de (JA ((s8.u_hl (JA s8.r.hl d)).r.de) d)).u_bc (((((s8.u_hl (JA s8.r.hl d)).u_de (JA ((s8.u_hl (JA s8.r.hl d)).r.de) d)).r.bc)-1)%65536)).a) v3 ((((s8.u_hl (JA s8.r.hl d)).u_de (JA ((s8.u_hl (JA s8.r.hl d)).r.de) d)).u_bc (((((s8.u_hl (JA s8.r.hl d)).u_de (JA ((s8.u_hl (JA s8.r.hl d)).r.de) d)).r.bc)-1)%65536)).r.bc) ((((s8.u_hl (JA s8.r.hl d)).u_de (JA ((s8.u_hl (JA s8.r.hl d)).r.de) d)).u_bc (((((s8.u_hl (JA s8.r.hl d)).u_de (JA ((s8.u_hl (JA s8.r.hl d)).r.de) d)).r.bc)-1)%65536)).f)) (jR _ _ _ _) hn.at_) hn<|fun w27 hn=>woE<|eoV (OutV.ok (dN hr) hn)
theorem QC0 (d:Int){s:Ms} {xs:List Int} {w:World} {p B:Nat}(h:AtN w p B s xs) :
 Calls Tryz.prog 206 #[pT p 0,.int .i64 (d)] w (OutV w p B ((Zn d s).run xs)):=by
 have hn:=NowN.begin h
 have hr:(Zn d s).run xs=(Zn d s).run xs:=rfl
 go_enter Tryz.func206,Tryz.ntmps206
 exact JB<|have b2:=hn.at_.ms.r.hl;coR<|nR 6 hn<|nI (qu s.r.hl (b2) hn.at_) hn hr<|fun v3 s3 xs3 w3 hk3 hn hr=>nE hn<|coR<|nR 1 hn<|nV (QK 5 hn.at_) hn hr<|fun s5 xs5 w5 hn hr=>wT<|have b7:=hn.at_.ms.r.hl;coR<|nR 7 hn<|kE (ZK s5.r.hl d (b7) _)<|nEs hn (.u_hl _ (JA s5.r.hl d)) (hn.at_.ms.u_hl (Wd16.mod _))<|fun w9 hn=>have b11:=hn.at_.ms.r.wz;coR<|nR 7 hn<|kE (ZK ((s5.u_hl (JA s5.r.hl d)).r.wz) d (b11) _)<|nEs hn ((s5.u_hl (JA s5.r.hl d)).u_wz (JA ((s5.u_hl (JA s5.r.hl d)).r.wz) d)) (hn.at_.ms.u_wz (Wd16.mod _))<|fun w13 hn=>have b15:=hn.at_.ms.r.bc;nQs hn (((s5.u_hl (JA s5.r.hl d)).u_wz (JA ((s5.u_hl (JA s5.r.hl d)).r.wz) d)).u_bc (((((s5.u_hl (JA s5.r.hl d)).u_wz (JA ((s5.u_hl (JA s5.r.hl d)).r.wz) d)).r.bc)-1)%65536)) (hn.at_.ms.u_bc (Wd16.mod _))<|fun w16 hn=>nPz 12 hn<|fun w17 hn=>have b18:=hn.at_.ms.r.bc;have b19:=jD hn.at_.ms;nD [0,1,3,4,5,6,7,8,9] hn<|nDa 2 (m_a hn.at_) hn<|fun w20 hn=>have b21:=Ql hn.at_.ms;nDa 10 (m_f hn.at_) hn<|fun w22 hn=>nDb 11 (QN5 ((((s5.u_hl (JA s5.r.hl d)).u_wz (JA ((s5.u_hl (JA s5.r.hl d)).r.wz) d)).u_bc (((((s5.u_hl (JA s5.r.hl d)).u_wz (JA ((s5.u_hl (JA s5.r.hl d)).r.wz) d)).r.bc)-1)%65536)).a) v3 ((((s5.u_hl (JA s5.r.hl d)).u_wz (JA ((s5.u_hl (JA s5.r.hl d)).r.wz) d)).u_bc (((((s5.u_hl (JA s5.r.hl d)).u_wz (JA ((s5.u_hl (JA s5.r.hl d)).r.wz) d)).r.bc)-1)%65536)).r.bc) ((((s5.u_hl (JA s5.r.hl d)).u_wz (JA ((s5.u_hl (JA s5.r.hl d)).r.wz) d)).u_bc (((((s5.u_hl (JA s5.r.hl d)).u_wz (JA ((s5.u_hl (JA s5.r.hl d)).r.wz) d)).r.bc)-1)%65536)).f) (b19) (hk3) (b21) (b18).1 (b18).2 _) hn<|fun w23 hn=>poE<|nA (Zh (Zu ((((s5.u_hl (JA s5.r.hl d)).u_wz (JA ((s5.u_hl (JA s5.r.hl d)).r.wz) d)).u_bc (((((s5.u_hl (JA s5.r.hl d)).u_wz (JA ((s5.u_hl (JA s5.r.hl d)).r.wz) d)).r.bc)-1)%65536)).a) v3 ((((s5.u_hl (JA s5.r.hl d)).u_wz (JA ((s5.u_hl (JA s5.r.hl d)).r.wz) d)).u_bc (((((s5.u_hl (JA s5.r.hl d)).u_wz (JA ((s5.u_hl (JA s5.r.hl d)).r.wz) d)).r.bc)-1)%65536)).r.bc) ((((s5.u_hl (JA s5.r.hl d)).u_wz (JA ((s5.u_hl (JA s5.r.hl d)).r.wz) d)).u_bc (((((s5.u_hl (JA s5.r.hl d)).u_wz (JA ((s5.u_hl (JA s5.r.hl d)).r.wz) d)).r.bc)-1)%65536)).f)) (jY _ _ _ _) hn.at_) hn<|fun w24 hn=>woE<|eoV (OutV.ok (dN hr) hn)
theorem QC8 (d:Int){s:Ms} {xs:List Int} {w:World} {p B:Nat}(h:AtN w p B s xs) :
 Calls Tryz.prog 207 #[pT p 0,.int .i64 (d)] w (OutV w p B ((Zm d s).run xs)):=by
 have hn:=NowN.begin h
 have hr:(Zm d s).run xs=(Zm d s).run xs:=rfl
 go_enter Tryz.func207,Tryz.ntmps207
 exact JB<|coR<|nR 1 hn<|nV (QK 1 hn.at_) hn hr<|fun s2 xs2 w2 hn hr=>wT<|have b4:=hn.at_.ms.r.bc;coR<|nR 6 hn<|nI (QR7 s2.r.bc (b4) hn.at_) hn hr<|fun v5 s5 xs5 w5 hk5 hn hr=>nE hn<|have b7:=hn.at_.ms.r.bc;coR<|nR 7 hn<|kE (ZK s5.r.bc d (b7) _)<|nEs hn (.u_wz _ (JA s5.r.bc d)) (hn.at_.ms.u_wz (Wd16.mod _))<|fun w9 hn=>coR<|nR 1 hn<|nA (QG3 hn.at_) hn<|fun w11 hn=>nE hn<|have b13:=hn.at_.ms.r.hl;coR<|nR 7 hn<|nV (Ze (((s5.u_wz (JA s5.r.bc d)).lessB).r.hl) (b13) v5 (hk5) hn.at_) hn hr<|fun s14 xs14 w14 hn hr=>wT<|have b16:=hn.at_.ms.r.hl;coR<|nR 7 hn<|kE (ZK s14.r.hl d (b16) _)<|nEs hn (.u_hl _ (JA s14.r.hl d)) (hn.at_.ms.u_hl (Wd16.mod _))<|fun w18 hn=>have b19:=hn.at_.ms.r.get (s14.u_hl (JA s14.r.hl d)).plane 1;coZ<|nR 3 hn<|nA (QPN 1 (by decide) hn.at_) hn<|fun w20 hn=>nR 2 hn<|nB (QOF v5 (qd (s14.u_hl (JA s14.r.hl d)).r (s14.u_hl (JA s14.r.hl d)).plane 1) ((s5.u_wz (JA s5.r.bc d)).left) d (hk5) (b19) (B8.mod _) _) hn<|fun w21 hn=>nA (Zh (Qs v5 (v5+byC (qd (s14.u_hl (JA s14.r.hl d)).r (s14.u_hl (JA s14.r.hl d)).plane 1) d) ((s5.u_wz (JA s5.r.bc d)).left)) (XE _ _ _) hn.at_) hn<|fun w22 hn=>woE<|eoV (OutV.ok (dN hr) hn)
theorem QDE (d:Int){s:Ms} {xs:List Int} {w:World} {p B:Nat}(h:AtN w p B s xs) :
 Calls Tryz.prog 208 #[pT p 0,.int .i64 (d)] w (OutV w p B ((Zj d s).run xs)):=by
 have hn:=NowN.begin h
 have hr:(Zj d s).run xs=(Zj d s).run xs:=rfl
 go_enter Tryz.func208,Tryz.ntmps208
 exact JB<|coR<|nR 1 hn<|nV (QK 1 hn.at_) hn hr<|fun s2 xs2 w2 hn hr=>wT<|have b4:=hn.at_.ms.r.hl;coR<|nR 6 hn<|nI (qu s2.r.hl (b4) hn.at_) hn hr<|fun v5 s5 xs5 w5 hk5 hn hr=>nE hn<|coR<|nR 1 hn<|nA (QG3 hn.at_) hn<|fun w7 hn=>nE hn<|have b9:=hn.at_.ms.r.bc;coR<|nR 7 hn<|kE (ZK s5.lessB.r.bc d (b9) _)<|nEs hn (.u_wz _ (JA s5.lessB.r.bc d)) (hn.at_.ms.u_wz (Wd16.mod _))<|fun w11 hn=>have b13:=hn.at_.ms.r.bc;coR<|nR 7 hn<|nV (QLE ((s5.lessB.u_wz (JA s5.lessB.r.bc d)).r.bc) (b13) v5 (hk5) hn.at_) hn hr<|fun s14 xs14 w14 hn hr=>wT<|have b16:=hn.at_.ms.r.hl;coR<|nR 7 hn<|kE (ZK s14.r.hl d (b16) _)<|nEs hn (.u_hl _ (JA s14.r.hl d)) (hn.at_.ms.u_hl (Wd16.mod _))<|fun w18 hn=>have b19:=hn.at_.ms.r.hl;coZ<|nR 7 hn<|kE (qK ((s14.u_hl (JA s14.r.hl d)).r.hl) (b19).1 (b19).2 _)<|nR 1 hn<|nB (QOJ v5 (((s14.u_hl (JA s14.r.hl d)).r.hl)%256) s5.left (hk5) ((b19).lo8) (B8.mod _) _) hn<|fun w21 hn=>nA (Zh (Qs v5 (v5+(((s14.u_hl (JA s14.r.hl d)).r.hl)%256)) s5.left) (XE _ _ _) hn.at_) hn<|fun w22 hn=>woE<|eoV (OutV.ok (dN hr) hn)
theorem ZX  {s:Ms} {xs:List Int} {w:World} {p B:Nat}(h:AtN w p B s xs) :
 Calls Tryz.prog 210 #[pT p 0] w (OutV w p B ((ja s).run xs)):=by
 have hn:=NowN.begin h
 have hr:(ja s).run xs=(ja s).run xs:=rfl
 go_enter Tryz.func210,Tryz.ntmps210
 refine JB<|coR<|nR 1 hn<|nV (QK 5 hn.at_) hn hr<|fun s2 xs2 w2 hn hr=>wT<|have b4:=hn.at_.ms.r.pc;nQs hn (.u_pc _ ((s2.r.pc-2)%65536)) (hn.at_.ms.u_pc (Wd16.mod _))<|fun w5 hn=>coR<|nR 6 hn ?_
 rcases Bool.eq_false_or_eq_true (((s2.u_pc ((s2.r.pc-2)%65536)).z)==0) with h7|h7
 · have g7:((s2.u_pc ((s2.r.pc-2)%65536)).z)=0:=by simpa using h7
   exact tell 18 h7<|nE hn<|coT<|have hr:=hr.trans (JK (.inl g7));have b8:=hn.at_.ms.r.pc;coZ<|nFs hn ((s2.u_pc ((s2.r.pc-2)%65536)).u_wz ((((s2.u_pc ((s2.r.pc-2)%65536)).r.pc)+1)%65536)) (hn.at_.ms.u_wz (Wd16.mod _))<|fun w9 hn=>eoV (OutV.ok (dN hr) hn)
 have g7:¬((s2.u_pc ((s2.r.pc-2)%65536)).z)=0:=by simpa using h7
 refine tell 18 h7<|nE hn<|coI (((s2.u_pc ((s2.r.pc-2)%65536)).z)==1) (fun h10=>?_) fun h10=>?_
 · have g10:((s2.u_pc ((s2.r.pc-2)%65536)).z)=1:=by simpa using h10
   exact have hr:=hr.trans (JK (.inr g10));have b11:=hn.at_.ms.r.pc;coZ<|nFs hn ((s2.u_pc ((s2.r.pc-2)%65536)).u_wz ((((s2.u_pc ((s2.r.pc-2)%65536)).r.pc)+1)%65536)) (hn.at_.ms.u_wz (Wd16.mod _))<|fun w12 hn=>eoV (OutV.ok (dN hr) hn)
 have g10:¬((s2.u_pc ((s2.r.pc-2)%65536)).z)=1:=by simpa using h10
 exact have hr:=hr.trans (JG (not_or.2 ⟨g7,g10⟩));JC<|eoV (OutV.ok (dN hr) hn)
theorem QPF  {s:Ms} {xs:List Int} {w:World} {p B:Nat}(h:AtN w p B s xs) :
 Calls Tryz.prog 132 #[pT p 0] w (OutV w p B ((qq s).run xs)):=by
 have hn:=NowN.begin h
 have hr:(qq s).run xs=(qq s).run xs:=rfl
 go_enter Tryz.func132,Tryz.ntmps132
 refine JB<|coS<|coR<|nR 6 hn ?_
 rcases Bool.eq_false_or_eq_true (decide (4≤s.z)) with h3|h3
 · have g3:4≤s.z:=by simpa using h3
   exact tell 8 h3<|nE hn<|coT<|have hr:=hr.trans (JK (.inl g3));JF<|Jp<|qx (OutV.ok (dN hr) hn)
 have g3:¬4≤s.z:=by simpa using h3
 refine tell 8 h3<|nE hn<|coI (decide (s.y < 4)) (fun h4=>?_) fun h4=>?_
 · have g4:s.y < 4:=by simpa using h4
   exact have hr:=hr.trans (JK (.inr g4));JF<|Jp<|qx (OutV.ok (dN hr) hn)
 have g4:¬s.y < 4:=by simpa using h4
 refine have hr:=hr.trans (JG (not_or.2 ⟨g3,g4⟩));JC<|eoT<|nQ hn<|coS<|nQ hn<|coI (s.q != 0) (fun h8=>?_) fun h8=>?_
 · have g8:¬s.q=0:=by simpa using h8
   refine have hr:=hr.trans (JG g8);coZ<|nE hn<|coS<|nQ hn<|coB<|nQ hn<|QFn hr (fun g12 hr=>?_) fun g12 hr=>?_
   · refine coZ<|nR 2 hn<|nV (QDF ((-1)) hn.at_) hn hr<|fun s13 xs13 w13 hn hr=>woE<|eoB<|eoT<|nP 13 hn<|fun w15 hn=>nD [0,1,2,3,4,5] hn ?_
     rcases Bool.eq_false_or_eq_true (decide (6≤s13.y)) with h16|h16
     · have g16:6≤s13.y:=by simpa using h16
       refine Zw 49 h16<|have b17:=Ql hn.at_.ms;nD [6,7,8,9,10] hn<|nDa 11 (m_f hn.at_) hn<|fun w18 hn=>nDe 12 (Xt s13.z s13.f (b17) _) hn<|poE<|nE hn<|coI (Ji s13.z s13.f) (fun h20=>?_) fun h20=>?_
       · have g20:Ji s13.z s13.f=true:=by simpa using h20
         exact have hr:=hr.trans (JK (by simp[g20,g16,g12,g8,g4,g3]));coZ<|nR 1 hn<|nVt (ZX hn.at_) hn hr<|fun s21 xs21 w21 hn hr=>woE<|eoV (OutV.ok (dN hr) hn)
       have g20:¬Ji s13.z s13.f=true:=by simpa using h20
       exact have hr:=hr.trans (JG (by simp[g20,g16,g12,g8,g4,g3]));JC<|eoV (OutV.ok (dN hr) hn)
     have g16:¬6≤s13.y:=by simpa using h16
     exact Zw 49 h16<|nD [6,7,8,9,10,11,12] hn<|poE<|nE hn<|coF<|have hr:=hr.trans (JG (by simp[g16,g12,g8,g4,g3]));JC<|eoV (OutV.ok (dN hr) hn)
   refine nQ hn<|QFn hr (fun g23 hr=>?_) fun g23 hr=>?_
   · refine coZ<|nR 2 hn<|nV (QC0 ((-1)) hn.at_) hn hr<|fun s24 xs24 w24 hn hr=>woE<|eoB<|eoT<|nP 13 hn<|fun w26 hn=>nD [0,1,2,3,4,5] hn ?_
     rcases Bool.eq_false_or_eq_true (decide (6≤s24.y)) with h27|h27
     · have g27:6≤s24.y:=by simpa using h27
       refine Zw 49 h27<|have b28:=Ql hn.at_.ms;nD [6,7,8,9,10] hn<|nDa 11 (m_f hn.at_) hn<|fun w29 hn=>nDe 12 (Xt s24.z s24.f (b28) _) hn<|poE<|nE hn<|coI (Ji s24.z s24.f) (fun h31=>?_) fun h31=>?_
       · have g31:Ji s24.z s24.f=true:=by simpa using h31
         exact have hr:=hr.trans (JK (by simp[g31,g27,g23,g12,g8,g4,g3]));coZ<|nR 1 hn<|nVt (ZX hn.at_) hn hr<|fun s32 xs32 w32 hn hr=>woE<|eoV (OutV.ok (dN hr) hn)
       have g31:¬Ji s24.z s24.f=true:=by simpa using h31
       exact have hr:=hr.trans (JG (by simp[g31,g27,g23,g12,g8,g4,g3]));JC<|eoV (OutV.ok (dN hr) hn)
     have g27:¬6≤s24.y:=by simpa using h27
     exact Zw 49 h27<|nD [6,7,8,9,10,11,12] hn<|poE<|nE hn<|coF<|have hr:=hr.trans (JG (by simp[g27,g23,g12,g8,g4,g3]));JC<|eoV (OutV.ok (dN hr) hn)
   refine nQ hn<|QFn hr (fun g34 hr=>?_) fun g34 hr=>?_
   · refine coZ<|nR 2 hn<|nV (QC8 ((-1)) hn.at_) hn hr<|fun s35 xs35 w35 hn hr=>woE<|eoB<|eoT<|nP 13 hn<|fun w37 hn=>nD [0,1,2,3,4,5] hn ?_
     rcases Bool.eq_false_or_eq_true (decide (6≤s35.y)) with h38|h38
     · have g38:6≤s35.y:=by simpa using h38
       refine Zw 49 h38<|have b39:=Ql hn.at_.ms;nD [6,7,8,9,10] hn<|nDa 11 (m_f hn.at_) hn<|fun w40 hn=>nDe 12 (Xt s35.z s35.f (b39) _) hn<|poE<|nE hn<|coI (Ji s35.z s35.f) (fun h42=>?_) fun h42=>?_
       · have g42:Ji s35.z s35.f=true:=by simpa using h42
         exact have hr:=hr.trans (JK (by simp[g42,g38,g34,g23,g12,g8,g4,g3]));coZ<|nR 1 hn<|nVt (ZX hn.at_) hn hr<|fun s43 xs43 w43 hn hr=>woE<|eoV (OutV.ok (dN hr) hn)
       have g42:¬Ji s35.z s35.f=true:=by simpa using h42
       exact have hr:=hr.trans (JG (by simp[g42,g38,g34,g23,g12,g8,g4,g3]));JC<|eoV (OutV.ok (dN hr) hn)
     have g38:¬6≤s35.y:=by simpa using h38
     exact Zw 49 h38<|nD [6,7,8,9,10,11,12] hn<|poE<|nE hn<|coF<|have hr:=hr.trans (JG (by simp[g38,g34,g23,g12,g8,g4,g3]));JC<|eoV (OutV.ok (dN hr) hn)
   refine nQ hn<|QFn hr (fun g45 hr=>?_) fun g45 hr=>?_
   · refine coZ<|nR 2 hn<|nV (QDE ((-1)) hn.at_) hn hr<|fun s46 xs46 w46 hn hr=>woE<|eoB<|eoT<|nP 13 hn<|fun w48 hn=>nD [0,1,2,3,4,5] hn ?_
     rcases Bool.eq_false_or_eq_true (decide (6≤s46.y)) with h49|h49
     · have g49:6≤s46.y:=by simpa using h49
       refine Zw 49 h49<|have b50:=Ql hn.at_.ms;nD [6,7,8,9,10] hn<|nDa 11 (m_f hn.at_) hn<|fun w51 hn=>nDe 12 (Xt s46.z s46.f (b50) _) hn<|poE<|nE hn<|coI (Ji s46.z s46.f) (fun h53=>?_) fun h53=>?_
       · have g53:Ji s46.z s46.f=true:=by simpa using h53
         exact have hr:=hr.trans (JK (by simp[g53,g49,g45,g34,g23,g12,g8,g4,g3]));coZ<|nR 1 hn<|nVt (ZX hn.at_) hn hr<|fun s54 xs54 w54 hn hr=>woE<|eoV (OutV.ok (dN hr) hn)
       have g53:¬Ji s46.z s46.f=true:=by simpa using h53
       exact have hr:=hr.trans (JG (by simp[g53,g49,g45,g34,g23,g12,g8,g4,g3]));JC<|eoV (OutV.ok (dN hr) hn)
     have g49:¬6≤s46.y:=by simpa using h49
     exact Zw 49 h49<|nD [6,7,8,9,10,11,12] hn<|poE<|nE hn<|coF<|have hr:=hr.trans (JG (by simp[g49,g45,g34,g23,g12,g8,g4,g3]));JC<|eoV (OutV.ok (dN hr) hn)
   refine JC<|eoB<|eoT<|nP 13 hn<|fun w56 hn=>nD [0,1,2,3,4,5] hn ?_
   rcases Bool.eq_false_or_eq_true (decide (6≤s.y)) with h57|h57
   · have g57:6≤s.y:=by simpa using h57
     refine Zw 49 h57<|have b58:=Ql hn.at_.ms;nD [6,7,8,9,10] hn<|nDa 11 (m_f hn.at_) hn<|fun w59 hn=>nDe 12 (Xt s.z s.f (b58) _) hn<|poE<|nE hn<|coI (Ji s.z s.f) (fun h61=>?_) fun h61=>?_
     · have g61:Ji s.z s.f=true:=by simpa using h61
       exact have hr:=hr.trans (JK (by simp[g61,g57,g45,g34,g23,g12,g8,g4,g3]));coZ<|nR 1 hn<|nVt (ZX hn.at_) hn hr<|fun s62 xs62 w62 hn hr=>woE<|eoV (OutV.ok (dN hr) hn)
     have g61:¬Ji s.z s.f=true:=by simpa using h61
     exact have hr:=hr.trans (JG (by simp[g61,g57,g45,g34,g23,g12,g8,g4,g3]));JC<|eoV (OutV.ok (dN hr) hn)
   have g57:¬6≤s.y:=by simpa using h57
   exact Zw 49 h57<|nD [6,7,8,9,10,11,12] hn<|poE<|nE hn<|coF<|have hr:=hr.trans (JG (by simp[g57,g45,g34,g23,g12,g8,g4,g3]));JC<|eoV (OutV.ok (dN hr) hn)
 have g8:s.q=0:=by simpa using h8
 refine have hr:=hr.trans (JK g8);JC<|eoT<|coS<|nQ hn<|coB<|nQ hn<|QFn hr (fun g66 hr=>?_) fun g66 hr=>?_
 · refine coZ<|nR 2 hn<|nV (QDF 1 hn.at_) hn hr<|fun s67 xs67 w67 hn hr=>woE<|eoB<|eoT<|nP 13 hn<|fun w69 hn=>nD [0,1,2,3,4,5] hn ?_
   rcases Bool.eq_false_or_eq_true (decide (6≤s67.y)) with h70|h70
   · have g70:6≤s67.y:=by simpa using h70
     refine Zw 49 h70<|have b71:=Ql hn.at_.ms;nD [6,7,8,9,10] hn<|nDa 11 (m_f hn.at_) hn<|fun w72 hn=>nDe 12 (Xt s67.z s67.f (b71) _) hn<|poE<|nE hn<|coI (Ji s67.z s67.f) (fun h74=>?_) fun h74=>?_
     · have g74:Ji s67.z s67.f=true:=by simpa using h74
       exact have hr:=hr.trans (JK (by simp[g74,g70,g66,g8,g4,g3]));coZ<|nR 1 hn<|nVt (ZX hn.at_) hn hr<|fun s75 xs75 w75 hn hr=>woE<|eoV (OutV.ok (dN hr) hn)
     have g74:¬Ji s67.z s67.f=true:=by simpa using h74
     exact have hr:=hr.trans (JG (by simp[g74,g70,g66,g8,g4,g3]));JC<|eoV (OutV.ok (dN hr) hn)
   have g70:¬6≤s67.y:=by simpa using h70
   exact Zw 49 h70<|nD [6,7,8,9,10,11,12] hn<|poE<|nE hn<|coF<|have hr:=hr.trans (JG (by simp[g70,g66,g8,g4,g3]));JC<|eoV (OutV.ok (dN hr) hn)
 refine nQ hn<|QFn hr (fun g77 hr=>?_) fun g77 hr=>?_
 · refine coZ<|nR 2 hn<|nV (QC0 1 hn.at_) hn hr<|fun s78 xs78 w78 hn hr=>woE<|eoB<|eoT<|nP 13 hn<|fun w80 hn=>nD [0,1,2,3,4,5] hn ?_
   rcases Bool.eq_false_or_eq_true (decide (6≤s78.y)) with h81|h81
   · have g81:6≤s78.y:=by simpa using h81
     refine Zw 49 h81<|have b82:=Ql hn.at_.ms;nD [6,7,8,9,10] hn<|nDa 11 (m_f hn.at_) hn<|fun w83 hn=>nDe 12 (Xt s78.z s78.f (b82) _) hn<|poE<|nE hn<|coI (Ji s78.z s78.f) (fun h85=>?_) fun h85=>?_
     · have g85:Ji s78.z s78.f=true:=by simpa using h85
       exact have hr:=hr.trans (JK (by simp[g85,g81,g77,g66,g8,g4,g3]));coZ<|nR 1 hn<|nVt (ZX hn.at_) hn hr<|fun s86 xs86 w86 hn hr=>woE<|eoV (OutV.ok (dN hr) hn)
     have g85:¬Ji s78.z s78.f=true:=by simpa using h85
     exact have hr:=hr.trans (JG (by simp[g85,g81,g77,g66,g8,g4,g3]));JC<|eoV (OutV.ok (dN hr) hn)
   have g81:¬6≤s78.y:=by simpa using h81
   exact Zw 49 h81<|nD [6,7,8,9,10,11,12] hn<|poE<|nE hn<|coF<|have hr:=hr.trans (JG (by simp[g81,g77,g66,g8,g4,g3]));JC<|eoV (OutV.ok (dN hr) hn)
 refine nQ hn<|QFn hr (fun g88 hr=>?_) fun g88 hr=>?_
 · refine coZ<|nR 2 hn<|nV (QC8 1 hn.at_) hn hr<|fun s89 xs89 w89 hn hr=>woE<|eoB<|eoT<|nP 13 hn<|fun w91 hn=>nD [0,1,2,3,4,5] hn ?_
   rcases Bool.eq_false_or_eq_true (decide (6≤s89.y)) with h92|h92
   · have g92:6≤s89.y:=by simpa using h92
     refine Zw 49 h92<|have b93:=Ql hn.at_.ms;nD [6,7,8,9,10] hn<|nDa 11 (m_f hn.at_) hn<|fun w94 hn=>nDe 12 (Xt s89.z s89.f (b93) _) hn<|poE<|nE hn<|coI (Ji s89.z s89.f) (fun h96=>?_) fun h96=>?_
     · have g96:Ji s89.z s89.f=true:=by simpa using h96
       exact have hr:=hr.trans (JK (by simp[g96,g92,g88,g77,g66,g8,g4,g3]));coZ<|nR 1 hn<|nVt (ZX hn.at_) hn hr<|fun s97 xs97 w97 hn hr=>woE<|eoV (OutV.ok (dN hr) hn)
     have g96:¬Ji s89.z s89.f=true:=by simpa using h96
     exact have hr:=hr.trans (JG (by simp[g96,g92,g88,g77,g66,g8,g4,g3]));JC<|eoV (OutV.ok (dN hr) hn)
   have g92:¬6≤s89.y:=by simpa using h92
   exact Zw 49 h92<|nD [6,7,8,9,10,11,12] hn<|poE<|nE hn<|coF<|have hr:=hr.trans (JG (by simp[g92,g88,g77,g66,g8,g4,g3]));JC<|eoV (OutV.ok (dN hr) hn)
 refine nQ hn<|QFn hr (fun g99 hr=>?_) fun g99 hr=>?_
 · refine coZ<|nR 2 hn<|nV (QDE 1 hn.at_) hn hr<|fun s100 xs100 w100 hn hr=>woE<|eoB<|eoT<|nP 13 hn<|fun w102 hn=>nD [0,1,2,3,4,5] hn ?_
   rcases Bool.eq_false_or_eq_true (decide (6≤s100.y)) with h103|h103
   · have g103:6≤s100.y:=by simpa using h103
     refine Zw 49 h103<|have b104:=Ql hn.at_.ms;nD [6,7,8,9,10] hn<|nDa 11 (m_f hn.at_) hn<|fun w105 hn=>nDe 12 (Xt s100.z s100.f (b104) _) hn<|poE<|nE hn<|coI (Ji s100.z s100.f) (fun h107=>?_) fun h107=>?_
     · have g107:Ji s100.z s100.f=true:=by simpa using h107
       exact have hr:=hr.trans (JK (by simp[g107,g103,g99,g88,g77,g66,g8,g4,g3]));coZ<|nR 1 hn<|nVt (ZX hn.at_) hn hr<|fun s108 xs108 w108 hn hr=>woE<|eoV (OutV.ok (dN hr) hn)
     have g107:¬Ji s100.z s100.f=true:=by simpa using h107
     exact have hr:=hr.trans (JG (by simp[g107,g103,g99,g88,g77,g66,g8,g4,g3]));JC<|eoV (OutV.ok (dN hr) hn)
   have g103:¬6≤s100.y:=by simpa using h103
   exact Zw 49 h103<|nD [6,7,8,9,10,11,12] hn<|poE<|nE hn<|coF<|have hr:=hr.trans (JG (by simp[g103,g99,g88,g77,g66,g8,g4,g3]));JC<|eoV (OutV.ok (dN hr) hn)
 refine JC<|eoB<|eoT<|nP 13 hn<|fun w110 hn=>nD [0,1,2,3,4,5] hn ?_
 rcases Bool.eq_false_or_eq_true (decide (6≤s.y)) with h111|h111
 · have g111:6≤s.y:=by simpa using h111
   refine Zw 49 h111<|have b112:=Ql hn.at_.ms;nD [6,7,8,9,10] hn<|nDa 11 (m_f hn.at_) hn<|fun w113 hn=>nDe 12 (Xt s.z s.f (b112) _) hn<|poE<|nE hn<|coI (Ji s.z s.f) (fun h115=>?_) fun h115=>?_
   · have g115:Ji s.z s.f=true:=by simpa using h115
     exact have hr:=hr.trans (JK (by simp[g115,g111,g99,g88,g77,g66,g8,g4,g3]));coZ<|nR 1 hn<|nVt (ZX hn.at_) hn hr<|fun s116 xs116 w116 hn hr=>woE<|eoV (OutV.ok (dN hr) hn)
   have g115:¬Ji s.z s.f=true:=by simpa using h115
   exact have hr:=hr.trans (JG (by simp[g115,g111,g99,g88,g77,g66,g8,g4,g3]));JC<|eoV (OutV.ok (dN hr) hn)
 have g111:¬6≤s.y:=by simpa using h111
 exact Zw 49 h111<|nD [6,7,8,9,10,11,12] hn<|poE<|nE hn<|coF<|have hr:=hr.trans (JG (by simp[g111,g99,g88,g77,g66,g8,g4,g3]));JC<|eoV (OutV.ok (dN hr) hn)
theorem QBe  {s:Ms} {xs:List Int} {w:World} {p B:Nat}(h:AtN w p B s xs) :
 Calls Tryz.prog 193 #[pT p 0] w (fun e w'=>e=.returned (.bool (s.inMem))∧NowN w p B (s) xs w'):=by
 have hn:=NowN.begin h
 go_enter Tryz.func193,Tryz.ntmps193
 refine JB<|nQ hn<|coR<|nR 5 hn ?_
 rcases Bool.eq_false_or_eq_true (s.near) with h3|h3
 · have g3:s.near=true:=by simpa using h3
   refine tell 7 h3<|nE hn<|JF<|Jj (.bool (true)) ?_
   have e:s.inMem=(true):=by simp[Ms.inMem,g3]
   exact⟨by rw[e],hn⟩
 have g3:¬s.near=true:=by simpa using h3
 refine tell 7 h3<|nE hn<|JF<|Jj (.bool (s.z==6)) ?_
 have e:s.inMem=(s.z==6):=by simp[Ms.inMem,g3]
 exact⟨by rw[e],hn⟩
theorem QAt  {s:Ms} {xs:List Int} {w:World} {p B:Nat}(h:AtN w p B s xs) :
 Calls Tryz.prog 189 #[pT p 0] w (OutI w p B .u8 ((XO s).run xs)):=by
 have hn:=NowN.begin h
 have hr:(XO s).run xs=(XO s).run xs:=rfl
 go_enter Tryz.func189,Tryz.ntmps189
 refine JB<|nQ hn<|coS<|coR<|nR 1 hn<|nA (QBe hn.at_) hn<|fun w4 hn=>nE hn<|coI (!(s.inMem)) (fun h5=>?_) fun h5=>?_
 · have g5:¬s.inMem=true:=by simpa using h5
   exact have hr:=hr.trans (JG g5);coR<|nR 5 hn<|nIt (QDT s.z hn.at_) hn hr<|fun v7 s7 xs7 w7 hk7 hn hr=>nE hn<|JF<|Jp<|Jj (.int .u8 (v7)) (OutI.ok (dN hr) (hk7) hn)
 have g5:s.inMem=true:=by simpa using h5
 exact have hr:=hr.trans (JK g5);JC<|eoT<|have b9:=hn.at_.ms.spot;coR<|nR 5 hn<|nI (qu s.spot (b9) hn.at_) hn hr<|fun v10 s10 xs10 w10 hk10 hn hr=>nE hn<|coR<|nR 1 hn<|nV (QK 1 hn.at_) hn hr<|fun s12 xs12 w12 hn hr=>wT<|nQ hn<|JF<|Jj (.int .u8 (v10)) (OutI.ok (dN hr) (hk10) hn)
theorem QFF (b:Int)(hAb:B8 b){s:Ms} {xs:List Int} {w:World} {p B:Nat}(h:AtN w p B s xs) :
 Calls Tryz.prog 192 #[pT p 0,.int .u8 (b)] w (OutV w p B ((jF b s).run xs)):=by
 have hn:=NowN.begin h
 have hr:(jF b s).run xs=(jF b s).run xs:=rfl
 go_enter Tryz.func192,Tryz.ntmps192
 refine JB<|coS<|coR<|nR 1 hn<|nA (QBe hn.at_) hn<|fun w3 hn=>wT<|coI (s.inMem) (fun h4=>?_) fun h4=>?_
 · have g4:s.inMem=true:=by simpa using h4
   refine have hr:=hr.trans (qj g4);have b5:=hn.at_.ms.spot;coZ<|nR 6 hn<|nV (Ze s.spot (b5) b (hAb) hn.at_) hn hr<|fun s6 xs6 w6 hn hr=>wT<|nQ hn<|coI (s6.z != 6) (fun h8=>?_) fun h8=>?_
   · have g8:¬s6.z=6:=by simpa using h8
     exact have hr:=hr.trans (JG g8);coZ<|nR 6 hn<|nVt (zx s6.z b (hAb) hn.at_) hn hr<|fun s9 xs9 w9 hn hr=>woE<|eoV (OutV.ok (dN hr) hn)
   have g8:s6.z=6:=by simpa using h8
   exact have hr:=hr.trans (JK g8);JC<|eoV (OutV.ok (dN hr) hn)
 have g4:¬s.inMem=true:=by simpa using h4
 refine have hr:=hr.trans (qh g4);JC<|eoT<|nQ hn<|coI (s.z != 6) (fun h11=>?_) fun h11=>?_
 · have g11:¬s.z=6:=by simpa using h11
   exact have hr:=hr.trans (JG g11);coZ<|nR 6 hn<|nVt (zx s.z b (hAb) hn.at_) hn hr<|fun s12 xs12 w12 hn hr=>woE<|eoV (OutV.ok (dN hr) hn)
 have g11:s.z=6:=by simpa using h11
 exact have hr:=hr.trans (JK g11);JC<|eoV (OutV.ok (dN hr) hn)
theorem QNB  {s:Ms} {xs:List Int} {w:World} {p B:Nat}(h:AtN w p B s xs) :
 Calls Tryz.prog 126 #[pT p 0] w (OutV w p B ((Za s).run xs)):=by
 have hn:=NowN.begin h
 have hr:(Za s).run xs=(Za s).run xs:=rfl
 go_enter Tryz.func126,Tryz.ntmps126
 exact JB<|nP 13 hn<|fun w2 hn=>nD [0,1,2,3,4,6] hn<|nDi 5 qt (QAt hn.at_) hn hr<|fun v3 xs3 w3 hk3 hn hr=>have b4:=Ql hn.at_.ms;nDa 7 (m_f hn.at_) hn<|fun w5 hn=>nDb 8 (QR8 s.y v3 s.f (hk3) (b4) _ hn.at_.tabs.courses) hn<|fun w6 hn=>nD [9,10,11,12] hn<|poE<|nE hn<|coR<|nR 2 hn<|nA (Zh (doF s.y v3 s.f) (QB8 _ _ _ (b4)) hn.at_) hn<|fun w8 hn=>wT<|coZ<|nR 2 hn<|nVt (QFF (doR s.y v3 s.f) (zO _ _ _ (hk3)) hn.at_) hn hr<|fun s9 xs9 w9 hn hr=>woE<|eoV (OutV.ok (dN hr) hn)
theorem QO3  {s:Ms} {xs:List Int} {w:World} {p B:Nat}(h:AtN w p B s xs) :
 Calls Tryz.prog 127 #[pT p 0] w (OutV w p B ((jb s).run xs)):=by
 have hn:=NowN.begin h
 have hr:(jb s).run xs=(jb s).run xs:=rfl
 go_enter Tryz.func127,Tryz.ntmps127
 refine JB<|coR<|nR 1 hn<|nI (QAt hn.at_) hn hr<|fun v2 s2 xs2 w2 hk2 hn hr=>nE hn<|nQ hn<|coS<|coR<|nR 1 hn<|nA (QBe hn.at_) hn<|fun w6 hn=>wT<|coI (s2.inMem) (fun h7=>?_) fun h7=>?_
 · have g7:s2.inMem=true:=by simpa using h7
   exact have hr:=hr.trans (JK g7);have b8:=hn.at_.ms.r.wz;coZ<|nR 5 hn<|kE (qy s2.r.wz (b8).1 (b8).2 _)<|nE hn<|nPz 10 hn<|fun w10 hn=>have b11:=Ql hn.at_.ms;nD [0,1,2,3,4,5,6,7] hn<|nDa 8 (m_f hn.at_) hn<|fun w12 hn=>nDe 9 (QIV s2.y v2 (s2.r.wz / 256) s2.f (hk2) ((b8).hi) (b11) _) hn<|poE<|nA (Zh (zr s2.y v2 (s2.r.wz / 256) s2.f) (zc _ _ _ _) hn.at_) hn<|fun w14 hn=>woE<|eoV (OutV.ok (dN hr) hn)
 have g7:¬s2.inMem=true:=by simpa using h7
 exact have hr:=hr.trans (JG g7);JC<|eoT<|nPz 10 hn<|fun w15 hn=>have b16:=Ql hn.at_.ms;nD [0,1,2,3,4,5,6,7] hn<|nDa 8 (m_f hn.at_) hn<|fun w17 hn=>nDe 9 (QIV s2.y v2 v2 s2.f (hk2) (hk2) (b16) _) hn<|poE<|nA (Zh (zr s2.y v2 v2 s2.f) (zc _ _ _ _) hn.at_) hn<|fun w19 hn=>woE<|eoV (OutV.ok (dN hr) hn)
theorem QMS  {s:Ms} {xs:List Int} {w:World} {p B:Nat}(h:AtN w p B s xs) :
 Calls Tryz.prog 128 #[pT p 0] w (OutV w p B ((XQ false s).run xs)):=by
 have hn:=NowN.begin h
 have hr:(XQ false s).run xs=(XQ false s).run xs:=rfl
 go_enter Tryz.func128,Tryz.ntmps128
 exact JB<|nPz 8 hn<|fun w1 hn=>nD [0,1,3,4,5,6] hn<|nDi 2 qt (QAt hn.at_) hn hr<|fun v2 xs2 w2 hk2 hn hr=>nDe 7 (XS v2 s.y false (hk2).1 (hk2).2 _) hn<|poE<|nVt (QFF (JQ v2 s.y false) (B8.with (hk2) _ _) hn.at_) hn hr<|fun s4 xs4 w4 hn hr=>woE<|eoV (OutV.ok (dN hr) hn)
theorem QNs  {s:Ms} {xs:List Int} {w:World} {p B:Nat}(h:AtN w p B s xs) :
 Calls Tryz.prog 129 #[pT p 0] w (OutV w p B ((XQ true s).run xs)):=by
 have hn:=NowN.begin h
 have hr:(XQ true s).run xs=(XQ true s).run xs:=rfl
 go_enter Tryz.func129,Tryz.ntmps129
 exact JB<|nPz 8 hn<|fun w1 hn=>nD [0,1,3,4,5,6] hn<|nDi 2 qt (QAt hn.at_) hn hr<|fun v2 xs2 w2 hk2 hn hr=>nDe 7 (XS v2 s.y true (hk2).1 (hk2).2 _) hn<|poE<|nVt (QFF (JQ v2 s.y true) (B8.with (hk2) _ _) hn.at_) hn hr<|fun s4 xs4 w4 hn hr=>woE<|eoV (OutV.ok (dN hr) hn)
theorem QFS  {s:Ms} {xs:List Int} {w:World} {p B:Nat}(h:AtN w p B s xs) :
 Calls Tryz.prog 125 #[pT p 0] w (OutI w p B .u8 ((Zd s).run xs)):=by
 have hn:=NowN.begin h
 have hr:(Zd s).run xs=(Zd s).run xs:=rfl
 go_enter Tryz.func125,Tryz.ntmps125
 refine JB<|nQ hn<|coS<|nQ hn<|nIf hr (fun g4 hr=>?_) fun g4 hr=>?_
 · exact coR<|nR 1 hn<|nI (QAx hn.at_) hn hr<|fun v6 s6 xs6 w6 hk6 hn hr=>nE hn<|JF<|Jp<|Jj (.int .u8 (v6)) (OutI.ok (dN hr) (hk6) hn)
 exact JC<|eoT<|coR<|nR 1 hn<|nV (QRn hn.at_) hn hr<|fun s8 xs8 w8 hn hr=>wT<|coR<|nR 1 hn<|nI (Z7 hn.at_) hn hr<|fun v10 s10 xs10 w10 hk10 hn hr=>nE hn<|coR<|nR 1 hn<|nV (QK 2 hn.at_) hn hr<|fun s12 xs12 w12 hn hr=>wT<|nQ hn<|JF<|Jj (.int .u8 (v10)) (OutI.ok (dN hr) (hk10) hn)
end Go.Proofs.YtkenebbjodcbcaaGreatDoor
