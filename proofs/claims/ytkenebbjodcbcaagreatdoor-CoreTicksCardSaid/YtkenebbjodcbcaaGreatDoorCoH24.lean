/- Contracts and facts that the claim's proof wants (several texts in one). -/
import Derived.Test.YtkenebbjodcbcaaGreatDoorCoH22
import Derived.Test.YtkenebbjodcbcaaGreatDoorCoH23
namespace Go.Proofs.YtkenebbjodcbcaaGreatDoor
open Go.RowKit
set_option linter.unusedVariables false
set_option linter.unusedSimpArgs false
set_option maxRecDepth 20000
set_option maxHeartbeats 20000000
theorem QQM (y:Int)(hAy:0≤y∧y≤7)(zA:Int){s:Ws} {xs:List Int} {z:Zs} {w:World} {p B:Nat}(h:AtW w p B s xs z) :
 Calls Tryz.prog 100 #[pT p 0,.int .i64 (y),.int .i64 (zA)] w (OutY w p B xs ((QDz y zA s).runZ xs z)):=by
 have hn:=NowW.begin h
 have hr:(QDz y zA s).runZ xs z=(QDz y zA s).runZ xs z:=rfl
 go_enter Tryz.func100,Tryz.ntmps100
 refine JB<|zQ hn<|coS<|coR<|zR 1 hn ?_
 rcases mod2 (y) with g4|g4
 · refine QKZ 15 (egI _ _ _ _ _) (QRw ((hAy).1) g4)<|have hr:=hr.trans (JP (by simp[g4]));?_
   first|have hr:=pZ hr|have hr:=qZ hr|have hr:=pbZ hr|have hr:=qbZ hr|skip
   refine zE hn<|coF ?_
   first|have hr:=pZ hr|have hr:=qZ hr|have hr:=pbZ hr|have hr:=qbZ hr|skip
   refine JC<|eoT<|zQ hn<|coS<|zQ hn<|coB<|zQ hn<|zIf hr (fun g9 hr=>?_) fun g9 hr=>?_
   · refine have b11:=hn.at_.ms.r.hl;coR<|zR 6 hn<|zX (Xb s.r.hl (b11) hn.at_) hn hr<|fun v12 s12 z12 w12 hk12 hn hr=>zE hn<|have b14:=hn.at_.ms.r.de;coR<|zR 7 hn<|zY (Q3 s12.r.de (b14) v12 (hk12) hn.at_) hn hr<|fun s15 z15 w15 hn hr=>wT<|coR<|zR 1 hn<|zY (Jo 2 hn.at_) hn hr<|fun s17 z17 w17 hn hr=>wT<|have b19:=hn.at_.ms.r.de;coR<|zR 7 hn<|kE (QN s17.r.de 1 (b19) _)<|zEs hn (.u_de _ (JA s17.r.de 1)) (hn.at_.ms.u_de (Wd16.mod _))<|fun w21 hn=>have b23:=hn.at_.ms.r.bc;zQs hn ((s17.u_de (JA s17.r.de 1)).u_bc ((((s17.u_de (JA s17.r.de 1)).r.bc)-1)%65536)) (hn.at_.ms.u_bc (Wd16.mod _))<|fun w24 hn=>zP 11 hn<|fun w26 hn=>have b27:=hn.at_.ms.r.bc;have b28:=Js hn.at_.ms;zD [0,2,3,4,5,6,7,8] hn<|zDa 1 (w_a hn.at_) hn<|fun w29 hn=>have b30:=QP hn.at_.ms;zDa 9 (w_f hn.at_) hn<|fun w31 hn=>zDb 10 (QGP (((s17.u_de (JA s17.r.de 1)).u_bc ((((s17.u_de (JA s17.r.de 1)).r.bc)-1)%65536)).a) v12 (((s17.u_de (JA s17.r.de 1)).u_bc ((((s17.u_de (JA s17.r.de 1)).r.bc)-1)%65536)).r.bc) (((s17.u_de (JA s17.r.de 1)).u_bc ((((s17.u_de (JA s17.r.de 1)).r.bc)-1)%65536)).f) (b28) (hk12) (b30) (b27).1 (b27).2 _) hn<|fun w32 hn=>poE<|zE hn<|have b33:=hn.at_.ms.r.hl;coZ<|zR 7 hn<|kE (QN (((s17.u_de (JA s17.r.de 1)).u_bc ((((s17.u_de (JA s17.r.de 1)).r.bc)-1)%65536)).r.hl) 1 (b33) _)<|zFs hn (((s17.u_de (JA s17.r.de 1)).u_bc ((((s17.u_de (JA s17.r.de 1)).r.bc)-1)%65536)).u_hl (JA (((s17.u_de (JA s17.r.de 1)).u_bc ((((s17.u_de (JA s17.r.de 1)).r.bc)-1)%65536)).r.hl) 1)) (hn.at_.ms.u_hl (Wd16.mod _))<|fun w35 hn=>eoB<|eoT<|have b37:=Js hn.at_.ms;coR<|zR 2 hn<|zAA (w_a hn.at_) hn<|fun w38 hn=>zR 1 hn<|zAA (QU ((((s17.u_de (JA s17.r.de 1)).u_bc ((((s17.u_de (JA s17.r.de 1)).r.bc)-1)%65536)).u_hl (JA (((s17.u_de (JA s17.r.de 1)).u_bc ((((s17.u_de (JA s17.r.de 1)).r.bc)-1)%65536)).r.hl) 1)).a) (b37) (moveF (((s17.u_de (JA s17.r.de 1)).u_bc ((((s17.u_de (JA s17.r.de 1)).r.bc)-1)%65536)).a) v12 (((s17.u_de (JA s17.r.de 1)).u_bc ((((s17.u_de (JA s17.r.de 1)).r.bc)-1)%65536)).r.bc) (((s17.u_de (JA s17.r.de 1)).u_bc ((((s17.u_de (JA s17.r.de 1)).r.bc)-1)%65536)).f)) (jR _ _ _ _) hn.at_) hn<|fun w39 hn=>wT<|coR<|zR 3 hn ?_
     rcases Bool.eq_false_or_eq_true (decide (5 < y)) with h41|h41
     · have g41:5 < y:=by simpa using h41
       refine tell 244 h41<|zR 2 hn<|zBB (ZC zA (moveF (((s17.u_de (JA s17.r.de 1)).u_bc ((((s17.u_de (JA s17.r.de 1)).r.bc)-1)%65536)).a) v12 (((s17.u_de (JA s17.r.de 1)).u_bc ((((s17.u_de (JA s17.r.de 1)).r.bc)-1)%65536)).r.bc) (((s17.u_de (JA s17.r.de 1)).u_bc ((((s17.u_de (JA s17.r.de 1)).r.bc)-1)%65536)).f)) (jR _ _ _ _) _) hn<|fun w42 hn=>zE hn<|coI (Ji zA (moveF (((s17.u_de (JA s17.r.de 1)).u_bc ((((s17.u_de (JA s17.r.de 1)).r.bc)-1)%65536)).a) v12 (((s17.u_de (JA s17.r.de 1)).u_bc ((((s17.u_de (JA s17.r.de 1)).r.bc)-1)%65536)).r.bc) (((s17.u_de (JA s17.r.de 1)).u_bc ((((s17.u_de (JA s17.r.de 1)).r.bc)-1)%65536)).f))) (fun h43=>?_) fun h43=>?_
       · have g43:Ji zA (moveF (((s17.u_de (JA s17.r.de 1)).u_bc ((((s17.u_de (JA s17.r.de 1)).r.bc)-1)%65536)).a) v12 (((s17.u_de (JA s17.r.de 1)).u_bc ((((s17.u_de (JA s17.r.de 1)).r.bc)-1)%65536)).r.bc) (((s17.u_de (JA s17.r.de 1)).u_bc ((((s17.u_de (JA s17.r.de 1)).r.bc)-1)%65536)).f))=true:=by simpa using h43
         exact have hr:=hr.trans (JX (⟨g41,g43⟩));coR<|zR 1 hn<|zY (Jo 5 hn.at_) hn hr<|fun s45 z45 w45 hn hr=>wT<|have b47:=hn.at_.ms.r.pc;zQs hn (.u_pc _ ((s45.r.pc-2)%65536)) (hn.at_.ms.u_pc (Wd16.mod _))<|fun w48 hn=>zQ hn<|coJ (decide (zA < 2)) (fun h50=>absurd h50 (by first|(simp;omega)|simp[*]))<|fun h50=>have hr:=hr.trans (JX (by simp[g43,g41,g9,g4]));have b51:=hn.at_.ms.r.pc;coZ<|zFs hn ((s45.u_pc ((s45.r.pc-2)%65536)).u_wz ((((s45.u_pc ((s45.r.pc-2)%65536)).r.pc)+1)%65536)) (hn.at_.ms.u_wz (Wd16.mod _))<|fun w52 hn=>eoV (OutY.ok (dZ hr) hn)
       have g43:¬Ji zA (moveF (((s17.u_de (JA s17.r.de 1)).u_bc ((((s17.u_de (JA s17.r.de 1)).r.bc)-1)%65536)).a) v12 (((s17.u_de (JA s17.r.de 1)).u_bc ((((s17.u_de (JA s17.r.de 1)).r.bc)-1)%65536)).r.bc) (((s17.u_de (JA s17.r.de 1)).u_bc ((((s17.u_de (JA s17.r.de 1)).r.bc)-1)%65536)).f))=true:=by simpa using h43
       exact have hr:=hr.trans (JP (fun h=>g43 h.2));JC<|eoV (OutY.ok (dZ hr) hn)
     have g41:¬5 < y:=by simpa using h41
     exact tell 244 h41<|zE hn<|coF<|have hr:=hr.trans (JP (fun h=>g41 h.1));JC<|eoV (OutY.ok (dZ hr) hn)
   refine zQ hn<|zIf hr (fun g54 hr=>?_) fun g54 hr=>?_
   · refine have b56:=hn.at_.ms.r.hl;coR<|zR 6 hn<|zX (Xb s.r.hl (b56) hn.at_) hn hr<|fun v57 s57 z57 w57 hk57 hn hr=>zE hn<|coR<|zR 1 hn<|zY (Jo 5 hn.at_) hn hr<|fun s59 z59 w59 hn hr=>wT<|have b61:=hn.at_.ms.r.wz;coR<|zR 7 hn<|kE (QN s59.r.wz 1 (b61) _)<|zEs hn (.u_wz _ (JA s59.r.wz 1)) (hn.at_.ms.u_wz (Wd16.mod _))<|fun w63 hn=>have b65:=hn.at_.ms.r.bc;zQs hn ((s59.u_wz (JA s59.r.wz 1)).u_bc ((((s59.u_wz (JA s59.r.wz 1)).r.bc)-1)%65536)) (hn.at_.ms.u_bc (Wd16.mod _))<|fun w66 hn=>zP 11 hn<|fun w68 hn=>have b69:=hn.at_.ms.r.bc;have b70:=Js hn.at_.ms;zD [0,2,3,4,5,6,7,8] hn<|zDa 1 (w_a hn.at_) hn<|fun w71 hn=>have b72:=QP hn.at_.ms;zDa 9 (w_f hn.at_) hn<|fun w73 hn=>zDb 10 (QFx (((s59.u_wz (JA s59.r.wz 1)).u_bc ((((s59.u_wz (JA s59.r.wz 1)).r.bc)-1)%65536)).a) v57 (((s59.u_wz (JA s59.r.wz 1)).u_bc ((((s59.u_wz (JA s59.r.wz 1)).r.bc)-1)%65536)).r.bc) (((s59.u_wz (JA s59.r.wz 1)).u_bc ((((s59.u_wz (JA s59.r.wz 1)).r.bc)-1)%65536)).f) (b70) (hk57) (b72) (b69).1 (b69).2 _) hn<|fun w74 hn=>poE<|zE hn<|have b75:=hn.at_.ms.r.hl;coZ<|zR 7 hn<|kE (QN (((s59.u_wz (JA s59.r.wz 1)).u_bc ((((s59.u_wz (JA s59.r.wz 1)).r.bc)-1)%65536)).r.hl) 1 (b75) _)<|zFs hn (((s59.u_wz (JA s59.r.wz 1)).u_bc ((((s59.u_wz (JA s59.r.wz 1)).r.bc)-1)%65536)).u_hl (JA (((s59.u_wz (JA s59.r.wz 1)).u_bc ((((s59.u_wz (JA s59.r.wz 1)).r.bc)-1)%65536)).r.hl) 1)) (hn.at_.ms.u_hl (Wd16.mod _))<|fun w77 hn=>eoB<|eoT<|have b79:=Js hn.at_.ms;coR<|zR 2 hn<|zAA (w_a hn.at_) hn<|fun w80 hn=>zR 1 hn<|zAA (QU ((((s59.u_wz (JA s59.r.wz 1)).u_bc ((((s59.u_wz (JA s59.r.wz 1)).r.bc)-1)%65536)).u_hl (JA (((s59.u_wz (JA s59.r.wz 1)).u_bc ((((s59.u_wz (JA s59.r.wz 1)).r.bc)-1)%65536)).r.hl) 1)).a) (b79) (Zu (((s59.u_wz (JA s59.r.wz 1)).u_bc ((((s59.u_wz (JA s59.r.wz 1)).r.bc)-1)%65536)).a) v57 (((s59.u_wz (JA s59.r.wz 1)).u_bc ((((s59.u_wz (JA s59.r.wz 1)).r.bc)-1)%65536)).r.bc) (((s59.u_wz (JA s59.r.wz 1)).u_bc ((((s59.u_wz (JA s59.r.wz 1)).r.bc)-1)%65536)).f)) (jY _ _ _ _) hn.at_) hn<|fun w81 hn=>wT<|coR<|zR 3 hn ?_
     rcases Bool.eq_false_or_eq_true (decide (5 < y)) with h83|h83
     · have g83:5 < y:=by simpa using h83
       refine tell 244 h83<|zR 2 hn<|zBB (ZC zA (Zu (((s59.u_wz (JA s59.r.wz 1)).u_bc ((((s59.u_wz (JA s59.r.wz 1)).r.bc)-1)%65536)).a) v57 (((s59.u_wz (JA s59.r.wz 1)).u_bc ((((s59.u_wz (JA s59.r.wz 1)).r.bc)-1)%65536)).r.bc) (((s59.u_wz (JA s59.r.wz 1)).u_bc ((((s59.u_wz (JA s59.r.wz 1)).r.bc)-1)%65536)).f)) (jY _ _ _ _) _) hn<|fun w84 hn=>zE hn<|coI (Ji zA (Zu (((s59.u_wz (JA s59.r.wz 1)).u_bc ((((s59.u_wz (JA s59.r.wz 1)).r.bc)-1)%65536)).a) v57 (((s59.u_wz (JA s59.r.wz 1)).u_bc ((((s59.u_wz (JA s59.r.wz 1)).r.bc)-1)%65536)).r.bc) (((s59.u_wz (JA s59.r.wz 1)).u_bc ((((s59.u_wz (JA s59.r.wz 1)).r.bc)-1)%65536)).f))) (fun h85=>?_) fun h85=>?_
       · have g85:Ji zA (Zu (((s59.u_wz (JA s59.r.wz 1)).u_bc ((((s59.u_wz (JA s59.r.wz 1)).r.bc)-1)%65536)).a) v57 (((s59.u_wz (JA s59.r.wz 1)).u_bc ((((s59.u_wz (JA s59.r.wz 1)).r.bc)-1)%65536)).r.bc) (((s59.u_wz (JA s59.r.wz 1)).u_bc ((((s59.u_wz (JA s59.r.wz 1)).r.bc)-1)%65536)).f))=true:=by simpa using h85
         exact have hr:=hr.trans (JX (⟨g83,g85⟩));coR<|zR 1 hn<|zY (Jo 5 hn.at_) hn hr<|fun s87 z87 w87 hn hr=>wT<|have b89:=hn.at_.ms.r.pc;zQs hn (.u_pc _ ((s87.r.pc-2)%65536)) (hn.at_.ms.u_pc (Wd16.mod _))<|fun w90 hn=>zQ hn<|coJ (decide (zA < 2)) (fun h92=>absurd h92 (by first|(simp;omega)|simp[*]))<|fun h92=>have hr:=hr.trans (JX (by simp[g85,g83,g54,g9,g4]));have b93:=hn.at_.ms.r.pc;coZ<|zFs hn ((s87.u_pc ((s87.r.pc-2)%65536)).u_wz ((((s87.u_pc ((s87.r.pc-2)%65536)).r.pc)+1)%65536)) (hn.at_.ms.u_wz (Wd16.mod _))<|fun w94 hn=>eoV (OutY.ok (dZ hr) hn)
       have g85:¬Ji zA (Zu (((s59.u_wz (JA s59.r.wz 1)).u_bc ((((s59.u_wz (JA s59.r.wz 1)).r.bc)-1)%65536)).a) v57 (((s59.u_wz (JA s59.r.wz 1)).u_bc ((((s59.u_wz (JA s59.r.wz 1)).r.bc)-1)%65536)).r.bc) (((s59.u_wz (JA s59.r.wz 1)).u_bc ((((s59.u_wz (JA s59.r.wz 1)).r.bc)-1)%65536)).f))=true:=by simpa using h85
       exact have hr:=hr.trans (JP (fun h=>g85 h.2));JC<|eoV (OutY.ok (dZ hr) hn)
     have g83:¬5 < y:=by simpa using h83
     exact tell 244 h83<|zE hn<|coF<|have hr:=hr.trans (JP (fun h=>g83 h.1));JC<|eoV (OutY.ok (dZ hr) hn)
   refine zQ hn<|zIf hr (fun g96 hr=>?_) fun g96 hr=>?_
   · refine coR<|zR 1 hn<|zY (Jo 1 hn.at_) hn hr<|fun s98 z98 w98 hn hr=>wT<|have b100:=hn.at_.ms.r.bc;coR<|zR 6 hn<|zX (Xw 4 s98.r.bc (b100) 0 (⟨by decide,by decide⟩) 4 hn.at_) hn hr<|fun v101 s101 z101 w101 hk101 hn hr=>zE hn<|have b103:=hn.at_.ms.r.bc;coR<|zR 7 hn<|kE (QN s101.r.bc 1 (b103) _)<|zEs hn (.u_wz _ (JA s101.r.bc 1)) (hn.at_.ms.u_wz (Wd16.mod _))<|fun w105 hn=>coR<|zR 1 hn<|zAA (QFN hn.at_) hn<|fun w107 hn=>zE hn<|have b109:=hn.at_.ms.r.hl;coR<|zR 7 hn<|zY (Q3 (((s101.u_wz (JA s101.r.bc 1)).less).r.hl) (b109) v101 (hk101) hn.at_) hn hr<|fun s110 z110 w110 hn hr=>wT<|have b112:=hn.at_.ms.r.hl;coR<|zR 7 hn<|kE (QN s110.r.hl 1 (b112) _)<|zEs hn (.u_hl _ (JA s110.r.hl 1)) (hn.at_.ms.u_hl (Wd16.mod _))<|fun w114 hn=>have b115:=hn.at_.ms.r.bc;coZ<|zR 6 hn<|kE (Q4 ((s110.u_hl (JA s110.r.hl 1)).r.bc) (b115).1 (b115).2 _)<|zR 2 hn<|zBB (QGa v101 (((s110.u_hl (JA s110.r.hl 1)).r.bc)%256) ((s101.u_wz (JA s101.r.bc 1)).left) 1 (hk101) ((b115).lo8) (B8.mod _) _) hn<|fun w117 hn=>zF hn<|eoB<|eoT<|have b119:=Js hn.at_.ms;coR<|zR 2 hn<|zAA (w_a hn.at_) hn<|fun w120 hn=>zR 1 hn<|zAA (QU ((s110.u_hl (JA s110.r.hl 1)).a) (b119) (Qs v101 (v101+byC (((s110.u_hl (JA s110.r.hl 1)).r.bc)%256) 1) ((s101.u_wz (JA s101.r.bc 1)).left)) (XE _ _ _) hn.at_) hn<|fun w121 hn=>wT<|coR<|zR 3 hn ?_
     rcases Bool.eq_false_or_eq_true (decide (5 < y)) with h123|h123
     · have g123:5 < y:=by simpa using h123
       refine tell 244 h123<|zR 2 hn<|zBB (ZC zA (Qs v101 (v101+byC (((s110.u_hl (JA s110.r.hl 1)).r.bc)%256) 1) ((s101.u_wz (JA s101.r.bc 1)).left)) (XE _ _ _) _) hn<|fun w124 hn=>zE hn<|coI (Ji zA (Qs v101 (v101+byC (((s110.u_hl (JA s110.r.hl 1)).r.bc)%256) 1) ((s101.u_wz (JA s101.r.bc 1)).left))) (fun h125=>?_) fun h125=>?_
       · have g125:Ji zA (Qs v101 (v101+byC (((s110.u_hl (JA s110.r.hl 1)).r.bc)%256) 1) ((s101.u_wz (JA s101.r.bc 1)).left))=true:=by simpa using h125
         exact have hr:=hr.trans (JX (⟨g123,g125⟩));coR<|zR 1 hn<|zY (Jo 5 hn.at_) hn hr<|fun s127 z127 w127 hn hr=>wT<|have b129:=hn.at_.ms.r.pc;zQs hn (.u_pc _ ((s127.r.pc-2)%65536)) (hn.at_.ms.u_pc (Wd16.mod _))<|fun w130 hn=>zQ hn<|coK (decide (zA < 2)) (fun h132=>absurd h132 (by first|(simp;omega)|simp[*]))<|fun h132=>have hr:=hr.trans (JP (by simp[g125,g123,g96,g54,g9,g4]));JC<|eoV (OutY.ok (dZ hr) hn)
       have g125:¬Ji zA (Qs v101 (v101+byC (((s110.u_hl (JA s110.r.hl 1)).r.bc)%256) 1) ((s101.u_wz (JA s101.r.bc 1)).left))=true:=by simpa using h125
       exact have hr:=hr.trans (JP (fun h=>g125 h.2));JC<|eoV (OutY.ok (dZ hr) hn)
     have g123:¬5 < y:=by simpa using h123
     exact tell 244 h123<|zE hn<|coF<|have hr:=hr.trans (JP (fun h=>g123 h.1));JC<|eoV (OutY.ok (dZ hr) hn)
   refine coR<|zR 1 hn<|zY (Jo 1 hn.at_) hn hr<|fun s134 z134 w134 hn hr=>wT<|have b136:=hn.at_.ms.r.hl;coR<|zR 6 hn<|zX (Xb s134.r.hl (b136) hn.at_) hn hr<|fun v137 s137 z137 w137 hk137 hn hr=>zE hn<|coR<|zR 1 hn<|zAA (QFN hn.at_) hn<|fun w139 hn=>zE hn<|have b141:=hn.at_.ms.r.bc;coR<|zR 7 hn<|kE (QN s137.less.r.bc 1 (b141) _)<|zEs hn (.u_wz _ (JA s137.less.r.bc 1)) (hn.at_.ms.u_wz (Wd16.mod _))<|fun w143 hn=>have b145:=hn.at_.ms.r.bc;coR<|zR 7 hn<|zX (Xw 5 ((s137.less.u_wz (JA s137.less.r.bc 1)).r.bc) (b145) v137 (hk137) 4 hn.at_) hn hr<|fun v146 s146 z146 w146 hk146 hn hr=>wT<|have b148:=hn.at_.ms.r.hl;coR<|zR 7 hn<|kE (QN s146.r.hl 1 (b148) _)<|zEs hn (.u_hl _ (JA s146.r.hl 1)) (hn.at_.ms.u_hl (Wd16.mod _))<|fun w150 hn=>have b151:=hn.at_.ms.r.hl;coZ<|zR 6 hn<|kE (Q4 ((s146.u_hl (JA s146.r.hl 1)).r.hl) (b151).1 (b151).2 _)<|zR 1 hn<|zBB (QGW v137 (((s146.u_hl (JA s146.r.hl 1)).r.hl)%256) s137.left (hk137) ((b151).lo8) (B8.mod _) _) hn<|fun w153 hn=>zF hn<|eoB<|eoT<|have b155:=Js hn.at_.ms;coR<|zR 2 hn<|zAA (w_a hn.at_) hn<|fun w156 hn=>zR 1 hn<|zAA (QU ((s146.u_hl (JA s146.r.hl 1)).a) (b155) (Qs v137 (v137+(((s146.u_hl (JA s146.r.hl 1)).r.hl)%256)) s137.left) (XE _ _ _) hn.at_) hn<|fun w157 hn=>wT<|coR<|zR 3 hn ?_
   rcases Bool.eq_false_or_eq_true (decide (5 < y)) with h159|h159
   · have g159:5 < y:=by simpa using h159
     refine tell 244 h159<|zR 2 hn<|zBB (ZC zA (Qs v137 (v137+(((s146.u_hl (JA s146.r.hl 1)).r.hl)%256)) s137.left) (XE _ _ _) _) hn<|fun w160 hn=>zE hn<|coI (Ji zA (Qs v137 (v137+(((s146.u_hl (JA s146.r.hl 1)).r.hl)%256)) s137.left)) (fun h161=>?_) fun h161=>?_
     · have g161:Ji zA (Qs v137 (v137+(((s146.u_hl (JA s146.r.hl 1)).r.hl)%256)) s137.left)=true:=by simpa using h161
       refine have hr:=hr.trans (JX (⟨g159,g161⟩));coR<|zR 1 hn<|zY (Jo 5 hn.at_) hn hr<|fun s163 z163 w163 hn hr=>wT<|have b165:=hn.at_.ms.r.pc;zQs hn (.u_pc _ ((s163.r.pc-2)%65536)) (hn.at_.ms.u_pc (Wd16.mod _))<|fun w166 hn=>zQ hn<|zIf hr (fun g168 hr=>?_) fun g168 hr=>?_
       · exact have b169:=hn.at_.ms.r.pc;coZ<|zFs hn ((s163.u_pc ((s163.r.pc-2)%65536)).u_wz ((((s163.u_pc ((s163.r.pc-2)%65536)).r.pc)+1)%65536)) (hn.at_.ms.u_wz (Wd16.mod _))<|fun w170 hn=>eoV (OutY.ok (dZ hr) hn)
       exact JC<|eoV (OutY.ok (dZ hr) hn)
     have g161:¬Ji zA (Qs v137 (v137+(((s146.u_hl (JA s146.r.hl 1)).r.hl)%256)) s137.left)=true:=by simpa using h161
     exact have hr:=hr.trans (JP (fun h=>g161 h.2));JC<|eoV (OutY.ok (dZ hr) hn)
   have g159:¬5 < y:=by simpa using h159
   exact tell 244 h159<|zE hn<|coF<|have hr:=hr.trans (JP (fun h=>g159 h.1));JC<|eoV (OutY.ok (dZ hr) hn)
 refine QKZ 15 (egI _ _ _ _ _) (QRw ((hAy).1) g4)<|have hr:=hr.trans (JX g4);?_
 first|have hr:=pZ hr|have hr:=qZ hr|have hr:=pbZ hr|have hr:=qbZ hr|skip
 refine zE hn<|coT ?_
 first|have hr:=pZ hr|have hr:=qZ hr|have hr:=pbZ hr|have hr:=qbZ hr|skip
 refine coZ<|zE hn<|zQ hn<|coS<|zQ hn<|coB<|zQ hn<|zIf hr (fun g175 hr=>?_) fun g175 hr=>?_
 · refine have b177:=hn.at_.ms.r.hl;coR<|zR 6 hn<|zX (Xb s.r.hl (b177) hn.at_) hn hr<|fun v178 s178 z178 w178 hk178 hn hr=>zE hn<|have b180:=hn.at_.ms.r.de;coR<|zR 7 hn<|zY (Q3 s178.r.de (b180) v178 (hk178) hn.at_) hn hr<|fun s181 z181 w181 hn hr=>wT<|coR<|zR 1 hn<|zY (Jo 2 hn.at_) hn hr<|fun s183 z183 w183 hn hr=>wT<|have b185:=hn.at_.ms.r.de;coR<|zR 7 hn<|kE (QN s183.r.de ((-1)) (b185) _)<|zEs hn (.u_de _ (JA s183.r.de ((-1)))) (hn.at_.ms.u_de (Wd16.mod _))<|fun w187 hn=>have b189:=hn.at_.ms.r.bc;zQs hn ((s183.u_de (JA s183.r.de ((-1)))).u_bc ((((s183.u_de (JA s183.r.de ((-1)))).r.bc)-1)%65536)) (hn.at_.ms.u_bc (Wd16.mod _))<|fun w190 hn=>zP 11 hn<|fun w192 hn=>have b193:=hn.at_.ms.r.bc;have b194:=Js hn.at_.ms;zD [0,2,3,4,5,6,7,8] hn<|zDa 1 (w_a hn.at_) hn<|fun w195 hn=>have b196:=QP hn.at_.ms;zDa 9 (w_f hn.at_) hn<|fun w197 hn=>zDb 10 (QGP (((s183.u_de (JA s183.r.de ((-1)))).u_bc ((((s183.u_de (JA s183.r.de ((-1)))).r.bc)-1)%65536)).a) v178 (((s183.u_de (JA s183.r.de ((-1)))).u_bc ((((s183.u_de (JA s183.r.de ((-1)))).r.bc)-1)%65536)).r.bc) (((s183.u_de (JA s183.r.de ((-1)))).u_bc ((((s183.u_de (JA s183.r.de ((-1)))).r.bc)-1)%65536)).f) (b194) (hk178) (b196) (b193).1 (b193).2 _) hn<|fun w198 hn=>poE<|zE hn<|have b199:=hn.at_.ms.r.hl;coZ<|zR 7 hn<|kE (QN (((s183.u_de (JA s183.r.de ((-1)))).u_bc ((((s183.u_de (JA s183.r.de ((-1)))).r.bc)-1)%65536)).r.hl) ((-1)) (b199) _)<|zFs hn (((s183.u_de (JA s183.r.de ((-1)))).u_bc ((((s183.u_de (JA s183.r.de ((-1)))).r.bc)-1)%65536)).u_hl (JA (((s183.u_de (JA s183.r.de ((-1)))).u_bc ((((s183.u_de (JA s183.r.de ((-1)))).r.bc)-1)%65536)).r.hl) ((-1)))) (hn.at_.ms.u_hl (Wd16.mod _))<|fun w201 hn=>eoB<|eoT<|have b203:=Js hn.at_.ms;coR<|zR 2 hn<|zAA (w_a hn.at_) hn<|fun w204 hn=>zR 1 hn<|zAA (QU ((((s183.u_de (JA s183.r.de ((-1)))).u_bc ((((s183.u_de (JA s183.r.de ((-1)))).r.bc)-1)%65536)).u_hl (JA (((s183.u_de (JA s183.r.de ((-1)))).u_bc ((((s183.u_de (JA s183.r.de ((-1)))).r.bc)-1)%65536)).r.hl) ((-1)))).a) (b203) (moveF (((s183.u_de (JA s183.r.de ((-1)))).u_bc ((((s183.u_de (JA s183.r.de ((-1)))).r.bc)-1)%65536)).a) v178 (((s183.u_de (JA s183.r.de ((-1)))).u_bc ((((s183.u_de (JA s183.r.de ((-1)))).r.bc)-1)%65536)).r.bc) (((s183.u_de (JA s183.r.de ((-1)))).u_bc ((((s183.u_de (JA s183.r.de ((-1)))).r.bc)-1)%65536)).f)) (jR _ _ _ _) hn.at_) hn<|fun w205 hn=>wT<|coR<|zR 3 hn ?_
   rcases Bool.eq_false_or_eq_true (decide (5 < y)) with h207|h207
   · have g207:5 < y:=by simpa using h207
     refine tell 244 h207<|zR 2 hn<|zBB (ZC zA (moveF (((s183.u_de (JA s183.r.de ((-1)))).u_bc ((((s183.u_de (JA s183.r.de ((-1)))).r.bc)-1)%65536)).a) v178 (((s183.u_de (JA s183.r.de ((-1)))).u_bc ((((s183.u_de (JA s183.r.de ((-1)))).r.bc)-1)%65536)).r.bc) (((s183.u_de (JA s183.r.de ((-1)))).u_bc ((((s183.u_de (JA s183.r.de ((-1)))).r.bc)-1)%65536)).f)) (jR _ _ _ _) _) hn<|fun w208 hn=>zE hn<|coI (Ji zA (moveF (((s183.u_de (JA s183.r.de ((-1)))).u_bc ((((s183.u_de (JA s183.r.de ((-1)))).r.bc)-1)%65536)).a) v178 (((s183.u_de (JA s183.r.de ((-1)))).u_bc ((((s183.u_de (JA s183.r.de ((-1)))).r.bc)-1)%65536)).r.bc) (((s183.u_de (JA s183.r.de ((-1)))).u_bc ((((s183.u_de (JA s183.r.de ((-1)))).r.bc)-1)%65536)).f))) (fun h209=>?_) fun h209=>?_
     · have g209:Ji zA (moveF (((s183.u_de (JA s183.r.de ((-1)))).u_bc ((((s183.u_de (JA s183.r.de ((-1)))).r.bc)-1)%65536)).a) v178 (((s183.u_de (JA s183.r.de ((-1)))).u_bc ((((s183.u_de (JA s183.r.de ((-1)))).r.bc)-1)%65536)).r.bc) (((s183.u_de (JA s183.r.de ((-1)))).u_bc ((((s183.u_de (JA s183.r.de ((-1)))).r.bc)-1)%65536)).f))=true:=by simpa using h209
       exact have hr:=hr.trans (JX (⟨g207,g209⟩));coR<|zR 1 hn<|zY (Jo 5 hn.at_) hn hr<|fun s211 z211 w211 hn hr=>wT<|have b213:=hn.at_.ms.r.pc;zQs hn (.u_pc _ ((s211.r.pc-2)%65536)) (hn.at_.ms.u_pc (Wd16.mod _))<|fun w214 hn=>zQ hn<|coJ (decide (zA < 2)) (fun h216=>absurd h216 (by first|(simp;omega)|simp[*]))<|fun h216=>have hr:=hr.trans (JX (by simp[g209,g207,g175,g4]));have b217:=hn.at_.ms.r.pc;coZ<|zFs hn ((s211.u_pc ((s211.r.pc-2)%65536)).u_wz ((((s211.u_pc ((s211.r.pc-2)%65536)).r.pc)+1)%65536)) (hn.at_.ms.u_wz (Wd16.mod _))<|fun w218 hn=>eoV (OutY.ok (dZ hr) hn)
     have g209:¬Ji zA (moveF (((s183.u_de (JA s183.r.de ((-1)))).u_bc ((((s183.u_de (JA s183.r.de ((-1)))).r.bc)-1)%65536)).a) v178 (((s183.u_de (JA s183.r.de ((-1)))).u_bc ((((s183.u_de (JA s183.r.de ((-1)))).r.bc)-1)%65536)).r.bc) (((s183.u_de (JA s183.r.de ((-1)))).u_bc ((((s183.u_de (JA s183.r.de ((-1)))).r.bc)-1)%65536)).f))=true:=by simpa using h209
     exact have hr:=hr.trans (JP (fun h=>g209 h.2));JC<|eoV (OutY.ok (dZ hr) hn)
   have g207:¬5 < y:=by simpa using h207
   exact tell 244 h207<|zE hn<|coF<|have hr:=hr.trans (JP (fun h=>g207 h.1));JC<|eoV (OutY.ok (dZ hr) hn)
 refine zQ hn<|zIf hr (fun g220 hr=>?_) fun g220 hr=>?_
 · refine have b222:=hn.at_.ms.r.hl;coR<|zR 6 hn<|zX (Xb s.r.hl (b222) hn.at_) hn hr<|fun v223 s223 z223 w223 hk223 hn hr=>zE hn<|coR<|zR 1 hn<|zY (Jo 5 hn.at_) hn hr<|fun s225 z225 w225 hn hr=>wT<|have b227:=hn.at_.ms.r.wz;coR<|zR 7 hn<|kE (QN s225.r.wz ((-1)) (b227) _)<|zEs hn (.u_wz _ (JA s225.r.wz ((-1)))) (hn.at_.ms.u_wz (Wd16.mod _))<|fun w229 hn=>have b231:=hn.at_.ms.r.bc;zQs hn ((s225.u_wz (JA s225.r.wz ((-1)))).u_bc ((((s225.u_wz (JA s225.r.wz ((-1)))).r.bc)-1)%65536)) (hn.at_.ms.u_bc (Wd16.mod _))<|fun w232 hn=>zP 11 hn<|fun w234 hn=>have b235:=hn.at_.ms.r.bc;have b236:=Js hn.at_.ms;zD [0,2,3,4,5,6,7,8] hn<|zDa 1 (w_a hn.at_) hn<|fun w237 hn=>have b238:=QP hn.at_.ms;zDa 9 (w_f hn.at_) hn<|fun w239 hn=>zDb 10 (QFx (((s225.u_wz (JA s225.r.wz ((-1)))).u_bc ((((s225.u_wz (JA s225.r.wz ((-1)))).r.bc)-1)%65536)).a) v223 (((s225.u_wz (JA s225.r.wz ((-1)))).u_bc ((((s225.u_wz (JA s225.r.wz ((-1)))).r.bc)-1)%65536)).r.bc) (((s225.u_wz (JA s225.r.wz ((-1)))).u_bc ((((s225.u_wz (JA s225.r.wz ((-1)))).r.bc)-1)%65536)).f) (b236) (hk223) (b238) (b235).1 (b235).2 _) hn<|fun w240 hn=>poE<|zE hn<|have b241:=hn.at_.ms.r.hl;coZ<|zR 7 hn<|kE (QN (((s225.u_wz (JA s225.r.wz ((-1)))).u_bc ((((s225.u_wz (JA s225.r.wz ((-1)))).r.bc)-1)%65536)).r.hl) ((-1)) (b241) _)<|zFs hn (((s225.u_wz (JA s225.r.wz ((-1)))).u_bc ((((s225.u_wz (JA s225.r.wz ((-1)))).r.bc)-1)%65536)).u_hl (JA (((s225.u_wz (JA s225.r.wz ((-1)))).u_bc ((((s225.u_wz (JA s225.r.wz ((-1)))).r.bc)-1)%65536)).r.hl) ((-1)))) (hn.at_.ms.u_hl (Wd16.mod _))<|fun w243 hn=>eoB<|eoT<|have b245:=Js hn.at_.ms;coR<|zR 2 hn<|zAA (w_a hn.at_) hn<|fun w246 hn=>zR 1 hn<|zAA (QU ((((s225.u_wz (JA s225.r.wz ((-1)))).u_bc ((((s225.u_wz (JA s225.r.wz ((-1)))).r.bc)-1)%65536)).u_hl (JA (((s225.u_wz (JA s225.r.wz ((-1)))).u_bc ((((s225.u_wz (JA s225.r.wz ((-1)))).r.bc)-1)%65536)).r.hl) ((-1)))).a) (b245) (Zu (((s225.u_wz (JA s225.r.wz ((-1)))).u_bc ((((s225.u_wz (JA s225.r.wz ((-1)))).r.bc)-1)%65536)).a) v223 (((s225.u_wz (JA s225.r.wz ((-1)))).u_bc ((((s225.u_wz (JA s225.r.wz ((-1)))).r.bc)-1)%65536)).r.bc) (((s225.u_wz (JA s225.r.wz ((-1)))).u_bc ((((s225.u_wz (JA s225.r.wz ((-1)))).r.bc)-1)%65536)).f)) (jY _ _ _ _) hn.at_) hn<|fun w247 hn=>wT<|coR<|zR 3 hn ?_
   rcases Bool.eq_false_or_eq_true (decide (5 < y)) with h249|h249
   · have g249:5 < y:=by simpa using h249
     refine tell 244 h249<|zR 2 hn<|zBB (ZC zA (Zu (((s225.u_wz (JA s225.r.wz ((-1)))).u_bc ((((s225.u_wz (JA s225.r.wz ((-1)))).r.bc)-1)%65536)).a) v223 (((s225.u_wz (JA s225.r.wz ((-1)))).u_bc ((((s225.u_wz (JA s225.r.wz ((-1)))).r.bc)-1)%65536)).r.bc) (((s225.u_wz (JA s225.r.wz ((-1)))).u_bc ((((s225.u_wz (JA s225.r.wz ((-1)))).r.bc)-1)%65536)).f)) (jY _ _ _ _) _) hn<|fun w250 hn=>zE hn<|coI (Ji zA (Zu (((s225.u_wz (JA s225.r.wz ((-1)))).u_bc ((((s225.u_wz (JA s225.r.wz ((-1)))).r.bc)-1)%65536)).a) v223 (((s225.u_wz (JA s225.r.wz ((-1)))).u_bc ((((s225.u_wz (JA s225.r.wz ((-1)))).r.bc)-1)%65536)).r.bc) (((s225.u_wz (JA s225.r.wz ((-1)))).u_bc ((((s225.u_wz (JA s225.r.wz ((-1)))).r.bc)-1)%65536)).f))) (fun h251=>?_) fun h251=>?_
     · have g251:Ji zA (Zu (((s225.u_wz (JA s225.r.wz ((-1)))).u_bc ((((s225.u_wz (JA s225.r.wz ((-1)))).r.bc)-1)%65536)).a) v223 (((s225.u_wz (JA s225.r.wz ((-1)))).u_bc ((((s225.u_wz (JA s225.r.wz ((-1)))).r.bc)-1)%65536)).r.bc) (((s225.u_wz (JA s225.r.wz ((-1)))).u_bc ((((s225.u_wz (JA s225.r.wz ((-1)))).r.bc)-1)%65536)).f))=true:=by simpa using h251
       exact have hr:=hr.trans (JX (⟨g249,g251⟩));coR<|zR 1 hn<|zY (Jo 5 hn.at_) hn hr<|fun s253 z253 w253 hn hr=>wT<|have b255:=hn.at_.ms.r.pc;zQs hn (.u_pc _ ((s253.r.pc-2)%65536)) (hn.at_.ms.u_pc (Wd16.mod _))<|fun w256 hn=>zQ hn<|coJ (decide (zA < 2)) (fun h258=>absurd h258 (by first|(simp;omega)|simp[*]))<|fun h258=>have hr:=hr.trans (JX (by simp[g251,g249,g220,g175,g4]));have b259:=hn.at_.ms.r.pc;coZ<|zFs hn ((s253.u_pc ((s253.r.pc-2)%65536)).u_wz ((((s253.u_pc ((s253.r.pc-2)%65536)).r.pc)+1)%65536)) (hn.at_.ms.u_wz (Wd16.mod _))<|fun w260 hn=>eoV (OutY.ok (dZ hr) hn)
     have g251:¬Ji zA (Zu (((s225.u_wz (JA s225.r.wz ((-1)))).u_bc ((((s225.u_wz (JA s225.r.wz ((-1)))).r.bc)-1)%65536)).a) v223 (((s225.u_wz (JA s225.r.wz ((-1)))).u_bc ((((s225.u_wz (JA s225.r.wz ((-1)))).r.bc)-1)%65536)).r.bc) (((s225.u_wz (JA s225.r.wz ((-1)))).u_bc ((((s225.u_wz (JA s225.r.wz ((-1)))).r.bc)-1)%65536)).f))=true:=by simpa using h251
     exact have hr:=hr.trans (JP (fun h=>g251 h.2));JC<|eoV (OutY.ok (dZ hr) hn)
   have g249:¬5 < y:=by simpa using h249
   exact tell 244 h249<|zE hn<|coF<|have hr:=hr.trans (JP (fun h=>g249 h.1));JC<|eoV (OutY.ok (dZ hr) hn)
 refine zQ hn<|zIf hr (fun g262 hr=>?_) fun g262 hr=>?_
 · refine coR<|zR 1 hn<|zY (Jo 1 hn.at_) hn hr<|fun s264 z264 w264 hn hr=>wT<|have b266:=hn.at_.ms.r.bc;coR<|zR 6 hn<|zX (Xw 4 s264.r.bc (b266) 0 (⟨by decide,by decide⟩) 4 hn.at_) hn hr<|fun v267 s267 z267 w267 hk267 hn hr=>zE hn<|have b269:=hn.at_.ms.r.bc;coR<|zR 7 hn<|kE (QN s267.r.bc ((-1)) (b269) _)<|zEs hn (.u_wz _ (JA s267.r.bc ((-1)))) (hn.at_.ms.u_wz (Wd16.mod _))<|fun w271 hn=>coR<|zR 1 hn<|zAA (QFN hn.at_) hn<|fun w273 hn=>zE hn<|have b275:=hn.at_.ms.r.hl;coR<|zR 7 hn<|zY (Q3 (((s267.u_wz (JA s267.r.bc ((-1)))).less).r.hl) (b275) v267 (hk267) hn.at_) hn hr<|fun s276 z276 w276 hn hr=>wT<|have b278:=hn.at_.ms.r.hl;coR<|zR 7 hn<|kE (QN s276.r.hl ((-1)) (b278) _)<|zEs hn (.u_hl _ (JA s276.r.hl ((-1)))) (hn.at_.ms.u_hl (Wd16.mod _))<|fun w280 hn=>have b281:=hn.at_.ms.r.bc;coZ<|zR 6 hn<|kE (Q4 ((s276.u_hl (JA s276.r.hl ((-1)))).r.bc) (b281).1 (b281).2 _)<|zR 2 hn<|zBB (QGa v267 (((s276.u_hl (JA s276.r.hl ((-1)))).r.bc)%256) ((s267.u_wz (JA s267.r.bc ((-1)))).left) ((-1)) (hk267) ((b281).lo8) (B8.mod _) _) hn<|fun w283 hn=>zF hn<|eoB<|eoT<|have b285:=Js hn.at_.ms;coR<|zR 2 hn<|zAA (w_a hn.at_) hn<|fun w286 hn=>zR 1 hn<|zAA (QU ((s276.u_hl (JA s276.r.hl ((-1)))).a) (b285) (Qs v267 (v267+byC (((s276.u_hl (JA s276.r.hl ((-1)))).r.bc)%256) ((-1))) ((s267.u_wz (JA s267.r.bc ((-1)))).left)) (XE _ _ _) hn.at_) hn<|fun w287 hn=>wT<|coR<|zR 3 hn ?_
   rcases Bool.eq_false_or_eq_true (decide (5 < y)) with h289|h289
   · have g289:5 < y:=by simpa using h289
     refine tell 244 h289<|zR 2 hn<|zBB (ZC zA (Qs v267 (v267+byC (((s276.u_hl (JA s276.r.hl ((-1)))).r.bc)%256) ((-1))) ((s267.u_wz (JA s267.r.bc ((-1)))).left)) (XE _ _ _) _) hn<|fun w290 hn=>zE hn<|coI (Ji zA (Qs v267 (v267+byC (((s276.u_hl (JA s276.r.hl ((-1)))).r.bc)%256) ((-1))) ((s267.u_wz (JA s267.r.bc ((-1)))).left))) (fun h291=>?_) fun h291=>?_
     · have g291:Ji zA (Qs v267 (v267+byC (((s276.u_hl (JA s276.r.hl ((-1)))).r.bc)%256) ((-1))) ((s267.u_wz (JA s267.r.bc ((-1)))).left))=true:=by simpa using h291
       exact have hr:=hr.trans (JX (⟨g289,g291⟩));coR<|zR 1 hn<|zY (Jo 5 hn.at_) hn hr<|fun s293 z293 w293 hn hr=>wT<|have b295:=hn.at_.ms.r.pc;zQs hn (.u_pc _ ((s293.r.pc-2)%65536)) (hn.at_.ms.u_pc (Wd16.mod _))<|fun w296 hn=>zQ hn<|coK (decide (zA < 2)) (fun h298=>absurd h298 (by first|(simp;omega)|simp[*]))<|fun h298=>have hr:=hr.trans (JP (by simp[g291,g289,g262,g220,g175,g4]));JC<|eoV (OutY.ok (dZ hr) hn)
     have g291:¬Ji zA (Qs v267 (v267+byC (((s276.u_hl (JA s276.r.hl ((-1)))).r.bc)%256) ((-1))) ((s267.u_wz (JA s267.r.bc ((-1)))).left))=true:=by simpa using h291
     exact have hr:=hr.trans (JP (fun h=>g291 h.2));JC<|eoV (OutY.ok (dZ hr) hn)
   have g289:¬5 < y:=by simpa using h289
   exact tell 244 h289<|zE hn<|coF<|have hr:=hr.trans (JP (fun h=>g289 h.1));JC<|eoV (OutY.ok (dZ hr) hn)
 refine coR<|zR 1 hn<|zY (Jo 1 hn.at_) hn hr<|fun s300 z300 w300 hn hr=>wT<|have b302:=hn.at_.ms.r.hl;coR<|zR 6 hn<|zX (Xb s300.r.hl (b302) hn.at_) hn hr<|fun v303 s303 z303 w303 hk303 hn hr=>zE hn<|coR<|zR 1 hn<|zAA (QFN hn.at_) hn<|fun w305 hn=>zE hn<|have b307:=hn.at_.ms.r.bc;coR<|zR 7 hn<|kE (QN s303.less.r.bc ((-1)) (b307) _)<|zEs hn (.u_wz _ (JA s303.less.r.bc ((-1)))) (hn.at_.ms.u_wz (Wd16.mod _))<|fun w309 hn=>have b311:=hn.at_.ms.r.bc;coR<|zR 7 hn<|zX (Xw 5 ((s303.less.u_wz (JA s303.less.r.bc ((-1)))).r.bc) (b311) v303 (hk303) 4 hn.at_) hn hr<|fun v312 s312 z312 w312 hk312 hn hr=>wT<|have b314:=hn.at_.ms.r.hl;coR<|zR 7 hn<|kE (QN s312.r.hl ((-1)) (b314) _)<|zEs hn (.u_hl _ (JA s312.r.hl ((-1)))) (hn.at_.ms.u_hl (Wd16.mod _))<|fun w316 hn=>have b317:=hn.at_.ms.r.hl;coZ<|zR 6 hn<|kE (Q4 ((s312.u_hl (JA s312.r.hl ((-1)))).r.hl) (b317).1 (b317).2 _)<|zR 1 hn<|zBB (QGW v303 (((s312.u_hl (JA s312.r.hl ((-1)))).r.hl)%256) s303.left (hk303) ((b317).lo8) (B8.mod _) _) hn<|fun w319 hn=>zF hn<|eoB<|eoT<|have b321:=Js hn.at_.ms;coR<|zR 2 hn<|zAA (w_a hn.at_) hn<|fun w322 hn=>zR 1 hn<|zAA (QU ((s312.u_hl (JA s312.r.hl ((-1)))).a) (b321) (Qs v303 (v303+(((s312.u_hl (JA s312.r.hl ((-1)))).r.hl)%256)) s303.left) (XE _ _ _) hn.at_) hn<|fun w323 hn=>wT<|coR<|zR 3 hn ?_
 rcases Bool.eq_false_or_eq_true (decide (5 < y)) with h325|h325
 · have g325:5 < y:=by simpa using h325
   refine tell 244 h325<|zR 2 hn<|zBB (ZC zA (Qs v303 (v303+(((s312.u_hl (JA s312.r.hl ((-1)))).r.hl)%256)) s303.left) (XE _ _ _) _) hn<|fun w326 hn=>zE hn<|coI (Ji zA (Qs v303 (v303+(((s312.u_hl (JA s312.r.hl ((-1)))).r.hl)%256)) s303.left)) (fun h327=>?_) fun h327=>?_
   · have g327:Ji zA (Qs v303 (v303+(((s312.u_hl (JA s312.r.hl ((-1)))).r.hl)%256)) s303.left)=true:=by simpa using h327
     refine have hr:=hr.trans (JX (⟨g325,g327⟩));coR<|zR 1 hn<|zY (Jo 5 hn.at_) hn hr<|fun s329 z329 w329 hn hr=>wT<|have b331:=hn.at_.ms.r.pc;zQs hn (.u_pc _ ((s329.r.pc-2)%65536)) (hn.at_.ms.u_pc (Wd16.mod _))<|fun w332 hn=>zQ hn<|zIf hr (fun g334 hr=>?_) fun g334 hr=>?_
     · exact have b335:=hn.at_.ms.r.pc;coZ<|zFs hn ((s329.u_pc ((s329.r.pc-2)%65536)).u_wz ((((s329.u_pc ((s329.r.pc-2)%65536)).r.pc)+1)%65536)) (hn.at_.ms.u_wz (Wd16.mod _))<|fun w336 hn=>eoV (OutY.ok (dZ hr) hn)
     exact JC<|eoV (OutY.ok (dZ hr) hn)
   have g327:¬Ji zA (Qs v303 (v303+(((s312.u_hl (JA s312.r.hl ((-1)))).r.hl)%256)) s303.left)=true:=by simpa using h327
   exact have hr:=hr.trans (JP (fun h=>g327 h.2));JC<|eoV (OutY.ok (dZ hr) hn)
 have g325:¬5 < y:=by simpa using h325
 exact tell 244 h325<|zE hn<|coF<|have hr:=hr.trans (JP (fun h=>g325 h.1));JC<|eoV (OutY.ok (dZ hr) hn)
theorem w_ed (c:Int)(hAc:B8 c){s:Ws} {xs:List Int} {z:Zs} {w:World} {p B:Nat}(h:AtW w p B s xs z) :
 Calls Tryz.prog 82 #[pT p 0,.int .u8 (c)] w (OutY w p B xs ((edW c s).runZ xs z)):=by
 have hn:=NowW.begin h
 have hr:(edW c s).runZ xs z=(edW c s).runZ xs z:=rfl
 go_enter Tryz.func82,Tryz.ntmps82
 refine wp_seq_k fun K1 hK1=>JD<|oM 14 (.int .u8 (c))<|oC (.tuple #[.int .i64 (fx c),.int .i64 (fy c),.int .i64 (fz c),.int .i64 (fp c),.int .i64 (fq c)]) (qk c (hAc) _) ?_
 rintro _ rfl
 refine oM 13 (.tuple #[.int .i64 (fx c),.int .i64 (fy c),.int .i64 (fz c),.int .i64 (fp c),.int .i64 (fq c)])<|oX 16 #[.int .i64 (fx c),.int .i64 (fy c),.int .i64 (fz c),.int .i64 (fp c),.int .i64 (fq c)] (.int .i64 (fx c))<|oX 17 #[.int .i64 (fx c),.int .i64 (fy c),.int .i64 (fz c),.int .i64 (fp c),.int .i64 (fq c)] (.int .i64 (fy c))<|oX 18 #[.int .i64 (fx c),.int .i64 (fy c),.int .i64 (fz c),.int .i64 (fp c),.int .i64 (fq c)] (.int .i64 (fz c))<|oX 19 #[.int .i64 (fx c),.int .i64 (fy c),.int .i64 (fz c),.int .i64 (fp c),.int .i64 (fq c)] (.int .i64 (fp c))<|oX 20 #[.int .i64 (fx c),.int .i64 (fy c),.int .i64 (fz c),.int .i64 (fp c),.int .i64 (fq c)] (.int .i64 (fq c))<|oA 4 (.int .i64 (fx c))<|oA 5 (.int .i64 (fy c))<|oA 6 (.int .i64 (fz c))<|oA 7 (.int .i64 (fp c))<|oA 8 (.int .i64 (fq c)) ?_
 refine JS ?_
 try simp only[Act.put,sA,sB,sC]
 refine JM<|hK1 _ _<|wp_seq_k fun K3 hK3=>wp_seq_k fun K4 hK4=>JD<|oM 21 (.int .i64 (fx c))<|oB 22 (egI _ _ _ _ _) (ZP (fx c) 2)<|oM 23 (.bool ((fx c)==2)) ?_
 rcases Bool.eq_false_or_eq_true ((fx c)==2) with h5|h5
 · have g5:(fx c)=2:=by simpa using h5
   rewrite [h5]
   refine oY 24 (.int .i64 (fz c))<|oT 25 (.bool (decide ((fz c) < 4))) (QDC (V:=.int .i64 (fz c)) (W:=.int .i64 (4)) (R:=.bool (decide ((fz c) < 4))) rfl (by kernel_rfl) (by kernel_rfl) (egI _ _ _ _ _) (bLtI (fz c) 4) _)<|oP 26 (.bool (decide ((fz c) < 4))) true<|oM 27 (.bool (decide ((fz c) < 4))) ?_
   rcases Bool.eq_false_or_eq_true (decide ((fz c) < 4)) with h6|h6
   · have g6:(fz c) < 4:=by simpa using h6
     rewrite [h6]
     refine oY 28 (.int .i64 (fy c))<|oT 29 (.bool (decide (3 < (fy c)))) (QDC (V:=.int .i64 (fy c)) (W:=.int .i64 (3)) (R:=.bool (decide (3 < (fy c)))) rfl (by kernel_rfl) (by kernel_rfl) (egI _ _ _ _ _) (bGtI (fy c) 3) _)<|oP 30 (.bool (decide (3 < (fy c)))) true ?_
     refine JS ?_
     try simp only[Act.put,sA,sB,sC]
     refine JM<|hK4 _ _ ?_
     refine wp_cond_split (t:=decide (3 < (fy c))) (by kernel_rfl) (fun h7=>?_) (fun h7=>?_)
     · have g7:3 < (fy c):=by simpa using h7
       have hr:=hr.trans (JX (by simp[g7,g6,g5]))
       refine JB<|coZ<|zR 3 hn<|zYt (QQM (fy c) (QFJ c (hAc)) (fz c) hn.at_) hn hr<|fun s8 z8 w8 hn hr=>woE<|QTF hK3<|coS<|zQ hn<|coJ ((fx c) != 1) (fun h11=>absurd h11 (by first|(simp;omega)|simp[*]))<|fun h11=>?_
       first|have hr:=pZ hr|have hr:=qZ hr|have hr:=pbZ hr|have hr:=qbZ hr|skip
       exact JF<|Jp<|qx (OutY.ok hr hn)
     · have g7:¬3 < (fy c):=by simpa using h7
       have hr:=hr.trans (JP (by simp[g7,g6,g5]))
       exact JB<|JC<|QTF hK3<|coS<|zQ hn<|coJ ((fx c) != 1) (fun h14=>absurd h14 (by first|(simp;omega)|simp[*]))<|fun h14=>have hr:=hr.trans (JX (by simp[g7,g6,g5]));JF<|Jp<|qx (OutY.ok (dZ hr) hn)
   · have g6:¬(fz c) < 4:=by simpa using h6
     rewrite [h6]
     refine oZ 28<|oZ 29<|oP 30 (.bool (false)) false ?_
     refine JS ?_
     try simp only[Act.put,sA,sB,sC]
     refine JM<|hK4 _ _ ?_
     refine wp_cond_false (by kernel_rfl) ?_
     have hr:=hr.trans (JP (by simp[g6,g5]))
     refine wp_skip ?_
     refine JM<|hK3 _ _<|wp_seq_k fun K15 hK15=>wp_seq_k fun K16 hK16=>JD<|oM 35 (.int .i64 (fx c))<|oB 36 (egI _ _ _ _ _) (QPq (fx c) 1) ?_
     refine JS ?_
     try simp only[Act.put,sA,sB,sC]
     refine JM<|hK16 _ _ ?_
     refine wp_cond_split (t:=(fx c) != 1) (by kernel_rfl) (fun h17=>?_) (fun h17=>?_)
     rotate_left
     · exact JB<|absurd h17 (by first|(simp;omega)|simp[*])
     have hr:=hr.trans (JX (by simp[g6,g5]))
     refine wp_ret ?_
     refine QLY ?_
     refine retV rfl rfl ?_
     exact OutY.ok (hr.trans (QDB _ _ _)) hn
 · have g5:¬(fx c)=2:=by simpa using h5
   rewrite [h5]
   refine oZ 24<|oZ 25<|oP 26 (.bool (false)) false<|oM 27 (.bool (false))<|oZ 28<|oZ 29<|oP 30 (.bool (false)) false ?_
   refine JS ?_
   try simp only[Act.put,sA,sB,sC]
   refine JM<|hK4 _ _ ?_
   refine wp_cond_false (by kernel_rfl) ?_
   have hr:=hr.trans (JP (fun h=>g5 h.1))
   refine wp_skip ?_
   refine JM<|hK3 _ _<|wp_seq_k fun K18 hK18=>wp_seq_k fun K19 hK19=>JD<|oM 35 (.int .i64 (fx c))<|oB 36 (egI _ _ _ _ _) (QPq (fx c) 1) ?_
   refine JS ?_
   try simp only[Act.put,sA,sB,sC]
   refine JM<|hK19 _ _ ?_
   refine wp_cond_split (t:=(fx c) != 1) (by kernel_rfl) (fun h20=>?_) (fun h20=>?_)
   · have g20:¬(fx c)=1:=by simpa using h20
     have hr:=hr.trans (JX g20)
     exact JB<|JF<|Jp<|qx (OutY.ok (dZ hr) hn)
   · have g20:(fx c)=1:=by simpa using h20
     have hr:=hr.trans (JP (by simp[g20,g5]))
     refine wp_skip ?_
     refine JM<|hK18 _ _<|wp_seq_k fun K21 hK21=>JD<|oM 37 (.int .i64 (fz c)) ?_
     refine JS ?_
     try simp only[Act.put,sA,sB,sC]
     refine JM<|hK21 _ _ ?_
     refine wp_block ?_
     refine wp_seq_k fun K22 hK22=>JD<|oB 42 (egI _ _ _ _ _) (ZP (fz c) 0)<|oA 41 (.bool ((fz c)==0)) ?_
     refine JS ?_
     try simp only[Act.put,sA,sB,sC]
     refine JM<|hK22 _ _ ?_
     refine wp_cond_split (t:=(fz c)==0) (by kernel_rfl) (fun h23=>?_) (fun h23=>?_)
     · have g23:(fz c)=0:=by simpa using h23
       have hr:=hr.trans (JX g23)
       refine JB<|have b25:=hn.at_.ms.r.bc;coR<|zR 6 hn<|zX (Xw 4 s.r.bc (b25) 0 (⟨by decide,by decide⟩) 4 hn.at_) hn hr<|fun v26 s26 z26 w26 hk26 hn hr=>zE hn<|have b28:=hn.at_.ms.r.bc;zQs hn (.u_wz _ ((s26.r.bc+1)%65536)) (hn.at_.ms.u_wz (Wd16.mod _))<|fun w29 hn=>have b31:=Js hn.at_.ms;coR<|zR 2 hn<|zAA (w_a hn.at_) hn<|fun w32 hn=>zR 1 hn<|zBB (X3 v26 (hk26).1 (hk26).2 _) hn<|fun w33 hn=>zR 1 hn<|zAA (QDp hn.at_) hn<|fun w34 hn=>kE (QL (Jn v26) 0 (isM (s26.u_wz ((s26.r.bc+1)%65536)).f 0) (Jz _).1 (Jz _).2 _)<|zAA (QU ((s26.u_wz ((s26.r.bc+1)%65536)).a) (b31) (JQ (Jn v26) 0 (isM (s26.u_wz ((s26.r.bc+1)%65536)).f 0)) (B8.with (Jz _) _ _) hn.at_) hn<|fun w36 hn=>wT<|zQ hn<|coI ((fy c) != 6) (fun h38=>?_) fun h38=>?_
       · have g38:¬(fy c)=6:=by simpa using h38
         exact have hr:=hr.trans (JP g38);coZ<|zR 3 hn<|zYt (Xy (fy c) v26 (hk26) hn.at_) hn hr<|fun s39 z39 w39 hn hr=>woE<|eoB<|eoV (OutY.ok hr hn)
       have g38:(fy c)=6:=by simpa using h38
       exact have hr:=hr.trans (JX g38);JC<|eoB<|eoV (OutY.ok (dZ hr) hn)
     · have g23:¬(fz c)=0:=by simpa using h23
       have hr:=hr.trans (JP g23)
       refine wp_seq_k fun K40 hK40=>JD<|oB 76 (egI _ _ _ _ _) (ZP (fz c) 1)<|oA 75 (.bool ((fz c)==1)) ?_
       refine JS ?_
       try simp only[Act.put,sA,sB,sC]
       refine JM<|hK40 _ _ ?_
       refine wp_cond_split (t:=(fz c)==1) (by kernel_rfl) (fun h41=>?_) (fun h41=>?_)
       · have g41:(fz c)=1:=by simpa using h41
         have hr:=hr.trans (JX g41)
         refine JB<|zQ hn<|coS<|zQ hn<|coI ((fy c) != 6) (fun h45=>?_) fun h45=>?_
         · have g45:¬(fy c)=6:=by simpa using h45
           exact have hr:=hr.trans (JP g45);coZ<|zR 2 hn<|zX (QFU (fy c) hn.at_) hn hr<|fun v46 s46 z46 w46 hk46 hn hr=>zE hn<|have b48:=hn.at_.ms.r.bc;coR<|zR 7 hn<|zX (Xw 5 s46.r.bc (b48) v46 (hk46) 4 hn.at_) hn hr<|fun v49 s49 z49 w49 hk49 hn hr=>wT<|have b50:=hn.at_.ms.r.bc;coZ<|zFs hn (.u_wz _ ((s49.r.bc+1)%65536)) (hn.at_.ms.u_wz (Wd16.mod _))<|fun w51 hn=>eoB<|eoV (OutY.ok (dZ hr) hn)
         have g45:(fy c)=6:=by simpa using h45
         exact have hr:=hr.trans (JX g45);JC<|eoT<|have b53:=hn.at_.ms.r.bc;coR<|zR 7 hn<|zX (Xw 5 s.r.bc (b53) 0 (⟨by decide,by decide⟩) 4 hn.at_) hn hr<|fun v54 s54 z54 w54 hk54 hn hr=>wT<|have b55:=hn.at_.ms.r.bc;coZ<|zFs hn (.u_wz _ ((s54.r.bc+1)%65536)) (hn.at_.ms.u_wz (Wd16.mod _))<|fun w56 hn=>eoB<|eoV (OutY.ok (dZ hr) hn)
       · have g41:¬(fz c)=1:=by simpa using h41
         have hr:=hr.trans (JP g41)
         refine wp_seq_k fun K57 hK57=>JD<|oB 101 (egI _ _ _ _ _) (ZP (fz c) 2)<|oA 100 (.bool ((fz c)==2)) ?_
         refine JS ?_
         try simp only[Act.put,sA,sB,sC]
         refine JM<|hK57 _ _ ?_
         refine wp_cond_split (t:=(fz c)==2) (by kernel_rfl) (fun h58=>?_) (fun h58=>?_)
         · have g58:(fz c)=2:=by simpa using h58
           have hr:=hr.trans (JX g58)
           refine JB<|coR<|zR 1 hn<|zY (Jo 7 hn.at_) hn hr<|fun s60 z60 w60 hn hr=>wT<|have b62:=hn.at_.ms.r.hl;zQs hn (.u_wz _ ((s60.r.hl+1)%65536)) (hn.at_.ms.u_wz (Wd16.mod _))<|fun w63 hn=>zP 18 hn<|fun w65 hn=>have b66:=hn.at_.ms.r.hl;have b67:=hn.at_.ms.r;zD [0,1,2,3,4,5,6,7,8,9,11] hn<|zDb 10 (Qo ((s60.u_wz ((s60.r.hl+1)%65536)).r) 0 (fp c) _) hn<|fun w68 hn=>have b69:=QP hn.at_.ms;zDa 12 (w_f hn.at_) hn<|fun w70 hn=>zDb 13 (QMl ((s60.u_wz ((s60.r.hl+1)%65536)).r.hl) (Jk ((s60.u_wz ((s60.r.hl+1)%65536)).r) 0 (fp c)) ((s60.u_wz ((s60.r.hl+1)%65536)).f) (b66) ((b67).pair _ _) (b69) _) hn<|fun w71 hn=>zD [14,15,16,17] hn<|poE<|zE hn<|coS<|zQ hn<|zIf hr (fun g74 hr=>?_) fun g74 hr=>?_
           · exact zPz 18 hn<|fun w75 hn=>have b76:=hn.at_.ms.r.hl;have b77:=hn.at_.ms.r;zD [0,1,2,3,4,5,6,7,8,9,11] hn<|zDb 10 (Qo ((s60.u_wz ((s60.r.hl+1)%65536)).r) 0 (fp c) _) hn<|fun w78 hn=>have b79:=QP hn.at_.ms;zDa 12 (w_f hn.at_) hn<|fun w80 hn=>zDb 13 (QM7 ((s60.u_wz ((s60.r.hl+1)%65536)).r.hl) (Jk ((s60.u_wz ((s60.r.hl+1)%65536)).r) 0 (fp c)) ((s60.u_wz ((s60.r.hl+1)%65536)).f) (b76) ((b77).pair _ _) (b79) _) hn<|fun w81 hn=>zD [14,15,16,17] hn<|poE<|zE hn<|zQs hn ((s60.u_wz ((s60.r.hl+1)%65536)).u_hl (X0 ((s60.u_wz ((s60.r.hl+1)%65536)).r.hl) (Jk ((s60.u_wz ((s60.r.hl+1)%65536)).r) 0 (fp c)) (isM ((s60.u_wz ((s60.r.hl+1)%65536)).f) 0))) (hn.at_.ms.u_hl (Wd16.mod _))<|fun w83 hn=>have b84:=Js hn.at_.ms;coZ<|zR 2 hn<|zAA (w_a hn.at_) hn<|fun w85 hn=>zR 1 hn<|zAA (QU (((s60.u_wz ((s60.r.hl+1)%65536)).u_hl (X0 ((s60.u_wz ((s60.r.hl+1)%65536)).r.hl) (Jk ((s60.u_wz ((s60.r.hl+1)%65536)).r) 0 (fp c)) (isM ((s60.u_wz ((s60.r.hl+1)%65536)).f) 0))).a) (b84) (zZ ((s60.u_wz ((s60.r.hl+1)%65536)).r.hl) (Jk ((s60.u_wz ((s60.r.hl+1)%65536)).r) 0 (fp c)) (isM ((s60.u_wz ((s60.r.hl+1)%65536)).f) 0)) (QCb _ _ _) hn.at_) hn<|fun w86 hn=>woE<|eoB<|eoV (OutY.ok (dZ hr) hn)
           exact JC<|eoT<|zQs hn ((s60.u_wz ((s60.r.hl+1)%65536)).u_hl (jr ((s60.u_wz ((s60.r.hl+1)%65536)).r.hl) (Jk ((s60.u_wz ((s60.r.hl+1)%65536)).r) 0 (fp c)) (isM ((s60.u_wz ((s60.r.hl+1)%65536)).f) 0))) (hn.at_.ms.u_hl (Wd16.mod _))<|fun w88 hn=>have b89:=Js hn.at_.ms;coZ<|zR 2 hn<|zAA (w_a hn.at_) hn<|fun w90 hn=>zR 1 hn<|zAA (QU (((s60.u_wz ((s60.r.hl+1)%65536)).u_hl (jr ((s60.u_wz ((s60.r.hl+1)%65536)).r.hl) (Jk ((s60.u_wz ((s60.r.hl+1)%65536)).r) 0 (fp c)) (isM ((s60.u_wz ((s60.r.hl+1)%65536)).f) 0))).a) (b89) (QAB ((s60.u_wz ((s60.r.hl+1)%65536)).r.hl) (Jk ((s60.u_wz ((s60.r.hl+1)%65536)).r) 0 (fp c)) (isM ((s60.u_wz ((s60.r.hl+1)%65536)).f) 0)) (QGH _ _ _) hn.at_) hn<|fun w91 hn=>woE<|eoB<|eoV (OutY.ok (dZ hr) hn)
         · have g58:¬(fz c)=2:=by simpa using h58
           have hr:=hr.trans (JP g58)
           refine wp_seq_k fun K92 hK92=>JD<|oB 161 (egI _ _ _ _ _) (ZP (fz c) 3)<|oA 160 (.bool ((fz c)==3)) ?_
           refine JS ?_
           try simp only[Act.put,sA,sB,sC]
           refine JM<|hK92 _ _ ?_
           refine wp_cond_split (t:=(fz c)==3) (by kernel_rfl) (fun h93=>?_) (fun h93=>?_)
           · have g93:(fz c)=3:=by simpa using h93
             have hr:=hr.trans (JX g93)
             exact JB<|coZ<|zR 3 hn<|zYt (QQa (fp c) (fq c) hn.at_) hn hr<|fun s94 z94 w94 hn hr=>woE<|eoB<|eoV (OutY.ok hr hn)
           · have g93:¬(fz c)=3:=by simpa using h93
             have hr:=hr.trans (JP g93)
             refine wp_seq_k fun K95 hK95=>JD<|oB 167 (egI _ _ _ _ _) (ZP (fz c) 4)<|oA 166 (.bool ((fz c)==4)) ?_
             refine JS ?_
             try simp only[Act.put,sA,sB,sC]
             refine JM<|hK95 _ _ ?_
             refine wp_cond_split (t:=(fz c)==4) (by kernel_rfl) (fun h96=>?_) (fun h96=>?_)
             · have g96:(fz c)=4:=by simpa using h96
               have hr:=hr.trans (JX g96)
               exact JB<|have b97:=Js hn.at_.ms;coZ<|zR 2 hn<|zAA (w_a hn.at_) hn<|fun w98 hn=>zBB (QNP s.a (b97) _) hn<|fun w99 hn=>zR 2 hn<|zAA (QU (QQ 0 s.a false) (J5 _ _ _) (QE 0 s.a false) (J9 _ _ _) hn.at_) hn<|fun w100 hn=>woE<|eoB<|eoV (OutY.ok (dZ hr) hn)
             · have g96:¬(fz c)=4:=by simpa using h96
               have hr:=hr.trans (JP g96)
               refine wp_seq_k fun K101 hK101=>JD<|oB 176 (egI _ _ _ _ _) (ZP (fz c) 5)<|oA 175 (.bool ((fz c)==5)) ?_
               refine JS ?_
               try simp only[Act.put,sA,sB,sC]
               refine JM<|hK101 _ _ ?_
               refine wp_cond_split (t:=(fz c)==5) (by kernel_rfl) (fun h102=>?_) (fun h102=>?_)
               · have g102:(fz c)=5:=by simpa using h102
                 have hr:=hr.trans (JX g102)
                 exact JB<|coR<|zR 1 hn<|zY (QJt hn.at_) hn hr<|fun s104 z104 w104 hn hr=>wT<|coZ<|zFs hn (.u_iff1 _ (s104.r.iff2)) (hn.at_.ms.u_iff1)<|fun w105 hn=>eoB<|eoV (OutY.ok (dZ hr) hn)
               · have g102:¬(fz c)=5:=by simpa using h102
                 have hr:=hr.trans (JP g102)
                 refine wp_seq_k fun K106 hK106=>JD<|oB 189 (egI _ _ _ _ _) (ZP (fz c) 6)<|oA 188 (.bool ((fz c)==6)) ?_
                 refine JS ?_
                 try simp only[Act.put,sA,sB,sC]
                 refine JM<|hK106 _ _ ?_
                 refine wp_cond_split (t:=(fz c)==6) (by kernel_rfl) (fun h107=>?_) (fun h107=>?_)
                 · have g107:(fz c)=6:=by simpa using h107
                   have hr:=hr.trans (JX g107)
                   refine JD<|oM 190 (pT p 0) ?_
                   refine QTm 191 hn rfl rfl rfl ?_
                   intro w108 M hM hn
                   refine oM 192 (.int .i64 (fy c)) ?_
                   rcases mod4 (fy c) with g109|g109|g109|g109
                   · refine oB 193 (egI _ _ _ _ _) (QDM ((QFJ c (hAc)).1) g109) ?_
                     have hr:=hr.trans (JP (by simp[g109,g107,g102,g96,g93,g58,g41,g23,g20,g5]))
                     have hr:=hr.trans (JP (by simp[g109,g107,g102,g96,g93,g58,g41,g23,g20,g5]))
                     refine oI 194 (.slice (some ⟨M,0,none⟩) 4 4) (.int .i64 (0)) (pT M 0) (QTM M _)<|oL 195 (ldI (hM.cell 0))<|oN 196 p 0<|oF 197 (fW0 p)<|oF 198 (QHw p) ?_
                     refine QAA hn 19 (.int .i64 (0)) (s.u_mode (0)) rfl rfl rfl (by kernel_rfl) (by kernel_rfl) (stI (hn.at_.cell 19 _ fun _ _ _=>rfl) (hn.at_.frozen 19)) (QDr _ _ _) (hn.at_.ms.u_mode (⟨by decide,by decide⟩)) ?_
                     intro w110 hn
                     refine JS ?_
                     try simp only[Act.put,sA,sB,sC]
                     refine Qt ?_
                     refine X8 rfl rfl ?_
                     exact OutY.ok (hr.trans (QDB _ _ _)) hn
                   · refine oB 193 (egI _ _ _ _ _) (QDM ((QFJ c (hAc)).1) g109) ?_
                     have hr:=hr.trans (JP (by simp[g109,g107,g102,g96,g93,g58,g41,g23,g20,g5]))
                     have hr:=hr.trans (JP (by simp[g109,g107,g102,g96,g93,g58,g41,g23,g20,g5]))
                     refine oI 194 (.slice (some ⟨M,0,none⟩) 4 4) (.int .i64 (1)) (pT M 1) (QSq M _)<|oL 195 (ldI (hM.cell 1))<|oN 196 p 0<|oF 197 (fW0 p)<|oF 198 (QHw p) ?_
                     refine QAA hn 19 (.int .i64 (0)) (s.u_mode (0)) rfl rfl rfl (by kernel_rfl) (by kernel_rfl) (stI (hn.at_.cell 19 _ fun _ _ _=>rfl) (hn.at_.frozen 19)) (QDr _ _ _) (hn.at_.ms.u_mode (⟨by decide,by decide⟩)) ?_
                     intro w111 hn
                     refine JS ?_
                     try simp only[Act.put,sA,sB,sC]
                     refine Qt ?_
                     refine X8 rfl rfl ?_
                     exact OutY.ok (hr.trans (QDB _ _ _)) hn
                   · refine oB 193 (egI _ _ _ _ _) (QDM ((QFJ c (hAc)).1) g109) ?_
                     have hr:=hr.trans (JX g109)
                     first|(have hr:=hr.trans (JX (by first|exact g109|exact g107|exact g102|exact .inl g109|exact .inr g109|exact fun h=>g109 h.2|exact fun h=>g109 h.1|exact⟨g107,g109⟩|exact not_or.2 ⟨g107,g109⟩|(simp[g109,g107,g102,g96,g93,g58,g41,g23,g20,g5];done)|omega)))|(have hr:=hr.trans (JP (by first|exact g109|exact g107|exact g102|exact .inl g109|exact .inr g109|exact fun h=>g109 h.2|exact fun h=>g109 h.1|exact⟨g107,g109⟩|exact not_or.2 ⟨g107,g109⟩|(simp[g109,g107,g102,g96,g93,g58,g41,g23,g20,g5];done)|omega)))|(have hr:=hr.trans (zG (by first|exact g109|exact g107|exact g102|exact .inl g109|exact .inr g109|exact fun h=>g109 h.2|exact fun h=>g109 h.1|exact⟨g107,g109⟩|exact not_or.2 ⟨g107,g109⟩|(simp[g109,g107,g102,g96,g93,g58,g41,g23,g20,g5];done)|omega)))|(have hr:=hr.trans (q9 (by first|exact g109|exact g107|exact g102|exact .inl g109|exact .inr g109|exact fun h=>g109 h.2|exact fun h=>g109 h.1|exact⟨g107,g109⟩|exact not_or.2 ⟨g107,g109⟩|(simp[g109,g107,g102,g96,g93,g58,g41,g23,g20,g5];done)|omega)))|skip
                     refine oI 194 (.slice (some ⟨M,0,none⟩) 4 4) (.int .i64 (2)) (pT M 2) (QSo M _)<|oL 195 (ldI (hM.cell 2))<|oN 196 p 0<|oF 197 (fW0 p)<|oF 198 (QHw p) ?_
                     refine QAA hn 19 (.int .i64 (1)) (s.u_mode (1)) rfl rfl rfl (by kernel_rfl) (by kernel_rfl) (stI (hn.at_.cell 19 _ fun _ _ _=>rfl) (hn.at_.frozen 19)) (QDr _ _ _) (hn.at_.ms.u_mode (⟨by decide,by decide⟩)) ?_
                     intro w112 hn
                     refine JS ?_
                     try simp only[Act.put,sA,sB,sC]
                     refine Qt ?_
                     refine X8 rfl rfl ?_
                     exact OutY.ok (hr.trans (QDB _ _ _)) hn
                   · refine oB 193 (egI _ _ _ _ _) (QDM ((QFJ c (hAc)).1) g109) ?_
                     have hr:=hr.trans (JP (by simp[g109,g107,g102,g96,g93,g58,g41,g23,g20,g5]))
                     have hr:=hr.trans (JX g109)
                     refine oI 194 (.slice (some ⟨M,0,none⟩) 4 4) (.int .i64 (3)) (pT M 3) (QSH M _)<|oL 195 (ldI (hM.cell 3))<|oN 196 p 0<|oF 197 (fW0 p)<|oF 198 (QHw p) ?_
                     refine QAA hn 19 (.int .i64 (2)) (s.u_mode (2)) rfl rfl rfl (by kernel_rfl) (by kernel_rfl) (stI (hn.at_.cell 19 _ fun _ _ _=>rfl) (hn.at_.frozen 19)) (QDr _ _ _) (hn.at_.ms.u_mode (⟨by decide,by decide⟩)) ?_
                     intro w113 hn
                     refine JS ?_
                     try simp only[Act.put,sA,sB,sC]
                     refine Qt ?_
                     refine X8 rfl rfl ?_
                     exact OutY.ok (hr.trans (QDB _ _ _)) hn
                 · have g107:¬(fz c)=6:=by simpa using h107
                   have hr:=hr.trans (JP g107)
                   exact JB<|coZ<|zR 2 hn<|zYt (QT4 (fy c) (QFJ c (hAc)) hn.at_) hn hr<|fun s114 z114 w114 hn hr=>woE<|eoB<|eoV (OutY.ok hr hn)
def Z5:List Int→Int→Int→Ws→Except Cy (Ws×List Int)
 | [],n,b,s=>if b=221∨b=253 then .error ⟨1,s.r.pc,0,4⟩ else (QEW n b s).run []
 | x :: ys,n,b,s=>if b=221∨b=253 then Z5 ys (if b=253 then 4 else 3) x s.pcUp.tick else (QEW n b s).run (x :: ys)
theorem QKT {b:Int}(h:¬(b=221∨b=253))(n:Int)(s:Ws)(xs:List Int):Z5 xs n b s=(QEW n b s).run xs:=by
 cases xs with
 | nil=>rw[Z5,if_neg h]
 | cons x ys=>rw[Z5,if_neg h]
def Inv (R0:Except Cy (Ws×List Int))(xs:List Int)(n b:Int)(s:Ws)(z:Zs):Prop :=
 (z.lacks=false∧R0=Z5 (xs.drop z.pos) n b s)∨(z.lacks=true∧R0=.error z.asked)
theorem QIq {R0:Except Cy (Ws×List Int)} {xs:List Int} {n b m v:Int} {s t:Ws} {z z2:Zs}(hI:Inv R0 xs n b s z)(hl:z.lacks=false)(hpre:b=221∨b=253)(hm:m=if b=253 then 4 else 3)(hp:z.pos≤xs.length)
 (hX:(Je s).runZ xs z=((v,t),z2)):Inv R0 xs m v t z2:=by
 subst hm
 have hR:=(hI.resolve_right (by rw[hl];simp)).2
 have e:(Je s)=.ask ⟨1,s.r.pc,0,4⟩ fun x=>.done (x,s.pcUp.tick):=rfl
 rw[e] at hX
 simp only[Tr.runZ,hl,Bool.false_eq_true,if_false] at hX
 by_cases hle:xs.length≤z.pos
 · rw[if_pos hle] at hX
   cases hX
   refine .inr ⟨rfl,?_⟩
   rw[hR,List.drop_eq_nil_of_le hle,Z5,if_pos hpre]
 · rw[if_neg hle] at hX
   cases hX
   refine .inl ⟨rfl,?_⟩
   rw[hR,List.drop_eq_getElem_cons (by omega),Z5,if_pos hpre]
   have e2:xs.getD z.pos 0=xs[z.pos]:=by rw[List.getD_eq_getElem?_getD,List.getElem?_eq_getElem (by omega)];rfl
   rw[e2]
def muZ (xs:List Int)(z:Zs):Nat:=if z.lacks=true then 0 else xs.length-z.pos+1
theorem mu_step {xs:List Int} {v:Int} {s t:Ws} {z z2:Zs}(hl:z.lacks=false)(hX:(Je s).runZ xs z=((v,t),z2)):muZ xs z2 < muZ xs z:=by
 have e:(Je s)=.ask ⟨1,s.r.pc,0,4⟩ fun x=>.done (x,s.pcUp.tick):=rfl
 rw[e] at hX
 simp only[Tr.runZ,hl,Bool.false_eq_true,if_false] at hX
 by_cases hle:xs.length≤z.pos
 · rw[if_pos hle] at hX
   cases hX
   simp[muZ,hl]
 · rw[if_neg hle] at hX
   cases hX
   simp only[muZ,hl,Bool.false_eq_true,if_false]
   omega
def muW (p:Nat)(w:World):Nat :=
 match w.cell? ⟨p,20,none⟩,w.cell? ⟨p,21,none⟩,w.cell? ⟨p,22,none⟩ with
 | some (.slice _ n _),some (.int _ i),some (.bool l)=>if l=true then 0 else n-i.toNat+1
 | _,_,_=>0
theorem AtW.mu {w:World} {p B:Nat} {s:Ws} {xs:List Int} {z:Zs}(h:AtW w p B s xs z):muW p w=muZ xs z:=by
 obtain⟨A,cap,hc,hr,hb⟩:=h.row
 have e0:w.cell? ⟨p,20,none⟩=some (.slice A xs.length cap):=hr.cell 20
 have e1:w.cell? ⟨p,21,none⟩=some (.int .i64 (z.pos:Int)):=hr.cell 21
 have e2:w.cell? ⟨p,22,none⟩=some (.bool z.lacks):=hr.cell 22
 unfold muW muZ
 rw[e0,e1,e2]
 simp
def OutE (w0:World)(p B:Nat)(xs:List Int)(R:Except Cy (Ws×List Int)):Ending→World→Prop:=fun e w' =>
 e=.returned (.tuple #[])∧∃ s z,NowW w0 p B s xs z w'∧((z.lacks=false∧∃ ys,R=.ok (s,ys))∨(z.lacks=true∧R=.error z.asked))
theorem OutE.rest {w0 w:World} {p B:Nat} {xs:List Int} {R:Except Cy (Ws×List Int)} {t:Tr Ws} {z z':Zs} {s':Ws}(hR:R=t.run (xs.drop z.pos))(hl:z.lacks=false)(hp:z.pos≤xs.length)(hr:t.runZ xs z=(s',z'))(hn:NowW w0 p B s' xs z' w):OutE w0 p B xs R (.returned (.tuple #[])) w:=by
 have k:=Tr.runZ_run xs t z hl hp
 rw[hr] at k
 refine⟨rfl,s',z',hn,?_⟩
 subst hR
 cases e:t.run (xs.drop z.pos) with
 | error c =>
   rw[e] at k
   exact .inr ⟨k.1,by rw[k.2]⟩
 | ok r =>
   obtain⟨a,ys⟩:=r
   rw[e] at k
   have k1:s'=a:=k.1
   exact .inl ⟨k.2.1,ys,by rw[k1]⟩
theorem OutE.lacks {w0 w:World} {p B:Nat} {xs:List Int} {R:Except Cy (Ws×List Int)} {n b:Int} {s:Ws} {z:Zs}(hI:Inv R xs n b s z)(hl:z.lacks=true)(hn:NowW w0 p B s xs z w):OutE w0 p B xs R (.returned (.tuple #[])) w :=
 ⟨rfl,s,z,hn,.inr ⟨hl,(hI.resolve_left (by rw[hl];simp)).2⟩⟩
end Go.Proofs.YtkenebbjodcbcaaGreatDoor
