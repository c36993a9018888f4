/- Contracts and facts that the claim's proof wants (several texts in one). -/
import Derived.Test.YtkenebbjodcbcaaGreatDoorCoH21
namespace Go.Proofs.YtkenebbjodcbcaaGreatDoor
open Go.RowKit
set_option linter.unusedVariables false
set_option linter.unusedSimpArgs false
set_option maxRecDepth 20000
set_option maxHeartbeats 20000000
theorem QRq (y:Int)(b:Int)(hAb:B8 b){s:Ws} {xs:List Int} {z:Zs} {w:World} {p B:Nat}(h:AtW w p B s xs z) :
 Calls Tryz.prog 122 #[pT p 0,.int .i64 (y),.int .u8 (b)] w (fun e w'=>e=.returned (.tuple #[])∧NowW w p B (j7 y b s) xs z w'):=by
 have hn:=NowW.begin h
 go_enter Tryz.func122,Tryz.ntmps122
 refine JB<|have b2:=Js hn.at_.ms;coR<|zR 1 hn<|zAA (w_a hn.at_) hn<|fun w3 hn=>zE hn<|coR<|zR 1 hn<|zAA (QDp hn.at_) hn<|fun w5 hn=>zE hn<|zQ hn<|zQ hn<|coS<|zQ hn<|coB<|zQ hn<|coI (y==0) (fun h11=>?_) fun h11=>?_
 · have g11:y=0:=by simpa using h11
   refine coZ<|zR 2 hn<|zBB (QEh s.a b false (b2) (hAb) _) hn<|fun w12 hn=>zF hn<|eoB<|eoT<|coZ<|zR 3 hn<|zAA (QU (XJ s.a b false) (QO _ _ _) (XI s.a b false) (Qw _ _ _) hn.at_) hn<|fun w13 hn=>woE<|eoV ?_
   have e:j7 y b s=s.af (XJ s.a b false) (XI s.a b false):=by
    unfold j7
    repeat (first|rw[if_pos (by assumption)]|rw[if_neg (by assumption)])
    all_goals rfl
   exact⟨rfl,e▸hn⟩
 have g11:¬y=0:=by simpa using h11
 refine zQ hn<|coI (y==1) (fun h15=>?_) fun h15=>?_
 · have g15:y=1:=by simpa using h15
   refine coZ<|zR 3 hn<|zBB (QEh s.a b (isM s.f 0) (b2) (hAb) _) hn<|fun w16 hn=>zF hn<|eoB<|eoT<|coZ<|zR 3 hn<|zAA (QU (XJ s.a b (isM s.f 0)) (QO _ _ _) (XI s.a b (isM s.f 0)) (Qw _ _ _) hn.at_) hn<|fun w17 hn=>woE<|eoV ?_
   have e:j7 y b s=s.af (XJ s.a b (isM s.f 0)) (XI s.a b (isM s.f 0)):=by
    unfold j7
    repeat (first|rw[if_pos (by assumption)]|rw[if_neg (by assumption)])
    all_goals rfl
   exact⟨rfl,e▸hn⟩
 have g15:¬y=1:=by simpa using h15
 refine zQ hn<|coI (y==2) (fun h19=>?_) fun h19=>?_
 · have g19:y=2:=by simpa using h19
   refine coZ<|zR 2 hn<|zBB (zT s.a b false (b2) (hAb) _) hn<|fun w20 hn=>zF hn<|eoB<|eoT<|coZ<|zR 3 hn<|zAA (QU (QQ s.a b false) (J5 _ _ _) (QE s.a b false) (J9 _ _ _) hn.at_) hn<|fun w21 hn=>woE<|eoV ?_
   have e:j7 y b s=s.af (QQ s.a b false) (QE s.a b false):=by
    unfold j7
    repeat (first|rw[if_pos (by assumption)]|rw[if_neg (by assumption)])
    all_goals rfl
   exact⟨rfl,e▸hn⟩
 have g19:¬y=2:=by simpa using h19
 refine zQ hn<|coI (y==3) (fun h23=>?_) fun h23=>?_
 · have g23:y=3:=by simpa using h23
   refine coZ<|zR 3 hn<|zBB (zT s.a b (isM s.f 0) (b2) (hAb) _) hn<|fun w24 hn=>zF hn<|eoB<|eoT<|coZ<|zR 3 hn<|zAA (QU (QQ s.a b (isM s.f 0)) (J5 _ _ _) (QE s.a b (isM s.f 0)) (J9 _ _ _) hn.at_) hn<|fun w25 hn=>woE<|eoV ?_
   have e:j7 y b s=s.af (QQ s.a b (isM s.f 0)) (QE s.a b (isM s.f 0)):=by
    unfold j7
    repeat (first|rw[if_pos (by assumption)]|rw[if_neg (by assumption)])
    all_goals rfl
   exact⟨rfl,e▸hn⟩
 have g23:¬y=3:=by simpa using h23
 refine zQ hn<|coI (y==4) (fun h27=>?_) fun h27=>?_
 · have g27:y=4:=by simpa using h27
   refine coZ<|zR 2 hn<|zBB (QOm s.a b (b2) (hAb) _) hn<|fun w28 hn=>zF hn<|eoB<|eoT<|coZ<|zR 3 hn<|zAA (QU (qX s.a b) (J3 _ _ _) (qO (qX s.a b)) (zi _) hn.at_) hn<|fun w29 hn=>woE<|eoV ?_
   have e:j7 y b s=s.af (qX s.a b) (qO (qX s.a b)):=by
    unfold j7
    repeat (first|rw[if_pos (by assumption)]|rw[if_neg (by assumption)])
    all_goals rfl
   exact⟨rfl,e▸hn⟩
 have g27:¬y=4:=by simpa using h27
 refine zQ hn<|coI (y==5) (fun h31=>?_) fun h31=>?_
 · have g31:y=5:=by simpa using h31
   refine coZ<|zR 2 hn<|zBB (QPg s.a b (b2) (hAb) _) hn<|fun w32 hn=>zF hn<|eoB<|eoT<|coZ<|zR 3 hn<|zAA (QU (Zf s.a b) (J3 _ _ _) (Jn (Zf s.a b)) (Jz _) hn.at_) hn<|fun w33 hn=>woE<|eoV ?_
   have e:j7 y b s=s.af (Zf s.a b) (Jn (Zf s.a b)):=by
    unfold j7
    repeat (first|rw[if_pos (by assumption)]|rw[if_neg (by assumption)])
    all_goals rfl
   exact⟨rfl,e▸hn⟩
 have g31:¬y=5:=by simpa using h31
 refine zQ hn<|coI (y==6) (fun h35=>?_) fun h35=>?_
 · have g35:y=6:=by simpa using h35
   refine coZ<|zR 2 hn<|zBB (QRR s.a b (b2) (hAb) _) hn<|fun w36 hn=>zF hn<|eoB<|eoT<|coZ<|zR 3 hn<|zAA (QU (orR s.a b) (J3 _ _ _) (Jn (orR s.a b)) (Jz _) hn.at_) hn<|fun w37 hn=>woE<|eoV ?_
   have e:j7 y b s=s.af (orR s.a b) (Jn (orR s.a b)):=by
    unfold j7
    repeat (first|rw[if_pos (by assumption)]|rw[if_neg (by assumption)])
    all_goals rfl
   exact⟨rfl,e▸hn⟩
 have g35:¬y=6:=by simpa using h35
 refine coZ<|zR 2 hn<|zBB (QNa s.a b (b2) (hAb) _) hn<|fun w38 hn=>zF hn<|eoB<|eoT<|coZ<|zR 3 hn<|zAA (QU s.a (b2) (QDa s.a b) (QBC _ _) hn.at_) hn<|fun w39 hn=>woE<|eoV ?_
 have e:j7 y b s=s.af s.a (QDa s.a b):=by
  unfold j7
  repeat (first|rw[if_pos (by assumption)]|rw[if_neg (by assumption)])
  all_goals rfl
 exact⟨rfl,e▸hn⟩
theorem QSZ (y:Int)(hAy:0≤y∧y≤7){s:Ws} {xs:List Int} {z:Zs} {w:World} {p B:Nat}(h:AtW w p B s xs z) :
 Calls Tryz.prog 170 #[pT p 0,.int .i64 (y)] w (OutY w p B xs ((QIf y s).runZ xs z)):=by
 have hn:=NowW.begin h
 have hr:(QIf y s).runZ xs z=(QIf y s).runZ xs z:=rfl
 go_enter Tryz.func170,Tryz.ntmps170
 refine JB<|zQ hn<|coB<|zQ hn<|coI (y==0) (fun h3=>?_) fun h3=>?_
 · have g3:y=0:=by simpa using h3
   iterate 2 first|have hr:=pZ hr|have hr:=qZ hr|have hr:=pbZ hr|have hr:=qbZ hr|skip
   exact JC<|eoB<|eoV (OutY.ok (dZ hr) hn)
 have g3:¬y=0:=by simpa using h3
 iterate 2 first|have hr:=pZ hr|have hr:=qZ hr|have hr:=pbZ hr|have hr:=qbZ hr|skip
 refine zQ hn<|coI (y==1) (fun h5=>?_) fun h5=>?_
 · have g5:y=1:=by simpa using h5
   iterate 2 first|have hr:=pZ hr|have hr:=qZ hr|have hr:=pbZ hr|have hr:=qbZ hr|skip
   exact have b6:=hn.at_.ms.r;coZ<|zR 5 hn<|zBB (QM5 s.r _) hn<|fun w7 hn=>zFs hn _ (hn.at_.ms.u_rg ((b6).swap))<|fun w8 hn=>eoB<|eoV (OutY.ok (dZ hr) hn)
 have g5:¬y=1:=by simpa using h5
 iterate 2 first|have hr:=pZ hr|have hr:=qZ hr|have hr:=pbZ hr|have hr:=qbZ hr|skip
 refine zQ hn<|coI (y==2) (fun h10=>?_) fun h10=>?_
 · have g10:y=2:=by simpa using h10
   iterate 2 first|have hr:=pZ hr|have hr:=qZ hr|have hr:=pbZ hr|have hr:=qbZ hr|skip
   exact coR<|zR 1 hn<|zY (Jo 1 hn.at_) hn hr<|fun s12 z12 w12 hn hr=>wT<|coR<|zR 1 hn<|zAA (QFN hn.at_) hn<|fun w14 hn=>zE hn<|coZ<|zR 3 hn<|zYt (QNn (s12.left != 0) hn.at_) hn hr<|fun s15 z15 w15 hn hr=>woE<|eoB<|eoV (OutY.ok hr hn)
 have g10:¬y=2:=by simpa using h10
 iterate 2 first|have hr:=pZ hr|have hr:=qZ hr|have hr:=pbZ hr|have hr:=qbZ hr|skip
 refine zQ hn<|coI (y==3) (fun h17=>?_) fun h17=>?_
 · have g17:y=3:=by simpa using h17
   iterate 2 first|have hr:=pZ hr|have hr:=qZ hr|have hr:=pbZ hr|have hr:=qbZ hr|skip
   exact coZ<|zR 1 hn<|zY (QNn true hn.at_) hn hr<|fun s18 z18 w18 hn hr=>woE<|eoB<|eoV (OutY.ok (dZ hr) hn)
 have g17:¬y=3:=by simpa using h17
 iterate 2 first|have hr:=pZ hr|have hr:=qZ hr|have hr:=pbZ hr|have hr:=qbZ hr|skip
 exact have b19:=QP hn.at_.ms;coZ<|zR 2 hn<|zAA (w_f hn.at_) hn<|fun w20 hn=>zR 1 hn<|QKZ 10 (egI _ _ _ _ _) (QF7 y 4 (by have:=hAy;omega) (by have:=hAy;omega))<|zBB (QF9 s.f (y-4) (b19).1 (b19).2 _ ) hn<|fun w21 hn=>zYt (QNn (Z4 s.f (y-4)) hn.at_) hn hr<|fun s22 z22 w22 hn hr=>woE<|eoB<|eoV (OutY.ok hr hn)
theorem QN6 (y:Int){s:Ws} {xs:List Int} {z:Zs} {w:World} {p B:Nat}(h:AtW w p B s xs z) :
 Calls Tryz.prog 173 #[pT p 0,.int .i64 (y)] w (OutY w p B xs ((QB3 y s).runZ xs z)):=by
 have hn:=NowW.begin h
 have hr:(QB3 y s).runZ xs z=(QB3 y s).runZ xs z:=rfl
 go_enter Tryz.func173,Tryz.ntmps173
 refine JB<|have b2:=hn.at_.ms.r.bc;zQ hn<|coS<|coR<|zR 3 hn ?_
 rcases Bool.eq_false_or_eq_true (y==2) with h5|h5
 · have g5:y=2:=by simpa using h5
   refine tell 15 h5<|zE hn<|coT ?_
   iterate 2 first|have hr:=pZ hr|have hr:=qZ hr|have hr:=pbZ hr|have hr:=qbZ hr|skip
   refine have b6:=hn.at_.ms.r.de;coZ<|zE hn<|coS<|zQ hn<|coK (decide (3 < y)) (fun h9=>absurd h9 (by first|(simp;omega)|simp[*]))<|fun h9=>?_
   iterate 2 first|have hr:=pZ hr|have hr:=qZ hr|have hr:=pbZ hr|have hr:=qbZ hr|skip
   refine JC<|eoT<|coS<|zQ hn<|coB<|coS<|zQ hn<|coK (y==0) (fun h14=>absurd h14 (by first|(simp;omega)|simp[*]))<|fun h14=>?_
   iterate 2 first|have hr:=pZ hr|have hr:=qZ hr|have hr:=pbZ hr|have hr:=qbZ hr|skip
   refine zQ hn<|coJ (y==2) (fun h16=>absurd h16 (by first|(simp;omega)|simp[*]))<|fun h16=>?_
   iterate 2 first|have hr:=pZ hr|have hr:=qZ hr|have hr:=pbZ hr|have hr:=qbZ hr|skip
   refine JC<|eoT<|coJ (y==2) (fun h17=>absurd h17 (by first|(simp;omega)|simp[*]))<|fun h17=>?_
   iterate 2 first|have hr:=pZ hr|have hr:=qZ hr|have hr:=pbZ hr|have hr:=qbZ hr|skip
   exact have b19:=Js hn.at_.ms;coR<|zR 3 hn<|zAA (w_a hn.at_) hn<|fun w20 hn=>zY (Q3 s.r.de (b6) s.a (b19) hn.at_) hn hr<|fun s21 z21 w21 hn hr=>wT<|have b23:=Js hn.at_.ms;coR<|zR 2 hn<|zAA (w_a hn.at_) hn<|fun w24 hn=>zR 1 hn<|kE (Q4 s.r.de (b6).1 (b6).2 _)<|zR 1 hn<|kE (QV s21.a (((s.r.de%256)+1)%256) (b23).1 (b23).2 (B8.mod _).1 (B8.mod _).2 _)<|zEs hn (.u_wz _ (256*s21.a+(((s.r.de%256)+1)%256))) (hn.at_.ms.u_wz (Wd16.mk8 (b23) (B8.mod _)))<|fun w27 hn=>JF<|Z3<|Jp<|qx (OutY.ok (dZ hr) hn)
 have g5:¬y=2:=by simpa using h5
 refine tell 15 h5<|zE hn<|coI (y==3) (fun h28=>?_) fun h28=>?_
 · have g28:y=3:=by simpa using h28
   first|(have hr:=hr.trans (JX g28);have hr:=hr.trans (JP g5))|(have hr:=hr.trans (JP g5);have hr:=hr.trans (JX g28))
   refine have b29:=hn.at_.ms.r.de;coZ<|zE hn<|coS<|zQ hn<|coK (decide (3 < y)) (fun h32=>absurd h32 (by first|(simp;omega)|simp[*]))<|fun h32=>?_
   iterate 2 first|have hr:=pZ hr|have hr:=qZ hr|have hr:=pbZ hr|have hr:=qbZ hr|skip
   refine JC<|eoT<|coS<|zQ hn<|coB<|coS<|zQ hn<|coK (y==0) (fun h37=>absurd h37 (by first|(simp;omega)|simp[*]))<|fun h37=>?_
   iterate 2 first|have hr:=pZ hr|have hr:=qZ hr|have hr:=pbZ hr|have hr:=qbZ hr|skip
   refine zQ hn<|coK (y==2) (fun h39=>absurd h39 (by first|(simp;omega)|simp[*]))<|fun h39=>?_
   iterate 2 first|have hr:=pZ hr|have hr:=qZ hr|have hr:=pbZ hr|have hr:=qbZ hr|skip
   refine coZ<|zE hn<|coK (y==6) (fun h40=>absurd h40 (by first|(simp;omega)|simp[*]))<|fun h40=>?_
   iterate 2 first|have hr:=pZ hr|have hr:=qZ hr|have hr:=pbZ hr|have hr:=qbZ hr|skip
   refine coS<|zQ hn<|coK (y==1) (fun h43=>absurd h43 (by first|(simp;omega)|simp[*]))<|fun h43=>?_
   iterate 2 first|have hr:=pZ hr|have hr:=qZ hr|have hr:=pbZ hr|have hr:=qbZ hr|skip
   refine zQ hn<|coJ (y==3) (fun h45=>absurd h45 (by first|(simp;omega)|simp[*]))<|fun h45=>?_
   iterate 2 first|have hr:=pZ hr|have hr:=qZ hr|have hr:=pbZ hr|have hr:=qbZ hr|skip
   refine JC<|eoT<|coJ (y==3) (fun h46=>absurd h46 (by first|(simp;omega)|simp[*]))<|fun h46=>?_
   iterate 2 first|have hr:=pZ hr|have hr:=qZ hr|have hr:=pbZ hr|have hr:=qbZ hr|skip
   exact coR<|zR 2 hn<|zX (Xb s.r.de (b29) hn.at_) hn hr<|fun v48 s48 z48 w48 hk48 hn hr=>zE hn<|have b49:=QP hn.at_.ms;coZ<|zR 3 hn<|zAA (w_f hn.at_) hn<|fun w50 hn=>zAA (QU v48 (hk48) s48.f (b49) hn.at_) hn<|fun w51 hn=>woE<|eoB<|eoT<|coZ<|zFs hn (.u_wz _ ((s.r.de+1)%65536)) (hn.at_.ms.u_wz (Wd16.mod _))<|fun w52 hn=>eoV (OutY.ok (dZ hr) hn)
 have g28:¬y=3:=by simpa using h28
 first|(have hr:=hr.trans (JP g28);have hr:=hr.trans (JP g5))|(have hr:=hr.trans (JP g5);have hr:=hr.trans (JP g28))
 refine JC<|eoT<|coS<|zQ hn<|coI (decide (3 < y)) (fun h55=>?_) fun h55=>?_
 · have g55:3 < y:=by simpa using h55
   iterate 2 first|have hr:=pZ hr|have hr:=qZ hr|have hr:=pbZ hr|have hr:=qbZ hr|skip
   refine coZ<|zR 1 hn<|zX (QCg hn.at_) hn hr<|fun v56 s56 z56 w56 hk56 hn hr=>zE hn<|coS<|zQ hn<|coB<|coS<|zQ hn<|coK (y==0) (fun h61=>absurd h61 (by first|(simp;omega)|simp[*]))<|fun h61=>?_
   iterate 2 first|have hr:=pZ hr|have hr:=qZ hr|have hr:=pbZ hr|have hr:=qbZ hr|skip
   refine zQ hn<|coK (y==2) (fun h63=>absurd h63 (by first|(simp;omega)|simp[*]))<|fun h63=>?_
   iterate 2 first|have hr:=pZ hr|have hr:=qZ hr|have hr:=pbZ hr|have hr:=qbZ hr|skip
   refine coZ<|zE hn<|coI (y==6) (fun h64=>?_) fun h64=>?_
   · have g64:y=6:=by simpa using h64
     iterate 2 first|have hr:=pZ hr|have hr:=qZ hr|have hr:=pbZ hr|have hr:=qbZ hr|skip
     exact have b66:=Js hn.at_.ms;coR<|zR 3 hn<|zAA (w_a hn.at_) hn<|fun w67 hn=>zY (Q3 v56 (hk56) s56.a (b66) hn.at_) hn hr<|fun s68 z68 w68 hn hr=>wT<|have b70:=Js hn.at_.ms;coR<|zR 2 hn<|zAA (w_a hn.at_) hn<|fun w71 hn=>zR 1 hn<|kE (Q4 v56 (hk56).1 (hk56).2 _)<|zR 1 hn<|kE (QV s68.a (((v56%256)+1)%256) (b70).1 (b70).2 (B8.mod _).1 (B8.mod _).2 _)<|zEs hn (.u_wz _ (256*s68.a+(((v56%256)+1)%256))) (hn.at_.ms.u_wz (Wd16.mk8 (b70) (B8.mod _)))<|fun w74 hn=>JF<|Z3<|Jp<|qx (OutY.ok (dZ hr) hn)
   have g64:¬y=6:=by simpa using h64
   iterate 2 first|have hr:=pZ hr|have hr:=qZ hr|have hr:=pbZ hr|have hr:=qbZ hr|skip
   refine coS<|zQ hn<|coK (y==1) (fun h77=>absurd h77 (by first|(simp;omega)|simp[*]))<|fun h77=>?_
   iterate 2 first|have hr:=pZ hr|have hr:=qZ hr|have hr:=pbZ hr|have hr:=qbZ hr|skip
   refine zQ hn<|coK (y==3) (fun h79=>absurd h79 (by first|(simp;omega)|simp[*]))<|fun h79=>?_
   iterate 2 first|have hr:=pZ hr|have hr:=qZ hr|have hr:=pbZ hr|have hr:=qbZ hr|skip
   refine coZ<|zE hn<|coI (y==7) (fun h80=>?_) fun h80=>?_
   · have g80:y=7:=by simpa using h80
     iterate 2 first|have hr:=pZ hr|have hr:=qZ hr|have hr:=pbZ hr|have hr:=qbZ hr|skip
     exact coR<|zR 2 hn<|zX (Xb v56 (hk56) hn.at_) hn hr<|fun v82 s82 z82 w82 hk82 hn hr=>zE hn<|have b83:=QP hn.at_.ms;coZ<|zR 3 hn<|zAA (w_f hn.at_) hn<|fun w84 hn=>zAA (QU v82 (hk82) s82.f (b83) hn.at_) hn<|fun w85 hn=>woE<|eoB<|eoT<|coZ<|zFs hn (.u_wz _ ((v56+1)%65536)) (hn.at_.ms.u_wz (Wd16.mod _))<|fun w86 hn=>eoV (OutY.ok (dZ hr) hn)
   have g80:¬y=7:=by simpa using h80
   iterate 2 first|have hr:=pZ hr|have hr:=qZ hr|have hr:=pbZ hr|have hr:=qbZ hr|skip
   refine zQ hn<|coI (y==4) (fun h88=>?_) fun h88=>?_
   · have g88:y=4:=by simpa using h88
     iterate 2 first|have hr:=pZ hr|have hr:=qZ hr|have hr:=pbZ hr|have hr:=qbZ hr|skip
     exact have b90:=Xs hn.at_.ms;coR<|zR 3 hn<|zAA (QDh hn.at_) hn<|fun w91 hn=>kE (Q4 s56.hl (b90).1 (b90).2 _)<|zY (Q3 v56 (hk56) (s56.hl%256) ((b90).lo8) hn.at_) hn hr<|fun s93 z93 w93 hn hr=>wT<|have b94:=Xs hn.at_.ms;coZ<|zR 4 hn<|zAA (QDh hn.at_) hn<|fun w95 hn=>kE (Xd s93.hl (b94).1 (b94).2 _)<|zY (Q3 ((v56+1)%65536) (Wd16.mod _) (s93.hl / 256) ((b94).hi) hn.at_) hn hr<|fun s97 z97 w97 hn hr=>woE<|eoB<|eoT<|coZ<|zFs hn (.u_wz _ ((v56+1)%65536)) (hn.at_.ms.u_wz (Wd16.mod _))<|fun w98 hn=>eoV (OutY.ok (dZ hr) hn)
   have g88:¬y=4:=by simpa using h88
   iterate 2 first|have hr:=pZ hr|have hr:=qZ hr|have hr:=pbZ hr|have hr:=qbZ hr|skip
   refine zQ hn<|coI (y==5) (fun h100=>?_) fun h100=>?_
   · have g100:y=5:=by simpa using h100
     iterate 2 first|have hr:=pZ hr|have hr:=qZ hr|have hr:=pbZ hr|have hr:=qbZ hr|skip
     exact coR<|zR 2 hn<|zX (Xb v56 (hk56) hn.at_) hn hr<|fun v102 s102 z102 w102 hk102 hn hr=>zE hn<|coR<|zR 3 hn<|zX (Xb ((v56+1)%65536) (Wd16.mod _) hn.at_) hn hr<|fun v104 s104 z104 w104 hk104 hn hr=>zE hn<|coZ<|zR 3 hn<|kE (QV v104 v102 (hk104).1 (hk104).2 (hk102).1 (hk102).2 _)<|zAA (QG4 (256*v104+v102) (Wd16.mk8 (hk104) (hk102)) hn.at_) hn<|fun w106 hn=>woE<|eoB<|eoT<|coZ<|zFs hn (.u_wz _ ((v56+1)%65536)) (hn.at_.ms.u_wz (Wd16.mod _))<|fun w107 hn=>eoV (OutY.ok (dZ hr) hn)
   have g100:¬y=5:=by simpa using h100
   iterate 2 first|have hr:=pZ hr|have hr:=qZ hr|have hr:=pbZ hr|have hr:=qbZ hr|skip
   exact JC<|eoB<|eoT<|coZ<|zFs hn (.u_wz _ ((v56+1)%65536)) (hn.at_.ms.u_wz (Wd16.mod _))<|fun w108 hn=>eoV (OutY.ok (dZ hr) hn)
 have g55:¬3 < y:=by simpa using h55
 iterate 2 first|have hr:=pZ hr|have hr:=qZ hr|have hr:=pbZ hr|have hr:=qbZ hr|skip
 refine JC<|eoT<|coS<|zQ hn<|coB<|coS<|zQ hn<|coI (y==0) (fun h113=>?_) fun h113=>?_
 · have g113:y=0:=by simpa using h113
   iterate 2 first|have hr:=pZ hr|have hr:=qZ hr|have hr:=pbZ hr|have hr:=qbZ hr|skip
   refine JC<|eoT<|coJ (y==0) (fun h114=>absurd h114 (by first|(simp;omega)|simp[*]))<|fun h114=>?_
   iterate 2 first|have hr:=pZ hr|have hr:=qZ hr|have hr:=pbZ hr|have hr:=qbZ hr|skip
   exact have b116:=Js hn.at_.ms;coR<|zR 3 hn<|zAA (w_a hn.at_) hn<|fun w117 hn=>zY (Q3 s.r.bc (b2) s.a (b116) hn.at_) hn hr<|fun s118 z118 w118 hn hr=>wT<|have b120:=Js hn.at_.ms;coR<|zR 2 hn<|zAA (w_a hn.at_) hn<|fun w121 hn=>zR 1 hn<|kE (Q4 s.r.bc (b2).1 (b2).2 _)<|zR 1 hn<|kE (QV s118.a (((s.r.bc%256)+1)%256) (b120).1 (b120).2 (B8.mod _).1 (B8.mod _).2 _)<|zEs hn (.u_wz _ (256*s118.a+(((s.r.bc%256)+1)%256))) (hn.at_.ms.u_wz (Wd16.mk8 (b120) (B8.mod _)))<|fun w124 hn=>JF<|Z3<|Jp<|qx (OutY.ok (dZ hr) hn)
 have g113:¬y=0:=by simpa using h113
 iterate 2 first|have hr:=pZ hr|have hr:=qZ hr|have hr:=pbZ hr|have hr:=qbZ hr|skip
 refine zQ hn<|coK (y==2) (fun h126=>absurd h126 (by first|(simp;omega)|simp[*]))<|fun h126=>?_
 iterate 2 first|have hr:=pZ hr|have hr:=qZ hr|have hr:=pbZ hr|have hr:=qbZ hr|skip
 refine coZ<|zE hn<|coK (y==6) (fun h127=>absurd h127 (by first|(simp;omega)|simp[*]))<|fun h127=>?_
 iterate 2 first|have hr:=pZ hr|have hr:=qZ hr|have hr:=pbZ hr|have hr:=qbZ hr|skip
 refine coS<|zQ hn<|coI (y==1) (fun h130=>?_) fun h130=>?_
 · have g130:y=1:=by simpa using h130
   iterate 2 first|have hr:=pZ hr|have hr:=qZ hr|have hr:=pbZ hr|have hr:=qbZ hr|skip
   refine JC<|eoT<|coJ (y==1) (fun h131=>absurd h131 (by first|(simp;omega)|simp[*]))<|fun h131=>?_
   iterate 2 first|have hr:=pZ hr|have hr:=qZ hr|have hr:=pbZ hr|have hr:=qbZ hr|skip
   exact coR<|zR 2 hn<|zX (Xb s.r.bc (b2) hn.at_) hn hr<|fun v133 s133 z133 w133 hk133 hn hr=>zE hn<|have b134:=QP hn.at_.ms;coZ<|zR 3 hn<|zAA (w_f hn.at_) hn<|fun w135 hn=>zAA (QU v133 (hk133) s133.f (b134) hn.at_) hn<|fun w136 hn=>woE<|eoB<|eoT<|coZ<|zFs hn (.u_wz _ ((s.r.bc+1)%65536)) (hn.at_.ms.u_wz (Wd16.mod _))<|fun w137 hn=>eoV (OutY.ok (dZ hr) hn)
 have g130:¬y=1:=by simpa using h130
 iterate 2 first|have hr:=pZ hr|have hr:=qZ hr|have hr:=pbZ hr|have hr:=qbZ hr|skip
 refine zQ hn<|coK (y==3) (fun h139=>absurd h139 (by first|(simp;omega)|simp[*]))<|fun h139=>?_
 iterate 2 first|have hr:=pZ hr|have hr:=qZ hr|have hr:=pbZ hr|have hr:=qbZ hr|skip
 refine coZ<|zE hn<|coK (y==7) (fun h140=>absurd h140 (by first|(simp;omega)|simp[*]))<|fun h140=>?_
 iterate 2 first|have hr:=pZ hr|have hr:=qZ hr|have hr:=pbZ hr|have hr:=qbZ hr|skip
 refine zQ hn<|coK (y==4) (fun h142=>absurd h142 (by first|(simp;omega)|simp[*]))<|fun h142=>?_
 iterate 2 first|have hr:=pZ hr|have hr:=qZ hr|have hr:=pbZ hr|have hr:=qbZ hr|skip
 refine zQ hn<|coK (y==5) (fun h144=>absurd h144 (by first|(simp;omega)|simp[*]))<|fun h144=>?_
 iterate 2 first|have hr:=pZ hr|have hr:=qZ hr|have hr:=pbZ hr|have hr:=qbZ hr|skip
 exact JC<|eoB<|eoT<|coZ<|zFs hn (.u_wz _ ((s.r.bc+1)%65536)) (hn.at_.ms.u_wz (Wd16.mod _))<|fun w145 hn=>eoV (OutY.ok (dZ hr) hn)
theorem QPJ (y:Int)(zA:Int){s:Ws} {xs:List Int} {z:Zs} {w:World} {p B:Nat}(h:AtW w p B s xs z) :
 Calls Tryz.prog 174 #[pT p 0,.int .i64 (y),.int .i64 (zA)] w (OutY w p B xs ((stepW y zA s).runZ xs z)):=by
 have hn:=NowW.begin h
 have hr:(stepW y zA s).runZ xs z=(stepW y zA s).runZ xs z:=rfl
 go_enter Tryz.func174,Tryz.ntmps174
 refine JB<|coR<|zR 2 hn<|zX (QFU y hn.at_) hn hr<|fun v2 s2 z2 w2 hk2 hn hr=>zE hn<|coS<|zQ hn<|coI (y==6) (fun h5=>?_) fun h5=>?_
 · have g5:y=6:=by simpa using h5
   first|have hr:=pZ hr|have hr:=qZ hr|have hr:=pbZ hr|have hr:=qbZ hr|skip
   refine coZ<|zR 1 hn<|zY (Jo 1 hn.at_) hn hr<|fun s6 z6 w6 hn hr=>wT<|have b8:=QP hn.at_.ms;coR<|zR 2 hn<|zAA (w_f hn.at_) hn<|fun w9 hn=>zBB (QIu v2 s6.f (hk2) (b8) _) hn<|fun w10 hn=>zE hn<|coS<|zQ hn<|zIf hr (fun g13 hr=>?_) fun g13 hr=>?_
   · exact have b14:=QP hn.at_.ms;coZ<|zR 2 hn<|zAA (w_f hn.at_) hn<|fun w15 hn=>zBB (QIA v2 s6.f (hk2) (b14) _) hn<|fun w16 hn=>zE hn<|have b18:=Js hn.at_.ms;coR<|zR 2 hn<|zAA (w_a hn.at_) hn<|fun w19 hn=>zR 1 hn<|zAA (QU s6.a (b18) (QDW v2 s6.f) (QA5 _ _) hn.at_) hn<|fun w20 hn=>wT<|coZ<|zR 3 hn<|zYt (Xy y (QQ v2 1 false) (J5 _ _ _) hn.at_) hn hr<|fun s21 z21 w21 hn hr=>woE<|eoV (OutY.ok hr hn)
   exact JC<|eoT<|have b23:=Js hn.at_.ms;coR<|zR 2 hn<|zAA (w_a hn.at_) hn<|fun w24 hn=>zR 1 hn<|zAA (QU s6.a (b23) (QDc v2 s6.f) (QAw _ _) hn.at_) hn<|fun w25 hn=>wT<|coZ<|zR 3 hn<|zYt (Xy y (XJ v2 1 false) (QO _ _ _) hn.at_) hn hr<|fun s26 z26 w26 hn hr=>woE<|eoV (OutY.ok hr hn)
 have g5:¬y=6:=by simpa using h5
 first|have hr:=pZ hr|have hr:=qZ hr|have hr:=pbZ hr|have hr:=qbZ hr|skip
 refine JC<|eoT<|have b28:=QP hn.at_.ms;coR<|zR 2 hn<|zAA (w_f hn.at_) hn<|fun w29 hn=>zBB (QIu v2 s2.f (hk2) (b28) _) hn<|fun w30 hn=>zE hn<|coS<|zQ hn<|zIf hr (fun g33 hr=>?_) fun g33 hr=>?_
 · exact have b34:=QP hn.at_.ms;coZ<|zR 2 hn<|zAA (w_f hn.at_) hn<|fun w35 hn=>zBB (QIA v2 s2.f (hk2) (b34) _) hn<|fun w36 hn=>zE hn<|have b38:=Js hn.at_.ms;coR<|zR 2 hn<|zAA (w_a hn.at_) hn<|fun w39 hn=>zR 1 hn<|zAA (QU s2.a (b38) (QDW v2 s2.f) (QA5 _ _) hn.at_) hn<|fun w40 hn=>wT<|coZ<|zR 3 hn<|zYt (Xy y (QQ v2 1 false) (J5 _ _ _) hn.at_) hn hr<|fun s41 z41 w41 hn hr=>woE<|eoV (OutY.ok hr hn)
 exact JC<|eoT<|have b43:=Js hn.at_.ms;coR<|zR 2 hn<|zAA (w_a hn.at_) hn<|fun w44 hn=>zR 1 hn<|zAA (QU s2.a (b43) (QDc v2 s2.f) (QAw _ _) hn.at_) hn<|fun w45 hn=>wT<|coZ<|zR 3 hn<|zYt (Xy y (XJ v2 1 false) (QO _ _ _) hn.at_) hn hr<|fun s46 z46 w46 hn hr=>woE<|eoV (OutY.ok hr hn)
theorem QSl (y:Int){s:Ws} {xs:List Int} {z:Zs} {w:World} {p B:Nat}(h:AtW w p B s xs z) :
 Calls Tryz.prog 175 #[pT p 0,.int .i64 (y)] w (fun e w'=>e=.returned (.tuple #[])∧NowW w p B (zb y s) xs z w'):=by
 have hn:=NowW.begin h
 go_enter Tryz.func175,Tryz.ntmps175
 refine JB<|have b2:=Js hn.at_.ms;coR<|zR 1 hn<|zAA (w_a hn.at_) hn<|fun w3 hn=>zE hn<|have b5:=QP hn.at_.ms;coR<|zR 1 hn<|zAA (w_f hn.at_) hn<|fun w6 hn=>zE hn<|coS<|zQ hn<|coB<|zQ hn<|coI (y==4) (fun h10=>?_) fun h10=>?_
 · have g10:y=4:=by simpa using h10
   refine coZ<|zR 2 hn<|zBB (QO1 s.a s.f (b2) (b5) _ ) hn<|fun w11 hn=>zF hn<|eoB<|eoT<|coZ<|zR 3 hn<|zAA (QU (Xj s.a s.f) (jU _ _) (QDe s.a s.f) (QAk _ _) hn.at_) hn<|fun w12 hn=>woE<|eoV ?_
   have e:zb y s=s.af (Xj s.a s.f) (QDe s.a s.f):=by
    unfold zb
    repeat (first|rw[if_pos (by assumption)]|rw[if_neg (by assumption)])
    all_goals rfl
   exact⟨rfl,e▸hn⟩
 have g10:¬y=4:=by simpa using h10
 refine zQ hn<|coI (y==5) (fun h14=>?_) fun h14=>?_
 · have g14:y=5:=by simpa using h14
   refine coZ<|zR 2 hn<|zBB (QNO s.a s.f (b2) (b5) _) hn<|fun w15 hn=>zF hn<|eoB<|eoT<|coZ<|zR 3 hn<|zAA (QU (255-s.a) (B8.not (b2)) (QED s.a s.f) (Qb _ _ _ _ _) hn.at_) hn<|fun w16 hn=>woE<|eoV ?_
   have e:zb y s=s.af (255-s.a) (QED s.a s.f):=by
    unfold zb
    repeat (first|rw[if_pos (by assumption)]|rw[if_neg (by assumption)])
    all_goals rfl
   exact⟨rfl,e▸hn⟩
 have g14:¬y=5:=by simpa using h14
 refine zQ hn<|coI (y==6) (fun h18=>?_) fun h18=>?_
 · have g18:y=6:=by simpa using h18
   refine coZ<|zR 2 hn<|zBB (QNk s.a s.f (b2) (b5) _) hn<|fun w19 hn=>zF hn<|eoB<|eoT<|coZ<|zR 3 hn<|zAA (QU s.a (b2) (QCt s.a s.f) (Qb _ _ _ _ _) hn.at_) hn<|fun w20 hn=>woE<|eoV ?_
   have e:zb y s=s.af s.a (QCt s.a s.f):=by
    unfold zb
    repeat (first|rw[if_pos (by assumption)]|rw[if_neg (by assumption)])
    all_goals rfl
   exact⟨rfl,e▸hn⟩
 have g18:¬y=6:=by simpa using h18
 refine zQ hn<|coI (y==7) (fun h22=>?_) fun h22=>?_
 · have g22:y=7:=by simpa using h22
   refine coZ<|zR 2 hn<|zBB (QPH s.a s.f (b2) (b5) _) hn<|fun w23 hn=>zF hn<|eoB<|eoT<|coZ<|zR 3 hn<|zAA (QU s.a (b2) (QCZ s.a s.f) (Qb _ _ _ _ _) hn.at_) hn<|fun w24 hn=>woE<|eoV ?_
   have e:zb y s=s.af s.a (QCZ s.a s.f):=by
    unfold zb
    repeat (first|rw[if_pos (by assumption)]|rw[if_neg (by assumption)])
    all_goals rfl
   exact⟨rfl,e▸hn⟩
 have g22:¬y=7:=by simpa using h22
 refine coZ<|zR 3 hn<|zBB (QOA y s.a s.f (b2) (b5) _ ) hn<|fun w25 hn=>zF hn<|eoB<|eoT<|coZ<|zR 3 hn<|zAA (QU (QBW y s.a s.f) (QAm _ _ _ (b2)) (QBa y s.a s.f) (QAz _ _ _ (b5)) hn.at_) hn<|fun w26 hn=>woE<|eoV ?_
 have e:zb y s=s.af (QBW y s.a s.f) (QBa y s.a s.f):=by
  unfold zb
  repeat (first|rw[if_pos (by assumption)]|rw[if_neg (by assumption)])
  all_goals rfl
 exact⟨rfl,e▸hn⟩
theorem QJt  {s:Ws} {xs:List Int} {z:Zs} {w:World} {p B:Nat}(h:AtW w p B s xs z) :
 Calls Tryz.prog 114 #[pT p 0] w (OutY w p B xs ((QCK s).runZ xs z)):=by
 have hn:=NowW.begin h
 have hr:(QCK s).runZ xs z=(QCK s).runZ xs z:=rfl
 go_enter Tryz.func114,Tryz.ntmps114
 exact JB<|coR<|zR 2 hn<|zX (QNm hn.at_) hn hr<|fun v2 s2 z2 w2 hk2 hn hr=>zEs hn (.u_pc _ (v2)) (hn.at_.ms.u_pc (hk2))<|fun w3 hn=>have b4:=hn.at_.ms.r.pc;coZ<|zFs hn ((s2.u_pc (v2)).u_wz ((s2.u_pc (v2)).r.pc)) (hn.at_.ms.u_wz (b4))<|fun w5 hn=>eoV (OutY.ok (dZ hr) hn)
theorem QOI (o:Bool){s:Ws} {xs:List Int} {z:Zs} {w:World} {p B:Nat}(h:AtW w p B s xs z) :
 Calls Tryz.prog 184 #[pT p 0,.bool (o)] w (OutY w p B xs ((QFL o s).runZ xs z)):=by
 have hn:=NowW.begin h
 have hr:(QFL o s).runZ xs z=(QFL o s).runZ xs z:=rfl
 go_enter Tryz.func184,Tryz.ntmps184
 refine JB<|coR<|zR 2 hn<|zX (QCg hn.at_) hn hr<|fun v2 s2 z2 w2 hk2 hn hr=>zEs hn (.u_wz _ (v2)) (hn.at_.ms.u_wz (hk2))<|fun w3 hn=>zQ hn<|coI (o) (fun h5=>?_) fun h5=>?_
 · have g5:o=true:=by simpa using h5
   exact have hr:=hr.trans (JX g5);coR<|zR 1 hn<|zY (Jo 1 hn.at_) hn hr<|fun s7 z7 w7 hn hr=>wT<|have b9:=hn.at_.ms.r.pc;coR<|zR 6 hn<|zY (QGr s7.r.pc (b9) hn.at_) hn hr<|fun s10 z10 w10 hn hr=>wT<|have b11:=hn.at_.ms.r.wz;coZ<|zFs hn (.u_pc _ (s10.r.wz)) (hn.at_.ms.u_pc (b11))<|fun w12 hn=>eoV (OutY.ok (dZ hr) hn)
 have g5:¬o=true:=by simpa using h5
 exact have hr:=hr.trans (JP g5);JC<|eoV (OutY.ok (dZ hr) hn)
theorem QSx (pA:Int)(qA:Int){s:Ws} {xs:List Int} {z:Zs} {w:World} {p B:Nat}(h:AtW w p B s xs z) :
 Calls Tryz.prog 182 #[pT p 0,.int .i64 (pA),.int .i64 (qA)] w (OutY w p B xs ((QIW pA qA s).runZ xs z)):=by
 have hn:=NowW.begin h
 have hr:(QIW pA qA s).runZ xs z=(QIW pA qA s).runZ xs z:=rfl
 go_enter Tryz.func182,Tryz.ntmps182
 refine JB<|coB<|coR<|zR 3 hn ?_
 rcases Bool.eq_false_or_eq_true (qA==0) with h2|h2
 · have g2:qA=0:=by simpa using h2
   refine tell 18 h2<|zE hn<|coI (pA==3) (fun h3=>?_) fun h3=>?_
   · have g3:pA=3:=by simpa using h3
     first|(have hr:=hr.trans (JX g3);have hr:=hr.trans (JX g2))|(have hr:=hr.trans (JX g2);have hr:=hr.trans (JX g3))
     exact coZ<|zR 2 hn<|zX (QNm hn.at_) hn hr<|fun v4 s4 z4 w4 hk4 hn hr=>zFs hn (.u_af _ (v4)) (hn.at_.ms.u_af (hk4))<|fun w5 hn=>eoB<|eoV (OutY.ok (dZ hr) hn)
   have g3:¬pA=3:=by simpa using h3
   first|(have hr:=hr.trans (JX g2);have hr:=hr.trans (JP g3))|(have hr:=hr.trans (JP g3);have hr:=hr.trans (JX g2))
   refine zQ hn<|coJ (qA==0) (fun h7=>absurd h7 (by first|(simp;omega)|simp[*]))<|fun h7=>?_
   iterate 2 first|have hr:=pZ hr|have hr:=qZ hr|have hr:=pbZ hr|have hr:=qbZ hr|skip
   exact coR<|zR 1 hn<|zX (QNm hn.at_) hn hr<|fun v9 s9 z9 w9 hk9 hn hr=>zE hn<|zPz 14 hn<|fun w10 hn=>have b11:=hn.at_.ms.r;zD [0,1,2,3,4,5,6,7,8,9,10] hn<|zDb 11 (XN s9.r s9.plane pA v9 _) hn<|fun w12 hn=>zD [12,13] hn<|poE<|zFs hn _ (hn.at_.ms.u_rg ((b11).setPair _ _ (hk9)))<|fun w13 hn=>eoB<|eoV (OutY.ok (dZ hr) hn)
 have g2:¬qA=0:=by simpa using h2
 refine tell 18 h2<|zE hn<|coF ?_
 iterate 2 first|have hr:=pZ hr|have hr:=qZ hr|have hr:=pbZ hr|have hr:=qbZ hr|skip
 refine zQ hn<|coK (qA==0) (fun h15=>absurd h15 (by first|(simp;omega)|simp[*]))<|fun h15=>?_
 iterate 2 first|have hr:=pZ hr|have hr:=qZ hr|have hr:=pbZ hr|have hr:=qbZ hr|skip
 refine zQ hn<|coI (pA==0) (fun h17=>?_) fun h17=>?_
 · have g17:pA=0:=by simpa using h17
   iterate 2 first|have hr:=pZ hr|have hr:=qZ hr|have hr:=pbZ hr|have hr:=qbZ hr|skip
   exact coZ<|zR 1 hn<|zY (QJt hn.at_) hn hr<|fun s18 z18 w18 hn hr=>woE<|eoB<|eoV (OutY.ok (dZ hr) hn)
 have g17:¬pA=0:=by simpa using h17
 iterate 2 first|have hr:=pZ hr|have hr:=qZ hr|have hr:=pbZ hr|have hr:=qbZ hr|skip
 refine zQ hn<|coI (pA==1) (fun h20=>?_) fun h20=>?_
 · have g20:pA=1:=by simpa using h20
   iterate 2 first|have hr:=pZ hr|have hr:=qZ hr|have hr:=pbZ hr|have hr:=qbZ hr|skip
   exact have b21:=hn.at_.ms.r;coZ<|zR 5 hn<|zBB (QO9 s.r _) hn<|fun w22 hn=>zFs hn _ (hn.at_.ms.u_rg ((b21).exx))<|fun w23 hn=>eoB<|eoV (OutY.ok (dZ hr) hn)
 have g20:¬pA=1:=by simpa using h20
 iterate 2 first|have hr:=pZ hr|have hr:=qZ hr|have hr:=pbZ hr|have hr:=qbZ hr|skip
 refine zQ hn<|coI (pA==2) (fun h25=>?_) fun h25=>?_
 · have g25:pA=2:=by simpa using h25
   iterate 2 first|have hr:=pZ hr|have hr:=qZ hr|have hr:=pbZ hr|have hr:=qbZ hr|skip
   exact have b26:=Xs hn.at_.ms;coZ<|zR 2 hn<|zAA (QDh hn.at_) hn<|fun w27 hn=>zFs hn (.u_pc _ (s.hl)) (hn.at_.ms.u_pc (b26))<|fun w28 hn=>eoB<|eoV (OutY.ok (dZ hr) hn)
 have g25:¬pA=2:=by simpa using h25
 iterate 2 first|have hr:=pZ hr|have hr:=qZ hr|have hr:=pbZ hr|have hr:=qbZ hr|skip
 exact coR<|zR 1 hn<|zY (Jo 2 hn.at_) hn hr<|fun s30 z30 w30 hn hr=>wT<|have b31:=Xs hn.at_.ms;coZ<|zR 2 hn<|zAA (QDh hn.at_) hn<|fun w32 hn=>zFs hn (.u_sp _ (s30.hl)) (hn.at_.ms.u_sp (b31))<|fun w33 hn=>eoB<|eoV (OutY.ok (dZ hr) hn)
theorem QRP (y:Int){s:Ws} {xs:List Int} {z:Zs} {w:World} {p B:Nat}(h:AtW w p B s xs z) :
 Calls Tryz.prog 183 #[pT p 0,.int .i64 (y)] w (OutY w p B xs ((QEA y s).runZ xs z)):=by
 have hn:=NowW.begin h
 have hr:(QEA y s).runZ xs z=(QEA y s).runZ xs z:=rfl
 go_enter Tryz.func183,Tryz.ntmps183
 refine JB<|zQ hn<|coB<|zQ hn<|zIf hr (fun g3 hr=>?_) fun g3 hr=>?_
 · exact coR<|zR 2 hn<|zX (QCg hn.at_) hn hr<|fun v5 s5 z5 w5 hk5 hn hr=>zEs hn (.u_pc _ (v5)) (hn.at_.ms.u_pc (hk5))<|fun w6 hn=>have b7:=hn.at_.ms.r.pc;coZ<|zFs hn ((s5.u_pc (v5)).u_wz ((s5.u_pc (v5)).r.pc)) (hn.at_.ms.u_wz (b7))<|fun w8 hn=>eoB<|eoV (OutY.ok (dZ hr) hn)
 refine zQ hn<|zIf hr (fun g10 hr=>?_) fun g10 hr=>?_
 · exact coR<|zR 1 hn<|zX (XP hn.at_) hn hr<|fun v12 s12 z12 w12 hk12 hn hr=>zE hn<|have b14:=Js hn.at_.ms;coR<|zR 2 hn<|zAA (w_a hn.at_) hn<|fun w15 hn=>zR 1 hn<|kE (QV s12.a v12 (b14).1 (b14).2 (hk12).1 (hk12).2 _)<|have b17:=Js hn.at_.ms;zR 1 hn<|zAA (w_a hn.at_) hn<|fun w18 hn=>zX (Xw 5 (256*s12.a+v12) (Wd16.mk8 (b14) (hk12)) s12.a (b17) 4 hn.at_) hn hr<|fun v19 s19 z19 w19 hk19 hn hr=>wT<|have b20:=Js hn.at_.ms;coZ<|zR 2 hn<|zAA (w_a hn.at_) hn<|fun w21 hn=>zR 2 hn<|kE (QV s19.a ((v12+1)%256) (b20).1 (b20).2 (B8.mod _).1 (B8.mod _).2 _)<|zFs hn (.u_wz _ (256*s19.a+((v12+1)%256))) (hn.at_.ms.u_wz (Wd16.mk8 (b20) (B8.mod _)))<|fun w23 hn=>eoB<|eoV (OutY.ok (dZ hr) hn)
 refine zQ hn<|zIf hr (fun g25 hr=>?_) fun g25 hr=>?_
 · exact coR<|zR 1 hn<|zX (XP hn.at_) hn hr<|fun v27 s27 z27 w27 hk27 hn hr=>zE hn<|have b29:=Js hn.at_.ms;coR<|zR 1 hn<|zAA (w_a hn.at_) hn<|fun w30 hn=>zR 1 hn<|kE (QV s27.a v27 (b29).1 (b29).2 (hk27).1 (hk27).2 _)<|zE hn<|coR<|zR 2 hn<|zX (Xw 4 (256*s27.a+v27) (Wd16.mk8 (b29) (hk27)) 0 (⟨by decide,by decide⟩) 4 hn.at_) hn hr<|fun v33 s33 z33 w33 hk33 hn hr=>zE hn<|have b35:=QP hn.at_.ms;coR<|zR 3 hn<|zAA (w_f hn.at_) hn<|fun w36 hn=>zAA (QU v33 (hk33) s33.f (b35) hn.at_) hn<|fun w37 hn=>wT<|coZ<|zFs hn (.u_wz _ (((256*s27.a+v27)+1)%65536)) (hn.at_.ms.u_wz (Wd16.mod _))<|fun w38 hn=>eoB<|eoV (OutY.ok (dZ hr) hn)
 refine zQ hn<|zIf hr (fun g40 hr=>?_) fun g40 hr=>?_
 · exact have b42:=hn.at_.ms.r.sp;coR<|zR 6 hn<|zX (Xb s.r.sp (b42) hn.at_) hn hr<|fun v43 s43 z43 w43 hk43 hn hr=>zE hn<|have b45:=hn.at_.ms.r.sp;coR<|zR 7 hn<|zX (Xb ((s43.r.sp+1)%65536) (Wd16.mod _) hn.at_) hn hr<|fun v46 s46 z46 w46 hk46 hn hr=>zE hn<|coR<|zR 1 hn<|zY (Jo 1 hn.at_) hn hr<|fun s48 z48 w48 hn hr=>wT<|zP 10 hn<|fun w50 hn=>have b51:=hn.at_.ms.r.sp;have b52:=Xs hn.at_.ms;zD [0,1,2,3,4,5,6,7] hn<|zDa 8 (QDh hn.at_) hn<|fun w53 hn=>zDe 9 (Xd s48.hl (b52).1 (b52).2 _) hn<|poE<|zY (Q3 ((s48.r.sp+1)%65536) (Wd16.mod _) (s48.hl / 256) ((b52).hi) hn.at_) hn hr<|fun s55 z55 w55 hn hr=>wT<|zP 9 hn<|fun w57 hn=>have b58:=hn.at_.ms.r.sp;have b59:=Xs hn.at_.ms;zD [0,1,2,3,4,5,6] hn<|zDa 7 (QDh hn.at_) hn<|fun w60 hn=>zDe 8 (Q4 s55.hl (b59).1 (b59).2 _) hn<|poE<|zY (Q3 s55.r.sp (b58) (s55.hl%256) ((b59).lo8) hn.at_) hn hr<|fun s62 z62 w62 hn hr=>wT<|coR<|zR 1 hn<|zY (Jo 2 hn.at_) hn hr<|fun s64 z64 w64 hn hr=>wT<|coR<|zR 3 hn<|kE (QV v46 v43 (hk46).1 (hk46).2 (hk43).1 (hk43).2 _)<|zEs hn (.u_wz _ (256*v46+v43)) (hn.at_.ms.u_wz (Wd16.mk8 (hk46) (hk43)))<|fun w67 hn=>have b68:=hn.at_.ms.r.wz;coZ<|zR 6 hn<|zAA (QG4 ((s64.u_wz (256*v46+v43)).r.wz) (b68) hn.at_) hn<|fun w69 hn=>woE<|eoB<|eoV (OutY.ok (dZ hr) hn)
 refine zQ hn<|zIf hr (fun g71 hr=>?_) fun g71 hr=>?_
 · exact have b73:=hn.at_.ms.r.de;zQ hn<|have b75:=hn.at_.ms.r.hl;zQs hn (.u_de _ (s.r.hl)) (hn.at_.ms.u_de (b75))<|fun w76 hn=>coZ<|zFs hn (.u_hl _ (s.r.de)) (hn.at_.ms.u_hl (b73))<|fun w77 hn=>eoB<|eoV (OutY.ok (dZ hr) hn)
 refine zQ hn<|zIf hr (fun g79 hr=>?_) fun g79 hr=>?_
 · exact zQs hn (.u_iff1 _ (false)) (hn.at_.ms.u_iff1)<|fun w81 hn=>coZ<|zFs hn (.u_iff2 _ (false)) (hn.at_.ms.u_iff2)<|fun w82 hn=>eoB<|eoV (OutY.ok (dZ hr) hn)
 refine zQ hn<|zIf hr (fun g84 hr=>?_) fun g84 hr=>?_
 · exact zQs hn (.u_iff1 _ (true)) (hn.at_.ms.u_iff1)<|fun w86 hn=>zQs hn (.u_iff2 _ (true)) (hn.at_.ms.u_iff2)<|fun w88 hn=>coZ<|zFs hn (.u_late _ (true)) (hn.at_.ms.u_late)<|fun w89 hn=>eoB<|eoV (OutY.ok (dZ hr) hn)
 exact JC<|eoB<|eoV (OutY.ok (dZ hr) hn)
theorem QTD (y:Int)(hAy:0≤y∧y≤7)(zA:Int)(pA:Int)(qA:Int){s:Ws} {xs:List Int} {z:Zs} {w:World} {p B:Nat}(h:AtW w p B s xs z) :
 Calls Tryz.prog 123 #[pT p 0,.int .i64 (y),.int .i64 (zA),.int .i64 (pA),.int .i64 (qA)] w (OutY w p B xs ((QGY y zA pA qA s).runZ xs z)):=by
 have hn:=NowW.begin h
 have hr:(QGY y zA pA qA s).runZ xs z=(QGY y zA pA qA s).runZ xs z:=rfl
 go_enter Tryz.func123,Tryz.ntmps123
 refine JB<|have b2:=QP hn.at_.ms;coR<|zR 1 hn<|zAA (w_f hn.at_) hn<|fun w3 hn=>zR 1 hn<|zBB (QF9 s.f y (b2).1 (b2).2 _ ) hn<|fun w4 hn=>zE hn<|zQ hn<|coB<|zQ hn<|zIf hr (fun g7 hr=>?_) fun g7 hr=>?_
 · refine coR<|zR 1 hn<|zY (Jo 1 hn.at_) hn hr<|fun s9 z9 w9 hn hr=>wT<|zQ hn<|coI (Z4 s.f y) (fun h11=>?_) fun h11=>?_
   · have g11:Z4 s.f y=true:=by simpa using h11
     exact have hr:=hr.trans (JX g11);coZ<|zR 1 hn<|zY (QJt hn.at_) hn hr<|fun s12 z12 w12 hn hr=>woE<|eoB<|eoV (OutY.ok (dZ hr) hn)
   have g11:¬Z4 s.f y=true:=by simpa using h11
   exact have hr:=hr.trans (JP g11);JC<|eoB<|eoV (OutY.ok (dZ hr) hn)
 refine zQ hn<|zIf hr (fun g14 hr=>?_) fun g14 hr=>?_
 · exact coZ<|zR 3 hn<|zYt (QSx pA qA hn.at_) hn hr<|fun s15 z15 w15 hn hr=>woE<|eoB<|eoV (OutY.ok hr hn)
 refine zQ hn<|zIf hr (fun g17 hr=>?_) fun g17 hr=>?_
 · refine coR<|zR 2 hn<|zX (QCg hn.at_) hn hr<|fun v19 s19 z19 w19 hk19 hn hr=>zEs hn (.u_wz _ (v19)) (hn.at_.ms.u_wz (hk19))<|fun w20 hn=>zQ hn<|coI (Z4 s.f y) (fun h22=>?_) fun h22=>?_
   · have g22:Z4 s.f y=true:=by simpa using h22
     exact have hr:=hr.trans (JX g22);have b23:=hn.at_.ms.r.wz;coZ<|zFs hn ((s19.u_wz (v19)).u_pc ((s19.u_wz (v19)).r.wz)) (hn.at_.ms.u_pc (b23))<|fun w24 hn=>eoB<|eoV (OutY.ok (dZ hr) hn)
   have g22:¬Z4 s.f y=true:=by simpa using h22
   exact have hr:=hr.trans (JP g22);JC<|eoB<|eoV (OutY.ok (dZ hr) hn)
 refine zQ hn<|zIf hr (fun g26 hr=>?_) fun g26 hr=>?_
 · exact coZ<|zR 2 hn<|zYt (QRP y hn.at_) hn hr<|fun s27 z27 w27 hn hr=>woE<|eoB<|eoV (OutY.ok hr hn)
 refine zQ hn<|zIf hr (fun g29 hr=>?_) fun g29 hr=>?_
 · exact coZ<|zR 2 hn<|zYt (QOI (Z4 s.f y) hn.at_) hn hr<|fun s30 z30 w30 hn hr=>woE<|eoB<|eoV (OutY.ok hr hn)
 refine zQ hn<|zIf hr (fun g32 hr=>?_) fun g32 hr=>?_
 · refine coS<|zQ hn<|zIf hr (fun g35 hr=>?_) fun g35 hr=>?_
   · exact coR<|zR 1 hn<|zY (QOI true hn.at_) hn hr<|fun s37 z37 w37 hn hr=>wT<|JF<|Jp<|Z3<|qx (OutY.ok (dZ hr) hn)
   refine JC<|eoT<|coR<|zR 1 hn<|zY (Jo 1 hn.at_) hn hr<|fun s39 z39 w39 hn hr=>wT<|zQ hn<|zIf hr (fun g41 hr=>?_) fun g41 hr=>?_
   · exact have b42:=hn.at_.ms.r.af;coZ<|zR 6 hn<|zY (QGr s39.r.af (b42) hn.at_) hn hr<|fun s43 z43 w43 hn hr=>woE<|eoB<|eoV (OutY.ok (dZ hr) hn)
   exact zPz 11 hn<|fun w44 hn=>have b45:=hn.at_.ms.r;zD [0,1,2,3,4,5,6,7,8,9] hn<|zDb 10 (Qo s39.r s39.plane pA _) hn<|fun w46 hn=>poE<|zY (QGr (Jk s39.r s39.plane pA) ((b45).pair _ _) hn.at_) hn hr<|fun s47 z47 w47 hn hr=>woE<|eoB<|eoV (OutY.ok (dZ hr) hn)
 refine zQ hn<|zIf hr (fun g49 hr=>?_) fun g49 hr=>?_
 · exact coR<|zR 1 hn<|zX (XP hn.at_) hn hr<|fun v51 s51 z51 w51 hk51 hn hr=>zE hn<|coZ<|zR 3 hn<|zAA (QRq y v51 (hk51) hn.at_) hn<|fun w52 hn=>woE<|eoB<|eoV (OutY.ok (dZ hr) hn)
 exact coR<|zR 1 hn<|zY (Jo 1 hn.at_) hn hr<|fun s54 z54 w54 hn hr=>wT<|have b56:=hn.at_.ms.r.pc;coR<|zR 6 hn<|zY (QGr s54.r.pc (b56) hn.at_) hn hr<|fun s57 z57 w57 hn hr=>wT<|coR<|zR 2 hn<|QKZ 28 (egI _ _ _ _ _) (QRZ 8 y (by have:=hAy;omega) (by have:=hAy;omega))<|zEs hn (.u_pc _ ((8*y)%65536)) (hn.at_.ms.u_pc (Wd16.mod _))<|fun w59 hn=>have b60:=hn.at_.ms.r.pc;coZ<|zFs hn ((s57.u_pc ((8*y)%65536)).u_wz ((s57.u_pc ((8*y)%65536)).r.pc)) (hn.at_.ms.u_wz (b60))<|fun w61 hn=>eoB<|eoV (OutY.ok (dZ hr) hn)
theorem QT1 (y:Int)(hAy:0≤y∧y≤7)(zA:Int)(pA:Int)(qA:Int){s:Ws} {xs:List Int} {z:Zs} {w:World} {p B:Nat}(h:AtW w p B s xs z) :
 Calls Tryz.prog 121 #[pT p 0,.int .i64 (y),.int .i64 (zA),.int .i64 (pA),.int .i64 (qA)] w (OutY w p B xs ((QJs y zA pA qA s).runZ xs z)):=by
 have hn:=NowW.begin h
 have hr:(QJs y zA pA qA s).runZ xs z=(QJs y zA pA qA s).runZ xs z:=rfl
 go_enter Tryz.func121,Tryz.ntmps121
 refine JB<|zQ hn<|coB<|zQ hn<|zIf hr (fun g3 hr=>?_) fun g3 hr=>?_
 · exact coZ<|zR 2 hn<|zYt (QSZ y (hAy) hn.at_) hn hr<|fun s4 z4 w4 hn hr=>woE<|eoB<|eoV (OutY.ok hr hn)
 refine zQ hn<|zIf hr (fun g6 hr=>?_) fun g6 hr=>?_
 · refine coS<|zQ hn<|zIf hr (fun g9 hr=>?_) fun g9 hr=>?_
   · exact coR<|zR 1 hn<|zX (QCg hn.at_) hn hr<|fun v11 s11 z11 w11 hk11 hn hr=>zE hn<|zP 14 hn<|fun w13 hn=>have b14:=hn.at_.ms.r;zD [0,1,2,3,4,5,6,7,8,9,10] hn<|zDb 11 (XN s11.r s11.plane pA v11 _) hn<|fun w15 hn=>zD [12,13] hn<|poE<|zEs hn _ (hn.at_.ms.u_rg ((b14).setPair _ _ (hk11)))<|fun w16 hn=>JF<|Jp<|Z3<|qx (OutY.ok (dZ hr) hn)
   exact JC<|eoT<|coR<|zR 1 hn<|zY (Jo 7 hn.at_) hn hr<|fun s18 z18 w18 hn hr=>wT<|have b20:=Xs hn.at_.ms;coR<|zR 2 hn<|zAA (QDh hn.at_) hn<|fun w21 hn=>zEs hn (.u_wz _ ((s18.hl+1)%65536)) (hn.at_.ms.u_wz (Wd16.mod _))<|fun w22 hn=>zP 19 hn<|fun w24 hn=>have b25:=hn.at_.ms.r;have b26:=Xs hn.at_.ms;zD [0,2,3,4,5,6,7,8,9,10,12] hn<|zDa 1 (QDh hn.at_) hn<|fun w27 hn=>zDb 11 (Qo ((s18.u_wz ((s18.hl+1)%65536)).r) ((s18.u_wz ((s18.hl+1)%65536)).plane) pA _) hn<|fun w28 hn=>have b29:=QP hn.at_.ms;zDa 13 (w_f hn.at_) hn<|fun w30 hn=>zDb 14 (QLz ((s18.u_wz ((s18.hl+1)%65536)).hl) (Jk ((s18.u_wz ((s18.hl+1)%65536)).r) ((s18.u_wz ((s18.hl+1)%65536)).plane) pA) ((s18.u_wz ((s18.hl+1)%65536)).f) (b26) ((b25).pair _ _) (b29) _) hn<|fun w31 hn=>zD [15,16,17,18] hn<|poE<|zE hn<|coR<|zR 2 hn<|zAA (QG4 (X0 ((s18.u_wz ((s18.hl+1)%65536)).hl) (Jk ((s18.u_wz ((s18.hl+1)%65536)).r) ((s18.u_wz ((s18.hl+1)%65536)).plane) pA) false) (Wd16.mod _) hn.at_) hn<|fun w33 hn=>wT<|have b34:=Js hn.at_.ms;coZ<|zR 2 hn<|zAA (w_a hn.at_) hn<|fun w35 hn=>zR 1 hn<|zAA (QU (((s18.u_wz ((s18.hl+1)%65536)).setHl (X0 ((s18.u_wz ((s18.hl+1)%65536)).hl) (Jk ((s18.u_wz ((s18.hl+1)%65536)).r) ((s18.u_wz ((s18.hl+1)%65536)).plane) pA) false)).a) (b34) (QBv ((s18.u_wz ((s18.hl+1)%65536)).hl) (Jk ((s18.u_wz ((s18.hl+1)%65536)).r) ((s18.u_wz ((s18.hl+1)%65536)).plane) pA) ((s18.u_wz ((s18.hl+1)%65536)).f)) (QEs _ _ _) hn.at_) hn<|fun w36 hn=>woE<|eoB<|eoV (OutY.ok (dZ hr) hn)
 refine zQ hn<|zIf hr (fun g38 hr=>?_) fun g38 hr=>?_
 · exact coZ<|zR 2 hn<|zYt (QN6 y hn.at_) hn hr<|fun s39 z39 w39 hn hr=>woE<|eoB<|eoV (OutY.ok hr hn)
 refine zQ hn<|zIf hr (fun g41 hr=>?_) fun g41 hr=>?_
 · refine coR<|zR 1 hn<|zY (Jo 2 hn.at_) hn hr<|fun s43 z43 w43 hn hr=>wT<|zP 10 hn<|fun w45 hn=>have b46:=hn.at_.ms.r;zD [0,1,2,3,4,5,6,7,8] hn<|zDb 9 (Qo s43.r s43.plane pA _) hn<|fun w47 hn=>poE<|zE hn<|coS<|zQ hn<|zIf hr (fun g50 hr=>?_) fun g50 hr=>?_
   · exact coZ<|zE hn<|zPz 14 hn<|fun w51 hn=>have b52:=hn.at_.ms.r;zD [0,1,2,3,4,5,6,7,8,9,10] hn<|zDb 11 (XN s43.r s43.plane pA (((Jk s43.r s43.plane pA)+1)%65536) _) hn<|fun w53 hn=>zD [12,13] hn<|poE<|zFs hn _ (hn.at_.ms.u_rg ((b52).setPair _ _ (Wd16.mod _)))<|fun w54 hn=>eoB<|eoV (OutY.ok (dZ hr) hn)
   exact coZ<|zE hn<|zPz 14 hn<|fun w55 hn=>have b56:=hn.at_.ms.r;zD [0,1,2,3,4,5,6,7,8,9,10] hn<|zDb 11 (XN s43.r s43.plane pA (((Jk s43.r s43.plane pA)-1)%65536) _) hn<|fun w57 hn=>zD [12,13] hn<|poE<|zFs hn _ (hn.at_.ms.u_rg ((b56).setPair _ _ (Wd16.mod _)))<|fun w58 hn=>eoB<|eoV (OutY.ok (dZ hr) hn)
 refine coS<|zQ hn<|coI (zA==4) (fun h61=>?_) fun h61=>?_
 · have g61:zA=4:=by simpa using h61
   refine have hr:=hr.trans (JX (.inl g61));JC<|eoT<|coJ (zA==4) (fun h62=>absurd h62 (by first|(simp;omega)|simp[*]))<|fun h62=>?_
   first|have hr:=pZ hr|have hr:=qZ hr|have hr:=pbZ hr|have hr:=qbZ hr|skip
   exact coZ<|zR 3 hn<|zYt (QPJ y zA hn.at_) hn hr<|fun s63 z63 w63 hn hr=>woE<|eoB<|eoV (OutY.ok hr hn)
 have g61:¬zA=4:=by simpa using h61
 first|have hr:=pZ hr|have hr:=qZ hr|have hr:=pbZ hr|have hr:=qbZ hr|skip
 refine coZ<|zE hn<|coI (zA==5) (fun h64=>?_) fun h64=>?_
 · have g64:zA=5:=by simpa using h64
   exact have hr:=hr.trans (JX (.inr g64));coZ<|zR 3 hn<|zYt (QPJ y zA hn.at_) hn hr<|fun s65 z65 w65 hn hr=>woE<|eoB<|eoV (OutY.ok hr hn)
 have g64:¬zA=5:=by simpa using h64
 refine have hr:=hr.trans (JP (not_or.2 ⟨g61,g64⟩));zQ hn<|zIf hr (fun g67 hr=>?_) fun g67 hr=>?_
 · refine coS<|coR<|zR 3 hn ?_
   rcases Bool.eq_false_or_eq_true (y==6) with h70|h70
   · have g70:y=6:=by simpa using h70
     refine tell 131 h70<|zE hn<|coI (s.plane != 0) (fun h71=>?_) fun h71=>?_
     · have g71:¬s.plane=0:=by simpa using h71
       exact have hr:=hr.trans (JX (by simp[g71,g70,g67,g64,g61,g41,g38,g6,g3]));coR<|zR 1 hn<|zX (XP hn.at_) hn hr<|fun v73 s73 z73 w73 hk73 hn hr=>zE hn<|have b75:=Xs hn.at_.ms;coR<|zR 2 hn<|zAA (QDh hn.at_) hn<|fun w76 hn=>zR 1 hn<|kE (za s73.hl v73 (b75) (hk73) _)<|zEs hn (.u_m _ (JA s73.hl (JR v73))) (hn.at_.ms.u_m (Wd16.mod _))<|fun w78 hn=>zQs hn (.u_known _ (true)) (hn.at_.ms.u_known)<|fun w80 hn=>have b82:=hn.at_.ms.m;zQs hn (((s73.u_m (JA s73.hl (JR v73))).u_known (true)).u_wz (((s73.u_m (JA s73.hl (JR v73))).u_known (true)).m)) (hn.at_.ms.u_wz (b82))<|fun w83 hn=>coR<|zR 1 hn<|zX (XP hn.at_) hn hr<|fun v85 s85 z85 w85 hk85 hn hr=>zE hn<|coR<|zR 1 hn<|zY (Jo 2 hn.at_) hn hr<|fun s87 z87 w87 hn hr=>wT<|have b89:=hn.at_.ms.m;coR<|zR 6 hn<|zY (Q3 s87.m (b89) v85 (hk85) hn.at_) hn hr<|fun s90 z90 w90 hn hr=>wT<|JF<|Jp<|Z3<|qx (OutY.ok (dZ hr) hn)
     have g71:s.plane=0:=by simpa using h71
     exact have hr:=hr.trans (JP (by simp[g71,g70,g67,g64,g61,g41,g38,g6,g3]));JC<|eoT<|coR<|zR 1 hn<|zX (XP hn.at_) hn hr<|fun v92 s92 z92 w92 hk92 hn hr=>zE hn<|coZ<|zR 3 hn<|zYt (Xy y v92 (hk92) hn.at_) hn hr<|fun s93 z93 w93 hn hr=>woE<|eoB<|eoV (OutY.ok hr hn)
   have g70:¬y=6:=by simpa using h70
   exact tell 131 h70<|zE hn<|coF<|have hr:=hr.trans (JP (by simp[g70,g67,g64,g61,g41,g38,g6,g3]));JC<|eoT<|coR<|zR 1 hn<|zX (XP hn.at_) hn hr<|fun v95 s95 z95 w95 hk95 hn hr=>zE hn<|coZ<|zR 3 hn<|zYt (Xy y v95 (hk95) hn.at_) hn hr<|fun s96 z96 w96 hn hr=>woE<|eoB<|eoV (OutY.ok hr hn)
 exact coZ<|zR 2 hn<|zAA (QSl y hn.at_) hn<|fun w97 hn=>woE<|eoB<|eoV (OutY.ok (dZ hr) hn)
theorem QQH (n:Int)(c:Int)(hAc:B8 c){s:Ws} {xs:List Int} {z:Zs} {w:World} {p B:Nat}(h:AtW w p B s xs z) :
 Calls Tryz.prog 88 #[pT p 0,.int .i64 (n),.int .u8 (c)] w (OutY w p B xs ((QAY n c s).runZ xs z)):=by
 have hn:=NowW.begin h
 have hr:(QAY n c s).runZ xs z=(QAY n c s).runZ xs z:=rfl
 go_enter Tryz.func88,Tryz.ntmps88
 refine JB<|zQs hn (.u_plane _ (n)) (hn.at_.ms.u_plane)<|fun w2 hn=>zQs hn (.u_code _ (c)) (hn.at_.ms.u_code (hAc))<|fun w4 hn=>coR<|zR 1 hn<|kE (qk c (hAc) _)<|zE hn<|zQ hn<|coB<|zQ hn<|zIf hr (fun g9 hr=>?_) fun g9 hr=>?_
 · exact coZ<|zR 5 hn<|zYt (QT1 (fy c) (QFJ c (hAc)) (fz c) (fp c) (fq c) hn.at_) hn hr<|fun s10 z10 w10 hn hr=>woE<|eoB<|eoV (OutY.ok hr hn)
 refine zQ hn<|zIf hr (fun g12 hr=>?_) fun g12 hr=>?_
 · refine coS<|coR<|zR 3 hn ?_
   rcases Bool.eq_false_or_eq_true ((fy c)==6) with h15|h15
   · have g15:(fy c)=6:=by simpa using h15
     refine tell 48 h15<|zE hn<|coI ((fz c)==6) (fun h16=>?_) fun h16=>?_
     · have g16:(fz c)=6:=by simpa using h16
       exact have hr:=hr.trans (JX (⟨g15,g16⟩));zQs hn (.u_halted _ (true)) (hn.at_.ms.u_halted)<|fun w18 hn=>JF<|Jp<|Z3<|qx (OutY.ok (dZ hr) hn)
     have g16:¬(fz c)=6:=by simpa using h16
     exact have hr:=hr.trans (JP (fun h=>g16 h.2));JC<|eoT<|coR<|zR 2 hn<|zX (QFU (fz c) hn.at_) hn hr<|fun v20 s20 z20 w20 hk20 hn hr=>zE hn<|coZ<|zR 3 hn<|zYt (Xy (fy c) v20 (hk20) hn.at_) hn hr<|fun s21 z21 w21 hn hr=>woE<|eoB<|eoV (OutY.ok hr hn)
   have g15:¬(fy c)=6:=by simpa using h15
   exact tell 48 h15<|zE hn<|coF<|have hr:=hr.trans (JP (fun h=>g15 h.1));JC<|eoT<|coR<|zR 2 hn<|zX (QFU (fz c) hn.at_) hn hr<|fun v23 s23 z23 w23 hk23 hn hr=>zE hn<|coZ<|zR 3 hn<|zYt (Xy (fy c) v23 (hk23) hn.at_) hn hr<|fun s24 z24 w24 hn hr=>woE<|eoB<|eoV (OutY.ok hr hn)
 refine zQ hn<|zIf hr (fun g26 hr=>?_) fun g26 hr=>?_
 · exact coR<|zR 2 hn<|zX (QFU (fz c) hn.at_) hn hr<|fun v28 s28 z28 w28 hk28 hn hr=>zE hn<|coZ<|zR 3 hn<|zAA (QRq (fy c) v28 (hk28) hn.at_) hn<|fun w29 hn=>woE<|eoB<|eoV (OutY.ok (dZ hr) hn)
 exact coZ<|zR 5 hn<|zYt (QTD (fy c) (QFJ c (hAc)) (fz c) (fp c) (fq c) hn.at_) hn hr<|fun s30 z30 w30 hn hr=>woE<|eoB<|eoV (OutY.ok hr hn)
end Go.Proofs.YtkenebbjodcbcaaGreatDoor
