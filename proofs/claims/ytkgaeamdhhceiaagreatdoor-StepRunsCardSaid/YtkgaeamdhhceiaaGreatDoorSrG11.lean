/- Contracts and facts that the claim's proof wants (several texts in one). -/
import Derived.Test.YtkgaeamdhhceiaaGreatDoorSrG10
namespace Go.Proofs.YtkgaeamdhhceiaaGreatDoor
open Go.RowKit
set_option linter.unusedVariables false
set_option linter.unusedSimpArgs false
set_option maxRecDepth 20000
set_option maxHeartbeats 20000000
theorem QIa  {s:Ms} {xs:List Int} {w:World} {p B:Nat}(h:AtN w p B s xs) :
 Calls Tryz.prog 292 #[pT p 0] w (fun e w'=>e=.returned (.int .u8 (s.left))∧NowN w p B (s.lessB) xs w'):=by
 have hn:=NowN.begin h
 go_enter Tryz.func292,Tryz.ntmps292
 exact JB<|nQ hn<|have b3:=hn.at_.ms.r.get s.plane 0;coR<|nR 1 hn<|nA (QQT 0 (by decide) hn.at_) hn<|fun w4 hn=>nE hn<|coR<|nR 2 hn<|nA (QU9 0 (((zO s.r s.plane 0)-1)%256) (B8.mod _) (by decide) hn.at_) hn<|fun w6 hn=>wT<|nQ hn<|JJ<|J8 (.int .u8 (((zO s.r s.plane 0)-1)%256)) (⟨rfl,hn⟩)
theorem QTd  {s:Ms} {xs:List Int} {w:World} {p B:Nat}(h:AtN w p B s xs) :
 Calls Tryz.prog 185 #[pT p 0] w (OutV w p B ((QFG s).run xs)):=by
 have hn:=NowN.begin h
 have hr:(QFG s).run xs=(QFG s).run xs:=rfl
 go_enter Tryz.func185,Tryz.ntmps185
 exact JB<|have b2:=QBy hn.at_.ms;coR<|nR 2 hn<|nA (QMs hn.at_) hn<|fun w3 hn=>nR 1 hn<|nI (jL hn.at_) hn hr<|fun v4 s4 xs4 w4 hk4 hn hr=>kE (QI4 s.hl v4 (b2) (hk4) _)<|nEs hn (.u_spot _ (JA s.hl (JR v4))) (hn.at_.ms.u_spot (Wd16.mod _))<|fun w6 hn=>have b8:=hn.at_.ms.spot;nQs hn ((s4.u_spot (JA s.hl (JR v4))).u_wz ((s4.u_spot (JA s.hl (JR v4))).spot)) (hn.at_.ms.u_wz (b8))<|fun w9 hn=>nQs hn (.u_near _ (true)) (hn.at_.ms.u_near)<|fun w11 hn=>coZ<|nFs hn (.u_plane _ (0)) (hn.at_.ms.u_plane ((by decide)))<|fun w12 hn=>eoV (OutV.ok (dN hr) hn)
theorem QFj (o:Bool){s:Ms} {xs:List Int} {w:World} {p B:Nat}(h:AtN w p B s xs) :
 Calls Tryz.prog 298 #[pT p 0,.bool (o)] w (OutV w p B ((qi o s).run xs)):=by
 have hn:=NowN.begin h
 have hr:(qi o s).run xs=(qi o s).run xs:=rfl
 go_enter Tryz.func298,Tryz.ntmps298
 refine JB<|coR<|nR 1 hn<|nI (jL hn.at_) hn hr<|fun v2 s2 xs2 w2 hk2 hn hr=>nE hn<|coS<|nQ hn<|coI (!(o)) (fun h5=>?_) fun h5=>?_
 · have g5:¬o=true:=by simpa using h5
   exact have hr:=hr.trans (JF g5);JJ<|QF<|qX (OutV.ok (dN hr) hn)
 have g5:o=true:=by simpa using h5
 exact have hr:=hr.trans (JI g5);JE<|eoT<|coR<|nR 1 hn<|nV (QQ 5 hn.at_) hn hr<|fun s7 xs7 w7 hn hr=>wT<|have b8:=hn.at_.ms.r.pc;coZ<|nR 7 hn<|kE (QI4 s7.r.pc v2 (b8) (hk2) _)<|nA (QDa (JA s7.r.pc (JR v2)) (Wd16.mod _) hn.at_) hn<|fun w10 hn=>woE<|eoV (OutV.ok (dN hr) hn)
theorem QO9  {s:Ms} {xs:List Int} {w:World} {p B:Nat}(h:AtN w p B s xs) :
 Calls Tryz.prog 247 #[pT p 0] w (OutV w p B ((QAk s).run xs)):=by
 have hn:=NowN.begin h
 have hr:(QAk s).run xs=(QAk s).run xs:=rfl
 go_enter Tryz.func247,Tryz.ntmps247
 refine JB<|nQ hn<|coB<|nQ hn<|nIf hr (fun g3 hr=>?_) fun g3 hr=>?_
 · exact JE<|eoB<|eoV (OutV.ok (dN hr) hn)
 refine nQ hn<|nIf hr (fun g5 hr=>?_) fun g5 hr=>?_
 · exact have b6:=hn.at_.ms.r;coZ<|nR 5 hn<|nB (QPh s.r _) hn<|fun w7 hn=>nFs hn _ (hn.at_.ms.u_rg ((b6).swap))<|fun w8 hn=>eoB<|eoV (OutV.ok (dN hr) hn)
 refine nQ hn<|nIf hr (fun g10 hr=>?_) fun g10 hr=>?_
 · exact coR<|nR 1 hn<|nV (QQ 1 hn.at_) hn hr<|fun s12 xs12 w12 hn hr=>wT<|coR<|nR 1 hn<|nA (QIa hn.at_) hn<|fun w14 hn=>nE hn<|coZ<|nR 3 hn<|nVt (QFj (s12.left != 0) hn.at_) hn hr<|fun s15 xs15 w15 hn hr=>woE<|eoB<|eoV (OutV.ok (dN hr) hn)
 refine nQ hn<|nIf hr (fun g17 hr=>?_) fun g17 hr=>?_
 · exact coZ<|nR 1 hn<|nV (QFj true hn.at_) hn hr<|fun s18 xs18 w18 hn hr=>woE<|eoB<|eoV (OutV.ok (dN hr) hn)
 exact coZ<|nR 6 hn<|QLu 13 (egI _ _ _ _ _) (QQu s.y 4 (by have:=hn.at_.ms.y;omega) (by have:=hn.at_.ms.y;omega))<|nA (QEW (s.y-4) hn.at_) hn<|fun w19 hn=>nVt (QFj (s.holds (s.y-4)) hn.at_) hn hr<|fun s20 xs20 w20 hn hr=>woE<|eoB<|eoV (OutV.ok (dN hr) hn)
theorem QKM  {s:Ms} {xs:List Int} {w:World} {p B:Nat}(h:AtN w p B s xs) :
 Calls Tryz.prog 248 #[pT p 0] w (OutV w p B ((Z4 s).run xs)):=by
 have hn:=NowN.begin h
 have hr:(Z4 s).run xs=(Z4 s).run xs:=rfl
 go_enter Tryz.func248,Tryz.ntmps248
 refine JB<|coS<|nQ hn<|nIf hr (fun g3 hr=>?_) fun g3 hr=>?_
 · exact coR<|nR 2 hn<|nI (QAf hn.at_) hn hr<|fun v5 s5 xs5 w5 hk5 hn hr=>nA (QAW v5 (hk5) hn.at_) hn<|fun w6 hn=>wT<|JJ<|QF<|qX (OutV.ok (dN hr) hn)
 exact JE<|eoT<|coR<|nR 1 hn<|nV (QQ 7 hn.at_) hn hr<|fun s8 xs8 w8 hn hr=>wT<|have b10:=QBy hn.at_.ms;coR<|nR 1 hn<|nA (QMs hn.at_) hn<|fun w11 hn=>nE hn<|nQs hn (.u_wz _ ((s8.hl+1)%65536)) (hn.at_.ms.u_wz (Wd16.mod _))<|fun w13 hn=>have b15:=Xv hn.at_.ms;coR<|nR 2 hn<|nA (q7 hn.at_) hn<|fun w16 hn=>have b17:=Qv hn.at_.ms;nR 1 hn<|nA (m_f hn.at_) hn<|fun w18 hn=>nB (QPS s8.hl ((s8.u_wz ((s8.hl+1)%65536)).pair) ((s8.u_wz ((s8.hl+1)%65536)).f) (b10) (b15) (b17) _) hn<|fun w19 hn=>nE hn<|coR<|nR 2 hn<|nA (QHt (ZK s8.hl ((s8.u_wz ((s8.hl+1)%65536)).pair) false) (Wd16.mod _) hn.at_) hn<|fun w21 hn=>wT<|coZ<|nR 2 hn<|nA (jA (QDA s8.hl ((s8.u_wz ((s8.hl+1)%65536)).pair) ((s8.u_wz ((s8.hl+1)%65536)).f)) (QEv _ _ _) hn.at_) hn<|fun w22 hn=>woE<|eoV (OutV.ok (dN hr) hn)
theorem QKW (x:Int)(hAx:Wd16 x){s:Ms} {xs:List Int} {w:World} {p B:Nat}(h:AtN w p B s xs) :
 Calls Tryz.prog 317 #[pT p 0,.int .u16 (x)] w (fun e w'=>e=.returned (.tuple #[])∧NowN w p B (QF0 s x) xs w'):=by
 have hn:=NowN.begin h
 go_enter Tryz.func317,Tryz.ntmps317
 exact JB<|have b1:=jU hn.at_.ms;coZ<|nR 2 hn<|nA (m_a hn.at_) hn<|fun w2 hn=>nR 1 hn<|kE (zH x (hAx).1 (hAx).2 _)<|nR 1 hn<|kE (J6 s.a (((x%256)+1)%256) (b1).1 (b1).2 (B8.mod _).1 (B8.mod _).2 _)<|nFs hn (.u_wz _ (256*s.a+(((x%256)+1)%256))) (hn.at_.ms.u_wz (Wd16.mk8 (b1) (B8.mod _)))<|fun w5 hn=>eoV (⟨rfl,hn⟩)
theorem QGO (a:Int)(hAa:Wd16 a){s:Ms} {xs:List Int} {w:World} {p B:Nat}(h:AtN w p B s xs) :
 Calls Tryz.prog 301 #[pT p 0,.int .u16 (a)] w (OutV w p B ((ql a s).run xs)):=by
 have hn:=NowN.begin h
 have hr:(ql a s).run xs=(ql a s).run xs:=rfl
 go_enter Tryz.func301,Tryz.ntmps301
 exact JB<|have b2:=jU hn.at_.ms;coR<|nR 3 hn<|nA (m_a hn.at_) hn<|fun w3 hn=>nV (Z3 a (hAa) s.a (b2) hn.at_) hn hr<|fun s4 xs4 w4 hn hr=>wT<|coZ<|nR 2 hn<|nA (QKW a (hAa) hn.at_) hn<|fun w5 hn=>woE<|eoV (OutV.ok (dN hr) hn)
theorem QIc (a:Int)(hAa:Wd16 a){s:Ms} {xs:List Int} {w:World} {p B:Nat}(h:AtN w p B s xs) :
 Calls Tryz.prog 302 #[pT p 0,.int .u16 (a)] w (OutV w p B ((QBE a s).run xs)):=by
 have hn:=NowN.begin h
 have hr:(QBE a s).run xs=(QBE a s).run xs:=rfl
 go_enter Tryz.func302,Tryz.ntmps302
 exact JB<|coR<|nR 3 hn<|nI (QAA a (hAa) hn.at_) hn hr<|fun v2 s2 xs2 w2 hk2 hn hr=>nA (QQV v2 (hk2) hn.at_) hn<|fun w3 hn=>wT<|coZ<|nFs hn (.u_wz _ ((a+1)%65536)) (hn.at_.ms.u_wz (Wd16.mod _))<|fun w4 hn=>eoV (OutV.ok (dN hr) hn)
theorem QD7 (a:Int)(hAa:Wd16 a)(x:Int)(hAx:Wd16 x){s:Ms} {xs:List Int} {w:World} {p B:Nat}(h:AtN w p B s xs) :
 Calls Tryz.prog 282 #[pT p 0,.int .u16 (a),.int .u16 (x)] w (OutV w p B ((Xm a x s).run xs)):=by
 have hn:=NowN.begin h
 have hr:(Xm a x s).run xs=(Xm a x s).run xs:=rfl
 go_enter Tryz.func282,Tryz.ntmps282
 exact JB<|coR<|nR 3 hn<|kE (zH x (hAx).1 (hAx).2 _)<|nV (Z3 a (hAa) (x%256) ((hAx).lo8) hn.at_) hn hr<|fun s3 xs3 w3 hn hr=>wT<|coR<|nR 4 hn<|kE (zr x (hAx).1 (hAx).2 _)<|nV (Z3 ((a+1)%65536) (Wd16.mod _) (x / 256) ((hAx).hi) hn.at_) hn hr<|fun s6 xs6 w6 hn hr=>wT<|coZ<|nFs hn (.u_wz _ ((a+1)%65536)) (hn.at_.ms.u_wz (Wd16.mod _))<|fun w7 hn=>eoV (OutV.ok (dN hr) hn)
theorem QGG (a:Int)(hAa:Wd16 a){s:Ms} {xs:List Int} {w:World} {p B:Nat}(h:AtN w p B s xs) :
 Calls Tryz.prog 284 #[pT p 0,.int .u16 (a)] w (OutI w p B .u16 ((ZC a s).run xs)):=by
 have hn:=NowN.begin h
 have hr:(ZC a s).run xs=(ZC a s).run xs:=rfl
 go_enter Tryz.func284,Tryz.ntmps284
 exact JB<|nQ hn<|coR<|nR 2 hn<|nI (QEx a (hAa) hn.at_) hn hr<|fun v3 s3 xs3 w3 hk3 hn hr=>nE hn<|nQs hn (.u_wz _ ((a+1)%65536)) (hn.at_.ms.u_wz (Wd16.mod _))<|fun w5 hn=>nQ hn<|JJ<|J8 (.int .u16 (v3)) (OutI.ok (dN hr) (hk3) hn)
theorem QGT  {s:Ms} {xs:List Int} {w:World} {p B:Nat}(h:AtN w p B s xs) :
 Calls Tryz.prog 249 #[pT p 0] w (OutV w p B ((Xl s).run xs)):=by
 have hn:=NowN.begin h
 have hr:(Xl s).run xs=(Xl s).run xs:=rfl
 go_enter Tryz.func249,Tryz.ntmps249
 refine JB<|nQ hn<|coB<|coS<|nQ hn<|coI (s.y==0) (fun h4=>?_) fun h4=>?_
 · have g4:s.y=0:=by simpa using h4
   exact have hr:=hr.trans (JI (.inl g4));JE<|eoT<|coJ (s.y==0) (fun h5=>absurd (h4.symm.trans h5) (by decide))<|fun h5=>have b6:=Xv hn.at_.ms;coZ<|nR 2 hn<|nA (q7 hn.at_) hn<|fun w7 hn=>nV (QGO s.pair (b6) hn.at_) hn hr<|fun s8 xs8 w8 hn hr=>woE<|eoB<|eoV (OutV.ok (dN hr) hn)
 have g4:¬s.y=0:=by simpa using h4
 refine coZ<|nE hn<|coI (s.y==2) (fun h9=>?_) fun h9=>?_
 · have g9:s.y=2:=by simpa using h9
   exact have hr:=hr.trans (JI (.inr g9));have b10:=Xv hn.at_.ms;coZ<|nR 2 hn<|nA (q7 hn.at_) hn<|fun w11 hn=>nV (QGO s.pair (b10) hn.at_) hn hr<|fun s12 xs12 w12 hn hr=>woE<|eoB<|eoV (OutV.ok (dN hr) hn)
 have g9:¬s.y=2:=by simpa using h9
 refine have hr:=hr.trans (JF (not_or.2 ⟨g4,g9⟩));coS<|nQ hn<|coI (s.y==1) (fun h15=>?_) fun h15=>?_
 · have g15:s.y=1:=by simpa using h15
   exact have hr:=hr.trans (JI (.inl g15));JE<|eoT<|coJ (s.y==1) (fun h16=>absurd (h15.symm.trans h16) (by decide))<|fun h16=>have b17:=Xv hn.at_.ms;coZ<|nR 2 hn<|nA (q7 hn.at_) hn<|fun w18 hn=>nV (QIc s.pair (b17) hn.at_) hn hr<|fun s19 xs19 w19 hn hr=>woE<|eoB<|eoV (OutV.ok (dN hr) hn)
 have g15:¬s.y=1:=by simpa using h15
 refine coZ<|nE hn<|coI (s.y==3) (fun h20=>?_) fun h20=>?_
 · have g20:s.y=3:=by simpa using h20
   exact have hr:=hr.trans (JI (.inr g20));have b21:=Xv hn.at_.ms;coZ<|nR 2 hn<|nA (q7 hn.at_) hn<|fun w22 hn=>nV (QIc s.pair (b21) hn.at_) hn hr<|fun s23 xs23 w23 hn hr=>woE<|eoB<|eoV (OutV.ok (dN hr) hn)
 have g20:¬s.y=3:=by simpa using h20
 refine have hr:=hr.trans (JF (not_or.2 ⟨g15,g20⟩));nQ hn<|nIf hr (fun g25 hr=>?_) fun g25 hr=>?_
 · exact coZ<|nR 2 hn<|nI (QAf hn.at_) hn hr<|fun v26 s26 xs26 w26 hk26 hn hr=>have b27:=QBy hn.at_.ms;nR 1 hn<|nA (QMs hn.at_) hn<|fun w28 hn=>nV (QD7 v26 (hk26) s26.hl (b27) hn.at_) hn hr<|fun s29 xs29 w29 hn hr=>woE<|eoB<|eoV (OutV.ok (dN hr) hn)
 refine nQ hn<|nIf hr (fun g31 hr=>?_) fun g31 hr=>?_
 · exact coZ<|nR 3 hn<|nI (QAf hn.at_) hn hr<|fun v32 s32 xs32 w32 hk32 hn hr=>nI (QGG v32 (hk32) hn.at_) hn hr<|fun v33 s33 xs33 w33 hk33 hn hr=>nA (QHt v33 (hk33) hn.at_) hn<|fun w34 hn=>woE<|eoB<|eoV (OutV.ok (dN hr) hn)
 refine nQ hn<|nIf hr (fun g36 hr=>?_) fun g36 hr=>?_
 · exact coZ<|nR 2 hn<|nI (QAf hn.at_) hn hr<|fun v37 s37 xs37 w37 hk37 hn hr=>nV (QGO v37 (hk37) hn.at_) hn hr<|fun s38 xs38 w38 hn hr=>woE<|eoB<|eoV (OutV.ok (dN hr) hn)
 refine nQ hn<|nIf hr (fun g40 hr=>?_) fun g40 hr=>?_
 · exact coZ<|nR 2 hn<|nI (QAf hn.at_) hn hr<|fun v41 s41 xs41 w41 hk41 hn hr=>nV (QIc v41 (hk41) hn.at_) hn hr<|fun s42 xs42 w42 hn hr=>woE<|eoB<|eoV (OutV.ok (dN hr) hn)
 exact JE<|eoB<|eoV (OutV.ok (dN hr) hn)
theorem QLF  {s:Ms} {xs:List Int} {w:World} {p B:Nat}(h:AtN w p B s xs) :
 Calls Tryz.prog 250 #[pT p 0] w (OutV w p B ((jm s).run xs)):=by
 have hn:=NowN.begin h
 have hr:(jm s).run xs=(jm s).run xs:=rfl
 go_enter Tryz.func250,Tryz.ntmps250
 refine JB<|coR<|nR 1 hn<|nV (QQ 2 hn.at_) hn hr<|fun s2 xs2 w2 hn hr=>wT<|nQ hn<|nIf hr (fun g4 hr=>?_) fun g4 hr=>?_
 · exact have b5:=Xv hn.at_.ms;coZ<|nR 2 hn<|nA (q7 hn.at_) hn<|fun w6 hn=>nR 1 hn<|nA (QAW ((s2.pair+1)%65536) (Wd16.mod _) hn.at_) hn<|fun w7 hn=>woE<|eoV (OutV.ok (dN hr) hn)
 exact have b8:=Xv hn.at_.ms;coZ<|nR 2 hn<|nA (q7 hn.at_) hn<|fun w9 hn=>nR 1 hn<|nA (QAW ((s2.pair-1)%65536) (Wd16.mod _) hn.at_) hn<|fun w10 hn=>woE<|eoV (OutV.ok (dN hr) hn)
theorem QJB  {s:Ms} {xs:List Int} {w:World} {p B:Nat}(h:AtN w p B s xs) :
 Calls Tryz.prog 251 #[pT p 0,.func (.func 252) #[] #[]] w (OutV w p B ((Zo false s).run xs)):=by
 have hn:=NowN.begin h
 have hr:(Zo false s).run xs=(Zo false s).run xs:=rfl
 go_enter Tryz.func251,Tryz.ntmps251
 refine JB<|coR<|nR 5 hn<|nI (QD6 s.y hn.at_) hn hr<|fun v2 s2 xs2 w2 hk2 hn hr=>nE hn<|coS<|nQ hn<|QGh hr (fun g5 hr=>?_) fun g5 hr=>?_
 · exact coZ<|nR 1 hn<|nV (QQ 1 hn.at_) hn hr<|fun s6 xs6 w6 hn hr=>wT<|have b8:=Qv hn.at_.ms;coR<|nR 3 hn<|nA (m_f hn.at_) hn<|fun w9 hn=>nB (QMj v2 s6.f (hk2) (b8) _) hn<|fun w10 hn=>nE hn<|coR<|nR 2 hn<|nA (jA (QEN v2 s6.f) (QBi _ _) hn.at_) hn<|fun w12 hn=>wT<|coZ<|nR 6 hn<|nVt (QA2 ((s6.setF (QEN v2 s6.f)).y) (XW v2 1 false) (QV _ _ _) hn.at_) hn hr<|fun s13 xs13 w13 hn hr=>woE<|eoV (OutV.ok (dN hr) hn)
 exact JE<|eoT<|have b15:=Qv hn.at_.ms;coR<|nR 3 hn<|nA (m_f hn.at_) hn<|fun w16 hn=>nB (QMj v2 s2.f (hk2) (b15) _) hn<|fun w17 hn=>nE hn<|coR<|nR 2 hn<|nA (jA (QEN v2 s2.f) (QBi _ _) hn.at_) hn<|fun w19 hn=>wT<|coZ<|nR 6 hn<|nVt (QA2 ((s2.setF (QEN v2 s2.f)).y) (XW v2 1 false) (QV _ _ _) hn.at_) hn hr<|fun s20 xs20 w20 hn hr=>woE<|eoV (OutV.ok (dN hr) hn)
theorem QJD  {s:Ms} {xs:List Int} {w:World} {p B:Nat}(h:AtN w p B s xs) :
 Calls Tryz.prog 251 #[pT p 0,.func (.func 253) #[] #[]] w (OutV w p B ((Zo true s).run xs)):=by
 have hn:=NowN.begin h
 have hr:(Zo true s).run xs=(Zo true s).run xs:=rfl
 go_enter Tryz.func251,Tryz.ntmps251
 refine JB<|coR<|nR 5 hn<|nI (QD6 s.y hn.at_) hn hr<|fun v2 s2 xs2 w2 hk2 hn hr=>nE hn<|coS<|nQ hn<|QGh hr (fun g5 hr=>?_) fun g5 hr=>?_
 · exact coZ<|nR 1 hn<|nV (QQ 1 hn.at_) hn hr<|fun s6 xs6 w6 hn hr=>wT<|have b8:=Qv hn.at_.ms;coR<|nR 3 hn<|nA (m_f hn.at_) hn<|fun w9 hn=>nB (QMD v2 s6.f (hk2) (b8) _) hn<|fun w10 hn=>nE hn<|coR<|nR 2 hn<|nA (jA (QEL v2 s6.f) (QB3 _ _) hn.at_) hn<|fun w12 hn=>wT<|coZ<|nR 6 hn<|nVt (QA2 ((s6.setF (QEL v2 s6.f)).y) (QX v2 1 false) (QA _ _ _) hn.at_) hn hr<|fun s13 xs13 w13 hn hr=>woE<|eoV (OutV.ok (dN hr) hn)
 exact JE<|eoT<|have b15:=Qv hn.at_.ms;coR<|nR 3 hn<|nA (m_f hn.at_) hn<|fun w16 hn=>nB (QMD v2 s2.f (hk2) (b15) _) hn<|fun w17 hn=>nE hn<|coR<|nR 2 hn<|nA (jA (QEL v2 s2.f) (QB3 _ _) hn.at_) hn<|fun w19 hn=>wT<|coZ<|nR 6 hn<|nVt (QA2 ((s2.setF (QEL v2 s2.f)).y) (QX v2 1 false) (QA _ _ _) hn.at_) hn hr<|fun s20 xs20 w20 hn hr=>woE<|eoV (OutV.ok (dN hr) hn)
theorem QIk  {s:Ms} {xs:List Int} {w:World} {p B:Nat}(h:AtN w p B s xs) :
 Calls Tryz.prog 254 #[pT p 0] w (OutV w p B ((XO s).run xs)):=by
 have hn:=NowN.begin h
 have hr:(XO s).run xs=(XO s).run xs:=rfl
 go_enter Tryz.func254,Tryz.ntmps254
 refine JB<|coR<|nR 1 hn<|nI (jL hn.at_) hn hr<|fun v2 s2 xs2 w2 hk2 hn hr=>nE hn<|coS<|nQ hn<|coI (s2.near) (fun h5=>?_) fun h5=>?_
 · have g5:s2.near=true:=by simpa using h5
   exact have hr:=hr.trans (zk g5);coZ<|nR 1 hn<|nV (QQ 2 hn.at_) hn hr<|fun s6 xs6 w6 hn hr=>wT<|coZ<|nR 6 hn<|nVt (QA2 s6.y v2 (hk2) hn.at_) hn hr<|fun s7 xs7 w7 hn hr=>woE<|eoV (OutV.ok (dN hr) hn)
 have g5:¬s2.near=true:=by simpa using h5
 exact have hr:=hr.trans (zj g5);JE<|eoT<|coZ<|nR 6 hn<|nVt (QA2 s2.y v2 (hk2) hn.at_) hn hr<|fun s8 xs8 w8 hn hr=>woE<|eoV (OutV.ok (dN hr) hn)
theorem QQx  {s:Ms} {xs:List Int} {w:World} {p B:Nat}(h:AtN w p B s xs) :
 Calls Tryz.prog 255 #[pT p 0] w (fun e w'=>e=.returned (.tuple #[])∧NowN w p B (Zl s) xs w'):=by
 have hn:=NowN.begin h
 go_enter Tryz.func255,Tryz.ntmps255
 refine JB<|have b2:=jU hn.at_.ms;coR<|nR 1 hn<|nA (m_a hn.at_) hn<|fun w3 hn=>have b4:=Qv hn.at_.ms;nR 1 hn<|nA (m_f hn.at_) hn<|fun w5 hn=>nE hn<|coS<|nQ hn<|coB<|nQ hn<|coI (s.y==4) (fun h9=>?_) fun h9=>?_
 · have g9:s.y=4:=by simpa using h9
   refine coZ<|nR 2 hn<|nB (QRp s.a s.f (b2) (b4) _ hn.at_.tabs.digits) hn<|fun w10 hn=>nF hn<|eoB<|eoT<|coZ<|nR 3 hn<|kE (J6 (Xq s.a s.f) (QEK s.a s.f) (jq _ _).1 (jq _ _).2 (QBP _ _).1 (QBP _ _).2 _)<|nFs hn (.u_af _ (256*(Xq s.a s.f)+(QEK s.a s.f))) (hn.at_.ms.u_af (Wd16.mk8 (jq _ _) (QBP _ _)))<|fun w12 hn=>eoV ?_
   have e:Zl s=s.u_af (256*(Xq s.a s.f)+(QEK s.a s.f)):=by
    unfold Zl
    repeat (first|rw[if_pos (by assumption)]|rw[if_neg (by assumption)])
    rfl
   exact⟨rfl,e▸hn⟩
 have g9:¬s.y=4:=by simpa using h9
 refine nQ hn<|coI (s.y==5) (fun h14=>?_) fun h14=>?_
 · have g14:s.y=5:=by simpa using h14
   refine coZ<|nR 2 hn<|kE (QR8 s.a s.f (b2) (b4) _)<|nF hn<|eoB<|eoT<|coZ<|nR 3 hn<|kE (J6 (255-s.a) (QFL s.a s.f) (B8.not (b2)).1 (B8.not (b2)).2 (Qm _ _ _ _ _).1 (Qm _ _ _ _ _).2 _)<|nFs hn (.u_af _ (256*(255-s.a)+(QFL s.a s.f))) (hn.at_.ms.u_af (Wd16.mk8 (B8.not (b2)) (Qm _ _ _ _ _)))<|fun w17 hn=>eoV ?_
   have e:Zl s=s.u_af (256*(255-s.a)+(QFL s.a s.f)):=by
    unfold Zl
    repeat (first|rw[if_pos (by assumption)]|rw[if_neg (by assumption)])
    rfl
   exact⟨rfl,e▸hn⟩
 have g14:¬s.y=5:=by simpa using h14
 refine nQ hn<|coI (s.y==6) (fun h19=>?_) fun h19=>?_
 · have g19:s.y=6:=by simpa using h19
   refine coZ<|nR 2 hn<|kE (QMN s.a s.f (b2) (b4) _)<|nF hn<|eoB<|eoT<|coZ<|nR 3 hn<|kE (J6 s.a (QDo s.a s.f) (b2).1 (b2).2 (Qm _ _ _ _ _).1 (Qm _ _ _ _ _).2 _)<|nFs hn (.u_af _ (256*s.a+(QDo s.a s.f))) (hn.at_.ms.u_af (Wd16.mk8 (b2) (Qm _ _ _ _ _)))<|fun w22 hn=>eoV ?_
   have e:Zl s=s.u_af (256*s.a+(QDo s.a s.f)):=by
    unfold Zl
    repeat (first|rw[if_pos (by assumption)]|rw[if_neg (by assumption)])
    rfl
   exact⟨rfl,e▸hn⟩
 have g19:¬s.y=6:=by simpa using h19
 refine nQ hn<|coI (s.y==7) (fun h24=>?_) fun h24=>?_
 · have g24:s.y=7:=by simpa using h24
   refine coZ<|nR 2 hn<|kE (QR3 s.a s.f (b2) (b4) _)<|nF hn<|eoB<|eoT<|coZ<|nR 3 hn<|kE (J6 s.a (QDO s.a s.f) (b2).1 (b2).2 (Qm _ _ _ _ _).1 (Qm _ _ _ _ _).2 _)<|nFs hn (.u_af _ (256*s.a+(QDO s.a s.f))) (hn.at_.ms.u_af (Wd16.mk8 (b2) (Qm _ _ _ _ _)))<|fun w27 hn=>eoV ?_
   have e:Zl s=s.u_af (256*s.a+(QDO s.a s.f)):=by
    unfold Zl
    repeat (first|rw[if_pos (by assumption)]|rw[if_neg (by assumption)])
    rfl
   exact⟨rfl,e▸hn⟩
 have g24:¬s.y=7:=by simpa using h24
 refine coZ<|nR 6 hn<|nB (QSO s.y s.a s.f (b2) (b4) _ hn.at_.tabs.courses) hn<|fun w28 hn=>nF hn<|eoB<|eoT<|coZ<|nR 3 hn<|kE (J6 (QCT s.y s.a s.f) (QCU s.y s.a s.f) (QBu _ _ _ (b2)).1 (QBu _ _ _ (b2)).2 (QBV _ _ _ (b4)).1 (QBV _ _ _ (b4)).2 _)<|nFs hn (.u_af _ (256*(QCT s.y s.a s.f)+(QCU s.y s.a s.f))) (hn.at_.ms.u_af (Wd16.mk8 (QBu _ _ _ (b2)) (QBV _ _ _ (b4))))<|fun w30 hn=>eoV ?_
 have e:Zl s=s.u_af (256*(QCT s.y s.a s.f)+(QCU s.y s.a s.f)):=by
  unfold Zl
  repeat (first|rw[if_pos (by assumption)]|rw[if_neg (by assumption)])
  rfl
 exact⟨rfl,e▸hn⟩
theorem QCb (b:Int)(hAb:B8 b){s:Ms} {xs:List Int} {w:World} {p B:Nat}(h:AtN w p B s xs) :
 Calls Tryz.prog 258 #[pT p 0,.int .u8 (b)] w (fun e w'=>e=.returned (.tuple #[])∧NowN w p B (XH b s) xs w'):=by
 have hn:=NowN.begin h
 go_enter Tryz.func258,Tryz.ntmps258
 refine JB<|have b2:=jU hn.at_.ms;coR<|nR 1 hn<|nA (m_a hn.at_) hn<|fun w3 hn=>have b4:=Qv hn.at_.ms;nR 1 hn<|nA (m_f hn.at_) hn<|fun w5 hn=>nE hn<|coR<|nR 1 hn<|nA (QIG hn.at_) hn<|fun w7 hn=>nE hn<|coS<|nQ hn<|coB<|nQ hn<|coI (s.y==0) (fun h11=>?_) fun h11=>?_
 · have g11:s.y=0:=by simpa using h11
   refine coZ<|nR 2 hn<|nB (QBR s.a b false (b2) (hAb) _) hn<|fun w12 hn=>nF hn<|eoB<|eoT<|coZ<|nR 3 hn<|kE (J6 (XW s.a b false) (XX s.a b false) (QV _ _ _).1 (QV _ _ _).2 (XE _ _ _).1 (XE _ _ _).2 _)<|nFs hn (.u_af _ (256*(XW s.a b false)+(XX s.a b false))) (hn.at_.ms.u_af (Wd16.mk8 (QV _ _ _) (XE _ _ _)))<|fun w14 hn=>eoV ?_
   have e:XH b s=s.u_af (256*(XW s.a b false)+(XX s.a b false)):=by
    unfold XH
    repeat (first|rw[if_pos (by assumption)]|rw[if_neg (by assumption)])
    rfl
   exact⟨rfl,e▸hn⟩
 have g11:¬s.y=0:=by simpa using h11
 refine nQ hn<|coI (s.y==1) (fun h16=>?_) fun h16=>?_
 · have g16:s.y=1:=by simpa using h16
   refine coZ<|nR 3 hn<|nB (QBR s.a b (s.carry != 0) (b2) (hAb) _) hn<|fun w17 hn=>nF hn<|eoB<|eoT<|coZ<|nR 3 hn<|kE (J6 (XW s.a b (s.carry != 0)) (XX s.a b (s.carry != 0)) (QV _ _ _).1 (QV _ _ _).2 (XE _ _ _).1 (XE _ _ _).2 _)<|nFs hn (.u_af _ (256*(XW s.a b (s.carry != 0))+(XX s.a b (s.carry != 0)))) (hn.at_.ms.u_af (Wd16.mk8 (QV _ _ _) (XE _ _ _)))<|fun w19 hn=>eoV ?_
   have e:XH b s=s.u_af (256*(XW s.a b (s.carry != 0))+(XX s.a b (s.carry != 0))):=by
    unfold XH
    repeat (first|rw[if_pos (by assumption)]|rw[if_neg (by assumption)])
    rfl
   exact⟨rfl,e▸hn⟩
 have g16:¬s.y=1:=by simpa using h16
 refine nQ hn<|coI (s.y==2) (fun h21=>?_) fun h21=>?_
 · have g21:s.y=2:=by simpa using h21
   refine coZ<|nR 2 hn<|nB (zi s.a b false (b2) (hAb) _) hn<|fun w22 hn=>nF hn<|eoB<|eoT<|coZ<|nR 3 hn<|kE (J6 (QX s.a b false) (QM s.a b false) (QA _ _ _).1 (QA _ _ _).2 (QG _ _ _).1 (QG _ _ _).2 _)<|nFs hn (.u_af _ (256*(QX s.a b false)+(QM s.a b false))) (hn.at_.ms.u_af (Wd16.mk8 (QA _ _ _) (QG _ _ _)))<|fun w24 hn=>eoV ?_
   have e:XH b s=s.u_af (256*(QX s.a b false)+(QM s.a b false)):=by
    unfold XH
    repeat (first|rw[if_pos (by assumption)]|rw[if_neg (by assumption)])
    rfl
   exact⟨rfl,e▸hn⟩
 have g21:¬s.y=2:=by simpa using h21
 refine nQ hn<|coI (s.y==3) (fun h26=>?_) fun h26=>?_
 · have g26:s.y=3:=by simpa using h26
   refine coZ<|nR 3 hn<|nB (zi s.a b (s.carry != 0) (b2) (hAb) _) hn<|fun w27 hn=>nF hn<|eoB<|eoT<|coZ<|nR 3 hn<|kE (J6 (QX s.a b (s.carry != 0)) (QM s.a b (s.carry != 0)) (QA _ _ _).1 (QA _ _ _).2 (QG _ _ _).1 (QG _ _ _).2 _)<|nFs hn (.u_af _ (256*(QX s.a b (s.carry != 0))+(QM s.a b (s.carry != 0)))) (hn.at_.ms.u_af (Wd16.mk8 (QA _ _ _) (QG _ _ _)))<|fun w29 hn=>eoV ?_
   have e:XH b s=s.u_af (256*(QX s.a b (s.carry != 0))+(QM s.a b (s.carry != 0))):=by
    unfold XH
    repeat (first|rw[if_pos (by assumption)]|rw[if_neg (by assumption)])
    rfl
   exact⟨rfl,e▸hn⟩
 have g26:¬s.y=3:=by simpa using h26
 refine nQ hn<|coI (s.y==4) (fun h31=>?_) fun h31=>?_
 · have g31:s.y=4:=by simpa using h31
   refine coZ<|nR 2 hn<|nB (QR7 s.a b (b2) (hAb) _) hn<|fun w32 hn=>nF hn<|eoB<|eoT<|coZ<|nR 3 hn<|kE (J6 (zB s.a b) (zN (zB s.a b)) (J7 _ _ _).1 (J7 _ _ _).2 (QAg _).1 (QAg _).2 _)<|nFs hn (.u_af _ (256*(zB s.a b)+(zN (zB s.a b)))) (hn.at_.ms.u_af (Wd16.mk8 (J7 _ _ _) (QAg _)))<|fun w34 hn=>eoV ?_
   have e:XH b s=s.u_af (256*(zB s.a b)+(zN (zB s.a b))):=by
    unfold XH
    repeat (first|rw[if_pos (by assumption)]|rw[if_neg (by assumption)])
    rfl
   exact⟨rfl,e▸hn⟩
 have g31:¬s.y=4:=by simpa using h31
 refine nQ hn<|coI (s.y==5) (fun h36=>?_) fun h36=>?_
 · have g36:s.y=5:=by simpa using h36
   refine coZ<|nR 2 hn<|nB (QRm s.a b (b2) (hAb) _) hn<|fun w37 hn=>nF hn<|eoB<|eoT<|coZ<|nR 3 hn<|kE (J6 (jB s.a b) (Js (jB s.a b)) (J7 _ _ _).1 (J7 _ _ _).2 (J4 _).1 (J4 _).2 _)<|nFs hn (.u_af _ (256*(jB s.a b)+(Js (jB s.a b)))) (hn.at_.ms.u_af (Wd16.mk8 (J7 _ _ _) (J4 _)))<|fun w39 hn=>eoV ?_
   have e:XH b s=s.u_af (256*(jB s.a b)+(Js (jB s.a b))):=by
    unfold XH
    repeat (first|rw[if_pos (by assumption)]|rw[if_neg (by assumption)])
    rfl
   exact⟨rfl,e▸hn⟩
 have g36:¬s.y=5:=by simpa using h36
 refine nQ hn<|coI (s.y==6) (fun h41=>?_) fun h41=>?_
 · have g41:s.y=6:=by simpa using h41
   refine coZ<|nR 2 hn<|nB (QT3 s.a b (b2) (hAb) _) hn<|fun w42 hn=>nF hn<|eoB<|eoT<|coZ<|nR 3 hn<|kE (J6 (orR s.a b) (Js (orR s.a b)) (J7 _ _ _).1 (J7 _ _ _).2 (J4 _).1 (J4 _).2 _)<|nFs hn (.u_af _ (256*(orR s.a b)+(Js (orR s.a b)))) (hn.at_.ms.u_af (Wd16.mk8 (J7 _ _ _) (J4 _)))<|fun w44 hn=>eoV ?_
   have e:XH b s=s.u_af (256*(orR s.a b)+(Js (orR s.a b))):=by
    unfold XH
    repeat (first|rw[if_pos (by assumption)]|rw[if_neg (by assumption)])
    rfl
   exact⟨rfl,e▸hn⟩
 have g41:¬s.y=6:=by simpa using h41
 refine nQ hn<|coI (s.y==7) (fun h46=>?_) fun h46=>?_
 · have g46:s.y=7:=by simpa using h46
   refine coZ<|nR 2 hn<|nB (QRn s.a b (b2) (hAb) _) hn<|fun w47 hn=>nF hn<|eoB<|eoT<|coZ<|nR 3 hn<|kE (J6 s.a (QET s.a b) (b2).1 (b2).2 (QBf _ _).1 (QBf _ _).2 _)<|nFs hn (.u_af _ (256*s.a+(QET s.a b))) (hn.at_.ms.u_af (Wd16.mk8 (b2) (QBf _ _)))<|fun w49 hn=>eoV ?_
   have e:XH b s=s.u_af (256*s.a+(QET s.a b)):=by
    unfold XH
    repeat (first|rw[if_pos (by assumption)]|rw[if_neg (by assumption)])
    rfl
   exact⟨rfl,e▸hn⟩
 have g46:¬s.y=7:=by simpa using h46
 refine JE<|eoB<|eoT<|coZ<|nR 3 hn<|kE (J6 s.a s.f (b2).1 (b2).2 (b4).1 (b4).2 _)<|nFs hn (.u_af _ (256*s.a+s.f)) (hn.at_.ms.u_af (Wd16.mk8 (b2) (b4)))<|fun w51 hn=>eoV ?_
 have e:XH b s=s.u_af (256*s.a+s.f):=by
  unfold XH
  repeat (first|rw[if_pos (by assumption)]|rw[if_neg (by assumption)])
  rfl
 exact⟨rfl,e▸hn⟩
theorem QOF  {s:Ms} {xs:List Int} {w:World} {p B:Nat}(h:AtN w p B s xs) :
 Calls Tryz.prog 187 #[pT p 0] w (OutV w p B ((Zr s).run xs)):=by
 have hn:=NowN.begin h
 have hr:(Zr s).run xs=(Zr s).run xs:=rfl
 go_enter Tryz.func187,Tryz.ntmps187
 refine JB<|nQ hn<|coB<|nQ hn<|nIf hr (fun g3 hr=>?_) fun g3 hr=>?_
 · exact coZ<|nR 1 hn<|nVt (QO9 hn.at_) hn hr<|fun s4 xs4 w4 hn hr=>woE<|eoB<|eoV (OutV.ok (dN hr) hn)
 refine nQ hn<|nIf hr (fun g6 hr=>?_) fun g6 hr=>?_
 · exact coZ<|nR 1 hn<|nVt (QKM hn.at_) hn hr<|fun s7 xs7 w7 hn hr=>woE<|eoB<|eoV (OutV.ok (dN hr) hn)
 refine nQ hn<|nIf hr (fun g9 hr=>?_) fun g9 hr=>?_
 · exact coZ<|nR 1 hn<|nVt (QGT hn.at_) hn hr<|fun s10 xs10 w10 hn hr=>woE<|eoB<|eoV (OutV.ok (dN hr) hn)
 refine nQ hn<|nIf hr (fun g12 hr=>?_) fun g12 hr=>?_
 · exact coZ<|nR 1 hn<|nVt (QLF hn.at_) hn hr<|fun s13 xs13 w13 hn hr=>woE<|eoB<|eoV (OutV.ok (dN hr) hn)
 refine nQ hn<|nIf hr (fun g15 hr=>?_) fun g15 hr=>?_
 · exact coZ<|nR 1 hn<|nVt (QJB hn.at_) hn hr<|fun s16 xs16 w16 hn hr=>woE<|eoB<|eoV (OutV.ok (dN hr) hn)
 refine nQ hn<|nIf hr (fun g18 hr=>?_) fun g18 hr=>?_
 · exact coZ<|nR 1 hn<|nVt (QJD hn.at_) hn hr<|fun s19 xs19 w19 hn hr=>woE<|eoB<|eoV (OutV.ok (dN hr) hn)
 refine nQ hn<|nIf hr (fun g21 hr=>?_) fun g21 hr=>?_
 · exact coZ<|nR 1 hn<|nVt (QIk hn.at_) hn hr<|fun s22 xs22 w22 hn hr=>woE<|eoB<|eoV (OutV.ok (dN hr) hn)
 refine nQ hn<|nIf hr (fun g24 hr=>?_) fun g24 hr=>?_
 · exact coZ<|nR 1 hn<|nA (QQx hn.at_) hn<|fun w25 hn=>woE<|eoB<|eoV (OutV.ok (dN hr) hn)
 exact JE<|eoB<|eoV (OutV.ok (dN hr) hn)
theorem QU6  {s:Ms} {xs:List Int} {w:World} {p B:Nat}(h:AtN w p B s xs) :
 Calls Tryz.prog 188 #[pT p 0] w (OutV w p B ((QAC s).run xs)):=by
 have hn:=NowN.begin h
 have hr:(QAC s).run xs=(QAC s).run xs:=rfl
 go_enter Tryz.func188,Tryz.ntmps188
 refine JB<|coS<|coR<|nR 6 hn ?_
 rcases Bool.eq_false_or_eq_true (s.y==6) with h3|h3
 · have g3:s.y=6:=by simpa using h3
   refine tell 7 h3<|nE hn<|coI (s.z==6) (fun h4=>?_) fun h4=>?_
   · have g4:s.z=6:=by simpa using h4
     exact have hr:=hr.trans (JI (by simp[g4,g3]));nQs hn (.u_halted _ (true)) (hn.at_.ms.u_halted)<|fun w6 hn=>JJ<|QF<|qX (OutV.ok (dN hr) hn)
   have g4:¬s.z=6:=by simpa using h4
   exact have hr:=hr.trans (JF (by simp[g4,g3]));JE<|eoT<|nPz 11 hn<|fun w7 hn=>nD [0,1,2,3,4,5,6,7,8,9] hn<|nDi 10 QDH (QD6 s.z hn.at_) hn hr<|fun v8 xs8 w8 hk8 hn hr=>poE<|nVt (QA2 s.y v8 (hk8) hn.at_) hn hr<|fun s9 xs9 w9 hn hr=>woE<|eoV (OutV.ok (dN hr) hn)
 have g3:¬s.y=6:=by simpa using h3
 exact tell 7 h3<|nE hn<|coF<|have hr:=hr.trans (JF (by simp[g3]));JE<|eoT<|nPz 11 hn<|fun w10 hn=>nD [0,1,2,3,4,5,6,7,8,9] hn<|nDi 10 QDH (QD6 s.z hn.at_) hn hr<|fun v11 xs11 w11 hk11 hn hr=>poE<|nVt (QA2 s.y v11 (hk11) hn.at_) hn hr<|fun s12 xs12 w12 hn hr=>woE<|eoV (OutV.ok (dN hr) hn)
theorem QPX  {s:Ms} {xs:List Int} {w:World} {p B:Nat}(h:AtN w p B s xs) :
 Calls Tryz.prog 189 #[pT p 0] w (OutV w p B ((jN s).run xs)):=by
 have hn:=NowN.begin h
 have hr:(jN s).run xs=(jN s).run xs:=rfl
 go_enter Tryz.func189,Tryz.ntmps189
 exact JB<|coZ<|nR 6 hn<|nI (QD6 s.z hn.at_) hn hr<|fun v1 s1 xs1 w1 hk1 hn hr=>nA (QCb v1 (hk1) hn.at_) hn<|fun w2 hn=>woE<|eoV (OutV.ok (dN hr) hn)
theorem QOW  {s:Ms} {xs:List Int} {w:World} {p B:Nat}(h:AtN w p B s xs) :
 Calls Tryz.prog 260 #[pT p 0] w (OutV w p B ((QFq s).run xs)):=by
 have hn:=NowN.begin h
 have hr:(QFq s).run xs=(QFq s).run xs:=rfl
 go_enter Tryz.func260,Tryz.ntmps260
 refine JB<|coB<|coR<|nR 6 hn ?_
 rcases Bool.eq_false_or_eq_true (s.q==0) with h2|h2
 · have g2:s.q=0:=by simpa using h2
   refine tell 8 h2<|nE hn<|coI (s.p==3) (fun h3=>?_) fun h3=>?_
   · have g3:s.p=3:=by simpa using h3
     first|(have hr:=hr.trans (JI g3);have hr:=hr.trans (JI g2))|(have hr:=hr.trans (JI g2);have hr:=hr.trans (JI g3))
     exact coZ<|nR 2 hn<|nI (QIt hn.at_) hn hr<|fun v4 s4 xs4 w4 hk4 hn hr=>nFs hn (.u_af _ (v4)) (hn.at_.ms.u_af (hk4))<|fun w5 hn=>eoB<|eoV (OutV.ok (dN hr) hn)
   have g3:¬s.p=3:=by simpa using h3
   first|(have hr:=hr.trans (JI g2);have hr:=hr.trans (JF g3))|(have hr:=hr.trans (JF g3);have hr:=hr.trans (JI g2))
   exact nQ hn<|coJ (s.q==0) (fun h7=>absurd (h2.symm.trans h7) (by decide))<|fun h7=>coZ<|nR 2 hn<|nI (QIt hn.at_) hn hr<|fun v8 s8 xs8 w8 hk8 hn hr=>nA (QAW v8 (hk8) hn.at_) hn<|fun w9 hn=>woE<|eoB<|eoV (OutV.ok (dN hr) hn)
 have g2:¬s.q=0:=by simpa using h2
 refine tell 8 h2<|nE hn<|coF<|have hr:=hr.trans (JF g2);nQ hn<|coK (s.q==0) (fun h11=>absurd (h2.symm.trans h11) (by decide))<|fun h11=>nQ hn<|nIf hr (fun g13 hr=>?_) fun g13 hr=>?_
 · exact coZ<|nR 2 hn<|nI (QIt hn.at_) hn hr<|fun v14 s14 xs14 w14 hk14 hn hr=>nA (QDa v14 (hk14) hn.at_) hn<|fun w15 hn=>woE<|eoB<|eoV (OutV.ok (dN hr) hn)
 refine nQ hn<|nIf hr (fun g17 hr=>?_) fun g17 hr=>?_
 · exact have b18:=hn.at_.ms.r;coZ<|nR 5 hn<|nB (QSl s.r _) hn<|fun w19 hn=>nFs hn _ (hn.at_.ms.u_rg ((b18).exx))<|fun w20 hn=>eoB<|eoV (OutV.ok (dN hr) hn)
 refine nQ hn<|nIf hr (fun g22 hr=>?_) fun g22 hr=>?_
 · exact have b23:=QBy hn.at_.ms;coZ<|nR 2 hn<|nA (QMs hn.at_) hn<|fun w24 hn=>nFs hn (.u_pc _ (s.hl)) (hn.at_.ms.u_pc (b23))<|fun w25 hn=>eoB<|eoV (OutV.ok (dN hr) hn)
 refine nQ hn<|nIf hr (fun g27 hr=>?_) fun g27 hr=>?_
 · exact coR<|nR 1 hn<|nV (QQ 2 hn.at_) hn hr<|fun s29 xs29 w29 hn hr=>wT<|have b30:=QBy hn.at_.ms;coZ<|nR 2 hn<|nA (QMs hn.at_) hn<|fun w31 hn=>nFs hn (.u_sp _ (s29.hl)) (hn.at_.ms.u_sp (b30))<|fun w32 hn=>eoB<|eoV (OutV.ok (dN hr) hn)
 exact JE<|eoB<|eoV (OutV.ok (dN hr) hn)
theorem QPe (o:Bool){s:Ms} {xs:List Int} {w:World} {p B:Nat}(h:AtN w p B s xs) :
 Calls Tryz.prog 263 #[pT p 0,.bool (o)] w (OutV w p B ((QCo o s).run xs)):=by
 have hn:=NowN.begin h
 have hr:(QCo o s).run xs=(QCo o s).run xs:=rfl
 go_enter Tryz.func263,Tryz.ntmps263
 refine JB<|coR<|nR 2 hn<|nI (QAf hn.at_) hn hr<|fun v2 s2 xs2 w2 hk2 hn hr=>nEs hn (.u_wz _ (v2)) (hn.at_.ms.u_wz (hk2))<|fun w3 hn=>coS<|nQ hn<|coI (!(o)) (fun h6=>?_) fun h6=>?_
 · have g6:¬o=true:=by simpa using h6
   exact have hr:=hr.trans (JF g6);JJ<|QF<|qX (OutV.ok (dN hr) hn)
 have g6:o=true:=by simpa using h6
 exact have hr:=hr.trans (JI g6);JE<|eoT<|coR<|nR 1 hn<|nV (QQ 1 hn.at_) hn hr<|fun s8 xs8 w8 hn hr=>wT<|have b10:=hn.at_.ms.r.pc;coR<|nR 6 hn<|nV (QHw s8.r.pc (b10) hn.at_) hn hr<|fun s11 xs11 w11 hn hr=>wT<|have b12:=hn.at_.ms.r.wz;coZ<|nFs hn (.u_pc _ (s11.r.wz)) (hn.at_.ms.u_pc (b12))<|fun w13 hn=>eoV (OutV.ok (dN hr) hn)
theorem QSx  {s:Ms} {xs:List Int} {w:World} {p B:Nat}(h:AtN w p B s xs) :
 Calls Tryz.prog 264 #[pT p 0] w (OutV w p B ((qY s).run xs)):=by
 have hn:=NowN.begin h
 have hr:(qY s).run xs=(qY s).run xs:=rfl
 go_enter Tryz.func264,Tryz.ntmps264
 refine JB<|coS<|nQ hn<|coI (s.q != 0) (fun h3=>?_) fun h3=>?_
 · have g3:¬s.q=0:=by simpa using h3
   exact have hr:=hr.trans (JF g3);coR<|nR 1 hn<|nV (QPe true hn.at_) hn hr<|fun s5 xs5 w5 hn hr=>wT<|JJ<|QF<|qX (OutV.ok (dN hr) hn)
 have g3:s.q=0:=by simpa using h3
 refine have hr:=hr.trans (JI g3);JE<|eoT<|coR<|nR 1 hn<|nV (QQ 1 hn.at_) hn hr<|fun s7 xs7 w7 hn hr=>wT<|nQ hn<|nIf hr (fun g9 hr=>?_) fun g9 hr=>?_
 · exact have b10:=hn.at_.ms.r.af;coZ<|nR 6 hn<|nV (QHw s7.r.af (b10) hn.at_) hn hr<|fun s11 xs11 w11 hn hr=>woE<|eoV (OutV.ok (dN hr) hn)
 exact have b12:=Xv hn.at_.ms;coZ<|nR 2 hn<|nA (q7 hn.at_) hn<|fun w13 hn=>nV (QHw s7.pair (b12) hn.at_) hn hr<|fun s14 xs14 w14 hn hr=>woE<|eoV (OutV.ok (dN hr) hn)
theorem QGi  {s:Ms} {xs:List Int} {w:World} {p B:Nat}(h:AtN w p B s xs) :
 Calls Tryz.prog 319 #[pT p 0] w (OutV w p B ((X0 s).run xs)):=by
 have hn:=NowN.begin h
 have hr:(X0 s).run xs=(X0 s).run xs:=rfl
 go_enter Tryz.func319,Tryz.ntmps319
 exact JB<|have b2:=hn.at_.ms.r.sp;coR<|nR 6 hn<|nI (QEx s.r.sp (b2) hn.at_) hn hr<|fun v3 s3 xs3 w3 hk3 hn hr=>have b4:=QBy hn.at_.ms;nR 1 hn<|nA (QMs hn.at_) hn<|fun w5 hn=>nE hn<|coR<|nR 1 hn<|nV (QQ 1 hn.at_) hn hr<|fun s7 xs7 w7 hn hr=>wT<|nP 9 hn<|fun w9 hn=>have b10:=hn.at_.ms.r.sp;nD [0,1,2,3,4,5,6,7] hn<|nDe 8 (zr s3.hl (b4).1 (b4).2 _) hn<|poE<|nV (Z3 ((s7.r.sp+1)%65536) (Wd16.mod _) (s3.hl / 256) ((b4).hi) hn.at_) hn hr<|fun s12 xs12 w12 hn hr=>wT<|nP 8 hn<|fun w14 hn=>have b15:=hn.at_.ms.r.sp;nD [0,1,2,3,4,5,6] hn<|nDe 7 (zH s3.hl (b4).1 (b4).2 _) hn<|poE<|nV (Z3 s12.r.sp (b15) (s3.hl%256) ((b4).lo8) hn.at_) hn hr<|fun s17 xs17 w17 hn hr=>wT<|coR<|nR 1 hn<|nV (QQ 2 hn.at_) hn hr<|fun s19 xs19 w19 hn hr=>wT<|coR<|nR 2 hn<|nA (QHt v3 (hk3) hn.at_) hn<|fun w21 hn=>wT<|coZ<|nFs hn (.u_wz _ (v3)) (hn.at_.ms.u_wz (hk3))<|fun w22 hn=>eoV (OutV.ok (dN hr) hn)
theorem QPl  {s:Ms} {xs:List Int} {w:World} {p B:Nat}(h:AtN w p B s xs) :
 Calls Tryz.prog 262 #[pT p 0] w (OutV w p B ((QAc s).run xs)):=by
 have hn:=NowN.begin h
 have hr:(QAc s).run xs=(QAc s).run xs:=rfl
 go_enter Tryz.func262,Tryz.ntmps262
 refine wp_seq_k fun K1 hK1=>JC<|oM 4 (pT p 0)<|oN 5 p 0<|oF 6 (fM4 p)<|oL 7 (ldI (hn.at_.cell 23 (.int .i64 (s.y)) fun _ _ _=>rfl)) ?_
 refine JT ?_
 try simp only[Act.put,sA,sB,sC]
 refine JK<|hK1 _ _ ?_
 refine wp_block ?_
 refine wp_seq_k fun K2 hK2=>JC<|oB 9 (egI _ _ _ _ _) (Zi s.y 0)<|oA 8 (.bool (s.y==0)) ?_
 refine JT ?_
 try simp only[Act.put,sA,sB,sC]
 refine JK<|hK2 _ _ ?_
 refine wp_cond_split (t:=s.y==0) (by kernel_rfl) (fun h3=>?_) (fun h3=>?_)
 · have g3:s.y=0:=by simpa using h3
   have hr:=hr.trans (JI g3)
   exact JB<|coZ<|nR 2 hn<|nI (QAf hn.at_) hn hr<|fun v4 s4 xs4 w4 hk4 hn hr=>nA (QDa v4 (hk4) hn.at_) hn<|fun w5 hn=>woE<|eoB<|eoV (OutV.ok (dN hr) hn)
 · have g3:¬s.y=0:=by simpa using h3
   have hr:=hr.trans (JF g3)
   refine wp_seq_k fun K6 hK6=>JC<|oB 15 (egI _ _ _ _ _) (Zi s.y 2)<|oA 14 (.bool (s.y==2)) ?_
   refine JT ?_
   try simp only[Act.put,sA,sB,sC]
   refine JK<|hK6 _ _ ?_
   refine wp_cond_split (t:=s.y==2) (by kernel_rfl) (fun h7=>?_) (fun h7=>?_)
   · have g7:s.y=2:=by simpa using h7
     have hr:=hr.trans (JI g7)
     exact JB<|have b9:=jU hn.at_.ms;coR<|nR 1 hn<|nA (m_a hn.at_) hn<|fun w10 hn=>nR 1 hn<|nI (jL hn.at_) hn hr<|fun v11 s11 xs11 w11 hk11 hn hr=>kE (J6 s.a v11 (b9).1 (b9).2 (hk11).1 (hk11).2 _)<|nE hn<|have b14:=jU hn.at_.ms;coR<|nR 3 hn<|nA (m_a hn.at_) hn<|fun w15 hn=>nV (QMI (256*s.a+v11) (Wd16.mk8 (b9) (hk11)) s11.a (b14) hn.at_) hn hr<|fun s16 xs16 w16 hn hr=>wT<|coZ<|nR 2 hn<|nA (QKW (256*s.a+v11) (Wd16.mk8 (b9) (hk11)) hn.at_) hn<|fun w17 hn=>woE<|eoB<|eoV (OutV.ok (dN hr) hn)
   · have g7:¬s.y=2:=by simpa using h7
     have hr:=hr.trans (JF g7)
     refine wp_seq_k fun K18 hK18=>JC<|oB 30 (egI _ _ _ _ _) (Zi s.y 3)<|oA 29 (.bool (s.y==3)) ?_
     refine JT ?_
     try simp only[Act.put,sA,sB,sC]
     refine JK<|hK18 _ _ ?_
     refine wp_cond_split (t:=s.y==3) (by kernel_rfl) (fun h19=>?_) (fun h19=>?_)
     · have g19:s.y=3:=by simpa using h19
       have hr:=hr.trans (JI g19)
       exact JB<|have b21:=jU hn.at_.ms;coR<|nR 1 hn<|nA (m_a hn.at_) hn<|fun w22 hn=>nR 1 hn<|nI (jL hn.at_) hn hr<|fun v23 s23 xs23 w23 hk23 hn hr=>kE (J6 s.a v23 (b21).1 (b21).2 (hk23).1 (hk23).2 _)<|nE hn<|coR<|nR 3 hn<|nI (QUU (256*s.a+v23) (Wd16.mk8 (b21) (hk23)) hn.at_) hn hr<|fun v26 s26 xs26 w26 hk26 hn hr=>nA (QQV v26 (hk26) hn.at_) hn<|fun w27 hn=>wT<|coZ<|nFs hn (.u_wz _ (((256*s.a+v23)+1)%65536)) (hn.at_.ms.u_wz (Wd16.mod _))<|fun w28 hn=>eoB<|eoV (OutV.ok (dN hr) hn)
     · have g19:¬s.y=3:=by simpa using h19
       have hr:=hr.trans (JF g19)
       refine wp_seq_k fun K29 hK29=>JC<|oB 48 (egI _ _ _ _ _) (Zi s.y 4)<|oA 47 (.bool (s.y==4)) ?_
       refine JT ?_
       try simp only[Act.put,sA,sB,sC]
       refine JK<|hK29 _ _ ?_
       refine wp_cond_split (t:=s.y==4) (by kernel_rfl) (fun h30=>?_) (fun h30=>?_)
       · have g30:s.y=4:=by simpa using h30
         have hr:=hr.trans (JI g30)
         exact JB<|coZ<|nR 1 hn<|nV (QGi hn.at_) hn hr<|fun s31 xs31 w31 hn hr=>woE<|eoB<|eoV (OutV.ok (dN hr) hn)
       · have g30:¬s.y=4:=by simpa using h30
         have hr:=hr.trans (JF g30)
         refine wp_seq_k fun K32 hK32=>JC<|oB 52 (egI _ _ _ _ _) (Zi s.y 5)<|oA 51 (.bool (s.y==5)) ?_
         refine JT ?_
         try simp only[Act.put,sA,sB,sC]
         refine JK<|hK32 _ _ ?_
         refine wp_cond_split (t:=s.y==5) (by kernel_rfl) (fun h33=>?_) (fun h33=>?_)
         · have g33:s.y=5:=by simpa using h33
           have hr:=hr.trans (JI g33)
           have b34:=hn.at_.ms.r.hl
           have b35:=hn.at_.ms.r.de
           have c3:=hn.at_.cell 3 (.int .u16 (s.r.hl)) (fun _ _ _=>rfl)
           have c2:=hn.at_.cell 2 (.int .u16 (s.r.de)) (fun _ _ _=>rfl)
           have z2:=hn.at_.frozen 2
           have z3:=hn.at_.frozen 3
           have hn:=hn.drew
           go_region
           have hn:=hn.set 2 (.int .u16 (s.r.hl)) (s.u_de (s.r.hl)) (QWU _ _) (hn.at_.ms.u_de (b34))
           have hn:=hn.set 3 (.int .u16 (s.r.de)) ((s.u_de (s.r.hl)).u_hl (s.r.de)) (QP2 _ _) (hn.at_.ms.u_hl (b35))
           refine Q8 ?_
           refine ZT rfl rfl ?_
           exact OutV.ok (hr.trans (Tr.run_done _ _)) hn
         · have g33:¬s.y=5:=by simpa using h33
           have hr:=hr.trans (JF g33)
           refine JB<|nQ hn<|nIf hr (fun g37 hr=>?_) fun g37 hr=>?_
           · exact coZ<|nRs 6 hn (.u_iff1 _ (false)) (hn.at_.ms.u_iff1)<|fun w38 hn=>nFs hn (.u_iff2 _ (false)) (hn.at_.ms.u_iff2)<|fun w39 hn=>eoB<|eoV (OutV.ok (dN hr) hn)
           refine nQ hn<|nIf hr (fun g41 hr=>?_) fun g41 hr=>?_
           · exact coZ<|nRs 7 hn (.u_iff1 _ (true)) (hn.at_.ms.u_iff1)<|fun w42 hn=>nRs 4 hn (.u_iff2 _ (true)) (hn.at_.ms.u_iff2)<|fun w43 hn=>nFs hn (.u_late _ (true)) (hn.at_.ms.u_late)<|fun w44 hn=>eoB<|eoV (OutV.ok (dN hr) hn)
           exact JE<|eoB<|eoV (OutV.ok (dN hr) hn)
theorem QMz  {s:Ms} {xs:List Int} {w:World} {p B:Nat}(h:AtN w p B s xs) :
 Calls Tryz.prog 190 #[pT p 0] w (OutV w p B ((jz s).run xs)):=by
 have hn:=NowN.begin h
 have hr:(jz s).run xs=(jz s).run xs:=rfl
 go_enter Tryz.func190,Tryz.ntmps190
 refine JB<|nQ hn<|coB<|nQ hn<|nIf hr (fun g3 hr=>?_) fun g3 hr=>?_
 · refine coR<|nR 1 hn<|nV (QQ 1 hn.at_) hn hr<|fun s5 xs5 w5 hn hr=>wT<|coR<|nR 5 hn<|nA (QEW s5.y hn.at_) hn<|fun w7 hn=>wT<|coI (s5.holds s5.y) (fun h8=>?_) fun h8=>?_
   · have g8:s5.holds s5.y=true:=by simpa using h8
     exact have hr:=hr.trans (JI g8);coZ<|nR 2 hn<|nI (QIt hn.at_) hn hr<|fun v9 s9 xs9 w9 hk9 hn hr=>nA (QDa v9 (hk9) hn.at_) hn<|fun w10 hn=>woE<|eoB<|eoV (OutV.ok (dN hr) hn)
   have g8:¬s5.holds s5.y=true:=by simpa using h8
   exact have hr:=hr.trans (JF g8);JE<|eoB<|eoV (OutV.ok (dN hr) hn)
 refine nQ hn<|nIf hr (fun g12 hr=>?_) fun g12 hr=>?_
 · exact coZ<|nR 1 hn<|nVt (QOW hn.at_) hn hr<|fun s13 xs13 w13 hn hr=>woE<|eoB<|eoV (OutV.ok (dN hr) hn)
 refine nQ hn<|nIf hr (fun g15 hr=>?_) fun g15 hr=>?_
 · refine coR<|nR 2 hn<|nI (QAf hn.at_) hn hr<|fun v17 s17 xs17 w17 hk17 hn hr=>nEs hn (.u_wz _ (v17)) (hn.at_.ms.u_wz (hk17))<|fun w18 hn=>coR<|nR 5 hn<|nA (QEW ((s17.u_wz (v17)).y) hn.at_) hn<|fun w20 hn=>wT<|coI ((s17.u_wz (v17)).holds ((s17.u_wz (v17)).y)) (fun h21=>?_) fun h21=>?_
   · have g21:(s17.u_wz (v17)).holds ((s17.u_wz (v17)).y)=true:=by simpa using h21
     exact have hr:=hr.trans (JI g21);have b22:=hn.at_.ms.r.wz;coZ<|nFs hn ((s17.u_wz (v17)).u_pc ((s17.u_wz (v17)).r.wz)) (hn.at_.ms.u_pc (b22))<|fun w23 hn=>eoB<|eoV (OutV.ok (dN hr) hn)
   have g21:¬(s17.u_wz (v17)).holds ((s17.u_wz (v17)).y)=true:=by simpa using h21
   exact have hr:=hr.trans (JF g21);JE<|eoB<|eoV (OutV.ok (dN hr) hn)
 refine nQ hn<|nIf hr (fun g25 hr=>?_) fun g25 hr=>?_
 · exact coZ<|nR 1 hn<|nVt (QPl hn.at_) hn hr<|fun s26 xs26 w26 hn hr=>woE<|eoB<|eoV (OutV.ok (dN hr) hn)
 refine nQ hn<|nIf hr (fun g28 hr=>?_) fun g28 hr=>?_
 · exact coZ<|nR 6 hn<|nA (QEW s.y hn.at_) hn<|fun w29 hn=>nVt (QPe (s.holds s.y) hn.at_) hn hr<|fun s30 xs30 w30 hn hr=>woE<|eoB<|eoV (OutV.ok (dN hr) hn)
 refine nQ hn<|nIf hr (fun g32 hr=>?_) fun g32 hr=>?_
 · exact coZ<|nR 1 hn<|nVt (QSx hn.at_) hn hr<|fun s33 xs33 w33 hn hr=>woE<|eoB<|eoV (OutV.ok (dN hr) hn)
 refine nQ hn<|nIf hr (fun g35 hr=>?_) fun g35 hr=>?_
 · exact coZ<|nR 2 hn<|nI (jL hn.at_) hn hr<|fun v36 s36 xs36 w36 hk36 hn hr=>nA (QCb v36 (hk36) hn.at_) hn<|fun w37 hn=>woE<|eoB<|eoV (OutV.ok (dN hr) hn)
 refine nQ hn<|nIf hr (fun g39 hr=>?_) fun g39 hr=>?_
 · exact coR<|nR 1 hn<|nV (QQ 1 hn.at_) hn hr<|fun s41 xs41 w41 hn hr=>wT<|have b43:=hn.at_.ms.r.pc;coR<|nR 6 hn<|nV (QHw s41.r.pc (b43) hn.at_) hn hr<|fun s44 xs44 w44 hn hr=>wT<|coZ<|nR 5 hn<|QLu 87 (egI _ _ _ _ _) (QTG 8 s44.y (by have:=hn.at_.ms.y;omega) (by have:=hn.at_.ms.y;omega))<|nR 1 hn<|nA (QDa ((8*s44.y)%65536) (Wd16.mod _) hn.at_) hn<|fun w45 hn=>woE<|eoB<|eoV (OutV.ok (dN hr) hn)
 exact JE<|eoB<|eoV (OutV.ok (dN hr) hn)
end Go.Proofs.YtkgaeamdhhceiaaGreatDoor
