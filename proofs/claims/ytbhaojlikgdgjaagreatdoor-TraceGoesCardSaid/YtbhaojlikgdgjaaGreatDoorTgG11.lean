/- Contracts and facts that the claim's proof wants (several texts in one). -/
import Derived.Test.YtbhaojlikgdgjaaGreatDoorTgG10
namespace Go.Proofs.YtbhaojlikgdgjaaGreatDoor
open Go.RowKit
set_option linter.unusedVariables false
set_option linter.unusedSimpArgs false
set_option maxRecDepth 20000
set_option maxHeartbeats 20000000
theorem QGa  {s:Ms} {xs:List Int} {w:World} {p B:Nat}(h:AtN w p B s xs) :
 Calls Tryz.prog 237 #[pT p 0] w (fun e w'=>e=.returned (.int .u8 (s.left))∧NowN w p B (s.lessB) xs w'):=by
 have hn:=NowN.begin h
 go_enter Tryz.func237,Tryz.ntmps237
 exact JA<|nQ hn<|have b3:=hn.at_.ms.r.get s.plane 0;coR<|nR 1 hn<|nA (QOI 0 (by decide) hn.at_) hn<|fun w4 hn=>nE hn<|coR<|nR 2 hn<|nA (QTT 0 (((QAq s.r s.plane 0)-1)%256) (B8.mod _) (by decide) hn.at_) hn<|fun w6 hn=>wT<|nQ hn<|JK<|Ju (.int .u8 (((QAq s.r s.plane 0)-1)%256)) (⟨rfl,hn⟩)
theorem QSX  {s:Ms} {xs:List Int} {w:World} {p B:Nat}(h:AtN w p B s xs) :
 Calls Tryz.prog 153 #[pT p 0] w (OutV w p B ((QMt s).run xs)):=by
 have hn:=NowN.begin h
 have hr:(QMt s).run xs=(QMt s).run xs:=rfl
 go_enter Tryz.func153,Tryz.ntmps153
 exact JA<|have b2:=zn hn.at_.ms;coR<|nR 2 hn<|nA (QMQ hn.at_) hn<|fun w3 hn=>nR 1 hn<|nI (ZE hn.at_) hn hr<|fun v4 s4 xs4 w4 hk4 hn hr=>kE (QGn s.hl v4 (b2) (hk4) _)<|nEs hn (.u_spot _ (JG s.hl (JP v4))) (hn.at_.ms.u_spot (Wd16.mod _))<|fun w6 hn=>have b8:=hn.at_.ms.spot;nQs hn ((s4.u_spot (JG s.hl (JP v4))).u_wz ((s4.u_spot (JG s.hl (JP v4))).spot)) (hn.at_.ms.u_wz (b8))<|fun w9 hn=>nQs hn (.u_near _ (true)) (hn.at_.ms.u_near)<|fun w11 hn=>coZ<|nFs hn (.u_plane _ (0)) (hn.at_.ms.u_plane ((by decide)))<|fun w12 hn=>eoV (OutV.ok (dN hr) hn)
theorem QD3 (o:Bool){s:Ms} {xs:List Int} {w:World} {p B:Nat}(h:AtN w p B s xs) :
 Calls Tryz.prog 242 #[pT p 0,.bool (o)] w (OutV w p B ((zC o s).run xs)):=by
 have hn:=NowN.begin h
 have hr:(zC o s).run xs=(zC o s).run xs:=rfl
 go_enter Tryz.func242,Tryz.ntmps242
 refine JA<|coR<|nR 1 hn<|nI (ZE hn.at_) hn hr<|fun v2 s2 xs2 w2 hk2 hn hr=>nE hn<|coS<|nQ hn<|coI (!(o)) (fun h5=>?_) fun h5=>?_
 · have g5:¬o=true:=by simpa using h5
   exact have hr:=hr.trans (JB g5);JK<|Qh<|QDz (OutV.ok (dN hr) hn)
 have g5:o=true:=by simpa using h5
 exact have hr:=hr.trans (JC g5);JE<|eoT<|coR<|nR 1 hn<|nV (Jm 5 hn.at_) hn hr<|fun s7 xs7 w7 hn hr=>wT<|have b8:=hn.at_.ms.r.pc;coZ<|nR 7 hn<|kE (QGn s7.r.pc v2 (b8) (hk2) _)<|nA (QCC (JG s7.r.pc (JP v2)) (Wd16.mod _) hn.at_) hn<|fun w10 hn=>woE<|eoV (OutV.ok (dN hr) hn)
theorem QOy  {s:Ms} {xs:List Int} {w:World} {p B:Nat}(h:AtN w p B s xs) :
 Calls Tryz.prog 193 #[pT p 0] w (OutV w p B ((QA2 s).run xs)):=by
 have hn:=NowN.begin h
 have hr:(QA2 s).run xs=(QA2 s).run xs:=rfl
 go_enter Tryz.func193,Tryz.ntmps193
 refine JA<|nQ hn<|coB<|nQ hn<|nIf hr (fun g3 hr=>?_) fun g3 hr=>?_
 · exact JE<|eoB<|eoV (OutV.ok (dN hr) hn)
 refine nQ hn<|nIf hr (fun g5 hr=>?_) fun g5 hr=>?_
 · exact have b6:=hn.at_.ms.r;coZ<|nR 5 hn<|nB (QPj s.r _) hn<|fun w7 hn=>nFs hn _ (hn.at_.ms.u_rg ((b6).swap))<|fun w8 hn=>eoB<|eoV (OutV.ok (dN hr) hn)
 refine nQ hn<|nIf hr (fun g10 hr=>?_) fun g10 hr=>?_
 · exact coR<|nR 1 hn<|nV (Jm 1 hn.at_) hn hr<|fun s12 xs12 w12 hn hr=>wT<|coR<|nR 1 hn<|nA (QGa hn.at_) hn<|fun w14 hn=>nE hn<|coZ<|nR 3 hn<|nVt (QD3 (s12.left != 0) hn.at_) hn hr<|fun s15 xs15 w15 hn hr=>woE<|eoB<|eoV (OutV.ok (dN hr) hn)
 refine nQ hn<|nIf hr (fun g17 hr=>?_) fun g17 hr=>?_
 · exact coZ<|nR 1 hn<|nV (QD3 true hn.at_) hn hr<|fun s18 xs18 w18 hn hr=>woE<|eoB<|eoV (OutV.ok (dN hr) hn)
 exact coZ<|nR 6 hn<|QTv 13 (egI _ _ _ _ _) (QST s.y 4 (by have:=hn.at_.ms.y;omega) (by have:=hn.at_.ms.y;omega))<|nA (QCw (s.y-4) hn.at_) hn<|fun w19 hn=>nVt (QD3 (s.holds (s.y-4)) hn.at_) hn hr<|fun s20 xs20 w20 hn hr=>woE<|eoB<|eoV (OutV.ok (dN hr) hn)
theorem QIO  {s:Ms} {xs:List Int} {w:World} {p B:Nat}(h:AtN w p B s xs) :
 Calls Tryz.prog 194 #[pT p 0] w (OutV w p B ((jE s).run xs)):=by
 have hn:=NowN.begin h
 have hr:(jE s).run xs=(jE s).run xs:=rfl
 go_enter Tryz.func194,Tryz.ntmps194
 refine JA<|coS<|nQ hn<|nIf hr (fun g3 hr=>?_) fun g3 hr=>?_
 · exact coR<|nR 2 hn<|nI (qy hn.at_) hn hr<|fun v5 s5 xs5 w5 hk5 hn hr=>nA (jy v5 (hk5) hn.at_) hn<|fun w6 hn=>wT<|JK<|Qh<|QDz (OutV.ok (dN hr) hn)
 exact JE<|eoT<|coR<|nR 1 hn<|nV (Jm 7 hn.at_) hn hr<|fun s8 xs8 w8 hn hr=>wT<|have b10:=zn hn.at_.ms;coR<|nR 1 hn<|nA (QMQ hn.at_) hn<|fun w11 hn=>nE hn<|nQs hn (.u_wz _ ((s8.hl+1)%65536)) (hn.at_.ms.u_wz (Wd16.mod _))<|fun w13 hn=>have b15:=Qx hn.at_.ms;coR<|nR 2 hn<|nA (Z3 hn.at_) hn<|fun w16 hn=>have b17:=QF hn.at_.ms;nR 1 hn<|nA (m_f hn.at_) hn<|fun w18 hn=>nB (QM9 s8.hl ((s8.u_wz ((s8.hl+1)%65536)).pair) ((s8.u_wz ((s8.hl+1)%65536)).f) (b10) (b15) (b17) _) hn<|fun w19 hn=>nE hn<|coR<|nR 2 hn<|nA (QGM (jo s8.hl ((s8.u_wz ((s8.hl+1)%65536)).pair) false) (Wd16.mod _) hn.at_) hn<|fun w21 hn=>wT<|coZ<|nR 2 hn<|nA (Xs (QFF s8.hl ((s8.u_wz ((s8.hl+1)%65536)).pair) ((s8.u_wz ((s8.hl+1)%65536)).f)) (QJV _ _ _) hn.at_) hn<|fun w22 hn=>woE<|eoV (OutV.ok (dN hr) hn)
theorem QHz (x:Int)(hAx:Wd16 x){s:Ms} {xs:List Int} {w:World} {p B:Nat}(h:AtN w p B s xs) :
 Calls Tryz.prog 261 #[pT p 0,.int .u16 (x)] w (fun e w'=>e=.returned (.tuple #[])∧NowN w p B (QI1 s x) xs w'):=by
 have hn:=NowN.begin h
 go_enter Tryz.func261,Tryz.ntmps261
 exact JA<|have b1:=ZB hn.at_.ms;coZ<|nR 2 hn<|nA (m_a hn.at_) hn<|fun w2 hn=>nR 1 hn<|kE (ZS x (hAx).1 (hAx).2 _)<|nR 1 hn<|kE (JW s.a (((x%256)+1)%256) (b1).1 (b1).2 (B8.mod _).1 (B8.mod _).2 _)<|nFs hn (.u_wz _ (256*s.a+(((x%256)+1)%256))) (hn.at_.ms.u_wz (Wd16.mk8 (b1) (B8.mod _)))<|fun w5 hn=>eoV (⟨rfl,hn⟩)
theorem QEI (a:Int)(hAa:Wd16 a){s:Ms} {xs:List Int} {w:World} {p B:Nat}(h:AtN w p B s xs) :
 Calls Tryz.prog 245 #[pT p 0,.int .u16 (a)] w (OutV w p B ((QAH a s).run xs)):=by
 have hn:=NowN.begin h
 have hr:(QAH a s).run xs=(QAH a s).run xs:=rfl
 go_enter Tryz.func245,Tryz.ntmps245
 exact JA<|have b2:=ZB hn.at_.ms;coR<|nR 3 hn<|nA (m_a hn.at_) hn<|fun w3 hn=>nV (Xo a (hAa) s.a (b2) hn.at_) hn hr<|fun s4 xs4 w4 hn hr=>wT<|coZ<|nR 2 hn<|nA (QHz a (hAa) hn.at_) hn<|fun w5 hn=>woE<|eoV (OutV.ok (dN hr) hn)
theorem QGR (a:Int)(hAa:Wd16 a){s:Ms} {xs:List Int} {w:World} {p B:Nat}(h:AtN w p B s xs) :
 Calls Tryz.prog 246 #[pT p 0,.int .u16 (a)] w (OutV w p B ((QBj a s).run xs)):=by
 have hn:=NowN.begin h
 have hr:(QBj a s).run xs=(QBj a s).run xs:=rfl
 go_enter Tryz.func246,Tryz.ntmps246
 exact JA<|coR<|nR 3 hn<|nI (ja a (hAa) hn.at_) hn hr<|fun v2 s2 xs2 w2 hk2 hn hr=>nA (QNf v2 (hk2) hn.at_) hn<|fun w3 hn=>wT<|coZ<|nFs hn (.u_wz _ ((a+1)%65536)) (hn.at_.ms.u_wz (Wd16.mod _))<|fun w4 hn=>eoV (OutV.ok (dN hr) hn)
theorem QCL (a:Int)(hAa:Wd16 a)(x:Int)(hAx:Wd16 x){s:Ms} {xs:List Int} {w:World} {p B:Nat}(h:AtN w p B s xs) :
 Calls Tryz.prog 227 #[pT p 0,.int .u16 (a),.int .u16 (x)] w (OutV w p B ((ZQ a x s).run xs)):=by
 have hn:=NowN.begin h
 have hr:(ZQ a x s).run xs=(ZQ a x s).run xs:=rfl
 go_enter Tryz.func227,Tryz.ntmps227
 exact JA<|coR<|nR 3 hn<|kE (ZS x (hAx).1 (hAx).2 _)<|nV (Xo a (hAa) (x%256) ((hAx).lo8) hn.at_) hn hr<|fun s3 xs3 w3 hn hr=>wT<|coR<|nR 4 hn<|kE (jq x (hAx).1 (hAx).2 _)<|nV (Xo ((a+1)%65536) (Wd16.mod _) (x / 256) ((hAx).hi) hn.at_) hn hr<|fun s6 xs6 w6 hn hr=>wT<|coZ<|nFs hn (.u_wz _ ((a+1)%65536)) (hn.at_.ms.u_wz (Wd16.mod _))<|fun w7 hn=>eoV (OutV.ok (dN hr) hn)
theorem QEK (a:Int)(hAa:Wd16 a){s:Ms} {xs:List Int} {w:World} {p B:Nat}(h:AtN w p B s xs) :
 Calls Tryz.prog 229 #[pT p 0,.int .u16 (a)] w (OutI w p B .u16 ((Zz a s).run xs)):=by
 have hn:=NowN.begin h
 have hr:(Zz a s).run xs=(Zz a s).run xs:=rfl
 go_enter Tryz.func229,Tryz.ntmps229
 exact JA<|nQ hn<|coR<|nR 2 hn<|nI (QED a (hAa) hn.at_) hn hr<|fun v3 s3 xs3 w3 hk3 hn hr=>nE hn<|nQs hn (.u_wz _ ((a+1)%65536)) (hn.at_.ms.u_wz (Wd16.mod _))<|fun w5 hn=>nQ hn<|JK<|Ju (.int .u16 (v3)) (OutI.ok (dN hr) (hk3) hn)
theorem QDd  {s:Ms} {xs:List Int} {w:World} {p B:Nat}(h:AtN w p B s xs) :
 Calls Tryz.prog 195 #[pT p 0] w (OutV w p B ((Xm s).run xs)):=by
 have hn:=NowN.begin h
 have hr:(Xm s).run xs=(Xm s).run xs:=rfl
 go_enter Tryz.func195,Tryz.ntmps195
 refine JA<|nQ hn<|coB<|coS<|nQ hn<|coI (s.y==0) (fun h4=>?_) fun h4=>?_
 · have g4:s.y=0:=by simpa using h4
   exact have hr:=hr.trans (JC (.inl g4));JE<|eoT<|coJ (s.y==0) (fun h5=>absurd (h4.symm.trans h5) (by decide))<|fun h5=>have b6:=Qx hn.at_.ms;coZ<|nR 2 hn<|nA (Z3 hn.at_) hn<|fun w7 hn=>nV (QEI s.pair (b6) hn.at_) hn hr<|fun s8 xs8 w8 hn hr=>woE<|eoB<|eoV (OutV.ok (dN hr) hn)
 have g4:¬s.y=0:=by simpa using h4
 refine coZ<|nE hn<|coI (s.y==2) (fun h9=>?_) fun h9=>?_
 · have g9:s.y=2:=by simpa using h9
   exact have hr:=hr.trans (JC (.inr g9));have b10:=Qx hn.at_.ms;coZ<|nR 2 hn<|nA (Z3 hn.at_) hn<|fun w11 hn=>nV (QEI s.pair (b10) hn.at_) hn hr<|fun s12 xs12 w12 hn hr=>woE<|eoB<|eoV (OutV.ok (dN hr) hn)
 have g9:¬s.y=2:=by simpa using h9
 refine have hr:=hr.trans (JB (not_or.2 ⟨g4,g9⟩));coS<|nQ hn<|coI (s.y==1) (fun h15=>?_) fun h15=>?_
 · have g15:s.y=1:=by simpa using h15
   exact have hr:=hr.trans (JC (.inl g15));JE<|eoT<|coJ (s.y==1) (fun h16=>absurd (h15.symm.trans h16) (by decide))<|fun h16=>have b17:=Qx hn.at_.ms;coZ<|nR 2 hn<|nA (Z3 hn.at_) hn<|fun w18 hn=>nV (QGR s.pair (b17) hn.at_) hn hr<|fun s19 xs19 w19 hn hr=>woE<|eoB<|eoV (OutV.ok (dN hr) hn)
 have g15:¬s.y=1:=by simpa using h15
 refine coZ<|nE hn<|coI (s.y==3) (fun h20=>?_) fun h20=>?_
 · have g20:s.y=3:=by simpa using h20
   exact have hr:=hr.trans (JC (.inr g20));have b21:=Qx hn.at_.ms;coZ<|nR 2 hn<|nA (Z3 hn.at_) hn<|fun w22 hn=>nV (QGR s.pair (b21) hn.at_) hn hr<|fun s23 xs23 w23 hn hr=>woE<|eoB<|eoV (OutV.ok (dN hr) hn)
 have g20:¬s.y=3:=by simpa using h20
 refine have hr:=hr.trans (JB (not_or.2 ⟨g15,g20⟩));nQ hn<|nIf hr (fun g25 hr=>?_) fun g25 hr=>?_
 · exact coZ<|nR 2 hn<|nI (qy hn.at_) hn hr<|fun v26 s26 xs26 w26 hk26 hn hr=>have b27:=zn hn.at_.ms;nR 1 hn<|nA (QMQ hn.at_) hn<|fun w28 hn=>nV (QCL v26 (hk26) s26.hl (b27) hn.at_) hn hr<|fun s29 xs29 w29 hn hr=>woE<|eoB<|eoV (OutV.ok (dN hr) hn)
 refine nQ hn<|nIf hr (fun g31 hr=>?_) fun g31 hr=>?_
 · exact coZ<|nR 3 hn<|nI (qy hn.at_) hn hr<|fun v32 s32 xs32 w32 hk32 hn hr=>nI (QEK v32 (hk32) hn.at_) hn hr<|fun v33 s33 xs33 w33 hk33 hn hr=>nA (QGM v33 (hk33) hn.at_) hn<|fun w34 hn=>woE<|eoB<|eoV (OutV.ok (dN hr) hn)
 refine nQ hn<|nIf hr (fun g36 hr=>?_) fun g36 hr=>?_
 · exact coZ<|nR 2 hn<|nI (qy hn.at_) hn hr<|fun v37 s37 xs37 w37 hk37 hn hr=>nV (QEI v37 (hk37) hn.at_) hn hr<|fun s38 xs38 w38 hn hr=>woE<|eoB<|eoV (OutV.ok (dN hr) hn)
 refine nQ hn<|nIf hr (fun g40 hr=>?_) fun g40 hr=>?_
 · exact coZ<|nR 2 hn<|nI (qy hn.at_) hn hr<|fun v41 s41 xs41 w41 hk41 hn hr=>nV (QGR v41 (hk41) hn.at_) hn hr<|fun s42 xs42 w42 hn hr=>woE<|eoB<|eoV (OutV.ok (dN hr) hn)
 exact JE<|eoB<|eoV (OutV.ok (dN hr) hn)
theorem QJv  {s:Ms} {xs:List Int} {w:World} {p B:Nat}(h:AtN w p B s xs) :
 Calls Tryz.prog 196 #[pT p 0] w (OutV w p B ((j7 s).run xs)):=by
 have hn:=NowN.begin h
 have hr:(j7 s).run xs=(j7 s).run xs:=rfl
 go_enter Tryz.func196,Tryz.ntmps196
 refine JA<|coR<|nR 1 hn<|nV (Jm 2 hn.at_) hn hr<|fun s2 xs2 w2 hn hr=>wT<|nQ hn<|nIf hr (fun g4 hr=>?_) fun g4 hr=>?_
 · exact have b5:=Qx hn.at_.ms;coZ<|nR 2 hn<|nA (Z3 hn.at_) hn<|fun w6 hn=>nR 1 hn<|nA (jy ((s2.pair+1)%65536) (Wd16.mod _) hn.at_) hn<|fun w7 hn=>woE<|eoV (OutV.ok (dN hr) hn)
 exact have b8:=Qx hn.at_.ms;coZ<|nR 2 hn<|nA (Z3 hn.at_) hn<|fun w9 hn=>nR 1 hn<|nA (jy ((s2.pair-1)%65536) (Wd16.mod _) hn.at_) hn<|fun w10 hn=>woE<|eoV (OutV.ok (dN hr) hn)
theorem QHA  {s:Ms} {xs:List Int} {w:World} {p B:Nat}(h:AtN w p B s xs) :
 Calls Tryz.prog 197 #[pT p 0,.func (.func 198) #[] #[]] w (OutV w p B ((qu false s).run xs)):=by
 have hn:=NowN.begin h
 have hr:(qu false s).run xs=(qu false s).run xs:=rfl
 go_enter Tryz.func197,Tryz.ntmps197
 refine JA<|coR<|nR 5 hn<|nI (QCb s.y hn.at_) hn hr<|fun v2 s2 xs2 w2 hk2 hn hr=>nE hn<|coS<|nQ hn<|QEg hr (fun g5 hr=>?_) fun g5 hr=>?_
 · exact coZ<|nR 1 hn<|nV (Jm 1 hn.at_) hn hr<|fun s6 xs6 w6 hn hr=>wT<|have b8:=QF hn.at_.ms;coR<|nR 3 hn<|nA (m_f hn.at_) hn<|fun w9 hn=>nB (QKE v2 s6.f (hk2) (b8) _) hn<|fun w10 hn=>nE hn<|coR<|nR 2 hn<|nA (Xs (QIR v2 s6.f) (QFX _ _) hn.at_) hn<|fun w12 hn=>wT<|coZ<|nR 6 hn<|nVt (zE ((s6.setF (QIR v2 s6.f)).y) (Xe v2 1 false) (QL _ _ _) hn.at_) hn hr<|fun s13 xs13 w13 hn hr=>woE<|eoV (OutV.ok (dN hr) hn)
 exact JE<|eoT<|have b15:=QF hn.at_.ms;coR<|nR 3 hn<|nA (m_f hn.at_) hn<|fun w16 hn=>nB (QKE v2 s2.f (hk2) (b15) _) hn<|fun w17 hn=>nE hn<|coR<|nR 2 hn<|nA (Xs (QIR v2 s2.f) (QFX _ _) hn.at_) hn<|fun w19 hn=>wT<|coZ<|nR 6 hn<|nVt (zE ((s2.setF (QIR v2 s2.f)).y) (Xe v2 1 false) (QL _ _ _) hn.at_) hn hr<|fun s20 xs20 w20 hn hr=>woE<|eoV (OutV.ok (dN hr) hn)
theorem QH0  {s:Ms} {xs:List Int} {w:World} {p B:Nat}(h:AtN w p B s xs) :
 Calls Tryz.prog 197 #[pT p 0,.func (.func 199) #[] #[]] w (OutV w p B ((qu true s).run xs)):=by
 have hn:=NowN.begin h
 have hr:(qu true s).run xs=(qu true s).run xs:=rfl
 go_enter Tryz.func197,Tryz.ntmps197
 refine JA<|coR<|nR 5 hn<|nI (QCb s.y hn.at_) hn hr<|fun v2 s2 xs2 w2 hk2 hn hr=>nE hn<|coS<|nQ hn<|QEg hr (fun g5 hr=>?_) fun g5 hr=>?_
 · exact coZ<|nR 1 hn<|nV (Jm 1 hn.at_) hn hr<|fun s6 xs6 w6 hn hr=>wT<|have b8:=QF hn.at_.ms;coR<|nR 3 hn<|nA (m_f hn.at_) hn<|fun w9 hn=>nB (QKT v2 s6.f (hk2) (b8) _) hn<|fun w10 hn=>nE hn<|coR<|nR 2 hn<|nA (Xs (QId v2 s6.f) (QEn _ _) hn.at_) hn<|fun w12 hn=>wT<|coZ<|nR 6 hn<|nVt (zE ((s6.setF (QId v2 s6.f)).y) (QT v2 1 false) (J7 _ _ _) hn.at_) hn hr<|fun s13 xs13 w13 hn hr=>woE<|eoV (OutV.ok (dN hr) hn)
 exact JE<|eoT<|have b15:=QF hn.at_.ms;coR<|nR 3 hn<|nA (m_f hn.at_) hn<|fun w16 hn=>nB (QKT v2 s2.f (hk2) (b15) _) hn<|fun w17 hn=>nE hn<|coR<|nR 2 hn<|nA (Xs (QId v2 s2.f) (QEn _ _) hn.at_) hn<|fun w19 hn=>wT<|coZ<|nR 6 hn<|nVt (zE ((s2.setF (QId v2 s2.f)).y) (QT v2 1 false) (J7 _ _ _) hn.at_) hn hr<|fun s20 xs20 w20 hn hr=>woE<|eoV (OutV.ok (dN hr) hn)
theorem QGU  {s:Ms} {xs:List Int} {w:World} {p B:Nat}(h:AtN w p B s xs) :
 Calls Tryz.prog 200 #[pT p 0] w (OutV w p B ((Zf s).run xs)):=by
 have hn:=NowN.begin h
 have hr:(Zf s).run xs=(Zf s).run xs:=rfl
 go_enter Tryz.func200,Tryz.ntmps200
 refine JA<|coR<|nR 1 hn<|nI (ZE hn.at_) hn hr<|fun v2 s2 xs2 w2 hk2 hn hr=>nE hn<|coS<|nQ hn<|coI (s2.near) (fun h5=>?_) fun h5=>?_
 · have g5:s2.near=true:=by simpa using h5
   exact have hr:=hr.trans (jP g5);coZ<|nR 1 hn<|nV (Jm 2 hn.at_) hn hr<|fun s6 xs6 w6 hn hr=>wT<|coZ<|nR 6 hn<|nVt (zE s6.y v2 (hk2) hn.at_) hn hr<|fun s7 xs7 w7 hn hr=>woE<|eoV (OutV.ok (dN hr) hn)
 have g5:¬s2.near=true:=by simpa using h5
 exact have hr:=hr.trans (jU g5);JE<|eoT<|coZ<|nR 6 hn<|nVt (zE s2.y v2 (hk2) hn.at_) hn hr<|fun s8 xs8 w8 hn hr=>woE<|eoV (OutV.ok (dN hr) hn)
theorem QNy  {s:Ms} {xs:List Int} {w:World} {p B:Nat}(h:AtN w p B s xs) :
 Calls Tryz.prog 201 #[pT p 0] w (fun e w'=>e=.returned (.tuple #[])∧NowN w p B (Xn s) xs w'):=by
 have hn:=NowN.begin h
 go_enter Tryz.func201,Tryz.ntmps201
 refine JA<|have b2:=ZB hn.at_.ms;coR<|nR 1 hn<|nA (m_a hn.at_) hn<|fun w3 hn=>have b4:=QF hn.at_.ms;nR 1 hn<|nA (m_f hn.at_) hn<|fun w5 hn=>nE hn<|coS<|nQ hn<|coB<|nQ hn<|coI (s.y==4) (fun h9=>?_) fun h9=>?_
 · have g9:s.y=4:=by simpa using h9
   refine coZ<|nR 2 hn<|nB (QR9 s.a s.f (b2) (b4) _ hn.at_.tabs.digits) hn<|fun w10 hn=>nF hn<|eoB<|eoT<|coZ<|nR 3 hn<|kE (JW (Z7 s.a s.f) (QJK s.a s.f) (qU _ _).1 (qU _ _).2 (QBq _ _).1 (QBq _ _).2 _)<|nFs hn (.u_af _ (256*(Z7 s.a s.f)+(QJK s.a s.f))) (hn.at_.ms.u_af (Wd16.mk8 (qU _ _) (QBq _ _)))<|fun w12 hn=>eoV ?_
   have e:Xn s=s.u_af (256*(Z7 s.a s.f)+(QJK s.a s.f)):=by
    unfold Xn
    repeat (first|rw[if_pos (by assumption)]|rw[if_neg (by assumption)])
    rfl
   exact⟨rfl,e▸hn⟩
 have g9:¬s.y=4:=by simpa using h9
 refine nQ hn<|coI (s.y==5) (fun h14=>?_) fun h14=>?_
 · have g14:s.y=5:=by simpa using h14
   refine coZ<|nR 2 hn<|kE (QQV s.a s.f (b2) (b4) _)<|nF hn<|eoB<|eoT<|coZ<|nR 3 hn<|kE (JW (255-s.a) (QJX s.a s.f) (B8.not (b2)).1 (B8.not (b2)).2 (QR _ _ _ _ _).1 (QR _ _ _ _ _).2 _)<|nFs hn (.u_af _ (256*(255-s.a)+(QJX s.a s.f))) (hn.at_.ms.u_af (Wd16.mk8 (B8.not (b2)) (QR _ _ _ _ _)))<|fun w17 hn=>eoV ?_
   have e:Xn s=s.u_af (256*(255-s.a)+(QJX s.a s.f)):=by
    unfold Xn
    repeat (first|rw[if_pos (by assumption)]|rw[if_neg (by assumption)])
    rfl
   exact⟨rfl,e▸hn⟩
 have g14:¬s.y=5:=by simpa using h14
 refine nQ hn<|coI (s.y==6) (fun h19=>?_) fun h19=>?_
 · have g19:s.y=6:=by simpa using h19
   refine coZ<|nR 2 hn<|kE (QKQ s.a s.f (b2) (b4) _)<|nF hn<|eoB<|eoT<|coZ<|nR 3 hn<|kE (JW s.a (QGN s.a s.f) (b2).1 (b2).2 (QR _ _ _ _ _).1 (QR _ _ _ _ _).2 _)<|nFs hn (.u_af _ (256*s.a+(QGN s.a s.f))) (hn.at_.ms.u_af (Wd16.mk8 (b2) (QR _ _ _ _ _)))<|fun w22 hn=>eoV ?_
   have e:Xn s=s.u_af (256*s.a+(QGN s.a s.f)):=by
    unfold Xn
    repeat (first|rw[if_pos (by assumption)]|rw[if_neg (by assumption)])
    rfl
   exact⟨rfl,e▸hn⟩
 have g19:¬s.y=6:=by simpa using h19
 refine nQ hn<|coI (s.y==7) (fun h24=>?_) fun h24=>?_
 · have g24:s.y=7:=by simpa using h24
   refine coZ<|nR 2 hn<|kE (QQu s.a s.f (b2) (b4) _)<|nF hn<|eoB<|eoT<|coZ<|nR 3 hn<|kE (JW s.a (QGV s.a s.f) (b2).1 (b2).2 (QR _ _ _ _ _).1 (QR _ _ _ _ _).2 _)<|nFs hn (.u_af _ (256*s.a+(QGV s.a s.f))) (hn.at_.ms.u_af (Wd16.mk8 (b2) (QR _ _ _ _ _)))<|fun w27 hn=>eoV ?_
   have e:Xn s=s.u_af (256*s.a+(QGV s.a s.f)):=by
    unfold Xn
    repeat (first|rw[if_pos (by assumption)]|rw[if_neg (by assumption)])
    rfl
   exact⟨rfl,e▸hn⟩
 have g24:¬s.y=7:=by simpa using h24
 refine coZ<|nR 6 hn<|nB (QRo s.y s.a s.f (b2) (b4) _ hn.at_.tabs.courses) hn<|fun w28 hn=>nF hn<|eoB<|eoT<|coZ<|nR 3 hn<|kE (JW (QFh s.y s.a s.f) (QFb s.y s.a s.f) (QB1 _ _ _ (b2)).1 (QB1 _ _ _ (b2)).2 (QBp _ _ _ (b4)).1 (QBp _ _ _ (b4)).2 _)<|nFs hn (.u_af _ (256*(QFh s.y s.a s.f)+(QFb s.y s.a s.f))) (hn.at_.ms.u_af (Wd16.mk8 (QB1 _ _ _ (b2)) (QBp _ _ _ (b4))))<|fun w30 hn=>eoV ?_
 have e:Xn s=s.u_af (256*(QFh s.y s.a s.f)+(QFb s.y s.a s.f)):=by
  unfold Xn
  repeat (first|rw[if_pos (by assumption)]|rw[if_neg (by assumption)])
  rfl
 exact⟨rfl,e▸hn⟩
theorem QAx (b:Int)(hAb:B8 b){s:Ms} {xs:List Int} {w:World} {p B:Nat}(h:AtN w p B s xs) :
 Calls Tryz.prog 204 #[pT p 0,.int .u8 (b)] w (fun e w'=>e=.returned (.tuple #[])∧NowN w p B (Qj b s) xs w'):=by
 have hn:=NowN.begin h
 go_enter Tryz.func204,Tryz.ntmps204
 refine JA<|have b2:=ZB hn.at_.ms;coR<|nR 1 hn<|nA (m_a hn.at_) hn<|fun w3 hn=>have b4:=QF hn.at_.ms;nR 1 hn<|nA (m_f hn.at_) hn<|fun w5 hn=>nE hn<|coR<|nR 1 hn<|nA (QGZ hn.at_) hn<|fun w7 hn=>nE hn<|coS<|nQ hn<|coB<|nQ hn<|coI (s.y==0) (fun h11=>?_) fun h11=>?_
 · have g11:s.y=0:=by simpa using h11
   refine coZ<|nR 2 hn<|nB (QAF s.a b false (b2) (hAb) _) hn<|fun w12 hn=>nF hn<|eoB<|eoT<|coZ<|nR 3 hn<|kE (JW (Xe s.a b false) (Xr s.a b false) (QL _ _ _).1 (QL _ _ _).2 (Qt _ _ _).1 (Qt _ _ _).2 _)<|nFs hn (.u_af _ (256*(Xe s.a b false)+(Xr s.a b false))) (hn.at_.ms.u_af (Wd16.mk8 (QL _ _ _) (Qt _ _ _)))<|fun w14 hn=>eoV ?_
   have e:Qj b s=s.u_af (256*(Xe s.a b false)+(Xr s.a b false)):=by
    unfold Qj
    repeat (first|rw[if_pos (by assumption)]|rw[if_neg (by assumption)])
    rfl
   exact⟨rfl,e▸hn⟩
 have g11:¬s.y=0:=by simpa using h11
 refine nQ hn<|coI (s.y==1) (fun h16=>?_) fun h16=>?_
 · have g16:s.y=1:=by simpa using h16
   refine coZ<|nR 3 hn<|nB (QAF s.a b (s.carry != 0) (b2) (hAb) _) hn<|fun w17 hn=>nF hn<|eoB<|eoT<|coZ<|nR 3 hn<|kE (JW (Xe s.a b (s.carry != 0)) (Xr s.a b (s.carry != 0)) (QL _ _ _).1 (QL _ _ _).2 (Qt _ _ _).1 (Qt _ _ _).2 _)<|nFs hn (.u_af _ (256*(Xe s.a b (s.carry != 0))+(Xr s.a b (s.carry != 0)))) (hn.at_.ms.u_af (Wd16.mk8 (QL _ _ _) (Qt _ _ _)))<|fun w19 hn=>eoV ?_
   have e:Qj b s=s.u_af (256*(Xe s.a b (s.carry != 0))+(Xr s.a b (s.carry != 0))):=by
    unfold Qj
    repeat (first|rw[if_pos (by assumption)]|rw[if_neg (by assumption)])
    rfl
   exact⟨rfl,e▸hn⟩
 have g16:¬s.y=1:=by simpa using h16
 refine nQ hn<|coI (s.y==2) (fun h21=>?_) fun h21=>?_
 · have g21:s.y=2:=by simpa using h21
   refine coZ<|nR 2 hn<|nB (jR s.a b false (b2) (hAb) _) hn<|fun w22 hn=>nF hn<|eoB<|eoT<|coZ<|nR 3 hn<|kE (JW (QT s.a b false) (QX s.a b false) (J7 _ _ _).1 (J7 _ _ _).2 (J6 _ _ _).1 (J6 _ _ _).2 _)<|nFs hn (.u_af _ (256*(QT s.a b false)+(QX s.a b false))) (hn.at_.ms.u_af (Wd16.mk8 (J7 _ _ _) (J6 _ _ _)))<|fun w24 hn=>eoV ?_
   have e:Qj b s=s.u_af (256*(QT s.a b false)+(QX s.a b false)):=by
    unfold Qj
    repeat (first|rw[if_pos (by assumption)]|rw[if_neg (by assumption)])
    rfl
   exact⟨rfl,e▸hn⟩
 have g21:¬s.y=2:=by simpa using h21
 refine nQ hn<|coI (s.y==3) (fun h26=>?_) fun h26=>?_
 · have g26:s.y=3:=by simpa using h26
   refine coZ<|nR 3 hn<|nB (jR s.a b (s.carry != 0) (b2) (hAb) _) hn<|fun w27 hn=>nF hn<|eoB<|eoT<|coZ<|nR 3 hn<|kE (JW (QT s.a b (s.carry != 0)) (QX s.a b (s.carry != 0)) (J7 _ _ _).1 (J7 _ _ _).2 (J6 _ _ _).1 (J6 _ _ _).2 _)<|nFs hn (.u_af _ (256*(QT s.a b (s.carry != 0))+(QX s.a b (s.carry != 0)))) (hn.at_.ms.u_af (Wd16.mk8 (J7 _ _ _) (J6 _ _ _)))<|fun w29 hn=>eoV ?_
   have e:Qj b s=s.u_af (256*(QT s.a b (s.carry != 0))+(QX s.a b (s.carry != 0))):=by
    unfold Qj
    repeat (first|rw[if_pos (by assumption)]|rw[if_neg (by assumption)])
    rfl
   exact⟨rfl,e▸hn⟩
 have g26:¬s.y=3:=by simpa using h26
 refine nQ hn<|coI (s.y==4) (fun h31=>?_) fun h31=>?_
 · have g31:s.y=4:=by simpa using h31
   refine coZ<|nR 2 hn<|nB (QQv s.a b (b2) (hAb) _) hn<|fun w32 hn=>nF hn<|eoB<|eoT<|coZ<|nR 3 hn<|kE (JW (QCl s.a b) (QBD (QCl s.a b)) (Jw _ _ _).1 (Jw _ _ _).2 (QAd _).1 (QAd _).2 _)<|nFs hn (.u_af _ (256*(QCl s.a b)+(QBD (QCl s.a b)))) (hn.at_.ms.u_af (Wd16.mk8 (Jw _ _ _) (QAd _)))<|fun w34 hn=>eoV ?_
   have e:Qj b s=s.u_af (256*(QCl s.a b)+(QBD (QCl s.a b))):=by
    unfold Qj
    repeat (first|rw[if_pos (by assumption)]|rw[if_neg (by assumption)])
    rfl
   exact⟨rfl,e▸hn⟩
 have g31:¬s.y=4:=by simpa using h31
 refine nQ hn<|coI (s.y==5) (fun h36=>?_) fun h36=>?_
 · have g36:s.y=5:=by simpa using h36
   refine coZ<|nR 2 hn<|nB (QP1 s.a b (b2) (hAb) _) hn<|fun w37 hn=>nF hn<|eoB<|eoT<|coZ<|nR 3 hn<|kE (JW (zD s.a b) (Jq (zD s.a b)) (Jw _ _ _).1 (Jw _ _ _).2 (Qc _).1 (Qc _).2 _)<|nFs hn (.u_af _ (256*(zD s.a b)+(Jq (zD s.a b)))) (hn.at_.ms.u_af (Wd16.mk8 (Jw _ _ _) (Qc _)))<|fun w39 hn=>eoV ?_
   have e:Qj b s=s.u_af (256*(zD s.a b)+(Jq (zD s.a b))):=by
    unfold Qj
    repeat (first|rw[if_pos (by assumption)]|rw[if_neg (by assumption)])
    rfl
   exact⟨rfl,e▸hn⟩
 have g36:¬s.y=5:=by simpa using h36
 refine nQ hn<|coI (s.y==6) (fun h41=>?_) fun h41=>?_
 · have g41:s.y=6:=by simpa using h41
   refine coZ<|nR 2 hn<|nB (QUF s.a b (b2) (hAb) _) hn<|fun w42 hn=>nF hn<|eoB<|eoT<|coZ<|nR 3 hn<|kE (JW (orR s.a b) (Jq (orR s.a b)) (Jw _ _ _).1 (Jw _ _ _).2 (Qc _).1 (Qc _).2 _)<|nFs hn (.u_af _ (256*(orR s.a b)+(Jq (orR s.a b)))) (hn.at_.ms.u_af (Wd16.mk8 (Jw _ _ _) (Qc _)))<|fun w44 hn=>eoV ?_
   have e:Qj b s=s.u_af (256*(orR s.a b)+(Jq (orR s.a b))):=by
    unfold Qj
    repeat (first|rw[if_pos (by assumption)]|rw[if_neg (by assumption)])
    rfl
   exact⟨rfl,e▸hn⟩
 have g41:¬s.y=6:=by simpa using h41
 refine nQ hn<|coI (s.y==7) (fun h46=>?_) fun h46=>?_
 · have g46:s.y=7:=by simpa using h46
   refine coZ<|nR 2 hn<|nB (QQM s.a b (b2) (hAb) _) hn<|fun w47 hn=>nF hn<|eoB<|eoT<|coZ<|nR 3 hn<|kE (JW s.a (QHK s.a b) (b2).1 (b2).2 (QBk _ _).1 (QBk _ _).2 _)<|nFs hn (.u_af _ (256*s.a+(QHK s.a b))) (hn.at_.ms.u_af (Wd16.mk8 (b2) (QBk _ _)))<|fun w49 hn=>eoV ?_
   have e:Qj b s=s.u_af (256*s.a+(QHK s.a b)):=by
    unfold Qj
    repeat (first|rw[if_pos (by assumption)]|rw[if_neg (by assumption)])
    rfl
   exact⟨rfl,e▸hn⟩
 have g46:¬s.y=7:=by simpa using h46
 refine JE<|eoB<|eoT<|coZ<|nR 3 hn<|kE (JW s.a s.f (b2).1 (b2).2 (b4).1 (b4).2 _)<|nFs hn (.u_af _ (256*s.a+s.f)) (hn.at_.ms.u_af (Wd16.mk8 (b2) (b4)))<|fun w51 hn=>eoV ?_
 have e:Qj b s=s.u_af (256*s.a+s.f):=by
  unfold Qj
  repeat (first|rw[if_pos (by assumption)]|rw[if_neg (by assumption)])
  rfl
 exact⟨rfl,e▸hn⟩
theorem QLt  {s:Ms} {xs:List Int} {w:World} {p B:Nat}(h:AtN w p B s xs) :
 Calls Tryz.prog 155 #[pT p 0] w (OutV w p B ((zY s).run xs)):=by
 have hn:=NowN.begin h
 have hr:(zY s).run xs=(zY s).run xs:=rfl
 go_enter Tryz.func155,Tryz.ntmps155
 refine JA<|nQ hn<|coB<|nQ hn<|nIf hr (fun g3 hr=>?_) fun g3 hr=>?_
 · exact coZ<|nR 1 hn<|nVt (QOy hn.at_) hn hr<|fun s4 xs4 w4 hn hr=>woE<|eoB<|eoV (OutV.ok (dN hr) hn)
 refine nQ hn<|nIf hr (fun g6 hr=>?_) fun g6 hr=>?_
 · exact coZ<|nR 1 hn<|nVt (QIO hn.at_) hn hr<|fun s7 xs7 w7 hn hr=>woE<|eoB<|eoV (OutV.ok (dN hr) hn)
 refine nQ hn<|nIf hr (fun g9 hr=>?_) fun g9 hr=>?_
 · exact coZ<|nR 1 hn<|nVt (QDd hn.at_) hn hr<|fun s10 xs10 w10 hn hr=>woE<|eoB<|eoV (OutV.ok (dN hr) hn)
 refine nQ hn<|nIf hr (fun g12 hr=>?_) fun g12 hr=>?_
 · exact coZ<|nR 1 hn<|nVt (QJv hn.at_) hn hr<|fun s13 xs13 w13 hn hr=>woE<|eoB<|eoV (OutV.ok (dN hr) hn)
 refine nQ hn<|nIf hr (fun g15 hr=>?_) fun g15 hr=>?_
 · exact coZ<|nR 1 hn<|nVt (QHA hn.at_) hn hr<|fun s16 xs16 w16 hn hr=>woE<|eoB<|eoV (OutV.ok (dN hr) hn)
 refine nQ hn<|nIf hr (fun g18 hr=>?_) fun g18 hr=>?_
 · exact coZ<|nR 1 hn<|nVt (QH0 hn.at_) hn hr<|fun s19 xs19 w19 hn hr=>woE<|eoB<|eoV (OutV.ok (dN hr) hn)
 refine nQ hn<|nIf hr (fun g21 hr=>?_) fun g21 hr=>?_
 · exact coZ<|nR 1 hn<|nVt (QGU hn.at_) hn hr<|fun s22 xs22 w22 hn hr=>woE<|eoB<|eoV (OutV.ok (dN hr) hn)
 refine nQ hn<|nIf hr (fun g24 hr=>?_) fun g24 hr=>?_
 · exact coZ<|nR 1 hn<|nA (QNy hn.at_) hn<|fun w25 hn=>woE<|eoB<|eoV (OutV.ok (dN hr) hn)
 exact JE<|eoB<|eoV (OutV.ok (dN hr) hn)
theorem QTF  {s:Ms} {xs:List Int} {w:World} {p B:Nat}(h:AtN w p B s xs) :
 Calls Tryz.prog 156 #[pT p 0] w (OutV w p B ((QIA s).run xs)):=by
 have hn:=NowN.begin h
 have hr:(QIA s).run xs=(QIA s).run xs:=rfl
 go_enter Tryz.func156,Tryz.ntmps156
 refine JA<|coS<|coR<|nR 6 hn ?_
 rcases Bool.eq_false_or_eq_true (s.y==6) with h3|h3
 · have g3:s.y=6:=by simpa using h3
   refine tell 7 h3<|nE hn<|coI (s.z==6) (fun h4=>?_) fun h4=>?_
   · have g4:s.z=6:=by simpa using h4
     exact have hr:=hr.trans (JC (by simp[g4,g3]));nQs hn (.u_halted _ (true)) (hn.at_.ms.u_halted)<|fun w6 hn=>JK<|Qh<|QDz (OutV.ok (dN hr) hn)
   have g4:¬s.z=6:=by simpa using h4
   exact have hr:=hr.trans (JB (by simp[g4,g3]));JE<|eoT<|nPz 11 hn<|fun w7 hn=>nD [0,1,2,3,4,5,6,7,8,9] hn<|nDi 10 QBu (QCb s.z hn.at_) hn hr<|fun v8 xs8 w8 hk8 hn hr=>poE<|nVt (zE s.y v8 (hk8) hn.at_) hn hr<|fun s9 xs9 w9 hn hr=>woE<|eoV (OutV.ok (dN hr) hn)
 have g3:¬s.y=6:=by simpa using h3
 exact tell 7 h3<|nE hn<|coF<|have hr:=hr.trans (JB (by simp[g3]));JE<|eoT<|nPz 11 hn<|fun w10 hn=>nD [0,1,2,3,4,5,6,7,8,9] hn<|nDi 10 QBu (QCb s.z hn.at_) hn hr<|fun v11 xs11 w11 hk11 hn hr=>poE<|nVt (zE s.y v11 (hk11) hn.at_) hn hr<|fun s12 xs12 w12 hn hr=>woE<|eoV (OutV.ok (dN hr) hn)
theorem QPc  {s:Ms} {xs:List Int} {w:World} {p B:Nat}(h:AtN w p B s xs) :
 Calls Tryz.prog 157 #[pT p 0] w (OutV w p B ((QA1 s).run xs)):=by
 have hn:=NowN.begin h
 have hr:(QA1 s).run xs=(QA1 s).run xs:=rfl
 go_enter Tryz.func157,Tryz.ntmps157
 exact JA<|coZ<|nR 6 hn<|nI (QCb s.z hn.at_) hn hr<|fun v1 s1 xs1 w1 hk1 hn hr=>nA (QAx v1 (hk1) hn.at_) hn<|fun w2 hn=>woE<|eoV (OutV.ok (dN hr) hn)
theorem QMG  {s:Ms} {xs:List Int} {w:World} {p B:Nat}(h:AtN w p B s xs) :
 Calls Tryz.prog 206 #[pT p 0] w (OutV w p B ((QHW s).run xs)):=by
 have hn:=NowN.begin h
 have hr:(QHW s).run xs=(QHW s).run xs:=rfl
 go_enter Tryz.func206,Tryz.ntmps206
 refine JA<|coB<|coR<|nR 6 hn ?_
 rcases Bool.eq_false_or_eq_true (s.q==0) with h2|h2
 · have g2:s.q=0:=by simpa using h2
   refine tell 8 h2<|nE hn<|coI (s.p==3) (fun h3=>?_) fun h3=>?_
   · have g3:s.p=3:=by simpa using h3
     first|(have hr:=hr.trans (JC g3);have hr:=hr.trans (JC g2))|(have hr:=hr.trans (JC g2);have hr:=hr.trans (JC g3))
     exact coZ<|nR 2 hn<|nI (QH2 hn.at_) hn hr<|fun v4 s4 xs4 w4 hk4 hn hr=>nFs hn (.u_af _ (v4)) (hn.at_.ms.u_af (hk4))<|fun w5 hn=>eoB<|eoV (OutV.ok (dN hr) hn)
   have g3:¬s.p=3:=by simpa using h3
   first|(have hr:=hr.trans (JC g2);have hr:=hr.trans (JB g3))|(have hr:=hr.trans (JB g3);have hr:=hr.trans (JC g2))
   exact nQ hn<|coJ (s.q==0) (fun h7=>absurd (h2.symm.trans h7) (by decide))<|fun h7=>coZ<|nR 2 hn<|nI (QH2 hn.at_) hn hr<|fun v8 s8 xs8 w8 hk8 hn hr=>nA (jy v8 (hk8) hn.at_) hn<|fun w9 hn=>woE<|eoB<|eoV (OutV.ok (dN hr) hn)
 have g2:¬s.q=0:=by simpa using h2
 refine tell 8 h2<|nE hn<|coF<|have hr:=hr.trans (JB g2);nQ hn<|coK (s.q==0) (fun h11=>absurd (h2.symm.trans h11) (by decide))<|fun h11=>nQ hn<|nIf hr (fun g13 hr=>?_) fun g13 hr=>?_
 · exact coZ<|nR 2 hn<|nI (QH2 hn.at_) hn hr<|fun v14 s14 xs14 w14 hk14 hn hr=>nA (QCC v14 (hk14) hn.at_) hn<|fun w15 hn=>woE<|eoB<|eoV (OutV.ok (dN hr) hn)
 refine nQ hn<|nIf hr (fun g17 hr=>?_) fun g17 hr=>?_
 · exact have b18:=hn.at_.ms.r;coZ<|nR 5 hn<|nB (QQB s.r _) hn<|fun w19 hn=>nFs hn _ (hn.at_.ms.u_rg ((b18).exx))<|fun w20 hn=>eoB<|eoV (OutV.ok (dN hr) hn)
 refine nQ hn<|nIf hr (fun g22 hr=>?_) fun g22 hr=>?_
 · exact have b23:=zn hn.at_.ms;coZ<|nR 2 hn<|nA (QMQ hn.at_) hn<|fun w24 hn=>nFs hn (.u_pc _ (s.hl)) (hn.at_.ms.u_pc (b23))<|fun w25 hn=>eoB<|eoV (OutV.ok (dN hr) hn)
 refine nQ hn<|nIf hr (fun g27 hr=>?_) fun g27 hr=>?_
 · exact coR<|nR 1 hn<|nV (Jm 2 hn.at_) hn hr<|fun s29 xs29 w29 hn hr=>wT<|have b30:=zn hn.at_.ms;coZ<|nR 2 hn<|nA (QMQ hn.at_) hn<|fun w31 hn=>nFs hn (.u_sp _ (s29.hl)) (hn.at_.ms.u_sp (b30))<|fun w32 hn=>eoB<|eoV (OutV.ok (dN hr) hn)
 exact JE<|eoB<|eoV (OutV.ok (dN hr) hn)
theorem QNz (o:Bool){s:Ms} {xs:List Int} {w:World} {p B:Nat}(h:AtN w p B s xs) :
 Calls Tryz.prog 209 #[pT p 0,.bool (o)] w (OutV w p B ((QEr o s).run xs)):=by
 have hn:=NowN.begin h
 have hr:(QEr o s).run xs=(QEr o s).run xs:=rfl
 go_enter Tryz.func209,Tryz.ntmps209
 refine JA<|coR<|nR 2 hn<|nI (qy hn.at_) hn hr<|fun v2 s2 xs2 w2 hk2 hn hr=>nEs hn (.u_wz _ (v2)) (hn.at_.ms.u_wz (hk2))<|fun w3 hn=>coS<|nQ hn<|coI (!(o)) (fun h6=>?_) fun h6=>?_
 · have g6:¬o=true:=by simpa using h6
   exact have hr:=hr.trans (JB g6);JK<|Qh<|QDz (OutV.ok (dN hr) hn)
 have g6:o=true:=by simpa using h6
 exact have hr:=hr.trans (JC g6);JE<|eoT<|coR<|nR 1 hn<|nV (Jm 1 hn.at_) hn hr<|fun s8 xs8 w8 hn hr=>wT<|have b10:=hn.at_.ms.r.pc;coR<|nR 6 hn<|nV (QFr s8.r.pc (b10) hn.at_) hn hr<|fun s11 xs11 w11 hn hr=>wT<|have b12:=hn.at_.ms.r.wz;coZ<|nFs hn (.u_pc _ (s11.r.wz)) (hn.at_.ms.u_pc (b12))<|fun w13 hn=>eoV (OutV.ok (dN hr) hn)
theorem QR1  {s:Ms} {xs:List Int} {w:World} {p B:Nat}(h:AtN w p B s xs) :
 Calls Tryz.prog 210 #[pT p 0] w (OutV w p B ((QAs s).run xs)):=by
 have hn:=NowN.begin h
 have hr:(QAs s).run xs=(QAs s).run xs:=rfl
 go_enter Tryz.func210,Tryz.ntmps210
 refine JA<|coS<|nQ hn<|coI (s.q != 0) (fun h3=>?_) fun h3=>?_
 · have g3:¬s.q=0:=by simpa using h3
   exact have hr:=hr.trans (JB g3);coR<|nR 1 hn<|nV (QNz true hn.at_) hn hr<|fun s5 xs5 w5 hn hr=>wT<|JK<|Qh<|QDz (OutV.ok (dN hr) hn)
 have g3:s.q=0:=by simpa using h3
 refine have hr:=hr.trans (JC g3);JE<|eoT<|coR<|nR 1 hn<|nV (Jm 1 hn.at_) hn hr<|fun s7 xs7 w7 hn hr=>wT<|nQ hn<|nIf hr (fun g9 hr=>?_) fun g9 hr=>?_
 · exact have b10:=hn.at_.ms.r.af;coZ<|nR 6 hn<|nV (QFr s7.r.af (b10) hn.at_) hn hr<|fun s11 xs11 w11 hn hr=>woE<|eoV (OutV.ok (dN hr) hn)
 exact have b12:=Qx hn.at_.ms;coZ<|nR 2 hn<|nA (Z3 hn.at_) hn<|fun w13 hn=>nV (QFr s7.pair (b12) hn.at_) hn hr<|fun s14 xs14 w14 hn hr=>woE<|eoV (OutV.ok (dN hr) hn)
theorem QEl  {s:Ms} {xs:List Int} {w:World} {p B:Nat}(h:AtN w p B s xs) :
 Calls Tryz.prog 263 #[pT p 0] w (OutV w p B ((X6 s).run xs)):=by
 have hn:=NowN.begin h
 have hr:(X6 s).run xs=(X6 s).run xs:=rfl
 go_enter Tryz.func263,Tryz.ntmps263
 exact JA<|have b2:=hn.at_.ms.r.sp;coR<|nR 6 hn<|nI (QED s.r.sp (b2) hn.at_) hn hr<|fun v3 s3 xs3 w3 hk3 hn hr=>have b4:=zn hn.at_.ms;nR 1 hn<|nA (QMQ hn.at_) hn<|fun w5 hn=>nE hn<|coR<|nR 1 hn<|nV (Jm 1 hn.at_) hn hr<|fun s7 xs7 w7 hn hr=>wT<|nP 9 hn<|fun w9 hn=>have b10:=hn.at_.ms.r.sp;nD [0,1,2,3,4,5,6,7] hn<|nDe 8 (jq s3.hl (b4).1 (b4).2 _) hn<|poE<|nV (Xo ((s7.r.sp+1)%65536) (Wd16.mod _) (s3.hl / 256) ((b4).hi) hn.at_) hn hr<|fun s12 xs12 w12 hn hr=>wT<|nP 8 hn<|fun w14 hn=>have b15:=hn.at_.ms.r.sp;nD [0,1,2,3,4,5,6] hn<|nDe 7 (ZS s3.hl (b4).1 (b4).2 _) hn<|poE<|nV (Xo s12.r.sp (b15) (s3.hl%256) ((b4).lo8) hn.at_) hn hr<|fun s17 xs17 w17 hn hr=>wT<|coR<|nR 1 hn<|nV (Jm 2 hn.at_) hn hr<|fun s19 xs19 w19 hn hr=>wT<|coR<|nR 2 hn<|nA (QGM v3 (hk3) hn.at_) hn<|fun w21 hn=>wT<|coZ<|nFs hn (.u_wz _ (v3)) (hn.at_.ms.u_wz (hk3))<|fun w22 hn=>eoV (OutV.ok (dN hr) hn)
theorem QOE  {s:Ms} {xs:List Int} {w:World} {p B:Nat}(h:AtN w p B s xs) :
 Calls Tryz.prog 208 #[pT p 0] w (OutV w p B ((QAy s).run xs)):=by
 have hn:=NowN.begin h
 have hr:(QAy s).run xs=(QAy s).run xs:=rfl
 go_enter Tryz.func208,Tryz.ntmps208
 refine wp_seq_k fun K1 hK1=>JD<|oM 4 (pT p 0)<|oN 5 p 0<|oF 6 (fM4 p)<|oL 7 (ldI (hn.at_.cell 23 (.int .i64 (s.y)) fun _ _ _=>rfl)) ?_
 refine Ja ?_
 try simp only[Act.put,sA,sB,sC]
 refine JU<|hK1 _ _ ?_
 refine wp_block ?_
 refine wp_seq_k fun K2 hK2=>JD<|oB 9 (egI _ _ _ _ _) (QBv s.y 0)<|oA 8 (.bool (s.y==0)) ?_
 refine Ja ?_
 try simp only[Act.put,sA,sB,sC]
 refine JU<|hK2 _ _ ?_
 refine wp_cond_split (t:=s.y==0) (by kernel_rfl) (fun h3=>?_) (fun h3=>?_)
 · have g3:s.y=0:=by simpa using h3
   have hr:=hr.trans (JC g3)
   exact JA<|coZ<|nR 2 hn<|nI (qy hn.at_) hn hr<|fun v4 s4 xs4 w4 hk4 hn hr=>nA (QCC v4 (hk4) hn.at_) hn<|fun w5 hn=>woE<|eoB<|eoV (OutV.ok (dN hr) hn)
 · have g3:¬s.y=0:=by simpa using h3
   have hr:=hr.trans (JB g3)
   refine wp_seq_k fun K6 hK6=>JD<|oB 15 (egI _ _ _ _ _) (QBv s.y 2)<|oA 14 (.bool (s.y==2)) ?_
   refine Ja ?_
   try simp only[Act.put,sA,sB,sC]
   refine JU<|hK6 _ _ ?_
   refine wp_cond_split (t:=s.y==2) (by kernel_rfl) (fun h7=>?_) (fun h7=>?_)
   · have g7:s.y=2:=by simpa using h7
     have hr:=hr.trans (JC g7)
     exact JA<|have b9:=ZB hn.at_.ms;coR<|nR 1 hn<|nA (m_a hn.at_) hn<|fun w10 hn=>nR 1 hn<|nI (ZE hn.at_) hn hr<|fun v11 s11 xs11 w11 hk11 hn hr=>kE (JW s.a v11 (b9).1 (b9).2 (hk11).1 (hk11).2 _)<|nE hn<|have b14:=ZB hn.at_.ms;coR<|nR 3 hn<|nA (m_a hn.at_) hn<|fun w15 hn=>nV (QKh (256*s.a+v11) (Wd16.mk8 (b9) (hk11)) s11.a (b14) hn.at_) hn hr<|fun s16 xs16 w16 hn hr=>wT<|coZ<|nR 2 hn<|nA (QHz (256*s.a+v11) (Wd16.mk8 (b9) (hk11)) hn.at_) hn<|fun w17 hn=>woE<|eoB<|eoV (OutV.ok (dN hr) hn)
   · have g7:¬s.y=2:=by simpa using h7
     have hr:=hr.trans (JB g7)
     refine wp_seq_k fun K18 hK18=>JD<|oB 30 (egI _ _ _ _ _) (QBv s.y 3)<|oA 29 (.bool (s.y==3)) ?_
     refine Ja ?_
     try simp only[Act.put,sA,sB,sC]
     refine JU<|hK18 _ _ ?_
     refine wp_cond_split (t:=s.y==3) (by kernel_rfl) (fun h19=>?_) (fun h19=>?_)
     · have g19:s.y=3:=by simpa using h19
       have hr:=hr.trans (JC g19)
       exact JA<|have b21:=ZB hn.at_.ms;coR<|nR 1 hn<|nA (m_a hn.at_) hn<|fun w22 hn=>nR 1 hn<|nI (ZE hn.at_) hn hr<|fun v23 s23 xs23 w23 hk23 hn hr=>kE (JW s.a v23 (b21).1 (b21).2 (hk23).1 (hk23).2 _)<|nE hn<|coR<|nR 3 hn<|nI (QTX (256*s.a+v23) (Wd16.mk8 (b21) (hk23)) hn.at_) hn hr<|fun v26 s26 xs26 w26 hk26 hn hr=>nA (QNf v26 (hk26) hn.at_) hn<|fun w27 hn=>wT<|coZ<|nFs hn (.u_wz _ (((256*s.a+v23)+1)%65536)) (hn.at_.ms.u_wz (Wd16.mod _))<|fun w28 hn=>eoB<|eoV (OutV.ok (dN hr) hn)
     · have g19:¬s.y=3:=by simpa using h19
       have hr:=hr.trans (JB g19)
       refine wp_seq_k fun K29 hK29=>JD<|oB 48 (egI _ _ _ _ _) (QBv s.y 4)<|oA 47 (.bool (s.y==4)) ?_
       refine Ja ?_
       try simp only[Act.put,sA,sB,sC]
       refine JU<|hK29 _ _ ?_
       refine wp_cond_split (t:=s.y==4) (by kernel_rfl) (fun h30=>?_) (fun h30=>?_)
       · have g30:s.y=4:=by simpa using h30
         have hr:=hr.trans (JC g30)
         exact JA<|coZ<|nR 1 hn<|nV (QEl hn.at_) hn hr<|fun s31 xs31 w31 hn hr=>woE<|eoB<|eoV (OutV.ok (dN hr) hn)
       · have g30:¬s.y=4:=by simpa using h30
         have hr:=hr.trans (JB g30)
         refine wp_seq_k fun K32 hK32=>JD<|oB 52 (egI _ _ _ _ _) (QBv s.y 5)<|oA 51 (.bool (s.y==5)) ?_
         refine Ja ?_
         try simp only[Act.put,sA,sB,sC]
         refine JU<|hK32 _ _ ?_
         refine wp_cond_split (t:=s.y==5) (by kernel_rfl) (fun h33=>?_) (fun h33=>?_)
         · have g33:s.y=5:=by simpa using h33
           have hr:=hr.trans (JC g33)
           have b34:=hn.at_.ms.r.hl
           have b35:=hn.at_.ms.r.de
           have c3:=hn.at_.cell 3 (.int .u16 (s.r.hl)) (fun _ _ _=>rfl)
           have c2:=hn.at_.cell 2 (.int .u16 (s.r.de)) (fun _ _ _=>rfl)
           have z2:=hn.at_.frozen 2
           have z3:=hn.at_.frozen 3
           have hn:=hn.drew
           go_region
           have hn:=hn.set 2 (.int .u16 (s.r.hl)) (s.u_de (s.r.hl)) (QU2 _ _) (hn.at_.ms.u_de (b34))
           have hn:=hn.set 3 (.int .u16 (s.r.de)) ((s.u_de (s.r.hl)).u_hl (s.r.de)) (QO4 _ _) (hn.at_.ms.u_hl (b35))
           refine Z1 ?_
           refine jO rfl rfl ?_
           exact OutV.ok (hr.trans (Tr.run_done _ _)) hn
         · have g33:¬s.y=5:=by simpa using h33
           have hr:=hr.trans (JB g33)
           refine JA<|nQ hn<|nIf hr (fun g37 hr=>?_) fun g37 hr=>?_
           · exact coZ<|nRs 6 hn (.u_iff1 _ (false)) (hn.at_.ms.u_iff1)<|fun w38 hn=>nFs hn (.u_iff2 _ (false)) (hn.at_.ms.u_iff2)<|fun w39 hn=>eoB<|eoV (OutV.ok (dN hr) hn)
           refine nQ hn<|nIf hr (fun g41 hr=>?_) fun g41 hr=>?_
           · exact coZ<|nRs 7 hn (.u_iff1 _ (true)) (hn.at_.ms.u_iff1)<|fun w42 hn=>nRs 4 hn (.u_iff2 _ (true)) (hn.at_.ms.u_iff2)<|fun w43 hn=>nFs hn (.u_late _ (true)) (hn.at_.ms.u_late)<|fun w44 hn=>eoB<|eoV (OutV.ok (dN hr) hn)
           exact JE<|eoB<|eoV (OutV.ok (dN hr) hn)
theorem QL7  {s:Ms} {xs:List Int} {w:World} {p B:Nat}(h:AtN w p B s xs) :
 Calls Tryz.prog 158 #[pT p 0] w (OutV w p B ((zf s).run xs)):=by
 have hn:=NowN.begin h
 have hr:(zf s).run xs=(zf s).run xs:=rfl
 go_enter Tryz.func158,Tryz.ntmps158
 refine JA<|nQ hn<|coB<|nQ hn<|nIf hr (fun g3 hr=>?_) fun g3 hr=>?_
 · refine coR<|nR 1 hn<|nV (Jm 1 hn.at_) hn hr<|fun s5 xs5 w5 hn hr=>wT<|coR<|nR 5 hn<|nA (QCw s5.y hn.at_) hn<|fun w7 hn=>wT<|coI (s5.holds s5.y) (fun h8=>?_) fun h8=>?_
   · have g8:s5.holds s5.y=true:=by simpa using h8
     exact have hr:=hr.trans (JC g8);coZ<|nR 2 hn<|nI (QH2 hn.at_) hn hr<|fun v9 s9 xs9 w9 hk9 hn hr=>nA (QCC v9 (hk9) hn.at_) hn<|fun w10 hn=>woE<|eoB<|eoV (OutV.ok (dN hr) hn)
   have g8:¬s5.holds s5.y=true:=by simpa using h8
   exact have hr:=hr.trans (JB g8);JE<|eoB<|eoV (OutV.ok (dN hr) hn)
 refine nQ hn<|nIf hr (fun g12 hr=>?_) fun g12 hr=>?_
 · exact coZ<|nR 1 hn<|nVt (QMG hn.at_) hn hr<|fun s13 xs13 w13 hn hr=>woE<|eoB<|eoV (OutV.ok (dN hr) hn)
 refine nQ hn<|nIf hr (fun g15 hr=>?_) fun g15 hr=>?_
 · refine coR<|nR 2 hn<|nI (qy hn.at_) hn hr<|fun v17 s17 xs17 w17 hk17 hn hr=>nEs hn (.u_wz _ (v17)) (hn.at_.ms.u_wz (hk17))<|fun w18 hn=>coR<|nR 5 hn<|nA (QCw ((s17.u_wz (v17)).y) hn.at_) hn<|fun w20 hn=>wT<|coI ((s17.u_wz (v17)).holds ((s17.u_wz (v17)).y)) (fun h21=>?_) fun h21=>?_
   · have g21:(s17.u_wz (v17)).holds ((s17.u_wz (v17)).y)=true:=by simpa using h21
     exact have hr:=hr.trans (JC g21);have b22:=hn.at_.ms.r.wz;coZ<|nFs hn ((s17.u_wz (v17)).u_pc ((s17.u_wz (v17)).r.wz)) (hn.at_.ms.u_pc (b22))<|fun w23 hn=>eoB<|eoV (OutV.ok (dN hr) hn)
   have g21:¬(s17.u_wz (v17)).holds ((s17.u_wz (v17)).y)=true:=by simpa using h21
   exact have hr:=hr.trans (JB g21);JE<|eoB<|eoV (OutV.ok (dN hr) hn)
 refine nQ hn<|nIf hr (fun g25 hr=>?_) fun g25 hr=>?_
 · exact coZ<|nR 1 hn<|nVt (QOE hn.at_) hn hr<|fun s26 xs26 w26 hn hr=>woE<|eoB<|eoV (OutV.ok (dN hr) hn)
 refine nQ hn<|nIf hr (fun g28 hr=>?_) fun g28 hr=>?_
 · exact coZ<|nR 6 hn<|nA (QCw s.y hn.at_) hn<|fun w29 hn=>nVt (QNz (s.holds s.y) hn.at_) hn hr<|fun s30 xs30 w30 hn hr=>woE<|eoB<|eoV (OutV.ok (dN hr) hn)
 refine nQ hn<|nIf hr (fun g32 hr=>?_) fun g32 hr=>?_
 · exact coZ<|nR 1 hn<|nVt (QR1 hn.at_) hn hr<|fun s33 xs33 w33 hn hr=>woE<|eoB<|eoV (OutV.ok (dN hr) hn)
 refine nQ hn<|nIf hr (fun g35 hr=>?_) fun g35 hr=>?_
 · exact coZ<|nR 2 hn<|nI (ZE hn.at_) hn hr<|fun v36 s36 xs36 w36 hk36 hn hr=>nA (QAx v36 (hk36) hn.at_) hn<|fun w37 hn=>woE<|eoB<|eoV (OutV.ok (dN hr) hn)
 refine nQ hn<|nIf hr (fun g39 hr=>?_) fun g39 hr=>?_
 · exact coR<|nR 1 hn<|nV (Jm 1 hn.at_) hn hr<|fun s41 xs41 w41 hn hr=>wT<|have b43:=hn.at_.ms.r.pc;coR<|nR 6 hn<|nV (QFr s41.r.pc (b43) hn.at_) hn hr<|fun s44 xs44 w44 hn hr=>wT<|coZ<|nR 5 hn<|QTv 87 (egI _ _ _ _ _) (QUS 8 s44.y (by have:=hn.at_.ms.y;omega) (by have:=hn.at_.ms.y;omega))<|nR 1 hn<|nA (QCC ((8*s44.y)%65536) (Wd16.mod _) hn.at_) hn<|fun w45 hn=>woE<|eoB<|eoV (OutV.ok (dN hr) hn)
 exact JE<|eoB<|eoV (OutV.ok (dN hr) hn)
end Go.Proofs.YtbhaojlikgdgjaaGreatDoor
