/- Contracts and facts that the claim's proof wants (several texts in one). -/
import Derived.Test.YtmgcgiecimnncaaGreatDoorTlG10
namespace Go.Proofs.YtmgcgiecimnncaaGreatDoor
open Go.RowKit
set_option linter.unusedVariables false
set_option linter.unusedSimpArgs false
set_option maxRecDepth 20000
set_option maxHeartbeats 20000000
theorem QHY  {s:Ms} {xs:List Int} {w:World} {p B:Nat}(h:AtN w p B s xs) :
 Calls Tryz.prog 271 #[pT p 0] w (fun e w'=>e=.returned (.int .u8 (s.left))∧NowN w p B (s.lessB) xs w'):=by
 have hn:=NowN.begin h
 go_enter Tryz.func271,Tryz.ntmps271
 exact JA<|nQ hn<|have b3:=hn.at_.ms.r.get s.plane 0;coR<|nR 1 hn<|nA (QQn 0 (by decide) hn.at_) hn<|fun w4 hn=>nE hn<|coR<|nR 2 hn<|nA (QVL 0 (((QBT s.r s.plane 0)-1)%256) (B8.mod _) (by decide) hn.at_) hn<|fun w6 hn=>wT<|nQ hn<|JE<|JR (.int .u8 (((QBT s.r s.plane 0)-1)%256)) (⟨rfl,hn⟩)
theorem QUM  {s:Ms} {xs:List Int} {w:World} {p B:Nat}(h:AtN w p B s xs) :
 Calls Tryz.prog 187 #[pT p 0] w (OutV w p B ((QNj s).run xs)):=by
 have hn:=NowN.begin h
 have hr:(QNj s).run xs=(QNj s).run xs:=rfl
 go_enter Tryz.func187,Tryz.ntmps187
 exact JA<|have b2:=QAa hn.at_.ms;coR<|nR 2 hn<|nA (QNU hn.at_) hn<|fun w3 hn=>nR 1 hn<|nI (Zf hn.at_) hn hr<|fun v4 s4 xs4 w4 hk4 hn hr=>kE (QIq s.hl v4 (b2) (hk4) _)<|nEs hn (.u_spot _ (JH s.hl (JL v4))) (hn.at_.ms.u_spot (Wd16.mod _))<|fun w6 hn=>have b8:=hn.at_.ms.spot;nQs hn ((s4.u_spot (JH s.hl (JL v4))).u_wz ((s4.u_spot (JH s.hl (JL v4))).spot)) (hn.at_.ms.u_wz (b8))<|fun w9 hn=>nQs hn (.u_near _ (true)) (hn.at_.ms.u_near)<|fun w11 hn=>coZ<|nFs hn (.u_plane _ (0)) (hn.at_.ms.u_plane ((by decide)))<|fun w12 hn=>eoV (OutV.ok (dN hr) hn)
theorem QEZ (o:Bool){s:Ms} {xs:List Int} {w:World} {p B:Nat}(h:AtN w p B s xs) :
 Calls Tryz.prog 276 #[pT p 0,.bool (o)] w (OutV w p B ((zg o s).run xs)):=by
 have hn:=NowN.begin h
 have hr:(zg o s).run xs=(zg o s).run xs:=rfl
 go_enter Tryz.func276,Tryz.ntmps276
 refine JA<|coR<|nR 1 hn<|nI (Zf hn.at_) hn hr<|fun v2 s2 xs2 w2 hk2 hn hr=>nE hn<|coS<|nQ hn<|coI (!(o)) (fun h5=>?_) fun h5=>?_
 · have g5:¬o=true:=by simpa using h5
   exact have hr:=hr.trans (JB g5);JE<|Je<|QE5 (OutV.ok (dN hr) hn)
 have g5:o=true:=by simpa using h5
 exact have hr:=hr.trans (JD g5);JC<|eoT<|coR<|nR 1 hn<|nV (Jw 5 hn.at_) hn hr<|fun s7 xs7 w7 hn hr=>wT<|have b8:=hn.at_.ms.r.pc;coZ<|nR 7 hn<|kE (QIq s7.r.pc v2 (b8) (hk2) _)<|nA (QCm (JH s7.r.pc (JL v2)) (Wd16.mod _) hn.at_) hn<|fun w10 hn=>woE<|eoV (OutV.ok (dN hr) hn)
theorem QOU  {s:Ms} {xs:List Int} {w:World} {p B:Nat}(h:AtN w p B s xs) :
 Calls Tryz.prog 227 #[pT p 0] w (OutV w p B ((QBe s).run xs)):=by
 have hn:=NowN.begin h
 have hr:(QBe s).run xs=(QBe s).run xs:=rfl
 go_enter Tryz.func227,Tryz.ntmps227
 refine JA<|nQ hn<|coB<|nQ hn<|nIf hr (fun g3 hr=>?_) fun g3 hr=>?_
 · exact JC<|eoB<|eoV (OutV.ok (dN hr) hn)
 refine nQ hn<|nIf hr (fun g5 hr=>?_) fun g5 hr=>?_
 · exact have b6:=hn.at_.ms.r;coZ<|nR 5 hn<|nB (QOu s.r _) hn<|fun w7 hn=>nFs hn _ (hn.at_.ms.u_rg ((b6).swap))<|fun w8 hn=>eoB<|eoV (OutV.ok (dN hr) hn)
 refine nQ hn<|nIf hr (fun g10 hr=>?_) fun g10 hr=>?_
 · exact coR<|nR 1 hn<|nV (Jw 1 hn.at_) hn hr<|fun s12 xs12 w12 hn hr=>wT<|coR<|nR 1 hn<|nA (QHY hn.at_) hn<|fun w14 hn=>nE hn<|coZ<|nR 3 hn<|nVt (QEZ (s12.left != 0) hn.at_) hn hr<|fun s15 xs15 w15 hn hr=>woE<|eoB<|eoV (OutV.ok (dN hr) hn)
 refine nQ hn<|nIf hr (fun g17 hr=>?_) fun g17 hr=>?_
 · exact coZ<|nR 1 hn<|nV (QEZ true hn.at_) hn hr<|fun s18 xs18 w18 hn hr=>woE<|eoB<|eoV (OutV.ok (dN hr) hn)
 exact coZ<|nR 6 hn<|QVj 13 (egI _ _ _ _ _) (QJm s.y 4 (by have:=hn.at_.ms.y;omega) (by have:=hn.at_.ms.y;omega))<|nA (QD2 (s.y-4) hn.at_) hn<|fun w19 hn=>nVt (QEZ (s.holds (s.y-4)) hn.at_) hn hr<|fun s20 xs20 w20 hn hr=>woE<|eoB<|eoV (OutV.ok (dN hr) hn)
theorem QIF  {s:Ms} {xs:List Int} {w:World} {p B:Nat}(h:AtN w p B s xs) :
 Calls Tryz.prog 228 #[pT p 0] w (OutV w p B ((jr s).run xs)):=by
 have hn:=NowN.begin h
 have hr:(jr s).run xs=(jr s).run xs:=rfl
 go_enter Tryz.func228,Tryz.ntmps228
 refine JA<|coS<|nQ hn<|nIf hr (fun g3 hr=>?_) fun g3 hr=>?_
 · exact coR<|nR 2 hn<|nI (zf hn.at_) hn hr<|fun v5 s5 xs5 w5 hk5 hn hr=>nA (zJ v5 (hk5) hn.at_) hn<|fun w6 hn=>wT<|JE<|Je<|QE5 (OutV.ok (dN hr) hn)
 exact JC<|eoT<|coR<|nR 1 hn<|nV (Jw 7 hn.at_) hn hr<|fun s8 xs8 w8 hn hr=>wT<|have b10:=QAa hn.at_.ms;coR<|nR 1 hn<|nA (QNU hn.at_) hn<|fun w11 hn=>nE hn<|nQs hn (.u_wz _ ((s8.hl+1)%65536)) (hn.at_.ms.u_wz (Wd16.mod _))<|fun w13 hn=>have b15:=XD hn.at_.ms;coR<|nR 2 hn<|nA (jY hn.at_) hn<|fun w16 hn=>have b17:=QN hn.at_.ms;nR 1 hn<|nA (m_f hn.at_) hn<|fun w18 hn=>nB (QPs s8.hl ((s8.u_wz ((s8.hl+1)%65536)).pair) ((s8.u_wz ((s8.hl+1)%65536)).f) (b10) (b15) (b17) _) hn<|fun w19 hn=>nE hn<|coR<|nR 2 hn<|nA (QGq (qi s8.hl ((s8.u_wz ((s8.hl+1)%65536)).pair) false) (Wd16.mod _) hn.at_) hn<|fun w21 hn=>wT<|coZ<|nR 2 hn<|nA (ZE (QF0 s8.hl ((s8.u_wz ((s8.hl+1)%65536)).pair) ((s8.u_wz ((s8.hl+1)%65536)).f)) (QKM _ _ _) hn.at_) hn<|fun w22 hn=>woE<|eoV (OutV.ok (dN hr) hn)
theorem QIk (x:Int)(hAx:Wd16 x){s:Ms} {xs:List Int} {w:World} {p B:Nat}(h:AtN w p B s xs) :
 Calls Tryz.prog 295 #[pT p 0,.int .u16 (x)] w (fun e w'=>e=.returned (.tuple #[])∧NowN w p B (QLF s x) xs w'):=by
 have hn:=NowN.begin h
 go_enter Tryz.func295,Tryz.ntmps295
 exact JA<|have b1:=ZZ hn.at_.ms;coZ<|nR 2 hn<|nA (m_a hn.at_) hn<|fun w2 hn=>nR 1 hn<|kE (Zx x (hAx).1 (hAx).2 _)<|nR 1 hn<|kE (Ja s.a (((x%256)+1)%256) (b1).1 (b1).2 (B8.mod _).1 (B8.mod _).2 _)<|nFs hn (.u_wz _ (256*s.a+(((x%256)+1)%256))) (hn.at_.ms.u_wz (Wd16.mk8 (b1) (B8.mod _)))<|fun w5 hn=>eoV (⟨rfl,hn⟩)
theorem QFM (a:Int)(hAa:Wd16 a){s:Ms} {xs:List Int} {w:World} {p B:Nat}(h:AtN w p B s xs) :
 Calls Tryz.prog 279 #[pT p 0,.int .u16 (a)] w (OutV w p B ((QAb a s).run xs)):=by
 have hn:=NowN.begin h
 have hr:(QAb a s).run xs=(QAb a s).run xs:=rfl
 go_enter Tryz.func279,Tryz.ntmps279
 exact JA<|have b2:=ZZ hn.at_.ms;coR<|nR 3 hn<|nA (m_a hn.at_) hn<|fun w3 hn=>nV (ZA a (hAa) s.a (b2) hn.at_) hn hr<|fun s4 xs4 w4 hn hr=>wT<|coZ<|nR 2 hn<|nA (QIk a (hAa) hn.at_) hn<|fun w5 hn=>woE<|eoV (OutV.ok (dN hr) hn)
theorem QHa (a:Int)(hAa:Wd16 a){s:Ms} {xs:List Int} {w:World} {p B:Nat}(h:AtN w p B s xs) :
 Calls Tryz.prog 280 #[pT p 0,.int .u16 (a)] w (OutV w p B ((QC4 a s).run xs)):=by
 have hn:=NowN.begin h
 have hr:(QC4 a s).run xs=(QC4 a s).run xs:=rfl
 go_enter Tryz.func280,Tryz.ntmps280
 exact JA<|coR<|nR 3 hn<|nI (qU a (hAa) hn.at_) hn hr<|fun v2 s2 xs2 w2 hk2 hn hr=>nA (QPg v2 (hk2) hn.at_) hn<|fun w3 hn=>wT<|coZ<|nFs hn (.u_wz _ ((a+1)%65536)) (hn.at_.ms.u_wz (Wd16.mod _))<|fun w4 hn=>eoV (OutV.ok (dN hr) hn)
theorem QDb (a:Int)(hAa:Wd16 a)(x:Int)(hAx:Wd16 x){s:Ms} {xs:List Int} {w:World} {p B:Nat}(h:AtN w p B s xs) :
 Calls Tryz.prog 261 #[pT p 0,.int .u16 (a),.int .u16 (x)] w (OutV w p B ((Zo a x s).run xs)):=by
 have hn:=NowN.begin h
 have hr:(Zo a x s).run xs=(Zo a x s).run xs:=rfl
 go_enter Tryz.func261,Tryz.ntmps261
 exact JA<|coR<|nR 3 hn<|kE (Zx x (hAx).1 (hAx).2 _)<|nV (ZA a (hAa) (x%256) ((hAx).lo8) hn.at_) hn hr<|fun s3 xs3 w3 hn hr=>wT<|coR<|nR 4 hn<|kE (qX x (hAx).1 (hAx).2 _)<|nV (ZA ((a+1)%65536) (Wd16.mod _) (x / 256) ((hAx).hi) hn.at_) hn hr<|fun s6 xs6 w6 hn hr=>wT<|coZ<|nFs hn (.u_wz _ ((a+1)%65536)) (hn.at_.ms.u_wz (Wd16.mod _))<|fun w7 hn=>eoV (OutV.ok (dN hr) hn)
theorem QEr (a:Int)(hAa:Wd16 a){s:Ms} {xs:List Int} {w:World} {p B:Nat}(h:AtN w p B s xs) :
 Calls Tryz.prog 263 #[pT p 0,.int .u16 (a)] w (OutI w p B .u16 ((jI a s).run xs)):=by
 have hn:=NowN.begin h
 have hr:(jI a s).run xs=(jI a s).run xs:=rfl
 go_enter Tryz.func263,Tryz.ntmps263
 exact JA<|nQ hn<|coR<|nR 2 hn<|nI (QEV a (hAa) hn.at_) hn hr<|fun v3 s3 xs3 w3 hk3 hn hr=>nE hn<|nQs hn (.u_wz _ ((a+1)%65536)) (hn.at_.ms.u_wz (Wd16.mod _))<|fun w5 hn=>nQ hn<|JE<|JR (.int .u16 (v3)) (OutI.ok (dN hr) (hk3) hn)
theorem QEG  {s:Ms} {xs:List Int} {w:World} {p B:Nat}(h:AtN w p B s xs) :
 Calls Tryz.prog 229 #[pT p 0] w (OutV w p B ((X3 s).run xs)):=by
 have hn:=NowN.begin h
 have hr:(X3 s).run xs=(X3 s).run xs:=rfl
 go_enter Tryz.func229,Tryz.ntmps229
 refine JA<|nQ hn<|coB<|coS<|nQ hn<|coI (s.y==0) (fun h4=>?_) fun h4=>?_
 · have g4:s.y=0:=by simpa using h4
   exact have hr:=hr.trans (JD (.inl g4));JC<|eoT<|coJ (s.y==0) (fun h5=>absurd (h4.symm.trans h5) (by decide))<|fun h5=>have b6:=XD hn.at_.ms;coZ<|nR 2 hn<|nA (jY hn.at_) hn<|fun w7 hn=>nV (QFM s.pair (b6) hn.at_) hn hr<|fun s8 xs8 w8 hn hr=>woE<|eoB<|eoV (OutV.ok (dN hr) hn)
 have g4:¬s.y=0:=by simpa using h4
 refine coZ<|nE hn<|coI (s.y==2) (fun h9=>?_) fun h9=>?_
 · have g9:s.y=2:=by simpa using h9
   exact have hr:=hr.trans (JD (.inr g9));have b10:=XD hn.at_.ms;coZ<|nR 2 hn<|nA (jY hn.at_) hn<|fun w11 hn=>nV (QFM s.pair (b10) hn.at_) hn hr<|fun s12 xs12 w12 hn hr=>woE<|eoB<|eoV (OutV.ok (dN hr) hn)
 have g9:¬s.y=2:=by simpa using h9
 refine have hr:=hr.trans (JB (not_or.2 ⟨g4,g9⟩));coS<|nQ hn<|coI (s.y==1) (fun h15=>?_) fun h15=>?_
 · have g15:s.y=1:=by simpa using h15
   exact have hr:=hr.trans (JD (.inl g15));JC<|eoT<|coJ (s.y==1) (fun h16=>absurd (h15.symm.trans h16) (by decide))<|fun h16=>have b17:=XD hn.at_.ms;coZ<|nR 2 hn<|nA (jY hn.at_) hn<|fun w18 hn=>nV (QHa s.pair (b17) hn.at_) hn hr<|fun s19 xs19 w19 hn hr=>woE<|eoB<|eoV (OutV.ok (dN hr) hn)
 have g15:¬s.y=1:=by simpa using h15
 refine coZ<|nE hn<|coI (s.y==3) (fun h20=>?_) fun h20=>?_
 · have g20:s.y=3:=by simpa using h20
   exact have hr:=hr.trans (JD (.inr g20));have b21:=XD hn.at_.ms;coZ<|nR 2 hn<|nA (jY hn.at_) hn<|fun w22 hn=>nV (QHa s.pair (b21) hn.at_) hn hr<|fun s23 xs23 w23 hn hr=>woE<|eoB<|eoV (OutV.ok (dN hr) hn)
 have g20:¬s.y=3:=by simpa using h20
 refine have hr:=hr.trans (JB (not_or.2 ⟨g15,g20⟩));nQ hn<|nIf hr (fun g25 hr=>?_) fun g25 hr=>?_
 · exact coZ<|nR 2 hn<|nI (zf hn.at_) hn hr<|fun v26 s26 xs26 w26 hk26 hn hr=>have b27:=QAa hn.at_.ms;nR 1 hn<|nA (QNU hn.at_) hn<|fun w28 hn=>nV (QDb v26 (hk26) s26.hl (b27) hn.at_) hn hr<|fun s29 xs29 w29 hn hr=>woE<|eoB<|eoV (OutV.ok (dN hr) hn)
 refine nQ hn<|nIf hr (fun g31 hr=>?_) fun g31 hr=>?_
 · exact coZ<|nR 3 hn<|nI (zf hn.at_) hn hr<|fun v32 s32 xs32 w32 hk32 hn hr=>nI (QEr v32 (hk32) hn.at_) hn hr<|fun v33 s33 xs33 w33 hk33 hn hr=>nA (QGq v33 (hk33) hn.at_) hn<|fun w34 hn=>woE<|eoB<|eoV (OutV.ok (dN hr) hn)
 refine nQ hn<|nIf hr (fun g36 hr=>?_) fun g36 hr=>?_
 · exact coZ<|nR 2 hn<|nI (zf hn.at_) hn hr<|fun v37 s37 xs37 w37 hk37 hn hr=>nV (QFM v37 (hk37) hn.at_) hn hr<|fun s38 xs38 w38 hn hr=>woE<|eoB<|eoV (OutV.ok (dN hr) hn)
 refine nQ hn<|nIf hr (fun g40 hr=>?_) fun g40 hr=>?_
 · exact coZ<|nR 2 hn<|nI (zf hn.at_) hn hr<|fun v41 s41 xs41 w41 hk41 hn hr=>nV (QHa v41 (hk41) hn.at_) hn hr<|fun s42 xs42 w42 hn hr=>woE<|eoB<|eoV (OutV.ok (dN hr) hn)
 exact JC<|eoB<|eoV (OutV.ok (dN hr) hn)
theorem QLM  {s:Ms} {xs:List Int} {w:World} {p B:Nat}(h:AtN w p B s xs) :
 Calls Tryz.prog 230 #[pT p 0] w (OutV w p B ((zS s).run xs)):=by
 have hn:=NowN.begin h
 have hr:(zS s).run xs=(zS s).run xs:=rfl
 go_enter Tryz.func230,Tryz.ntmps230
 refine JA<|coR<|nR 1 hn<|nV (Jw 2 hn.at_) hn hr<|fun s2 xs2 w2 hn hr=>wT<|nQ hn<|nIf hr (fun g4 hr=>?_) fun g4 hr=>?_
 · exact have b5:=XD hn.at_.ms;coZ<|nR 2 hn<|nA (jY hn.at_) hn<|fun w6 hn=>nR 1 hn<|nA (zJ ((s2.pair+1)%65536) (Wd16.mod _) hn.at_) hn<|fun w7 hn=>woE<|eoV (OutV.ok (dN hr) hn)
 exact have b8:=XD hn.at_.ms;coZ<|nR 2 hn<|nA (jY hn.at_) hn<|fun w9 hn=>nR 1 hn<|nA (zJ ((s2.pair-1)%65536) (Wd16.mod _) hn.at_) hn<|fun w10 hn=>woE<|eoV (OutV.ok (dN hr) hn)
theorem QH6  {s:Ms} {xs:List Int} {w:World} {p B:Nat}(h:AtN w p B s xs) :
 Calls Tryz.prog 231 #[pT p 0,.func (.func 232) #[] #[]] w (OutV w p B ((zi false s).run xs)):=by
 have hn:=NowN.begin h
 have hr:(zi false s).run xs=(zi false s).run xs:=rfl
 go_enter Tryz.func231,Tryz.ntmps231
 refine JA<|coR<|nR 5 hn<|nI (QDI s.y hn.at_) hn hr<|fun v2 s2 xs2 w2 hk2 hn hr=>nE hn<|coS<|nQ hn<|QFY hr (fun g5 hr=>?_) fun g5 hr=>?_
 · exact coZ<|nR 1 hn<|nV (Jw 1 hn.at_) hn hr<|fun s6 xs6 w6 hn hr=>wT<|have b8:=QN hn.at_.ms;coR<|nR 3 hn<|nA (m_f hn.at_) hn<|fun w9 hn=>nB (QMF v2 s6.f (hk2) (b8) _) hn<|fun w10 hn=>nE hn<|coR<|nR 2 hn<|nA (ZE (QIy v2 s6.f) (QGH _ _) hn.at_) hn<|fun w12 hn=>wT<|coZ<|nR 6 hn<|nVt (zq ((s6.setF (QIy v2 s6.f)).y) (Xx v2 1 false) (QU _ _ _) hn.at_) hn hr<|fun s13 xs13 w13 hn hr=>woE<|eoV (OutV.ok (dN hr) hn)
 exact JC<|eoT<|have b15:=QN hn.at_.ms;coR<|nR 3 hn<|nA (m_f hn.at_) hn<|fun w16 hn=>nB (QMF v2 s2.f (hk2) (b15) _) hn<|fun w17 hn=>nE hn<|coR<|nR 2 hn<|nA (ZE (QIy v2 s2.f) (QGH _ _) hn.at_) hn<|fun w19 hn=>wT<|coZ<|nR 6 hn<|nVt (zq ((s2.setF (QIy v2 s2.f)).y) (Xx v2 1 false) (QU _ _ _) hn.at_) hn hr<|fun s20 xs20 w20 hn hr=>woE<|eoV (OutV.ok (dN hr) hn)
theorem QIi  {s:Ms} {xs:List Int} {w:World} {p B:Nat}(h:AtN w p B s xs) :
 Calls Tryz.prog 231 #[pT p 0,.func (.func 233) #[] #[]] w (OutV w p B ((zi true s).run xs)):=by
 have hn:=NowN.begin h
 have hr:(zi true s).run xs=(zi true s).run xs:=rfl
 go_enter Tryz.func231,Tryz.ntmps231
 refine JA<|coR<|nR 5 hn<|nI (QDI s.y hn.at_) hn hr<|fun v2 s2 xs2 w2 hk2 hn hr=>nE hn<|coS<|nQ hn<|QFY hr (fun g5 hr=>?_) fun g5 hr=>?_
 · exact coZ<|nR 1 hn<|nV (Jw 1 hn.at_) hn hr<|fun s6 xs6 w6 hn hr=>wT<|have b8:=QN hn.at_.ms;coR<|nR 3 hn<|nA (m_f hn.at_) hn<|fun w9 hn=>nB (QL5 v2 s6.f (hk2) (b8) _) hn<|fun w10 hn=>nE hn<|coR<|nR 2 hn<|nA (ZE (QJQ v2 s6.f) (QF7 _ _) hn.at_) hn<|fun w12 hn=>wT<|coZ<|nR 6 hn<|nVt (zq ((s6.setF (QJQ v2 s6.f)).y) (Qj v2 1 false) (QA _ _ _) hn.at_) hn hr<|fun s13 xs13 w13 hn hr=>woE<|eoV (OutV.ok (dN hr) hn)
 exact JC<|eoT<|have b15:=QN hn.at_.ms;coR<|nR 3 hn<|nA (m_f hn.at_) hn<|fun w16 hn=>nB (QL5 v2 s2.f (hk2) (b15) _) hn<|fun w17 hn=>nE hn<|coR<|nR 2 hn<|nA (ZE (QJQ v2 s2.f) (QF7 _ _) hn.at_) hn<|fun w19 hn=>wT<|coZ<|nR 6 hn<|nVt (zq ((s2.setF (QJQ v2 s2.f)).y) (Qj v2 1 false) (QA _ _ _) hn.at_) hn hr<|fun s20 xs20 w20 hn hr=>woE<|eoV (OutV.ok (dN hr) hn)
theorem QHE  {s:Ms} {xs:List Int} {w:World} {p B:Nat}(h:AtN w p B s xs) :
 Calls Tryz.prog 234 #[pT p 0] w (OutV w p B ((Z4 s).run xs)):=by
 have hn:=NowN.begin h
 have hr:(Z4 s).run xs=(Z4 s).run xs:=rfl
 go_enter Tryz.func234,Tryz.ntmps234
 refine JA<|coR<|nR 1 hn<|nI (Zf hn.at_) hn hr<|fun v2 s2 xs2 w2 hk2 hn hr=>nE hn<|coS<|nQ hn<|coI (s2.near) (fun h5=>?_) fun h5=>?_
 · have g5:s2.near=true:=by simpa using h5
   exact have hr:=hr.trans (qG g5);coZ<|nR 1 hn<|nV (Jw 2 hn.at_) hn hr<|fun s6 xs6 w6 hn hr=>wT<|coZ<|nR 6 hn<|nVt (zq s6.y v2 (hk2) hn.at_) hn hr<|fun s7 xs7 w7 hn hr=>woE<|eoV (OutV.ok (dN hr) hn)
 have g5:¬s2.near=true:=by simpa using h5
 exact have hr:=hr.trans (jy g5);JC<|eoT<|coZ<|nR 6 hn<|nVt (zq s2.y v2 (hk2) hn.at_) hn hr<|fun s8 xs8 w8 hn hr=>woE<|eoV (OutV.ok (dN hr) hn)
theorem QOo  {s:Ms} {xs:List Int} {w:World} {p B:Nat}(h:AtN w p B s xs) :
 Calls Tryz.prog 235 #[pT p 0] w (fun e w'=>e=.returned (.tuple #[])∧NowN w p B (X9 s) xs w'):=by
 have hn:=NowN.begin h
 go_enter Tryz.func235,Tryz.ntmps235
 refine JA<|have b2:=ZZ hn.at_.ms;coR<|nR 1 hn<|nA (m_a hn.at_) hn<|fun w3 hn=>have b4:=QN hn.at_.ms;nR 1 hn<|nA (m_f hn.at_) hn<|fun w5 hn=>nE hn<|coS<|nQ hn<|coB<|nQ hn<|coI (s.y==4) (fun h9=>?_) fun h9=>?_
 · have g9:s.y=4:=by simpa using h9
   refine coZ<|nR 2 hn<|nB (QRn s.a s.f (b2) (b4) _ hn.at_.tabs.digits) hn<|fun w10 hn=>nF hn<|eoB<|eoT<|coZ<|nR 3 hn<|kE (Ja (jf s.a s.f) (QLG s.a s.f) (zN _ _).1 (zN _ _).2 (QDB _ _).1 (QDB _ _).2 _)<|nFs hn (.u_af _ (256*(jf s.a s.f)+(QLG s.a s.f))) (hn.at_.ms.u_af (Wd16.mk8 (zN _ _) (QDB _ _)))<|fun w12 hn=>eoV ?_
   have e:X9 s=s.u_af (256*(jf s.a s.f)+(QLG s.a s.f)):=by
    unfold X9
    repeat (first|rw[if_pos (by assumption)]|rw[if_neg (by assumption)])
    rfl
   exact⟨rfl,e▸hn⟩
 have g9:¬s.y=4:=by simpa using h9
 refine nQ hn<|coI (s.y==5) (fun h14=>?_) fun h14=>?_
 · have g14:s.y=5:=by simpa using h14
   refine coZ<|nR 2 hn<|kE (QST s.a s.f (b2) (b4) _)<|nF hn<|eoB<|eoT<|coZ<|nR 3 hn<|kE (Ja (255-s.a) (QK5 s.a s.f) (B8.not (b2)).1 (B8.not (b2)).2 (Qh _ _ _ _ _).1 (Qh _ _ _ _ _).2 _)<|nFs hn (.u_af _ (256*(255-s.a)+(QK5 s.a s.f))) (hn.at_.ms.u_af (Wd16.mk8 (B8.not (b2)) (Qh _ _ _ _ _)))<|fun w17 hn=>eoV ?_
   have e:X9 s=s.u_af (256*(255-s.a)+(QK5 s.a s.f)):=by
    unfold X9
    repeat (first|rw[if_pos (by assumption)]|rw[if_neg (by assumption)])
    rfl
   exact⟨rfl,e▸hn⟩
 have g14:¬s.y=5:=by simpa using h14
 refine nQ hn<|coI (s.y==6) (fun h19=>?_) fun h19=>?_
 · have g19:s.y=6:=by simpa using h19
   refine coZ<|nR 2 hn<|kE (QLh s.a s.f (b2) (b4) _)<|nF hn<|eoB<|eoT<|coZ<|nR 3 hn<|kE (Ja s.a (QHS s.a s.f) (b2).1 (b2).2 (Qh _ _ _ _ _).1 (Qh _ _ _ _ _).2 _)<|nFs hn (.u_af _ (256*s.a+(QHS s.a s.f))) (hn.at_.ms.u_af (Wd16.mk8 (b2) (Qh _ _ _ _ _)))<|fun w22 hn=>eoV ?_
   have e:X9 s=s.u_af (256*s.a+(QHS s.a s.f)):=by
    unfold X9
    repeat (first|rw[if_pos (by assumption)]|rw[if_neg (by assumption)])
    rfl
   exact⟨rfl,e▸hn⟩
 have g19:¬s.y=6:=by simpa using h19
 refine nQ hn<|coI (s.y==7) (fun h24=>?_) fun h24=>?_
 · have g24:s.y=7:=by simpa using h24
   refine coZ<|nR 2 hn<|kE (QTa s.a s.f (b2) (b4) _)<|nF hn<|eoB<|eoT<|coZ<|nR 3 hn<|kE (Ja s.a (QHA s.a s.f) (b2).1 (b2).2 (Qh _ _ _ _ _).1 (Qh _ _ _ _ _).2 _)<|nFs hn (.u_af _ (256*s.a+(QHA s.a s.f))) (hn.at_.ms.u_af (Wd16.mk8 (b2) (Qh _ _ _ _ _)))<|fun w27 hn=>eoV ?_
   have e:X9 s=s.u_af (256*s.a+(QHA s.a s.f)):=by
    unfold X9
    repeat (first|rw[if_pos (by assumption)]|rw[if_neg (by assumption)])
    rfl
   exact⟨rfl,e▸hn⟩
 have g24:¬s.y=7:=by simpa using h24
 refine coZ<|nR 6 hn<|nB (QRS s.y s.a s.f (b2) (b4) _ hn.at_.tabs.courses) hn<|fun w28 hn=>nF hn<|eoB<|eoT<|coZ<|nR 3 hn<|kE (Ja (QHN s.y s.a s.f) (QHm s.y s.a s.f) (QDA _ _ _ (b2)).1 (QDA _ _ _ (b2)).2 (QCs _ _ _ (b4)).1 (QCs _ _ _ (b4)).2 _)<|nFs hn (.u_af _ (256*(QHN s.y s.a s.f)+(QHm s.y s.a s.f))) (hn.at_.ms.u_af (Wd16.mk8 (QDA _ _ _ (b2)) (QCs _ _ _ (b4))))<|fun w30 hn=>eoV ?_
 have e:X9 s=s.u_af (256*(QHN s.y s.a s.f)+(QHm s.y s.a s.f)):=by
  unfold X9
  repeat (first|rw[if_pos (by assumption)]|rw[if_neg (by assumption)])
  rfl
 exact⟨rfl,e▸hn⟩
theorem QBq (b:Int)(hAb:B8 b){s:Ms} {xs:List Int} {w:World} {p B:Nat}(h:AtN w p B s xs) :
 Calls Tryz.prog 238 #[pT p 0,.int .u8 (b)] w (fun e w'=>e=.returned (.tuple #[])∧NowN w p B (Qy b s) xs w'):=by
 have hn:=NowN.begin h
 go_enter Tryz.func238,Tryz.ntmps238
 refine JA<|have b2:=ZZ hn.at_.ms;coR<|nR 1 hn<|nA (m_a hn.at_) hn<|fun w3 hn=>have b4:=QN hn.at_.ms;nR 1 hn<|nA (m_f hn.at_) hn<|fun w5 hn=>nE hn<|coR<|nR 1 hn<|nA (QGo hn.at_) hn<|fun w7 hn=>nE hn<|coS<|nQ hn<|coB<|nQ hn<|coI (s.y==0) (fun h11=>?_) fun h11=>?_
 · have g11:s.y=0:=by simpa using h11
   refine coZ<|nR 2 hn<|nB (QAf s.a b false (b2) (hAb) _) hn<|fun w12 hn=>nF hn<|eoB<|eoT<|coZ<|nR 3 hn<|kE (Ja (Xx s.a b false) (ZF s.a b false) (QU _ _ _).1 (QU _ _ _).2 (Q8 _ _ _).1 (Q8 _ _ _).2 _)<|nFs hn (.u_af _ (256*(Xx s.a b false)+(ZF s.a b false))) (hn.at_.ms.u_af (Wd16.mk8 (QU _ _ _) (Q8 _ _ _)))<|fun w14 hn=>eoV ?_
   have e:Qy b s=s.u_af (256*(Xx s.a b false)+(ZF s.a b false)):=by
    unfold Qy
    repeat (first|rw[if_pos (by assumption)]|rw[if_neg (by assumption)])
    rfl
   exact⟨rfl,e▸hn⟩
 have g11:¬s.y=0:=by simpa using h11
 refine nQ hn<|coI (s.y==1) (fun h16=>?_) fun h16=>?_
 · have g16:s.y=1:=by simpa using h16
   refine coZ<|nR 3 hn<|nB (QAf s.a b (s.carry != 0) (b2) (hAb) _) hn<|fun w17 hn=>nF hn<|eoB<|eoT<|coZ<|nR 3 hn<|kE (Ja (Xx s.a b (s.carry != 0)) (ZF s.a b (s.carry != 0)) (QU _ _ _).1 (QU _ _ _).2 (Q8 _ _ _).1 (Q8 _ _ _).2 _)<|nFs hn (.u_af _ (256*(Xx s.a b (s.carry != 0))+(ZF s.a b (s.carry != 0)))) (hn.at_.ms.u_af (Wd16.mk8 (QU _ _ _) (Q8 _ _ _)))<|fun w19 hn=>eoV ?_
   have e:Qy b s=s.u_af (256*(Xx s.a b (s.carry != 0))+(ZF s.a b (s.carry != 0))):=by
    unfold Qy
    repeat (first|rw[if_pos (by assumption)]|rw[if_neg (by assumption)])
    rfl
   exact⟨rfl,e▸hn⟩
 have g16:¬s.y=1:=by simpa using h16
 refine nQ hn<|coI (s.y==2) (fun h21=>?_) fun h21=>?_
 · have g21:s.y=2:=by simpa using h21
   refine coZ<|nR 2 hn<|nB (qK s.a b false (b2) (hAb) _) hn<|fun w22 hn=>nF hn<|eoB<|eoT<|coZ<|nR 3 hn<|kE (Ja (Qj s.a b false) (Qm s.a b false) (QA _ _ _).1 (QA _ _ _).2 (QB _ _ _).1 (QB _ _ _).2 _)<|nFs hn (.u_af _ (256*(Qj s.a b false)+(Qm s.a b false))) (hn.at_.ms.u_af (Wd16.mk8 (QA _ _ _) (QB _ _ _)))<|fun w24 hn=>eoV ?_
   have e:Qy b s=s.u_af (256*(Qj s.a b false)+(Qm s.a b false)):=by
    unfold Qy
    repeat (first|rw[if_pos (by assumption)]|rw[if_neg (by assumption)])
    rfl
   exact⟨rfl,e▸hn⟩
 have g21:¬s.y=2:=by simpa using h21
 refine nQ hn<|coI (s.y==3) (fun h26=>?_) fun h26=>?_
 · have g26:s.y=3:=by simpa using h26
   refine coZ<|nR 3 hn<|nB (qK s.a b (s.carry != 0) (b2) (hAb) _) hn<|fun w27 hn=>nF hn<|eoB<|eoT<|coZ<|nR 3 hn<|kE (Ja (Qj s.a b (s.carry != 0)) (Qm s.a b (s.carry != 0)) (QA _ _ _).1 (QA _ _ _).2 (QB _ _ _).1 (QB _ _ _).2 _)<|nFs hn (.u_af _ (256*(Qj s.a b (s.carry != 0))+(Qm s.a b (s.carry != 0)))) (hn.at_.ms.u_af (Wd16.mk8 (QA _ _ _) (QB _ _ _)))<|fun w29 hn=>eoV ?_
   have e:Qy b s=s.u_af (256*(Qj s.a b (s.carry != 0))+(Qm s.a b (s.carry != 0))):=by
    unfold Qy
    repeat (first|rw[if_pos (by assumption)]|rw[if_neg (by assumption)])
    rfl
   exact⟨rfl,e▸hn⟩
 have g26:¬s.y=3:=by simpa using h26
 refine nQ hn<|coI (s.y==4) (fun h31=>?_) fun h31=>?_
 · have g31:s.y=4:=by simpa using h31
   refine coZ<|nR 2 hn<|nB (QTB s.a b (b2) (hAb) _) hn<|fun w32 hn=>nF hn<|eoB<|eoT<|coZ<|nR 3 hn<|kE (Ja (QDe s.a b) (QBm (QDe s.a b)) (J6 _ _ _).1 (J6 _ _ _).2 (QBb _).1 (QBb _).2 _)<|nFs hn (.u_af _ (256*(QDe s.a b)+(QBm (QDe s.a b)))) (hn.at_.ms.u_af (Wd16.mk8 (J6 _ _ _) (QBb _)))<|fun w34 hn=>eoV ?_
   have e:Qy b s=s.u_af (256*(QDe s.a b)+(QBm (QDe s.a b))):=by
    unfold Qy
    repeat (first|rw[if_pos (by assumption)]|rw[if_neg (by assumption)])
    rfl
   exact⟨rfl,e▸hn⟩
 have g31:¬s.y=4:=by simpa using h31
 refine nQ hn<|coI (s.y==5) (fun h36=>?_) fun h36=>?_
 · have g36:s.y=5:=by simpa using h36
   refine coZ<|nR 2 hn<|nB (QRm s.a b (b2) (hAb) _) hn<|fun w37 hn=>nF hn<|eoB<|eoT<|coZ<|nR 3 hn<|kE (Ja (zc s.a b) (J2 (zc s.a b)) (J6 _ _ _).1 (J6 _ _ _).2 (Qs _).1 (Qs _).2 _)<|nFs hn (.u_af _ (256*(zc s.a b)+(J2 (zc s.a b)))) (hn.at_.ms.u_af (Wd16.mk8 (J6 _ _ _) (Qs _)))<|fun w39 hn=>eoV ?_
   have e:Qy b s=s.u_af (256*(zc s.a b)+(J2 (zc s.a b))):=by
    unfold Qy
    repeat (first|rw[if_pos (by assumption)]|rw[if_neg (by assumption)])
    rfl
   exact⟨rfl,e▸hn⟩
 have g36:¬s.y=5:=by simpa using h36
 refine nQ hn<|coI (s.y==6) (fun h41=>?_) fun h41=>?_
 · have g41:s.y=6:=by simpa using h41
   refine coZ<|nR 2 hn<|nB (QVK s.a b (b2) (hAb) _) hn<|fun w42 hn=>nF hn<|eoB<|eoT<|coZ<|nR 3 hn<|kE (Ja (orR s.a b) (J2 (orR s.a b)) (J6 _ _ _).1 (J6 _ _ _).2 (Qs _).1 (Qs _).2 _)<|nFs hn (.u_af _ (256*(orR s.a b)+(J2 (orR s.a b)))) (hn.at_.ms.u_af (Wd16.mk8 (J6 _ _ _) (Qs _)))<|fun w44 hn=>eoV ?_
   have e:Qy b s=s.u_af (256*(orR s.a b)+(J2 (orR s.a b))):=by
    unfold Qy
    repeat (first|rw[if_pos (by assumption)]|rw[if_neg (by assumption)])
    rfl
   exact⟨rfl,e▸hn⟩
 have g41:¬s.y=6:=by simpa using h41
 refine nQ hn<|coI (s.y==7) (fun h46=>?_) fun h46=>?_
 · have g46:s.y=7:=by simpa using h46
   refine coZ<|nR 2 hn<|nB (QRe s.a b (b2) (hAb) _) hn<|fun w47 hn=>nF hn<|eoB<|eoT<|coZ<|nR 3 hn<|kE (Ja s.a (QJp s.a b) (b2).1 (b2).2 (QCf _ _).1 (QCf _ _).2 _)<|nFs hn (.u_af _ (256*s.a+(QJp s.a b))) (hn.at_.ms.u_af (Wd16.mk8 (b2) (QCf _ _)))<|fun w49 hn=>eoV ?_
   have e:Qy b s=s.u_af (256*s.a+(QJp s.a b)):=by
    unfold Qy
    repeat (first|rw[if_pos (by assumption)]|rw[if_neg (by assumption)])
    rfl
   exact⟨rfl,e▸hn⟩
 have g46:¬s.y=7:=by simpa using h46
 refine JC<|eoB<|eoT<|coZ<|nR 3 hn<|kE (Ja s.a s.f (b2).1 (b2).2 (b4).1 (b4).2 _)<|nFs hn (.u_af _ (256*s.a+s.f)) (hn.at_.ms.u_af (Wd16.mk8 (b2) (b4)))<|fun w51 hn=>eoV ?_
 have e:Qy b s=s.u_af (256*s.a+s.f):=by
  unfold Qy
  repeat (first|rw[if_pos (by assumption)]|rw[if_neg (by assumption)])
  rfl
 exact⟨rfl,e▸hn⟩
theorem QNk  {s:Ms} {xs:List Int} {w:World} {p B:Nat}(h:AtN w p B s xs) :
 Calls Tryz.prog 189 #[pT p 0] w (OutV w p B ((QAJ s).run xs)):=by
 have hn:=NowN.begin h
 have hr:(QAJ s).run xs=(QAJ s).run xs:=rfl
 go_enter Tryz.func189,Tryz.ntmps189
 refine JA<|nQ hn<|coB<|nQ hn<|nIf hr (fun g3 hr=>?_) fun g3 hr=>?_
 · exact coZ<|nR 1 hn<|nVt (QOU hn.at_) hn hr<|fun s4 xs4 w4 hn hr=>woE<|eoB<|eoV (OutV.ok (dN hr) hn)
 refine nQ hn<|nIf hr (fun g6 hr=>?_) fun g6 hr=>?_
 · exact coZ<|nR 1 hn<|nVt (QIF hn.at_) hn hr<|fun s7 xs7 w7 hn hr=>woE<|eoB<|eoV (OutV.ok (dN hr) hn)
 refine nQ hn<|nIf hr (fun g9 hr=>?_) fun g9 hr=>?_
 · exact coZ<|nR 1 hn<|nVt (QEG hn.at_) hn hr<|fun s10 xs10 w10 hn hr=>woE<|eoB<|eoV (OutV.ok (dN hr) hn)
 refine nQ hn<|nIf hr (fun g12 hr=>?_) fun g12 hr=>?_
 · exact coZ<|nR 1 hn<|nVt (QLM hn.at_) hn hr<|fun s13 xs13 w13 hn hr=>woE<|eoB<|eoV (OutV.ok (dN hr) hn)
 refine nQ hn<|nIf hr (fun g15 hr=>?_) fun g15 hr=>?_
 · exact coZ<|nR 1 hn<|nVt (QH6 hn.at_) hn hr<|fun s16 xs16 w16 hn hr=>woE<|eoB<|eoV (OutV.ok (dN hr) hn)
 refine nQ hn<|nIf hr (fun g18 hr=>?_) fun g18 hr=>?_
 · exact coZ<|nR 1 hn<|nVt (QIi hn.at_) hn hr<|fun s19 xs19 w19 hn hr=>woE<|eoB<|eoV (OutV.ok (dN hr) hn)
 refine nQ hn<|nIf hr (fun g21 hr=>?_) fun g21 hr=>?_
 · exact coZ<|nR 1 hn<|nVt (QHE hn.at_) hn hr<|fun s22 xs22 w22 hn hr=>woE<|eoB<|eoV (OutV.ok (dN hr) hn)
 refine nQ hn<|nIf hr (fun g24 hr=>?_) fun g24 hr=>?_
 · exact coZ<|nR 1 hn<|nA (QOo hn.at_) hn<|fun w25 hn=>woE<|eoB<|eoV (OutV.ok (dN hr) hn)
 exact JC<|eoB<|eoV (OutV.ok (dN hr) hn)
theorem QV3  {s:Ms} {xs:List Int} {w:World} {p B:Nat}(h:AtN w p B s xs) :
 Calls Tryz.prog 190 #[pT p 0] w (OutV w p B ((QH1 s).run xs)):=by
 have hn:=NowN.begin h
 have hr:(QH1 s).run xs=(QH1 s).run xs:=rfl
 go_enter Tryz.func190,Tryz.ntmps190
 refine JA<|coS<|coR<|nR 6 hn ?_
 rcases Bool.eq_false_or_eq_true (s.y==6) with h3|h3
 · have g3:s.y=6:=by simpa using h3
   refine tell 7 h3<|nE hn<|coI (s.z==6) (fun h4=>?_) fun h4=>?_
   · have g4:s.z=6:=by simpa using h4
     exact have hr:=hr.trans (JD (by simp[g4,g3]));nQs hn (.u_halted _ (true)) (hn.at_.ms.u_halted)<|fun w6 hn=>JE<|Je<|QE5 (OutV.ok (dN hr) hn)
   have g4:¬s.z=6:=by simpa using h4
   exact have hr:=hr.trans (JB (by simp[g4,g3]));JC<|eoT<|nPz 11 hn<|fun w7 hn=>nD [0,1,2,3,4,5,6,7,8,9] hn<|nDi 10 QCz (QDI s.z hn.at_) hn hr<|fun v8 xs8 w8 hk8 hn hr=>poE<|nVt (zq s.y v8 (hk8) hn.at_) hn hr<|fun s9 xs9 w9 hn hr=>woE<|eoV (OutV.ok (dN hr) hn)
 have g3:¬s.y=6:=by simpa using h3
 exact tell 7 h3<|nE hn<|coF<|have hr:=hr.trans (JB (by simp[g3]));JC<|eoT<|nPz 11 hn<|fun w10 hn=>nD [0,1,2,3,4,5,6,7,8,9] hn<|nDi 10 QCz (QDI s.z hn.at_) hn hr<|fun v11 xs11 w11 hk11 hn hr=>poE<|nVt (zq s.y v11 (hk11) hn.at_) hn hr<|fun s12 xs12 w12 hn hr=>woE<|eoV (OutV.ok (dN hr) hn)
theorem QOi  {s:Ms} {xs:List Int} {w:World} {p B:Nat}(h:AtN w p B s xs) :
 Calls Tryz.prog 191 #[pT p 0] w (OutV w p B ((QBg s).run xs)):=by
 have hn:=NowN.begin h
 have hr:(QBg s).run xs=(QBg s).run xs:=rfl
 go_enter Tryz.func191,Tryz.ntmps191
 exact JA<|coZ<|nR 6 hn<|nI (QDI s.z hn.at_) hn hr<|fun v1 s1 xs1 w1 hk1 hn hr=>nA (QBq v1 (hk1) hn.at_) hn<|fun w2 hn=>woE<|eoV (OutV.ok (dN hr) hn)
theorem QM8  {s:Ms} {xs:List Int} {w:World} {p B:Nat}(h:AtN w p B s xs) :
 Calls Tryz.prog 240 #[pT p 0] w (OutV w p B ((QIT s).run xs)):=by
 have hn:=NowN.begin h
 have hr:(QIT s).run xs=(QIT s).run xs:=rfl
 go_enter Tryz.func240,Tryz.ntmps240
 refine JA<|coB<|coR<|nR 6 hn ?_
 rcases Bool.eq_false_or_eq_true (s.q==0) with h2|h2
 · have g2:s.q=0:=by simpa using h2
   refine tell 8 h2<|nE hn<|coI (s.p==3) (fun h3=>?_) fun h3=>?_
   · have g3:s.p=3:=by simpa using h3
     first|(have hr:=hr.trans (JD g3);have hr:=hr.trans (JD g2))|(have hr:=hr.trans (JD g2);have hr:=hr.trans (JD g3))
     exact coZ<|nR 2 hn<|nI (QI8 hn.at_) hn hr<|fun v4 s4 xs4 w4 hk4 hn hr=>nFs hn (.u_af _ (v4)) (hn.at_.ms.u_af (hk4))<|fun w5 hn=>eoB<|eoV (OutV.ok (dN hr) hn)
   have g3:¬s.p=3:=by simpa using h3
   first|(have hr:=hr.trans (JD g2);have hr:=hr.trans (JB g3))|(have hr:=hr.trans (JB g3);have hr:=hr.trans (JD g2))
   exact nQ hn<|coJ (s.q==0) (fun h7=>absurd (h2.symm.trans h7) (by decide))<|fun h7=>coZ<|nR 2 hn<|nI (QI8 hn.at_) hn hr<|fun v8 s8 xs8 w8 hk8 hn hr=>nA (zJ v8 (hk8) hn.at_) hn<|fun w9 hn=>woE<|eoB<|eoV (OutV.ok (dN hr) hn)
 have g2:¬s.q=0:=by simpa using h2
 refine tell 8 h2<|nE hn<|coF<|have hr:=hr.trans (JB g2);nQ hn<|coK (s.q==0) (fun h11=>absurd (h2.symm.trans h11) (by decide))<|fun h11=>nQ hn<|nIf hr (fun g13 hr=>?_) fun g13 hr=>?_
 · exact coZ<|nR 2 hn<|nI (QI8 hn.at_) hn hr<|fun v14 s14 xs14 w14 hk14 hn hr=>nA (QCm v14 (hk14) hn.at_) hn<|fun w15 hn=>woE<|eoB<|eoV (OutV.ok (dN hr) hn)
 refine nQ hn<|nIf hr (fun g17 hr=>?_) fun g17 hr=>?_
 · exact have b18:=hn.at_.ms.r;coZ<|nR 5 hn<|nB (QRT s.r _) hn<|fun w19 hn=>nFs hn _ (hn.at_.ms.u_rg ((b18).exx))<|fun w20 hn=>eoB<|eoV (OutV.ok (dN hr) hn)
 refine nQ hn<|nIf hr (fun g22 hr=>?_) fun g22 hr=>?_
 · exact have b23:=QAa hn.at_.ms;coZ<|nR 2 hn<|nA (QNU hn.at_) hn<|fun w24 hn=>nFs hn (.u_pc _ (s.hl)) (hn.at_.ms.u_pc (b23))<|fun w25 hn=>eoB<|eoV (OutV.ok (dN hr) hn)
 refine nQ hn<|nIf hr (fun g27 hr=>?_) fun g27 hr=>?_
 · exact coR<|nR 1 hn<|nV (Jw 2 hn.at_) hn hr<|fun s29 xs29 w29 hn hr=>wT<|have b30:=QAa hn.at_.ms;coZ<|nR 2 hn<|nA (QNU hn.at_) hn<|fun w31 hn=>nFs hn (.u_sp _ (s29.hl)) (hn.at_.ms.u_sp (b30))<|fun w32 hn=>eoB<|eoV (OutV.ok (dN hr) hn)
 exact JC<|eoB<|eoV (OutV.ok (dN hr) hn)
theorem QQK (o:Bool){s:Ms} {xs:List Int} {w:World} {p B:Nat}(h:AtN w p B s xs) :
 Calls Tryz.prog 243 #[pT p 0,.bool (o)] w (OutV w p B ((QF2 o s).run xs)):=by
 have hn:=NowN.begin h
 have hr:(QF2 o s).run xs=(QF2 o s).run xs:=rfl
 go_enter Tryz.func243,Tryz.ntmps243
 refine JA<|coR<|nR 2 hn<|nI (zf hn.at_) hn hr<|fun v2 s2 xs2 w2 hk2 hn hr=>nEs hn (.u_wz _ (v2)) (hn.at_.ms.u_wz (hk2))<|fun w3 hn=>coS<|nQ hn<|coI (!(o)) (fun h6=>?_) fun h6=>?_
 · have g6:¬o=true:=by simpa using h6
   exact have hr:=hr.trans (JB g6);JE<|Je<|QE5 (OutV.ok (dN hr) hn)
 have g6:o=true:=by simpa using h6
 exact have hr:=hr.trans (JD g6);JC<|eoT<|coR<|nR 1 hn<|nV (Jw 1 hn.at_) hn hr<|fun s8 xs8 w8 hn hr=>wT<|have b10:=hn.at_.ms.r.pc;coR<|nR 6 hn<|nV (QG6 s8.r.pc (b10) hn.at_) hn hr<|fun s11 xs11 w11 hn hr=>wT<|have b12:=hn.at_.ms.r.wz;coZ<|nFs hn (.u_pc _ (s11.r.wz)) (hn.at_.ms.u_pc (b12))<|fun w13 hn=>eoV (OutV.ok (dN hr) hn)
theorem QTX  {s:Ms} {xs:List Int} {w:World} {p B:Nat}(h:AtN w p B s xs) :
 Calls Tryz.prog 244 #[pT p 0] w (OutV w p B ((QCR s).run xs)):=by
 have hn:=NowN.begin h
 have hr:(QCR s).run xs=(QCR s).run xs:=rfl
 go_enter Tryz.func244,Tryz.ntmps244
 refine JA<|coS<|nQ hn<|coI (s.q != 0) (fun h3=>?_) fun h3=>?_
 · have g3:¬s.q=0:=by simpa using h3
   exact have hr:=hr.trans (JB g3);coR<|nR 1 hn<|nV (QQK true hn.at_) hn hr<|fun s5 xs5 w5 hn hr=>wT<|JE<|Je<|QE5 (OutV.ok (dN hr) hn)
 have g3:s.q=0:=by simpa using h3
 refine have hr:=hr.trans (JD g3);JC<|eoT<|coR<|nR 1 hn<|nV (Jw 1 hn.at_) hn hr<|fun s7 xs7 w7 hn hr=>wT<|nQ hn<|nIf hr (fun g9 hr=>?_) fun g9 hr=>?_
 · exact have b10:=hn.at_.ms.r.af;coZ<|nR 6 hn<|nV (QG6 s7.r.af (b10) hn.at_) hn hr<|fun s11 xs11 w11 hn hr=>woE<|eoV (OutV.ok (dN hr) hn)
 exact have b12:=XD hn.at_.ms;coZ<|nR 2 hn<|nA (jY hn.at_) hn<|fun w13 hn=>nV (QG6 s7.pair (b12) hn.at_) hn hr<|fun s14 xs14 w14 hn hr=>woE<|eoV (OutV.ok (dN hr) hn)
theorem QFU  {s:Ms} {xs:List Int} {w:World} {p B:Nat}(h:AtN w p B s xs) :
 Calls Tryz.prog 297 #[pT p 0] w (OutV w p B ((Zc s).run xs)):=by
 have hn:=NowN.begin h
 have hr:(Zc s).run xs=(Zc s).run xs:=rfl
 go_enter Tryz.func297,Tryz.ntmps297
 exact JA<|have b2:=hn.at_.ms.r.sp;coR<|nR 6 hn<|nI (QEV s.r.sp (b2) hn.at_) hn hr<|fun v3 s3 xs3 w3 hk3 hn hr=>have b4:=QAa hn.at_.ms;nR 1 hn<|nA (QNU hn.at_) hn<|fun w5 hn=>nE hn<|coR<|nR 1 hn<|nV (Jw 1 hn.at_) hn hr<|fun s7 xs7 w7 hn hr=>wT<|nP 9 hn<|fun w9 hn=>have b10:=hn.at_.ms.r.sp;nD [0,1,2,3,4,5,6,7] hn<|nDe 8 (qX s3.hl (b4).1 (b4).2 _) hn<|poE<|nV (ZA ((s7.r.sp+1)%65536) (Wd16.mod _) (s3.hl / 256) ((b4).hi) hn.at_) hn hr<|fun s12 xs12 w12 hn hr=>wT<|nP 8 hn<|fun w14 hn=>have b15:=hn.at_.ms.r.sp;nD [0,1,2,3,4,5,6] hn<|nDe 7 (Zx s3.hl (b4).1 (b4).2 _) hn<|poE<|nV (ZA s12.r.sp (b15) (s3.hl%256) ((b4).lo8) hn.at_) hn hr<|fun s17 xs17 w17 hn hr=>wT<|coR<|nR 1 hn<|nV (Jw 2 hn.at_) hn hr<|fun s19 xs19 w19 hn hr=>wT<|coR<|nR 2 hn<|nA (QGq v3 (hk3) hn.at_) hn<|fun w21 hn=>wT<|coZ<|nFs hn (.u_wz _ (v3)) (hn.at_.ms.u_wz (hk3))<|fun w22 hn=>eoV (OutV.ok (dN hr) hn)
theorem QOz  {s:Ms} {xs:List Int} {w:World} {p B:Nat}(h:AtN w p B s xs) :
 Calls Tryz.prog 242 #[pT p 0] w (OutV w p B ((QB4 s).run xs)):=by
 have hn:=NowN.begin h
 have hr:(QB4 s).run xs=(QB4 s).run xs:=rfl
 go_enter Tryz.func242,Tryz.ntmps242
 refine wp_seq_k fun K1 hK1=>JG<|oM 4 (pT p 0)<|oN 5 p 0<|oF 6 (fM4 p)<|oL 7 (ldI (hn.at_.cell 23 (.int .i64 (s.y)) fun _ _ _=>rfl)) ?_
 refine Jg ?_
 try simp only[Act.put,sA,sB,sC]
 refine JW<|hK1 _ _ ?_
 refine wp_block ?_
 refine wp_seq_k fun K2 hK2=>JG<|oB 9 (egI _ _ _ _ _) (QCZ s.y 0)<|oA 8 (.bool (s.y==0)) ?_
 refine Jg ?_
 try simp only[Act.put,sA,sB,sC]
 refine JW<|hK2 _ _ ?_
 refine wp_cond_split (t:=s.y==0) (by kernel_rfl) (fun h3=>?_) (fun h3=>?_)
 · have g3:s.y=0:=by simpa using h3
   have hr:=hr.trans (JD g3)
   exact JA<|coZ<|nR 2 hn<|nI (zf hn.at_) hn hr<|fun v4 s4 xs4 w4 hk4 hn hr=>nA (QCm v4 (hk4) hn.at_) hn<|fun w5 hn=>woE<|eoB<|eoV (OutV.ok (dN hr) hn)
 · have g3:¬s.y=0:=by simpa using h3
   have hr:=hr.trans (JB g3)
   refine wp_seq_k fun K6 hK6=>JG<|oB 15 (egI _ _ _ _ _) (QCZ s.y 2)<|oA 14 (.bool (s.y==2)) ?_
   refine Jg ?_
   try simp only[Act.put,sA,sB,sC]
   refine JW<|hK6 _ _ ?_
   refine wp_cond_split (t:=s.y==2) (by kernel_rfl) (fun h7=>?_) (fun h7=>?_)
   · have g7:s.y=2:=by simpa using h7
     have hr:=hr.trans (JD g7)
     exact JA<|have b9:=ZZ hn.at_.ms;coR<|nR 1 hn<|nA (m_a hn.at_) hn<|fun w10 hn=>nR 1 hn<|nI (Zf hn.at_) hn hr<|fun v11 s11 xs11 w11 hk11 hn hr=>kE (Ja s.a v11 (b9).1 (b9).2 (hk11).1 (hk11).2 _)<|nE hn<|have b14:=ZZ hn.at_.ms;coR<|nR 3 hn<|nA (m_a hn.at_) hn<|fun w15 hn=>nV (QMC (256*s.a+v11) (Wd16.mk8 (b9) (hk11)) s11.a (b14) hn.at_) hn hr<|fun s16 xs16 w16 hn hr=>wT<|coZ<|nR 2 hn<|nA (QIk (256*s.a+v11) (Wd16.mk8 (b9) (hk11)) hn.at_) hn<|fun w17 hn=>woE<|eoB<|eoV (OutV.ok (dN hr) hn)
   · have g7:¬s.y=2:=by simpa using h7
     have hr:=hr.trans (JB g7)
     refine wp_seq_k fun K18 hK18=>JG<|oB 30 (egI _ _ _ _ _) (QCZ s.y 3)<|oA 29 (.bool (s.y==3)) ?_
     refine Jg ?_
     try simp only[Act.put,sA,sB,sC]
     refine JW<|hK18 _ _ ?_
     refine wp_cond_split (t:=s.y==3) (by kernel_rfl) (fun h19=>?_) (fun h19=>?_)
     · have g19:s.y=3:=by simpa using h19
       have hr:=hr.trans (JD g19)
       exact JA<|have b21:=ZZ hn.at_.ms;coR<|nR 1 hn<|nA (m_a hn.at_) hn<|fun w22 hn=>nR 1 hn<|nI (Zf hn.at_) hn hr<|fun v23 s23 xs23 w23 hk23 hn hr=>kE (Ja s.a v23 (b21).1 (b21).2 (hk23).1 (hk23).2 _)<|nE hn<|coR<|nR 3 hn<|nI (QU8 (256*s.a+v23) (Wd16.mk8 (b21) (hk23)) hn.at_) hn hr<|fun v26 s26 xs26 w26 hk26 hn hr=>nA (QPg v26 (hk26) hn.at_) hn<|fun w27 hn=>wT<|coZ<|nFs hn (.u_wz _ (((256*s.a+v23)+1)%65536)) (hn.at_.ms.u_wz (Wd16.mod _))<|fun w28 hn=>eoB<|eoV (OutV.ok (dN hr) hn)
     · have g19:¬s.y=3:=by simpa using h19
       have hr:=hr.trans (JB g19)
       refine wp_seq_k fun K29 hK29=>JG<|oB 48 (egI _ _ _ _ _) (QCZ s.y 4)<|oA 47 (.bool (s.y==4)) ?_
       refine Jg ?_
       try simp only[Act.put,sA,sB,sC]
       refine JW<|hK29 _ _ ?_
       refine wp_cond_split (t:=s.y==4) (by kernel_rfl) (fun h30=>?_) (fun h30=>?_)
       · have g30:s.y=4:=by simpa using h30
         have hr:=hr.trans (JD g30)
         exact JA<|coZ<|nR 1 hn<|nV (QFU hn.at_) hn hr<|fun s31 xs31 w31 hn hr=>woE<|eoB<|eoV (OutV.ok (dN hr) hn)
       · have g30:¬s.y=4:=by simpa using h30
         have hr:=hr.trans (JB g30)
         refine wp_seq_k fun K32 hK32=>JG<|oB 52 (egI _ _ _ _ _) (QCZ s.y 5)<|oA 51 (.bool (s.y==5)) ?_
         refine Jg ?_
         try simp only[Act.put,sA,sB,sC]
         refine JW<|hK32 _ _ ?_
         refine wp_cond_split (t:=s.y==5) (by kernel_rfl) (fun h33=>?_) (fun h33=>?_)
         · have g33:s.y=5:=by simpa using h33
           have hr:=hr.trans (JD g33)
           have b34:=hn.at_.ms.r.hl
           have b35:=hn.at_.ms.r.de
           have c3:=hn.at_.cell 3 (.int .u16 (s.r.hl)) (fun _ _ _=>rfl)
           have c2:=hn.at_.cell 2 (.int .u16 (s.r.de)) (fun _ _ _=>rfl)
           have z2:=hn.at_.frozen 2
           have z3:=hn.at_.frozen 3
           have hn:=hn.drew
           go_region
           have hn:=hn.set 2 (.int .u16 (s.r.hl)) (s.u_de (s.r.hl)) (QWM _ _) (hn.at_.ms.u_de (b34))
           have hn:=hn.set 3 (.int .u16 (s.r.de)) ((s.u_de (s.r.hl)).u_hl (s.r.de)) (QPe _ _) (hn.at_.ms.u_hl (b35))
           refine jo ?_
           refine jt rfl rfl ?_
           exact OutV.ok (hr.trans (Tr.run_done _ _)) hn
         · have g33:¬s.y=5:=by simpa using h33
           have hr:=hr.trans (JB g33)
           refine JA<|nQ hn<|nIf hr (fun g37 hr=>?_) fun g37 hr=>?_
           · exact coZ<|nRs 6 hn (.u_iff1 _ (false)) (hn.at_.ms.u_iff1)<|fun w38 hn=>nFs hn (.u_iff2 _ (false)) (hn.at_.ms.u_iff2)<|fun w39 hn=>eoB<|eoV (OutV.ok (dN hr) hn)
           refine nQ hn<|nIf hr (fun g41 hr=>?_) fun g41 hr=>?_
           · exact coZ<|nRs 7 hn (.u_iff1 _ (true)) (hn.at_.ms.u_iff1)<|fun w42 hn=>nRs 4 hn (.u_iff2 _ (true)) (hn.at_.ms.u_iff2)<|fun w43 hn=>nFs hn (.u_late _ (true)) (hn.at_.ms.u_late)<|fun w44 hn=>eoB<|eoV (OutV.ok (dN hr) hn)
           exact JC<|eoB<|eoV (OutV.ok (dN hr) hn)
theorem QMm  {s:Ms} {xs:List Int} {w:World} {p B:Nat}(h:AtN w p B s xs) :
 Calls Tryz.prog 192 #[pT p 0] w (OutV w p B ((QAG s).run xs)):=by
 have hn:=NowN.begin h
 have hr:(QAG s).run xs=(QAG s).run xs:=rfl
 go_enter Tryz.func192,Tryz.ntmps192
 refine JA<|nQ hn<|coB<|nQ hn<|nIf hr (fun g3 hr=>?_) fun g3 hr=>?_
 · refine coR<|nR 1 hn<|nV (Jw 1 hn.at_) hn hr<|fun s5 xs5 w5 hn hr=>wT<|coR<|nR 5 hn<|nA (QD2 s5.y hn.at_) hn<|fun w7 hn=>wT<|coI (s5.holds s5.y) (fun h8=>?_) fun h8=>?_
   · have g8:s5.holds s5.y=true:=by simpa using h8
     exact have hr:=hr.trans (JD g8);coZ<|nR 2 hn<|nI (QI8 hn.at_) hn hr<|fun v9 s9 xs9 w9 hk9 hn hr=>nA (QCm v9 (hk9) hn.at_) hn<|fun w10 hn=>woE<|eoB<|eoV (OutV.ok (dN hr) hn)
   have g8:¬s5.holds s5.y=true:=by simpa using h8
   exact have hr:=hr.trans (JB g8);JC<|eoB<|eoV (OutV.ok (dN hr) hn)
 refine nQ hn<|nIf hr (fun g12 hr=>?_) fun g12 hr=>?_
 · exact coZ<|nR 1 hn<|nVt (QM8 hn.at_) hn hr<|fun s13 xs13 w13 hn hr=>woE<|eoB<|eoV (OutV.ok (dN hr) hn)
 refine nQ hn<|nIf hr (fun g15 hr=>?_) fun g15 hr=>?_
 · refine coR<|nR 2 hn<|nI (zf hn.at_) hn hr<|fun v17 s17 xs17 w17 hk17 hn hr=>nEs hn (.u_wz _ (v17)) (hn.at_.ms.u_wz (hk17))<|fun w18 hn=>coR<|nR 5 hn<|nA (QD2 ((s17.u_wz (v17)).y) hn.at_) hn<|fun w20 hn=>wT<|coI ((s17.u_wz (v17)).holds ((s17.u_wz (v17)).y)) (fun h21=>?_) fun h21=>?_
   · have g21:(s17.u_wz (v17)).holds ((s17.u_wz (v17)).y)=true:=by simpa using h21
     exact have hr:=hr.trans (JD g21);have b22:=hn.at_.ms.r.wz;coZ<|nFs hn ((s17.u_wz (v17)).u_pc ((s17.u_wz (v17)).r.wz)) (hn.at_.ms.u_pc (b22))<|fun w23 hn=>eoB<|eoV (OutV.ok (dN hr) hn)
   have g21:¬(s17.u_wz (v17)).holds ((s17.u_wz (v17)).y)=true:=by simpa using h21
   exact have hr:=hr.trans (JB g21);JC<|eoB<|eoV (OutV.ok (dN hr) hn)
 refine nQ hn<|nIf hr (fun g25 hr=>?_) fun g25 hr=>?_
 · exact coZ<|nR 1 hn<|nVt (QOz hn.at_) hn hr<|fun s26 xs26 w26 hn hr=>woE<|eoB<|eoV (OutV.ok (dN hr) hn)
 refine nQ hn<|nIf hr (fun g28 hr=>?_) fun g28 hr=>?_
 · exact coZ<|nR 6 hn<|nA (QD2 s.y hn.at_) hn<|fun w29 hn=>nVt (QQK (s.holds s.y) hn.at_) hn hr<|fun s30 xs30 w30 hn hr=>woE<|eoB<|eoV (OutV.ok (dN hr) hn)
 refine nQ hn<|nIf hr (fun g32 hr=>?_) fun g32 hr=>?_
 · exact coZ<|nR 1 hn<|nVt (QTX hn.at_) hn hr<|fun s33 xs33 w33 hn hr=>woE<|eoB<|eoV (OutV.ok (dN hr) hn)
 refine nQ hn<|nIf hr (fun g35 hr=>?_) fun g35 hr=>?_
 · exact coZ<|nR 2 hn<|nI (Zf hn.at_) hn hr<|fun v36 s36 xs36 w36 hk36 hn hr=>nA (QBq v36 (hk36) hn.at_) hn<|fun w37 hn=>woE<|eoB<|eoV (OutV.ok (dN hr) hn)
 refine nQ hn<|nIf hr (fun g39 hr=>?_) fun g39 hr=>?_
 · exact coR<|nR 1 hn<|nV (Jw 1 hn.at_) hn hr<|fun s41 xs41 w41 hn hr=>wT<|have b43:=hn.at_.ms.r.pc;coR<|nR 6 hn<|nV (QG6 s41.r.pc (b43) hn.at_) hn hr<|fun s44 xs44 w44 hn hr=>wT<|coZ<|nR 5 hn<|QVj 87 (egI _ _ _ _ _) (QUH 8 s44.y (by have:=hn.at_.ms.y;omega) (by have:=hn.at_.ms.y;omega))<|nR 1 hn<|nA (QCm ((8*s44.y)%65536) (Wd16.mod _) hn.at_) hn<|fun w45 hn=>woE<|eoB<|eoV (OutV.ok (dN hr) hn)
 exact JC<|eoB<|eoV (OutV.ok (dN hr) hn)
end Go.Proofs.YtmgcgiecimnncaaGreatDoor
