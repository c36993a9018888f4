/- Contracts and facts that the claim's proof wants (several texts in one). -/
import Derived.Test.YtkenebbjodcbcaaGreatDoorCoH10
namespace Go.Proofs.YtkenebbjodcbcaaGreatDoor
open Go.RowKit
set_option linter.unusedVariables false
set_option linter.unusedSimpArgs false
set_option maxRecDepth 20000
set_option maxHeartbeats 20000000
theorem QG3  {s:Ms} {xs:List Int} {w:World} {p B:Nat}(h:AtN w p B s xs) :
 Calls Tryz.prog 276 #[pT p 0] w (fun e w'=>e=.returned (.int .u8 (s.left))∧NowN w p B (s.lessB) xs w'):=by
 have hn:=NowN.begin h
 go_enter Tryz.func276,Tryz.ntmps276
 exact JB<|nQ hn<|have b3:=hn.at_.ms.r.get s.plane 0;coR<|nR 1 hn<|nA (QPN 0 (by decide) hn.at_) hn<|fun w4 hn=>nE hn<|coR<|nR 2 hn<|nA (QSy 0 (((qd s.r s.plane 0)-1)%256) (B8.mod _) (by decide) hn.at_) hn<|fun w6 hn=>wT<|nQ hn<|JF<|Jj (.int .u8 (((qd s.r s.plane 0)-1)%256)) (⟨rfl,hn⟩)
theorem QRn  {s:Ms} {xs:List Int} {w:World} {p B:Nat}(h:AtN w p B s xs) :
 Calls Tryz.prog 134 #[pT p 0] w (OutV w p B ((QET s).run xs)):=by
 have hn:=NowN.begin h
 have hr:(QET s).run xs=(QET s).run xs:=rfl
 go_enter Tryz.func134,Tryz.ntmps134
 exact JB<|have b2:=QAe hn.at_.ms;coR<|nR 2 hn<|nA (QL2 hn.at_) hn<|fun w3 hn=>nR 1 hn<|nI (Z7 hn.at_) hn hr<|fun v4 s4 xs4 w4 hk4 hn hr=>kE (QJa s.hl v4 (b2) (hk4) _)<|nEs hn (.u_spot _ (JA s.hl (JR v4))) (hn.at_.ms.u_spot (Wd16.mod _))<|fun w6 hn=>have b8:=hn.at_.ms.spot;nQs hn ((s4.u_spot (JA s.hl (JR v4))).u_wz ((s4.u_spot (JA s.hl (JR v4))).spot)) (hn.at_.ms.u_wz (b8))<|fun w9 hn=>nQs hn (.u_near _ (true)) (hn.at_.ms.u_near)<|fun w11 hn=>coZ<|nFs hn (.u_plane _ (0)) (hn.at_.ms.u_plane ((by decide)))<|fun w12 hn=>eoV (OutV.ok (dN hr) hn)
theorem QE8 (o:Bool){s:Ms} {xs:List Int} {w:World} {p B:Nat}(h:AtN w p B s xs) :
 Calls Tryz.prog 282 #[pT p 0,.bool (o)] w (OutV w p B ((j3 o s).run xs)):=by
 have hn:=NowN.begin h
 have hr:(j3 o s).run xs=(j3 o s).run xs:=rfl
 go_enter Tryz.func282,Tryz.ntmps282
 refine JB<|coR<|nR 1 hn<|nI (Z7 hn.at_) hn hr<|fun v2 s2 xs2 w2 hk2 hn hr=>nE hn<|coS<|nQ hn<|coI (!(o)) (fun h5=>?_) fun h5=>?_
 · have g5:¬o=true:=by simpa using h5
   exact have hr:=hr.trans (JG g5);JF<|Jp<|qx (OutV.ok (dN hr) hn)
 have g5:o=true:=by simpa using h5
 exact have hr:=hr.trans (JK g5);JC<|eoT<|coR<|nR 1 hn<|nV (QK 5 hn.at_) hn hr<|fun s7 xs7 w7 hn hr=>wT<|have b8:=hn.at_.ms.r.pc;coZ<|nR 7 hn<|kE (QJa s7.r.pc v2 (b8) (hk2) _)<|nA (QCo (JA s7.r.pc (JR v2)) (Wd16.mod _) hn.at_) hn<|fun w10 hn=>woE<|eoV (OutV.ok (dN hr) hn)
theorem QNj  {s:Ms} {xs:List Int} {w:World} {p B:Nat}(h:AtN w p B s xs) :
 Calls Tryz.prog 215 #[pT p 0] w (OutV w p B ((zd s).run xs)):=by
 have hn:=NowN.begin h
 have hr:(zd s).run xs=(zd s).run xs:=rfl
 go_enter Tryz.func215,Tryz.ntmps215
 refine JB<|nQ hn<|coB<|nQ hn<|nIf hr (fun g3 hr=>?_) fun g3 hr=>?_
 · exact JC<|eoB<|eoV (OutV.ok (dN hr) hn)
 refine nQ hn<|nIf hr (fun g5 hr=>?_) fun g5 hr=>?_
 · exact have b6:=hn.at_.ms.r;coZ<|nR 5 hn<|nB (QPC s.r _) hn<|fun w7 hn=>nFs hn _ (hn.at_.ms.u_rg ((b6).swap))<|fun w8 hn=>eoB<|eoV (OutV.ok (dN hr) hn)
 refine nQ hn<|nIf hr (fun g10 hr=>?_) fun g10 hr=>?_
 · exact coR<|nR 1 hn<|nV (QK 1 hn.at_) hn hr<|fun s12 xs12 w12 hn hr=>wT<|coR<|nR 1 hn<|nA (QG3 hn.at_) hn<|fun w14 hn=>nE hn<|coZ<|nR 3 hn<|nVt (QE8 (s12.left != 0) hn.at_) hn hr<|fun s15 xs15 w15 hn hr=>woE<|eoB<|eoV (OutV.ok (dN hr) hn)
 refine nQ hn<|nIf hr (fun g17 hr=>?_) fun g17 hr=>?_
 · exact coZ<|nR 1 hn<|nV (QE8 true hn.at_) hn hr<|fun s18 xs18 w18 hn hr=>woE<|eoB<|eoV (OutV.ok (dN hr) hn)
 exact coZ<|nR 6 hn<|QKZ 13 (egI _ _ _ _ _) (QF7 s.y 4 (by have:=hn.at_.ms.y;omega) (by have:=hn.at_.ms.y;omega))<|nA (QDt (s.y-4) hn.at_) hn<|fun w19 hn=>nVt (QE8 (s.holds (s.y-4)) hn.at_) hn hr<|fun s20 xs20 w20 hn hr=>woE<|eoB<|eoV (OutV.ok (dN hr) hn)
theorem QIx  {s:Ms} {xs:List Int} {w:World} {p B:Nat}(h:AtN w p B s xs) :
 Calls Tryz.prog 216 #[pT p 0] w (OutV w p B ((Zi s).run xs)):=by
 have hn:=NowN.begin h
 have hr:(Zi s).run xs=(Zi s).run xs:=rfl
 go_enter Tryz.func216,Tryz.ntmps216
 refine JB<|coS<|nQ hn<|nIf hr (fun g3 hr=>?_) fun g3 hr=>?_
 · exact coR<|nR 2 hn<|nI (zo hn.at_) hn hr<|fun v5 s5 xs5 w5 hk5 hn hr=>nA (q8 v5 (hk5) hn.at_) hn<|fun w6 hn=>wT<|JF<|Jp<|qx (OutV.ok (dN hr) hn)
 exact JC<|eoT<|coR<|nR 1 hn<|nV (QK 7 hn.at_) hn hr<|fun s8 xs8 w8 hn hr=>wT<|have b10:=QAe hn.at_.ms;coR<|nR 1 hn<|nA (QL2 hn.at_) hn<|fun w11 hn=>nE hn<|nQs hn (.u_wz _ ((s8.hl+1)%65536)) (hn.at_.ms.u_wz (Wd16.mod _))<|fun w13 hn=>have b15:=Xi hn.at_.ms;coR<|nR 2 hn<|nA (qJ hn.at_) hn<|fun w16 hn=>have b17:=Ql hn.at_.ms;nR 1 hn<|nA (m_f hn.at_) hn<|fun w18 hn=>nB (QPk s8.hl ((s8.u_wz ((s8.hl+1)%65536)).pair) ((s8.u_wz ((s8.hl+1)%65536)).f) (b10) (b15) (b17) _) hn<|fun w19 hn=>nE hn<|coR<|nR 2 hn<|nA (QHh (X0 s8.hl ((s8.u_wz ((s8.hl+1)%65536)).pair) false) (Wd16.mod _) hn.at_) hn<|fun w21 hn=>wT<|coZ<|nR 2 hn<|nA (Zh (QBv s8.hl ((s8.u_wz ((s8.hl+1)%65536)).pair) ((s8.u_wz ((s8.hl+1)%65536)).f)) (QEs _ _ _) hn.at_) hn<|fun w22 hn=>woE<|eoV (OutV.ok (dN hr) hn)
theorem QH0 (x:Int)(hAx:Wd16 x){s:Ms} {xs:List Int} {w:World} {p B:Nat}(h:AtN w p B s xs) :
 Calls Tryz.prog 301 #[pT p 0,.int .u16 (x)] w (fun e w'=>e=.returned (.tuple #[])∧NowN w p B (QDy s x) xs w'):=by
 have hn:=NowN.begin h
 go_enter Tryz.func301,Tryz.ntmps301
 exact JB<|have b1:=jD hn.at_.ms;coZ<|nR 2 hn<|nA (m_a hn.at_) hn<|fun w2 hn=>nR 1 hn<|kE (qK x (hAx).1 (hAx).2 _)<|nR 1 hn<|kE (J1 s.a (((x%256)+1)%256) (b1).1 (b1).2 (B8.mod _).1 (B8.mod _).2 _)<|nFs hn (.u_wz _ (256*s.a+(((x%256)+1)%256))) (hn.at_.ms.u_wz (Wd16.mk8 (b1) (B8.mod _)))<|fun w5 hn=>eoV (⟨rfl,hn⟩)
theorem QE2 (a:Int)(hAa:Wd16 a){s:Ms} {xs:List Int} {w:World} {p B:Nat}(h:AtN w p B s xs) :
 Calls Tryz.prog 285 #[pT p 0,.int .u16 (a)] w (OutV w p B ((jz a s).run xs)):=by
 have hn:=NowN.begin h
 have hr:(jz a s).run xs=(jz a s).run xs:=rfl
 go_enter Tryz.func285,Tryz.ntmps285
 exact JB<|have b2:=jD hn.at_.ms;coR<|nR 3 hn<|nA (m_a hn.at_) hn<|fun w3 hn=>nV (Ze a (hAa) s.a (b2) hn.at_) hn hr<|fun s4 xs4 w4 hn hr=>wT<|coZ<|nR 2 hn<|nA (QH0 a (hAa) hn.at_) hn<|fun w5 hn=>woE<|eoV (OutV.ok (dN hr) hn)
theorem QGx (a:Int)(hAa:Wd16 a){s:Ms} {xs:List Int} {w:World} {p B:Nat}(h:AtN w p B s xs) :
 Calls Tryz.prog 286 #[pT p 0,.int .u16 (a)] w (OutV w p B ((QAU a s).run xs)):=by
 have hn:=NowN.begin h
 have hr:(QAU a s).run xs=(QAU a s).run xs:=rfl
 go_enter Tryz.func286,Tryz.ntmps286
 exact JB<|coR<|nR 3 hn<|nI (qu a (hAa) hn.at_) hn hr<|fun v2 s2 xs2 w2 hk2 hn hr=>nA (QPU v2 (hk2) hn.at_) hn<|fun w3 hn=>wT<|coZ<|nFs hn (.u_wz _ ((a+1)%65536)) (hn.at_.ms.u_wz (Wd16.mod _))<|fun w4 hn=>eoV (OutV.ok (dN hr) hn)
theorem QCy (a:Int)(hAa:Wd16 a)(x:Int)(hAx:Wd16 x){s:Ms} {xs:List Int} {w:World} {p B:Nat}(h:AtN w p B s xs) :
 Calls Tryz.prog 266 #[pT p 0,.int .u16 (a),.int .u16 (x)] w (OutV w p B ((XW a x s).run xs)):=by
 have hn:=NowN.begin h
 have hr:(XW a x s).run xs=(XW a x s).run xs:=rfl
 go_enter Tryz.func266,Tryz.ntmps266
 exact JB<|coR<|nR 3 hn<|kE (qK x (hAx).1 (hAx).2 _)<|nV (Ze a (hAa) (x%256) ((hAx).lo8) hn.at_) hn hr<|fun s3 xs3 w3 hn hr=>wT<|coR<|nR 4 hn<|kE (qy x (hAx).1 (hAx).2 _)<|nV (Ze ((a+1)%65536) (Wd16.mod _) (x / 256) ((hAx).hi) hn.at_) hn hr<|fun s6 xs6 w6 hn hr=>wT<|coZ<|nFs hn (.u_wz _ ((a+1)%65536)) (hn.at_.ms.u_wz (Wd16.mod _))<|fun w7 hn=>eoV (OutV.ok (dN hr) hn)
theorem QFG (a:Int)(hAa:Wd16 a){s:Ms} {xs:List Int} {w:World} {p B:Nat}(h:AtN w p B s xs) :
 Calls Tryz.prog 268 #[pT p 0,.int .u16 (a)] w (OutI w p B .u16 ((Xu a s).run xs)):=by
 have hn:=NowN.begin h
 have hr:(Xu a s).run xs=(Xu a s).run xs:=rfl
 go_enter Tryz.func268,Tryz.ntmps268
 exact JB<|nQ hn<|coR<|nR 2 hn<|nI (QEC a (hAa) hn.at_) hn hr<|fun v3 s3 xs3 w3 hk3 hn hr=>nE hn<|nQs hn (.u_wz _ ((a+1)%65536)) (hn.at_.ms.u_wz (Wd16.mod _))<|fun w5 hn=>nQ hn<|JF<|Jj (.int .u16 (v3)) (OutI.ok (dN hr) (hk3) hn)
theorem QE0  {s:Ms} {xs:List Int} {w:World} {p B:Nat}(h:AtN w p B s xs) :
 Calls Tryz.prog 217 #[pT p 0] w (OutV w p B ((XX s).run xs)):=by
 have hn:=NowN.begin h
 have hr:(XX s).run xs=(XX s).run xs:=rfl
 go_enter Tryz.func217,Tryz.ntmps217
 refine JB<|nQ hn<|coB<|coS<|nQ hn<|coI (s.y==0) (fun h4=>?_) fun h4=>?_
 · have g4:s.y=0:=by simpa using h4
   exact have hr:=hr.trans (JK (.inl g4));JC<|eoT<|coJ (s.y==0) (fun h5=>absurd (h4.symm.trans h5) (by decide))<|fun h5=>have b6:=Xi hn.at_.ms;coZ<|nR 2 hn<|nA (qJ hn.at_) hn<|fun w7 hn=>nV (QE2 s.pair (b6) hn.at_) hn hr<|fun s8 xs8 w8 hn hr=>woE<|eoB<|eoV (OutV.ok (dN hr) hn)
 have g4:¬s.y=0:=by simpa using h4
 refine coZ<|nE hn<|coI (s.y==2) (fun h9=>?_) fun h9=>?_
 · have g9:s.y=2:=by simpa using h9
   exact have hr:=hr.trans (JK (.inr g9));have b10:=Xi hn.at_.ms;coZ<|nR 2 hn<|nA (qJ hn.at_) hn<|fun w11 hn=>nV (QE2 s.pair (b10) hn.at_) hn hr<|fun s12 xs12 w12 hn hr=>woE<|eoB<|eoV (OutV.ok (dN hr) hn)
 have g9:¬s.y=2:=by simpa using h9
 refine have hr:=hr.trans (JG (not_or.2 ⟨g4,g9⟩));coS<|nQ hn<|coI (s.y==1) (fun h15=>?_) fun h15=>?_
 · have g15:s.y=1:=by simpa using h15
   exact have hr:=hr.trans (JK (.inl g15));JC<|eoT<|coJ (s.y==1) (fun h16=>absurd (h15.symm.trans h16) (by decide))<|fun h16=>have b17:=Xi hn.at_.ms;coZ<|nR 2 hn<|nA (qJ hn.at_) hn<|fun w18 hn=>nV (QGx s.pair (b17) hn.at_) hn hr<|fun s19 xs19 w19 hn hr=>woE<|eoB<|eoV (OutV.ok (dN hr) hn)
 have g15:¬s.y=1:=by simpa using h15
 refine coZ<|nE hn<|coI (s.y==3) (fun h20=>?_) fun h20=>?_
 · have g20:s.y=3:=by simpa using h20
   exact have hr:=hr.trans (JK (.inr g20));have b21:=Xi hn.at_.ms;coZ<|nR 2 hn<|nA (qJ hn.at_) hn<|fun w22 hn=>nV (QGx s.pair (b21) hn.at_) hn hr<|fun s23 xs23 w23 hn hr=>woE<|eoB<|eoV (OutV.ok (dN hr) hn)
 have g20:¬s.y=3:=by simpa using h20
 refine have hr:=hr.trans (JG (not_or.2 ⟨g15,g20⟩));nQ hn<|nIf hr (fun g25 hr=>?_) fun g25 hr=>?_
 · exact coZ<|nR 2 hn<|nI (zo hn.at_) hn hr<|fun v26 s26 xs26 w26 hk26 hn hr=>have b27:=QAe hn.at_.ms;nR 1 hn<|nA (QL2 hn.at_) hn<|fun w28 hn=>nV (QCy v26 (hk26) s26.hl (b27) hn.at_) hn hr<|fun s29 xs29 w29 hn hr=>woE<|eoB<|eoV (OutV.ok (dN hr) hn)
 refine nQ hn<|nIf hr (fun g31 hr=>?_) fun g31 hr=>?_
 · exact coZ<|nR 3 hn<|nI (zo hn.at_) hn hr<|fun v32 s32 xs32 w32 hk32 hn hr=>nI (QFG v32 (hk32) hn.at_) hn hr<|fun v33 s33 xs33 w33 hk33 hn hr=>nA (QHh v33 (hk33) hn.at_) hn<|fun w34 hn=>woE<|eoB<|eoV (OutV.ok (dN hr) hn)
 refine nQ hn<|nIf hr (fun g36 hr=>?_) fun g36 hr=>?_
 · exact coZ<|nR 2 hn<|nI (zo hn.at_) hn hr<|fun v37 s37 xs37 w37 hk37 hn hr=>nV (QE2 v37 (hk37) hn.at_) hn hr<|fun s38 xs38 w38 hn hr=>woE<|eoB<|eoV (OutV.ok (dN hr) hn)
 refine nQ hn<|nIf hr (fun g40 hr=>?_) fun g40 hr=>?_
 · exact coZ<|nR 2 hn<|nI (zo hn.at_) hn hr<|fun v41 s41 xs41 w41 hk41 hn hr=>nV (QGx v41 (hk41) hn.at_) hn hr<|fun s42 xs42 w42 hn hr=>woE<|eoB<|eoV (OutV.ok (dN hr) hn)
 exact JC<|eoB<|eoV (OutV.ok (dN hr) hn)
theorem QKq  {s:Ms} {xs:List Int} {w:World} {p B:Nat}(h:AtN w p B s xs) :
 Calls Tryz.prog 218 #[pT p 0] w (OutV w p B ((jS s).run xs)):=by
 have hn:=NowN.begin h
 have hr:(jS s).run xs=(jS s).run xs:=rfl
 go_enter Tryz.func218,Tryz.ntmps218
 refine JB<|coR<|nR 1 hn<|nV (QK 2 hn.at_) hn hr<|fun s2 xs2 w2 hn hr=>wT<|nQ hn<|nIf hr (fun g4 hr=>?_) fun g4 hr=>?_
 · exact have b5:=Xi hn.at_.ms;coZ<|nR 2 hn<|nA (qJ hn.at_) hn<|fun w6 hn=>nR 1 hn<|nA (q8 ((s2.pair+1)%65536) (Wd16.mod _) hn.at_) hn<|fun w7 hn=>woE<|eoV (OutV.ok (dN hr) hn)
 exact have b8:=Xi hn.at_.ms;coZ<|nR 2 hn<|nA (qJ hn.at_) hn<|fun w9 hn=>nR 1 hn<|nA (q8 ((s2.pair-1)%65536) (Wd16.mod _) hn.at_) hn<|fun w10 hn=>woE<|eoV (OutV.ok (dN hr) hn)
theorem QI6  {s:Ms} {xs:List Int} {w:World} {p B:Nat}(h:AtN w p B s xs) :
 Calls Tryz.prog 219 #[pT p 0,.func (.func 220) #[] #[]] w (OutV w p B ((ZT false s).run xs)):=by
 have hn:=NowN.begin h
 have hr:(ZT false s).run xs=(ZT false s).run xs:=rfl
 go_enter Tryz.func219,Tryz.ntmps219
 refine JB<|coR<|nR 5 hn<|nI (QDT s.y hn.at_) hn hr<|fun v2 s2 xs2 w2 hk2 hn hr=>nE hn<|coS<|nQ hn<|QFn hr (fun g5 hr=>?_) fun g5 hr=>?_
 · exact coZ<|nR 1 hn<|nV (QK 1 hn.at_) hn hr<|fun s6 xs6 w6 hn hr=>wT<|have b8:=Ql hn.at_.ms;coR<|nR 3 hn<|nA (m_f hn.at_) hn<|fun w9 hn=>nB (QK7 v2 s6.f (hk2) (b8) _) hn<|fun w10 hn=>nE hn<|coR<|nR 2 hn<|nA (Zh (QDc v2 s6.f) (QAw _ _) hn.at_) hn<|fun w12 hn=>wT<|coZ<|nR 6 hn<|nVt (zx ((s6.setF (QDc v2 s6.f)).y) (XJ v2 1 false) (QO _ _ _) hn.at_) hn hr<|fun s13 xs13 w13 hn hr=>woE<|eoV (OutV.ok (dN hr) hn)
 exact JC<|eoT<|have b15:=Ql hn.at_.ms;coR<|nR 3 hn<|nA (m_f hn.at_) hn<|fun w16 hn=>nB (QK7 v2 s2.f (hk2) (b15) _) hn<|fun w17 hn=>nE hn<|coR<|nR 2 hn<|nA (Zh (QDc v2 s2.f) (QAw _ _) hn.at_) hn<|fun w19 hn=>wT<|coZ<|nR 6 hn<|nVt (zx ((s2.setF (QDc v2 s2.f)).y) (XJ v2 1 false) (QO _ _ _) hn.at_) hn hr<|fun s20 xs20 w20 hn hr=>woE<|eoV (OutV.ok (dN hr) hn)
theorem QIz  {s:Ms} {xs:List Int} {w:World} {p B:Nat}(h:AtN w p B s xs) :
 Calls Tryz.prog 219 #[pT p 0,.func (.func 221) #[] #[]] w (OutV w p B ((ZT true s).run xs)):=by
 have hn:=NowN.begin h
 have hr:(ZT true s).run xs=(ZT true s).run xs:=rfl
 go_enter Tryz.func219,Tryz.ntmps219
 refine JB<|coR<|nR 5 hn<|nI (QDT s.y hn.at_) hn hr<|fun v2 s2 xs2 w2 hk2 hn hr=>nE hn<|coS<|nQ hn<|QFn hr (fun g5 hr=>?_) fun g5 hr=>?_
 · exact coZ<|nR 1 hn<|nV (QK 1 hn.at_) hn hr<|fun s6 xs6 w6 hn hr=>wT<|have b8:=Ql hn.at_.ms;coR<|nR 3 hn<|nA (m_f hn.at_) hn<|fun w9 hn=>nB (QK4 v2 s6.f (hk2) (b8) _) hn<|fun w10 hn=>nE hn<|coR<|nR 2 hn<|nA (Zh (QDW v2 s6.f) (QA5 _ _) hn.at_) hn<|fun w12 hn=>wT<|coZ<|nR 6 hn<|nVt (zx ((s6.setF (QDW v2 s6.f)).y) (QQ v2 1 false) (J5 _ _ _) hn.at_) hn hr<|fun s13 xs13 w13 hn hr=>woE<|eoV (OutV.ok (dN hr) hn)
 exact JC<|eoT<|have b15:=Ql hn.at_.ms;coR<|nR 3 hn<|nA (m_f hn.at_) hn<|fun w16 hn=>nB (QK4 v2 s2.f (hk2) (b15) _) hn<|fun w17 hn=>nE hn<|coR<|nR 2 hn<|nA (Zh (QDW v2 s2.f) (QA5 _ _) hn.at_) hn<|fun w19 hn=>wT<|coZ<|nR 6 hn<|nVt (zx ((s2.setF (QDW v2 s2.f)).y) (QQ v2 1 false) (J5 _ _ _) hn.at_) hn hr<|fun s20 xs20 w20 hn hr=>woE<|eoV (OutV.ok (dN hr) hn)
theorem QHI  {s:Ms} {xs:List Int} {w:World} {p B:Nat}(h:AtN w p B s xs) :
 Calls Tryz.prog 222 #[pT p 0] w (OutV w p B ((Q8 s).run xs)):=by
 have hn:=NowN.begin h
 have hr:(Q8 s).run xs=(Q8 s).run xs:=rfl
 go_enter Tryz.func222,Tryz.ntmps222
 refine JB<|coR<|nR 1 hn<|nI (Z7 hn.at_) hn hr<|fun v2 s2 xs2 w2 hk2 hn hr=>nE hn<|coS<|nQ hn<|coI (s2.near) (fun h5=>?_) fun h5=>?_
 · have g5:s2.near=true:=by simpa using h5
   exact have hr:=hr.trans (qj g5);coZ<|nR 1 hn<|nV (QK 2 hn.at_) hn hr<|fun s6 xs6 w6 hn hr=>wT<|coZ<|nR 6 hn<|nVt (zx s6.y v2 (hk2) hn.at_) hn hr<|fun s7 xs7 w7 hn hr=>woE<|eoV (OutV.ok (dN hr) hn)
 have g5:¬s2.near=true:=by simpa using h5
 exact have hr:=hr.trans (qh g5);JC<|eoT<|coZ<|nR 6 hn<|nVt (zx s2.y v2 (hk2) hn.at_) hn hr<|fun s8 xs8 w8 hn hr=>woE<|eoV (OutV.ok (dN hr) hn)
theorem QNN  {s:Ms} {xs:List Int} {w:World} {p B:Nat}(h:AtN w p B s xs) :
 Calls Tryz.prog 223 #[pT p 0] w (fun e w'=>e=.returned (.tuple #[])∧NowN w p B (ZQ s) xs w'):=by
 have hn:=NowN.begin h
 go_enter Tryz.func223,Tryz.ntmps223
 refine JB<|have b2:=jD hn.at_.ms;coR<|nR 1 hn<|nA (m_a hn.at_) hn<|fun w3 hn=>have b4:=Ql hn.at_.ms;nR 1 hn<|nA (m_f hn.at_) hn<|fun w5 hn=>nE hn<|coS<|nQ hn<|coB<|nQ hn<|coI (s.y==4) (fun h9=>?_) fun h9=>?_
 · have g9:s.y=4:=by simpa using h9
   refine coZ<|nR 2 hn<|nB (QRI s.a s.f (b2) (b4) _ hn.at_.tabs.digits) hn<|fun w10 hn=>nF hn<|eoB<|eoT<|coZ<|nR 3 hn<|kE (J1 (Xj s.a s.f) (QDe s.a s.f) (jU _ _).1 (jU _ _).2 (QAk _ _).1 (QAk _ _).2 _)<|nFs hn (.u_af _ (256*(Xj s.a s.f)+(QDe s.a s.f))) (hn.at_.ms.u_af (Wd16.mk8 (jU _ _) (QAk _ _)))<|fun w12 hn=>eoV ?_
   have e:ZQ s=s.u_af (256*(Xj s.a s.f)+(QDe s.a s.f)):=by
    unfold ZQ
    repeat (first|rw[if_pos (by assumption)]|rw[if_neg (by assumption)])
    rfl
   exact⟨rfl,e▸hn⟩
 have g9:¬s.y=4:=by simpa using h9
 refine nQ hn<|coI (s.y==5) (fun h14=>?_) fun h14=>?_
 · have g14:s.y=5:=by simpa using h14
   refine coZ<|nR 2 hn<|kE (QQ3 s.a s.f (b2) (b4) _)<|nF hn<|eoB<|eoT<|coZ<|nR 3 hn<|kE (J1 (255-s.a) (QED s.a s.f) (B8.not (b2)).1 (B8.not (b2)).2 (Qb _ _ _ _ _).1 (Qb _ _ _ _ _).2 _)<|nFs hn (.u_af _ (256*(255-s.a)+(QED s.a s.f))) (hn.at_.ms.u_af (Wd16.mk8 (B8.not (b2)) (Qb _ _ _ _ _)))<|fun w17 hn=>eoV ?_
   have e:ZQ s=s.u_af (256*(255-s.a)+(QED s.a s.f)):=by
    unfold ZQ
    repeat (first|rw[if_pos (by assumption)]|rw[if_neg (by assumption)])
    rfl
   exact⟨rfl,e▸hn⟩
 have g14:¬s.y=5:=by simpa using h14
 refine nQ hn<|coI (s.y==6) (fun h19=>?_) fun h19=>?_
 · have g19:s.y=6:=by simpa using h19
   refine coZ<|nR 2 hn<|kE (QLa s.a s.f (b2) (b4) _)<|nF hn<|eoB<|eoT<|coZ<|nR 3 hn<|kE (J1 s.a (QCt s.a s.f) (b2).1 (b2).2 (Qb _ _ _ _ _).1 (Qb _ _ _ _ _).2 _)<|nFs hn (.u_af _ (256*s.a+(QCt s.a s.f))) (hn.at_.ms.u_af (Wd16.mk8 (b2) (Qb _ _ _ _ _)))<|fun w22 hn=>eoV ?_
   have e:ZQ s=s.u_af (256*s.a+(QCt s.a s.f)):=by
    unfold ZQ
    repeat (first|rw[if_pos (by assumption)]|rw[if_neg (by assumption)])
    rfl
   exact⟨rfl,e▸hn⟩
 have g19:¬s.y=6:=by simpa using h19
 refine nQ hn<|coI (s.y==7) (fun h24=>?_) fun h24=>?_
 · have g24:s.y=7:=by simpa using h24
   refine coZ<|nR 2 hn<|kE (QPm s.a s.f (b2) (b4) _)<|nF hn<|eoB<|eoT<|coZ<|nR 3 hn<|kE (J1 s.a (QCZ s.a s.f) (b2).1 (b2).2 (Qb _ _ _ _ _).1 (Qb _ _ _ _ _).2 _)<|nFs hn (.u_af _ (256*s.a+(QCZ s.a s.f))) (hn.at_.ms.u_af (Wd16.mk8 (b2) (Qb _ _ _ _ _)))<|fun w27 hn=>eoV ?_
   have e:ZQ s=s.u_af (256*s.a+(QCZ s.a s.f)):=by
    unfold ZQ
    repeat (first|rw[if_pos (by assumption)]|rw[if_neg (by assumption)])
    rfl
   exact⟨rfl,e▸hn⟩
 have g24:¬s.y=7:=by simpa using h24
 refine coZ<|nR 6 hn<|nB (QRB s.y s.a s.f (b2) (b4) _ hn.at_.tabs.courses) hn<|fun w28 hn=>nF hn<|eoB<|eoT<|coZ<|nR 3 hn<|kE (J1 (QBW s.y s.a s.f) (QBa s.y s.a s.f) (QAm _ _ _ (b2)).1 (QAm _ _ _ (b2)).2 (QAz _ _ _ (b4)).1 (QAz _ _ _ (b4)).2 _)<|nFs hn (.u_af _ (256*(QBW s.y s.a s.f)+(QBa s.y s.a s.f))) (hn.at_.ms.u_af (Wd16.mk8 (QAm _ _ _ (b2)) (QAz _ _ _ (b4))))<|fun w30 hn=>eoV ?_
 have e:ZQ s=s.u_af (256*(QBW s.y s.a s.f)+(QBa s.y s.a s.f)):=by
  unfold ZQ
  repeat (first|rw[if_pos (by assumption)]|rw[if_neg (by assumption)])
  rfl
 exact⟨rfl,e▸hn⟩
theorem QBh (b:Int)(hAb:B8 b){s:Ms} {xs:List Int} {w:World} {p B:Nat}(h:AtN w p B s xs) :
 Calls Tryz.prog 226 #[pT p 0,.int .u8 (b)] w (fun e w'=>e=.returned (.tuple #[])∧NowN w p B (Qz b s) xs w'):=by
 have hn:=NowN.begin h
 go_enter Tryz.func226,Tryz.ntmps226
 refine JB<|have b2:=jD hn.at_.ms;coR<|nR 1 hn<|nA (m_a hn.at_) hn<|fun w3 hn=>have b4:=Ql hn.at_.ms;nR 1 hn<|nA (m_f hn.at_) hn<|fun w5 hn=>nE hn<|coR<|nR 1 hn<|nA (QGy hn.at_) hn<|fun w7 hn=>nE hn<|coS<|nQ hn<|coB<|nQ hn<|coI (s.y==0) (fun h11=>?_) fun h11=>?_
 · have g11:s.y=0:=by simpa using h11
   refine coZ<|nR 2 hn<|nB (QAi s.a b false (b2) (hAb) _) hn<|fun w12 hn=>nF hn<|eoB<|eoT<|coZ<|nR 3 hn<|kE (J1 (XJ s.a b false) (XI s.a b false) (QO _ _ _).1 (QO _ _ _).2 (Qw _ _ _).1 (Qw _ _ _).2 _)<|nFs hn (.u_af _ (256*(XJ s.a b false)+(XI s.a b false))) (hn.at_.ms.u_af (Wd16.mk8 (QO _ _ _) (Qw _ _ _)))<|fun w14 hn=>eoV ?_
   have e:Qz b s=s.u_af (256*(XJ s.a b false)+(XI s.a b false)):=by
    unfold Qz
    repeat (first|rw[if_pos (by assumption)]|rw[if_neg (by assumption)])
    rfl
   exact⟨rfl,e▸hn⟩
 have g11:¬s.y=0:=by simpa using h11
 refine nQ hn<|coI (s.y==1) (fun h16=>?_) fun h16=>?_
 · have g16:s.y=1:=by simpa using h16
   refine coZ<|nR 3 hn<|nB (QAi s.a b (s.carry != 0) (b2) (hAb) _) hn<|fun w17 hn=>nF hn<|eoB<|eoT<|coZ<|nR 3 hn<|kE (J1 (XJ s.a b (s.carry != 0)) (XI s.a b (s.carry != 0)) (QO _ _ _).1 (QO _ _ _).2 (Qw _ _ _).1 (Qw _ _ _).2 _)<|nFs hn (.u_af _ (256*(XJ s.a b (s.carry != 0))+(XI s.a b (s.carry != 0)))) (hn.at_.ms.u_af (Wd16.mk8 (QO _ _ _) (Qw _ _ _)))<|fun w19 hn=>eoV ?_
   have e:Qz b s=s.u_af (256*(XJ s.a b (s.carry != 0))+(XI s.a b (s.carry != 0))):=by
    unfold Qz
    repeat (first|rw[if_pos (by assumption)]|rw[if_neg (by assumption)])
    rfl
   exact⟨rfl,e▸hn⟩
 have g16:¬s.y=1:=by simpa using h16
 refine nQ hn<|coI (s.y==2) (fun h21=>?_) fun h21=>?_
 · have g21:s.y=2:=by simpa using h21
   refine coZ<|nR 2 hn<|nB (qn s.a b false (b2) (hAb) _) hn<|fun w22 hn=>nF hn<|eoB<|eoT<|coZ<|nR 3 hn<|kE (J1 (QQ s.a b false) (QE s.a b false) (J5 _ _ _).1 (J5 _ _ _).2 (J9 _ _ _).1 (J9 _ _ _).2 _)<|nFs hn (.u_af _ (256*(QQ s.a b false)+(QE s.a b false))) (hn.at_.ms.u_af (Wd16.mk8 (J5 _ _ _) (J9 _ _ _)))<|fun w24 hn=>eoV ?_
   have e:Qz b s=s.u_af (256*(QQ s.a b false)+(QE s.a b false)):=by
    unfold Qz
    repeat (first|rw[if_pos (by assumption)]|rw[if_neg (by assumption)])
    rfl
   exact⟨rfl,e▸hn⟩
 have g21:¬s.y=2:=by simpa using h21
 refine nQ hn<|coI (s.y==3) (fun h26=>?_) fun h26=>?_
 · have g26:s.y=3:=by simpa using h26
   refine coZ<|nR 3 hn<|nB (qn s.a b (s.carry != 0) (b2) (hAb) _) hn<|fun w27 hn=>nF hn<|eoB<|eoT<|coZ<|nR 3 hn<|kE (J1 (QQ s.a b (s.carry != 0)) (QE s.a b (s.carry != 0)) (J5 _ _ _).1 (J5 _ _ _).2 (J9 _ _ _).1 (J9 _ _ _).2 _)<|nFs hn (.u_af _ (256*(QQ s.a b (s.carry != 0))+(QE s.a b (s.carry != 0)))) (hn.at_.ms.u_af (Wd16.mk8 (J5 _ _ _) (J9 _ _ _)))<|fun w29 hn=>eoV ?_
   have e:Qz b s=s.u_af (256*(QQ s.a b (s.carry != 0))+(QE s.a b (s.carry != 0))):=by
    unfold Qz
    repeat (first|rw[if_pos (by assumption)]|rw[if_neg (by assumption)])
    rfl
   exact⟨rfl,e▸hn⟩
 have g26:¬s.y=3:=by simpa using h26
 refine nQ hn<|coI (s.y==4) (fun h31=>?_) fun h31=>?_
 · have g31:s.y=4:=by simpa using h31
   refine coZ<|nR 2 hn<|nB (QQL s.a b (b2) (hAb) _) hn<|fun w32 hn=>nF hn<|eoB<|eoT<|coZ<|nR 3 hn<|kE (J1 (qX s.a b) (qO (qX s.a b)) (J3 _ _ _).1 (J3 _ _ _).2 (zi _).1 (zi _).2 _)<|nFs hn (.u_af _ (256*(qX s.a b)+(qO (qX s.a b)))) (hn.at_.ms.u_af (Wd16.mk8 (J3 _ _ _) (zi _)))<|fun w34 hn=>eoV ?_
   have e:Qz b s=s.u_af (256*(qX s.a b)+(qO (qX s.a b))):=by
    unfold Qz
    repeat (first|rw[if_pos (by assumption)]|rw[if_neg (by assumption)])
    rfl
   exact⟨rfl,e▸hn⟩
 have g31:¬s.y=4:=by simpa using h31
 refine nQ hn<|coI (s.y==5) (fun h36=>?_) fun h36=>?_
 · have g36:s.y=5:=by simpa using h36
   refine coZ<|nR 2 hn<|nB (QQB s.a b (b2) (hAb) _) hn<|fun w37 hn=>nF hn<|eoB<|eoT<|coZ<|nR 3 hn<|kE (J1 (Zf s.a b) (Jn (Zf s.a b)) (J3 _ _ _).1 (J3 _ _ _).2 (Jz _).1 (Jz _).2 _)<|nFs hn (.u_af _ (256*(Zf s.a b)+(Jn (Zf s.a b)))) (hn.at_.ms.u_af (Wd16.mk8 (J3 _ _ _) (Jz _)))<|fun w39 hn=>eoV ?_
   have e:Qz b s=s.u_af (256*(Zf s.a b)+(Jn (Zf s.a b))):=by
    unfold Qz
    repeat (first|rw[if_pos (by assumption)]|rw[if_neg (by assumption)])
    rfl
   exact⟨rfl,e▸hn⟩
 have g36:¬s.y=5:=by simpa using h36
 refine nQ hn<|coI (s.y==6) (fun h41=>?_) fun h41=>?_
 · have g41:s.y=6:=by simpa using h41
   refine coZ<|nR 2 hn<|nB (QSU s.a b (b2) (hAb) _) hn<|fun w42 hn=>nF hn<|eoB<|eoT<|coZ<|nR 3 hn<|kE (J1 (orR s.a b) (Jn (orR s.a b)) (J3 _ _ _).1 (J3 _ _ _).2 (Jz _).1 (Jz _).2 _)<|nFs hn (.u_af _ (256*(orR s.a b)+(Jn (orR s.a b)))) (hn.at_.ms.u_af (Wd16.mk8 (J3 _ _ _) (Jz _)))<|fun w44 hn=>eoV ?_
   have e:Qz b s=s.u_af (256*(orR s.a b)+(Jn (orR s.a b))):=by
    unfold Qz
    repeat (first|rw[if_pos (by assumption)]|rw[if_neg (by assumption)])
    rfl
   exact⟨rfl,e▸hn⟩
 have g41:¬s.y=6:=by simpa using h41
 refine nQ hn<|coI (s.y==7) (fun h46=>?_) fun h46=>?_
 · have g46:s.y=7:=by simpa using h46
   refine coZ<|nR 2 hn<|nB (QQP s.a b (b2) (hAb) _) hn<|fun w47 hn=>nF hn<|eoB<|eoT<|coZ<|nR 3 hn<|kE (J1 s.a (QDa s.a b) (b2).1 (b2).2 (QBC _ _).1 (QBC _ _).2 _)<|nFs hn (.u_af _ (256*s.a+(QDa s.a b))) (hn.at_.ms.u_af (Wd16.mk8 (b2) (QBC _ _)))<|fun w49 hn=>eoV ?_
   have e:Qz b s=s.u_af (256*s.a+(QDa s.a b)):=by
    unfold Qz
    repeat (first|rw[if_pos (by assumption)]|rw[if_neg (by assumption)])
    rfl
   exact⟨rfl,e▸hn⟩
 have g46:¬s.y=7:=by simpa using h46
 refine JC<|eoB<|eoT<|coZ<|nR 3 hn<|kE (J1 s.a s.f (b2).1 (b2).2 (b4).1 (b4).2 _)<|nFs hn (.u_af _ (256*s.a+s.f)) (hn.at_.ms.u_af (Wd16.mk8 (b2) (b4)))<|fun w51 hn=>eoV ?_
 have e:Qz b s=s.u_af (256*s.a+s.f):=by
  unfold Qz
  repeat (first|rw[if_pos (by assumption)]|rw[if_neg (by assumption)])
  rfl
 exact⟨rfl,e▸hn⟩
theorem QM4  {s:Ms} {xs:List Int} {w:World} {p B:Nat}(h:AtN w p B s xs) :
 Calls Tryz.prog 136 #[pT p 0] w (OutV w p B ((ZV s).run xs)):=by
 have hn:=NowN.begin h
 have hr:(ZV s).run xs=(ZV s).run xs:=rfl
 go_enter Tryz.func136,Tryz.ntmps136
 refine JB<|nQ hn<|coB<|nQ hn<|nIf hr (fun g3 hr=>?_) fun g3 hr=>?_
 · exact coZ<|nR 1 hn<|nVt (QNj hn.at_) hn hr<|fun s4 xs4 w4 hn hr=>woE<|eoB<|eoV (OutV.ok (dN hr) hn)
 refine nQ hn<|nIf hr (fun g6 hr=>?_) fun g6 hr=>?_
 · exact coZ<|nR 1 hn<|nVt (QIx hn.at_) hn hr<|fun s7 xs7 w7 hn hr=>woE<|eoB<|eoV (OutV.ok (dN hr) hn)
 refine nQ hn<|nIf hr (fun g9 hr=>?_) fun g9 hr=>?_
 · exact coZ<|nR 1 hn<|nVt (QE0 hn.at_) hn hr<|fun s10 xs10 w10 hn hr=>woE<|eoB<|eoV (OutV.ok (dN hr) hn)
 refine nQ hn<|nIf hr (fun g12 hr=>?_) fun g12 hr=>?_
 · exact coZ<|nR 1 hn<|nVt (QKq hn.at_) hn hr<|fun s13 xs13 w13 hn hr=>woE<|eoB<|eoV (OutV.ok (dN hr) hn)
 refine nQ hn<|nIf hr (fun g15 hr=>?_) fun g15 hr=>?_
 · exact coZ<|nR 1 hn<|nVt (QI6 hn.at_) hn hr<|fun s16 xs16 w16 hn hr=>woE<|eoB<|eoV (OutV.ok (dN hr) hn)
 refine nQ hn<|nIf hr (fun g18 hr=>?_) fun g18 hr=>?_
 · exact coZ<|nR 1 hn<|nVt (QIz hn.at_) hn hr<|fun s19 xs19 w19 hn hr=>woE<|eoB<|eoV (OutV.ok (dN hr) hn)
 refine nQ hn<|nIf hr (fun g21 hr=>?_) fun g21 hr=>?_
 · exact coZ<|nR 1 hn<|nVt (QHI hn.at_) hn hr<|fun s22 xs22 w22 hn hr=>woE<|eoB<|eoV (OutV.ok (dN hr) hn)
 refine nQ hn<|nIf hr (fun g24 hr=>?_) fun g24 hr=>?_
 · exact coZ<|nR 1 hn<|nA (QNN hn.at_) hn<|fun w25 hn=>woE<|eoB<|eoV (OutV.ok (dN hr) hn)
 exact JC<|eoB<|eoV (OutV.ok (dN hr) hn)
theorem QSP  {s:Ms} {xs:List Int} {w:World} {p B:Nat}(h:AtN w p B s xs) :
 Calls Tryz.prog 137 #[pT p 0] w (OutV w p B ((zM s).run xs)):=by
 have hn:=NowN.begin h
 have hr:(zM s).run xs=(zM s).run xs:=rfl
 go_enter Tryz.func137,Tryz.ntmps137
 refine JB<|coS<|coR<|nR 6 hn ?_
 rcases Bool.eq_false_or_eq_true (s.y==6) with h3|h3
 · have g3:s.y=6:=by simpa using h3
   refine tell 7 h3<|nE hn<|coI (s.z==6) (fun h4=>?_) fun h4=>?_
   · have g4:s.z=6:=by simpa using h4
     exact have hr:=hr.trans (JK (by simp[g4,g3]));nQs hn (.u_halted _ (true)) (hn.at_.ms.u_halted)<|fun w6 hn=>JF<|Jp<|qx (OutV.ok (dN hr) hn)
   have g4:¬s.z=6:=by simpa using h4
   exact have hr:=hr.trans (JG (by simp[g4,g3]));JC<|eoT<|nPz 11 hn<|fun w7 hn=>nD [0,1,2,3,4,5,6,7,8,9] hn<|nDi 10 QCk (QDT s.z hn.at_) hn hr<|fun v8 xs8 w8 hk8 hn hr=>poE<|nVt (zx s.y v8 (hk8) hn.at_) hn hr<|fun s9 xs9 w9 hn hr=>woE<|eoV (OutV.ok (dN hr) hn)
 have g3:¬s.y=6:=by simpa using h3
 exact tell 7 h3<|nE hn<|coF<|have hr:=hr.trans (JG (by simp[g3]));JC<|eoT<|nPz 11 hn<|fun w10 hn=>nD [0,1,2,3,4,5,6,7,8,9] hn<|nDi 10 QCk (QDT s.z hn.at_) hn hr<|fun v11 xs11 w11 hk11 hn hr=>poE<|nVt (zx s.y v11 (hk11) hn.at_) hn hr<|fun s12 xs12 w12 hn hr=>woE<|eoV (OutV.ok (dN hr) hn)
theorem QNy  {s:Ms} {xs:List Int} {w:World} {p B:Nat}(h:AtN w p B s xs) :
 Calls Tryz.prog 138 #[pT p 0] w (OutV w p B ((jE s).run xs)):=by
 have hn:=NowN.begin h
 have hr:(jE s).run xs=(jE s).run xs:=rfl
 go_enter Tryz.func138,Tryz.ntmps138
 exact JB<|coZ<|nR 6 hn<|nI (QDT s.z hn.at_) hn hr<|fun v1 s1 xs1 w1 hk1 hn hr=>nA (QBh v1 (hk1) hn.at_) hn<|fun w2 hn=>woE<|eoV (OutV.ok (dN hr) hn)
theorem QNE  {s:Ms} {xs:List Int} {w:World} {p B:Nat}(h:AtN w p B s xs) :
 Calls Tryz.prog 228 #[pT p 0] w (OutV w p B ((QD0 s).run xs)):=by
 have hn:=NowN.begin h
 have hr:(QD0 s).run xs=(QD0 s).run xs:=rfl
 go_enter Tryz.func228,Tryz.ntmps228
 refine JB<|coB<|coR<|nR 6 hn ?_
 rcases Bool.eq_false_or_eq_true (s.q==0) with h2|h2
 · have g2:s.q=0:=by simpa using h2
   refine tell 8 h2<|nE hn<|coI (s.p==3) (fun h3=>?_) fun h3=>?_
   · have g3:s.p=3:=by simpa using h3
     first|(have hr:=hr.trans (JK g3);have hr:=hr.trans (JK g2))|(have hr:=hr.trans (JK g2);have hr:=hr.trans (JK g3))
     exact coZ<|nR 2 hn<|nI (QJZ hn.at_) hn hr<|fun v4 s4 xs4 w4 hk4 hn hr=>nFs hn (.u_af _ (v4)) (hn.at_.ms.u_af (hk4))<|fun w5 hn=>eoB<|eoV (OutV.ok (dN hr) hn)
   have g3:¬s.p=3:=by simpa using h3
   first|(have hr:=hr.trans (JK g2);have hr:=hr.trans (JG g3))|(have hr:=hr.trans (JG g3);have hr:=hr.trans (JK g2))
   exact nQ hn<|coJ (s.q==0) (fun h7=>absurd (h2.symm.trans h7) (by decide))<|fun h7=>coZ<|nR 2 hn<|nI (QJZ hn.at_) hn hr<|fun v8 s8 xs8 w8 hk8 hn hr=>nA (q8 v8 (hk8) hn.at_) hn<|fun w9 hn=>woE<|eoB<|eoV (OutV.ok (dN hr) hn)
 have g2:¬s.q=0:=by simpa using h2
 refine tell 8 h2<|nE hn<|coF<|have hr:=hr.trans (JG g2);nQ hn<|coK (s.q==0) (fun h11=>absurd (h2.symm.trans h11) (by decide))<|fun h11=>nQ hn<|nIf hr (fun g13 hr=>?_) fun g13 hr=>?_
 · exact coZ<|nR 2 hn<|nI (QJZ hn.at_) hn hr<|fun v14 s14 xs14 w14 hk14 hn hr=>nA (QCo v14 (hk14) hn.at_) hn<|fun w15 hn=>woE<|eoB<|eoV (OutV.ok (dN hr) hn)
 refine nQ hn<|nIf hr (fun g17 hr=>?_) fun g17 hr=>?_
 · exact have b18:=hn.at_.ms.r;coZ<|nR 5 hn<|nB (QQK s.r _) hn<|fun w19 hn=>nFs hn _ (hn.at_.ms.u_rg ((b18).exx))<|fun w20 hn=>eoB<|eoV (OutV.ok (dN hr) hn)
 refine nQ hn<|nIf hr (fun g22 hr=>?_) fun g22 hr=>?_
 · exact have b23:=QAe hn.at_.ms;coZ<|nR 2 hn<|nA (QL2 hn.at_) hn<|fun w24 hn=>nFs hn (.u_pc _ (s.hl)) (hn.at_.ms.u_pc (b23))<|fun w25 hn=>eoB<|eoV (OutV.ok (dN hr) hn)
 refine nQ hn<|nIf hr (fun g27 hr=>?_) fun g27 hr=>?_
 · exact coR<|nR 1 hn<|nV (QK 2 hn.at_) hn hr<|fun s29 xs29 w29 hn hr=>wT<|have b30:=QAe hn.at_.ms;coZ<|nR 2 hn<|nA (QL2 hn.at_) hn<|fun w31 hn=>nFs hn (.u_sp _ (s29.hl)) (hn.at_.ms.u_sp (b30))<|fun w32 hn=>eoB<|eoV (OutV.ok (dN hr) hn)
 exact JC<|eoB<|eoV (OutV.ok (dN hr) hn)
theorem QPZ (o:Bool){s:Ms} {xs:List Int} {w:World} {p B:Nat}(h:AtN w p B s xs) :
 Calls Tryz.prog 231 #[pT p 0,.bool (o)] w (OutV w p B ((QBn o s).run xs)):=by
 have hn:=NowN.begin h
 have hr:(QBn o s).run xs=(QBn o s).run xs:=rfl
 go_enter Tryz.func231,Tryz.ntmps231
 refine JB<|coR<|nR 2 hn<|nI (zo hn.at_) hn hr<|fun v2 s2 xs2 w2 hk2 hn hr=>nEs hn (.u_wz _ (v2)) (hn.at_.ms.u_wz (hk2))<|fun w3 hn=>coS<|nQ hn<|coI (!(o)) (fun h6=>?_) fun h6=>?_
 · have g6:¬o=true:=by simpa using h6
   exact have hr:=hr.trans (JG g6);JF<|Jp<|qx (OutV.ok (dN hr) hn)
 have g6:o=true:=by simpa using h6
 exact have hr:=hr.trans (JK g6);JC<|eoT<|coR<|nR 1 hn<|nV (QK 1 hn.at_) hn hr<|fun s8 xs8 w8 hn hr=>wT<|have b10:=hn.at_.ms.r.pc;coR<|nR 6 hn<|nV (QHo s8.r.pc (b10) hn.at_) hn hr<|fun s11 xs11 w11 hn hr=>wT<|have b12:=hn.at_.ms.r.wz;coZ<|nFs hn (.u_pc _ (s11.r.wz)) (hn.at_.ms.u_pc (b12))<|fun w13 hn=>eoV (OutV.ok (dN hr) hn)
theorem QRL  {s:Ms} {xs:List Int} {w:World} {p B:Nat}(h:AtN w p B s xs) :
 Calls Tryz.prog 232 #[pT p 0] w (OutV w p B ((j4 s).run xs)):=by
 have hn:=NowN.begin h
 have hr:(j4 s).run xs=(j4 s).run xs:=rfl
 go_enter Tryz.func232,Tryz.ntmps232
 refine JB<|coS<|nQ hn<|coI (s.q != 0) (fun h3=>?_) fun h3=>?_
 · have g3:¬s.q=0:=by simpa using h3
   exact have hr:=hr.trans (JG g3);coR<|nR 1 hn<|nV (QPZ true hn.at_) hn hr<|fun s5 xs5 w5 hn hr=>wT<|JF<|Jp<|qx (OutV.ok (dN hr) hn)
 have g3:s.q=0:=by simpa using h3
 refine have hr:=hr.trans (JK g3);JC<|eoT<|coR<|nR 1 hn<|nV (QK 1 hn.at_) hn hr<|fun s7 xs7 w7 hn hr=>wT<|nQ hn<|nIf hr (fun g9 hr=>?_) fun g9 hr=>?_
 · exact have b10:=hn.at_.ms.r.af;coZ<|nR 6 hn<|nV (QHo s7.r.af (b10) hn.at_) hn hr<|fun s11 xs11 w11 hn hr=>woE<|eoV (OutV.ok (dN hr) hn)
 exact have b12:=Xi hn.at_.ms;coZ<|nR 2 hn<|nA (qJ hn.at_) hn<|fun w13 hn=>nV (QHo s7.pair (b12) hn.at_) hn hr<|fun s14 xs14 w14 hn hr=>woE<|eoV (OutV.ok (dN hr) hn)
theorem QFe  {s:Ms} {xs:List Int} {w:World} {p B:Nat}(h:AtN w p B s xs) :
 Calls Tryz.prog 303 #[pT p 0] w (OutV w p B ((Xl s).run xs)):=by
 have hn:=NowN.begin h
 have hr:(Xl s).run xs=(Xl s).run xs:=rfl
 go_enter Tryz.func303,Tryz.ntmps303
 exact JB<|have b2:=hn.at_.ms.r.sp;coR<|nR 6 hn<|nI (QEC s.r.sp (b2) hn.at_) hn hr<|fun v3 s3 xs3 w3 hk3 hn hr=>have b4:=QAe hn.at_.ms;nR 1 hn<|nA (QL2 hn.at_) hn<|fun w5 hn=>nE hn<|coR<|nR 1 hn<|nV (QK 1 hn.at_) hn hr<|fun s7 xs7 w7 hn hr=>wT<|nP 9 hn<|fun w9 hn=>have b10:=hn.at_.ms.r.sp;nD [0,1,2,3,4,5,6,7] hn<|nDe 8 (qy s3.hl (b4).1 (b4).2 _) hn<|poE<|nV (Ze ((s7.r.sp+1)%65536) (Wd16.mod _) (s3.hl / 256) ((b4).hi) hn.at_) hn hr<|fun s12 xs12 w12 hn hr=>wT<|nP 8 hn<|fun w14 hn=>have b15:=hn.at_.ms.r.sp;nD [0,1,2,3,4,5,6] hn<|nDe 7 (qK s3.hl (b4).1 (b4).2 _) hn<|poE<|nV (Ze s12.r.sp (b15) (s3.hl%256) ((b4).lo8) hn.at_) hn hr<|fun s17 xs17 w17 hn hr=>wT<|coR<|nR 1 hn<|nV (QK 2 hn.at_) hn hr<|fun s19 xs19 w19 hn hr=>wT<|coR<|nR 2 hn<|nA (QHh v3 (hk3) hn.at_) hn<|fun w21 hn=>wT<|coZ<|nFs hn (.u_wz _ (v3)) (hn.at_.ms.u_wz (hk3))<|fun w22 hn=>eoV (OutV.ok (dN hr) hn)
theorem QNe  {s:Ms} {xs:List Int} {w:World} {p B:Nat}(h:AtN w p B s xs) :
 Calls Tryz.prog 230 #[pT p 0] w (OutV w p B ((zk s).run xs)):=by
 have hn:=NowN.begin h
 have hr:(zk s).run xs=(zk s).run xs:=rfl
 go_enter Tryz.func230,Tryz.ntmps230
 refine wp_seq_k fun K1 hK1=>JD<|oM 4 (pT p 0)<|oN 5 p 0<|oF 6 (fM4 p)<|oL 7 (ldI (hn.at_.cell 23 (.int .i64 (s.y)) fun _ _ _=>rfl)) ?_
 refine JS ?_
 try simp only[Act.put,sA,sB,sC]
 refine JM<|hK1 _ _ ?_
 refine wp_block ?_
 refine wp_seq_k fun K2 hK2=>JD<|oB 9 (egI _ _ _ _ _) (ZP s.y 0)<|oA 8 (.bool (s.y==0)) ?_
 refine JS ?_
 try simp only[Act.put,sA,sB,sC]
 refine JM<|hK2 _ _ ?_
 refine wp_cond_split (t:=s.y==0) (by kernel_rfl) (fun h3=>?_) (fun h3=>?_)
 · have g3:s.y=0:=by simpa using h3
   have hr:=hr.trans (JK g3)
   exact JB<|coZ<|nR 2 hn<|nI (zo hn.at_) hn hr<|fun v4 s4 xs4 w4 hk4 hn hr=>nA (QCo v4 (hk4) hn.at_) hn<|fun w5 hn=>woE<|eoB<|eoV (OutV.ok (dN hr) hn)
 · have g3:¬s.y=0:=by simpa using h3
   have hr:=hr.trans (JG g3)
   refine wp_seq_k fun K6 hK6=>JD<|oB 15 (egI _ _ _ _ _) (ZP s.y 2)<|oA 14 (.bool (s.y==2)) ?_
   refine JS ?_
   try simp only[Act.put,sA,sB,sC]
   refine JM<|hK6 _ _ ?_
   refine wp_cond_split (t:=s.y==2) (by kernel_rfl) (fun h7=>?_) (fun h7=>?_)
   · have g7:s.y=2:=by simpa using h7
     have hr:=hr.trans (JK g7)
     exact JB<|have b9:=jD hn.at_.ms;coR<|nR 1 hn<|nA (m_a hn.at_) hn<|fun w10 hn=>nR 1 hn<|nI (Z7 hn.at_) hn hr<|fun v11 s11 xs11 w11 hk11 hn hr=>kE (J1 s.a v11 (b9).1 (b9).2 (hk11).1 (hk11).2 _)<|nE hn<|have b14:=jD hn.at_.ms;coR<|nR 3 hn<|nA (m_a hn.at_) hn<|fun w15 hn=>nV (QLE (256*s.a+v11) (Wd16.mk8 (b9) (hk11)) s11.a (b14) hn.at_) hn hr<|fun s16 xs16 w16 hn hr=>wT<|coZ<|nR 2 hn<|nA (QH0 (256*s.a+v11) (Wd16.mk8 (b9) (hk11)) hn.at_) hn<|fun w17 hn=>woE<|eoB<|eoV (OutV.ok (dN hr) hn)
   · have g7:¬s.y=2:=by simpa using h7
     have hr:=hr.trans (JG g7)
     refine wp_seq_k fun K18 hK18=>JD<|oB 30 (egI _ _ _ _ _) (ZP s.y 3)<|oA 29 (.bool (s.y==3)) ?_
     refine JS ?_
     try simp only[Act.put,sA,sB,sC]
     refine JM<|hK18 _ _ ?_
     refine wp_cond_split (t:=s.y==3) (by kernel_rfl) (fun h19=>?_) (fun h19=>?_)
     · have g19:s.y=3:=by simpa using h19
       have hr:=hr.trans (JK g19)
       exact JB<|have b21:=jD hn.at_.ms;coR<|nR 1 hn<|nA (m_a hn.at_) hn<|fun w22 hn=>nR 1 hn<|nI (Z7 hn.at_) hn hr<|fun v23 s23 xs23 w23 hk23 hn hr=>kE (J1 s.a v23 (b21).1 (b21).2 (hk23).1 (hk23).2 _)<|nE hn<|coR<|nR 3 hn<|nI (QR7 (256*s.a+v23) (Wd16.mk8 (b21) (hk23)) hn.at_) hn hr<|fun v26 s26 xs26 w26 hk26 hn hr=>nA (QPU v26 (hk26) hn.at_) hn<|fun w27 hn=>wT<|coZ<|nFs hn (.u_wz _ (((256*s.a+v23)+1)%65536)) (hn.at_.ms.u_wz (Wd16.mod _))<|fun w28 hn=>eoB<|eoV (OutV.ok (dN hr) hn)
     · have g19:¬s.y=3:=by simpa using h19
       have hr:=hr.trans (JG g19)
       refine wp_seq_k fun K29 hK29=>JD<|oB 48 (egI _ _ _ _ _) (ZP s.y 4)<|oA 47 (.bool (s.y==4)) ?_
       refine JS ?_
       try simp only[Act.put,sA,sB,sC]
       refine JM<|hK29 _ _ ?_
       refine wp_cond_split (t:=s.y==4) (by kernel_rfl) (fun h30=>?_) (fun h30=>?_)
       · have g30:s.y=4:=by simpa using h30
         have hr:=hr.trans (JK g30)
         exact JB<|coZ<|nR 1 hn<|nV (QFe hn.at_) hn hr<|fun s31 xs31 w31 hn hr=>woE<|eoB<|eoV (OutV.ok (dN hr) hn)
       · have g30:¬s.y=4:=by simpa using h30
         have hr:=hr.trans (JG g30)
         refine wp_seq_k fun K32 hK32=>JD<|oB 52 (egI _ _ _ _ _) (ZP s.y 5)<|oA 51 (.bool (s.y==5)) ?_
         refine JS ?_
         try simp only[Act.put,sA,sB,sC]
         refine JM<|hK32 _ _ ?_
         refine wp_cond_split (t:=s.y==5) (by kernel_rfl) (fun h33=>?_) (fun h33=>?_)
         · have g33:s.y=5:=by simpa using h33
           have hr:=hr.trans (JK g33)
           have b34:=hn.at_.ms.r.hl
           have b35:=hn.at_.ms.r.de
           have c3:=hn.at_.cell 3 (.int .u16 (s.r.hl)) (fun _ _ _=>rfl)
           have c2:=hn.at_.cell 2 (.int .u16 (s.r.de)) (fun _ _ _=>rfl)
           have z2:=hn.at_.frozen 2
           have z3:=hn.at_.frozen 3
           have hn:=hn.drew
           go_region
           have hn:=hn.set 2 (.int .u16 (s.r.hl)) (s.u_de (s.r.hl)) (QT7 _ _) (hn.at_.ms.u_de (b34))
           have hn:=hn.set 3 (.int .u16 (s.r.de)) ((s.u_de (s.r.hl)).u_hl (s.r.de)) (QNi _ _) (hn.at_.ms.u_hl (b35))
           refine Qt ?_
           refine X8 rfl rfl ?_
           exact OutV.ok (hr.trans (Tr.run_done _ _)) hn
         · have g33:¬s.y=5:=by simpa using h33
           have hr:=hr.trans (JG g33)
           refine JB<|nQ hn<|nIf hr (fun g37 hr=>?_) fun g37 hr=>?_
           · exact coZ<|nRs 6 hn (.u_iff1 _ (false)) (hn.at_.ms.u_iff1)<|fun w38 hn=>nFs hn (.u_iff2 _ (false)) (hn.at_.ms.u_iff2)<|fun w39 hn=>eoB<|eoV (OutV.ok (dN hr) hn)
           refine nQ hn<|nIf hr (fun g41 hr=>?_) fun g41 hr=>?_
           · exact coZ<|nRs 7 hn (.u_iff1 _ (true)) (hn.at_.ms.u_iff1)<|fun w42 hn=>nRs 4 hn (.u_iff2 _ (true)) (hn.at_.ms.u_iff2)<|fun w43 hn=>nFs hn (.u_late _ (true)) (hn.at_.ms.u_late)<|fun w44 hn=>eoB<|eoV (OutV.ok (dN hr) hn)
           exact JC<|eoB<|eoV (OutV.ok (dN hr) hn)
theorem QMn  {s:Ms} {xs:List Int} {w:World} {p B:Nat}(h:AtN w p B s xs) :
 Calls Tryz.prog 139 #[pT p 0] w (OutV w p B ((ji s).run xs)):=by
 have hn:=NowN.begin h
 have hr:(ji s).run xs=(ji s).run xs:=rfl
 go_enter Tryz.func139,Tryz.ntmps139
 refine JB<|nQ hn<|coB<|nQ hn<|nIf hr (fun g3 hr=>?_) fun g3 hr=>?_
 · refine coR<|nR 1 hn<|nV (QK 1 hn.at_) hn hr<|fun s5 xs5 w5 hn hr=>wT<|coR<|nR 5 hn<|nA (QDt s5.y hn.at_) hn<|fun w7 hn=>wT<|coI (s5.holds s5.y) (fun h8=>?_) fun h8=>?_
   · have g8:s5.holds s5.y=true:=by simpa using h8
     exact have hr:=hr.trans (JK g8);coZ<|nR 2 hn<|nI (QJZ hn.at_) hn hr<|fun v9 s9 xs9 w9 hk9 hn hr=>nA (QCo v9 (hk9) hn.at_) hn<|fun w10 hn=>woE<|eoB<|eoV (OutV.ok (dN hr) hn)
   have g8:¬s5.holds s5.y=true:=by simpa using h8
   exact have hr:=hr.trans (JG g8);JC<|eoB<|eoV (OutV.ok (dN hr) hn)
 refine nQ hn<|nIf hr (fun g12 hr=>?_) fun g12 hr=>?_
 · exact coZ<|nR 1 hn<|nVt (QNE hn.at_) hn hr<|fun s13 xs13 w13 hn hr=>woE<|eoB<|eoV (OutV.ok (dN hr) hn)
 refine nQ hn<|nIf hr (fun g15 hr=>?_) fun g15 hr=>?_
 · refine coR<|nR 2 hn<|nI (zo hn.at_) hn hr<|fun v17 s17 xs17 w17 hk17 hn hr=>nEs hn (.u_wz _ (v17)) (hn.at_.ms.u_wz (hk17))<|fun w18 hn=>coR<|nR 5 hn<|nA (QDt ((s17.u_wz (v17)).y) hn.at_) hn<|fun w20 hn=>wT<|coI ((s17.u_wz (v17)).holds ((s17.u_wz (v17)).y)) (fun h21=>?_) fun h21=>?_
   · have g21:(s17.u_wz (v17)).holds ((s17.u_wz (v17)).y)=true:=by simpa using h21
     exact have hr:=hr.trans (JK g21);have b22:=hn.at_.ms.r.wz;coZ<|nFs hn ((s17.u_wz (v17)).u_pc ((s17.u_wz (v17)).r.wz)) (hn.at_.ms.u_pc (b22))<|fun w23 hn=>eoB<|eoV (OutV.ok (dN hr) hn)
   have g21:¬(s17.u_wz (v17)).holds ((s17.u_wz (v17)).y)=true:=by simpa using h21
   exact have hr:=hr.trans (JG g21);JC<|eoB<|eoV (OutV.ok (dN hr) hn)
 refine nQ hn<|nIf hr (fun g25 hr=>?_) fun g25 hr=>?_
 · exact coZ<|nR 1 hn<|nVt (QNe hn.at_) hn hr<|fun s26 xs26 w26 hn hr=>woE<|eoB<|eoV (OutV.ok (dN hr) hn)
 refine nQ hn<|nIf hr (fun g28 hr=>?_) fun g28 hr=>?_
 · exact coZ<|nR 6 hn<|nA (QDt s.y hn.at_) hn<|fun w29 hn=>nVt (QPZ (s.holds s.y) hn.at_) hn hr<|fun s30 xs30 w30 hn hr=>woE<|eoB<|eoV (OutV.ok (dN hr) hn)
 refine nQ hn<|nIf hr (fun g32 hr=>?_) fun g32 hr=>?_
 · exact coZ<|nR 1 hn<|nVt (QRL hn.at_) hn hr<|fun s33 xs33 w33 hn hr=>woE<|eoB<|eoV (OutV.ok (dN hr) hn)
 refine nQ hn<|nIf hr (fun g35 hr=>?_) fun g35 hr=>?_
 · exact coZ<|nR 2 hn<|nI (Z7 hn.at_) hn hr<|fun v36 s36 xs36 w36 hk36 hn hr=>nA (QBh v36 (hk36) hn.at_) hn<|fun w37 hn=>woE<|eoB<|eoV (OutV.ok (dN hr) hn)
 refine nQ hn<|nIf hr (fun g39 hr=>?_) fun g39 hr=>?_
 · exact coR<|nR 1 hn<|nV (QK 1 hn.at_) hn hr<|fun s41 xs41 w41 hn hr=>wT<|have b43:=hn.at_.ms.r.pc;coR<|nR 6 hn<|nV (QHo s41.r.pc (b43) hn.at_) hn hr<|fun s44 xs44 w44 hn hr=>wT<|coZ<|nR 5 hn<|QKZ 87 (egI _ _ _ _ _) (QRZ 8 s44.y (by have:=hn.at_.ms.y;omega) (by have:=hn.at_.ms.y;omega))<|nR 1 hn<|nA (QCo ((8*s44.y)%65536) (Wd16.mod _) hn.at_) hn<|fun w45 hn=>woE<|eoB<|eoV (OutV.ok (dN hr) hn)
 exact JC<|eoB<|eoV (OutV.ok (dN hr) hn)
end Go.Proofs.YtkenebbjodcbcaaGreatDoor
