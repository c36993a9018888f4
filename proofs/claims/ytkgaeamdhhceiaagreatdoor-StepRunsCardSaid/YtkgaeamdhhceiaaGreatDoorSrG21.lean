/- Contracts and facts that the claim's proof wants (several texts in one). -/
import Derived.Test.YtkgaeamdhhceiaaGreatDoorSrG19
namespace Go.Proofs.YtkgaeamdhhceiaaGreatDoor
open Go.RowKit
set_option linter.unusedVariables false
set_option linter.unusedSimpArgs false
set_option maxRecDepth 20000
set_option maxHeartbeats 20000000
theorem QS9 (o:Bool)(c:Int)(hAc:B8 c){s:Ws} {xs:List Int} {z:Zs} {w:World} {p B:Nat}(h:AtW w p B s xs z) :
 Calls Tryz.prog 68 #[pT p 0,.bool (o),.int .u8 (c)] w (OutY w p B xs ((QH1 o c s).runZ xs z)):=by
 have hn:=NowW.begin h
 have hr:(QH1 o c s).runZ xs z=(QH1 o c s).runZ xs z:=rfl
 go_enter Tryz.func68,Tryz.ntmps68
 refine JB<|zQs hn (.u_plane _ (0)) (hn.at_.ms.u_plane)<|fun w2 hn=>zQs hn (.u_code _ (0)) (hn.at_.ms.u_code (⟨by decide,by decide⟩))<|fun w4 hn=>coR<|zR 1 hn<|kE (zl c (hAc) _)<|zE hn<|zQ hn<|coS<|zQ hn<|coI (o) (fun h10=>?_) fun h10=>?_
 · have g10:o=true:=by simpa using h10
   refine have hr:=hr.trans (Ja g10);coZ<|zE hn<|coR<|zR 2 hn<|zX (QGP 6 hn.at_) hn hr<|fun v12 s12 z12 w12 hk12 hn hr=>zE hn<|zQ hn<|coS<|zQ hn<|coT ?_
   first|have hr:=pZ hr|have hr:=qZ hr|have hr:=pbZ hr|have hr:=qbZ hr|skip
   refine coR<|zR 1 hn<|zY (Jt 1 hn.at_) hn hr<|fun s17 z17 w17 hn hr=>wT<|have b18:=hn.at_.ms.r.wz;coZ<|zR 5 hn<|kE (Xp s17.r.wz (b18).1 (b18).2 _)<|zE hn<|coS<|zQ hn<|coB<|zQ hn<|zIf hr (fun g23 hr=>?_) fun g23 hr=>?_
   · refine have b25:=QU hn.at_.ms;coR<|zR 3 hn<|zAA (w_f hn.at_) hn<|fun w26 hn=>zBB (QId (fy c) v12 s17.f (hk12) (b25) _ ) hn<|fun w27 hn=>zE hn<|have b29:=Jv hn.at_.ms;coR<|zR 2 hn<|zAA (w_a hn.at_) hn<|fun w30 hn=>zR 1 hn<|zAA (Qb s17.a (b29) (doF (fy c) v12 s17.f) (QCg _ _ _ (b25)) hn.at_) hn<|fun w31 hn=>wT<|coZ<|zF hn<|eoB<|eoT<|coR<|zR 3 hn<|zY (ZF 6 (doR (fy c) v12 s17.f) (QAF _ _ _ (hk12)) hn.at_) hn hr<|fun s33 z33 w33 hn hr=>wT<|coR<|zR 2 hn ?_
     rcases Bool.eq_false_or_eq_true (o) with h35|h35
     · have g35:o=true:=by simpa using h35
       refine tell 88 h35<|zE hn<|coI ((fz c) != 6) (fun h36=>?_) fun h36=>?_
       · have g36:¬(fz c)=6:=by simpa using h36
         exact have hr:=hr.trans (Ja (by simp[g36,g35,g23,g10]));coZ<|zR 3 hn<|zYt (ZF (fz c) (doR (fy c) v12 s17.f) (QAF _ _ _ (hk12)) hn.at_) hn hr<|fun s37 z37 w37 hn hr=>woE<|eoV (OutY.ok hr hn)
       have g36:(fz c)=6:=by simpa using h36
       exact have hr:=hr.trans (JP (by simp[g36,g35,g23,g10]));JE<|eoV (OutY.ok (dZ hr) hn)
     have g35:¬o=true:=by simpa using h35
     exact tell 88 h35<|zE hn<|coF<|have hr:=hr.trans (JP (by simp[g35,g23,g10]));JE<|eoV (OutY.ok (dZ hr) hn)
   refine zQ hn<|zIf hr (fun g39 hr=>?_) fun g39 hr=>?_
   · exact have b41:=Jv hn.at_.ms;coR<|zR 2 hn<|zAA (w_a hn.at_) hn<|fun w42 hn=>have b43:=QU hn.at_.ms;zR 4 hn<|zAA (w_f hn.at_) hn<|fun w44 hn=>zBB (QDj (fy c) v12 (s17.r.wz / 256) s17.f (hk12) ((b18).hi) (b43) _) hn<|fun w45 hn=>zAA (Qb s17.a (b41) (QAm (fy c) v12 (s17.r.wz / 256) s17.f) (QAY _ _ _ _) hn.at_) hn<|fun w46 hn=>wT<|JJ<|Zq<|QF<|qX (OutY.ok (dZ hr) hn)
   refine zQ hn<|zIf hr (fun g48 hr=>?_) fun g48 hr=>?_
   · refine coZ<|zR 2 hn<|kE (QR v12 (fy c) false (hk12).1 (hk12).2 _)<|zF hn<|eoB<|eoT<|coR<|zR 3 hn<|zY (ZF 6 (JO v12 (fy c) false) (B8.with (hk12) _ _) hn.at_) hn hr<|fun s51 z51 w51 hn hr=>wT<|coR<|zR 2 hn ?_
     rcases Bool.eq_false_or_eq_true (o) with h53|h53
     · have g53:o=true:=by simpa using h53
       refine tell 88 h53<|zE hn<|coI ((fz c) != 6) (fun h54=>?_) fun h54=>?_
       · have g54:¬(fz c)=6:=by simpa using h54
         exact have hr:=hr.trans (Ja (by simp[g54,g53,g48,g39,g23,g10]));coZ<|zR 3 hn<|zYt (ZF (fz c) (JO v12 (fy c) false) (B8.with (hk12) _ _) hn.at_) hn hr<|fun s55 z55 w55 hn hr=>woE<|eoV (OutY.ok hr hn)
       have g54:(fz c)=6:=by simpa using h54
       exact have hr:=hr.trans (JP (by simp[g54,g53,g48,g39,g23,g10]));JE<|eoV (OutY.ok (dZ hr) hn)
     have g53:¬o=true:=by simpa using h53
     exact tell 88 h53<|zE hn<|coF<|have hr:=hr.trans (JP (by simp[g53,g48,g39,g23,g10]));JE<|eoV (OutY.ok (dZ hr) hn)
   refine coZ<|zR 2 hn<|kE (QR v12 (fy c) true (hk12).1 (hk12).2 _)<|zF hn<|eoB<|eoT<|coR<|zR 3 hn<|zY (ZF 6 (JO v12 (fy c) true) (B8.with (hk12) _ _) hn.at_) hn hr<|fun s58 z58 w58 hn hr=>wT<|coR<|zR 2 hn ?_
   rcases Bool.eq_false_or_eq_true (o) with h60|h60
   · have g60:o=true:=by simpa using h60
     refine tell 88 h60<|zE hn<|coI ((fz c) != 6) (fun h61=>?_) fun h61=>?_
     · have g61:¬(fz c)=6:=by simpa using h61
       exact have hr:=hr.trans (Ja (by simp[g61,g60,g48,g39,g23,g10]));coZ<|zR 3 hn<|zYt (ZF (fz c) (JO v12 (fy c) true) (B8.with (hk12) _ _) hn.at_) hn hr<|fun s62 z62 w62 hn hr=>woE<|eoV (OutY.ok hr hn)
     have g61:(fz c)=6:=by simpa using h61
     exact have hr:=hr.trans (JP (by simp[g61,g60,g48,g39,g23,g10]));JE<|eoV (OutY.ok (dZ hr) hn)
   have g60:¬o=true:=by simpa using h60
   exact tell 88 h60<|zE hn<|coF<|have hr:=hr.trans (JP (by simp[g60,g48,g39,g23,g10]));JE<|eoV (OutY.ok (dZ hr) hn)
 have g10:¬o=true:=by simpa using h10
 refine have hr:=hr.trans (JP g10);JE<|eoT<|coR<|zR 2 hn<|zX (QGP (fz c) hn.at_) hn hr<|fun v64 s64 z64 w64 hk64 hn hr=>zE hn<|zQ hn<|coS<|zQ hn<|zIf hr (fun g68 hr=>?_) fun g68 hr=>?_
 · refine coR<|zR 1 hn<|zY (Jt 1 hn.at_) hn hr<|fun s70 z70 w70 hn hr=>wT<|have b71:=hn.at_.ms.r.wz;coZ<|zR 5 hn<|kE (Xp s70.r.wz (b71).1 (b71).2 _)<|zE hn<|coS<|zQ hn<|coB<|zQ hn<|zIf hr (fun g76 hr=>?_) fun g76 hr=>?_
   · refine have b78:=QU hn.at_.ms;coR<|zR 3 hn<|zAA (w_f hn.at_) hn<|fun w79 hn=>zBB (QId (fy c) v64 s70.f (hk64) (b78) _ ) hn<|fun w80 hn=>zE hn<|have b82:=Jv hn.at_.ms;coR<|zR 2 hn<|zAA (w_a hn.at_) hn<|fun w83 hn=>zR 1 hn<|zAA (Qb s70.a (b82) (doF (fy c) v64 s70.f) (QCg _ _ _ (b78)) hn.at_) hn<|fun w84 hn=>wT<|coZ<|zF hn<|eoB<|eoT<|coR<|zR 3 hn<|zY (ZF (fz c) (doR (fy c) v64 s70.f) (QAF _ _ _ (hk64)) hn.at_) hn hr<|fun s86 z86 w86 hn hr=>wT<|coR<|zR 2 hn ?_
     rcases Bool.eq_false_or_eq_true (o) with h88|h88
     · have g88:o=true:=by simpa using h88
       exact tell 88 h88<|zE hn<|coK ((fz c) != 6) (fun h89=>absurd h89 (by first|(simp;omega)|simp[*]))<|fun h89=>have hr:=hr.trans (JP (by simp[g88,g76,g68,g10]));JE<|eoV (OutY.ok (dZ hr) hn)
     have g88:¬o=true:=by simpa using h88
     exact tell 88 h88<|zE hn<|coF<|have hr:=hr.trans (JP (by simp[g88,g76,g68,g10]));JE<|eoV (OutY.ok (dZ hr) hn)
   refine zQ hn<|zIf hr (fun g91 hr=>?_) fun g91 hr=>?_
   · exact have b93:=Jv hn.at_.ms;coR<|zR 2 hn<|zAA (w_a hn.at_) hn<|fun w94 hn=>have b95:=QU hn.at_.ms;zR 4 hn<|zAA (w_f hn.at_) hn<|fun w96 hn=>zBB (QDj (fy c) v64 (s70.r.wz / 256) s70.f (hk64) ((b71).hi) (b95) _) hn<|fun w97 hn=>zAA (Qb s70.a (b93) (QAm (fy c) v64 (s70.r.wz / 256) s70.f) (QAY _ _ _ _) hn.at_) hn<|fun w98 hn=>wT<|JJ<|Zq<|QF<|qX (OutY.ok (dZ hr) hn)
   refine zQ hn<|zIf hr (fun g100 hr=>?_) fun g100 hr=>?_
   · refine coZ<|zR 2 hn<|kE (QR v64 (fy c) false (hk64).1 (hk64).2 _)<|zF hn<|eoB<|eoT<|coR<|zR 3 hn<|zY (ZF (fz c) (JO v64 (fy c) false) (B8.with (hk64) _ _) hn.at_) hn hr<|fun s103 z103 w103 hn hr=>wT<|coR<|zR 2 hn ?_
     rcases Bool.eq_false_or_eq_true (o) with h105|h105
     · have g105:o=true:=by simpa using h105
       exact tell 88 h105<|zE hn<|coK ((fz c) != 6) (fun h106=>absurd h106 (by first|(simp;omega)|simp[*]))<|fun h106=>have hr:=hr.trans (JP (by simp[g105,g100,g91,g76,g68,g10]));JE<|eoV (OutY.ok (dZ hr) hn)
     have g105:¬o=true:=by simpa using h105
     exact tell 88 h105<|zE hn<|coF<|have hr:=hr.trans (JP (by simp[g105,g100,g91,g76,g68,g10]));JE<|eoV (OutY.ok (dZ hr) hn)
   refine coZ<|zR 2 hn<|kE (QR v64 (fy c) true (hk64).1 (hk64).2 _)<|zF hn<|eoB<|eoT<|coR<|zR 3 hn<|zY (ZF (fz c) (JO v64 (fy c) true) (B8.with (hk64) _ _) hn.at_) hn hr<|fun s109 z109 w109 hn hr=>wT<|coR<|zR 2 hn ?_
   rcases Bool.eq_false_or_eq_true (o) with h111|h111
   · have g111:o=true:=by simpa using h111
     exact tell 88 h111<|zE hn<|coK ((fz c) != 6) (fun h112=>absurd h112 (by first|(simp;omega)|simp[*]))<|fun h112=>have hr:=hr.trans (JP (by simp[g111,g100,g91,g76,g68,g10]));JE<|eoV (OutY.ok (dZ hr) hn)
   have g111:¬o=true:=by simpa using h111
   exact tell 88 h111<|zE hn<|coF<|have hr:=hr.trans (JP (by simp[g111,g100,g91,g76,g68,g10]));JE<|eoV (OutY.ok (dZ hr) hn)
 refine JE<|eoT<|coS<|zQ hn<|coB<|zQ hn<|zIf hr (fun g116 hr=>?_) fun g116 hr=>?_
 · refine have b118:=QU hn.at_.ms;coR<|zR 3 hn<|zAA (w_f hn.at_) hn<|fun w119 hn=>zBB (QId (fy c) v64 s64.f (hk64) (b118) _ ) hn<|fun w120 hn=>zE hn<|have b122:=Jv hn.at_.ms;coR<|zR 2 hn<|zAA (w_a hn.at_) hn<|fun w123 hn=>zR 1 hn<|zAA (Qb s64.a (b122) (doF (fy c) v64 s64.f) (QCg _ _ _ (b118)) hn.at_) hn<|fun w124 hn=>wT<|coZ<|zF hn<|eoB<|eoT<|coR<|zR 3 hn<|zY (ZF (fz c) (doR (fy c) v64 s64.f) (QAF _ _ _ (hk64)) hn.at_) hn hr<|fun s126 z126 w126 hn hr=>wT<|coR<|zR 2 hn ?_
   rcases Bool.eq_false_or_eq_true (o) with h128|h128
   · have g128:o=true:=by simpa using h128
     exact tell 88 h128<|zE hn<|coJ ((fz c) != 6) (fun h129=>absurd h129 (by first|(simp;omega)|simp[*]))<|fun h129=>have hr:=hr.trans (Ja (by simp[g128,g116,g68,g10]));coZ<|zR 3 hn<|zYt (ZF (fz c) (doR (fy c) v64 s64.f) (QAF _ _ _ (hk64)) hn.at_) hn hr<|fun s130 z130 w130 hn hr=>woE<|eoV (OutY.ok hr hn)
   have g128:¬o=true:=by simpa using h128
   exact tell 88 h128<|zE hn<|coF<|have hr:=hr.trans (JP (by simp[g128,g116,g68,g10]));JE<|eoV (OutY.ok (dZ hr) hn)
 refine zQ hn<|zIf hr (fun g132 hr=>?_) fun g132 hr=>?_
 · exact have b134:=Jv hn.at_.ms;coR<|zR 2 hn<|zAA (w_a hn.at_) hn<|fun w135 hn=>have b136:=QU hn.at_.ms;zR 4 hn<|zAA (w_f hn.at_) hn<|fun w137 hn=>zBB (QDj (fy c) v64 v64 s64.f (hk64) (hk64) (b136) _) hn<|fun w138 hn=>zAA (Qb s64.a (b134) (QAm (fy c) v64 v64 s64.f) (QAY _ _ _ _) hn.at_) hn<|fun w139 hn=>wT<|JJ<|Zq<|QF<|qX (OutY.ok (dZ hr) hn)
 refine zQ hn<|zIf hr (fun g141 hr=>?_) fun g141 hr=>?_
 · refine coZ<|zR 2 hn<|kE (QR v64 (fy c) false (hk64).1 (hk64).2 _)<|zF hn<|eoB<|eoT<|coR<|zR 3 hn<|zY (ZF (fz c) (JO v64 (fy c) false) (B8.with (hk64) _ _) hn.at_) hn hr<|fun s144 z144 w144 hn hr=>wT<|coR<|zR 2 hn ?_
   rcases Bool.eq_false_or_eq_true (o) with h146|h146
   · have g146:o=true:=by simpa using h146
     exact tell 88 h146<|zE hn<|coJ ((fz c) != 6) (fun h147=>absurd h147 (by first|(simp;omega)|simp[*]))<|fun h147=>have hr:=hr.trans (Ja (by simp[g146,g141,g132,g116,g68,g10]));coZ<|zR 3 hn<|zYt (ZF (fz c) (JO v64 (fy c) false) (B8.with (hk64) _ _) hn.at_) hn hr<|fun s148 z148 w148 hn hr=>woE<|eoV (OutY.ok hr hn)
   have g146:¬o=true:=by simpa using h146
   exact tell 88 h146<|zE hn<|coF<|have hr:=hr.trans (JP (by simp[g146,g141,g132,g116,g68,g10]));JE<|eoV (OutY.ok (dZ hr) hn)
 refine coZ<|zR 2 hn<|kE (QR v64 (fy c) true (hk64).1 (hk64).2 _)<|zF hn<|eoB<|eoT<|coR<|zR 3 hn<|zY (ZF (fz c) (JO v64 (fy c) true) (B8.with (hk64) _ _) hn.at_) hn hr<|fun s151 z151 w151 hn hr=>wT<|coR<|zR 2 hn ?_
 rcases Bool.eq_false_or_eq_true (o) with h153|h153
 · have g153:o=true:=by simpa using h153
   exact tell 88 h153<|zE hn<|coJ ((fz c) != 6) (fun h154=>absurd h154 (by first|(simp;omega)|simp[*]))<|fun h154=>have hr:=hr.trans (Ja (by simp[g153,g141,g132,g116,g68,g10]));coZ<|zR 3 hn<|zYt (ZF (fz c) (JO v64 (fy c) true) (B8.with (hk64) _ _) hn.at_) hn hr<|fun s155 z155 w155 hn hr=>woE<|eoV (OutY.ok hr hn)
 have g153:¬o=true:=by simpa using h153
 exact tell 88 h153<|zE hn<|coF<|have hr:=hr.trans (JP (by simp[g153,g141,g132,g116,g68,g10]));JE<|eoV (OutY.ok (dZ hr) hn)
theorem QS2 (pA:Int)(qA:Int){s:Ws} {xs:List Int} {z:Zs} {w:World} {p B:Nat}(h:AtW w p B s xs z) :
 Calls Tryz.prog 101 #[pT p 0,.int .i64 (pA),.int .i64 (qA)] w (OutY w p B xs ((QGD pA qA s).runZ xs z)):=by
 have hn:=NowW.begin h
 have hr:(QGD pA qA s).runZ xs z=(QGD pA qA s).runZ xs z:=rfl
 go_enter Tryz.func101,Tryz.ntmps101
 refine JB<|coR<|zR 1 hn<|zX (QDL hn.at_) hn hr<|fun v2 s2 z2 w2 hk2 hn hr=>zE hn<|coS<|zQ hn<|zIf hr (fun g5 hr=>?_) fun g5 hr=>?_
 · exact have b7:=hn.at_.ms.r;coR<|zR 5 hn<|zBB (Q3 s2.r 0 pA _) hn<|fun w8 hn=>zE hn<|coR<|zR 3 hn<|kE (XM (Jo s2.r 0 pA) ((b7).pair _ _).1 ((b7).pair _ _).2 _)<|zY (XK v2 (hk2) ((Jo s2.r 0 pA)%256) (((b7).pair _ _).lo8) hn.at_) hn hr<|fun s11 z11 w11 hn hr=>wT<|coZ<|zR 4 hn<|kE (Xp (Jo s2.r 0 pA) ((b7).pair _ _).1 ((b7).pair _ _).2 _)<|zY (XK ((v2+1)%65536) (Wd16.mod _) ((Jo s2.r 0 pA) / 256) (((b7).pair _ _).hi) hn.at_) hn hr<|fun s13 z13 w13 hn hr=>wT<|coZ<|zFs hn (.u_wz _ ((v2+1)%65536)) (hn.at_.ms.u_wz (Wd16.mod _))<|fun w14 hn=>eoV (OutY.ok (dZ hr) hn)
 exact coR<|zR 2 hn<|zX (Xn v2 (hk2) hn.at_) hn hr<|fun v16 s16 z16 w16 hk16 hn hr=>zE hn<|coR<|zR 3 hn<|zX (Xn ((v2+1)%65536) (Wd16.mod _) hn.at_) hn hr<|fun v18 s18 z18 w18 hk18 hn hr=>zE hn<|zPz 12 hn<|fun w19 hn=>have b20:=hn.at_.ms.r;zD [0,1,2,3,4,5,6,7] hn<|zDe 8 (Qe v18 v16 (hk18).1 (hk18).2 (hk16).1 (hk16).2 _) hn<|zDb 9 (Xi s18.r 0 pA (256*v18+v16) _) hn<|fun w22 hn=>zD [10,11] hn<|poE<|zEs hn _ (hn.at_.ms.u_rg ((b20).setPair _ _ (Wd16.mk8 (hk18) (hk16))))<|fun w23 hn=>coZ<|zFs hn (.u_wz _ ((v2+1)%65536)) (hn.at_.ms.u_wz (Wd16.mod _))<|fun w24 hn=>eoV (OutY.ok (dZ hr) hn)
def Ws.hlBy (s:Ws)(d:Int):Ws:={ s with r:={ s.r with hl:=JA s.r.hl d } }
def Ws.deBy (s:Ws)(d:Int):Ws:={ s with r:={ s.r with de:=JA s.r.de d } }
def Ws.bcDown (s:Ws):Ws:={ s with r:={ s.r with bc:=(s.r.bc-1)%65536 } }
def QDz (y z f:Int)(s:Ws):Tr Ws :=
 if 5 < y∧Jn z f=true then (JN 5 (s.af s.a f)).bind fun s=>if z < 2 then .done ((s.pc ((s.r.pc-2)%65536)).wz (((s.r.pc-2)%65536+1)%65536)) else .done (s.pc ((s.r.pc-2)%65536)) else .done (s.af s.a f)
def QBj (d y z:Int)(s:Ws):Tr Ws :=
 if z=0 then (Jr s.r.hl s).bind fun b=>(Je b.2.r.de b.1 b.2).bind fun s=>(JN 2 s).bind fun s =>
  QDz y z (moveF (s.deBy d).bcDown.a b.1 (s.deBy d).bcDown.r.bc (s.deBy d).bcDown.f) ((s.deBy d).bcDown.hlBy d) else
 if z=1 then (Jr s.r.hl s).bind fun b=>(JN 5 b.2).bind fun s =>
  QDz y z (jD (s.wz (JA s.r.wz d)).bcDown.a b.1 (s.wz (JA s.r.wz d)).bcDown.r.bc (s.wz (JA s.r.wz d)).bcDown.f) ((s.wz (JA s.r.wz d)).bcDown.hlBy d) else
 if z=2 then (JN 1 s).bind fun s=>(QN ⟨4,s.r.bc,0,4⟩ s).bind fun b=>(Je (b.2.wz (JA b.2.r.bc d)).less.r.hl b.1 (b.2.wz (JA b.2.r.bc d)).less).bind fun s =>
  QDz y z (Q5 b.1 (b.1+byC ((s.hlBy d).r.bc%256) d) (b.2.wz (JA b.2.r.bc d)).left) (s.hlBy d) else
 (JN 1 s).bind fun s=>(Jr s.r.hl s).bind fun b=>(QN ⟨5,b.2.less.r.bc,b.1,4⟩ (b.2.less.wz (JA b.2.less.r.bc d))).bind fun c =>
   QDz y z (Q5 b.1 (b.1+(c.2.hlBy d).r.hl%256) b.2.left) (c.2.hlBy d)
def QFb (y z:Int)(s:Ws):Tr Ws:=if y%2=1 then QBj (-1) y z s else QBj 1 y z s
def Ws.modeTo (s:Ws)(m:Int):Ws:={ s with r:={ s.r with mode:=m } }
def edW (c:Int)(s:Ws):Tr Ws :=
 if fx c=2∧fz c < 4∧3 < fy c then QFb (fy c) (fz c) s else if fx c≠1 then .done s else
 if fz c=0 then (QN ⟨4,s.r.bc,0,4⟩ s).bind fun b =>
  if fy c=6 then .done ((b.2.wz ((b.2.r.bc+1)%65536)).af (b.2.wz ((b.2.r.bc+1)%65536)).a (JO (Js b.1) 0 (isM (b.2.wz ((b.2.r.bc+1)%65536)).f 0)))
  else setW (fy c) b.1 ((b.2.wz ((b.2.r.bc+1)%65536)).af (b.2.wz ((b.2.r.bc+1)%65536)).a (JO (Js b.1) 0 (isM (b.2.wz ((b.2.r.bc+1)%65536)).f 0))) else
 if fz c=1 then (if fy c=6 then (QN ⟨5,s.r.bc,0,4⟩ s).bind fun r=>.done (r.2.wz ((r.2.r.bc+1)%65536)) else (jY (fy c) s).bind fun b=>(QN ⟨5,b.2.r.bc,b.1,4⟩ b.2).bind fun r=>.done (r.2.wz ((r.2.r.bc+1)%65536))) else
 if fz c=2 then (JN 7 s).bind fun s =>
  if fq c=1 then .done (((s.wz ((s.r.hl+1)%65536)).hlTo (ZK (s.wz ((s.r.hl+1)%65536)).r.hl (Jo (s.wz ((s.r.hl+1)%65536)).r 0 (fp c)) (isM (s.wz ((s.r.hl+1)%65536)).f 0))).af
   ((s.wz ((s.r.hl+1)%65536)).hlTo (ZK (s.wz ((s.r.hl+1)%65536)).r.hl (Jo (s.wz ((s.r.hl+1)%65536)).r 0 (fp c)) (isM (s.wz ((s.r.hl+1)%65536)).f 0))).a (QAQ (s.wz ((s.r.hl+1)%65536)).r.hl (Jo (s.wz ((s.r.hl+1)%65536)).r 0 (fp c)) (isM (s.wz ((s.r.hl+1)%65536)).f 0)))
  else .done (((s.wz ((s.r.hl+1)%65536)).hlTo (qK (s.wz ((s.r.hl+1)%65536)).r.hl (Jo (s.wz ((s.r.hl+1)%65536)).r 0 (fp c)) (isM (s.wz ((s.r.hl+1)%65536)).f 0))).af
   ((s.wz ((s.r.hl+1)%65536)).hlTo (qK (s.wz ((s.r.hl+1)%65536)).r.hl (Jo (s.wz ((s.r.hl+1)%65536)).r 0 (fp c)) (isM (s.wz ((s.r.hl+1)%65536)).f 0))).a (QA4 (s.wz ((s.r.hl+1)%65536)).r.hl (Jo (s.wz ((s.r.hl+1)%65536)).r 0 (fp c)) (isM (s.wz ((s.r.hl+1)%65536)).f 0))) else
 if fz c=3 then QGD (fp c) (fq c) s else
 if fz c=4 then .done (s.af (QX 0 s.a false) (QM 0 s.a false)) else
 if fz c=5 then (QC5 s).bind fun s=>.done { s with r:={ s.r with iff1:=s.r.iff2 } } else
 if fz c=6 then (if fy c%4=2 then .done (s.modeTo 1) else if fy c%4=3 then .done (s.modeTo 2) else .done (s.modeTo 0)) else QQ9 (fy c) s
def QPI (plane:Int)(s:Ws):Tr Ws:=(JW (s.at_ plane s.code)).bind fun e=>(JW ((e.2.know (JA e.2.hl (JR e.1))).wz (JA e.2.hl (JR e.1)))).bind fun c=>(JN 2 c.2).bind fun s=>QH1 true c.1 s
def QGR (plane b:Int)(s:Ws):Tr Ws :=
 if b=237 then (Jh s).bind fun c=>edW c.1 (c.2.at_ 0 0) else
 if b=203∧plane=0 then (Jh s).bind fun c=>QH1 false c.1 c.2 else
 if b=203 then QPI plane s else QBK plane b s
theorem mod2 (y:Int):y%2=0∨y%2=1:=by omega
theorem QTg {x k:Int}(h0:0≤x)(h:x%2=k)(w:World):(binOp .rem 3 (.int .i64 x) (.int .i64 2)).run Tryz.prog w=.ok (.int .i64 k) w:=by
 have e:x.tmod 2=k:=by rw[Int.tmod_eq_emod_of_nonneg h0];exact h
 have e2:IntKind.i64.wrap k=k:=by rw[IntKind.wrap_i64];omega
 simp[go_sem,e,e2]
section
variable {ops:Array Oper} {Q:Exit→Act→World→Prop} {a:Act} {w w0:World} {o:Oper} {rest:List Oper} {p B:Nat} {s:Ws} {xs:List Int} {z:Zs} {x y:Operand}
@[reducible] def QRa:Array Value:=#[.int .i64 0,.int .i64 0,.int .i64 1,.int .i64 2]
theorem QVC (ho:o.op=.buildSlice 132 4 #[(0,.const (.int .i64 0)),(1,.const (.int .i64 0)),(2,.const (.int .i64 1)),(3,.const (.int .i64 2))]):(execOp a.eval o).run Tryz.prog w=.ok (.value (.slice (some ⟨w.heap.size,0,none⟩) 4 4)) (w.alloc (.cells QRa 3)):=by
 have h:(Instr.buildSlice 132 4 #[(0,.int .i64 0),(1,.int .i64 0),(2,.int .i64 1),(3,.int .i64 2)]).run Tryz.prog w=.ok (.slice (some ⟨w.heap.size,0,none⟩) 4 4) (w.alloc (.cells QRa 3)):=by simp[go_sem]
 unfold execOp
 simp only[ho,List.map_toArray,List.map_cons,List.map_nil,Act.eval,Sem.run_bind,h,Result.andThen_ok,Sem.run_pure]
theorem QWJ (d:Tmp)(hn:NowW w0 p B s xs z w)(hd:o.dst=some d)(hg:o.guard=none)(ho:o.op=.buildSlice 132 4 #[(0,.const (.int .i64 0)),(1,.const (.int .i64 0)),(2,.const (.int .i64 1)),(3,.const (.int .i64 2))])
 (h:∀ w' M,Row w' M 3 QRa→NowW w0 p B s xs z w'→WL Tryz.prog ops Q rest (a.put (some d) (.slice (some ⟨M,0,none⟩) 4 4)) w'):WL Tryz.prog ops Q (o :: rest) a w :=
 J1 d _ hd (JL hg) (QVC ho) (h _ _ (Row.new w _ QRa) (hn.below (Below.alloc (Below.refl _ _) (Nat.le_refl _) _)))
theorem QTk (M:Nat)(w:World):(Instr.indexAt 132 (.slice (some ⟨M,0,none⟩) 4 4) (.int .i64 0)).run Tryz.prog w=.ok (pT M 0) w:=by simp[go_sem,Addr.add]
theorem QVS (M:Nat)(w:World):(Instr.indexAt 132 (.slice (some ⟨M,0,none⟩) 4 4) (.int .i64 1)).run Tryz.prog w=.ok (pT M 1) w:=by simp[go_sem,Addr.add]
theorem QU8 (M:Nat)(w:World):(Instr.indexAt 132 (.slice (some ⟨M,0,none⟩) 4 4) (.int .i64 2)).run Tryz.prog w=.ok (pT M 2) w:=by simp[go_sem,Addr.add]
theorem QVR (M:Nat)(w:World):(Instr.indexAt 132 (.slice (some ⟨M,0,none⟩) 4 4) (.int .i64 3)).run Tryz.prog w=.ok (pT M 3) w:=by simp[go_sem,Addr.add]
theorem AtW.far {L:Nat}(h:AtW w p B s xs z)(hp:L≠p)(hB:B≤L)(vs:List Value)(o:Nat):AtW (w.setCells L o vs) p B s xs z:=by
 obtain⟨⟨A,cap,hc,hr,hby⟩,hl,h8,hm,ht,hg⟩:=h
 have k:∀ b,b < B→(w.setCells L o vs).heap[b]?=w.heap[b]?:=fun b hlt=>zq L b (by omega) _ _ _
 exact⟨⟨A,cap,hc,hr.setFar (Ne.symm hp) vs o,hby.keep k⟩,hl,h8,hm,ht,hg⟩
theorem NowW.far {L:Nat}(h:NowW w0 p B s xs z w)(hp:L≠p)(hB:B≤L)(h0:w0.heap.size≤L)(vs:List Value)(o:Nat):NowW w0 p B s xs z (w.setCells L o vs) :=
 ⟨h.at_.far hp hB vs o,h.bes.setCells (.inr (.inr h0)) _ _⟩
@[reducible] def jk (b0 b1 b2 b3 b4 b5 b6 b7:Bool):Array Value:=#[.bool b0,.bool b1,.bool b2,.bool b3,.bool b4,.bool b5,.bool b6,.bool b7]
theorem QTC:(Tryz.prog.info? 163).map (·.size)=some 8:=by kernel_rfl
theorem QVP (w:World):(Instr.alloc 163 true (.tuple #[])).run Tryz.prog w=.ok (pT w.heap.size 0) (w.alloc (.cells (jk false false false false false false false false) 163)):=by
 simp[go_sem]
theorem QMm (d:Tmp)(hn:NowW w0 p B s xs z w)(hd:o.dst=some d)(hg:o.guard=none)(ho:o.op=.alloc 163)
 (h:∀ w' L,L≠p→B≤L→w0.heap.size≤L→Row w' L 163 (jk false false false false false false false false)→NowW w0 p B s xs z w'→WL Tryz.prog ops Q rest (a.put (some d) (pT L 0)) w'):WL Tryz.prog ops Q (o :: rest) a w:=by
 have hlt:=hn.at_.lt
 have hlow:=hn.at_.low
 refine J1 d (pT w.heap.size 0) hd (JL hg) (Qr ho (QVP _)) ?_
 exact h _ _ (by omega) (by omega) hn.bes.size (Row.new w _ _) (hn.below (Below.alloc (Below.refl _ _) (Nat.le_refl _) _))
theorem QTE {L:Nat} {c0 c1 c2 c3 c4 c5 c6 c7:Bool}(b0 b1 b2 b3 b4 b5 b6 b7:Bool)(hn:NowW w0 p B s xs z w)(hL:Row w L 163 (jk c0 c1 c2 c3 c4 c5 c6 c7))(hLp:L≠p)(hLB:B≤L)(hL0:w0.heap.size≤L)(hd:o.dst=none)(hg:o.guard=none)(ho:o.op=.store 163 x y)
 (hx:a.eval x=pT L 0)(hy:a.eval y=.agg (jk b0 b1 b2 b3 b4 b5 b6 b7))
 (h:∀ w',Row w' L 163 (jk b0 b1 b2 b3 b4 b5 b6 b7)→NowW w0 p B s xs z w'→WL Tryz.prog ops Q rest (a.put none undef) w'):WL Tryz.prog ops Q (o :: rest) a w :=
 X5 hd (JL hg) (XC ho hx hy (run_storeAt_mid w L 0 _ (jk b0 b1 b2 b3 b4 b5 b6 b7) hL.there QTC (by simp[Value.oneCell']))) (h _ (hL.setAll rfl) (hn.far hLp hLB hL0 _ _))
theorem QMb {L i:Nat} {cs:Array Value}(v:Bool)(cs':Array Value){V:Value}(hn:NowW w0 p B s xs z w)(hL:Row w L 163 cs)(hLp:L≠p)(hLB:B≤L)(hL0:w0.heap.size≤L)(hd:o.dst=none)(hg:o.guard=none)(ho:o.op=.store 4 x y)
 (hx:a.eval x=pT L i)(hy:a.eval y=.bool v)(hi:cs[i]?=some V)(hcs:cs.setIfInBounds i (.bool v)=cs')
 (h:∀ w',Row w' L 163 cs'→NowW w0 p B s xs z w'→WL Tryz.prog ops Q rest (a.put none undef) w'):WL Tryz.prog ops Q (o :: rest) a w :=
 X5 hd (JL hg) (XC ho hx hy (stB ((hL.cell i).trans hi) (hL.frozen i))) (h _ (hcs▸hL.set i (.bool v)) (hn.far hLp hLB hL0 [.bool v] i))
theorem ld8b {L:Nat} {b0 b1 b2 b3 b4 b5 b6 b7:Bool}(hL:Row w L 163 (jk b0 b1 b2 b3 b4 b5 b6 b7)):(Instr.loadAt 163 (pT L 0)).run Tryz.prog w=.ok (.agg (jk b0 b1 b2 b3 b4 b5 b6 b7)) w :=
 run_loadAt_mid w L 0 163 (jk b0 b1 b2 b3 b4 b5 b6 b7).toList _ hL.range Tryz.underlying163 rfl QTC
theorem QOq (L:Nat)(w:World):(Instr.indexAt 163 (pT L 0) (.int .i64 5)).run Tryz.prog w=.ok (pT L 5) w:=by simp[go_sem,Addr.add]
theorem QOj (L:Nat)(w:World):(Instr.indexAt 163 (pT L 0) (.int .i64 7)).run Tryz.prog w=.ok (pT L 7) w:=by simp[go_sem,Addr.add]
end
theorem QVy (y:Int)(hAy:0≤y∧y≤7){s:Ws} {xs:List Int} {z:Zs} {w:World} {p B:Nat}(h:AtW w p B s xs z) :
 Calls Tryz.prog 104 #[pT p 0,.int .i64 (y)] w (OutY w p B xs ((QQ9 y s).runZ xs z)):=by
 have hn:=NowW.begin h
 have hr:(QQ9 y s).runZ xs z=(QQ9 y s).runZ xs z:=rfl
 go_enter Tryz.func104,Tryz.ntmps104
 refine wp_seq_k fun K1 hK1=>wp_seq_k fun K2 hK2=>JC<|oM 10 (.int .i64 (y))<|oB 11 (egI _ _ _ _ _) (bLtI y 4) ?_
 refine JT ?_
 try simp only[Act.put,sA,sB,sC]
 refine JK<|hK2 _ _ ?_
 refine wp_cond_split (t:=decide (y < 4)) (by kernel_rfl) (fun h3=>?_) (fun h3=>?_)
 · have g3:y < 4:=by simpa using h3
   have hr:=hr.trans (Ja g3)
   refine JC<|oM 12 (pT p 0) ?_
   refine QDl hn rfl (by kernel_rfl) (Jt 1 hn.at_) ?_
   intro s4 z4 w4 hX hn
   have hr:=hr.trans (QCn hX _)
   refine JT ?_
   try simp only[Act.put,sA,sB,sC]
   refine JK<|hK1 _ _<|wp_seq_k fun K5 hK5=>JC<|oM 14 (.int .i64 (y)) ?_
   refine JT ?_
   try simp only[Act.put,sA,sB,sC]
   refine JK<|hK5 _ _ ?_
   refine wp_block ?_
   refine wp_seq_k fun K6 hK6=>JC<|oB 16 (egI _ _ _ _ _) (Zi y 0)<|oA 15 (.bool (y==0)) ?_
   refine JT ?_
   try simp only[Act.put,sA,sB,sC]
   refine JK<|hK6 _ _ ?_
   refine wp_cond_split (t:=y==0) (by kernel_rfl) (fun h7=>?_) (fun h7=>?_)
   · have g7:y=0:=by simpa using h7
     have hr:=hr.trans (Ja g7)
     exact JB<|have b8:=Jv hn.at_.ms;coZ<|zR 2 hn<|zAA (w_a hn.at_) hn<|fun w9 hn=>zFs hn (.u_i _ (s4.a)) (hn.at_.ms.u_i (b8))<|fun w10 hn=>eoB<|eoV (OutY.ok (dZ hr) hn)
   · have g7:¬y=0:=by simpa using h7
     have hr:=hr.trans (JP g7)
     refine wp_seq_k fun K11 hK11=>JC<|oB 24 (egI _ _ _ _ _) (Zi y 1)<|oA 23 (.bool (y==1)) ?_
     refine JT ?_
     try simp only[Act.put,sA,sB,sC]
     refine JK<|hK11 _ _ ?_
     refine wp_cond_split (t:=y==1) (by kernel_rfl) (fun h12=>?_) (fun h12=>?_)
     · have g12:y=1:=by simpa using h12
       have hr:=hr.trans (Ja g12)
       exact JB<|have b13:=Jv hn.at_.ms;coZ<|zR 2 hn<|zAA (w_a hn.at_) hn<|fun w14 hn=>zFs hn (.u_r _ (s4.a)) (hn.at_.ms.u_r (b13))<|fun w15 hn=>eoB<|eoV (OutY.ok (dZ hr) hn)
     · have g12:¬y=1:=by simpa using h12
       have hr:=hr.trans (JP g12)
       refine wp_seq_k fun K16 hK16=>wp_seq_k fun K17 hK17=>JC<|oB 32 (egI _ _ _ _ _) (Zi y 2)<|oA 31 (.bool (y==2)) ?_
       refine JT ?_
       try simp only[Act.put,sA,sB,sC]
       refine JK<|hK17 _ _ ?_
       refine wp_cond_split (t:=y==2) (by kernel_rfl) (fun h18=>?_) (fun h18=>?_)
       · have g18:y=2:=by simpa using h18
         have hr:=hr.trans (JP (by simp[g18,g12,g7,g3]))
         refine wp_skip ?_
         refine JK<|hK16 _ _ ?_
         refine wp_cond_split (t:=y==2) (by kernel_rfl) (fun h19=>?_) (fun h19=>?_)
         rotate_left
         · exact JB<|absurd h19 (by first|(simp;omega)|simp[*])
         have hr:=hr.trans (Ja g18)
         refine wp_seq_k fun K20 hK20=>JC<|oM 34 (pT p 0)<|oN 35 p 0<|oF 36 (fW0 p)<|oF 37 (fR13 p) ?_
         have b21:=hn.at_.ms.r.i
         refine oL 38 (ld8 (hn.at_.cell 13 (.int .u8 (s4.r.i)) fun _ _ _=>rfl))<|oA 4 (.int .u8 (s4.r.i)) ?_
         refine JT ?_
         try simp only[Act.put,sA,sB,sC]
         refine JK<|hK20 _ _<|wp_seq_k fun K22 hK22=>wp_seq_k fun K23 hK23=>JC<|oM 39 (.int .i64 (y))<|oJ 40 (.int .i64 (y)) (.int .i64 (3)) (.bool (false)) (egI _ _ _ _ _) (fun w=>by rw[Zi,show (y==3)=false from by first|(simp;omega)|simp[*]]) ?_
         refine JT ?_
         try simp only[Act.put,sA,sB,sC]
         refine JK<|hK23 _ _ ?_
         refine wp_cond_false (by kernel_rfl) ?_
         first|(have hr:=hr.trans (Ja (by first|exact g18|exact g12|exact g7|exact .inl g18|exact .inr g18|exact fun h=>g18 h.2|exact fun h=>g18 h.1|exact⟨g12,g18⟩|exact not_or.2 ⟨g12,g18⟩|(simp[g18,g12,g7,g3];done)|omega)))|(have hr:=hr.trans (JP (by first|exact g18|exact g12|exact g7|exact .inl g18|exact .inr g18|exact fun h=>g18 h.2|exact fun h=>g18 h.1|exact⟨g12,g18⟩|exact not_or.2 ⟨g12,g18⟩|(simp[g18,g12,g7,g3];done)|omega)))|(have hr:=hr.trans (QAL (by first|exact g18|exact g12|exact g7|exact .inl g18|exact .inr g18|exact fun h=>g18 h.2|exact fun h=>g18 h.1|exact⟨g12,g18⟩|exact not_or.2 ⟨g12,g18⟩|(simp[g18,g12,g7,g3];done)|omega)))|(have hr:=hr.trans (QAD (by first|exact g18|exact g12|exact g7|exact .inl g18|exact .inr g18|exact fun h=>g18 h.2|exact fun h=>g18 h.1|exact⟨g12,g18⟩|exact not_or.2 ⟨g12,g18⟩|(simp[g18,g12,g7,g3];done)|omega)))|skip
         refine wp_skip ?_
         refine JK<|hK22 _ _<|wp_seq_k fun K24 hK24=>JC<|oM 46 (.int .u8 (s4.r.i))<|oC (.int .u8 (JD s4.r.i)) (j7 s4.r.i (b21).1 (b21).2 _) ?_
         intro w25 hb
         have hn:=hn.below hb
         refine oC (.agg #[.bool (isM (JD s4.r.i) 7),.bool (isM (JD s4.r.i) 6),.bool (isM (JD s4.r.i) 5),.bool (isM (JD s4.r.i) 4),.bool (isM (JD s4.r.i) 3),.bool (isM (JD s4.r.i) 2),.bool (isM (JD s4.r.i) 1),.bool (isM (JD s4.r.i) 0)]) (Qn (JD s4.r.i) (QD _).1 (QD _).2 _) ?_
         intro w26 hb
         have hn:=hn.below hb
         refine QMm 5 hn rfl rfl rfl ?_
         intro w27 L hLp hLB hL0 hL hn
         refine QTE (isM (JD s4.r.i) 7) (isM (JD s4.r.i) 6) (isM (JD s4.r.i) 5) (isM (JD s4.r.i) 4) (isM (JD s4.r.i) 3) (isM (JD s4.r.i) 2) (isM (JD s4.r.i) 1) (isM (JD s4.r.i) 0) hn hL hLp hLB hL0 rfl rfl rfl (by kernel_rfl) (by kernel_rfl) ?_
         intro w28 hL hn
         refine JT ?_
         try simp only[Act.put,sA,sB,sC]
         refine JK<|hK24 _ _<|wp_seq_k fun K29 hK29=>JC<|oM 49 (pT p 0)<|oN 50 p 0<|oF 51 (fW0 p)<|oF 52 (fR16 p)<|oL 53 (ldB (hn.at_.cell 16 (.bool (s4.r.iff2)) fun _ _ _=>rfl))<|oI 54 (pT L 0) (.int .i64 (5)) (pT L 5) (QOq L _) ?_
         refine QMb (i:=5) (s4.r.iff2) (jk (isM (JD s4.r.i) 7) (isM (JD s4.r.i) 6) (isM (JD s4.r.i) 5) (isM (JD s4.r.i) 4) (isM (JD s4.r.i) 3) s4.r.iff2 (isM (JD s4.r.i) 1) (isM (JD s4.r.i) 0)) hn hL hLp hLB hL0 rfl rfl rfl (by kernel_rfl) (by kernel_rfl) rfl rfl ?_
         intro w30 hL hn
         refine JT ?_
         try simp only[Act.put,sA,sB,sC]
         refine JK<|hK29 _ _<|wp_seq_k fun K31 hK31=>JC<|oM 55 (pT p 0)<|oC (.bool (isM s4.f 0)) (QEb  hn.at_) ?_
         intro w32 hk
         have hL:=hL.besides hk.bes hLp hLp
         have hn:=hn.after hk
         refine oI 57 (pT L 0) (.int .i64 (7)) (pT L 7) (QOj L _) ?_
         refine QMb (i:=7) (isM s4.f 0) (jk (isM (JD s4.r.i) 7) (isM (JD s4.r.i) 6) (isM (JD s4.r.i) 5) (isM (JD s4.r.i) 4) (isM (JD s4.r.i) 3) s4.r.iff2 (isM (JD s4.r.i) 1) (isM s4.f 0)) hn hL hLp hLB hL0 rfl rfl rfl (by kernel_rfl) (by kernel_rfl) rfl rfl ?_
         intro w33 hL hn
         refine JT ?_
         try simp only[Act.put,sA,sB,sC]
         refine JK<|hK31 _ _<|JC<|oM 58 (pT p 0)<|oM 59 (.int .u8 (s4.r.i))<|oL 60 (ld8b hL)<|oC (.int .u8 (mkM (isM (JD s4.r.i) 7) (isM (JD s4.r.i) 6) (isM (JD s4.r.i) 5) (isM (JD s4.r.i) 4) (isM (JD s4.r.i) 3) s4.r.iff2 (isM (JD s4.r.i) 1) (isM s4.f 0))) (QK (isM (JD s4.r.i) 7) (isM (JD s4.r.i) 6) (isM (JD s4.r.i) 5) (isM (JD s4.r.i) 4) (isM (JD s4.r.i) 3) s4.r.iff2 (isM (JD s4.r.i) 1) (isM s4.f 0) _) ?_
         intro w34 hb
         have hL:=hL.below hb hL.lt
         have hn:=hn.below hb
         refine oC (.tuple #[]) (Qb s4.r.i (b21) (mkM (isM (JD s4.r.i) 7) (isM (JD s4.r.i) 6) (isM (JD s4.r.i) 5) (isM (JD s4.r.i) 4) (isM (JD s4.r.i) 3) s4.r.iff2 (isM (JD s4.r.i) 1) (isM s4.f 0)) (Qj _ _ _ _ _ _ _ _) hn.at_) ?_
         intro w35 hk
         have hL:=hL.besides hk.bes hLp hLp
         have hn:=hn.after hk
         refine JT ?_
         try simp only[Act.put,sA,sB,sC]
         refine Q8 ?_
         refine ZT rfl rfl ?_
         exact OutY.ok (hr.trans (QDx _ _ _)) hn
       · have g18:¬y=2:=by simpa using h18
         have hr:=hr.trans (Ja (by omega))
         refine JC<|oJ 33 (.int .i64 (y)) (.int .i64 (3)) (.bool (true)) (egI _ _ _ _ _) (fun w=>by rw[Zi,show (y==3)=true from by first|(simp;omega)|simp[*]])<|oA 31 (.bool (true)) ?_
         refine JT ?_
         try simp only[Act.put,sA,sB,sC]
         refine JK<|hK16 _ _ ?_
         refine wp_cond_true (by kernel_rfl) ?_
         first|(have hr:=hr.trans (Ja (by first|exact g18|exact g12|exact g7|exact .inl g18|exact .inr g18|exact fun h=>g18 h.2|exact fun h=>g18 h.1|exact⟨g12,g18⟩|exact not_or.2 ⟨g12,g18⟩|(simp[g18,g12,g7,g3];done)|omega)))|(have hr:=hr.trans (JP (by first|exact g18|exact g12|exact g7|exact .inl g18|exact .inr g18|exact fun h=>g18 h.2|exact fun h=>g18 h.1|exact⟨g12,g18⟩|exact not_or.2 ⟨g12,g18⟩|(simp[g18,g12,g7,g3];done)|omega)))|(have hr:=hr.trans (QAL (by first|exact g18|exact g12|exact g7|exact .inl g18|exact .inr g18|exact fun h=>g18 h.2|exact fun h=>g18 h.1|exact⟨g12,g18⟩|exact not_or.2 ⟨g12,g18⟩|(simp[g18,g12,g7,g3];done)|omega)))|(have hr:=hr.trans (QAD (by first|exact g18|exact g12|exact g7|exact .inl g18|exact .inr g18|exact fun h=>g18 h.2|exact fun h=>g18 h.1|exact⟨g12,g18⟩|exact not_or.2 ⟨g12,g18⟩|(simp[g18,g12,g7,g3];done)|omega)))|skip
         refine wp_seq_k fun K36 hK36=>JC<|oM 34 (pT p 0)<|oN 35 p 0<|oF 36 (fW0 p)<|oF 37 (fR13 p) ?_
         have b37:=hn.at_.ms.r.i
         refine oL 38 (ld8 (hn.at_.cell 13 (.int .u8 (s4.r.i)) fun _ _ _=>rfl))<|oA 4 (.int .u8 (s4.r.i)) ?_
         refine JT ?_
         try simp only[Act.put,sA,sB,sC]
         refine JK<|hK36 _ _<|wp_seq_k fun K38 hK38=>wp_seq_k fun K39 hK39=>JC<|oM 39 (.int .i64 (y))<|oJ 40 (.int .i64 (y)) (.int .i64 (3)) (.bool (true)) (egI _ _ _ _ _) (fun w=>by rw[Zi,show (y==3)=true from by first|(simp;omega)|simp[*]]) ?_
         refine JT ?_
         try simp only[Act.put,sA,sB,sC]
         refine JK<|hK39 _ _ ?_
         refine wp_cond_true (by kernel_rfl) ?_
         first|(have hr:=hr.trans (Ja (by first|exact g18|exact g12|exact g7|exact .inl g18|exact .inr g18|exact fun h=>g18 h.2|exact fun h=>g18 h.1|exact⟨g12,g18⟩|exact not_or.2 ⟨g12,g18⟩|(simp[g18,g12,g7,g3];done)|omega)))|(have hr:=hr.trans (JP (by first|exact g18|exact g12|exact g7|exact .inl g18|exact .inr g18|exact fun h=>g18 h.2|exact fun h=>g18 h.1|exact⟨g12,g18⟩|exact not_or.2 ⟨g12,g18⟩|(simp[g18,g12,g7,g3];done)|omega)))|(have hr:=hr.trans (QAL (by first|exact g18|exact g12|exact g7|exact .inl g18|exact .inr g18|exact fun h=>g18 h.2|exact fun h=>g18 h.1|exact⟨g12,g18⟩|exact not_or.2 ⟨g12,g18⟩|(simp[g18,g12,g7,g3];done)|omega)))|(have hr:=hr.trans (QAD (by first|exact g18|exact g12|exact g7|exact .inl g18|exact .inr g18|exact fun h=>g18 h.2|exact fun h=>g18 h.1|exact⟨g12,g18⟩|exact not_or.2 ⟨g12,g18⟩|(simp[g18,g12,g7,g3];done)|omega)))|skip
         refine JC<|oM 41 (pT p 0)<|oN 42 p 0<|oF 43 (fW0 p)<|oF 44 (fR14 p) ?_
         have b40:=hn.at_.ms.r.r
         refine oL 45 (ld8 (hn.at_.cell 14 (.int .u8 (s4.r.r)) fun _ _ _=>rfl))<|oA 4 (.int .u8 (s4.r.r)) ?_
         refine JT ?_
         try simp only[Act.put,sA,sB,sC]
         refine JK<|hK38 _ _<|wp_seq_k fun K41 hK41=>JC<|oM 46 (.int .u8 (s4.r.r))<|oC (.int .u8 (JD s4.r.r)) (j7 s4.r.r (b40).1 (b40).2 _) ?_
         intro w42 hb
         have hn:=hn.below hb
         refine oC (.agg #[.bool (isM (JD s4.r.r) 7),.bool (isM (JD s4.r.r) 6),.bool (isM (JD s4.r.r) 5),.bool (isM (JD s4.r.r) 4),.bool (isM (JD s4.r.r) 3),.bool (isM (JD s4.r.r) 2),.bool (isM (JD s4.r.r) 1),.bool (isM (JD s4.r.r) 0)]) (Qn (JD s4.r.r) (QD _).1 (QD _).2 _) ?_
         intro w43 hb
         have hn:=hn.below hb
         refine QMm 5 hn rfl rfl rfl ?_
         intro w44 L hLp hLB hL0 hL hn
         refine QTE (isM (JD s4.r.r) 7) (isM (JD s4.r.r) 6) (isM (JD s4.r.r) 5) (isM (JD s4.r.r) 4) (isM (JD s4.r.r) 3) (isM (JD s4.r.r) 2) (isM (JD s4.r.r) 1) (isM (JD s4.r.r) 0) hn hL hLp hLB hL0 rfl rfl rfl (by kernel_rfl) (by kernel_rfl) ?_
         intro w45 hL hn
         refine JT ?_
         try simp only[Act.put,sA,sB,sC]
         refine JK<|hK41 _ _<|wp_seq_k fun K46 hK46=>JC<|oM 49 (pT p 0)<|oN 50 p 0<|oF 51 (fW0 p)<|oF 52 (fR16 p)<|oL 53 (ldB (hn.at_.cell 16 (.bool (s4.r.iff2)) fun _ _ _=>rfl))<|oI 54 (pT L 0) (.int .i64 (5)) (pT L 5) (QOq L _) ?_
         refine QMb (i:=5) (s4.r.iff2) (jk (isM (JD s4.r.r) 7) (isM (JD s4.r.r) 6) (isM (JD s4.r.r) 5) (isM (JD s4.r.r) 4) (isM (JD s4.r.r) 3) s4.r.iff2 (isM (JD s4.r.r) 1) (isM (JD s4.r.r) 0)) hn hL hLp hLB hL0 rfl rfl rfl (by kernel_rfl) (by kernel_rfl) rfl rfl ?_
         intro w47 hL hn
         refine JT ?_
         try simp only[Act.put,sA,sB,sC]
         refine JK<|hK46 _ _<|wp_seq_k fun K48 hK48=>JC<|oM 55 (pT p 0)<|oC (.bool (isM s4.f 0)) (QEb  hn.at_) ?_
         intro w49 hk
         have hL:=hL.besides hk.bes hLp hLp
         have hn:=hn.after hk
         refine oI 57 (pT L 0) (.int .i64 (7)) (pT L 7) (QOj L _) ?_
         refine QMb (i:=7) (isM s4.f 0) (jk (isM (JD s4.r.r) 7) (isM (JD s4.r.r) 6) (isM (JD s4.r.r) 5) (isM (JD s4.r.r) 4) (isM (JD s4.r.r) 3) s4.r.iff2 (isM (JD s4.r.r) 1) (isM s4.f 0)) hn hL hLp hLB hL0 rfl rfl rfl (by kernel_rfl) (by kernel_rfl) rfl rfl ?_
         intro w50 hL hn
         refine JT ?_
         try simp only[Act.put,sA,sB,sC]
         refine JK<|hK48 _ _<|JC<|oM 58 (pT p 0)<|oM 59 (.int .u8 (s4.r.r))<|oL 60 (ld8b hL)<|oC (.int .u8 (mkM (isM (JD s4.r.r) 7) (isM (JD s4.r.r) 6) (isM (JD s4.r.r) 5) (isM (JD s4.r.r) 4) (isM (JD s4.r.r) 3) s4.r.iff2 (isM (JD s4.r.r) 1) (isM s4.f 0))) (QK (isM (JD s4.r.r) 7) (isM (JD s4.r.r) 6) (isM (JD s4.r.r) 5) (isM (JD s4.r.r) 4) (isM (JD s4.r.r) 3) s4.r.iff2 (isM (JD s4.r.r) 1) (isM s4.f 0) _) ?_
         intro w51 hb
         have hL:=hL.below hb hL.lt
         have hn:=hn.below hb
         refine oC (.tuple #[]) (Qb s4.r.r (b40) (mkM (isM (JD s4.r.r) 7) (isM (JD s4.r.r) 6) (isM (JD s4.r.r) 5) (isM (JD s4.r.r) 4) (isM (JD s4.r.r) 3) s4.r.iff2 (isM (JD s4.r.r) 1) (isM s4.f 0)) (Qj _ _ _ _ _ _ _ _) hn.at_) ?_
         intro w52 hk
         have hL:=hL.besides hk.bes hLp hLp
         have hn:=hn.after hk
         refine JT ?_
         try simp only[Act.put,sA,sB,sC]
         refine Q8 ?_
         refine ZT rfl rfl ?_
         exact OutY.ok (hr.trans (QDx _ _ _)) hn
 · have g3:¬y < 4:=by simpa using h3
   have hr:=hr.trans (JP g3)
   refine JB<|JE<|QTt hK1<|zQ hn<|coB<|coR<|kBj 16 (.int .i64 (y)) (.int .i64 (0)) (.bool (false)) (egI _ _ _ _ _) (fun w=>by rw[Zi,show (y==0)=false from by first|(simp;omega)|simp[*]])<|zE hn<|coF ?_
   first|have hr:=pZ hr|have hr:=qZ hr|have hr:=pbZ hr|have hr:=qbZ hr|skip
   refine coR<|kBj 24 (.int .i64 (y)) (.int .i64 (1)) (.bool (false)) (egI _ _ _ _ _) (fun w=>by rw[Zi,show (y==1)=false from by first|(simp;omega)|simp[*]])<|zE hn<|coF ?_
   first|have hr:=pZ hr|have hr:=qZ hr|have hr:=pbZ hr|have hr:=qbZ hr|skip
   refine coS<|coR<|kBj 32 (.int .i64 (y)) (.int .i64 (2)) (.bool (false)) (egI _ _ _ _ _) (fun w=>by rw[Zi,show (y==2)=false from by first|(simp;omega)|simp[*]])<|zE hn<|coF ?_
   first|have hr:=pZ hr|have hr:=qZ hr|have hr:=pbZ hr|have hr:=qbZ hr|skip
   refine coZ<|kBj 33 (.int .i64 (y)) (.int .i64 (3)) (.bool (false)) (egI _ _ _ _ _) (fun w=>by rw[Zi,show (y==3)=false from by first|(simp;omega)|simp[*]])<|zE hn<|coF ?_
   first|have hr:=pZ hr|have hr:=qZ hr|have hr:=pbZ hr|have hr:=qbZ hr|skip
   refine coS<|zQ hn<|zIf hr (fun g60 hr=>?_) fun g60 hr=>?_
   · refine JE<|eoT<|coJ (y==4) (fun h61=>absurd h61 (by first|(simp;omega)|simp[*]))<|fun h61=>?_
     first|have hr:=pZ hr|have hr:=qZ hr|have hr:=pbZ hr|have hr:=qbZ hr|skip
     exact have b63:=hn.at_.ms.r.hl;coR<|zR 6 hn<|zX (Xn s.r.hl (b63) hn.at_) hn hr<|fun v64 s64 z64 w64 hk64 hn hr=>zE hn<|coR<|zR 1 hn<|zY (Jt 4 hn.at_) hn hr<|fun s66 z66 w66 hn hr=>wT<|coR<|zR 1 hn<|kBj 77 (.int .i64 (y)) (.int .i64 (4)) (.bool (true)) (egI _ _ _ _ _) (fun w=>by rw[Zi,show (y==4)=true from by first|(simp;omega)|simp[*]])<|have b68:=Jv hn.at_.ms;zR 1 hn<|zAA (w_a hn.at_) hn<|fun w69 hn=>have b70:=QU hn.at_.ms;zR 2 hn<|zAA (w_f hn.at_) hn<|fun w71 hn=>zBB (QEz true s66.a v64 s66.f (b68) (hk64) (b70) _) hn<|fun w72 hn=>zE hn<|have b74:=hn.at_.ms.r.hl;coR<|zR 7 hn<|zY (XK s66.r.hl (b74) (QEP true s66.a v64) (QDM _ _ _ (b68) (hk64)) hn.at_) hn hr<|fun s75 z75 w75 hn hr=>wT<|coR<|zR 3 hn<|zAA (Qb (Z1 true s66.a v64) (Zj _ _ _ (b68) (hk64)) (qO (Z1 true s66.a v64) (isM s66.f 0)) (zU _ _) hn.at_) hn<|fun w77 hn=>wT<|have b78:=hn.at_.ms.r.hl;coZ<|zFs hn (.u_wz _ ((((s75.af (Z1 true s66.a v64) (qO (Z1 true s66.a v64) (isM s66.f 0))).r.hl)+1)%65536)) (hn.at_.ms.u_wz (Wd16.mod _))<|fun w79 hn=>eoB<|eoV (OutY.ok (dZ hr) hn)
   refine coZ<|zE hn<|zIf hr (fun g80 hr=>?_) fun g80 hr=>?_
   · exact have b82:=hn.at_.ms.r.hl;coR<|zR 6 hn<|zX (Xn s.r.hl (b82) hn.at_) hn hr<|fun v83 s83 z83 w83 hk83 hn hr=>zE hn<|coR<|zR 1 hn<|zY (Jt 4 hn.at_) hn hr<|fun s85 z85 w85 hn hr=>wT<|coR<|zR 1 hn<|kBj 77 (.int .i64 (y)) (.int .i64 (4)) (.bool (false)) (egI _ _ _ _ _) (fun w=>by rw[Zi,show (y==4)=false from by first|(simp;omega)|simp[*]])<|have b87:=Jv hn.at_.ms;zR 1 hn<|zAA (w_a hn.at_) hn<|fun w88 hn=>have b89:=QU hn.at_.ms;zR 2 hn<|zAA (w_f hn.at_) hn<|fun w90 hn=>zBB (QEz false s85.a v83 s85.f (b87) (hk83) (b89) _) hn<|fun w91 hn=>zE hn<|have b93:=hn.at_.ms.r.hl;coR<|zR 7 hn<|zY (XK s85.r.hl (b93) (QEP false s85.a v83) (QDM _ _ _ (b87) (hk83)) hn.at_) hn hr<|fun s94 z94 w94 hn hr=>wT<|coR<|zR 3 hn<|zAA (Qb (Z1 false s85.a v83) (Zj _ _ _ (b87) (hk83)) (qO (Z1 false s85.a v83) (isM s85.f 0)) (zU _ _) hn.at_) hn<|fun w96 hn=>wT<|have b97:=hn.at_.ms.r.hl;coZ<|zFs hn (.u_wz _ ((((s94.af (Z1 false s85.a v83) (qO (Z1 false s85.a v83) (isM s85.f 0))).r.hl)+1)%65536)) (hn.at_.ms.u_wz (Wd16.mod _))<|fun w98 hn=>eoB<|eoV (OutY.ok (dZ hr) hn)
   exact JE<|eoB<|eoV (OutY.ok (dZ hr) hn)
end Go.Proofs.YtkgaeamdhhceiaaGreatDoor
