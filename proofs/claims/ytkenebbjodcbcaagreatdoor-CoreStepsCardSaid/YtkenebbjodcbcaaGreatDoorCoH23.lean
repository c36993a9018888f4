/- Contracts and facts that the claim's proof wants (several texts in one). -/
import Derived.Test.YtkenebbjodcbcaaGreatDoorCoH21
namespace Go.Proofs.YtkenebbjodcbcaaGreatDoor
open Go.RowKit
set_option linter.unusedVariables false
set_option linter.unusedSimpArgs false
set_option maxRecDepth 20000
set_option maxHeartbeats 20000000
theorem QRo (o:Bool)(c:Int)(hAc:B8 c){s:Ws} {xs:List Int} {z:Zs} {w:World} {p B:Nat}(h:AtW w p B s xs z) :
 Calls Tryz.prog 83 #[pT p 0,.bool (o),.int .u8 (c)] w (OutY w p B xs ((QHX o c s).runZ xs z)):=by
 have hn:=NowW.begin h
 have hr:(QHX o c s).runZ xs z=(QHX o c s).runZ xs z:=rfl
 go_enter Tryz.func83,Tryz.ntmps83
 refine JB<|zQs hn (.u_plane _ (0)) (hn.at_.ms.u_plane)<|fun w2 hn=>zQs hn (.u_code _ (0)) (hn.at_.ms.u_code (⟨by decide,by decide⟩))<|fun w4 hn=>coR<|zR 1 hn<|kE (qk c (hAc) _)<|zE hn<|zQ hn<|coS<|zQ hn<|coI (o) (fun h10=>?_) fun h10=>?_
 · have g10:o=true:=by simpa using h10
   refine have hr:=hr.trans (JX g10);coZ<|zE hn<|coR<|zR 2 hn<|zX (QFU 6 hn.at_) hn hr<|fun v12 s12 z12 w12 hk12 hn hr=>zE hn<|zQ hn<|coS<|zQ hn<|coT ?_
   first|have hr:=pZ hr|have hr:=qZ hr|have hr:=pbZ hr|have hr:=qbZ hr|skip
   refine coR<|zR 1 hn<|zY (Jo 1 hn.at_) hn hr<|fun s17 z17 w17 hn hr=>wT<|have b18:=hn.at_.ms.r.wz;coZ<|zR 5 hn<|kE (Xd s17.r.wz (b18).1 (b18).2 _)<|zE hn<|coS<|zQ hn<|coB<|zQ hn<|zIf hr (fun g23 hr=>?_) fun g23 hr=>?_
   · refine have b25:=QP hn.at_.ms;coR<|zR 3 hn<|zAA (w_f hn.at_) hn<|fun w26 hn=>zBB (QGi (fy c) v12 s17.f (hk12) (b25) _ ) hn<|fun w27 hn=>zE hn<|have b29:=Js hn.at_.ms;coR<|zR 2 hn<|zAA (w_a hn.at_) hn<|fun w30 hn=>zR 1 hn<|zAA (QU s17.a (b29) (doF (fy c) v12 s17.f) (QB8 _ _ _ (b25)) hn.at_) hn<|fun w31 hn=>wT<|coZ<|zF hn<|eoB<|eoT<|coR<|zR 3 hn<|zY (Xy 6 (doR (fy c) v12 s17.f) (zO _ _ _ (hk12)) hn.at_) hn hr<|fun s33 z33 w33 hn hr=>wT<|coR<|zR 2 hn ?_
     rcases Bool.eq_false_or_eq_true (o) with h35|h35
     · have g35:o=true:=by simpa using h35
       refine tell 88 h35<|zE hn<|coI ((fz c) != 6) (fun h36=>?_) fun h36=>?_
       · have g36:¬(fz c)=6:=by simpa using h36
         exact have hr:=hr.trans (JX (by simp[g36,g35,g23,g10]));coZ<|zR 3 hn<|zYt (Xy (fz c) (doR (fy c) v12 s17.f) (zO _ _ _ (hk12)) hn.at_) hn hr<|fun s37 z37 w37 hn hr=>woE<|eoV (OutY.ok hr hn)
       have g36:(fz c)=6:=by simpa using h36
       exact have hr:=hr.trans (JP (by simp[g36,g35,g23,g10]));JC<|eoV (OutY.ok (dZ hr) hn)
     have g35:¬o=true:=by simpa using h35
     exact tell 88 h35<|zE hn<|coF<|have hr:=hr.trans (JP (by simp[g35,g23,g10]));JC<|eoV (OutY.ok (dZ hr) hn)
   refine zQ hn<|zIf hr (fun g39 hr=>?_) fun g39 hr=>?_
   · exact have b41:=Js hn.at_.ms;coR<|zR 2 hn<|zAA (w_a hn.at_) hn<|fun w42 hn=>have b43:=QP hn.at_.ms;zR 4 hn<|zAA (w_f hn.at_) hn<|fun w44 hn=>zBB (QCP (fy c) v12 (s17.r.wz / 256) s17.f (hk12) ((b18).hi) (b43) _) hn<|fun w45 hn=>zAA (QU s17.a (b41) (zr (fy c) v12 (s17.r.wz / 256) s17.f) (zc _ _ _ _) hn.at_) hn<|fun w46 hn=>wT<|JF<|Z3<|Jp<|qx (OutY.ok (dZ hr) hn)
   refine zQ hn<|zIf hr (fun g48 hr=>?_) fun g48 hr=>?_
   · refine coZ<|zR 2 hn<|kE (QL v12 (fy c) false (hk12).1 (hk12).2 _)<|zF hn<|eoB<|eoT<|coR<|zR 3 hn<|zY (Xy 6 (JQ v12 (fy c) false) (B8.with (hk12) _ _) hn.at_) hn hr<|fun s51 z51 w51 hn hr=>wT<|coR<|zR 2 hn ?_
     rcases Bool.eq_false_or_eq_true (o) with h53|h53
     · have g53:o=true:=by simpa using h53
       refine tell 88 h53<|zE hn<|coI ((fz c) != 6) (fun h54=>?_) fun h54=>?_
       · have g54:¬(fz c)=6:=by simpa using h54
         exact have hr:=hr.trans (JX (by simp[g54,g53,g48,g39,g23,g10]));coZ<|zR 3 hn<|zYt (Xy (fz c) (JQ v12 (fy c) false) (B8.with (hk12) _ _) hn.at_) hn hr<|fun s55 z55 w55 hn hr=>woE<|eoV (OutY.ok hr hn)
       have g54:(fz c)=6:=by simpa using h54
       exact have hr:=hr.trans (JP (by simp[g54,g53,g48,g39,g23,g10]));JC<|eoV (OutY.ok (dZ hr) hn)
     have g53:¬o=true:=by simpa using h53
     exact tell 88 h53<|zE hn<|coF<|have hr:=hr.trans (JP (by simp[g53,g48,g39,g23,g10]));JC<|eoV (OutY.ok (dZ hr) hn)
   refine coZ<|zR 2 hn<|kE (QL v12 (fy c) true (hk12).1 (hk12).2 _)<|zF hn<|eoB<|eoT<|coR<|zR 3 hn<|zY (Xy 6 (JQ v12 (fy c) true) (B8.with (hk12) _ _) hn.at_) hn hr<|fun s58 z58 w58 hn hr=>wT<|coR<|zR 2 hn ?_
   rcases Bool.eq_false_or_eq_true (o) with h60|h60
   · have g60:o=true:=by simpa using h60
     refine tell 88 h60<|zE hn<|coI ((fz c) != 6) (fun h61=>?_) fun h61=>?_
     · have g61:¬(fz c)=6:=by simpa using h61
       exact have hr:=hr.trans (JX (by simp[g61,g60,g48,g39,g23,g10]));coZ<|zR 3 hn<|zYt (Xy (fz c) (JQ v12 (fy c) true) (B8.with (hk12) _ _) hn.at_) hn hr<|fun s62 z62 w62 hn hr=>woE<|eoV (OutY.ok hr hn)
     have g61:(fz c)=6:=by simpa using h61
     exact have hr:=hr.trans (JP (by simp[g61,g60,g48,g39,g23,g10]));JC<|eoV (OutY.ok (dZ hr) hn)
   have g60:¬o=true:=by simpa using h60
   exact tell 88 h60<|zE hn<|coF<|have hr:=hr.trans (JP (by simp[g60,g48,g39,g23,g10]));JC<|eoV (OutY.ok (dZ hr) hn)
 have g10:¬o=true:=by simpa using h10
 refine have hr:=hr.trans (JP g10);JC<|eoT<|coR<|zR 2 hn<|zX (QFU (fz c) hn.at_) hn hr<|fun v64 s64 z64 w64 hk64 hn hr=>zE hn<|zQ hn<|coS<|zQ hn<|zIf hr (fun g68 hr=>?_) fun g68 hr=>?_
 · refine coR<|zR 1 hn<|zY (Jo 1 hn.at_) hn hr<|fun s70 z70 w70 hn hr=>wT<|have b71:=hn.at_.ms.r.wz;coZ<|zR 5 hn<|kE (Xd s70.r.wz (b71).1 (b71).2 _)<|zE hn<|coS<|zQ hn<|coB<|zQ hn<|zIf hr (fun g76 hr=>?_) fun g76 hr=>?_
   · refine have b78:=QP hn.at_.ms;coR<|zR 3 hn<|zAA (w_f hn.at_) hn<|fun w79 hn=>zBB (QGi (fy c) v64 s70.f (hk64) (b78) _ ) hn<|fun w80 hn=>zE hn<|have b82:=Js hn.at_.ms;coR<|zR 2 hn<|zAA (w_a hn.at_) hn<|fun w83 hn=>zR 1 hn<|zAA (QU s70.a (b82) (doF (fy c) v64 s70.f) (QB8 _ _ _ (b78)) hn.at_) hn<|fun w84 hn=>wT<|coZ<|zF hn<|eoB<|eoT<|coR<|zR 3 hn<|zY (Xy (fz c) (doR (fy c) v64 s70.f) (zO _ _ _ (hk64)) hn.at_) hn hr<|fun s86 z86 w86 hn hr=>wT<|coR<|zR 2 hn ?_
     rcases Bool.eq_false_or_eq_true (o) with h88|h88
     · have g88:o=true:=by simpa using h88
       exact tell 88 h88<|zE hn<|coK ((fz c) != 6) (fun h89=>absurd h89 (by first|(simp;omega)|simp[*]))<|fun h89=>have hr:=hr.trans (JP (by simp[g88,g76,g68,g10]));JC<|eoV (OutY.ok (dZ hr) hn)
     have g88:¬o=true:=by simpa using h88
     exact tell 88 h88<|zE hn<|coF<|have hr:=hr.trans (JP (by simp[g88,g76,g68,g10]));JC<|eoV (OutY.ok (dZ hr) hn)
   refine zQ hn<|zIf hr (fun g91 hr=>?_) fun g91 hr=>?_
   · exact have b93:=Js hn.at_.ms;coR<|zR 2 hn<|zAA (w_a hn.at_) hn<|fun w94 hn=>have b95:=QP hn.at_.ms;zR 4 hn<|zAA (w_f hn.at_) hn<|fun w96 hn=>zBB (QCP (fy c) v64 (s70.r.wz / 256) s70.f (hk64) ((b71).hi) (b95) _) hn<|fun w97 hn=>zAA (QU s70.a (b93) (zr (fy c) v64 (s70.r.wz / 256) s70.f) (zc _ _ _ _) hn.at_) hn<|fun w98 hn=>wT<|JF<|Z3<|Jp<|qx (OutY.ok (dZ hr) hn)
   refine zQ hn<|zIf hr (fun g100 hr=>?_) fun g100 hr=>?_
   · refine coZ<|zR 2 hn<|kE (QL v64 (fy c) false (hk64).1 (hk64).2 _)<|zF hn<|eoB<|eoT<|coR<|zR 3 hn<|zY (Xy (fz c) (JQ v64 (fy c) false) (B8.with (hk64) _ _) hn.at_) hn hr<|fun s103 z103 w103 hn hr=>wT<|coR<|zR 2 hn ?_
     rcases Bool.eq_false_or_eq_true (o) with h105|h105
     · have g105:o=true:=by simpa using h105
       exact tell 88 h105<|zE hn<|coK ((fz c) != 6) (fun h106=>absurd h106 (by first|(simp;omega)|simp[*]))<|fun h106=>have hr:=hr.trans (JP (by simp[g105,g100,g91,g76,g68,g10]));JC<|eoV (OutY.ok (dZ hr) hn)
     have g105:¬o=true:=by simpa using h105
     exact tell 88 h105<|zE hn<|coF<|have hr:=hr.trans (JP (by simp[g105,g100,g91,g76,g68,g10]));JC<|eoV (OutY.ok (dZ hr) hn)
   refine coZ<|zR 2 hn<|kE (QL v64 (fy c) true (hk64).1 (hk64).2 _)<|zF hn<|eoB<|eoT<|coR<|zR 3 hn<|zY (Xy (fz c) (JQ v64 (fy c) true) (B8.with (hk64) _ _) hn.at_) hn hr<|fun s109 z109 w109 hn hr=>wT<|coR<|zR 2 hn ?_
   rcases Bool.eq_false_or_eq_true (o) with h111|h111
   · have g111:o=true:=by simpa using h111
     exact tell 88 h111<|zE hn<|coK ((fz c) != 6) (fun h112=>absurd h112 (by first|(simp;omega)|simp[*]))<|fun h112=>have hr:=hr.trans (JP (by simp[g111,g100,g91,g76,g68,g10]));JC<|eoV (OutY.ok (dZ hr) hn)
   have g111:¬o=true:=by simpa using h111
   exact tell 88 h111<|zE hn<|coF<|have hr:=hr.trans (JP (by simp[g111,g100,g91,g76,g68,g10]));JC<|eoV (OutY.ok (dZ hr) hn)
 refine JC<|eoT<|coS<|zQ hn<|coB<|zQ hn<|zIf hr (fun g116 hr=>?_) fun g116 hr=>?_
 · refine have b118:=QP hn.at_.ms;coR<|zR 3 hn<|zAA (w_f hn.at_) hn<|fun w119 hn=>zBB (QGi (fy c) v64 s64.f (hk64) (b118) _ ) hn<|fun w120 hn=>zE hn<|have b122:=Js hn.at_.ms;coR<|zR 2 hn<|zAA (w_a hn.at_) hn<|fun w123 hn=>zR 1 hn<|zAA (QU s64.a (b122) (doF (fy c) v64 s64.f) (QB8 _ _ _ (b118)) hn.at_) hn<|fun w124 hn=>wT<|coZ<|zF hn<|eoB<|eoT<|coR<|zR 3 hn<|zY (Xy (fz c) (doR (fy c) v64 s64.f) (zO _ _ _ (hk64)) hn.at_) hn hr<|fun s126 z126 w126 hn hr=>wT<|coR<|zR 2 hn ?_
   rcases Bool.eq_false_or_eq_true (o) with h128|h128
   · have g128:o=true:=by simpa using h128
     exact tell 88 h128<|zE hn<|coJ ((fz c) != 6) (fun h129=>absurd h129 (by first|(simp;omega)|simp[*]))<|fun h129=>have hr:=hr.trans (JX (by simp[g128,g116,g68,g10]));coZ<|zR 3 hn<|zYt (Xy (fz c) (doR (fy c) v64 s64.f) (zO _ _ _ (hk64)) hn.at_) hn hr<|fun s130 z130 w130 hn hr=>woE<|eoV (OutY.ok hr hn)
   have g128:¬o=true:=by simpa using h128
   exact tell 88 h128<|zE hn<|coF<|have hr:=hr.trans (JP (by simp[g128,g116,g68,g10]));JC<|eoV (OutY.ok (dZ hr) hn)
 refine zQ hn<|zIf hr (fun g132 hr=>?_) fun g132 hr=>?_
 · exact have b134:=Js hn.at_.ms;coR<|zR 2 hn<|zAA (w_a hn.at_) hn<|fun w135 hn=>have b136:=QP hn.at_.ms;zR 4 hn<|zAA (w_f hn.at_) hn<|fun w137 hn=>zBB (QCP (fy c) v64 v64 s64.f (hk64) (hk64) (b136) _) hn<|fun w138 hn=>zAA (QU s64.a (b134) (zr (fy c) v64 v64 s64.f) (zc _ _ _ _) hn.at_) hn<|fun w139 hn=>wT<|JF<|Z3<|Jp<|qx (OutY.ok (dZ hr) hn)
 refine zQ hn<|zIf hr (fun g141 hr=>?_) fun g141 hr=>?_
 · refine coZ<|zR 2 hn<|kE (QL v64 (fy c) false (hk64).1 (hk64).2 _)<|zF hn<|eoB<|eoT<|coR<|zR 3 hn<|zY (Xy (fz c) (JQ v64 (fy c) false) (B8.with (hk64) _ _) hn.at_) hn hr<|fun s144 z144 w144 hn hr=>wT<|coR<|zR 2 hn ?_
   rcases Bool.eq_false_or_eq_true (o) with h146|h146
   · have g146:o=true:=by simpa using h146
     exact tell 88 h146<|zE hn<|coJ ((fz c) != 6) (fun h147=>absurd h147 (by first|(simp;omega)|simp[*]))<|fun h147=>have hr:=hr.trans (JX (by simp[g146,g141,g132,g116,g68,g10]));coZ<|zR 3 hn<|zYt (Xy (fz c) (JQ v64 (fy c) false) (B8.with (hk64) _ _) hn.at_) hn hr<|fun s148 z148 w148 hn hr=>woE<|eoV (OutY.ok hr hn)
   have g146:¬o=true:=by simpa using h146
   exact tell 88 h146<|zE hn<|coF<|have hr:=hr.trans (JP (by simp[g146,g141,g132,g116,g68,g10]));JC<|eoV (OutY.ok (dZ hr) hn)
 refine coZ<|zR 2 hn<|kE (QL v64 (fy c) true (hk64).1 (hk64).2 _)<|zF hn<|eoB<|eoT<|coR<|zR 3 hn<|zY (Xy (fz c) (JQ v64 (fy c) true) (B8.with (hk64) _ _) hn.at_) hn hr<|fun s151 z151 w151 hn hr=>wT<|coR<|zR 2 hn ?_
 rcases Bool.eq_false_or_eq_true (o) with h153|h153
 · have g153:o=true:=by simpa using h153
   exact tell 88 h153<|zE hn<|coJ ((fz c) != 6) (fun h154=>absurd h154 (by first|(simp;omega)|simp[*]))<|fun h154=>have hr:=hr.trans (JX (by simp[g153,g141,g132,g116,g68,g10]));coZ<|zR 3 hn<|zYt (Xy (fz c) (JQ v64 (fy c) true) (B8.with (hk64) _ _) hn.at_) hn hr<|fun s155 z155 w155 hn hr=>woE<|eoV (OutY.ok hr hn)
 have g153:¬o=true:=by simpa using h153
 exact tell 88 h153<|zE hn<|coF<|have hr:=hr.trans (JP (by simp[g153,g141,g132,g116,g68,g10]));JC<|eoV (OutY.ok (dZ hr) hn)
theorem QQa (pA:Int)(qA:Int){s:Ws} {xs:List Int} {z:Zs} {w:World} {p B:Nat}(h:AtW w p B s xs z) :
 Calls Tryz.prog 112 #[pT p 0,.int .i64 (pA),.int .i64 (qA)] w (OutY w p B xs ((QFQ pA qA s).runZ xs z)):=by
 have hn:=NowW.begin h
 have hr:(QFQ pA qA s).runZ xs z=(QFQ pA qA s).runZ xs z:=rfl
 go_enter Tryz.func112,Tryz.ntmps112
 refine JB<|coR<|zR 1 hn<|zX (QCg hn.at_) hn hr<|fun v2 s2 z2 w2 hk2 hn hr=>zE hn<|coS<|zQ hn<|zIf hr (fun g5 hr=>?_) fun g5 hr=>?_
 · exact have b7:=hn.at_.ms.r;coR<|zR 5 hn<|zBB (Qo s2.r 0 pA _) hn<|fun w8 hn=>zE hn<|coR<|zR 3 hn<|kE (Q4 (Jk s2.r 0 pA) ((b7).pair _ _).1 ((b7).pair _ _).2 _)<|zY (Q3 v2 (hk2) ((Jk s2.r 0 pA)%256) (((b7).pair _ _).lo8) hn.at_) hn hr<|fun s11 z11 w11 hn hr=>wT<|coZ<|zR 4 hn<|kE (Xd (Jk s2.r 0 pA) ((b7).pair _ _).1 ((b7).pair _ _).2 _)<|zY (Q3 ((v2+1)%65536) (Wd16.mod _) ((Jk s2.r 0 pA) / 256) (((b7).pair _ _).hi) hn.at_) hn hr<|fun s13 z13 w13 hn hr=>wT<|coZ<|zFs hn (.u_wz _ ((v2+1)%65536)) (hn.at_.ms.u_wz (Wd16.mod _))<|fun w14 hn=>eoV (OutY.ok (dZ hr) hn)
 exact coR<|zR 2 hn<|zX (Xb v2 (hk2) hn.at_) hn hr<|fun v16 s16 z16 w16 hk16 hn hr=>zE hn<|coR<|zR 3 hn<|zX (Xb ((v2+1)%65536) (Wd16.mod _) hn.at_) hn hr<|fun v18 s18 z18 w18 hk18 hn hr=>zE hn<|zPz 12 hn<|fun w19 hn=>have b20:=hn.at_.ms.r;zD [0,1,2,3,4,5,6,7] hn<|zDe 8 (QV v18 v16 (hk18).1 (hk18).2 (hk16).1 (hk16).2 _) hn<|zDb 9 (XN s18.r 0 pA (256*v18+v16) _) hn<|fun w22 hn=>zD [10,11] hn<|poE<|zEs hn _ (hn.at_.ms.u_rg ((b20).setPair _ _ (Wd16.mk8 (hk18) (hk16))))<|fun w23 hn=>coZ<|zFs hn (.u_wz _ ((v2+1)%65536)) (hn.at_.ms.u_wz (Wd16.mod _))<|fun w24 hn=>eoV (OutY.ok (dZ hr) hn)
def Ws.hlBy (s:Ws)(d:Int):Ws:={ s with r:={ s.r with hl:=JA s.r.hl d } }
def Ws.deBy (s:Ws)(d:Int):Ws:={ s with r:={ s.r with de:=JA s.r.de d } }
def Ws.bcDown (s:Ws):Ws:={ s with r:={ s.r with bc:=(s.r.bc-1)%65536 } }
def QCz (y z f:Int)(s:Ws):Tr Ws :=
 if 5 < y∧Ji z f=true then (JO 5 (s.af s.a f)).bind fun s=>if z < 2 then .done ((s.pc ((s.r.pc-2)%65536)).wz (((s.r.pc-2)%65536+1)%65536)) else .done (s.pc ((s.r.pc-2)%65536)) else .done (s.af s.a f)
def QA0 (d y z:Int)(s:Ws):Tr Ws :=
 if z=0 then (Jm s.r.hl s).bind fun b=>(Jb b.2.r.de b.1 b.2).bind fun s=>(JO 2 s).bind fun s =>
  QCz y z (moveF (s.deBy d).bcDown.a b.1 (s.deBy d).bcDown.r.bc (s.deBy d).bcDown.f) ((s.deBy d).bcDown.hlBy d) else
 if z=1 then (Jm s.r.hl s).bind fun b=>(JO 5 b.2).bind fun s =>
  QCz y z (Zu (s.wz (JA s.r.wz d)).bcDown.a b.1 (s.wz (JA s.r.wz d)).bcDown.r.bc (s.wz (JA s.r.wz d)).bcDown.f) ((s.wz (JA s.r.wz d)).bcDown.hlBy d) else
 if z=2 then (JO 1 s).bind fun s=>(QF ⟨4,s.r.bc,0,4⟩ s).bind fun b=>(Jb (b.2.wz (JA b.2.r.bc d)).less.r.hl b.1 (b.2.wz (JA b.2.r.bc d)).less).bind fun s =>
  QCz y z (Qs b.1 (b.1+byC ((s.hlBy d).r.bc%256) d) (b.2.wz (JA b.2.r.bc d)).left) (s.hlBy d) else
 (JO 1 s).bind fun s=>(Jm s.r.hl s).bind fun b=>(QF ⟨5,b.2.less.r.bc,b.1,4⟩ (b.2.less.wz (JA b.2.less.r.bc d))).bind fun c =>
   QCz y z (Qs b.1 (b.1+(c.2.hlBy d).r.hl%256) b.2.left) (c.2.hlBy d)
def QDz (y z:Int)(s:Ws):Tr Ws:=if y%2=1 then QA0 (-1) y z s else QA0 1 y z s
def Ws.modeTo (s:Ws)(m:Int):Ws:={ s with r:={ s.r with mode:=m } }
def edW (c:Int)(s:Ws):Tr Ws :=
 if fx c=2∧fz c < 4∧3 < fy c then QDz (fy c) (fz c) s else if fx c≠1 then .done s else
 if fz c=0 then (QF ⟨4,s.r.bc,0,4⟩ s).bind fun b =>
  if fy c=6 then .done ((b.2.wz ((b.2.r.bc+1)%65536)).af (b.2.wz ((b.2.r.bc+1)%65536)).a (JQ (Jn b.1) 0 (isM (b.2.wz ((b.2.r.bc+1)%65536)).f 0)))
  else setW (fy c) b.1 ((b.2.wz ((b.2.r.bc+1)%65536)).af (b.2.wz ((b.2.r.bc+1)%65536)).a (JQ (Jn b.1) 0 (isM (b.2.wz ((b.2.r.bc+1)%65536)).f 0))) else
 if fz c=1 then (if fy c=6 then (QF ⟨5,s.r.bc,0,4⟩ s).bind fun r=>.done (r.2.wz ((r.2.r.bc+1)%65536)) else (jH (fy c) s).bind fun b=>(QF ⟨5,b.2.r.bc,b.1,4⟩ b.2).bind fun r=>.done (r.2.wz ((r.2.r.bc+1)%65536))) else
 if fz c=2 then (JO 7 s).bind fun s =>
  if fq c=1 then .done (((s.wz ((s.r.hl+1)%65536)).hlTo (X0 (s.wz ((s.r.hl+1)%65536)).r.hl (Jk (s.wz ((s.r.hl+1)%65536)).r 0 (fp c)) (isM (s.wz ((s.r.hl+1)%65536)).f 0))).af
   ((s.wz ((s.r.hl+1)%65536)).hlTo (X0 (s.wz ((s.r.hl+1)%65536)).r.hl (Jk (s.wz ((s.r.hl+1)%65536)).r 0 (fp c)) (isM (s.wz ((s.r.hl+1)%65536)).f 0))).a (zZ (s.wz ((s.r.hl+1)%65536)).r.hl (Jk (s.wz ((s.r.hl+1)%65536)).r 0 (fp c)) (isM (s.wz ((s.r.hl+1)%65536)).f 0)))
  else .done (((s.wz ((s.r.hl+1)%65536)).hlTo (jr (s.wz ((s.r.hl+1)%65536)).r.hl (Jk (s.wz ((s.r.hl+1)%65536)).r 0 (fp c)) (isM (s.wz ((s.r.hl+1)%65536)).f 0))).af
   ((s.wz ((s.r.hl+1)%65536)).hlTo (jr (s.wz ((s.r.hl+1)%65536)).r.hl (Jk (s.wz ((s.r.hl+1)%65536)).r 0 (fp c)) (isM (s.wz ((s.r.hl+1)%65536)).f 0))).a (QAB (s.wz ((s.r.hl+1)%65536)).r.hl (Jk (s.wz ((s.r.hl+1)%65536)).r 0 (fp c)) (isM (s.wz ((s.r.hl+1)%65536)).f 0))) else
 if fz c=3 then QFQ (fp c) (fq c) s else
 if fz c=4 then .done (s.af (QQ 0 s.a false) (QE 0 s.a false)) else
 if fz c=5 then (QCK s).bind fun s=>.done { s with r:={ s.r with iff1:=s.r.iff2 } } else
 if fz c=6 then (if fy c%4=2 then .done (s.modeTo 1) else if fy c%4=3 then .done (s.modeTo 2) else .done (s.modeTo 0)) else QN2 (fy c) s
def QOR (plane:Int)(s:Ws):Tr Ws:=(JU (s.at_ plane s.code)).bind fun e=>(JU ((e.2.know (JA e.2.hl (JR e.1))).wz (JA e.2.hl (JR e.1)))).bind fun c=>(JO 2 c.2).bind fun s=>QHX true c.1 s
def QEW (plane b:Int)(s:Ws):Tr Ws :=
 if b=237 then (Je s).bind fun c=>edW c.1 (c.2.at_ 0 0) else
 if b=203∧plane=0 then (Je s).bind fun c=>QHX false c.1 c.2 else
 if b=203 then QOR plane s else QAY plane b s
theorem mod2 (y:Int):y%2=0∨y%2=1:=by omega
theorem QRw {x k:Int}(h0:0≤x)(h:x%2=k)(w:World):(binOp .rem 3 (.int .i64 x) (.int .i64 2)).run Tryz.prog w=.ok (.int .i64 k) w:=by
 have e:x.tmod 2=k:=by rw[Int.tmod_eq_emod_of_nonneg h0];exact h
 have e2:IntKind.i64.wrap k=k:=by rw[IntKind.wrap_i64];omega
 simp[go_sem,e,e2]
section
variable {ops:Array Oper} {Q:Exit→Act→World→Prop} {a:Act} {w w0:World} {o:Oper} {rest:List Oper} {p B:Nat} {s:Ws} {xs:List Int} {z:Zs} {x y:Operand}
@[reducible] def QRJ:Array Value:=#[.int .i64 0,.int .i64 0,.int .i64 1,.int .i64 2]
theorem QSd (ho:o.op=.buildSlice 149 4 #[(0,.const (.int .i64 0)),(1,.const (.int .i64 0)),(2,.const (.int .i64 1)),(3,.const (.int .i64 2))]):(execOp a.eval o).run Tryz.prog w=.ok (.value (.slice (some ⟨w.heap.size,0,none⟩) 4 4)) (w.alloc (.cells QRJ 3)):=by
 have h:(Instr.buildSlice 149 4 #[(0,.int .i64 0),(1,.int .i64 0),(2,.int .i64 1),(3,.int .i64 2)]).run Tryz.prog w=.ok (.slice (some ⟨w.heap.size,0,none⟩) 4 4) (w.alloc (.cells QRJ 3)):=by simp[go_sem]
 unfold execOp
 simp only[ho,List.map_toArray,List.map_cons,List.map_nil,Act.eval,Sem.run_bind,h,Result.andThen_ok,Sem.run_pure]
theorem QTm (d:Tmp)(hn:NowW w0 p B s xs z w)(hd:o.dst=some d)(hg:o.guard=none)(ho:o.op=.buildSlice 149 4 #[(0,.const (.int .i64 0)),(1,.const (.int .i64 0)),(2,.const (.int .i64 1)),(3,.const (.int .i64 2))])
 (h:∀ w' M,Row w' M 3 QRJ→NowW w0 p B s xs z w'→WL Tryz.prog ops Q rest (a.put (some d) (.slice (some ⟨M,0,none⟩) 4 4)) w'):WL Tryz.prog ops Q (o :: rest) a w :=
 Jw d _ hd (JN hg) (QSd ho) (h _ _ (Row.new w _ QRJ) (hn.below (Below.alloc (Below.refl _ _) (Nat.le_refl _) _)))
theorem QTM (M:Nat)(w:World):(Instr.indexAt 149 (.slice (some ⟨M,0,none⟩) 4 4) (.int .i64 0)).run Tryz.prog w=.ok (pT M 0) w:=by simp[go_sem,Addr.add]
theorem QSq (M:Nat)(w:World):(Instr.indexAt 149 (.slice (some ⟨M,0,none⟩) 4 4) (.int .i64 1)).run Tryz.prog w=.ok (pT M 1) w:=by simp[go_sem,Addr.add]
theorem QSo (M:Nat)(w:World):(Instr.indexAt 149 (.slice (some ⟨M,0,none⟩) 4 4) (.int .i64 2)).run Tryz.prog w=.ok (pT M 2) w:=by simp[go_sem,Addr.add]
theorem QSH (M:Nat)(w:World):(Instr.indexAt 149 (.slice (some ⟨M,0,none⟩) 4 4) (.int .i64 3)).run Tryz.prog w=.ok (pT M 3) w:=by simp[go_sem,Addr.add]
theorem AtW.far {L:Nat}(h:AtW w p B s xs z)(hp:L≠p)(hB:B≤L)(vs:List Value)(o:Nat):AtW (w.setCells L o vs) p B s xs z:=by
 obtain⟨⟨A,cap,hc,hr,hby⟩,hl,h8,hm,ht,hg⟩:=h
 have k:∀ b,b < B→(w.setCells L o vs).heap[b]? = w.heap[b]?:=fun b hlt=>q4 L b (by omega) _ _ _
 exact⟨⟨A,cap,hc,hr.setFar (Ne.symm hp) vs o,hby.keep k⟩,hl,h8,hm,ht,hg⟩
theorem NowW.far {L:Nat}(h:NowW w0 p B s xs z w)(hp:L≠p)(hB:B≤L)(h0:w0.heap.size≤L)(vs:List Value)(o:Nat):NowW w0 p B s xs z (w.setCells L o vs) :=
 ⟨h.at_.far hp hB vs o,h.bes.setCells (.inr (.inr h0)) _ _⟩
@[reducible] def jO (b0 b1 b2 b3 b4 b5 b6 b7:Bool):Array Value:=#[.bool b0,.bool b1,.bool b2,.bool b3,.bool b4,.bool b5,.bool b6,.bool b7]
theorem QRj:(Tryz.prog.info? 163).map (·.size)=some 8:=by kernel_rfl
theorem QSb (w:World):(Instr.alloc 163 true (.tuple #[])).run Tryz.prog w=.ok (pT w.heap.size 0) (w.alloc (.cells (jO false false false false false false false false) 163)):=by
 simp[go_sem]
theorem QK1 (d:Tmp)(hn:NowW w0 p B s xs z w)(hd:o.dst=some d)(hg:o.guard=none)(ho:o.op=.alloc 163)
 (h:∀ w' L,L≠p→B≤L→w0.heap.size≤L→Row w' L 163 (jO false false false false false false false false)→NowW w0 p B s xs z w'→WL Tryz.prog ops Q rest (a.put (some d) (pT L 0)) w'):WL Tryz.prog ops Q (o :: rest) a w:=by
 have hlt:=hn.at_.lt
 have hlow:=hn.at_.low
 refine Jw d (pT w.heap.size 0) hd (JN hg) (Qg ho (QSb _)) ?_
 exact h _ _ (by omega) (by omega) hn.bes.size (Row.new w _ _) (hn.below (Below.alloc (Below.refl _ _) (Nat.le_refl _) _))
theorem QRY {L:Nat} {c0 c1 c2 c3 c4 c5 c6 c7:Bool}(b0 b1 b2 b3 b4 b5 b6 b7:Bool)(hn:NowW w0 p B s xs z w)(hL:Row w L 163 (jO c0 c1 c2 c3 c4 c5 c6 c7))(hLp:L≠p)(hLB:B≤L)(hL0:w0.heap.size≤L)(hd:o.dst=none)(hg:o.guard=none)(ho:o.op=.store 163 x y)
 (hx:a.eval x=pT L 0)(hy:a.eval y=.agg (jO b0 b1 b2 b3 b4 b5 b6 b7))
 (h:∀ w',Row w' L 163 (jO b0 b1 b2 b3 b4 b5 b6 b7)→NowW w0 p B s xs z w'→WL Tryz.prog ops Q rest (a.put none undef) w'):WL Tryz.prog ops Q (o :: rest) a w :=
 Xo hd (JN hg) (Qy ho hx hy (run_storeAt_mid w L 0 _ (jO b0 b1 b2 b3 b4 b5 b6 b7) hL.there QRj (by simp[Value.oneCell']))) (h _ (hL.setAll rfl) (hn.far hLp hLB hL0 _ _))
theorem QLL {L i:Nat} {cs:Array Value}(v:Bool)(cs':Array Value){V:Value}(hn:NowW w0 p B s xs z w)(hL:Row w L 163 cs)(hLp:L≠p)(hLB:B≤L)(hL0:w0.heap.size≤L)(hd:o.dst=none)(hg:o.guard=none)(ho:o.op=.store 4 x y)
 (hx:a.eval x=pT L i)(hy:a.eval y=.bool v)(hi:cs[i]? = some V)(hcs:cs.setIfInBounds i (.bool v)=cs')
 (h:∀ w',Row w' L 163 cs'→NowW w0 p B s xs z w'→WL Tryz.prog ops Q rest (a.put none undef) w'):WL Tryz.prog ops Q (o :: rest) a w :=
 Xo hd (JN hg) (Qy ho hx hy (stB ((hL.cell i).trans hi) (hL.frozen i))) (h _ (hcs▸hL.set i (.bool v)) (hn.far hLp hLB hL0 [.bool v] i))
theorem ld8b {L:Nat} {b0 b1 b2 b3 b4 b5 b6 b7:Bool}(hL:Row w L 163 (jO b0 b1 b2 b3 b4 b5 b6 b7)):(Instr.loadAt 163 (pT L 0)).run Tryz.prog w=.ok (.agg (jO b0 b1 b2 b3 b4 b5 b6 b7)) w :=
 run_loadAt_mid w L 0 163 (jO b0 b1 b2 b3 b4 b5 b6 b7).toList _ hL.range Tryz.underlying163 rfl QRj
theorem QOG (L:Nat)(w:World):(Instr.indexAt 163 (pT L 0) (.int .i64 5)).run Tryz.prog w=.ok (pT L 5) w:=by simp[go_sem,Addr.add]
theorem QOe (L:Nat)(w:World):(Instr.indexAt 163 (pT L 0) (.int .i64 7)).run Tryz.prog w=.ok (pT L 7) w:=by simp[go_sem,Addr.add]
end
theorem QT4 (y:Int)(hAy:0≤y∧y≤7){s:Ws} {xs:List Int} {z:Zs} {w:World} {p B:Nat}(h:AtW w p B s xs z) :
 Calls Tryz.prog 115 #[pT p 0,.int .i64 (y)] w (OutY w p B xs ((QN2 y s).runZ xs z)):=by
 have hn:=NowW.begin h
 have hr:(QN2 y s).runZ xs z=(QN2 y s).runZ xs z:=rfl
 go_enter Tryz.func115,Tryz.ntmps115
 refine wp_seq_k fun K1 hK1=>wp_seq_k fun K2 hK2=>JD<|oM 10 (.int .i64 (y))<|oB 11 (egI _ _ _ _ _) (bLtI y 4) ?_
 refine JS ?_
 try simp only[Act.put,sA,sB,sC]
 refine JM<|hK2 _ _ ?_
 refine wp_cond_split (t:=decide (y < 4)) (by kernel_rfl) (fun h3=>?_) (fun h3=>?_)
 · have g3:y < 4:=by simpa using h3
   have hr:=hr.trans (JX g3)
   refine JD<|oM 12 (pT p 0) ?_
   refine QCu hn rfl (by kernel_rfl) (Jo 1 hn.at_) ?_
   intro s4 z4 w4 hX hn
   have hr:=hr.trans (QBi hX _)
   refine JS ?_
   try simp only[Act.put,sA,sB,sC]
   refine JM<|hK1 _ _<|wp_seq_k fun K5 hK5=>JD<|oM 14 (.int .i64 (y)) ?_
   refine JS ?_
   try simp only[Act.put,sA,sB,sC]
   refine JM<|hK5 _ _ ?_
   refine wp_block ?_
   refine wp_seq_k fun K6 hK6=>JD<|oB 16 (egI _ _ _ _ _) (ZP y 0)<|oA 15 (.bool (y==0)) ?_
   refine JS ?_
   try simp only[Act.put,sA,sB,sC]
   refine JM<|hK6 _ _ ?_
   refine wp_cond_split (t:=y==0) (by kernel_rfl) (fun h7=>?_) (fun h7=>?_)
   · have g7:y=0:=by simpa using h7
     have hr:=hr.trans (JX g7)
     exact JB<|have b8:=Js hn.at_.ms;coZ<|zR 2 hn<|zAA (w_a hn.at_) hn<|fun w9 hn=>zFs hn (.u_i _ (s4.a)) (hn.at_.ms.u_i (b8))<|fun w10 hn=>eoB<|eoV (OutY.ok (dZ hr) hn)
   · have g7:¬y=0:=by simpa using h7
     have hr:=hr.trans (JP g7)
     refine wp_seq_k fun K11 hK11=>JD<|oB 24 (egI _ _ _ _ _) (ZP y 1)<|oA 23 (.bool (y==1)) ?_
     refine JS ?_
     try simp only[Act.put,sA,sB,sC]
     refine JM<|hK11 _ _ ?_
     refine wp_cond_split (t:=y==1) (by kernel_rfl) (fun h12=>?_) (fun h12=>?_)
     · have g12:y=1:=by simpa using h12
       have hr:=hr.trans (JX g12)
       exact JB<|have b13:=Js hn.at_.ms;coZ<|zR 2 hn<|zAA (w_a hn.at_) hn<|fun w14 hn=>zFs hn (.u_r _ (s4.a)) (hn.at_.ms.u_r (b13))<|fun w15 hn=>eoB<|eoV (OutY.ok (dZ hr) hn)
     · have g12:¬y=1:=by simpa using h12
       have hr:=hr.trans (JP g12)
       refine wp_seq_k fun K16 hK16=>wp_seq_k fun K17 hK17=>JD<|oB 32 (egI _ _ _ _ _) (ZP y 2)<|oA 31 (.bool (y==2)) ?_
       refine JS ?_
       try simp only[Act.put,sA,sB,sC]
       refine JM<|hK17 _ _ ?_
       refine wp_cond_split (t:=y==2) (by kernel_rfl) (fun h18=>?_) (fun h18=>?_)
       · have g18:y=2:=by simpa using h18
         have hr:=hr.trans (JP (by simp[g18,g12,g7,g3]))
         refine wp_skip ?_
         refine JM<|hK16 _ _ ?_
         refine wp_cond_split (t:=y==2) (by kernel_rfl) (fun h19=>?_) (fun h19=>?_)
         rotate_left
         · exact JB<|absurd h19 (by first|(simp;omega)|simp[*])
         have hr:=hr.trans (JX g18)
         refine wp_seq_k fun K20 hK20=>JD<|oM 34 (pT p 0)<|oN 35 p 0<|oF 36 (fW0 p)<|oF 37 (fR13 p) ?_
         have b21:=hn.at_.ms.r.i
         refine oL 38 (ld8 (hn.at_.cell 13 (.int .u8 (s4.r.i)) fun _ _ _=>rfl))<|oA 4 (.int .u8 (s4.r.i)) ?_
         refine JS ?_
         try simp only[Act.put,sA,sB,sC]
         refine JM<|hK20 _ _<|wp_seq_k fun K22 hK22=>wp_seq_k fun K23 hK23=>JD<|oM 39 (.int .i64 (y))<|oJ 40 (.int .i64 (y)) (.int .i64 (3)) (.bool (false)) (egI _ _ _ _ _) (fun w=>by rw[ZP,show (y==3)=false from by first|(simp;omega)|simp[*]]) ?_
         refine JS ?_
         try simp only[Act.put,sA,sB,sC]
         refine JM<|hK23 _ _ ?_
         refine wp_cond_false (by kernel_rfl) ?_
         first|(have hr:=hr.trans (JX (by first|exact g18|exact g12|exact g7|exact .inl g18|exact .inr g18|exact fun h=>g18 h.2|exact fun h=>g18 h.1|exact⟨g12,g18⟩|exact not_or.2 ⟨g12,g18⟩|(simp[g18,g12,g7,g3];done)|omega)))|(have hr:=hr.trans (JP (by first|exact g18|exact g12|exact g7|exact .inl g18|exact .inr g18|exact fun h=>g18 h.2|exact fun h=>g18 h.1|exact⟨g12,g18⟩|exact not_or.2 ⟨g12,g18⟩|(simp[g18,g12,g7,g3];done)|omega)))|(have hr:=hr.trans (zG (by first|exact g18|exact g12|exact g7|exact .inl g18|exact .inr g18|exact fun h=>g18 h.2|exact fun h=>g18 h.1|exact⟨g12,g18⟩|exact not_or.2 ⟨g12,g18⟩|(simp[g18,g12,g7,g3];done)|omega)))|(have hr:=hr.trans (q9 (by first|exact g18|exact g12|exact g7|exact .inl g18|exact .inr g18|exact fun h=>g18 h.2|exact fun h=>g18 h.1|exact⟨g12,g18⟩|exact not_or.2 ⟨g12,g18⟩|(simp[g18,g12,g7,g3];done)|omega)))|skip
         refine wp_skip ?_
         refine JM<|hK22 _ _<|wp_seq_k fun K24 hK24=>JD<|oM 46 (.int .u8 (s4.r.i))<|oC (.int .u8 (JE s4.r.i)) (jp s4.r.i (b21).1 (b21).2 _) ?_
         intro w25 hb
         have hn:=hn.below hb
         refine oC (.agg #[.bool (isM (JE s4.r.i) 7),.bool (isM (JE s4.r.i) 6),.bool (isM (JE s4.r.i) 5),.bool (isM (JE s4.r.i) 4),.bool (isM (JE s4.r.i) 3),.bool (isM (JE s4.r.i) 2),.bool (isM (JE s4.r.i) 1),.bool (isM (JE s4.r.i) 0)]) (Qc (JE s4.r.i) (J7 _).1 (J7 _).2 _) ?_
         intro w26 hb
         have hn:=hn.below hb
         refine QK1 5 hn rfl rfl rfl ?_
         intro w27 L hLp hLB hL0 hL hn
         refine QRY (isM (JE s4.r.i) 7) (isM (JE s4.r.i) 6) (isM (JE s4.r.i) 5) (isM (JE s4.r.i) 4) (isM (JE s4.r.i) 3) (isM (JE s4.r.i) 2) (isM (JE s4.r.i) 1) (isM (JE s4.r.i) 0) hn hL hLp hLB hL0 rfl rfl rfl (by kernel_rfl) (by kernel_rfl) ?_
         intro w28 hL hn
         refine JS ?_
         try simp only[Act.put,sA,sB,sC]
         refine JM<|hK24 _ _<|wp_seq_k fun K29 hK29=>JD<|oM 49 (pT p 0)<|oN 50 p 0<|oF 51 (fW0 p)<|oF 52 (fR16 p)<|oL 53 (ldB (hn.at_.cell 16 (.bool (s4.r.iff2)) fun _ _ _=>rfl))<|oI 54 (pT L 0) (.int .i64 (5)) (pT L 5) (QOG L _) ?_
         refine QLL (i:=5) (s4.r.iff2) (jO (isM (JE s4.r.i) 7) (isM (JE s4.r.i) 6) (isM (JE s4.r.i) 5) (isM (JE s4.r.i) 4) (isM (JE s4.r.i) 3) s4.r.iff2 (isM (JE s4.r.i) 1) (isM (JE s4.r.i) 0)) hn hL hLp hLB hL0 rfl rfl rfl (by kernel_rfl) (by kernel_rfl) rfl rfl ?_
         intro w30 hL hn
         refine JS ?_
         try simp only[Act.put,sA,sB,sC]
         refine JM<|hK29 _ _<|wp_seq_k fun K31 hK31=>JD<|oM 55 (pT p 0)<|oC (.bool (isM s4.f 0)) (QDp  hn.at_) ?_
         intro w32 hk
         have hL:=hL.besides hk.bes hLp hLp
         have hn:=hn.after hk
         refine oI 57 (pT L 0) (.int .i64 (7)) (pT L 7) (QOe L _) ?_
         refine QLL (i:=7) (isM s4.f 0) (jO (isM (JE s4.r.i) 7) (isM (JE s4.r.i) 6) (isM (JE s4.r.i) 5) (isM (JE s4.r.i) 4) (isM (JE s4.r.i) 3) s4.r.iff2 (isM (JE s4.r.i) 1) (isM s4.f 0)) hn hL hLp hLB hL0 rfl rfl rfl (by kernel_rfl) (by kernel_rfl) rfl rfl ?_
         intro w33 hL hn
         refine JS ?_
         try simp only[Act.put,sA,sB,sC]
         refine JM<|hK31 _ _<|JD<|oM 58 (pT p 0)<|oM 59 (.int .u8 (s4.r.i))<|oL 60 (ld8b hL)<|oC (.int .u8 (mkM (isM (JE s4.r.i) 7) (isM (JE s4.r.i) 6) (isM (JE s4.r.i) 5) (isM (JE s4.r.i) 4) (isM (JE s4.r.i) 3) s4.r.iff2 (isM (JE s4.r.i) 1) (isM s4.f 0))) (QD (isM (JE s4.r.i) 7) (isM (JE s4.r.i) 6) (isM (JE s4.r.i) 5) (isM (JE s4.r.i) 4) (isM (JE s4.r.i) 3) s4.r.iff2 (isM (JE s4.r.i) 1) (isM s4.f 0) _) ?_
         intro w34 hb
         have hL:=hL.below hb hL.lt
         have hn:=hn.below hb
         refine oC (.tuple #[]) (QU s4.r.i (b21) (mkM (isM (JE s4.r.i) 7) (isM (JE s4.r.i) 6) (isM (JE s4.r.i) 5) (isM (JE s4.r.i) 4) (isM (JE s4.r.i) 3) s4.r.iff2 (isM (JE s4.r.i) 1) (isM s4.f 0)) (QW _ _ _ _ _ _ _ _) hn.at_) ?_
         intro w35 hk
         have hL:=hL.besides hk.bes hLp hLp
         have hn:=hn.after hk
         refine JS ?_
         try simp only[Act.put,sA,sB,sC]
         refine Qt ?_
         refine X8 rfl rfl ?_
         exact OutY.ok (hr.trans (QDB _ _ _)) hn
       · have g18:¬y=2:=by simpa using h18
         have hr:=hr.trans (JX (by omega))
         refine JD<|oJ 33 (.int .i64 (y)) (.int .i64 (3)) (.bool (true)) (egI _ _ _ _ _) (fun w=>by rw[ZP,show (y==3)=true from by first|(simp;omega)|simp[*]])<|oA 31 (.bool (true)) ?_
         refine JS ?_
         try simp only[Act.put,sA,sB,sC]
         refine JM<|hK16 _ _ ?_
         refine wp_cond_true (by kernel_rfl) ?_
         first|(have hr:=hr.trans (JX (by first|exact g18|exact g12|exact g7|exact .inl g18|exact .inr g18|exact fun h=>g18 h.2|exact fun h=>g18 h.1|exact⟨g12,g18⟩|exact not_or.2 ⟨g12,g18⟩|(simp[g18,g12,g7,g3];done)|omega)))|(have hr:=hr.trans (JP (by first|exact g18|exact g12|exact g7|exact .inl g18|exact .inr g18|exact fun h=>g18 h.2|exact fun h=>g18 h.1|exact⟨g12,g18⟩|exact not_or.2 ⟨g12,g18⟩|(simp[g18,g12,g7,g3];done)|omega)))|(have hr:=hr.trans (zG (by first|exact g18|exact g12|exact g7|exact .inl g18|exact .inr g18|exact fun h=>g18 h.2|exact fun h=>g18 h.1|exact⟨g12,g18⟩|exact not_or.2 ⟨g12,g18⟩|(simp[g18,g12,g7,g3];done)|omega)))|(have hr:=hr.trans (q9 (by first|exact g18|exact g12|exact g7|exact .inl g18|exact .inr g18|exact fun h=>g18 h.2|exact fun h=>g18 h.1|exact⟨g12,g18⟩|exact not_or.2 ⟨g12,g18⟩|(simp[g18,g12,g7,g3];done)|omega)))|skip
         refine wp_seq_k fun K36 hK36=>JD<|oM 34 (pT p 0)<|oN 35 p 0<|oF 36 (fW0 p)<|oF 37 (fR13 p) ?_
         have b37:=hn.at_.ms.r.i
         refine oL 38 (ld8 (hn.at_.cell 13 (.int .u8 (s4.r.i)) fun _ _ _=>rfl))<|oA 4 (.int .u8 (s4.r.i)) ?_
         refine JS ?_
         try simp only[Act.put,sA,sB,sC]
         refine JM<|hK36 _ _<|wp_seq_k fun K38 hK38=>wp_seq_k fun K39 hK39=>JD<|oM 39 (.int .i64 (y))<|oJ 40 (.int .i64 (y)) (.int .i64 (3)) (.bool (true)) (egI _ _ _ _ _) (fun w=>by rw[ZP,show (y==3)=true from by first|(simp;omega)|simp[*]]) ?_
         refine JS ?_
         try simp only[Act.put,sA,sB,sC]
         refine JM<|hK39 _ _ ?_
         refine wp_cond_true (by kernel_rfl) ?_
         first|(have hr:=hr.trans (JX (by first|exact g18|exact g12|exact g7|exact .inl g18|exact .inr g18|exact fun h=>g18 h.2|exact fun h=>g18 h.1|exact⟨g12,g18⟩|exact not_or.2 ⟨g12,g18⟩|(simp[g18,g12,g7,g3];done)|omega)))|(have hr:=hr.trans (JP (by first|exact g18|exact g12|exact g7|exact .inl g18|exact .inr g18|exact fun h=>g18 h.2|exact fun h=>g18 h.1|exact⟨g12,g18⟩|exact not_or.2 ⟨g12,g18⟩|(simp[g18,g12,g7,g3];done)|omega)))|(have hr:=hr.trans (zG (by first|exact g18|exact g12|exact g7|exact .inl g18|exact .inr g18|exact fun h=>g18 h.2|exact fun h=>g18 h.1|exact⟨g12,g18⟩|exact not_or.2 ⟨g12,g18⟩|(simp[g18,g12,g7,g3];done)|omega)))|(have hr:=hr.trans (q9 (by first|exact g18|exact g12|exact g7|exact .inl g18|exact .inr g18|exact fun h=>g18 h.2|exact fun h=>g18 h.1|exact⟨g12,g18⟩|exact not_or.2 ⟨g12,g18⟩|(simp[g18,g12,g7,g3];done)|omega)))|skip
         refine JD<|oM 41 (pT p 0)<|oN 42 p 0<|oF 43 (fW0 p)<|oF 44 (fR14 p) ?_
         have b40:=hn.at_.ms.r.r
         refine oL 45 (ld8 (hn.at_.cell 14 (.int .u8 (s4.r.r)) fun _ _ _=>rfl))<|oA 4 (.int .u8 (s4.r.r)) ?_
         refine JS ?_
         try simp only[Act.put,sA,sB,sC]
         refine JM<|hK38 _ _<|wp_seq_k fun K41 hK41=>JD<|oM 46 (.int .u8 (s4.r.r))<|oC (.int .u8 (JE s4.r.r)) (jp s4.r.r (b40).1 (b40).2 _) ?_
         intro w42 hb
         have hn:=hn.below hb
         refine oC (.agg #[.bool (isM (JE s4.r.r) 7),.bool (isM (JE s4.r.r) 6),.bool (isM (JE s4.r.r) 5),.bool (isM (JE s4.r.r) 4),.bool (isM (JE s4.r.r) 3),.bool (isM (JE s4.r.r) 2),.bool (isM (JE s4.r.r) 1),.bool (isM (JE s4.r.r) 0)]) (Qc (JE s4.r.r) (J7 _).1 (J7 _).2 _) ?_
         intro w43 hb
         have hn:=hn.below hb
         refine QK1 5 hn rfl rfl rfl ?_
         intro w44 L hLp hLB hL0 hL hn
         refine QRY (isM (JE s4.r.r) 7) (isM (JE s4.r.r) 6) (isM (JE s4.r.r) 5) (isM (JE s4.r.r) 4) (isM (JE s4.r.r) 3) (isM (JE s4.r.r) 2) (isM (JE s4.r.r) 1) (isM (JE s4.r.r) 0) hn hL hLp hLB hL0 rfl rfl rfl (by kernel_rfl) (by kernel_rfl) ?_
         intro w45 hL hn
         refine JS ?_
         try simp only[Act.put,sA,sB,sC]
         refine JM<|hK41 _ _<|wp_seq_k fun K46 hK46=>JD<|oM 49 (pT p 0)<|oN 50 p 0<|oF 51 (fW0 p)<|oF 52 (fR16 p)<|oL 53 (ldB (hn.at_.cell 16 (.bool (s4.r.iff2)) fun _ _ _=>rfl))<|oI 54 (pT L 0) (.int .i64 (5)) (pT L 5) (QOG L _) ?_
         refine QLL (i:=5) (s4.r.iff2) (jO (isM (JE s4.r.r) 7) (isM (JE s4.r.r) 6) (isM (JE s4.r.r) 5) (isM (JE s4.r.r) 4) (isM (JE s4.r.r) 3) s4.r.iff2 (isM (JE s4.r.r) 1) (isM (JE s4.r.r) 0)) hn hL hLp hLB hL0 rfl rfl rfl (by kernel_rfl) (by kernel_rfl) rfl rfl ?_
         intro w47 hL hn
         refine JS ?_
         try simp only[Act.put,sA,sB,sC]
         refine JM<|hK46 _ _<|wp_seq_k fun K48 hK48=>JD<|oM 55 (pT p 0)<|oC (.bool (isM s4.f 0)) (QDp  hn.at_) ?_
         intro w49 hk
         have hL:=hL.besides hk.bes hLp hLp
         have hn:=hn.after hk
         refine oI 57 (pT L 0) (.int .i64 (7)) (pT L 7) (QOe L _) ?_
         refine QLL (i:=7) (isM s4.f 0) (jO (isM (JE s4.r.r) 7) (isM (JE s4.r.r) 6) (isM (JE s4.r.r) 5) (isM (JE s4.r.r) 4) (isM (JE s4.r.r) 3) s4.r.iff2 (isM (JE s4.r.r) 1) (isM s4.f 0)) hn hL hLp hLB hL0 rfl rfl rfl (by kernel_rfl) (by kernel_rfl) rfl rfl ?_
         intro w50 hL hn
         refine JS ?_
         try simp only[Act.put,sA,sB,sC]
         refine JM<|hK48 _ _<|JD<|oM 58 (pT p 0)<|oM 59 (.int .u8 (s4.r.r))<|oL 60 (ld8b hL)<|oC (.int .u8 (mkM (isM (JE s4.r.r) 7) (isM (JE s4.r.r) 6) (isM (JE s4.r.r) 5) (isM (JE s4.r.r) 4) (isM (JE s4.r.r) 3) s4.r.iff2 (isM (JE s4.r.r) 1) (isM s4.f 0))) (QD (isM (JE s4.r.r) 7) (isM (JE s4.r.r) 6) (isM (JE s4.r.r) 5) (isM (JE s4.r.r) 4) (isM (JE s4.r.r) 3) s4.r.iff2 (isM (JE s4.r.r) 1) (isM s4.f 0) _) ?_
         intro w51 hb
         have hL:=hL.below hb hL.lt
         have hn:=hn.below hb
         refine oC (.tuple #[]) (QU s4.r.r (b40) (mkM (isM (JE s4.r.r) 7) (isM (JE s4.r.r) 6) (isM (JE s4.r.r) 5) (isM (JE s4.r.r) 4) (isM (JE s4.r.r) 3) s4.r.iff2 (isM (JE s4.r.r) 1) (isM s4.f 0)) (QW _ _ _ _ _ _ _ _) hn.at_) ?_
         intro w52 hk
         have hL:=hL.besides hk.bes hLp hLp
         have hn:=hn.after hk
         refine JS ?_
         try simp only[Act.put,sA,sB,sC]
         refine Qt ?_
         refine X8 rfl rfl ?_
         exact OutY.ok (hr.trans (QDB _ _ _)) hn
 · have g3:¬y < 4:=by simpa using h3
   have hr:=hr.trans (JP g3)
   refine JB<|JC<|QTF hK1<|zQ hn<|coB<|coR<|kBj 16 (.int .i64 (y)) (.int .i64 (0)) (.bool (false)) (egI _ _ _ _ _) (fun w=>by rw[ZP,show (y==0)=false from by first|(simp;omega)|simp[*]])<|zE hn<|coF ?_
   first|have hr:=pZ hr|have hr:=qZ hr|have hr:=pbZ hr|have hr:=qbZ hr|skip
   refine coR<|kBj 24 (.int .i64 (y)) (.int .i64 (1)) (.bool (false)) (egI _ _ _ _ _) (fun w=>by rw[ZP,show (y==1)=false from by first|(simp;omega)|simp[*]])<|zE hn<|coF ?_
   first|have hr:=pZ hr|have hr:=qZ hr|have hr:=pbZ hr|have hr:=qbZ hr|skip
   refine coS<|coR<|kBj 32 (.int .i64 (y)) (.int .i64 (2)) (.bool (false)) (egI _ _ _ _ _) (fun w=>by rw[ZP,show (y==2)=false from by first|(simp;omega)|simp[*]])<|zE hn<|coF ?_
   first|have hr:=pZ hr|have hr:=qZ hr|have hr:=pbZ hr|have hr:=qbZ hr|skip
   refine coZ<|kBj 33 (.int .i64 (y)) (.int .i64 (3)) (.bool (false)) (egI _ _ _ _ _) (fun w=>by rw[ZP,show (y==3)=false from by first|(simp;omega)|simp[*]])<|zE hn<|coF ?_
   first|have hr:=pZ hr|have hr:=qZ hr|have hr:=pbZ hr|have hr:=qbZ hr|skip
   refine coS<|zQ hn<|zIf hr (fun g60 hr=>?_) fun g60 hr=>?_
   · refine JC<|eoT<|coJ (y==4) (fun h61=>absurd h61 (by first|(simp;omega)|simp[*]))<|fun h61=>?_
     first|have hr:=pZ hr|have hr:=qZ hr|have hr:=pbZ hr|have hr:=qbZ hr|skip
     exact have b63:=hn.at_.ms.r.hl;coR<|zR 6 hn<|zX (Xb s.r.hl (b63) hn.at_) hn hr<|fun v64 s64 z64 w64 hk64 hn hr=>zE hn<|coR<|zR 1 hn<|zY (Jo 4 hn.at_) hn hr<|fun s66 z66 w66 hn hr=>wT<|coR<|zR 1 hn<|kBj 77 (.int .i64 (y)) (.int .i64 (4)) (.bool (true)) (egI _ _ _ _ _) (fun w=>by rw[ZP,show (y==4)=true from by first|(simp;omega)|simp[*]])<|have b68:=Js hn.at_.ms;zR 1 hn<|zAA (w_a hn.at_) hn<|fun w69 hn=>have b70:=QP hn.at_.ms;zR 2 hn<|zAA (w_f hn.at_) hn<|fun w71 hn=>zBB (QEP true s66.a v64 s66.f (b68) (hk64) (b70) _) hn<|fun w72 hn=>zE hn<|have b74:=hn.at_.ms.r.hl;coR<|zR 7 hn<|zY (Q3 s66.r.hl (b74) (QDf true s66.a v64) (QCj _ _ _ (b68) (hk64)) hn.at_) hn hr<|fun s75 z75 w75 hn hr=>wT<|coR<|zR 3 hn<|zAA (QU (ZY true s66.a v64) (ZM _ _ _ (b68) (hk64)) (jx (ZY true s66.a v64) (isM s66.f 0)) (qe _ _) hn.at_) hn<|fun w77 hn=>wT<|have b78:=hn.at_.ms.r.hl;coZ<|zFs hn (.u_wz _ ((((s75.af (ZY true s66.a v64) (jx (ZY true s66.a v64) (isM s66.f 0))).r.hl)+1)%65536)) (hn.at_.ms.u_wz (Wd16.mod _))<|fun w79 hn=>eoB<|eoV (OutY.ok (dZ hr) hn)
   refine coZ<|zE hn<|zIf hr (fun g80 hr=>?_) fun g80 hr=>?_
   · exact have b82:=hn.at_.ms.r.hl;coR<|zR 6 hn<|zX (Xb s.r.hl (b82) hn.at_) hn hr<|fun v83 s83 z83 w83 hk83 hn hr=>zE hn<|coR<|zR 1 hn<|zY (Jo 4 hn.at_) hn hr<|fun s85 z85 w85 hn hr=>wT<|coR<|zR 1 hn<|kBj 77 (.int .i64 (y)) (.int .i64 (4)) (.bool (false)) (egI _ _ _ _ _) (fun w=>by rw[ZP,show (y==4)=false from by first|(simp;omega)|simp[*]])<|have b87:=Js hn.at_.ms;zR 1 hn<|zAA (w_a hn.at_) hn<|fun w88 hn=>have b89:=QP hn.at_.ms;zR 2 hn<|zAA (w_f hn.at_) hn<|fun w90 hn=>zBB (QEP false s85.a v83 s85.f (b87) (hk83) (b89) _) hn<|fun w91 hn=>zE hn<|have b93:=hn.at_.ms.r.hl;coR<|zR 7 hn<|zY (Q3 s85.r.hl (b93) (QDf false s85.a v83) (QCj _ _ _ (b87) (hk83)) hn.at_) hn hr<|fun s94 z94 w94 hn hr=>wT<|coR<|zR 3 hn<|zAA (QU (ZY false s85.a v83) (ZM _ _ _ (b87) (hk83)) (jx (ZY false s85.a v83) (isM s85.f 0)) (qe _ _) hn.at_) hn<|fun w96 hn=>wT<|have b97:=hn.at_.ms.r.hl;coZ<|zFs hn (.u_wz _ ((((s94.af (ZY false s85.a v83) (jx (ZY false s85.a v83) (isM s85.f 0))).r.hl)+1)%65536)) (hn.at_.ms.u_wz (Wd16.mod _))<|fun w98 hn=>eoB<|eoV (OutY.ok (dZ hr) hn)
   exact JC<|eoB<|eoV (OutY.ok (dZ hr) hn)
end Go.Proofs.YtkenebbjodcbcaaGreatDoor
