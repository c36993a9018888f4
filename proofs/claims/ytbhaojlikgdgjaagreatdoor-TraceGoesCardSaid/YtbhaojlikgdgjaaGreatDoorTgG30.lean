/- Contracts and facts that the claim's proof wants (several texts in one). -/
import Derived.ProofKit
import Derived.OpenShut
import Derived.ChangeArms
import Derived.Deep.Fields
import Derived.ChangeSlices
import Derived.Deep.SlicePairs
import Derived.Lib.SmallJoins
import Derived.LaidLaws
import Derived.Test.YtbhaojlikgdgjaaGreatDoorTgG29
namespace Go.Proofs.YtbhaojlikgdgjaaGreatDoor
open Go.RowKit
set_option linter.unusedVariables false
set_option linter.unusedSimpArgs false
set_option maxRecDepth 20000
set_option maxHeartbeats 20000000
section
variable {ops:Array Oper} {Q:Exit→Act→World→Prop} {base:List Value} {rest:List Oper} {l:JV} {w:World} {o:Oper}
theorem QIg:(Tryz.prog.info? 9).map (fun i=>(i.zero,i.size,i.bytes))=some (some (.string ⟨#[]⟩),1,16):=by kernel_rfl
theorem qAs (s x:Operand)(bs:Nat)(v:Value)(n:Nat)(got ys:List ByteArray)(A:Option Addr)(m c:Nat)(hbs:bs≤w.heap.size)(hown:w.ownsRow bs 9 1 v n (tvs got))(hy:StrsIn w w.heap.size A ys)(hn:A=none→c=0)(hc:m≤c)(hm:m=ys.length)(hmax:n+m≤1000000)
 (h:∀ v' w',w'.ownsRow bs 9 1 v' (n+m) (tvs (got++ys))→w.grownBy w' v.ownBlock→WO Tryz.prog ops Q base rest (Qu o.dst v' l) w')
 (ho:o.op=.call { callee:=.builtin .append,args:=#[s,x],argTypes:=#[32,32] }:=by exact rfl)(hg:o.guard=none:=by exact rfl)(hs:evO base l s=v:=by kernel_rfl)(hx:evO base l x=.slice A m c:=by kernel_rfl)(hd:Qz o.dst base.length=true:=by kernel_rfl):WO Tryz.prog ops Q base (o :: rest) l w:=by
 cases A with
 | none =>
   obtain rfl:c=0:=hn rfl
   obtain rfl:m=0:=by omega
   obtain rfl:ys=[]:=List.eq_nil_of_length_eq_zero hm.symm
   obtain⟨i0,hi0,hz0,hz1,hz2⟩:=info_parts QIg
   refine⟨fun hi=>⟨?_⟩⟩
   refine wpList_append_own_none hg s x _ ho bs 9 i0 1 Tryz.underlying32 hi0 v n (tvs got) (by rw[Jc hi];exact hs) hown (by rw[Jc hi];exact hx) ?_
   rw[Jt]
   refine ((h v w ?_ (jB (Below.refl _ _) _)).h (Q5 hd hi)).h
   simpa using hown
 | some p =>
   refine QPS s x 32 9 1 16 (.string ⟨#[]⟩) bs v n (tvs got) p m c (tvs ys) hbs hown (by rw[QEL,hm,Nat.mul_one]) (fun j u hu=>?_) (QQP ys) hmax (by omega) (fun v' w' own' gr _=>h v' w' (by rw[←QD8];exact own') gr) (ho:=ho) (hg:=hg) (hs:=hs) (hx:=hx) (hd:=hd)
   obtain⟨q,e,-,h0⟩:=hy j u hu
   injection e with e
   subst e
   exact h0
end
theorem QO8 (N:Nat)(h:N≤200):Qy (N:Int)=N:=by unfold Qy QAR;split<;>omega
theorem QRO (N M:Nat)(w:Wd)(h:N < (J4 (N+M) w).length):(J4 (N+M) w)[N]=Xk (mkW (XF N w).1):=by
 have e:(J4 (N+M) w)[N]=Xk (itW N w):=by simp[J4]
 rw[e]
 exact QE0 ((QCq N (SimW.refl w)).trans (QF9 _).symm)
theorem QEG (g:Rg)(A:Option Addr)(cap:Nat)(ms:List (Int×Int))(A':Option Addr)(cap':Nat)(ps:List Int)(n m:Int)(hg:RgB g)(w:World)
 (hc:ms.length≤cap)(hm:cap≤maxLen)(h16:Jg ms)(hin:CellsIn w w.heap.size A ms)(hn:A=none→cap=0)(hc':ps.length≤cap')(hm':cap'≤maxLen)(h8:Bytes8 ps)(hin':BytesIn w w.heap.size A' ps)(hn':A'=none→cap'=0)(hM:Masks w)(hD:Digits w)(hC:Courses w)(hO:QGl w)(hT:TrTabs w) :
 Calls Tryz.prog 3 #[Zj g (.slice A ms.length cap) (.slice A' ps.length cap'),.int .i64 n,.int .i64 m] w fun e w'=>e=.returned (.bool true)∧Below w.heap.size w w':=by
 have ht:Tabs w w.heap.size:=(NextTabs.mk hM hC hD hO).tabs
 have hA:jH:=QSx ht
 have hI:InW w w.heap.size (Zj g (.slice A ms.length cap) (.slice A' ps.length cap')) ⟨g,ms,ps⟩:=⟨A,cap,A',cap',rfl,hin,hn,hc,hin',hn',hc'⟩
 have hok:OkW ⟨g,ms,ps⟩:=⟨hg,h16,h8⟩
 go_enter Tryz.func3,Tryz.ntmps3
 refine JA<|qQ [] (Many.begin w) fun w1 k1=>coR<|qC (QHG hA w1 (ht.below k1.touch.below) (hT.below k1.touch.below)) k1 fun w2 k2=>qE [] k2 fun w3 k3=>coS<|qQ [] k3 fun w4 k4=>coF<|JE<|eoT<|coS<|coR<|qR 4 [0] k4 fun w8 k8=>?_
 by_cases h1:(ms.length:Int) > 80
 · exact tell 17 (show decide ((ms.length:Int) > 80)=true by simpa using h1)<|qE [] k8 fun w9 k9=>coT<|qQ [] k9 fun wa ka=>JK<|Qh<|Ju (.bool true) ⟨rfl,ka.touch.below⟩
 refine tell 17 (show decide ((ms.length:Int) > 80)=false by simpa using h1)<|qR 5 [0] k8 fun w8 k8=>?_
 by_cases h2:(ps.length:Int) > 40
 · exact tell 22 (show decide ((ps.length:Int) > 40)=true by simpa using h2)<|qE [] k8 fun w9 k9=>coT<|qQ [] k9 fun wa ka=>JK<|Qh<|Ju (.bool true) ⟨rfl,ka.touch.below⟩
 refine tell 22 (show decide ((ps.length:Int) > 40)=false by simpa using h2)<|qR 4 [] k8 fun w8 k8=>?_
 by_cases h3:n < 0
 · exact tell 26 (show decide (n < 0)=true by simpa using h3)<|qE [] k8 fun w9 k9=>coT<|qQ [] k9 fun wa ka=>JK<|Qh<|Ju (.bool true) ⟨rfl,ka.touch.below⟩
 refine tell 26 (show decide (n < 0)=false by simpa using h3)<|qR 4 [] k8 fun w8 k8=>?_
 by_cases h4:m < 0
 · exact tell 30 (show decide (m < 0)=true by simpa using h4)<|qE [] k8 fun w9 k9=>coT<|qQ [] k9 fun wa ka=>JK<|Qh<|Ju (.bool true) ⟨rfl,ka.touch.below⟩
 refine tell 30 (show decide (m < 0)=false by simpa using h4)<|qR 4 [] k8 fun w8 k8=>?_
 by_cases h5:n > 8
 · exact tell 34 (show decide (n > 8)=true by simpa using h5)<|qE [] k8 fun w9 k9=>coT<|qQ [] k9 fun wa ka=>JK<|Qh<|Ju (.bool true) ⟨rfl,ka.touch.below⟩
 refine tell 34 (show decide (n > 8)=false by simpa using h5)<|qR 4 [] k8 fun w8 k8=>?_
 by_cases h6:m > 8
 · exact tell 38 (show decide (m > 8)=true by simpa using h6)<|qE [] k8 fun w9 k9=>coT<|qQ [] k9 fun wa ka=>JK<|Qh<|Ju (.bool true) ⟨rfl,ka.touch.below⟩
 refine tell 38 (show decide (m > 8)=false by simpa using h6)<|qE [] k8 fun w9 k9=>coF<|JE<|eoT<|coR<|qR 2 [0] k9 fun wa ka=>?_
 obtain⟨N,rfl⟩:∃ N:Nat,n=(N:Int):=⟨n.toNat,by omega⟩
 obtain⟨M,rfl⟩:∃ M:Nat,m=(M:Int):=⟨m.toNat,by omega⟩
 have hNl:N≤8:=by omega
 have hMl:M≤8:=by omega
 have eN:=QO8 N (by omega)
 have eM:=QO8 M (by omega)
 have eS:Qy ((N:Int)+(M:Int))=N+M:=by have:=QO8 (N+M) (by omega);rwa [Int.natCast_add] at this
 have hba:=ka.touch.below
 have r3:Row wa w.heap.size 28 (Jl g (.slice A ms.length cap) (.slice A' ps.length cap')):=ka.row 0 (Jl g (.slice A ms.length cap) (.slice A' ps.length cap')).toList (by kernel_rfl)
 obtain⟨w0,hw0⟩:∃ w0:Wd,w0=⟨g,ms,ps⟩:=⟨_,rfl⟩
 rw[←hw0] at hI hok
 have l0:w0.m.length≤80∧w0.p.length≤40:=by rw[hw0];exact⟨by show ms.length≤80;omega,by show ps.length≤40;omega⟩
 have lN:=QGy N w0
 have lk:=QNB (XF N w0).1
 have hokX:OkW (mkW (XF N w0).1):=QNu (hok.run hA N)
 have KR:=QPE hA (N:Int) wa hok (by omega) (by omega) (hI.on hba) (ht.below hba)
 rw[eN] at KR
 refine kX KR fun e wb ⟨V2,he,h2',hbb⟩=>⟨_,he,?_⟩
 obtain⟨X,hX⟩:∃ X,X=mkW (XF N w0).1:=⟨_,rfl⟩
 have lX:X.m.length≤80+200*8∧X.p.length≤40:=by rw[hX];exact⟨by omega,by show (XF N w0).1.p.length≤40;omega⟩
 have hLl:J4 N w0++J4 M X=J4 (N+M) w0:=by rw[hX];exact QMd N M w0
 have hLa:∀ h:N < (J4 (N+M) w0).length,(J4 (N+M) w0)[N]=Xk X:=fun h=>by rw[hX];exact QRO N M w0 h
 rw[←hX] at h2' hokX
 have h2x:=h2'
 obtain⟨A2,c2,B2,d2,rfl,-⟩:=h2x
 refine qE [0] (Many.begin wb) fun wc kc=>?_
 have hbc:=kc.touch.below
 have r8:Row wc wb.heap.size 28 (Jl X.g (.slice A2 X.m.length c2) (.slice B2 X.p.length d2)):=kc.row 0 (Jl X.g (.slice A2 X.m.length c2) (.slice B2 X.p.length d2)).toList (by kernel_rfl)
 have hac:Below wa.heap.size wa wc:=hbb.trans (hbc.mono hbb.size)
 have hBc:Below w.heap.size w wc:=hba.trans (hac.mono hba.size)
 have r3:=r3.below hac r3.lt
 have hIX:=h2'.on hbc
 clear k1 k2 k3 k4 k8 k9 ka kc h2'
 -- the first part
 refine qQ [] (Many.begin wc) fun wd kd=>coR<|qR 1 [] (Many.begin wd) fun we ke=>?_
 have hce:Below wc.heap.size wc we:=kd.touch.below.trans (ke.touch.below.mono kd.touch.size)
 have hBe:=hBc.trans (hce.mono hBc.size)
 have r3:=r3.below hce r3.lt
 have r8:=r8.below hce r8.lt
 have hIX:=hIX.on hce
 refine wM (Jy (QAa r3))<|qR 1 [] (Many.begin we) fun wf kf=>?_
 have hef:=kf.touch.below
 have hBf:=hBe.trans (hef.mono hBe.size)
 have r3f:=r3.below hef r3.lt
 have r8f:=r8.below hef r8.lt
 have hIXf:=hIX.on hef
 have K1:=QAv hA (N:Int) wf hok (by omega) (by omega) (hI.on hBf) (ht.below hBf) (hT.below hBf)
 rw[eN] at K1
 refine kX K1 fun e wg ⟨v1,b1,he,hb1,own1,hfg⟩=>⟨_,he,?_⟩
 obtain⟨A1,c1,rfl,hc1,hs1,hn1⟩:=ZI own1
 have hBg:=hBf.trans (hfg.mono hBf.size)
 have heg:=hef.trans (hfg.mono hef.size)
 refine qAs (.tmp 46) (.tmp 49) wf.heap.size (.slice none 0 0) 0 [] (J4 N w0) A1 N c1 hfg.size (World.ownsRow_nil ..) hs1 hn1 hc1 (QAJ N w0).symm (by omega) fun v1 wh own1 gr1=>?_
 rw[List.nil_append,Nat.zero_add] at own1
 have hgh:Below wg.heap.size wg wh:=QJy gr1
 have hBh:=hBg.trans (hgh.mono hBg.size)
 refine qE [] (Many.begin wh) fun wi ki=>coR<|?_
 obtain⟨A1,c1,rfl,hc1,hs1,hn1⟩:=ZI own1
 have hei:Below we.heap.size we wi:=heg.trans ((hgh.trans (ki.touch.below.mono hgh.size)).mono heg.size)
 have hBi:=hBe.trans (hei.mono hBe.size)
 have r3:=r3.below hei r3.lt
 have r8:=r8.below hei r8.lt
 have hIX:=hIX.on hei
 have own1:=own_below own1 ki.touch.below
 have hbfi:wf.heap.size≤wi.heap.size:=Nat.le_trans hfg.size (Nat.le_trans hgh.size ki.touch.size)
 -- the second part
 refine qR 1 [] (Many.begin wi) fun wj kj=>wM (Jy (QAa (r8.below kj.touch.below r8.lt)))<|qR 1 [] kj fun wk kk=>?_
 have hik:=kk.touch.below
 have hBk:=hBi.trans (hik.mono hBi.size)
 have own1:=own_below own1 hik
 have K2:=QAv hA (M:Int) wk hokX (by omega) (by omega) (hIX.on hik) (ht.below hBk) (hT.below hBk)
 rw[eM] at K2
 refine kX K2 fun e wl ⟨v2,b2,he,hb2,own2,hkl⟩=>⟨_,he,?_⟩
 obtain⟨A2',c2',rfl,hc2',hs2,hn2⟩:=ZI own2
 have own1:=own_below own1 hkl
 have lt1:=own1.lt
 refine qAs (.tmp 51) (.tmp 54) wf.heap.size (.slice A1 N c1) N (J4 N w0) (J4 M X) A2' M c2' (by have:=hkl.size;have:=hik.size;omega) own1 hs2 hn2 hc2' (QAJ M X).symm (by omega) fun v3 wm own3 gr3=>?_
 rw[hLl] at own3
 have hil:Below wi.heap.size wi wl:=hik.trans (hkl.mono hik.size)
 have hem:Below wf.heap.size wf wm:=by
  have h1:Below wf.heap.size wf wl:=hfg.trans ((hgh.trans ((ki.touch.below.trans (hil.mono ki.touch.size)).mono hgh.size)).mono hfg.size)
  exact h1.grown gr3 h1.size fun k e=>(lt1 k e).1
 have hBm:=hBf.trans (hem.mono hBf.size)
 refine qE [] (Many.begin wm) fun wn kn=>?_
 obtain⟨A3,c3,rfl,hc3,hs3,hn3⟩:=ZI own3
 have hmn:=kn.touch.below
 have hen:Below wf.heap.size wf wn:=hem.trans (hmn.mono hem.size)
 have hBn:=hBf.trans (hen.mono hBf.size)
 have r3n:=r3f.below hen r3f.lt
 have r8n:=r8f.below hen r8f.lt
 have hIXn:=hIXf.on hen
 have hsn:=hs3.on hmn
 have hlS:=QAJ (N+M) w0
 clear K1 K2 KR own1 own2 own3 hs1 hs2 hs3 gr1 gr3 kn lt1 r3 r8 hIX r3f r8f hIXf
 refine qP 28 (Many.begin wn) fun wo ko=>qM [0,2,3] ko<|qT 1 ko (fun w' hS=>Jy (QAa (r3n.below hS.touch.below r3n.lt)))<|qT 4 ko (fun w' _=>zA (egI _ _ _ _ _ _) (QGI (N:Int) (M:Int) (by omega) (by omega) _)) ?_
 have hBo:=bOn hBn ko
 have K3:=QAv hA ((N:Int)+(M:Int)) wo hok (by omega) (by omega) (hI.on hBo) (ht.below hBo) (hT.below hBo)
 rw[eS] at K3
 refine zK 5 (soC K3 fun e wp ⟨v4,b4,he,_,own4,hop⟩=>⟨_,he,ko.below hop,?_⟩)
 obtain⟨A4,c4,rfl,-,hs4,-⟩:=ZI own4
 have kp:=ko.below hop
 have KS:=QIo A3 A4 c3 c4 (J4 (N+M) w0) (by omega) wp (hsn.on kp.touch.below) hs4
 rw[hlS] at KS
 clear K3 own4 hs4 ko
 refine qDc 6 KS kp fun wq kq=>qM [7,8,9,10,11] kq<|qT 12 kq (fun w' _=>zA (egI _ _ _ _ _ _) (QGI (N:Int) (M:Int) (by omega) (by omega) _))<|qM [13] kq<|XU 69 (show (((N+M:Nat):Int)==(N:Int)+(M:Int))=true by simp)<|qM [14,15,16,17] kq ?_
 by_cases hM0:M=0
 · exact XU 73 (show ((M:Int)==0)=true by simp[hM0])<|qM [18,19,20,21,22,23,24,25,26,27] kq<|poE<|qE [] kq fun wr kr=>JK<|Ju (.bool true) ⟨rfl,bOn hBn kr⟩
 · obtain⟨p,rfl⟩:=hsn.at_ (k:=N) (by omega)
   refine XU 73 (show ((M:Int)==0)=false by simp[hM0])<|qM [18,19,20] kq<|qT 21 kq (fun w' _=>Qs (ixS p (N+M) c3 N (by omega) _))<|qT 22 kq (V:=.string (Xk X)) (fun w' hS=>Jy (by
    rw[←hLa (by omega)]
    exact (hsn.below hS.touch.below).ld (by omega)))<|qT 23 kq (fun w' hS=>Jy (QAa (r8n.below hS.touch.below r8n.lt)))<|qDc 24 (QCF wq hokX (by omega) (hIXn.on kq.touch.below) (hT.below (bOn hBn kq))) kq fun wr kr=>?_
   exact qT 25 kr (fun w' _=>zA (gS _ _ _ _ _ _) (bEqS (Xk X) _))<|qM [26,27] kr<|poE<|qE [] kr fun ws ks=>JK<|Ju (.bool true) ⟨rfl,bOn hBn ks⟩
section
open Go.ChangeShapes Go.WideShapes Go.ChangeAt Go.RowKit Go.Deep
theorem QUC {α:Type}(l:List α)(h:l.length=20):∃ a0 a1 a2 a3 a4 a5 a6 a7 a8 a9 a10 a11 a12 a13 a14 a15 a16 a17 a18 a19,l=[a0,a1,a2,a3,a4,a5,a6,a7,a8,a9,a10,a11,a12,a13,a14,a15,a16,a17,a18,a19]:=by
 match l,h with
 | [a0,a1,a2,a3,a4,a5,a6,a7,a8,a9,a10,a11,a12,a13,a14,a15,a16,a17,a18,a19],_=>exact⟨a0,a1,a2,a3,a4,a5,a6,a7,a8,a9,a10,a11,a12,a13,a14,a15,a16,a17,a18,a19,rfl⟩
theorem QJa {H:Type} {enc:TypeId×Value→H} {P:Program} {w:World} {base:Nat} {sp:Nat→Bool} {held:Bool} {t:TypeId} {f0 f1 f2 f3 f4 f5 f6 f7 f8 f9 f10 f11 f12 f13 f14 f15 f16 f17 f18 f19:Field} {l:List Value} {fuel:Nat} {x:DataW H×List MemPlace}
 (hs:P.underlying t=some (.struct #[f0,f1,f2,f3,f4,f5,f6,f7,f8,f9,f10,f11,f12,f13,f14,f15,f16,f17,f18,f19]))(hone:oneCellFields P #[f0,f1,f2,f3,f4,f5,f6,f7,f8,f9,f10,f11,f12,f13,f14,f15,f16,f17,f18,f19]=true)(hC:P.cellsOf t=20)
 (u0:P.underlying f0.type=some (.int .u16))(u1:P.underlying f1.type=some (.int .u16))(u2:P.underlying f2.type=some (.int .u16))(u3:P.underlying f3.type=some (.int .u16))(u4:P.underlying f4.type=some (.int .u16))(u5:P.underlying f5.type=some (.int .u16))(u6:P.underlying f6.type=some (.int .u16))(u7:P.underlying f7.type=some (.int .u16))(u8:P.underlying f8.type=some (.int .u16))(u9:P.underlying f9.type=some (.int .u16))(u10:P.underlying f10.type=some (.int .u16))(u11:P.underlying f11.type=some (.int .u16))(u12:P.underlying f12.type=some (.int .u16))(u13:P.underlying f13.type=some (.int .u8))(u14:P.underlying f14.type=some (.int .u8))(u15:P.underlying f15.type=some .bool)(u16:P.underlying f16.type=some .bool)(u17:P.underlying f17.type=some .bool)(u18:P.underlying f18.type=some .bool)(u19:P.underlying f19.type=some (.int .i64))
 (hf:DataW.trod enc P w base sp held fuel t l=some x):∃ g:Rg,l=(JN g).toList∧RgB g:=by
 obtain⟨xs,n,-,-,hsz,hlen,hg⟩:=DataW.trod_struct hs hf
 rw[hC] at hsz
 have hlen:xs.length=20:=hlen
 have cell:∀ (k:Nat) (f:Field),#[f0,f1,f2,f3,f4,f5,f6,f7,f8,f9,f10,f11,f12,f13,f14,f15,f16,f17,f18,f19][k]? = some f→∃ u z,l[k]? = some u∧DataW.trod enc P w base sp held n f.type [u]=some z:=by
  intro k f hk
  obtain⟨ho,h1⟩:=hone_of hone k f hk
  have hkl:k < 20:=(Array.getElem?_eq_some_iff.1 hk).1
  have h2:=hg k f hk
  rw[ho,h1] at h2
  have e1:(l.drop k).take 1=[l[k]'(by omega)]:=by
   rw[List.drop_eq_getElem_cons (by omega)]
   rfl
  rw[e1,List.getElem?_eq_getElem (by omega)] at h2
  exact⟨_,_,List.getElem?_eq_getElem (by omega),h2⟩
 have one:∀ (k:Nat) (f:Field) (K:IntKind),#[f0,f1,f2,f3,f4,f5,f6,f7,f8,f9,f10,f11,f12,f13,f14,f15,f16,f17,f18,f19][k]? = some f→P.underlying f.type=some (.int K)→∃ z,l[k]? = some (.int K z)∧(Lit.int K z).wf=true:=by
  intro k f K hk hu
  obtain⟨u,z,hc,h2⟩:=cell k f hk
  obtain⟨z,e2,-,hw⟩:=DataW.trod_int hu h2
  injection e2 with e3
  exact⟨z,by rw[hc,e3],hw⟩
 have QJE:∀ (k:Nat) (f:Field),#[f0,f1,f2,f3,f4,f5,f6,f7,f8,f9,f10,f11,f12,f13,f14,f15,f16,f17,f18,f19][k]? = some f→P.underlying f.type=some .bool→∃ z,l[k]? = some (.bool z):=by
  intro k f hk hu
  obtain⟨u,z,hc,h2⟩:=cell k f hk
  obtain⟨z,e2,-⟩:=DataW.trod_bool hu h2
  injection e2 with e3
  exact⟨z,by rw[hc,e3]⟩
 clear hg hlen hf hone
 obtain⟨z0,e0,w0⟩:=one 0 f0 .u16 rfl u0
 have b0:=bounds_u16 w0
 obtain⟨z1,e1,w1⟩:=one 1 f1 .u16 rfl u1
 have b1:=bounds_u16 w1
 obtain⟨z2,e2,w2⟩:=one 2 f2 .u16 rfl u2
 have b2:=bounds_u16 w2
 obtain⟨z3,e3,w3⟩:=one 3 f3 .u16 rfl u3
 have b3:=bounds_u16 w3
 obtain⟨z4,e4,w4⟩:=one 4 f4 .u16 rfl u4
 have b4:=bounds_u16 w4
 obtain⟨z5,e5,w5⟩:=one 5 f5 .u16 rfl u5
 have b5:=bounds_u16 w5
 obtain⟨z6,e6,w6⟩:=one 6 f6 .u16 rfl u6
 have b6:=bounds_u16 w6
 obtain⟨z7,e7,w7⟩:=one 7 f7 .u16 rfl u7
 have b7:=bounds_u16 w7
 obtain⟨z8,e8,w8⟩:=one 8 f8 .u16 rfl u8
 have b8:=bounds_u16 w8
 obtain⟨z9,e9,w9⟩:=one 9 f9 .u16 rfl u9
 have b9:=bounds_u16 w9
 obtain⟨z10,e10,w10⟩:=one 10 f10 .u16 rfl u10
 have b10:=bounds_u16 w10
 obtain⟨z11,e11,w11⟩:=one 11 f11 .u16 rfl u11
 have b11:=bounds_u16 w11
 obtain⟨z12,e12,w12⟩:=one 12 f12 .u16 rfl u12
 have b12:=bounds_u16 w12
 obtain⟨z13,e13,w13⟩:=one 13 f13 .u8 rfl u13
 have b13:=bounds_u8 w13
 obtain⟨z14,e14,w14⟩:=one 14 f14 .u8 rfl u14
 have b14:=bounds_u8 w14
 obtain⟨z15,e15⟩:=QJE 15 f15 rfl u15
 obtain⟨z16,e16⟩:=QJE 16 f16 rfl u16
 obtain⟨z17,e17⟩:=QJE 17 f17 rfl u17
 obtain⟨z18,e18⟩:=QJE 18 f18 rfl u18
 obtain⟨z19,e19,w19⟩:=one 19 f19 .i64 rfl u19
 have b19:=bounds_i64 w19
 clear one QJE cell
 refine⟨⟨z0,z1,z2,z3,z4,z5,z6,z7,z8,z9,z10,z11,z12,z13,z14,z15,z16,z17,z18,z19⟩,?_,⟨b0,b1,b2,b3,b4,b5,b6,b7,b8,b9,b10,b11,b12,b13,b14,b19⟩⟩
 obtain⟨a0,a1,a2,a3,a4,a5,a6,a7,a8,a9,a10,a11,a12,a13,a14,a15,a16,a17,a18,a19,rfl⟩:=QUC l hsz
 simp only[List.getElem?_cons_zero,List.getElem?_cons_succ,Option.some.injEq] at e0 e1 e2 e3 e4 e5 e6 e7 e8 e9 e10 e11 e12 e13 e14 e15 e16 e17 e18 e19
 rw[e0,e1,e2,e3,e4,e5,e6,e7,e8,e9,e10,e11,e12,e13,e14,e15,e16,e17,e18,e19]
end
section
open Go.ChangeShapes Go.WideShapes Go.ChangeAt Go.RowKit Go.Deep
theorem QGq {H:Type} {enc:TypeId×Value→H} {P:Program} {w:World} {base:Nat} {sp:Nat→Bool} {held:Bool} {t e:TypeId} {f0 f1:Field} {u:Value} {fuel:Nat} {x:DataW H×List MemPlace}
 (ht:P.underlying t=some (.slice e))(he:P.underlying e=some (.struct #[f0,f1]))(hone:oneCellFields P #[f0,f1]=true)(ce:P.cellsOf e=2)
 (u0:P.underlying f0.type=some (.int .u16))(u1:P.underlying f1.type=some (.int .u8))(hf:DataW.trod enc P w base sp held fuel t [u]=some x) :
 ∃ (A:Option Addr) (cap:Nat) (xs:List (Int×Int)),u=.slice A xs.length cap∧xs.length≤cap∧cap≤maxLen∧Jg xs∧CellsIn w w.heap.size A xs∧(A=none→cap=0):=by
 obtain⟨o0,c0⟩:=hone_of hone 0 f0 rfl
 obtain⟨o1,c1⟩:=hone_of hone 1 f1 rfl
 rcases open_slice_pairs ht he ce o0 o1 c0 c1 hf with ⟨e1,-⟩|⟨ad,len',cap',m,n,V0,V1,D0,D1,P0,P1,e1,hb,hle,hm,hmm,-,hx⟩
 · have e2:u=.slice none 0 0:=by simpa using e1
   exact⟨none,0,[],e2,Nat.le_refl _,Nat.zero_le _,fun x hx=>by simp at hx,CellsIn.nil _ _ _,fun _=>rfl⟩
 · have e2:u=.slice (some ad) len' cap':=by simpa using e1
   have hlm:len'≤m:=by rw[hmm];split<;>omega
   have each:∀ i,i < m→∃ q:Int×Int,V0 i=.int .u16 q.1∧V1 i=.int .u8 q.2∧0≤q.1∧q.1≤65535∧0≤q.2∧q.2≤255:=by
    intro i hi
    obtain⟨-,-,h0,h1⟩:=hx i hi
    obtain⟨z0,g0,-,w0⟩:=DataW.trod_int u0 h0
    obtain⟨z1,g1,-,w1⟩:=DataW.trod_int u1 h1
    have b0:=bounds_u16 w0
    have b1:=bounds_u8 w1
    simp at g0 g1
    exact⟨(z0,z1),g0,g1,by omega,by omega,by omega,by omega⟩
   obtain⟨q,hq⟩:=choose_lt each
   refine⟨some ad,cap',(List.range len').map q,by rw[List.length_map,List.length_range];exact e2,by simpa using hle,hm,fun c hc=>?_,fun j c hc=>?_,fun h=>by cases h⟩
   · obtain⟨i,hi,rfl⟩:=List.mem_map.1 hc
     have:=hq i (Nat.lt_of_lt_of_le (List.mem_range.1 hi) hlm)
     exact this.2.2
   · have hj:j < len':=by
      have:=(List.getElem?_eq_some_iff.1 hc).1
      simpa using this
     have hcq:c=q j:=by
      rw[List.getElem?_map,List.getElem?_range hj] at hc
      exact (Option.some.inj hc).symm
     obtain⟨h0,h1,-⟩:=hx j (by omega)
     obtain⟨g0,g1,-⟩:=hq j (by omega)
     rw[g0] at h0
     rw[g1] at h1
     rw[hcq]
     refine⟨ad,rfl,?_,h0,by rw[zr];exact h1⟩
     have:=World.block_lt_of_cell? _ _ h0
     rw[add_block] at this
     exact this
end
section
open Go.ChangeShapes Go.WideShapes Go.ChangeAt Go.RowKit
theorem QGs {H:Type} {enc:TypeId×Value→H} {P:Program} {w:World} {base:Nat} {sp:Nat→Bool} {held:Bool} {t e:TypeId} {u:Value} {fuel:Nat} {x:DataW H×List MemPlace}
 (ht:P.underlying t=some (.slice e))(he:P.underlying e=some (.int .u8))(hc:P.cellsOf e=1)(hf:DataW.trod enc P w base sp held fuel t [u]=some x) :
 ∃ (A:Option Addr) (cap:Nat) (xs:List Int),u=.slice A xs.length cap∧xs.length≤cap∧cap≤maxLen∧Bytes8 xs∧BytesIn w w.heap.size A xs∧(A=none→cap=0):=by
 rcases open_ints ht he hc hf with ⟨e1,-⟩|⟨ad,len',cap',zs,e1,hb,hle,hm,hz,-,hcell,hwf⟩
 · have e2:u=.slice none 0 0:=by simpa using e1
   refine⟨none,0,[],e2,Nat.le_refl _,Nat.zero_le _,fun x hx=>by simp at hx,BytesIn.nil _ _ _,fun _=>rfl⟩
 · have e2:u=.slice (some ad) len' cap':=by simpa using e1
   have hzl:len'≤zs.length:=by rw[hz];split<;>omega
   have htl:(zs.take len').length=len':=by rw[List.length_take];omega
   refine⟨some ad,cap',zs.take len',by rw[htl];exact e2,by omega,hm,fun x hx=>?_,fun j x hx=>?_,fun h=>by cases h⟩
   · have hw:=hwf x (List.mem_of_mem_take hx)
     have:=bounds_u8 hw
     exact⟨by omega,by omega⟩
   · rw[List.getElem?_take] at hx
     split at hx
     · rename_i hj
       have hj2:j < zs.length:=by omega
       have hce:=hcell j hj2
       rw[List.getD_eq_getElem?_getD,hx] at hce
       refine⟨ad,rfl,?_,hce⟩
       have:=World.block_lt_of_cell? _ _ hce
       rw[add_block] at this
       exact this
     · cases hx
end
section
open Go.ChangeShapes Go.WideShapes Go.ChangeAt Go.RowKit Go.Deep
theorem QJN {H:Type} {enc:TypeId×Value→H} {P:Program} {w:World} {r:Reach} {b0 base:Nat} {sp:Nat→Bool} {held:Bool} {t ec eb:TypeId} {q0 q1 q2 g0 g1 f0 f1 f2 f3 f4 f5 f6 f7 f8 f9 f10 f11 f12 f13 f14 f15 f16 f17 f18 f19:Field} {v:Value} {d:DataW H} {ps:List MemPlace}
 (hs:P.underlying t=some (.struct #[q0,q1,q2]))(hq:(P.cellsOf t,q0.offset,q1.offset,q2.offset,P.cellsOf q0.type,P.cellsOf q1.type,P.cellsOf q2.type)=(22,0,20,21,20,1,1))
 (hr:P.underlying q0.type=some (.struct #[f0,f1,f2,f3,f4,f5,f6,f7,f8,f9,f10,f11,f12,f13,f14,f15,f16,f17,f18,f19]))(hone:oneCellFields P #[f0,f1,f2,f3,f4,f5,f6,f7,f8,f9,f10,f11,f12,f13,f14,f15,f16,f17,f18,f19]=true)
 (u0:P.underlying f0.type=some (.int .u16))(u1:P.underlying f1.type=some (.int .u16))(u2:P.underlying f2.type=some (.int .u16))(u3:P.underlying f3.type=some (.int .u16))(u4:P.underlying f4.type=some (.int .u16))(u5:P.underlying f5.type=some (.int .u16))(u6:P.underlying f6.type=some (.int .u16))(u7:P.underlying f7.type=some (.int .u16))(u8:P.underlying f8.type=some (.int .u16))(u9:P.underlying f9.type=some (.int .u16))(u10:P.underlying f10.type=some (.int .u16))(u11:P.underlying f11.type=some (.int .u16))(u12:P.underlying f12.type=some (.int .u16))(u13:P.underlying f13.type=some (.int .u8))(u14:P.underlying f14.type=some (.int .u8))(u15:P.underlying f15.type=some .bool)(u16:P.underlying f16.type=some .bool)(u17:P.underlying f17.type=some .bool)(u18:P.underlying f18.type=some .bool)(u19:P.underlying f19.type=some (.int .i64))
 (hc:P.underlying q1.type=some (.slice ec))(he:P.underlying ec=some (.struct #[g0,g1]))(honec:oneCellFields P #[g0,g1]=true)(ce:P.cellsOf ec=2)(v0:P.underlying g0.type=some (.int .u16))(v1:P.underlying g1.type=some (.int .u8))
 (hb:P.underlying q2.type=some (.slice eb))(heb:P.underlying eb=some (.int .u8))(cb:P.cellsOf eb=1)
 (hv:Value.okWide P w r b0 t v)(h:DataW.Trod enc P w base sp held t v d ps) :
 ∃ (g:Rg) (A:Option Addr) (cap:Nat) (xs:List (Int×Int)) (A':Option Addr) (cap':Nat) (ys:List Int),v=Zj g (.slice A xs.length cap) (.slice A' ys.length cap')∧RgB g∧(xs.length≤cap∧cap≤maxLen∧Jg xs∧CellsIn w w.heap.size A xs∧(A=none→cap=0))∧(ys.length≤cap'∧cap'≤maxLen∧Bytes8 ys∧BytesIn w w.heap.size A' ys∧(A'=none→cap'=0)):=by
 simp only[Prod.mk.injEq] at hq
 obtain⟨hC,o0,o1,o2,c0,c1,c2⟩:=hq
 obtain⟨cs,rfl,hsz⟩:=okWide_struct hs hv
 obtain⟨fuel,hf⟩:=h
 obtain⟨xs,n,-,-,hl,hlen,hg⟩:=DataW.trod_struct hs hf
 rw[hC] at hsz hl
 have hlen:xs.length=3:=hlen
 obtain⟨l,hcs⟩:∃ l,l=cs.toList:=⟨_,rfl⟩
 have hcl:(Value.agg cs).cells.toList=l:=by rw[hcs];rfl
 rw[hcl] at hg hl
 have t0:=hg 0 q0 rfl
 have t1:=hg 1 q1 rfl
 have t2:=hg 2 q2 rfl
 rw[o0,c0,List.getElem?_eq_getElem (by omega)] at t0
 rw[o1,c1,List.getElem?_eq_getElem (by omega),show (l.drop 20).take 1=[l[20]'(by omega)] by rw[List.drop_eq_getElem_cons (by omega)];rfl] at t1
 rw[o2,c2,List.getElem?_eq_getElem (by omega),show (l.drop 21).take 1=[l[21]'(by omega)] by rw[List.drop_eq_getElem_cons (by omega)];rfl] at t2
 obtain⟨g,e0,hgB⟩:=QJa hr hone c0 u0 u1 u2 u3 u4 u5 u6 u7 u8 u9 u10 u11 u12 u13 u14 u15 u16 u17 u18 u19 t0
 obtain⟨A,cap,ms,e1,hm⟩:=QGq hc he honec ce v0 v1 t1
 obtain⟨A',cap',ys,e2,hy⟩:=QGs hb heb cb t2
 refine⟨g,A,cap,ms,A',cap',ys,?_,hgB,hm,hy⟩
 have e3:l=l.take 20++[l[20]'(by omega),l[21]'(by omega)]:=by
  conv=>lhs;rw[←List.take_append_drop 20 l]
  rw[List.drop_eq_getElem_cons (by omega),List.drop_eq_getElem_cons (by omega),List.drop_of_length_le (by omega)]
 have e4:l.take 20=(JN g).toList:=by simpa using e0
 rw[e4,e1,e2] at e3
 show Value.agg cs=.agg _
 rw[←Array.toArray_toList (xs:=cs),←hcs,e3]
 rfl
end
def QE2 {H:Type}(F:TypeId→DataW H→Option (List Value)):List (TypeId×Nat)→List (DataW H)→Nat→Option (List Value)
 | [],[],_=>some []
 | (e,o) :: L,d :: ds,cur=>if o=cur then (F e d).bind fun a=>(QE2 F L ds (cur+a.length)).map fun b=>a++b else none
 | _,_,_=>none
def flat {H:Type}(P:Program):Nat→TypeId→DataW H→Option (List Value)
 | 0,_,_=>none
 | k+1,t,d=>match P.underlying t,d with
   | some (.int q),.lit (.int q' n)=>if q=q' then some [.int q n] else none
   | some .bool,.lit (.bool b)=>some [.bool b]
   | some .string,.lit (.string bs)=>some [.string ⟨bs.toArray⟩]
   | some (.array n e),.agg ds=>(QE2 (flat P k) ((List.range n).map fun i=>(e,i*P.cellsOf e)) ds 0).bind fun out=>if out.length=P.cellsOf t then some out else none
   | some (.struct fs),.agg ds=>(QE2 (flat P k) (fs.toList.map fun f=>(f.type,f.offset)) ds 0).bind fun out=>if out.length=P.cellsOf t then some out else none
   | _,_=>none
section
variable {H:Type} {enc:TypeId×Value→H} {P:Program} {w:World} {base:Nat} {sp:Nat→Bool} {held:Bool}
theorem QDK (F:TypeId→DataW H→Option (List Value))(m:Nat)(cs:List Value)
 (hF:∀ e d cs' p a,DataW.trod enc P w base sp held m e cs'=some (d,p)→F e d=some a→cs'=a) :
 ∀ (L:List (TypeId×Nat)) (xs:List (DataW H×List MemPlace)) (cur:Nat) (out:List Value),L.length=xs.length →
  (∀ (i:Nat) (e:TypeId) (o:Nat),L[i]? = some (e,o)→DataW.trod enc P w base sp held m e ((cs.drop o).take (P.cellsOf e))=xs[i]?)→QE2 F L (xs.map (·.1)) cur=some out→(cs.drop cur).take out.length=out
 | [],[],cur,out,_,_,h=>by
   simp only[List.map_nil,QE2,Option.some.injEq] at h
   subst h;simp
 | (e,o) :: L,(d,p) :: xs,cur,out,hl,hx,h=>by
   simp only[List.map_cons,QE2] at h
   split at h
   · rename_i ho
     subst ho
     obtain⟨a,ha,h⟩:=Option.bind_eq_some_iff.1 h
     obtain⟨b,hb,rfl⟩:=Option.map_eq_some_iff.1 h
     have h0:=hx 0 e o rfl
     have e1:=hF e d _ p a (by simpa using h0) ha
     have ih:=QDK F m cs hF L xs (o+a.length) b (by simpa using hl) (fun i e' o' hi=>by simpa using hx (i+1) e' o' (by simpa using hi)) hb
     have e2:(cs.drop o).take a.length=a:=by
      conv=>rhs;rw[←e1]
      rw[←e1,List.length_take]
      rcases Nat.le_total (P.cellsOf e) (cs.drop o).length with hq|hq
      · rw[Nat.min_eq_left hq]
      · rw[Nat.min_eq_right hq,List.take_length,List.take_of_length_le hq]
     have e3:cs.drop o=a++cs.drop (o+a.length):=by
      conv=>lhs;rw[←List.take_append_drop a.length (cs.drop o),e2,List.drop_drop]
     rw[e3,List.length_append,List.take_length_add_append,ih]
   · cases h
 | [],_ :: _,_,_,hl,_,_=>by simp at hl
 | _ :: _,[],_,_,hl,_,_=>by simp at hl
theorem QFs:∀ (k:Nat) (t:TypeId) (d:DataW H) (cs:List Value) (fuel:Nat) (p:List MemPlace) (out:List Value),DataW.trod enc P w base sp held fuel t cs=some (d,p)→flat P k t d=some out→cs=out
 | 0,_,_,_,_,_,_,_,h=>by simp[flat] at h
 | k+1,t,d,cs,fuel,p,out,ht,h=>by
   unfold flat at h
   split at h
   · rename_i hu
     split at h
     · rename_i hq
       subst hq
       obtain⟨n,rfl,e,_⟩:=DataW.trod_int hu ht
       simp only[Prod.mk.injEq,DataW.lit.injEq,Lit.int.injEq,true_and] at e
       obtain⟨rfl,_⟩:=e
       exact Option.some.inj h
     · cases h
   · rename_i hu
     obtain⟨b,rfl,e⟩:=DataW.trod_bool hu ht
     simp only[Prod.mk.injEq,DataW.lit.injEq,Lit.bool.injEq] at e
     obtain⟨rfl,_⟩:=e
     exact Option.some.inj h
   · rename_i hu
     obtain⟨s,rfl,e,_⟩:=DataW.trod_string hu ht
     simp only[Prod.mk.injEq,DataW.lit.injEq,Lit.string.injEq] at e
     obtain⟨rfl,_⟩:=e
     exact Option.some.inj h
   · rename_i n e ds hu
     obtain⟨xs,m,rfl,hx,hlen,hxl,hi⟩:=DataW.trod_array hu ht
     simp only[Prod.mk.injEq,DataW.agg.injEq] at hx
     obtain⟨rfl,rfl⟩:=hx
     obtain⟨o,ho,h⟩:=Option.bind_eq_some_iff.1 h
     split at h
     · rename_i hol
       obtain rfl:=Option.some.inj h
       have:=QDK (flat P k) m cs (fun e d cs' p a h1 h2=>QFs k e d cs' m p a h1 h2) _ xs 0 o (by simp[hxl]) (fun i e' o' hq=>by
        simp only[List.getElem?_map,Option.map_eq_some_iff,Prod.mk.injEq] at hq
        obtain⟨j,hj,rfl,rfl⟩:=hq
        obtain⟨hj1,hj2⟩:=List.getElem?_eq_some_iff.1 hj
        simp only[List.getElem_range] at hj2
        subst hj2
        exact hi _ (by simpa using hj1)) ho
       rwa [List.drop_zero,hol,←hlen,List.take_length] at this
     · cases h
   · rename_i fs ds hu
     obtain⟨xs,m,rfl,hx,hlen,hxl,hi⟩:=DataW.trod_struct hu ht
     simp only[Prod.mk.injEq,DataW.agg.injEq] at hx
     obtain⟨rfl,rfl⟩:=hx
     obtain⟨o,ho,h⟩:=Option.bind_eq_some_iff.1 h
     split at h
     · rename_i hol
       obtain rfl:=Option.some.inj h
       have:=QDK (flat P k) m cs (fun e d cs' p a h1 h2=>QFs k e d cs' m p a h1 h2) _ xs 0 o (by simp[hxl]) (fun i e' o' hq=>by
        simp only[List.getElem?_map,Option.map_eq_some_iff,Prod.mk.injEq] at hq
        obtain⟨f,hf,rfl,rfl⟩:=hq
        exact hi i f (by simpa using hf)) ho
       rwa [List.drop_zero,hol,←hlen,List.take_length] at this
     · cases h
   · cases h
end
theorem QCO {P:Program} {W:World} {name:String} {d:DataW Unit}:∀ (laid:List (String×DataW Unit)) (ps:List MemPlace),DataW.LaidVars P W laid ps→∀ (i:Nat),laid[i]? = some (name,d) →
 ∃ g t cs fuel p,P.globalNamed name=some g∧(P.globals[g]?).map (·.type)=some t∧W.var? P name=some cs∧DataW.trod (fun _=>()) P W 0 (fun _=>true) false fuel t cs.toList=some (d,p)
 | [],_,_,i,hi=>by simp at hi
 | (n,d') :: r,ps,h,0,hi=>by
   obtain⟨g,t,cs,fuel,p,q,h1,h2,h3,h4,_,_⟩:=h
   simp only[List.getElem?_cons_zero,Option.some.injEq,Prod.mk.injEq] at hi
   obtain⟨rfl,rfl⟩:=hi
   exact⟨g,t,cs,fuel,p,h1,h2,h3,h4⟩
 | (n,d') :: r,ps,h,i+1,hi=>by
   obtain⟨g,t,cs,fuel,p,q,_,_,_,_,h5,_⟩:=h
   exact QCO r q h5 i (by simpa using hi)
theorem Ji {P:Program} {W:World} {name:String} {d:DataW Unit} {laid:List (String×DataW Unit)} {g:Nat} {t:TypeId} {k:Nat} {out:List Value}(i:Nat)(hi:laid[i]? = some (name,d))(hg:P.globalNamed name=some g)(hty:(P.globals[g]?).map (·.type)=some t)
 (hf:flat P k t d=some out)(h:laidMet P laid W):W.var? P name=some out.toArray:=by
 obtain⟨ps,h1,_⟩:=h
 obtain⟨g',t',cs,fuel,p,hg',ht',hvar,hd⟩:=QCO laid ps h1 i hi
 obtain rfl:=Option.some.inj (hg.symm.trans hg')
 obtain rfl:=Option.some.inj (hty.symm.trans ht')
 rw[hvar,←QFs k t d _ _ _ _ hd hf]
theorem Jh {P:Program} {W:World} {name:String} {g:Nat} {out:List Value}(h:W.var? P name=some out.toArray)(hg:P.globalNamed name=some g)(i:Nat)(v:Value)(hv:out[i]? = some v):W.cell? ⟨g,i,none⟩=some v:=by
 rw[World.var?_cell hg h i]
 simpa using hv
end Go.Proofs.YtbhaojlikgdgjaaGreatDoor
