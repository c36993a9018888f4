/- Contracts and facts that the claim's proof wants (several texts in one). -/
import Derived.ProofKit
import Derived.OpenShut
import Derived.ChangeArms
import Derived.Deep.Fields
import Derived.ChangeSlices
import Derived.Deep.SlicePairs
import Derived.Lib.SmallJoins
import Derived.LaidLaws
import Derived.Test.YtmgcgiecimnncaaGreatDoorTlG31
import Derived.Test.YtmgcgiecimnncaaGreatDoorTlG32
namespace Go.Proofs.YtmgcgiecimnncaaGreatDoor
open Go.RowKit
set_option linter.unusedVariables false
set_option linter.unusedSimpArgs false
set_option maxRecDepth 20000
set_option maxHeartbeats 20000000
theorem QMX (m:List (Int×Int))(pc:Int):qq (Qn m pc)=qq (JZ m pc):=by
 unfold Qn
 split
 · rename_i ho
   obtain⟨o1,o2⟩:=QAr ho
   have e:XJ ((JZ m pc).take (lenOf (JZ m pc)))=XJ (JZ m pc):=by
    have:=QOE (JZ m pc) [] o1
    rwa [List.append_nil] at this
   have e2:lenOf ((JZ m pc).take (lenOf (JZ m pc)))=lenOf (JZ m pc):=by unfold lenOf;rw[show (XJ (List.take (XJ (JZ m pc)).len.toNat (JZ m pc)))=XJ (JZ m pc) from e]
   have o3:okM ((JZ m pc).take (lenOf (JZ m pc)))=true:=by
    unfold okM
    rw[e2,List.length_take,decide_eq_true_eq]
    omega
   unfold qq
   rw[ho,o3,if_pos rfl,if_pos rfl,(QAr o3).2,e,o2]
 · rfl
theorem QFL (g:Rg)(A A':Option Addr)(n c n' c':Nat)(W:World):Calls Tryz.prog 7 #[Xd g (.slice A n c) (.slice A' n' c')] W fun e W'=>e=.returned (Xd g (.slice A n c) (.slice A' n' c'))∧Below W.heap.size W W':=by
 go_enter Tryz.func7,Tryz.ntmps7
 refine JA<|qQ [] (Many.begin W) fun w1 k1=>qQ [0,0,0,1] k1 fun w2 k2=>JE ?_
 have r:Row w2 (W.heap.size+1) 34 (J9 g (.slice A n c) (.slice A' n' c')):=k2.row 1 (J9 g (.slice A n c) (.slice A' n' c')).toList (by kernel_rfl)
 exact eoK1 r ⟨rfl,k2.touch.below⟩
theorem QGL (k:Int)(W:World):Calls Tryz.prog 13 #[.int .i64 k] W fun e W'=>e=.returned (.string (jq k))∧Below W.heap.size W W':=by
 go_enter Tryz.func13,Tryz.ntmps13
 refine JA<|qQ [] (Many.begin W) fun w1 k1=>qQ [] k1 fun w2 k2=>coS<|coR<|qR 3 [] k2 fun w3 k3=>?_
 by_cases h1:k < 1
 · have e:jq k=⟨#[63]⟩:=if_pos (.inl h1)
   rw[e]
   exact tell 7 (show decide (k < 1)=true by simpa using h1)<|qE [] k3 fun w3 k3=>coT<|qQ [] k3 fun w4 k4=>JE<|Je<|JR (.string ⟨#[63]⟩) ⟨rfl,k4.touch.below⟩
 refine tell 7 (show decide (k < 1)=false by simpa using h1)<|qR 2 [] k3 fun w4 k4=>?_
 by_cases h7:k > 7
 · have e:jq k=⟨#[63]⟩:=if_pos (.inr h7)
   rw[e]
   exact tell 9 (show decide (k > 7)=true by simpa using h7)<|qE [] k4 fun w3 k3=>coT<|qQ [] k3 fun w4 k4=>JE<|Je<|JR (.string ⟨#[63]⟩) ⟨rfl,k4.touch.below⟩
 have e:jq k=sy 0 0 0 (pick QCC (k-1)):=by rw[←Zk 0 0 0 _ (XM QCC (by decide) (k-1))];exact if_neg (by omega)
 rw[e]
 exact tell 9 (show decide (k > 7)=false by simpa using h7)<|qE [] k4 fun w5 k5=>coF<|JC<|eoT<|coR<|qR 2 [] k5 fun w6 k6=>kBj 13 (.int .i64 k) (.int .i64 1) (.int .i64 (k-1)) (egI _ _ _ _ _) (QJm _ _ (by omega) (by omega))<|wM (Jm (ixL w1.heap.size 7 7 (k-1) (by omega) w6))<|wM (Jc (ldP (k6.row 0 (b:=w1.heap.size) (t:=9) (sv 0 0 0 QCC) (by kernel_rfl)) (k-1) ⟨by omega,by show k-1 < 7;omega⟩))<|qE [] k6 fun w7 k7=>JE<|JR (.string (sy 0 0 0 (pick QCC (k-1)))) ⟨rfl,k7.touch.below⟩
theorem QJW (c:Cy)(ha:Wd16 c.addr)(hd:B8 c.data)(hn:-9223372036854775808≤c.t∧c.t≤9223372036854775807)(W:World):Calls Tryz.prog 11 #[cyV c] W fun e W'=>e=.returned (.string (QMN c))∧Below W.heap.size W W':=by
 have z1:=QEo c.kind
 have z2:=qt c.t hn
 have z3:=ZD c.addr
 have z4:=jN c.data
 unfold QMN
 go_enter Tryz.func11,Tryz.ntmps11
 obtain⟨K,hK⟩:∃ K,K=jq c.kind:=⟨_,rfl⟩
 obtain⟨A,hA⟩:∃ A,A=Jt c.addr:=⟨_,rfl⟩
 obtain⟨D,hD⟩:∃ D,D=Xt c.data:=⟨_,rfl⟩
 obtain⟨T,hT⟩:∃ T,T=ql c.t:=⟨_,rfl⟩
 have c1:=fun w=>QGL c.kind w
 have c2:=fun w=>QCt c.addr ha w
 have c3:=fun w=>QGD c.data hd w
 have c4:=fun w=>QJS c.t hn w
 simp only[←hK] at z1 c1
 simp only[←hA] at z3 c2
 simp only[←hD] at z4 c3
 simp only[←hT] at z2 c4
 rw[←hK,←hA,←hD,←hT]
 refine JA<|qQ [] (Many.begin W) fun w1 k1=>qP 20 k1 fun w2 k2=>qD 0 [0,1,4,5,6,10,11,12,16,17] k2<|qDc 2 (c1 w2) k2 fun w3 k3=>?_
 refine qT 3 k3 (fun w' _=>Xb (gS _ _ _ _ _ _) (zT K ⟨#[32]⟩ (by rw[XT];omega) _))<|qDc 7 (c2 w3) k3 fun w4 k4=>?_
 refine qT 8 k4 (fun w' _=>Xb (gS _ _ _ _ _ _) (zT (K++⟨#[32]⟩) A (by simp only[QV,XT];omega) _))<|qT 9 k4 (fun w' _=>Xb (gS _ _ _ _ _ _) (zT (K++⟨#[32]⟩++A) ⟨#[32]⟩ (by simp only[QV,XT];omega) _))<|qDc 13 (c3 w4) k4 fun w5 k5=>?_
 refine qT 14 k5 (fun w' _=>Xb (gS _ _ _ _ _ _) (zT (K++⟨#[32]⟩++A++⟨#[32]⟩) D (by simp only[QV,XT];omega) _))<|qT 15 k5 (fun w' _=>Xb (gS _ _ _ _ _ _) (zT (K++⟨#[32]⟩++A++⟨#[32]⟩++D) ⟨#[32]⟩ (by simp only[QV,XT];omega) _))<|qDc 18 (c4 w5) k5 fun w6 k6=>?_
 exact qT 19 k6 (fun w' _=>Xb (gS _ _ _ _ _ _) (zT (K++⟨#[32]⟩++A++⟨#[32]⟩++D++⟨#[32]⟩) T (by simp only[QV,XT];omega) _))<|poE<|qE [] k6 fun w7 k7=>JE<|JR (.string (K++⟨#[32]⟩++A++⟨#[32]⟩++D++⟨#[32]⟩++T)) (by exact⟨rfl,k7.touch.below⟩)
theorem QWz (A:Option Addr)(n c:Nat)(L:Int)(k:Nat)(e:L=(k:Int))(h:k≤c)(w:World):(Instr.sliceAt 26 (.slice A n c) none (some (.int .i64 L)) none).run Tryz.prog w=.ok (.slice A k c) w:=by
 subst e
 exact slTo A n c k h w
theorem QLJ {V:Value} {w:Wd}(W:World)(hw:OkW w)(hl:w.m.length≤1000000)(h:InW W W.heap.size V w):Calls Tryz.prog 9 #[V] W fun e W'=>∃ A c,e=.returned (.slice A (Qn w.m w.g.pc).length c)∧BytesIn W' W'.heap.size A (Qn w.m w.g.pc)∧Below W.heap.size W W':=by
 obtain⟨A,c,A',c',rfl,hin,-⟩:=h
 obtain⟨g,m,p⟩:=w
 have hx:=zx hw.m g.pc
 have h8:=QAw m g.pc
 go_enter Tryz.func9,Tryz.ntmps9
 refine JA<|qQ [] (Many.begin W) fun w1 k1=>coR<|qR 5 [0,0] k1 fun w2 k2=>kX (QEP A c m g.pc 8 (by show m.length≤_;have:m.length≤1000000:=hl;omega) hw.m hw.g.pc w2 ((hin.below k2.touch.below).more k2.touch.size)) fun e w3 ⟨b,cb,he,hy,hcb,_,hb3⟩=>⟨_,he,qE [] (Many.begin w3) fun w4 k4=>?_⟩
 rw[show jx m g.pc 8=JZ m g.pc from rfl] at hy hcb ⊢
 have hB4:Below W.heap.size W w4:=bOn (k2.touch.below.trans (hb3.mono k2.touch.size)) k4
 have hy4:=(hy.below k4.touch.below).more k4.touch.size
 refine coR<|qR 1 [] (Many.begin w4) fun w5 k5=>qC (QEl b cb (JZ m g.pc) (by omega) hx w5 ((hy4.below k5.touch.below).more k5.touch.size)) k5 fun w6 k6=>qE [0] k6 fun w7 k7=>coS<|qQ [] k7 fun w8 k8=>coI (okM (JZ m g.pc)) (fun ho=>?_) fun ho=>JC<|eoT ?_
 · obtain⟨o1,o2⟩:=QAr ho
   have hlen:=jU (JZ m g.pc)
   have e:Qn m g.pc=(JZ m g.pc).take (lenOf (JZ m g.pc)):=if_pos ho
   have e2:((JZ m g.pc).take (lenOf (JZ m g.pc))).length=lenOf (JZ m g.pc):=by rw[List.length_take];omega
   have e3:(QT (JZ m g.pc)).len=(lenOf (JZ m g.pc):Int):=by rw[o2,hlen]
   rw[e,e2]
   exact coR<|qR 3 [0] k8 fun w9 k9=>wM (QCv (QWz b (JZ m g.pc).length cb (QT (JZ m g.pc)).len (lenOf (JZ m g.pc)) e3 (by omega) w9))<|qE [] k9 fun wa ka=>JE<|Je<|JR (.slice b (lenOf (JZ m g.pc)) cb) ⟨_,_,rfl,((hy4.below ka.touch.below).more ka.touch.size).tk _,bOn hB4 ka⟩
 · have e:Qn m g.pc=JZ m g.pc:=if_neg (by rw[ho];simp)
   rw[e]
   exact qQ [] k8 fun w9 k9=>JE<|JR (.slice b (JZ m g.pc).length cb) ⟨_,_,rfl,(hy4.below k9.touch.below).more k9.touch.size,bOn hB4 k9⟩
def rlB (b:Nat)(F:Value)(x:zh):List Value:=[x.y 0,pT b 0,x.y 2,x.y 3,x.y 4,x.y 5,F,x.y 7,x.y 8,x.y 9,x.y 10,x.y 11,x.y 12,x.y 13,x.y 14,x.y 15,x.y 16,x.y 17,x.y 18,x.y 19,x.y 20,x.y 21,x.y 22,x.y 23,x.y 24,x.y 25,x.y 26,x.y 27,x.y 28,x.y 29,x.y 30,x.y 31,x.y 32,x.y 33]
theorem QJx {V:Value} {w:Wd}(W:World)(hw:OkW w)(hl:w.m.length≤1000000)(h:InW W W.heap.size V w):Calls Tryz.prog 6 #[V] W fun e W'=>e=.returned (.string (Zm w))∧Below W.heap.size W W':=by
 obtain⟨A,c,A',c',rfl,hin,-⟩:=h
 obtain⟨g,m,p⟩:=w
 have hx:=zx hw.m g.pc
 have h8:=QAw m g.pc
 have hb:=QHU hx
 have z1:=QFC hx
 have z2:=ZD g.pc
 have z3:=QC8 g hw.g.mode
 have z4:=Q4 (jp g)
 have z5:(⟨#[58,32]⟩:ByteArray).size=2:=rfl
 have z6:(⟨#[32,124,32]⟩:ByteArray).size=3:=rfl
 have c1:=fun w=>QCt g.pc hw.g.pc w
 have c3:=fun w=>QJy g hw.g w
 have hwm:=hw.m
 have hpc:=hw.g.pc
 have eL:Zm ⟨g,m,p⟩=Jt g.pc++⟨#[58,32]⟩++qq (JZ m g.pc)++⟨#[32,124,32]⟩++⟨(jp g).toArray⟩:=by
  show QQ5 g m=_
  unfold QQ5
  rw[QMX]
 rw[eL]
 clear eL hw
 generalize Jt g.pc=X at *
 generalize (⟨(jp g).toArray⟩:ByteArray)=Z at *
 go_enter Tryz.func6,Tryz.ntmps6
 obtain⟨Y,hY⟩:∃ Y,Y=qq (JZ m g.pc):=⟨_,rfl⟩
 rw[←hY] at z1 ⊢
 refine JA<|qQ [] (Many.begin W) fun w1 k1=>coR<|qR 5 [0,0] k1 fun w2 k2=>kX (QEP A c m g.pc 8 (by show m.length≤_;have:m.length≤1000000:=hl;omega) hwm hpc w2 ((hin.below k2.touch.below).more k2.touch.size)) fun e w3 ⟨b,cb,he,hy,hcb,_,hb3⟩=>⟨_,he,qE [] (Many.begin w3) fun w4 k4=>?_⟩
 rw[show jx m g.pc 8=JZ m g.pc from rfl] at hy hcb ⊢
 have rB:Row w2 W.heap.size 34 (J9 g (.slice A m.length c) (.slice A' p.length c')):=k2.row 0 (J9 g (.slice A m.length c) (.slice A' p.length c')).toList (by kernel_rfl)
 have h24:Below w2.heap.size w2 w4:=hb3.trans (k4.touch.below.mono hb3.size)
 have hB4:Below W.heap.size W w4:=k2.touch.below.trans (h24.mono k2.touch.size)
 have hy4:=(hy.below k4.touch.below).more k4.touch.size
 have rB:=rB.below h24 rB.lt
 refine coR<|qR 1 [] (Many.begin w4) fun w5 k5=>qC (QEl b cb (JZ m g.pc) (by omega) hx w5 ((hy4.below k5.touch.below).more k5.touch.size)) k5 fun w6 k6=>qE [0] k6 fun w7 k7=>qQ [] k7 fun w8 k8=>QHs (rlB W.heap.size (.string Y)) (fun (_:zh) w'=>Below w4.heap.size w4 w') ?_ ?_
 · refine qQ [] k8 fun w9 k9=>coI (okM (JZ m g.pc)) (fun ho=>?_) fun ho=>JC ?_
   · have e:Y=opS (QT (JZ m g.pc)):=hY.trans (if_pos ho)
     subst e
     have KS:∀ w,Calls Tryz.prog 21 #[opV (QT (JZ m g.pc)).plane (QT (JZ m g.pc)).code (QT (JZ m g.pc)).disp (QT (JZ m g.pc)).imm (QT (JZ m g.pc)).len (QT (JZ m g.pc)).skip] w fun e w'=>e=.returned (.string (opS (QT (JZ m g.pc))))∧Below w.heap.size w w':=fun w=>by
      unfold opS
      rw[QMP _ _ hb.1]
      exact QJu _ _ _ _ _ _ hb.1 hb.2.1 hb.2.2.1 hb.2.2.2 w
     exact coZ<|qR 1 [0] k9 fun wa ka=>qC (KS wa) ka fun wb kb=>qF [] kb fun wc kc=>ji (fun y=>⟨y⟩) kc.touch.below
   · have e:Y=⟨#[46,46]⟩:=hY.trans (if_neg (by rw[ho];simp))
     subst e
     exact ji (fun y=>⟨y⟩) k9.touch.below
 clear k1 k2 k4 k5 k6 k7 k8 hY
 intro q w' h4
 have rB:=rB.below h4 rB.lt
 have hB:=hB4.trans (h4.mono hB4.size)
 refine qP 13 (Many.start rB) fun wa ka=>qD 0 [0,1,2,3,6,9,10] ka<|qDc 4 (c1 wa) ka fun wb kb=>?_
 refine qT 5 kb (fun w' _=>Xb (gS _ _ _ _ _ _) (zT X ⟨#[58,32]⟩ (by omega) _))<|qT 7 kb (fun w' _=>Xb (gS _ _ _ _ _ _) (zT (X++⟨#[58,32]⟩) Y (by simp only[QV];omega) _))<|qT 8 kb (fun w' _=>Xb (gS _ _ _ _ _ _) (zT (X++⟨#[58,32]⟩++Y) ⟨#[32,124,32]⟩ (by simp only[QV];omega) _))<|qDc 11 (c3 wb) kb fun wc kc=>?_
 exact qT 12 kc (fun w' _=>Xb (gS _ _ _ _ _ _) (zT (X++⟨#[58,32]⟩++Y++⟨#[32,124,32]⟩) Z (by simp only[QV];omega) _))<|poE<|qE [] kc fun wd kd=>JE<|JR (.string (X++⟨#[58,32]⟩++Y++⟨#[32,124,32]⟩++Z)) (by exact⟨rfl,kd.touch.under hB (Nat.le_refl _) hB.size⟩)
theorem QDg (g:Rg)(A:Option Addr)(cap:Nat)(ms:List (Int×Int))(A':Option Addr)(cap':Nat)(ps:List Int)(c:Cy)(hg:RgB g)(ha:0≤c.addr∧c.addr≤65535)(hd:B8 c.data)(hct:-9223372036854775808≤c.t∧c.t≤9223372036854775807)(w:World)
 (hc:ms.length≤cap)(hm:cap≤maxLen)(h16:Jk ms)(hin:CellsIn w w.heap.size A ms)(hn:A=none→cap=0)(hc':ps.length≤cap')(hm':cap'≤maxLen)(h8:Bytes8 ps)(hin':BytesIn w w.heap.size A' ps)(hn':A'=none→cap'=0)(hM:Masks w)(hD:Digits w)(hC:Courses w)(hO:QIg w)(hT:TrTabs w) :
 Calls Tryz.prog 3 #[Xd g (.slice A ms.length cap) (.slice A' ps.length cap'),cyV c] w fun e w'=>e=.returned (.bool true)∧Below w.heap.size w w':=by
 have ht:Tabs w w.heap.size:=(NextTabs.mk hM hC hD hO).tabs
 have hA:zM:=QVA ht
 have hI:InW w w.heap.size (Xd g (.slice A ms.length cap) (.slice A' ps.length cap')) ⟨g,ms,ps⟩:=⟨A,cap,A',cap',rfl,hin,hn,hc,hin',hn',hc'⟩
 have hok:OkW ⟨g,ms,ps⟩:=⟨hg,h16,h8⟩
 go_enter Tryz.func3,Tryz.ntmps3
 refine JA<|qQ [] (Many.begin w) fun w1 k1=>coR<|qC (QJM hA w1 (ht.below k1.touch.below) (hT.below k1.touch.below)) k1 fun w2 k2=>qE [] k2 fun w3 k3=>coS<|qQ [] k3 fun w4 k4=>coF<|JC<|eoT<|coS<|qQ [0] k4 fun w5 k5=>coI (decide ((ms.length:Int) > 80)) (fun h1=>qQ [] k5 fun w6 k6=>JE<|Je<|JR (.bool true) ⟨rfl,k6.touch.below⟩) fun h1=>JC<|eoT ?_
 have hl:(⟨g,ms,ps⟩:Wd).m.length≤1000000:=by
  have:¬(ms.length:Int) > 80:=by simpa using h1
  show ms.length≤1000000
  omega
 have rW:Row w5 w.heap.size 28 (J9 g (.slice A ms.length cap) (.slice A' ps.length cap')):=k5.row 0 (J9 g (.slice A ms.length cap) (.slice A' ps.length cap')).toList (by kernel_rfl)
 have rC:Row w5 (w.heap.size+1) 30 (cyC c):=k5.row 1 (cyC c).toList (by kernel_rfl)
 have hB5:Below w.heap.size w w5:=k5.touch.below
 have hx:∀ x∈Qn ms g.pc,0≤x∧x≤255:=fun x hx=>QJl h16 g.pc x hx
 obtain⟨w0,hw0⟩:∃ w0:Wd,w0=⟨g,ms,ps⟩:=⟨_,rfl⟩
 have hcode:Qn w0.m w0.g.pc=Qn ms g.pc:=by rw[hw0]
 have KL:∀ W,Below w5.heap.size w5 W→Calls Tryz.prog 5 #[Xd g (.slice A ms.length cap) (.slice A' ps.length cap')] W fun e w'=>e=.returned (.string (Zm w0))∧Below W.heap.size W w':=fun W hW=>by
  rw[hw0]
  exact QC9 W hok hl (hI.on (hB5.trans (hW.mono hB5.size))) (hT.below (hB5.trans (hW.mono hB5.size)))
 have KR:∀ W,Below w5.heap.size w5 W→Calls Tryz.prog 6 #[Xd g (.slice A ms.length cap) (.slice A' ps.length cap')] W fun e w'=>e=.returned (.string (Zm w0))∧Below W.heap.size W w':=fun W hW=>by
  rw[hw0]
  exact QJx W hok hl (hI.on (hB5.trans (hW.mono hB5.size)))
 have KC:∀ W,Below w5.heap.size w5 W→Calls Tryz.prog 8 #[Xd g (.slice A ms.length cap) (.slice A' ps.length cap')] W fun e W'=>∃ b,e=.returned (.slice (some ⟨b,0,none⟩) (Qn ms g.pc).length (Qn ms g.pc).length)∧BytesIn W' W'.heap.size (some ⟨b,0,none⟩) (Qn ms g.pc)∧Below W.heap.size W W':=fun W hW =>
  QC0 (w:=⟨g,ms,ps⟩) W hok hl (hI.on (hB5.trans (hW.mono hB5.size)))
 have KD:∀ W,Below w5.heap.size w5 W→Calls Tryz.prog 9 #[Xd g (.slice A ms.length cap) (.slice A' ps.length cap')] W fun e W'=>∃ b d,e=.returned (.slice b (Qn ms g.pc).length d)∧BytesIn W' W'.heap.size b (Qn ms g.pc)∧Below W.heap.size W W':=fun W hW =>
  QLJ (w:=⟨g,ms,ps⟩) W hok hl (hI.on (hB5.trans (hW.mono hB5.size)))
 generalize Zm w0=X at *
 generalize Qn ms g.pc=xs at *
 clear k1 k2 k3 k4 k5
 refine qP 32 (Many.begin w5) fun w6 k6=>qT 0 k6 (fun w' hS=>Jc (QBK (rW.below hS.touch.below rW.lt)))<|qT 2 k6 (fun w' hS=>Jc (QBK (rW.below hS.touch.below rW.lt)))<|qDc 1 (KL w6 k6.touch.below) k6 fun w7 k7=>qDc 3 (QFL g A A' ms.length cap ps.length cap' w7) k7 fun w8 k8=>qDc 4 (KR w8 k8.touch.below) k8 fun w9 k9=>?_
 refine qT 5 k9 (fun w' _=>Xb (gS _ _ _ _ _ _) (QS3 X _))<|qM [6] k9<|qT 7 k9 (fun w' hS=>Jc (QBK (rW.below hS.touch.below rW.lt)))<|qT 10 k9 (fun w' hS=>Jc (QBK (rW.below hS.touch.below rW.lt)))<|zO 8 (soC (KC w9 k9.touch.below) fun e wa ⟨b,he,hy,hba⟩=>⟨_,he,k9.below hba,poS (S':=Many wa [] []) (fun w' h=>(k9.below hba).below h.touch.below) ?_⟩)
 have ka:=Many.begin wa
 have h5a:Below w5.heap.size w5 wa:=(k9.below hba).touch.below
 refine qT 9 ka (fun w' hS=>QBL (QUS (c:=xs.length) (hy.below hS.touch.below) hx))<|qDc 11 (QFL g A A' ms.length cap ps.length cap' wa) ka fun wb kb=>zO 12 (soC (KD wb (h5a.trans (kb.touch.below.mono h5a.size))) fun e wc ⟨b2,d2,he,hy2,hbc⟩=>⟨_,he,kb.below hbc,poS (S':=Many wc [] []) (fun w' h=>(kb.below hbc).below h.touch.below) ?_⟩)
 have kc:=Many.begin wc
 have h5c:Below w5.heap.size w5 wc:=h5a.trans ((kb.below hbc).touch.below.mono h5a.size)
 have rW:=rW.below h5c rW.lt
 have rC:=rC.below h5c rC.lt
 have hBc:Below w.heap.size w wc:=hB5.trans (h5c.mono hB5.size)
 refine qT 13 kc (fun w' hS=>QBL (QUS (c:=d2) (hy2.below hS.touch.below) hx))<|qT 14 kc (fun w' _=>Xb (gS _ _ _ _ _ _) (QS3 (strB xs) _))<|qM [15,16] kc<|qT 17 kc (fun w' hS=>Jc (QGC (rC.below hS.touch.below rC.lt)))<|qT 19 kc (fun w' hS=>Jc (QGC (rC.below hS.touch.below rC.lt)))<|qDc 18 (QFI c ha hd hct wc (hT.below hBc)) kc fun we ke=>qDc 20 (QJW c ha hd hct we) ke fun wf kf=>?_
 refine qT 21 kf (fun w' _=>Xb (gS _ _ _ _ _ _) (QS3 (QMN c) _))<|qM [22,23,24,27] kf<|qT 25 kf (fun w' hS=>Jc (jg ((rC.below hS.touch.below rC.lt).cell 3)))<|qT 28 kf (fun w' hS=>Jc (jg ((rC.below hS.touch.below rC.lt).cell 3)))<|qDc 26 (QCr c.t wf (hT.below (bOn hBc kf))) kf fun wg kg=>qDc 29 (QGL c.t wg) kg fun wh kh=>?_
 exact qT 30 kh (fun w' _=>Xb (gS _ _ _ _ _ _) (QS3 (jq c.t) _))<|qM [31] kh<|poE<|qE [] kh fun wi ki=>JE<|JR (.bool true) ⟨rfl,bOn hBc ki⟩
section
open Go.ChangeShapes Go.WideShapes Go.ChangeAt Go.RowKit Go.Deep
theorem QV8 {α:Type}(l:List α)(h:l.length=20):∃ a0 a1 a2 a3 a4 a5 a6 a7 a8 a9 a10 a11 a12 a13 a14 a15 a16 a17 a18 a19,l=[a0,a1,a2,a3,a4,a5,a6,a7,a8,a9,a10,a11,a12,a13,a14,a15,a16,a17,a18,a19]:=by
 match l,h with
 | [a0,a1,a2,a3,a4,a5,a6,a7,a8,a9,a10,a11,a12,a13,a14,a15,a16,a17,a18,a19],_=>exact⟨a0,a1,a2,a3,a4,a5,a6,a7,a8,a9,a10,a11,a12,a13,a14,a15,a16,a17,a18,a19,rfl⟩
theorem QKk {H:Type} {enc:TypeId×Value→H} {P:Program} {w:World} {base:Nat} {sp:Nat→Bool} {held:Bool} {t:TypeId} {f0 f1 f2 f3 f4 f5 f6 f7 f8 f9 f10 f11 f12 f13 f14 f15 f16 f17 f18 f19:Field} {l:List Value} {fuel:Nat} {x:DataW H×List MemPlace}
 (hs:P.underlying t=some (.struct #[f0,f1,f2,f3,f4,f5,f6,f7,f8,f9,f10,f11,f12,f13,f14,f15,f16,f17,f18,f19]))(hone:oneCellFields P #[f0,f1,f2,f3,f4,f5,f6,f7,f8,f9,f10,f11,f12,f13,f14,f15,f16,f17,f18,f19]=true)(hC:P.cellsOf t=20)
 (u0:P.underlying f0.type=some (.int .u16))(u1:P.underlying f1.type=some (.int .u16))(u2:P.underlying f2.type=some (.int .u16))(u3:P.underlying f3.type=some (.int .u16))(u4:P.underlying f4.type=some (.int .u16))(u5:P.underlying f5.type=some (.int .u16))(u6:P.underlying f6.type=some (.int .u16))(u7:P.underlying f7.type=some (.int .u16))(u8:P.underlying f8.type=some (.int .u16))(u9:P.underlying f9.type=some (.int .u16))(u10:P.underlying f10.type=some (.int .u16))(u11:P.underlying f11.type=some (.int .u16))(u12:P.underlying f12.type=some (.int .u16))(u13:P.underlying f13.type=some (.int .u8))(u14:P.underlying f14.type=some (.int .u8))(u15:P.underlying f15.type=some .bool)(u16:P.underlying f16.type=some .bool)(u17:P.underlying f17.type=some .bool)(u18:P.underlying f18.type=some .bool)(u19:P.underlying f19.type=some (.int .i64))
 (hf:DataW.trod enc P w base sp held fuel t l=some x):∃ g:Rg,l=(JO g).toList∧RgB g:=by
 obtain⟨xs,n,-,-,hsz,hlen,hg⟩:=DataW.trod_struct hs hf
 rw[hC] at hsz
 have hlen:xs.length=20:=hlen
 have cell:∀ (k:Nat) (f:Field),#[f0,f1,f2,f3,f4,f5,f6,f7,f8,f9,f10,f11,f12,f13,f14,f15,f16,f17,f18,f19][k]? = some f→∃ u z,l[k]? = some u∧DataW.trod enc P w base sp held n f.type [u]=some z:=by
  intro k f hk
  obtain⟨ho,h1⟩:=hone_of hone k f hk
  have hkl:k < 20:=(Array.getElem?_eq_some_iff.1 hk).1
  have h2:=hg k f hk
  rw[ho,h1] at h2
  have e1:(l.drop k).take 1=[l[k]'(by omega)]:=by
   rw[List.drop_eq_getElem_cons (by omega)]
   rfl
  rw[e1,List.getElem?_eq_getElem (by omega)] at h2
  exact⟨_,_,List.getElem?_eq_getElem (by omega),h2⟩
 have one:∀ (k:Nat) (f:Field) (K:IntKind),#[f0,f1,f2,f3,f4,f5,f6,f7,f8,f9,f10,f11,f12,f13,f14,f15,f16,f17,f18,f19][k]? = some f→P.underlying f.type=some (.int K)→∃ z,l[k]? = some (.int K z)∧(Lit.int K z).wf=true:=by
  intro k f K hk hu
  obtain⟨u,z,hc,h2⟩:=cell k f hk
  obtain⟨z,e2,-,hw⟩:=DataW.trod_int hu h2
  injection e2 with e3
  exact⟨z,by rw[hc,e3],hw⟩
 have QDh:∀ (k:Nat) (f:Field),#[f0,f1,f2,f3,f4,f5,f6,f7,f8,f9,f10,f11,f12,f13,f14,f15,f16,f17,f18,f19][k]? = some f→P.underlying f.type=some .bool→∃ z,l[k]? = some (.bool z):=by
  intro k f hk hu
  obtain⟨u,z,hc,h2⟩:=cell k f hk
  obtain⟨z,e2,-⟩:=DataW.trod_bool hu h2
  injection e2 with e3
  exact⟨z,by rw[hc,e3]⟩
 clear hg hlen hf hone
 obtain⟨z0,e0,w0⟩:=one 0 f0 .u16 rfl u0
 have b0:=bounds_u16 w0
 obtain⟨z1,e1,w1⟩:=one 1 f1 .u16 rfl u1
 have b1:=bounds_u16 w1
 obtain⟨z2,e2,w2⟩:=one 2 f2 .u16 rfl u2
 have b2:=bounds_u16 w2
 obtain⟨z3,e3,w3⟩:=one 3 f3 .u16 rfl u3
 have b3:=bounds_u16 w3
 obtain⟨z4,e4,w4⟩:=one 4 f4 .u16 rfl u4
 have b4:=bounds_u16 w4
 obtain⟨z5,e5,w5⟩:=one 5 f5 .u16 rfl u5
 have b5:=bounds_u16 w5
 obtain⟨z6,e6,w6⟩:=one 6 f6 .u16 rfl u6
 have b6:=bounds_u16 w6
 obtain⟨z7,e7,w7⟩:=one 7 f7 .u16 rfl u7
 have b7:=bounds_u16 w7
 obtain⟨z8,e8,w8⟩:=one 8 f8 .u16 rfl u8
 have b8:=bounds_u16 w8
 obtain⟨z9,e9,w9⟩:=one 9 f9 .u16 rfl u9
 have b9:=bounds_u16 w9
 obtain⟨z10,e10,w10⟩:=one 10 f10 .u16 rfl u10
 have b10:=bounds_u16 w10
 obtain⟨z11,e11,w11⟩:=one 11 f11 .u16 rfl u11
 have b11:=bounds_u16 w11
 obtain⟨z12,e12,w12⟩:=one 12 f12 .u16 rfl u12
 have b12:=bounds_u16 w12
 obtain⟨z13,e13,w13⟩:=one 13 f13 .u8 rfl u13
 have b13:=bounds_u8 w13
 obtain⟨z14,e14,w14⟩:=one 14 f14 .u8 rfl u14
 have b14:=bounds_u8 w14
 obtain⟨z15,e15⟩:=QDh 15 f15 rfl u15
 obtain⟨z16,e16⟩:=QDh 16 f16 rfl u16
 obtain⟨z17,e17⟩:=QDh 17 f17 rfl u17
 obtain⟨z18,e18⟩:=QDh 18 f18 rfl u18
 obtain⟨z19,e19,w19⟩:=one 19 f19 .i64 rfl u19
 have b19:=bounds_i64 w19
 clear one QDh cell
 refine⟨⟨z0,z1,z2,z3,z4,z5,z6,z7,z8,z9,z10,z11,z12,z13,z14,z15,z16,z17,z18,z19⟩,?_,⟨b0,b1,b2,b3,b4,b5,b6,b7,b8,b9,b10,b11,b12,b13,b14,b19⟩⟩
 obtain⟨a0,a1,a2,a3,a4,a5,a6,a7,a8,a9,a10,a11,a12,a13,a14,a15,a16,a17,a18,a19,rfl⟩:=QV8 l hsz
 simp only[List.getElem?_cons_zero,List.getElem?_cons_succ,Option.some.injEq] at e0 e1 e2 e3 e4 e5 e6 e7 e8 e9 e10 e11 e12 e13 e14 e15 e16 e17 e18 e19
 rw[e0,e1,e2,e3,e4,e5,e6,e7,e8,e9,e10,e11,e12,e13,e14,e15,e16,e17,e18,e19]
end
section
open Go.ChangeShapes Go.WideShapes Go.ChangeAt Go.RowKit Go.Deep
theorem QIO {H:Type} {enc:TypeId×Value→H} {P:Program} {w:World} {base:Nat} {sp:Nat→Bool} {held:Bool} {t e:TypeId} {f0 f1:Field} {u:Value} {fuel:Nat} {x:DataW H×List MemPlace}
 (ht:P.underlying t=some (.slice e))(he:P.underlying e=some (.struct #[f0,f1]))(hone:oneCellFields P #[f0,f1]=true)(ce:P.cellsOf e=2)
 (u0:P.underlying f0.type=some (.int .u16))(u1:P.underlying f1.type=some (.int .u8))(hf:DataW.trod enc P w base sp held fuel t [u]=some x) :
 ∃ (A:Option Addr) (cap:Nat) (xs:List (Int×Int)),u=.slice A xs.length cap∧xs.length≤cap∧cap≤maxLen∧Jk xs∧CellsIn w w.heap.size A xs∧(A=none→cap=0):=by
 obtain⟨o0,c0⟩:=hone_of hone 0 f0 rfl
 obtain⟨o1,c1⟩:=hone_of hone 1 f1 rfl
 rcases open_slice_pairs ht he ce o0 o1 c0 c1 hf with ⟨e1,-⟩|⟨ad,len',cap',m,n,V0,V1,D0,D1,P0,P1,e1,hb,hle,hm,hmm,-,hx⟩
 · have e2:u=.slice none 0 0:=by simpa using e1
   exact⟨none,0,[],e2,Nat.le_refl _,Nat.zero_le _,fun x hx=>by simp at hx,CellsIn.nil _ _ _,fun _=>rfl⟩
 · have e2:u=.slice (some ad) len' cap':=by simpa using e1
   have hlm:len'≤m:=by rw[hmm];split<;>omega
   have each:∀ i,i < m→∃ q:Int×Int,V0 i=.int .u16 q.1∧V1 i=.int .u8 q.2∧0≤q.1∧q.1≤65535∧0≤q.2∧q.2≤255:=by
    intro i hi
    obtain⟨-,-,h0,h1⟩:=hx i hi
    obtain⟨z0,g0,-,w0⟩:=DataW.trod_int u0 h0
    obtain⟨z1,g1,-,w1⟩:=DataW.trod_int u1 h1
    have b0:=bounds_u16 w0
    have b1:=bounds_u8 w1
    simp at g0 g1
    exact⟨(z0,z1),g0,g1,by omega,by omega,by omega,by omega⟩
   obtain⟨q,hq⟩:=choose_lt each
   refine⟨some ad,cap',(List.range len').map q,by rw[List.length_map,List.length_range];exact e2,by simpa using hle,hm,fun c hc=>?_,fun j c hc=>?_,fun h=>by cases h⟩
   · obtain⟨i,hi,rfl⟩:=List.mem_map.1 hc
     have:=hq i (Nat.lt_of_lt_of_le (List.mem_range.1 hi) hlm)
     exact this.2.2
   · have hj:j < len':=by
      have:=(List.getElem?_eq_some_iff.1 hc).1
      simpa using this
     have hcq:c=q j:=by
      rw[List.getElem?_map,List.getElem?_range hj] at hc
      exact (Option.some.inj hc).symm
     obtain⟨h0,h1,-⟩:=hx j (by omega)
     obtain⟨g0,g1,-⟩:=hq j (by omega)
     rw[g0] at h0
     rw[g1] at h1
     rw[hcq]
     refine⟨ad,rfl,?_,h0,by rw[QAh];exact h1⟩
     have:=World.block_lt_of_cell? _ _ h0
     rw[add_block] at this
     exact this
end
section
open Go.ChangeShapes Go.WideShapes Go.ChangeAt Go.RowKit
theorem QI3 {H:Type} {enc:TypeId×Value→H} {P:Program} {w:World} {base:Nat} {sp:Nat→Bool} {held:Bool} {t e:TypeId} {u:Value} {fuel:Nat} {x:DataW H×List MemPlace}
 (ht:P.underlying t=some (.slice e))(he:P.underlying e=some (.int .u8))(hc:P.cellsOf e=1)(hf:DataW.trod enc P w base sp held fuel t [u]=some x) :
 ∃ (A:Option Addr) (cap:Nat) (xs:List Int),u=.slice A xs.length cap∧xs.length≤cap∧cap≤maxLen∧Bytes8 xs∧BytesIn w w.heap.size A xs∧(A=none→cap=0):=by
 rcases open_ints ht he hc hf with ⟨e1,-⟩|⟨ad,len',cap',zs,e1,hb,hle,hm,hz,-,hcell,hwf⟩
 · have e2:u=.slice none 0 0:=by simpa using e1
   refine⟨none,0,[],e2,Nat.le_refl _,Nat.zero_le _,fun x hx=>by simp at hx,BytesIn.nil _ _ _,fun _=>rfl⟩
 · have e2:u=.slice (some ad) len' cap':=by simpa using e1
   have hzl:len'≤zs.length:=by rw[hz];split<;>omega
   have htl:(zs.take len').length=len':=by rw[List.length_take];omega
   refine⟨some ad,cap',zs.take len',by rw[htl];exact e2,by omega,hm,fun x hx=>?_,fun j x hx=>?_,fun h=>by cases h⟩
   · have hw:=hwf x (List.mem_of_mem_take hx)
     have:=bounds_u8 hw
     exact⟨by omega,by omega⟩
   · rw[List.getElem?_take] at hx
     split at hx
     · rename_i hj
       have hj2:j < zs.length:=by omega
       have hce:=hcell j hj2
       rw[List.getD_eq_getElem?_getD,hx] at hce
       refine⟨ad,rfl,?_,hce⟩
       have:=World.block_lt_of_cell? _ _ hce
       rw[add_block] at this
       exact this
     · cases hx
end
section
open Go.ChangeShapes Go.WideShapes Go.ChangeAt Go.RowKit Go.Deep
theorem QKW {H:Type} {enc:TypeId×Value→H} {P:Program} {w:World} {r:Reach} {b0 base:Nat} {sp:Nat→Bool} {held:Bool} {t ec eb:TypeId} {q0 q1 q2 g0 g1 f0 f1 f2 f3 f4 f5 f6 f7 f8 f9 f10 f11 f12 f13 f14 f15 f16 f17 f18 f19:Field} {v:Value} {d:DataW H} {ps:List MemPlace}
 (hs:P.underlying t=some (.struct #[q0,q1,q2]))(hq:(P.cellsOf t,q0.offset,q1.offset,q2.offset,P.cellsOf q0.type,P.cellsOf q1.type,P.cellsOf q2.type)=(22,0,20,21,20,1,1))
 (hr:P.underlying q0.type=some (.struct #[f0,f1,f2,f3,f4,f5,f6,f7,f8,f9,f10,f11,f12,f13,f14,f15,f16,f17,f18,f19]))(hone:oneCellFields P #[f0,f1,f2,f3,f4,f5,f6,f7,f8,f9,f10,f11,f12,f13,f14,f15,f16,f17,f18,f19]=true)
 (u0:P.underlying f0.type=some (.int .u16))(u1:P.underlying f1.type=some (.int .u16))(u2:P.underlying f2.type=some (.int .u16))(u3:P.underlying f3.type=some (.int .u16))(u4:P.underlying f4.type=some (.int .u16))(u5:P.underlying f5.type=some (.int .u16))(u6:P.underlying f6.type=some (.int .u16))(u7:P.underlying f7.type=some (.int .u16))(u8:P.underlying f8.type=some (.int .u16))(u9:P.underlying f9.type=some (.int .u16))(u10:P.underlying f10.type=some (.int .u16))(u11:P.underlying f11.type=some (.int .u16))(u12:P.underlying f12.type=some (.int .u16))(u13:P.underlying f13.type=some (.int .u8))(u14:P.underlying f14.type=some (.int .u8))(u15:P.underlying f15.type=some .bool)(u16:P.underlying f16.type=some .bool)(u17:P.underlying f17.type=some .bool)(u18:P.underlying f18.type=some .bool)(u19:P.underlying f19.type=some (.int .i64))
 (hc:P.underlying q1.type=some (.slice ec))(he:P.underlying ec=some (.struct #[g0,g1]))(honec:oneCellFields P #[g0,g1]=true)(ce:P.cellsOf ec=2)(v0:P.underlying g0.type=some (.int .u16))(v1:P.underlying g1.type=some (.int .u8))
 (hb:P.underlying q2.type=some (.slice eb))(heb:P.underlying eb=some (.int .u8))(cb:P.cellsOf eb=1)
 (hv:Value.okWide P w r b0 t v)(h:DataW.Trod enc P w base sp held t v d ps) :
 ∃ (g:Rg) (A:Option Addr) (cap:Nat) (xs:List (Int×Int)) (A':Option Addr) (cap':Nat) (ys:List Int),v=Xd g (.slice A xs.length cap) (.slice A' ys.length cap')∧RgB g∧(xs.length≤cap∧cap≤maxLen∧Jk xs∧CellsIn w w.heap.size A xs∧(A=none→cap=0))∧(ys.length≤cap'∧cap'≤maxLen∧Bytes8 ys∧BytesIn w w.heap.size A' ys∧(A'=none→cap'=0)):=by
 simp only[Prod.mk.injEq] at hq
 obtain⟨hC,o0,o1,o2,c0,c1,c2⟩:=hq
 obtain⟨cs,rfl,hsz⟩:=okWide_struct hs hv
 obtain⟨fuel,hf⟩:=h
 obtain⟨xs,n,-,-,hl,hlen,hg⟩:=DataW.trod_struct hs hf
 rw[hC] at hsz hl
 have hlen:xs.length=3:=hlen
 obtain⟨l,hcs⟩:∃ l,l=cs.toList:=⟨_,rfl⟩
 have hcl:(Value.agg cs).cells.toList=l:=by rw[hcs];rfl
 rw[hcl] at hg hl
 have t0:=hg 0 q0 rfl
 have t1:=hg 1 q1 rfl
 have t2:=hg 2 q2 rfl
 rw[o0,c0,List.getElem?_eq_getElem (by omega)] at t0
 rw[o1,c1,List.getElem?_eq_getElem (by omega),show (l.drop 20).take 1=[l[20]'(by omega)] by rw[List.drop_eq_getElem_cons (by omega)];rfl] at t1
 rw[o2,c2,List.getElem?_eq_getElem (by omega),show (l.drop 21).take 1=[l[21]'(by omega)] by rw[List.drop_eq_getElem_cons (by omega)];rfl] at t2
 obtain⟨g,e0,hgB⟩:=QKk hr hone c0 u0 u1 u2 u3 u4 u5 u6 u7 u8 u9 u10 u11 u12 u13 u14 u15 u16 u17 u18 u19 t0
 obtain⟨A,cap,ms,e1,hm⟩:=QIO hc he honec ce v0 v1 t1
 obtain⟨A',cap',ys,e2,hy⟩:=QI3 hb heb cb t2
 refine⟨g,A,cap,ms,A',cap',ys,?_,hgB,hm,hy⟩
 have e3:l=l.take 20++[l[20]'(by omega),l[21]'(by omega)]:=by
  conv=>lhs;rw[←List.take_append_drop 20 l]
  rw[List.drop_eq_getElem_cons (by omega),List.drop_eq_getElem_cons (by omega),List.drop_of_length_le (by omega)]
 have e4:l.take 20=(JO g).toList:=by simpa using e0
 rw[e4,e1,e2] at e3
 show Value.agg cs=.agg _
 rw[←Array.toArray_toList (xs:=cs),←hcs,e3]
 rfl
end
section
open Go.ChangeShapes Go.WideShapes Go.ChangeAt Go.RowKit Go.Deep
theorem QKU {H:Type} {enc:TypeId×Value→H} {P:Program} {w:World} {r:Reach} {b0 base:Nat} {sp:Nat→Bool} {held:Bool} {t:TypeId} {f0 f1 f2 f3:Field} {v:Value} {d:DataW H} {ps:List MemPlace}
 (hs:P.underlying t=some (.struct #[f0,f1,f2,f3]))(hone:oneCellFields P #[f0,f1,f2,f3]=true)(hC:P.cellsOf t=4)
 (u0:P.underlying f0.type=some (.int .i64))(u1:P.underlying f1.type=some (.int .u16))(u2:P.underlying f2.type=some (.int .u8))(u3:P.underlying f3.type=some (.int .i64))
 (hv:Value.okWide P w r b0 t v)(h:DataW.Trod enc P w base sp held t v d ps) :
 ∃ c:Cy,v=cyV c∧(0≤c.addr∧c.addr≤65535)∧B8 c.data∧(-9223372036854775808≤c.t∧c.t≤9223372036854775807):=by
 obtain⟨cs,rfl,hsz⟩:=okWide_struct hs hv
 obtain⟨fuel,hf⟩:=h
 obtain⟨xs,n,-,-,-,hlen,hg⟩:=DataW.trod_struct hs hf
 rw[hC] at hsz
 have hlen:xs.length=4:=hlen
 have one:∀ (k:Nat) (f:Field) (K:IntKind),#[f0,f1,f2,f3][k]? = some f→P.underlying f.type=some (.int K)→∃ z,cs[k]? = some (.int K z)∧(Lit.int K z).wf=true:=by
  intro k f K hk hu
  obtain⟨ho,h1⟩:=hone_of hone k f hk
  have hkl:k < 4:=(Array.getElem?_eq_some_iff.1 hk).1
  have h2:=hg k f hk
  rw[ho,h1] at h2
  have e1:((Value.agg cs).cells.toList.drop k).take 1=[cs[k]'(by omega)]:=by
   have e:(Value.agg cs).cells.toList=cs.toList:=rfl
   rw[e,List.drop_eq_getElem_cons (by simp;omega)]
   simp
  rw[e1,List.getElem?_eq_getElem (by omega)] at h2
  obtain⟨z,e2,-,hw⟩:=DataW.trod_int hu h2
  injection e2 with e3
  exact⟨z,by rw[Array.getElem?_eq_getElem (by omega),e3],hw⟩
 obtain⟨z0,e0,-⟩:=one 0 f0 .i64 rfl u0
 obtain⟨z1,e1,w1⟩:=one 1 f1 .u16 rfl u1
 obtain⟨z2,e2,w2⟩:=one 2 f2 .u8 rfl u2
 obtain⟨z3,e3,w3⟩:=one 3 f3 .i64 rfl u3
 have b1:=bounds_u16 w1
 have b2:=bounds_u8 w2
 have b3:=bounds_i64 w3
 refine⟨⟨z0,z1,z2,z3⟩,?_,⟨by show 0≤z1;omega,by show z1≤65535;omega⟩,⟨by show 0≤z2;omega,by show z2≤255;omega⟩,⟨by show _≤z3;omega,by show z3≤_;omega⟩⟩
 obtain⟨l⟩:=cs
 match l,hsz with
 | [a0,a1,a2,a3],_ =>
   simp at e0 e1 e2 e3
   rw[e0,e1,e2,e3]
end
def QGQ {H:Type}(F:TypeId→DataW H→Option (List Value)):List (TypeId×Nat)→List (DataW H)→Nat→Option (List Value)
 | [],[],_=>some []
 | (e,o) :: L,d :: ds,cur=>if o=cur then (F e d).bind fun a=>(QGQ F L ds (cur+a.length)).map fun b=>a++b else none
 | _,_,_=>none
def flat {H:Type}(P:Program):Nat→TypeId→DataW H→Option (List Value)
 | 0,_,_=>none
 | k+1,t,d=>match P.underlying t,d with
   | some (.int q),.lit (.int q' n)=>if q=q' then some [.int q n] else none
   | some .bool,.lit (.bool b)=>some [.bool b]
   | some .string,.lit (.string bs)=>some [.string ⟨bs.toArray⟩]
   | some (.array n e),.agg ds=>(QGQ (flat P k) ((List.range n).map fun i=>(e,i*P.cellsOf e)) ds 0).bind fun out=>if out.length=P.cellsOf t then some out else none
   | some (.struct fs),.agg ds=>(QGQ (flat P k) (fs.toList.map fun f=>(f.type,f.offset)) ds 0).bind fun out=>if out.length=P.cellsOf t then some out else none
   | _,_=>none
section
variable {H:Type} {enc:TypeId×Value→H} {P:Program} {w:World} {base:Nat} {sp:Nat→Bool} {held:Bool}
theorem QFH (F:TypeId→DataW H→Option (List Value))(m:Nat)(cs:List Value)
 (hF:∀ e d cs' p a,DataW.trod enc P w base sp held m e cs'=some (d,p)→F e d=some a→cs'=a) :
 ∀ (L:List (TypeId×Nat)) (xs:List (DataW H×List MemPlace)) (cur:Nat) (out:List Value),L.length=xs.length →
  (∀ (i:Nat) (e:TypeId) (o:Nat),L[i]? = some (e,o)→DataW.trod enc P w base sp held m e ((cs.drop o).take (P.cellsOf e))=xs[i]?)→QGQ F L (xs.map (·.1)) cur=some out→(cs.drop cur).take out.length=out
 | [],[],cur,out,_,_,h=>by
   simp only[List.map_nil,QGQ,Option.some.injEq] at h
   subst h;simp
 | (e,o) :: L,(d,p) :: xs,cur,out,hl,hx,h=>by
   simp only[List.map_cons,QGQ] at h
   split at h
   · rename_i ho
     subst ho
     obtain⟨a,ha,h⟩:=Option.bind_eq_some_iff.1 h
     obtain⟨b,hb,rfl⟩:=Option.map_eq_some_iff.1 h
     have h0:=hx 0 e o rfl
     have e1:=hF e d _ p a (by simpa using h0) ha
     have ih:=QFH F m cs hF L xs (o+a.length) b (by simpa using hl) (fun i e' o' hi=>by simpa using hx (i+1) e' o' (by simpa using hi)) hb
     have e2:(cs.drop o).take a.length=a:=by
      conv=>rhs;rw[←e1]
      rw[←e1,List.length_take]
      rcases Nat.le_total (P.cellsOf e) (cs.drop o).length with hq|hq
      · rw[Nat.min_eq_left hq]
      · rw[Nat.min_eq_right hq,List.take_length,List.take_of_length_le hq]
     have e3:cs.drop o=a++cs.drop (o+a.length):=by
      conv=>lhs;rw[←List.take_append_drop a.length (cs.drop o),e2,List.drop_drop]
     rw[e3,List.length_append,List.take_length_add_append,ih]
   · cases h
 | [],_ :: _,_,_,hl,_,_=>by simp at hl
 | _ :: _,[],_,_,hl,_,_=>by simp at hl
theorem QHp:∀ (k:Nat) (t:TypeId) (d:DataW H) (cs:List Value) (fuel:Nat) (p:List MemPlace) (out:List Value),DataW.trod enc P w base sp held fuel t cs=some (d,p)→flat P k t d=some out→cs=out
 | 0,_,_,_,_,_,_,_,h=>by simp[flat] at h
 | k+1,t,d,cs,fuel,p,out,ht,h=>by
   unfold flat at h
   split at h
   · rename_i hu
     split at h
     · rename_i hq
       subst hq
       obtain⟨n,rfl,e,_⟩:=DataW.trod_int hu ht
       simp only[Prod.mk.injEq,DataW.lit.injEq,Lit.int.injEq,true_and] at e
       obtain⟨rfl,_⟩:=e
       exact Option.some.inj h
     · cases h
   · rename_i hu
     obtain⟨b,rfl,e⟩:=DataW.trod_bool hu ht
     simp only[Prod.mk.injEq,DataW.lit.injEq,Lit.bool.injEq] at e
     obtain⟨rfl,_⟩:=e
     exact Option.some.inj h
   · rename_i hu
     obtain⟨s,rfl,e,_⟩:=DataW.trod_string hu ht
     simp only[Prod.mk.injEq,DataW.lit.injEq,Lit.string.injEq] at e
     obtain⟨rfl,_⟩:=e
     exact Option.some.inj h
   · rename_i n e ds hu
     obtain⟨xs,m,rfl,hx,hlen,hxl,hi⟩:=DataW.trod_array hu ht
     simp only[Prod.mk.injEq,DataW.agg.injEq] at hx
     obtain⟨rfl,rfl⟩:=hx
     obtain⟨o,ho,h⟩:=Option.bind_eq_some_iff.1 h
     split at h
     · rename_i hol
       obtain rfl:=Option.some.inj h
       have:=QFH (flat P k) m cs (fun e d cs' p a h1 h2=>QHp k e d cs' m p a h1 h2) _ xs 0 o (by simp[hxl]) (fun i e' o' hq=>by
        simp only[List.getElem?_map,Option.map_eq_some_iff,Prod.mk.injEq] at hq
        obtain⟨j,hj,rfl,rfl⟩:=hq
        obtain⟨hj1,hj2⟩:=List.getElem?_eq_some_iff.1 hj
        simp only[List.getElem_range] at hj2
        subst hj2
        exact hi _ (by simpa using hj1)) ho
       rwa [List.drop_zero,hol,←hlen,List.take_length] at this
     · cases h
   · rename_i fs ds hu
     obtain⟨xs,m,rfl,hx,hlen,hxl,hi⟩:=DataW.trod_struct hu ht
     simp only[Prod.mk.injEq,DataW.agg.injEq] at hx
     obtain⟨rfl,rfl⟩:=hx
     obtain⟨o,ho,h⟩:=Option.bind_eq_some_iff.1 h
     split at h
     · rename_i hol
       obtain rfl:=Option.some.inj h
       have:=QFH (flat P k) m cs (fun e d cs' p a h1 h2=>QHp k e d cs' m p a h1 h2) _ xs 0 o (by simp[hxl]) (fun i e' o' hq=>by
        simp only[List.getElem?_map,Option.map_eq_some_iff,Prod.mk.injEq] at hq
        obtain⟨f,hf,rfl,rfl⟩:=hq
        exact hi i f (by simpa using hf)) ho
       rwa [List.drop_zero,hol,←hlen,List.take_length] at this
     · cases h
   · cases h
end
theorem QDP {P:Program} {W:World} {name:String} {d:DataW Unit}:∀ (laid:List (String×DataW Unit)) (ps:List MemPlace),DataW.LaidVars P W laid ps→∀ (i:Nat),laid[i]? = some (name,d) →
 ∃ g t cs fuel p,P.globalNamed name=some g∧(P.globals[g]?).map (·.type)=some t∧W.var? P name=some cs∧DataW.trod (fun _=>()) P W 0 (fun _=>true) false fuel t cs.toList=some (d,p)
 | [],_,_,i,hi=>by simp at hi
 | (n,d') :: r,ps,h,0,hi=>by
   obtain⟨g,t,cs,fuel,p,q,h1,h2,h3,h4,_,_⟩:=h
   simp only[List.getElem?_cons_zero,Option.some.injEq,Prod.mk.injEq] at hi
   obtain⟨rfl,rfl⟩:=hi
   exact⟨g,t,cs,fuel,p,h1,h2,h3,h4⟩
 | (n,d') :: r,ps,h,i+1,hi=>by
   obtain⟨g,t,cs,fuel,p,q,_,_,_,_,h5,_⟩:=h
   exact QDP r q h5 i (by simpa using hi)
theorem Jn {P:Program} {W:World} {name:String} {d:DataW Unit} {laid:List (String×DataW Unit)} {g:Nat} {t:TypeId} {k:Nat} {out:List Value}(i:Nat)(hi:laid[i]? = some (name,d))(hg:P.globalNamed name=some g)(hty:(P.globals[g]?).map (·.type)=some t)
 (hf:flat P k t d=some out)(h:laidMet P laid W):W.var? P name=some out.toArray:=by
 obtain⟨ps,h1,_⟩:=h
 obtain⟨g',t',cs,fuel,p,hg',ht',hvar,hd⟩:=QDP laid ps h1 i hi
 obtain rfl:=Option.some.inj (hg.symm.trans hg')
 obtain rfl:=Option.some.inj (hty.symm.trans ht')
 rw[hvar,←QHp k t d _ _ _ _ hd hf]
theorem Jo {P:Program} {W:World} {name:String} {g:Nat} {out:List Value}(h:W.var? P name=some out.toArray)(hg:P.globalNamed name=some g)(i:Nat)(v:Value)(hv:out[i]? = some v):W.cell? ⟨g,i,none⟩=some v:=by
 rw[World.var?_cell hg h i]
 simpa using hv
end Go.Proofs.YtmgcgiecimnncaaGreatDoor
