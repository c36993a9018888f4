/- Contracts and facts that the claim's proof wants (several texts in one). -/
import Derived.Test.YtmgcgiecimnncaaGreatDoorTlG26
import Derived.Test.YtmgcgiecimnncaaGreatDoorTlG28
namespace Go.Proofs.YtmgcgiecimnncaaGreatDoor
open Go.RowKit
set_option linter.unusedVariables false
set_option linter.unusedSimpArgs false
set_option maxRecDepth 20000
set_option maxHeartbeats 20000000
abbrev opB (o:OpM)(b:Bool):Value:=.tuple #[opV o.plane o.code o.disp o.imm o.len o.skip,.bool b]
theorem QAr {xs:List Int}(h:okM xs=true):lenOf xs≤xs.length∧QT xs=XJ xs:=by
 have h2:=h
 unfold okM at h2
 rw[decide_eq_true_eq] at h2
 exact⟨h2,by unfold QT;rw[h];rfl⟩
theorem QQ2 {xs:List Int}(h:okM xs=false):xs.length < lenOf xs∧QT xs=QPM:=by
 have h2:=h
 unfold okM at h2
 rw[decide_eq_false_iff_not] at h2
 exact⟨by omega,by unfold QT;rw[h];rfl⟩
theorem QIm (ad:Option Addr)(cap:Nat)(xs:List Int)(hl:xs.length≤140737488355328)(hx:Bytes8 xs)(w:World)(h:BytesIn w w.heap.size ad xs) :
 Calls Tryz.prog 25 #[.slice ad xs.length cap] w fun e w'=>e=.returned (opB (QT xs) (okM xs))∧Below w.heap.size w w':=by
 have ex:∀ W:World,W=(((w.alloc (.cells #[.slice ad xs.length cap] 26)).alloc (.cells QAP 49)).alloc (.cells #[.int .i64 0] 3)).alloc (.cells #[.bool false] 4) →
  Rd W w.heap.size (w.heap.size+1+1) w.heap.size (w.heap.size+1+1+1) ad cap xs 0∧Row W (w.heap.size+1) 49 QAP∧Below w.heap.size w W∧W.heap.size=w.heap.size+1+1+1+1:=by
  rintro W rfl
  have b1:=Boxed.new w 26 (.slice ad xs.length cap)
  have b2:=Row.new (w.alloc (.cells #[.slice ad xs.length cap] 26)) 49 QAP
  have b3:=Boxed.new ((w.alloc (.cells #[.slice ad xs.length cap] 26)).alloc (.cells QAP 49)) 3 (.int .i64 0)
  have b4:=Boxed.new (((w.alloc (.cells #[.slice ad xs.length cap] 26)).alloc (.cells QAP 49)).alloc (.cells #[.int .i64 0] 3)) 4 (.bool false)
  simp only[World.size_alloc] at b2 b3 b4
  have hb:Below w.heap.size w ((((w.alloc (.cells #[.slice ad xs.length cap] 26)).alloc (.cells QAP 49)).alloc (.cells #[.int .i64 0] 3)).alloc (.cells #[.bool false] 4)):=(by repeat (first|exact Below.refl _ _|assumption|refine JF ?_ (by assumption)|refine Below.drew ?_|refine Below.alloc ?_ (by first|(simp;done)|(simp;omega)|omega) _|refine Below.setCell ?_ (by first|(simp;done)|(simp;omega)|omega) _))
  refine⟨⟨?_,((b1.alloc _).alloc _).alloc _,?_,h.below hb,by omega,by omega,by omega,by omega,by omega,by omega⟩,(b2.alloc _).alloc _,hb,by simp only[World.size_alloc]⟩
  · rw[Nat.zero_min]
    exact b3.alloc _
  · rw[decide_eq_false (by omega)]
    exact b4
 obtain⟨hR,hrow,hb,hsz⟩:=ex _ rfl
 have hB:=Lib.hid hb
 have hz0:=Lib.hid hsz
 clear hsz
 have hW:=Lib.hid (QMQ w.heap.size (w.heap.size+1+1) w.heap.size (w.heap.size+1+1+1) ad cap xs hl hx _ hR)
 have hrow':=Lib.hid hrow
 clear ex hR hb h hrow
 have hlen:=jU xs
 generalize hop:XJ xs=o at *
 obtain⟨pl,co,di,im,le,sk⟩:=o
 cases ho:okM xs with
 | true =>
   obtain⟨o1,o2⟩:=QAr ho
   rw[hop] at o2
   clear hop
   generalize QT xs=no at *
   subst o2
   generalize lenOf xs=L at *
   have hlen':=Lib.hid hlen
   clear ho hlen
   go_enter Tryz.func25,Tryz.ntmps25
   go_wp2_with fail
   refine hW.out.mono ?_
   rintro e w5 ⟨rfl,hr,hbs⟩
   have hz:=hbs.size
   rw[hz0.out] at hz
   have r1:=hrow'.out.besides hbs (by omega) (by omega)
   have hB5:=Lib.hid (hB.out.trans (hbs.below (B:=w.heap.size) (by omega) (by omega) (by rw[hz0.out];omega)))
   have rO:=Lib.hid (Row.new w5 49 #[.int .i64 pl,.int .u8 co,.int .u8 di,.int .u16 im,.int .i64 (L:Int),.int .i64 sk])
   have rR:=Lib.hid (r1.alloc (.cells #[.int .i64 pl,.int .u8 co,.int .u8 di,.int .u16 im,.int .i64 (L:Int),.int .i64 sk] 49))
   have hB7:=Lib.hid (hB5.out.alloc (by omega) (.cells #[.int .i64 pl,.int .u8 co,.int .u8 di,.int .u16 im,.int .i64 (L:Int),.int .i64 sk] 49))
   have a1:=hr.hA.cell
   have s1:=hr.hS.cell
   rw[Nat.min_eq_left o1] at a1
   rw[decide_eq_false (show ¬xs.length < L by omega)] at s1
   have z2:w.heap.size+1+1 < w5.heap.size:=by omega
   have z3:w.heap.size+1+1+1 < w5.heap.size:=by omega
   have n1:w.heap.size+1≠w5.heap.size:=by omega
   clear hr hbs r1 hz hB5
   go_upto_region 7 with (fail)
   generalize hW7:w5.alloc (.cells #[.int .i64 pl,.int .u8 co,.int .u8 di,.int .u16 im,.int .i64 (L:Int),.int .i64 sk] 49)=W7 at *
   clear hW7 a1 s1 z2 z3
   generalize w5.heap.size=O at *
   obtain⟨⟨c0,c1,c2,c3,c4,c5⟩,f⟩:=QC rR.out
   obtain⟨⟨d0,d1,d2,d3,d4,d5⟩,g⟩:=QC rO.out
   have fin:=Lib.hid ((((((hB7.out.setCell (p:=⟨w.heap.size+1,0,none⟩) (by show w.heap.size≤w.heap.size+1;omega) (.int .i64 pl)).setCell (p:=⟨w.heap.size+1,1,none⟩) (by show w.heap.size≤w.heap.size+1;omega) (.int .u8 co)).setCell (p:=⟨w.heap.size+1,2,none⟩) (by show w.heap.size≤w.heap.size+1;omega) (.int .u8 di)).setCell (p:=⟨w.heap.size+1,3,none⟩) (by show w.heap.size≤w.heap.size+1;omega) (.int .u16 im)).setCell (p:=⟨w.heap.size+1,4,none⟩) (by show w.heap.size≤w.heap.size+1;omega) (.int .i64 (L:Int))).setCell (p:=⟨w.heap.size+1,5,none⟩) (by show w.heap.size≤w.heap.size+1;omega) (.int .i64 sk))
   clear hB7
   generalize w.heap.size+1=R at *
   go_wp2
   refine bodyPost_ret (v:=.tuple #[opV pl co di im (L:Int) sk,.bool true]) (by simp[results,Tryz.f25,go_sem,c0,c1,c2,c3,c4,c5]) rfl ?_
   exact⟨by rw[hlen'.out],fin.out⟩
 | false =>
   obtain⟨o1,o2⟩:=QQ2 ho
   clear hop
   generalize QT xs=no at *
   subst o2
   generalize lenOf xs=L at *
   have hlen':=Lib.hid hlen
   clear ho hlen
   go_enter Tryz.func25,Tryz.ntmps25
   go_wp2_with fail
   refine hW.out.mono ?_
   rintro e w5 ⟨rfl,hr,hbs⟩
   have hz:=hbs.size
   rw[hz0.out] at hz
   have r1:=hrow'.out.besides hbs (by omega) (by omega)
   have hB5:=Lib.hid (hB.out.trans (hbs.below (B:=w.heap.size) (by omega) (by omega) (by rw[hz0.out];omega)))
   have rO:=Lib.hid (Row.new w5 49 #[.int .i64 pl,.int .u8 co,.int .u8 di,.int .u16 im,.int .i64 0,.int .i64 sk])
   have rR:=Lib.hid (r1.alloc (.cells #[.int .i64 pl,.int .u8 co,.int .u8 di,.int .u16 im,.int .i64 0,.int .i64 sk] 49))
   have hB7:=Lib.hid (hB5.out.alloc (by omega) (.cells #[.int .i64 pl,.int .u8 co,.int .u8 di,.int .u16 im,.int .i64 0,.int .i64 sk] 49))
   have a1:=hr.hA.cell
   have s1:=hr.hS.cell
   clear a1
   rw[decide_eq_true o1] at s1
   have z3:w.heap.size+1+1+1 < w5.heap.size:=by omega
   have n1:w.heap.size+1≠w5.heap.size:=by omega
   clear hr hbs r1 hz hB5
   go_upto_region 5 with (fail)
   generalize hW7:w5.alloc (.cells #[.int .i64 pl,.int .u8 co,.int .u8 di,.int .u16 im,.int .i64 0,.int .i64 sk] 49)=W7 at *
   clear hW7 s1 z3
   generalize w5.heap.size=O at *
   obtain⟨⟨c0,c1,c2,c3,c4,c5⟩,f⟩:=QC rR.out
   obtain⟨⟨d0,d1,d2,d3,d4,d5⟩,g⟩:=QC rO.out
   have fin:=Lib.hid ((((((hB7.out.setCell (p:=⟨w.heap.size+1,0,none⟩) (by show w.heap.size≤w.heap.size+1;omega) (.int .i64 0)).setCell (p:=⟨w.heap.size+1,1,none⟩) (by show w.heap.size≤w.heap.size+1;omega) (.int .u8 0)).setCell (p:=⟨w.heap.size+1,2,none⟩) (by show w.heap.size≤w.heap.size+1;omega) (.int .u8 0)).setCell (p:=⟨w.heap.size+1,3,none⟩) (by show w.heap.size≤w.heap.size+1;omega) (.int .u16 0)).setCell (p:=⟨w.heap.size+1,4,none⟩) (by show w.heap.size≤w.heap.size+1;omega) (.int .i64 0)).setCell (p:=⟨w.heap.size+1,5,none⟩) (by show w.heap.size≤w.heap.size+1;omega) (.int .i64 0))
   clear hB7
   generalize w.heap.size+1=R at *
   go_wp2
   refine bodyPost_ret (v:=.tuple #[opV 0 0 0 0 0 0,.bool false]) (by simp[results,Tryz.f25,go_sem,c0,c1,c2,c3,c4,c5]) rfl ?_
   exact⟨rfl,fin.out⟩
def QCC:List (List Nat):=[[102,101,116,99,104],[114,101,97,100],[119,114,105,116,101],[105,110],[111,117,116],[97,99,107],[105,110,110,101,114]]
structure TrTabs (w:World):Prop where
 t:TextTabs w
 k:Tab w "charabanc/trace.kinds" QCC
theorem TrTabs.below {w w':World}(h:TrTabs w)(k:Below w.heap.size w w'):TrTabs w':=⟨h.t.below k,Jq h.k k⟩
theorem TrTabs.n {w:World}(h:TrTabs w):NumTabs w:=⟨h.t.pow,h.t.bru⟩
theorem QR1:Tryz.prog.globalNamed "charabanc/trace.kinds"=some 0:=by kernel_rfl
def jq (k:Int):ByteArray:=if k < 1∨7 < k then ⟨#[63]⟩ else sb (pick QCC (k-1))
def QMN (c:Cy):ByteArray:=jq c.kind++⟨#[32]⟩++Jt c.addr++⟨#[32]⟩++Xt c.data++⟨#[32]⟩++ql c.t
theorem QEo (k:Int):(jq k).size≤8:=by
 unfold jq
 split
 · decide
 · have h:∀ x:Fin 7,(sb (pick QCC (x.val:Int))).size≤8:=by decide
   have:=h ⟨(k-1).toNat,by omega⟩
   rwa [show (((⟨(k-1).toNat,by omega⟩:Fin 7).val:Nat):Int)=k-1 by show ((k-1).toNat:Int)=k-1;omega] at this
theorem zT (a b:ByteArray)(h:a.size+b.size≤1000000)(w:World):(binOp .add 9 (.string a) (.string b)).run Tryz.prog w=.ok (.string (a++b)) w:=by
 have h1:¬(9223372036854775807 < a.size+b.size):=by omega
 simp[go_sem,h1]
theorem ixK (k:Int)(h0:0≤k)(h1:k < 7)(w:World):(Instr.indexAt 53 (pT 0 0) (.int .i64 k)).run Tryz.prog w=.ok (pT 0 k.toNat) w:=by
 have h2:¬(k < 0):=by omega
 have h3:¬(7≤k.toNat):=by omega
 simp[go_sem,h0,h1,h2,h3]
theorem QCr (k:Int)(W:World)(ht:TrTabs W):Calls Tryz.prog 12 #[.int .i64 k] W fun e W'=>e=.returned (.string (jq k))∧Below W.heap.size W W':=by
 go_enter Tryz.func12,Tryz.ntmps12
 refine JA<|qQ [] (Many.begin W) fun w1 k1=>coS<|coR<|qR 3 [] k1 fun w2 k2=>?_
 by_cases h1:k < 1
 · have e:jq k=⟨#[63]⟩:=if_pos (.inl h1)
   rw[e]
   exact tell 5 (show decide (k < 1)=true by simpa using h1)<|qE [] k2 fun w3 k3=>coT<|qQ [] k3 fun w4 k4=>JE<|Je<|JR (.string ⟨#[63]⟩) ⟨rfl,k4.touch.below⟩
 refine tell 5 (show decide (k < 1)=false by simpa using h1)<|qR 2 [] k2 fun w3 k3=>?_
 by_cases h7:k > 7
 · have e:jq k=⟨#[63]⟩:=if_pos (.inr h7)
   rw[e]
   exact tell 7 (show decide (k > 7)=true by simpa using h7)<|qE [] k3 fun w3 k3=>coT<|qQ [] k3 fun w4 k4=>JE<|Je<|JR (.string ⟨#[63]⟩) ⟨rfl,k4.touch.below⟩
 have e:jq k=sb (pick QCC (k-1)):=if_neg (by omega)
 rw[e]
 refine tell 7 (show decide (k > 7)=false by simpa using h7)<|qE [] k3 fun w4 k4=>coF<|JC<|eoT<|coR<|qR 1 [] k4 fun w5 k5=>kBj 10 (.int .i64 k) (.int .i64 1) (.int .i64 (k-1)) (egI _ _ _ _ _) (QJm _ _ (by omega) (by omega))<|wM (Jm (ixK (k-1) (by omega) (by omega) w5)) ?_
 exact wM (Jc (jg ((ht.below k5.touch.below).k.of QR1 (k-1) (by omega) (by show k-1 < 7;omega))))<|qE [] k5 fun w6 k6=>JE<|JR (.string (sb (pick QCC (k-1)))) ⟨rfl,k6.touch.below⟩
theorem QJd (n:Int)(h:Wd16 n)(w:World)(ht:NumTabs w):Calls Tryz.prog 16 #[.int .i64 (IntKind.i64.wrap n),.int .i64 4] w fun e w'=>e=.returned (.string (Jt n))∧Below w.heap.size w w':=by
 rw[show IntKind.i64.wrap n=n by have:=h.1;have:=h.2;rw[IntKind.wrap_i64];omega]
 exact QGI n h w ht
theorem QP8 (n:Int)(h:B8 n)(w:World)(ht:NumTabs w):Calls Tryz.prog 16 #[.int .i64 (IntKind.i64.wrap n),.int .i64 2] w fun e w'=>e=.returned (.string (Xt n))∧Below w.heap.size w w':=by
 rw[show IntKind.i64.wrap n=n by have:=h.1;have:=h.2;rw[IntKind.wrap_i64];omega]
 exact QGA n h w ht
theorem QV (a b:ByteArray):(a++b).size=a.size+b.size:=by simp
theorem XT (x:UInt8):(⟨#[x]⟩:ByteArray).size=1:=rfl
theorem QWS (g n c:Nat)(L:Int)(k:Nat)(e:L=(k:Int))(h:k≤c)(w:World):(Instr.sliceAt 26 (.slice (some ⟨g,0,none⟩) n c) none (some (.int .i64 L)) (some (.int .i64 L))).run Tryz.prog w=.ok (.slice (some ⟨g,0,none⟩) k k) w:=by
 subst e
 have h1:¬((k:Int) < 0):=by omega
 have h2:¬((c:Int) < k):=by omega
 simp[go_sem,h,h1,h2]
theorem BytesIn.tk {w:World} {B:Nat} {A:Option Addr} {xs:List Int}(h:BytesIn w B A xs)(n:Nat):BytesIn w B A (xs.take n):=fun j x hx=>by
 rw[List.getElem?_take] at hx
 split at hx
 · exact h j x hx
 · cases hx
theorem QC0 {V:Value} {w:Wd}(W:World)(hw:OkW w)(hl:w.m.length≤1000000)(h:InW W W.heap.size V w):Calls Tryz.prog 8 #[V] W fun e W'=>∃ g,e=.returned (.slice (some ⟨g,0,none⟩) (Qn w.m w.g.pc).length (Qn w.m w.g.pc).length)∧BytesIn W' W'.heap.size (some ⟨g,0,none⟩) (Qn w.m w.g.pc)∧Below W.heap.size W W':=by
 obtain⟨A,c,A',c',rfl,hin,-⟩:=h
 obtain⟨g,m,p⟩:=w
 have hx:=zx hw.m g.pc
 have h8:=QAw m g.pc
 go_enter Tryz.func8,Tryz.ntmps8
 refine JA<|qQ [] (Many.begin W) fun w1 k1=>coR<|qR 5 [0,0] k1 fun w2 k2=>kX (QOM A c m g.pc 8 (by show m.length≤_;have:m.length≤1000000:=hl;omega) hw.m hw.g.pc w2 ((hin.below k2.touch.below).more k2.touch.size)) fun e w3 ⟨b,he,hy,hb3⟩=>⟨_,he,qE [] (Many.begin w3) fun w4 k4=>?_⟩
 rw[show jx m g.pc 8=JZ m g.pc from rfl] at hy ⊢
 have hB3:Below W.heap.size W w3:=k2.touch.below.trans (hb3.mono k2.touch.size)
 have hB4:Below W.heap.size W w4:=bOn hB3 k4
 have hy4:=(hy.below k4.touch.below).more k4.touch.size
 refine coS<|coR<|qR 1 [] (Many.begin w4) fun w5 k5=>qC (QIm (some ⟨b,0,none⟩) (JZ m g.pc).length (JZ m g.pc) (by omega) hx w5 ((hy4.below k5.touch.below).more k5.touch.size)) k5 fun w6 k6=>qE [0] k6 fun w7 k7=>qQ [] k7 fun w8 k8=>coI (okM (JZ m g.pc)) (fun ho=>?_) fun ho=>JC<|eoT ?_
 · obtain⟨o1,o2⟩:=QAr ho
   have hlen:=jU (JZ m g.pc)
   have e:Qn m g.pc=(JZ m g.pc).take (lenOf (JZ m g.pc)):=if_pos ho
   have e2:((JZ m g.pc).take (lenOf (JZ m g.pc))).length=lenOf (JZ m g.pc):=by rw[List.length_take];omega
   have e3:(QT (JZ m g.pc)).len=(lenOf (JZ m g.pc):Int):=by rw[o2,hlen]
   rw[e,e2]
   exact coR<|qR 5 [0,0] k8 fun w9 k9=>wM (QCv (QWS b (JZ m g.pc).length (JZ m g.pc).length (QT (JZ m g.pc)).len (lenOf (JZ m g.pc)) e3 (by omega) w9))<|qE [] k9 fun wa ka=>JE<|Je<|JR (.slice (some ⟨b,0,none⟩) (lenOf (JZ m g.pc)) (lenOf (JZ m g.pc))) ⟨_,rfl,((hy4.below ka.touch.below).more ka.touch.size).tk _,bOn hB4 ka⟩
 · have e:Qn m g.pc=JZ m g.pc:=if_neg (by rw[ho];simp)
   rw[e]
   exact qQ [] k8 fun w9 k9=>JE<|JR (.slice (some ⟨b,0,none⟩) (JZ m g.pc).length (JZ m g.pc).length) ⟨_,rfl,(hy4.below k9.touch.below).more k9.touch.size,bOn hB4 k9⟩
theorem QMx (b:Nat)(c:Nat)(xs:List Int)(hx:Bytes8 xs)(hl:xs.length≤1000)(W:World)(ht:TextTabs W)(hy:BytesIn W W.heap.size (some ⟨b,0,none⟩) xs):Calls Tryz.prog 17 #[.slice (some ⟨b,0,none⟩) xs.length c] W fun e W'=>e=.returned (.string (qq xs))∧Below W.heap.size W W':=by
 have hb:=QHU hx
 go_enter Tryz.func17,Tryz.ntmps17
 refine JA<|qQ [] (Many.begin W) fun w1 k1=>coS<|coR<|qR 1 [] k1 fun w2 k2=>qC (QIm (some ⟨b,0,none⟩) c xs (by omega) hx w2 ((hy.below k2.touch.below).more k2.touch.size)) k2 fun w3 k3=>qE [0] k3 fun w4 k4=>qQ [] k4 fun w5 k5=>coI (okM xs) (fun ho=>?_) fun ho=>JC<|eoT ?_
 · have e:qq xs=opS (QT xs):=if_pos ho
   rw[e]
   exact coR<|qR 1 [0] k5 fun w6 k6=>qC (QNg (QT xs).plane (QT xs).code (QT xs).disp (QT xs).imm (QT xs).len (QT xs).skip hb.1 hb.2.1 hb.2.2 w6 (ht.below k6.touch.below)) k6 fun w7 k7=>qE [] k7 fun w8 k8=>JE<|Je<|JR (.string (opS (QT xs))) ⟨rfl,k8.touch.below⟩
 · have e:qq xs=⟨#[46,46]⟩:=if_neg (by rw[ho];simp)
   rw[e]
   exact qQ [] k5 fun w6 k6=>JE<|JR (.string ⟨#[46,46]⟩) ⟨rfl,k6.touch.below⟩
theorem QC9 {V:Value} {w:Wd}(W:World)(hw:OkW w)(hl:w.m.length≤1000000)(h:InW W W.heap.size V w)(ht:TrTabs W):Calls Tryz.prog 5 #[V] W fun e W'=>e=.returned (.string (Zm w))∧Below W.heap.size W W':=by
 have h0:=h
 obtain⟨A,c,A',c',rfl,-⟩:=h0
 obtain⟨g,m,p⟩:=w
 have hx:=QJl hw.m g.pc
 have hle:=QN7 m g.pc
 have z1:=QFC hx
 have z2:=ZD g.pc
 have z3:=QC8 g hw.g.mode
 have z4:=Q4 (jp g)
 have z5:(⟨#[58,32]⟩:ByteArray).size=2:=rfl
 have z6:(⟨#[32,124,32]⟩:ByteArray).size=3:=rfl
 have c1:=fun w h=>QJd g.pc hw.g.pc w h
 have c2:=fun w b n h h'=>QMx b n (Qn m g.pc) hx (by omega) w h h'
 have c3:=fun w h=>QOJ g hw.g w h
 show Calls _ _ _ _ fun e W'=>e=.returned (.string (Jt g.pc++⟨#[58,32]⟩++qq (Qn m g.pc)++⟨#[32,124,32]⟩++⟨(jp g).toArray⟩))∧_
 have c4:=fun w h=>QC0 (V:=Xd g (.slice A m.length c) (.slice A' p.length c')) (w:=⟨g,m,p⟩) w hw hl h
 dsimp only at c4
 generalize Jt g.pc=X at *
 generalize qq (Qn m g.pc)=Y at *
 generalize (⟨(jp g).toArray⟩:ByteArray)=Z at *
 go_enter Tryz.func5,Tryz.ntmps5
 refine JA<|qQ [] (Many.begin W) fun w1 k1=>qP 15 k1 fun w2 k2=>qD 0 [0,1,2,3,6,11,12] k2<|qDc 4 (c1 w2 (ht.below k2.touch.below).n) k2 fun w3 k3=>?_
 refine qT 5 k3 (fun w' _=>Xb (gS _ _ _ _ _ _) (zT X ⟨#[58,32]⟩ (by omega) _))<|zO 7 (soC (c4 w3 (h.on k3.touch.below)) fun e w4 ⟨b,he,hy,hb4⟩=>⟨_,he,k3.below hb4,qDc 8 (c2 w4 b (Qn m g.pc).length (ht.t.below (k3.below hb4).touch.below) hy) (k3.below hb4) fun w5 k5=>?_⟩)
 refine qT 9 k5 (fun w' _=>Xb (gS _ _ _ _ _ _) (zT (X++⟨#[58,32]⟩) Y (by simp only[QV];omega) _))<|qT 10 k5 (fun w' _=>Xb (gS _ _ _ _ _ _) (zT (X++⟨#[58,32]⟩++Y) ⟨#[32,124,32]⟩ (by simp only[QV];omega) _))<|qDc 13 (c3 w5 (ht.below k5.touch.below).n) k5 fun w6 k6=>?_
 exact qT 14 k6 (fun w' _=>Xb (gS _ _ _ _ _ _) (zT (X++⟨#[58,32]⟩++Y++⟨#[32,124,32]⟩) Z (by simp only[QV];omega) _))<|poE<|qE [] k6 fun w7 k7=>JE<|JR (.string (X++⟨#[58,32]⟩++Y++⟨#[32,124,32]⟩++Z)) ⟨rfl,k7.touch.below⟩
theorem QRY {P:Program} {ρ:Operand→Value} {o:Oper} {f x:Operand} {lo:Nat} {V:Value} {R:Next} {w:World}(hl:(Instr.yield lo #[V]).run P w=.ok R w)(ho:o.op=.call { callee:=.value f,args:=#[x],argTypes:=#[9] }:=by exact rfl)(hf:ρ f=.func (.yield lo) #[] #[]:=by kernel_rfl)(hx:ρ x=V:=by kernel_rfl):(execOp ρ o).run P w=.ok R w:=by
 unfold execOp
 simp[ho,hf,hx,resolve,Deferred.ofValue,invoke,Sem.run_bind,Sem.run_pure,hl,Result.andThen_ok]
def InR (W:World)(n B:Nat)(g:Rg)(M P:Value)(w:Wd):Prop:=g=w.g∧∃ A c A' c',M=.slice A w.m.length c∧P=.slice A' w.p.length c'∧CellsIn W B A w.m∧(A=none→c=0)∧w.m.length≤c∧BytesIn W B A' w.p∧(A'=none→c'=0)∧w.p.length≤c'∧(∀ q,A=some q→n≤q.block)∧(∀ q,A'=some q→n≤q.block)
theorem InR.kept {S:Nat→Prop} {W W':World} {n B:Nat} {g:Rg} {M P:Value} {w:Wd}(h:InR W n B g M P w)(k:Kept S W W')(hB:B≤W.heap.size)(hS:∀ x,n≤x→x < B→¬S x):InR W' n B g M P w:=by
 obtain⟨h0,A,c,A',c',h1,h2,h3,h4,h5,h6,h7,h8,h9,ha⟩:=h
 exact⟨h0,A,c,A',c',h1,h2,h3.off h9 fun b e e2=>k.block b (by omega) (hS b e e2),h4,h5,h6.off ha fun b e e2=>k.block b (by omega) (hS b e e2),h7,h8,h9,ha⟩
theorem InR.inW {W:World} {n B:Nat} {g:Rg} {M P:Value} {w:Wd}(h:InR W n B g M P w)(hB:B≤W.heap.size):InW W W.heap.size (Xd g M P) w:=by
 obtain⟨rfl,A,c,A',c',rfl,rfl,h3,h4,h5,h6,h7,h8,-,-⟩:=h
 exact⟨A,c,A',c',rfl,h3.more hB,h4,h5,h6.more hB,h7,h8⟩
structure TConF (Z:World)(lb lo:Nat)(rc:Loop)(w0:Wd)(W:World)(i:Nat)(vl:Value):Prop where
 box:Row W lb 42 #[vl]
 own:W.ownsRow Z.heap.size 9 1 vl i (tvs (ZR i w0))
 lop:W.heap[lo]? = some (.loop rc)
 kept:Kept (fun x=>x=lb∨x=lo) Z W
 apart:vl.ownBlock≠some Z.heap.size
 big:Z.heap.size < W.heap.size
theorem TConF.keptT {S:Nat→Prop} {Z:World} {lb lo:Nat} {rc:Loop} {w0:Wd} {W W':World} {i:Nat} {vl:Value}(h:TConF Z lb lo rc w0 W i vl)(k:Kept S W W')(h1:¬S lb)(h2:¬S lo)(h3:∀ b,vl.ownBlock=some b→¬S b)(h4:∀ x,x < Z.heap.size→¬S x):TConF Z lb lo rc w0 W' i vl :=
 ⟨k.row h.box h1,k.own h.own h3,(k.block lo (Array.getElem?_eq_some_iff.1 h.lop).1 h2).trans h.lop,h.kept.trans k (fun _ e=>e) fun x hx e=>(h4 x hx e).elim,h.apart,Nat.lt_of_lt_of_le h.big k.size⟩
theorem TConF.on {Z:World} {lb lo:Nat} {rc:Loop} {w0:Wd} {W W':World} {i:Nat} {vl:Value}(h:TConF Z lb lo rc w0 W i vl)(k:Below W.heap.size W W'):TConF Z lb lo rc w0 W' i vl :=
 h.keptT (S:=fun _=>False) (.of_below k) (fun e=>e) (fun e=>e) (fun _ _ e=>e) (fun _ _ e=>e)
def QRM (Z:World)(lb lo:Nat)(rc:Loop)(w0:Wd)(N:Nat):Prop:=∀ (W:World) (i:Nat) (vl:Value),i < N→TConF Z lb lo rc w0 W i vl →
 YieldAt Fence.wide 0 Tryz.prog lo #[.string (Zm (itW i w0))] W fun e W'=>e=.returned (.bool (decide (i+1 < N)))∧∃ vl',TConF Z lb lo (if i+1 < N then rc else { rc with state:=.done,pending:=some (.exit 0) }) w0 W' (i+1) vl'∧Kept (fun x=>x=lb∨x=lo∨vl.ownBlock=some x) W W'
structure TgX where
 i:Nat
 g:Rg
 M:Value
 P:Value
 n:Nat
 B:Nat
 vl:Value
 y:Nat→Value
def tgB (lo b1 b3:Nat)(x:TgX):List Value:=[.func (.yield lo) #[] #[],pT b1 0,x.y 2,pT b3 0,x.y 4,x.y 5,x.y 6,x.y 7,x.y 8,x.y 9,x.y 10,x.y 11,x.y 12,x.y 13,x.y 14]
structure TgI (Z:World)(lb lo:Nat)(rc:Loop)(w0:Wd)(N:Nat)(q:TgX)(W:World):Prop where
 lt:q.i < N
 row:Row W Z.heap.size 28 (J9 q.g q.M q.P)
 con:TConF Z lb lo rc w0 W q.i q.vl
 inr:InR W q.n q.B q.g q.M q.P (itW q.i w0)
 hB:q.B≤W.heap.size
 o1:lb < q.n∨q.B≤lb
 o2:lo < q.n∨q.B≤lo
 o4:∀ x,q.vl.ownBlock=some x→x < q.n∨q.B≤x
theorem QRh (hA:zM){W0 Z:World} {lb lo b1 B0:Nat} {rc:Loop} {w0:Wd} {N:Nat} {g:Rg} {M P:Value}(hw:OkW w0)(hl:w0.m.length≤600000)(hp:w0.p.length≤1000000)(hN:0 < N)(hN2:N≤200)
 (r1:Row Z b1 28 (J9 g M P))(hb1:b1≠lb∧b1≠lo)(box:Row Z lb 42 #[.slice none 0 0])(lop:Z.heap[lo]? = some (.loop rc))(hll:lb≠lo)(inr:InR Z 0 B0 g M P w0)(hB0:B0≤lb∧B0≤lo)
 (hZ:Below W0.heap.size W0 Z)(h0:W0.heap.size≤lb∧W0.heap.size≤lo)(ht:Tabs W0 W0.heap.size)(hT:TrTabs W0)(hY:QRM Z lb lo rc w0 N) :
 Calls Tryz.prog 51 #[.func (.yield lo) #[] #[],pT b1 0] Z fun e W=>e=.returned (.tuple #[])∧∃ vl,TConF Z lb lo { rc with state:=.done,pending:=some (.exit 0) } w0 W N vl:=by
 have hlb:=box.lt
 have hlo:lo < Z.heap.size:=(Array.getElem?_eq_some_iff.1 lop).1
 have inr':=inr
 obtain⟨-,A,c,A',c',rfl,rfl,-⟩:=inr'
 go_enter Tryz.func51,Tryz.ntmps51
 refine JA<|qQ [0,1] (Many.start r1) fun z1 k1=>coB<|jA (tgB lo b1 Z.heap.size) (TgI Z lb lo rc w0 N) (fun q=>N-q.i) (fun y=>⟨0,g,.slice A w0.m.length c,.slice A' w0.p.length c',0,B0,.slice none 0 0,y⟩) ?_ ?_
 · have q1:Kept (fun _=>False) Z z1:=((Kept.of_touch k1.touch).drop r1 (k1.row 0 (J9 g (.slice A w0.m.length c) (.slice A' w0.p.length c')).toList (by kernel_rfl))).mono fun x _ e=>e.2 (List.mem_singleton.1 e.1)
   have r3:Row z1 Z.heap.size 28 (J9 g (.slice A w0.m.length c) (.slice A' w0.p.length c')):=k1.row 1 (J9 g (.slice A w0.m.length c) (.slice A' w0.p.length c')).toList (by kernel_rfl)
   exact⟨hN,r3,⟨q1.row box fun e=>e,World.ownsRow_nil ..,(q1.block lo hlo fun e=>e).trans lop,q1.mono fun _ _ e=>e.elim,(by intro e;cases e),r3.lt⟩,inr.kept q1 (by show B0≤Z.heap.size;omega) fun _ _ _ e=>e,by show B0≤z1.heap.size;have:=q1.size;omega,.inr hB0.1,.inr hB0.2,fun x e=>by cases e⟩
 clear k1
 rintro ⟨i,g,M,P,n,B,vl,y⟩ W ⟨hlt,hrow,hcon,hin,hB,o1,o2,o4⟩
 dsimp only at hlt hrow hcon hin hB o1 o2 o4
 have hWb:∀ {W':World},Kept (fun x=>x=lb∨x=lo) Z W'→Below W0.heap.size W0 W':=fun k=>k.low hZ hZ.size fun b e=>by rcases e with rfl|rfl;exact h0.1;exact h0.2
 have hlen:=QLn i w0
 have hNi:200*i≤200*200:=Nat.mul_le_mul_left _ (by omega)
 have hok:=hw.it hA i
 have hE:∀ {Q:Exit→Act→World→Prop} {R:Ending→World→Prop},(∀ w,¬R .outgrown w)→Tame (bodyPost Tryz.prog Tryz.f51 R):=fun hR a w h=>hR w h
 have hNo:∀ w:World,¬(Ending.outgrown=Ending.returned (.tuple #[])∧∃ vl,TConF Z lb lo { rc with state:=.done,pending:=some (.exit 0) } w0 w N vl):=fun w h=>by cases h.1
 refine coS<|QO2 0<|QTC<|wiM QJ (V:=.func (.yield lo) #[] #[]) (w':=W) (by kernel_rfl)<|wiM QJ (Jc (QBK hrow))<|wiC QJ (QC9 W hok (by omega) (hin.inW hB) (hT.below (hWb hcon.kept))) fun e w1 ⟨he,hb⟩=>⟨_,he,?_⟩
 have con1:=hcon.on hb
 obtain⟨fn,tmps,assign,body,hy,hR⟩:=hY w1 i vl hlt con1
 refine wiY QJ hR (fun e w2 ⟨he,vl',con2,k2⟩=>⟨_,he,wiW QJ (Tame.thn<|Tame.thn<|Tame.thn<|Tame.blk<|hE (Q:=fun _ _ _=>True) hNo) (qF [] (Many.begin w2) fun w3 k3=>QFb<|ciI (decide (i+1 < N)) (fun hlt2=>QFD<|eiE<|eoT<|coB<|coZ ?_) fun hge=>ciX<|eiE<|jv<|jv<|QE9<|eoV ⟨rfl,vl',?_⟩)⟩) (QRY hy)
 · have hlt2:i+1 < N:=by simpa using hlt2
   rw[if_pos hlt2] at con2
   have q23:=Kept.of_below (S:=fun _=>False) k3.touch.below
   have q3:Kept (fun x=>x=lb∨x=lo∨vl.ownBlock=some x) W w3:=((Kept.of_below (S:=fun _=>False) hb).trans k2 (fun _ e=>e.elim) fun _ _ e=>e).trans q23 (fun _ e=>e) fun _ _ e=>e.elim
   have row3:Row w3 Z.heap.size 28 (J9 g M P):=q3.row hrow fun e=>by
    rcases e with e|e|e
    · omega
    · omega
    · exact hcon.apart e
   have in3:InR w3 n B g M P (itW i w0):=hin.kept q3 hB fun x hx1 hx2 e=>by
    rcases e with e|e|e
    · omega
    · omega
    · have:=o4 x e;omega
   have hs3:=q3.size
   have con3:=con2.on k3.touch.below
   refine wM (Jc (QBK row3))<|kX (QLN hA 0 0 w3 hok B8.zero (by omega) (by omega) (in3.inW (by omega)) (ht.below (hWb con3.kept))) fun e w4 ⟨V4,A4,c4,he,hO,_,_,_,hb4⟩=>⟨_,he,?_⟩
   obtain⟨A5,c5,A6,c6,rfl,e2,e3,e4,e5,e6,e7,e8,e9⟩:=hO
   have row4:=row3.below hb4 row3.lt
   refine qF [0] (Many.start row4) fun w5 k5=>?_
   have q5:Kept (fun x=>x=Z.heap.size) w4 w5:=(Kept.of_touch k5.touch).mono fun b _ e=>List.mem_singleton.1 e
   have hl3:=row3.lt
   have hs4:=hb4.size
   have hs5:=q5.size
   have own3:=con3.own.lt
   refine eoB<|Qf (fun y=>⟨i+1,(mkW (Qx (itW i w0) 0 0)).g,.slice A5 (mkW (Qx (itW i w0) 0 0)).m.length c5,.slice A6 (mkW (Qx (itW i w0) 0 0)).p.length c6,w3.heap.size,w4.heap.size,vl',y⟩) ⟨hlt2,?_,?_,?_,hs5,.inl (by show lb < w3.heap.size;omega),.inl (by show lo < w3.heap.size;omega),fun x e=>.inl (own3 x e).2⟩ (by show N-(i+1) < N-i;omega)
   · exact k5.row 0 (J9 (mkW (Qx (itW i w0) 0 0)).g (.slice A5 (mkW (Qx (itW i w0) 0 0)).m.length c5) (.slice A6 (mkW (Qx (itW i w0) 0 0)).p.length c6)).toList (by kernel_rfl)
   · exact (con3.on hb4).keptT q5 (fun e=>by omega) (fun e=>by omega) (fun b e x=>con3.apart (by rw[e,x])) fun x hx e=>by omega
   · show InR w5 w3.heap.size w4.heap.size _ _ _ (itW (i+1) w0)
     rw[QPO]
     exact InR.kept ⟨rfl,A5,c5,A6,c6,rfl,rfl,e2,e3,e4,e5,e6,e7,e8,e9⟩ q5 (Nat.le_refl _) fun x hx1 hx2 e=>by omega
 · have hge:¬i+1 < N:=by simpa using hge
   rw[if_neg hge] at con2
   obtain rfl:i+1=N:=by omega
   exact con2.on k3.touch.below
theorem QKO (g:Rg)(A A':Option Addr)(n c n' c':Nat)(W:World):Calls Tryz.prog 29 #[Xd g (.slice A n c) (.slice A' n' c')] W fun e W'=>e=.returned (.func (.func 51) #[] #[pT W.heap.size 0])∧Row W' W.heap.size 28 (J9 g (.slice A n c) (.slice A' n' c'))∧Below W.heap.size W W':=by
 go_enter Tryz.func29,Tryz.ntmps29
 exact JA<|qQ [] (Many.begin W) fun w1 k1=>qQ [] k1 fun w2 k2=>JE<|JR (.func (.func 51) #[] #[pT W.heap.size 0]) ⟨rfl,k2.row 0 (J9 g (.slice A n c) (.slice A' n' c')).toList (by kernel_rfl),k2.touch.below⟩
theorem QWr {Q:Exit→Act→World→Prop} {e:Exit} {base:List Value} {l:JY} {w:World}(h:EI [] Q e base l w):EO Q e base l w:=⟨fun hi=>h.h hi⟩
def trB (lb nb:Nat)(F:Value)(x:zh):List Value:=[x.y 0,x.y 1,x.y 2,pT nb 0,x.y 4,pT lb 0,x.y 6,x.y 7,x.y 8,x.y 9,x.y 10,x.y 11,F,x.y 13,x.y 14,x.y 15,x.y 16,x.y 17,x.y 18,x.y 19,x.y 20,x.y 21,x.y 22]
theorem QPV (hA:zM){V:Value} {w:Wd}(n:Int)(W:World)(hw:OkW w)(hl:w.m.length≤600000)(hp:w.p.length≤1000000)(h:InW W W.heap.size V w)(ht:Tabs W W.heap.size)(hT:TrTabs W) :
 Calls Tryz.prog 15 #[V,.int .i64 n] W fun e W'=>∃ v b,e=.returned v∧W.heap.size≤b∧W'.ownsRow b 9 1 v (QG9 n) (tvs (ZR (QG9 n) w))∧Below W.heap.size W W':=by
 obtain⟨A,c,A',c',rfl,i1,i2,i3,i4,i5,i6⟩:=h
 refine callsIn_wide.1 (callsIn_of_wp_marks (n:=0) Tryz.func15 rfl trivial ?_)
 simp only[Tryz.ntmps15,List.size_toArray,List.length_cons,List.length_nil,Nat.reduceAdd,Nat.reduceSub,Array.replicate_succ,Array.replicate_zero,List.push_toArray,List.append_toArray,List.nil_append,List.cons_append]
 refine wpIn_wide.2 (JA<|qQ [] (Many.begin W) fun w1 k1=>coR<|qR 1 [1] k1 fun w2 k2=>wM (xMin n 200)<|qE [1] k2 fun w3 k3=>coS<|qQ [1] k3 fun w4 k4=>coI (decide (QDp n 200 < 1)) (fun hlt=>?_) fun hge=>JC<|eoT<|qQ [] k4 fun w5 k5=>coS<|coR<|qR 1 [0] k5 fun w6 k6=>?_)
 · have e0:QG9 n=0:=by have:QDp n 200 < 1:=by simpa using hlt
                       unfold QG9;omega
   rw[e0]
   exact qQ [] k4 fun w5 k5=>JE<|Je<|QWr<|QUv (.slice none 0 0) ⟨_,W.heap.size,rfl,Nat.le_refl _,World.ownsRow_nil ..,k5.touch.below⟩
 have hN1:¬QDp n 200 < 1:=by simpa using hge
 obtain⟨N,hN⟩:∃ N,N=QG9 n:=⟨_,rfl⟩
 have hNm:QDp n 200=(N:Int):=by rw[hN];unfold QG9;omega
 have hNle:=QSW n
 rw[←hN] at hNle ⊢
 have hN0:0 < N:=by omega
 have hb6:=k6.touch.below
 have r0:Row w6 W.heap.size 28 (J9 w.g (.slice A w.m.length c) (.slice A' w.p.length c')):=k6.row 0 (J9 w.g (.slice A w.m.length c) (.slice A' w.p.length c')).toList (by kernel_rfl)
 have rn:Row w6 (W.heap.size+1) 3 #[.int .i64 (QDp n 200)]:=k6.row 1 [.int .i64 (QDp n 200)] (by kernel_rfl)
 have rl:Row w6 w4.heap.size 42 #[.slice none 0 0]:=k6.row 2 [.slice none 0 0] (by kernel_rfl)
 have hl4:W.heap.size+1 < w4.heap.size:=(k4.row 1 [.int .i64 (QDp n 200)] (by kernel_rfl):Row w4 (W.heap.size+1) 3 #[.int .i64 (QDp n 200)]).lt
 rw[hNm] at rn
 refine kX (QKO w.g A A' w.m.length c w.p.length c' w6) fun e w7 ⟨he,r1,hb7⟩=>⟨_,he,qE [] (Many.begin w7) fun w8 k8=>coB<|XK (trB w4.heap.size (W.heap.size+1) (.func (.func 51) #[] #[pT w6.heap.size 0])) fun sl=>QO2 0 ?_⟩
 have hb8:=k8.touch.below
 have h68:Below w6.heap.size w6 w8:=hb7.trans (hb8.mono hb7.size)
 have hW8:Below W.heap.size W w8:=hb6.trans (h68.mono hb6.size)
 have l6:=rl.lt
 have r1:=r1.below hb8 r1.lt
 have rn:=rn.below h68 rn.lt
 have rl:=rl.below h68 rl.lt
 have l8:=h68.size
 have l1:=r1.lt
 clear k1 k2 k3 k4 k5 k6 k8
 refine QO9 (gf:=51) (lb:=#[pT w6.heap.size 0]) (fun args w=>by kernel_rfl) fun fn Z hbZ hD hL=>?_
 have hsZ:w8.heap.size+1 < Z.heap.size:=(Array.getElem?_eq_some_iff.1 hL).1
 have r1:=r1.below hbZ r1.lt
 have rn:=rn.below hbZ rn.lt
 have rl:=rl.below hbZ rl.lt
 have hWZ:Below W.heap.size W Z:=hW8.trans (hbZ.mono hW8.size)
 have inr:InR Z 0 W.heap.size w.g (.slice A w.m.length c) (.slice A' w.p.length c') w:=⟨rfl,A,c,A',c',rfl,rfl,i1.below hWZ,i2,i3,i4.below hWZ,i5,i6,fun _ _=>Nat.zero_le _,fun _ _=>Nat.zero_le _⟩
 refine (QRh hA (lb:=w4.heap.size) (lo:=w8.heap.size+1) hw hl hp hN0 hNle r1 (by omega) rl hL (by omega) inr (by omega) hWZ (by omega) ht hT ?_).mono ?_
 · intro Wr i vl hi con
   refine⟨fn,_,_,_,run_yield (args:=#[.string (Zm (itW i w))]) con.lop rfl,QLS (base:=trB w4.heap.size (W.heap.size+1) (.func (.func 51) #[] #[pT w6.heap.size 0]) sl) (l:=[(13,.string (Zm (itW i w)))]) (by kernel_rfl) ⟨by show 13 < 23;omega,trivial⟩ ?_⟩
   have hc8:Z.heap.size < Wr.heap.size:=con.big
   have rnr:Row Wr (W.heap.size+1) 3 #[.int .i64 (N:Int)]:=con.kept.row rn fun e=>by omega
   have vlr:=con.own.lt
   refine ciZ (ZG _) (Tame.thn fun _ _ h=>h) (qF [] (Many.begin Wr) fun wa ka=>eiO ?_)
   have cona:=con.on ka.touch.below
   have hsa:=ka.touch.size
   refine QIR cona.lop rfl fun wb gb lopb=>ciB ?_
   have qb:Kept (fun x=>x=w8.heap.size+1) Wr wb:=((Kept.of_below (S:=fun _=>False) ka.touch.below).trans (Kept.of_grown gb) (fun _ e=>e.elim) fun x _ e=>by injection e with e;exact e.symm)
   have hsb:=qb.size
   have boxb:=qb.row con.box (by omega)
   have ownb:wb.ownsRow Z.heap.size 9 1 vl i (tvs (ZR i w)):=qb.own con.own fun x e c=>by have:=(vlr x e).1;have c:x=w8.heap.size+1:=c;omega
   have rnb:=qb.row rnr (by omega)
   obtain⟨Av,cv,rfl,hcv,-,-⟩:=QB8 ownb
   have hTm:∀ {N:Act→World→Prop} {R:Ending→World→Prop},Tame (Exit.then N (Exit.inBlock 1 (roundPost Tryz.prog (w8.heap.size+1) R))):=Tame.thn (Tame.blk fun _ _ h=>h)
   refine ciR (ZG _) (Tame.blk fun _ _ h=>h)<|wM (Jc (jg (boxb.cell 0)))<|qR 1 [] (Many.begin wb) fun wc kc=>wM (X7 (bsS (Zm (itW i w)) wc)) ?_
   have hbc:=kc.touch.below
   have qA:Below wc.heap.size wc (wc.alloc (.cells #[.string (Zm (itW i w))] 9)):=Below.alloc (Below.refl _ _) (Nat.le_refl _) _
   have hsc:=hbc.size
   refine QTj (.tmp 14) (.tmp 16) 42 9 1 16 (.string ⟨#[]⟩) Z.heap.size (.slice Av i cv) i (tvs (ZR i w)) ⟨wc.heap.size,0,none⟩ 1 1 [.string (Zm (itW i w))] (by simp;omega) (own_below (own_below ownb hbc) qA) rfl (fun j u hu=>(Row.new wc 9 #[.string (Zm (itW i w))]).values j u hu) (fun u hu=>by rw[List.mem_singleton.1 hu];rfl) (by omega) (by omega) fun vn wf own' gr hnew=>?_
   have e2:tvs (ZR i w)++[.string (Zm (itW i w))]=tvs (ZR (i+1) w):=by rw[QK6,←QKR];rfl
   rw[e2] at own'
   have qf:=Kept.of_grown gr
   obtain⟨An,cn,rfl,hcn,-,-⟩:=QB8 own'
   have q1:Below wb.heap.size wb (wc.alloc (.cells #[.string (Zm (itW i w))] 9)):=hbc.trans (qA.mono hsc)
   have boxf:Row wf w4.heap.size 42 #[.slice Av i cv]:=qf.row (boxb.below q1 boxb.lt) fun e=>by have:=(vlr _ e).1;omega
   have rnf:=qf.row (rnb.below q1 rnb.lt) fun e=>by have:=(vlr _ e).1;omega
   have lopf:wf.heap[w8.heap.size+1]? = _:=(qf.block (w8.heap.size+1) (by have:=q1.size;omega) fun e=>by have:=(vlr _ e).1;omega).trans ((q1.block _ (by omega)).trans lopb)
   refine qF [0] (Many.start boxf) fun wg kg=>QFb ?_
   have qg:Kept (fun x=>x=w4.heap.size) wf wg:=(Kept.of_touch kg.touch).mono fun b _ e=>List.mem_singleton.1 e
   have boxg:Row wg w4.heap.size 42 #[.slice An (i+1) cn]:=kg.row 0 [.slice An (i+1) cn] (by kernel_rfl)
   have rng:=qg.row rnf (by omega)
   refine ciR (ZG _) (Tame.blk fun _ _ h=>h)<|wM (Jc (jg (boxg.cell 0)))<|qR 1 [] (Many.begin wg) fun wh kh=>wM (Jc (jg ((rng.below kh.touch.below rng.lt).cell 0)))<|qF [] kh fun wi ki=>QFb ?_
   have hbi:=ki.touch.below
   have nlt:∀ x,(Value.slice An (i+1) cn).ownBlock=some x→Z.heap.size≤x:=fun x e=>(own'.lt x e).1
   have sF:=qf.size
   have sG:=qg.size
   have q1s:=q1.size
   have lopi:=(hbi.block _ (by omega)).trans ((qg.block (w8.heap.size+1) (by omega) (by omega)).trans lopf)
   have qW:Kept (fun x=>x=w4.heap.size∨x=w8.heap.size+1∨(Value.slice Av i cv).ownBlock=some x) Wr wi:=(((qb.trans (Kept.of_below (S:=fun _=>False) q1) (U:=fun x=>x=w4.heap.size∨x=w8.heap.size+1∨(Value.slice Av i cv).ownBlock=some x) (fun _ e=>.inr (.inl e)) fun _ _ e=>e.elim).trans qf (fun _ e=>e) fun x _ e=>.inr (.inr e)).trans qg (fun _ e=>e) fun x _ e=>.inl e).trans (Kept.of_below (S:=fun _=>False) hbi) (fun _ e=>e) fun _ _ e=>e.elim
   have boxi:=boxg.below hbi boxg.lt
   have owni:wi.ownsRow Z.heap.size 9 1 (.slice An (i+1) cn) (i+1) (tvs (ZR (i+1) w)):=own_below (qg.own own' fun x e c=>by have:=nlt x e;have c:x=w4.heap.size:=c;omega) hbi
   have apn:(Value.slice An (i+1) cn).ownBlock≠some Z.heap.size:=fun e=>by
    rcases hnew.ge e with e|e
    · exact con.apart e
    · simp at e;omega
   have fin:∀ (rc:Loop) (wj:World),wi.grownBy wj (some (w8.heap.size+1))→wj.heap[w8.heap.size+1]? = some (.loop rc)→TConF Z w4.heap.size (w8.heap.size+1) rc w wj (i+1) (.slice An (i+1) cn)∧Kept (fun x=>x=w4.heap.size∨x=w8.heap.size+1∨(Value.slice Av i cv).ownBlock=some x) Wr wj:=fun rc wj gj lj=>by
    have qj:=Kept.of_grown gj
    have qWj:=qW.trans qj (fun _ e=>e) (fun x _ e=>.inr (.inl (by injection e with e;exact e.symm)))
    refine⟨⟨qj.row boxi fun e=>(by injection e with e;omega),qj.own owni fun x e c=>(by injection c with c;have:=nlt x e;omega),lj,con.kept.trans qWj (fun _ e=>e) fun x hx e=>?_,apn,Nat.lt_of_lt_of_le hc8 qWj.size⟩,qWj⟩
    rcases e with e|e|e
    · exact .inl e
    · exact .inr e
    · have:=(vlr x e).1
      omega
   refine ciI (((i+1:Nat):Int)==(N:Int)) (fun hd=>ciX<|eiBo<|QVb lopi fun wj gj lj=>?_) fun hd=>QFD<|eiB<|QKY lopi fun wj gj lj=>?_
   · have e:i+1=N:=by have:((i+1:Nat):Int)=(N:Int):=by simpa using hd
                      omega
     have hnl:¬i+1 < N:=by omega
     have f1:=(fin _ wj gj lj).1
     have f2:=(fin _ wj gj lj).2
     refine⟨by rw[decide_eq_false hnl],.slice An (i+1) cn,?_,f2⟩
     rw[if_neg hnl]
     exact f1
   · have hnl:i+1 < N:=by have:¬((i+1:Nat):Int)=(N:Int):=by simpa using hd
                          omega
     have f1:=(fin _ wj gj lj).1
     have f2:=(fin _ wj gj lj).2
     refine⟨by rw[decide_eq_true hnl],.slice An (i+1) cn,?_,f2⟩
     rw[if_pos hnl]
     exact f1
 · rintro e W3 ⟨he,vl,con⟩
   obtain⟨W4,hend,g4⟩:=QGl (P:=Tryz.prog) con.lop (by intro e;cases e)
   refine⟨_,W4,_,he,hend,ciX<|eiBx<|eiTo (m:=0) ?_⟩
   have q4:=Kept.of_grown g4
   have vlr:=con.own.lt
   have hcb:=con.big
   have hs3:=con.kept.size
   have hs4:=q4.size
   have box4:=q4.row con.box fun e=>by injection e with e;omega
   have own4:=q4.own con.own fun x e c=>by injection c with c;have:=(vlr x e).1;omega
   have hD4:W4.heap[w8.heap.size]? = some (.deferred (some [])):=(q4.block _ (by omega) fun e=>by injection e with e;omega).trans ((con.kept.block _ (by omega) fun e=>by omega).trans hD)
   obtain⟨Av,cv,rfl,-,-,-⟩:=QB8 own4
   have hN:∀ w':World,¬(∃ v b,Ending.outgrown=.returned v∧W.heap.size≤b∧w'.ownsRow b 9 1 v N (tvs (ZR N w))∧Below W.heap.size W w'):=fun w' ⟨v,b,he,_⟩=>by cases he
   refine ciR QJ (fun a w h=>hN w h)<|wM (Jc (jg (box4.cell 0)))<|qF [] (Many.begin W4) fun wc kc=>QFb<|QUa<|QOk (.slice Av N cv) ((kc.touch.below.block _ (Array.getElem?_eq_some_iff.1 hD4).1).trans hD4) ?_
   have qp:Kept (fun x=>x=w8.heap.size) wc (wc.putObj w8.heap.size (.deferred none)):=.put _
   have hbc:=kc.touch.below
   have qE:Kept (fun x=>x=w4.heap.size∨x=w8.heap.size∨x=w8.heap.size+1) Z (wc.putObj w8.heap.size (.deferred none)):=((con.kept.trans q4 (U:=fun x=>x=w4.heap.size∨x=w8.heap.size∨x=w8.heap.size+1) (fun x e=>by rcases e with e|e<;>simp[e]) fun x _ e=>by injection e with e;exact .inr (.inr e.symm)).trans (Kept.of_below (S:=fun _=>False) hbc) (fun _ e=>e) fun _ _ e=>e.elim).trans qp (fun _ e=>e) fun x _ e=>.inr (.inl e)
   exact⟨_,Z.heap.size,rfl,hWZ.size,qp.own (own_below own4 hbc) fun x e c=>by have:=(vlr x e).1;have c:x=w8.heap.size:=c;omega,qE.low hWZ hWZ.size fun b e=>by omega⟩
theorem QFI (c:Cy)(ha:Wd16 c.addr)(hd:B8 c.data)(hn:-9223372036854775808≤c.t∧c.t≤9223372036854775807)(W:World)(ht:TrTabs W):Calls Tryz.prog 10 #[cyV c] W fun e W'=>e=.returned (.string (QMN c))∧Below W.heap.size W W':=by
 have z1:=QEo c.kind
 have z2:=qt c.t hn
 have z3:=ZD c.addr
 have z4:=jN c.data
 unfold QMN
 go_enter Tryz.func10,Tryz.ntmps10
 obtain⟨K,hK⟩:∃ K,K=jq c.kind:=⟨_,rfl⟩
 obtain⟨A,hA⟩:∃ A,A=Jt c.addr:=⟨_,rfl⟩
 obtain⟨D,hD⟩:∃ D,D=Xt c.data:=⟨_,rfl⟩
 obtain⟨T,hT⟩:∃ T,T=ql c.t:=⟨_,rfl⟩
 have c1:=fun w h=>QCr c.kind w h
 have c2:=fun w h=>QJd c.addr ha w h
 have c3:=fun w h=>QP8 c.data hd w h
 have c4:=fun w h=>QF6 c.t hn w h
 simp only[←hK] at z1 c1
 simp only[←hA] at z3 c2
 simp only[←hD] at z4 c3
 simp only[←hT] at z2 c4
 rw[←hK,←hA,←hD,←hT]
 refine JA<|qQ [] (Many.begin W) fun w1 k1=>qP 20 k1 fun w2 k2=>qD 0 [0,1,4,5,6,10,11,12,16,17] k2<|qDc 2 (c1 w2 (ht.below k2.touch.below)) k2 fun w3 k3=>?_
 refine qT 3 k3 (fun w' _=>Xb (gS _ _ _ _ _ _) (zT K ⟨#[32]⟩ (by rw[XT];omega) _))<|qDc 7 (c2 w3 (ht.below k3.touch.below).n) k3 fun w4 k4=>?_
 refine qT 8 k4 (fun w' _=>Xb (gS _ _ _ _ _ _) (zT (K++⟨#[32]⟩) A (by simp only[QV,XT];omega) _))<|qT 9 k4 (fun w' _=>Xb (gS _ _ _ _ _ _) (zT (K++⟨#[32]⟩++A) ⟨#[32]⟩ (by simp only[QV,XT];omega) _))<|qDc 13 (c3 w4 (ht.below k4.touch.below).n) k4 fun w5 k5=>?_
 refine qT 14 k5 (fun w' _=>Xb (gS _ _ _ _ _ _) (zT (K++⟨#[32]⟩++A++⟨#[32]⟩) D (by simp only[QV,XT];omega) _))<|qT 15 k5 (fun w' _=>Xb (gS _ _ _ _ _ _) (zT (K++⟨#[32]⟩++A++⟨#[32]⟩++D) ⟨#[32]⟩ (by simp only[QV,XT];omega) _))<|qDc 18 (c4 w5 (ht.below k5.touch.below).n) k5 fun w6 k6=>?_
 exact qT 19 k6 (fun w' _=>Xb (gS _ _ _ _ _ _) (zT (K++⟨#[32]⟩++A++⟨#[32]⟩++D++⟨#[32]⟩) T (by simp only[QV,XT];omega) _))<|poE<|qE [] k6 fun w7 k7=>JE<|JR (.string (K++⟨#[32]⟩++A++⟨#[32]⟩++D++⟨#[32]⟩++T)) (by exact⟨rfl,k7.touch.below⟩)
def QSg:ByteArray:=⟨#[48,48,48,48,104,58,32,108,100,32,97,44,48,55,104,32,124,32,97,102,61,48,48,48,48,104,32,98,99,61,48,48,48,48,104,32,100,101,61,48,48,48,48,104,32,104,108,61,48,48,48,48,104,32,105,120,61,48,48,48,48,104,32,105,121,61,48,48,48,48,104,32,115,112,61,48,48,48,48,104,32,112,99,61,48,48,48,48,104,32,105,61,48,48,104,32,114,61,48,48,104,32,105,109,48]⟩
def wX16:Wd:=⟨Jf,mkS (Q0 0 [62,7]),[]⟩
theorem QKn:OkW wX16:=⟨by constructor<;>first|exact⟨by decide,by decide⟩|decide,QS6 (l:=wX16.m) (by kernel_rfl),fun x hx=>by cases hx⟩
theorem QIt:Zm wX16=QSg:=by kernel_rfl
theorem QSC:QMN ⟨4,5,6,4⟩=⟨#[105,110,32,48,48,48,53,104,32,48,54,104,32,52]⟩:=by kernel_rfl
theorem QQz:jq 7=⟨#[105,110,110,101,114]⟩:=by kernel_rfl
theorem QOt:(Qn wX16.m wX16.g.pc).length=2:=by kernel_rfl
theorem QJM (hA:zM)(w:World)(ht:Tabs w w.heap.size)(hT:TrTabs w):Calls Tryz.prog 4 #[] w fun e w'=>e=.returned (.bool true)∧Below w.heap.size w w':=by
 go_enter Tryz.func4,Tryz.ntmps4
 refine JA<|qQ [] (Many.begin w) fun w1 k1=>coR<|qR 1 [] k1 fun w2 k2=>?_
 have hb2:=k2.touch.below
 have hy:=QCX (k2.row 0 (b:=w1.heap.size) (t:=5) (bvs [62,7]) (by kernel_rfl))
 refine kX (QJ3 none 0 [] 0 (some ⟨w1.heap.size,0,none⟩) 2 [62,7] (by simp) (fun c hc=>by cases hc) (by omega) (by simp) (fun b hb=>by simp at hb;omega) w2 (CellsIn.nil _ _ _) (fun _=>rfl) hy) fun e w3 ⟨A1,c1,he,hc1,hl1,hn1,hb3⟩=>⟨_,he,qE [0] (Many.begin w3) fun w4 k4=>?_⟩
 have hb4:=k4.touch.below
 have h1:InW w4 w4.heap.size (Xd Jf (.slice A1 (mkS ([]++Q0 0 [62,7])).length c1) (.slice none 0 0)) wX16:=⟨A1,c1,none,0,rfl,(hc1.below hb4).more hb4.size,hn1,hl1,BytesIn.nil _ _ _,fun _=>rfl,Nat.le_refl _⟩
 have r1:Row w4 w3.heap.size 28 (J9 Jf (.slice A1 (mkS ([]++Q0 0 [62,7])).length c1) (.slice none 0 0)):=k4.row 0 (J9 Jf (.slice A1 (mkS ([]++Q0 0 [62,7])).length c1) (.slice none 0 0)).toList (by kernel_rfl)
 have hB4:Below w.heap.size w w4:=(hb2.trans (hb3.mono hb2.size)).trans (hb4.mono (Nat.le_trans hb2.size hb3.size))
 refine coR<|wM (Jc (QBK r1))<|kX (QPV hA 2 w4 QKn (by decide) (by decide) h1 (ht.below hB4) (hT.below hB4)) fun e w5 ⟨v,b,he,_,own,hb5⟩=>⟨_,he,?_⟩
 rw[show QG9 2=2 from rfl] at own
 obtain⟨A2,c2,rfl,-,hs,-⟩:=QB8 own
 obtain⟨L,hL⟩:∃ L,L=ZR 2 wX16:=⟨_,rfl⟩
 have hL2:L.length=2:=by rw[hL];exact QNC 2 wX16
 have hL0:L[0]'(by omega)=QSg:=by
  subst hL
  exact QIt
 rw[←hL] at hs
 obtain⟨p,rfl⟩:=hs.at_ (k:=0) (by omega)
 refine qE [] (Many.begin w5) fun w6 k6=>?_
 have h46:Below w4.heap.size w4 w6:=hb5.trans (k6.touch.below.mono hb5.size)
 have hB6:=hB4.trans (h46.mono hB4.size)
 have r6:=r1.below h46 r1.lt
 have h6:=h1.on h46
 have hs6:=hs.on k6.touch.below
 have ld0:∀ W,Below w6.heap.size w6 W→(Instr.loadAt 9 (.pointer (some (p.add 0)))).run Tryz.prog W=.ok (.string QSg) W:=fun W hW=>by
  rw[←hL0]
  exact (hs6.on hW).ld (by omega)
 have KL:∀ W,Below w6.heap.size w6 W→Calls Tryz.prog 5 #[Xd Jf (.slice A1 (mkS ([]++Q0 0 [62,7])).length c1) (.slice none 0 0)] W fun e w'=>e=.returned (.string QSg)∧Below W.heap.size W w':=fun W hW=>by
  rw[←QIt]
  exact QC9 W QKn (by decide) (h6.on hW) (hT.below (hB6.trans (hW.mono hB6.size)))
 have KC:∀ W,Below w6.heap.size w6 W→Calls Tryz.prog 10 #[cyV ⟨4,5,6,4⟩] W fun e w'=>e=.returned (.string ⟨#[105,110,32,48,48,48,53,104,32,48,54,104,32,52]⟩)∧Below W.heap.size W w':=fun W hW=>by
  rw[←QSC]
  exact QFI ⟨4,5,6,4⟩ ⟨by decide,by decide⟩ ⟨by decide,by decide⟩ ⟨by decide,by decide⟩ W (hT.below (hB6.trans (hW.mono hB6.size)))
 have KD:∀ W,Below w6.heap.size w6 W→Calls Tryz.prog 8 #[Xd Jf (.slice A1 (mkS ([]++Q0 0 [62,7])).length c1) (.slice none 0 0)] W fun e W'=>∃ g,e=.returned (.slice (some ⟨g,0,none⟩) 2 2)∧Below W.heap.size W W':=fun W hW =>
  (QC0 W QKn (by decide) (h6.on hW)).mono fun e W' ⟨g,he,_,hb⟩=>⟨g,by rw[QOt] at he;exact he,hb⟩
 have KK:∀ W,Below w6.heap.size w6 W→Calls Tryz.prog 12 #[.int .i64 7] W fun e w'=>e=.returned (.string ⟨#[105,110,110,101,114]⟩)∧Below W.heap.size W w':=fun W hW=>by
  rw[←QQz]
  exact QCr 7 W (hT.below (hB6.trans (hW.mono hB6.size)))
 clear hL hL2 hL0
 refine qP 31 (Many.begin w6) fun w7 k7=>qT 0 k7 (fun w' hS=>Jc (QBK (r6.below hS.touch.below r6.lt)))<|qDc 1 (KL w7 k7.touch.below) k7 fun w8 k8=>qM [2,3,4,5,6,7,8,9] k8 ?_
 refine qT 10 k8 (fun w' _=>Jm (ixS p 2 c2 0 (by omega) _))<|qT 11 k8 (fun w' hS=>Jc (ld0 w' hS.touch.below))<|qT 12 k8 (fun w' hS=>Jc (QBK (r6.below hS.touch.below r6.lt)))<|qDc 13 (KL w8 k8.touch.below) k8 fun w9 k9=>qM [14,15,16,17] k9<|qDc 18 (KC w9 k9.touch.below) k9 fun wa ka=>qM [19,20,21] ka ?_
 refine qT 22 ka (fun w' hS=>Jc (QBK (r6.below hS.touch.below r6.lt)))<|zO 23 (soC (KD wa ka.touch.below) fun e wb ⟨g,he,hbb⟩=>⟨_,he,ka.below hbb,qM [24,25,26,27] (ka.below hbb)<|qDc 28 (KK wb (ka.below hbb).touch.below) (ka.below hbb) fun wc kc=>qM [29,30] kc<|poE<|qE [] kc fun wd kd=>JE<|JR (.bool true) ⟨rfl,bOn hB6 kd⟩⟩)
theorem gTx (op:BinOp)(x y:Operand)(a b:ByteArray)(w:World):(eqGuard op 9 x y (.string a) (.string b)).run Tryz.prog w=.ok () w:=by simp[go_sem]
theorem bTx (a b:ByteArray)(h:a.size+b.size≤1000000)(w:World):(binOp .add 9 (.string a) (.string b)).run Tryz.prog w=.ok (.string (a++b)) w:=by
 have h1:¬(9223372036854775807 < a.size+b.size):=by omega
 simp[go_sem,h1]
theorem QUC (pl d m:Int)(l:List Nat):(sy pl d m l).size≤8*l.length:=by
 unfold sy
 rw[Q4]
 exact QHk pl d m l
theorem bSy (pl d m:Int)(a b:List Nat)(h:a.length+b.length≤1000)(w:World):(binOp .add 9 (.string (sy pl d m a)) (.string (sy pl d m b))).run Tryz.prog w=.ok (.string (sy pl d m (a++b))) w:=by
 have h1:=QUC pl d m a
 have h2:=QUC pl d m b
 rw[←QHX]
 exact bTx _ _ (by omega) w
theorem xSy {ρ:Operand→Value} {o:Oper} {x y:Operand} {r:TypeId} {w:World}(pl d m:Int)(a b:List Nat)(h:a.length+b.length≤1000:=by first|decide|(simp only[List.length_append,List.length_cons,List.length_nil];omega)|omega)
 (ho:o.op=.binOp .add 9 x y r:=by exact rfl) (hx:ρ x=.string (sy pl d m a):=by kernel_rfl) (hy:ρ y=.string (sy pl d m b):=by kernel_rfl):(execOp ρ o).run Tryz.prog w=.ok (.value (.string (sy pl d m (a++b)))) w :=
 Xb (gTx ..) (bSy pl d m a b h w) ho hx hy
theorem bs4 (a b c e:ByteArray)(w:World):(Instr.buildSlice 42 4 #[(0,.string a),(1,.string b),(2,.string c),(3,.string e)]).run Tryz.prog w=.ok (.slice (some ⟨w.heap.size,0,none⟩) 4 4) (w.alloc (.cells #[.string a,.string b,.string c,.string e] 9)):=by simp[go_sem]
def sv (pl d m:Int)(L:List (List Nat)):List Value:=L.map fun x=>.string (sy pl d m x)
theorem ixL (b n c:Nat)(y:Int)(h:0≤y∧y < n)(w:World):(Instr.indexAt 42 (.slice (some ⟨b,0,none⟩) n c) (.int .i64 y)).run Tryz.prog w=.ok (pT b y.toNat) w:=by
 have h1:¬(y < 0):=by omega
 have h2:¬(n≤y.toNat):=by omega
 have h3:y.toNat < n:=by omega
 simp[go_sem,h.1,h.2,h1,h2,h3]
theorem ldP {w:World} {b:Nat} {t:TypeId} {pl d m:Int} {L:List (List Nat)}(hr:Row w b t (sv pl d m L).toArray)(y:Int)(h:0≤y∧y < L.length):(Instr.loadAt 9 (pT b y.toNat)).run Tryz.prog w=.ok (.string (sy pl d m (pick L y))) w:=by
 have hy:y.toNat < L.length:=by omega
 have e:w.cell? ⟨b,y.toNat,none⟩=some (.string (sy pl d m (pick L y))):=by
  rw[hr.cell]
  simp[sv,pick,hy]
 simp[go_sem,e]
section
variable {P:Program} {ops:Array Oper} {Q:Exit→Act→World→Prop} {S S':World→Prop} {base:List Value} {l:JY} {w w0:World} {rs:List RowK} {L:List Nat}
theorem QHy {n:Nat} {T:Array Bool→Act→World→Prop} {md:Region.Mode}(hS:∀ w,S' w→S w):∀ (f:Nat) (listed:Array Bool) (a:Act) (w:World),QAU P md ops Q S' n T f listed a w→QAU P md ops Q S n T f listed a w
 | 0,_,_,_,h=>h
 | f+1,_,_,_,h=>⟨h.1,fun i hi=>⟨(h.2 i hi).1,wpOp_mono (fun a' w' h'=>⟨hS _ h'.1,QHy hS f _ a' w' h'.2⟩) (h.2 i hi).2⟩⟩
theorem poS {n f:Nat} {listed:Array Bool}(hS:∀ w,S' w→S w)(h:PO P ops Q S' n base f listed l w):PO P ops Q S n base f listed l w:=⟨fun hi inv=>QHy hS _ _ _ _ (h.h hi inv)⟩
theorem soX {n f i:Nat} {listed:Array Bool} {V:Value} {w':World}(hS:S w')(he:(execOp (evO base l) (ZX ops i)).run P w=.ok (.value V) w')(h:PO P ops Q S n base f (listed.setIfInBounds i true) (Qz (ZX ops i).dst V l) w')
 (hd:(Q2 (ZX ops i).dst base.length,decide (i < n),J0 ops base.length base l (ZX ops i),(ops[i]?).isSome)=(true,true,some true,true):=by kernel_rfl):SO P ops Q S n base f listed i l w:=by
 simp only[Prod.mk.injEq] at hd
 obtain⟨d1,d2,d3,d4⟩:=hd
 have ho:=QBs d4
 refine⟨fun hi hr inv=>⟨of_decide_eq_true d2,?_⟩⟩
 unfold wpOp
 simp only[ho,Jd d3 hi,if_true]
 refine .inl ?_
 unfold Oper.wp
 rw[Jj hi,he,Oper.upon_value,J3]
 exact⟨hS,h.h (XI d1 hi) (inv.set hr (of_decide_eq_true d2))⟩
theorem qDn {n f:Nat} {listed:Array Bool} {V:Value} {g:FuncId} {args:Array Value} {t:TypeId} {cells:Array Value}(i k:Nat)(hc:Calls P g args w fun e w'=>e=.returned V∧Row w' w.heap.size t cells∧Below w.heap.size w w')(hm:Many w0 L rs w)(hk:rs.length=k)
 (h:∀ w',Many w0 L (rs++[⟨w.heap.size,t,cells.toList.map some⟩]) w'→PO P ops Q (Many w0 L (rs++[⟨w.heap.size,t,cells.toList.map some⟩])) n base (f-1) (listed.setIfInBounds i true) (Qz (ZX ops i).dst V l) w')
 (hr:(Region.ready .any ops listed,Nat.blt 0 f)=([i],true):=by kernel_rfl)(hd:(Q2 (ZX ops i).dst base.length,decide (i < n),J0 ops base.length base l (ZX ops i),(ops[i]?).isSome)=(true,true,some true,true):=by kernel_rfl)(he:(execOp (evO base l) (ZX ops i)).run P w=.ok (.enter g args) w:=by kernel_rfl):PO P ops Q (Many w0 L rs) n base f listed l w:=by
 have hlt:∀ (j:Nat) (r:RowK),rs[j]? = some r→r.b≠w.heap.size:=fun j r hj=>by
  obtain⟨full,h1,-⟩:=hm.rows j r hj
  exact Nat.ne_of_lt h1.lt
 refine zO i (soC hc (fun e w' ⟨he,hrow,hb⟩=>⟨V,he,hm.below hb,poS (fun w'' h''=>by
  have:=h''.take k (rs.take k) (by rw[←hk,List.take_append_of_le_length (Nat.le_refl _)])
  rwa [←hk,List.take_length] at this) (h w' ((hm.below hb).add hrow hm.touch.size hlt))⟩) hd he) hr
theorem qCn {o:Oper} {rest:List Oper} {V:Value} {g:FuncId} {args:Array Value} {t:TypeId} {cells:Array Value}(hc:Calls P g args w fun e w'=>e=.returned V∧Row w' w.heap.size t cells∧Below w.heap.size w w')(hm:Many w0 L rs w)
 (h:∀ w',Many w0 L (rs++[⟨w.heap.size,t,cells.toList.map some⟩]) w'→WO P ops Q base rest (Qz o.dst V l) w')
 (hg:J0 ops base.length base l o=some true:=by kernel_rfl)(he:(execOp (evO base l) o).run P w=.ok (.enter g args) w:=by kernel_rfl)(hd:Q2 o.dst base.length=true:=by kernel_rfl):WO P ops Q base (o :: rest) l w :=
 kX hc (fun e w' ⟨he,hrow,hb⟩=>⟨V,he,h w' ((hm.below hb).add hrow hm.touch.size fun j r hj=>by
  obtain⟨full,h1,-⟩:=hm.rows j r hj
  exact Nat.ne_of_lt h1.lt)⟩) hg he hd
end
theorem QD3 (pl d m:Int)(W:World):Calls Tryz.prog 71 #[] W fun e W'=>e=.returned (.slice (some ⟨W.heap.size,0,none⟩) 8 8)∧Row W' W.heap.size 9 (sv pl d m QY).toArray∧Below W.heap.size W W':=by
 go_enter Tryz.func71,Tryz.ntmps71
 exact JA<|coR<|wM (V:=.slice none 0 0) (w':=W) (by kernel_rfl)<|woE<|eoT<|qQ [] (Many.begin W) fun w2 k2=>JE<|JR (.slice (some ⟨W.heap.size,0,none⟩) 8 8) ⟨rfl,k2.row 0 (b:=W.heap.size) (t:=9) (sv pl d m QY) (by kernel_rfl),k2.touch.below⟩
theorem QPi (pl d m:Int)(W:World):Calls Tryz.prog 45 #[] W fun e W'=>e=.returned (.slice (some ⟨W.heap.size,0,none⟩) 8 8)∧Row W' W.heap.size 9 (sv pl d m QBB).toArray∧Below W.heap.size W W':=by
 go_enter Tryz.func45,Tryz.ntmps45
 exact JA<|coR<|wM (V:=.slice none 0 0) (w':=W) (by kernel_rfl)<|woE<|eoT<|qQ [] (Many.begin W) fun w2 k2=>JE<|JR (.slice (some ⟨W.heap.size,0,none⟩) 8 8) ⟨rfl,k2.row 0 (b:=W.heap.size) (t:=9) (sv pl d m QBB) (by kernel_rfl),k2.touch.below⟩
theorem QQo (pl d m:Int)(W:World):Calls Tryz.prog 67 #[] W fun e W'=>e=.returned (.slice (some ⟨W.heap.size,0,none⟩) 8 8)∧Row W' W.heap.size 9 (sv pl d m ZW).toArray∧Below W.heap.size W W':=by
 go_enter Tryz.func67,Tryz.ntmps67
 exact JA<|coR<|wM (V:=.slice none 0 0) (w':=W) (by kernel_rfl)<|woE<|eoT<|qQ [] (Many.begin W) fun w2 k2=>JE<|JR (.slice (some ⟨W.heap.size,0,none⟩) 8 8) ⟨rfl,k2.row 0 (b:=W.heap.size) (t:=9) (sv pl d m ZW) (by kernel_rfl),k2.touch.below⟩
end Go.Proofs.YtmgcgiecimnncaaGreatDoor
