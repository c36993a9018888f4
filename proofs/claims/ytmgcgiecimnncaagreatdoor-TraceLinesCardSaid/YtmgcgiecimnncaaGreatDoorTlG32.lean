/- Contracts and facts that the claim's proof wants (several texts in one). -/
import Derived.Test.YtmgcgiecimnncaaGreatDoorTlG30
namespace Go.Proofs.YtmgcgiecimnncaaGreatDoor
open Go.RowKit
set_option linter.unusedVariables false
set_option linter.unusedSimpArgs false
set_option maxRecDepth 20000
set_option maxHeartbeats 20000000
section
variable {P:Program} {Q:Exit→Act→World→Prop} {base:List Value} {l:JY} {w:World} {α:Type}
def Cut (B:α→List Value)(I:α→World→Prop)(a:Act)(w:World):Prop:=∃ x,a=XW (B x) []∧I x w
theorem QHs {x y:Code}(B:α→List Value)(I:α→World→Prop)(h:CO P x (Exit.then (Cut B I) Q) base l w)(r:∀ q w,I q w→CO P y Q (B q) [] w):CO P (.seq x y) Q base l w:=⟨fun hi=>wp_seq (wp_mono (h.h hi) fun e a w' hq=>by
 cases e with
 | normal =>
   obtain⟨q,rfl,hI⟩:=hq
   exact (r q w' hI).h trivial
 | _=>exact hq)⟩
theorem ji {B:α→List Value} {I:α→World→Prop}(x:(Nat→Value)→α)(hI:I (x (Zb base l)) w)(e:ovO base l=B (x (Zb base l)):=by kernel_rfl):EO (Exit.then (Cut B I) Q) .normal base l w :=
 ⟨fun hi=>⟨x (Zb base l),by rw[←e];rfl,hI⟩⟩
end
theorem ratN (ad:Option Addr)(cap:Nat)(xs:List Int)(hl:xs.length≤140737488355328)(B:Nat)(k:Nat)(i:Int)(hi:i=(k:Int))(w:World)(h:BytesIn w B ad xs) :
 Calls Tryz.prog 36 #[.slice ad xs.length cap,.int .i64 i] w fun e w'=>e=.returned (.int .u8 (gb xs k))∧Below w.heap.size w w':=by
 subst hi
 go_enter Tryz.func36,Tryz.ntmps36
 refine JA<|qQ [] (Many.begin w) fun w1 k1=>coS<|qQ [] k1 fun w2 k2=>coI (decide ((k:Int) < (xs.length:Int))) (fun hlt=>?_) fun hge=>JC<|eoT ?_
 · have hlt:k < xs.length:=by have:(k:Int) < (xs.length:Int):=by simpa using hlt
                              omega
   obtain⟨p,rfl⟩:=h.addr hlt
   have hg:gb xs k=xs[k]:=by unfold gb;rw[List.getD_eq_getElem?_getD,List.getElem?_eq_getElem hlt];rfl
   rw[hg]
   have hB:Below w.heap.size w w2:=k2.touch.below
   have hcell:∀ W,Below w.heap.size w W→(Instr.loadAt 5 (.pointer (some (p.add k)))).run Tryz.prog W=.ok (.int .u8 xs[k]) W:=fun W hW=>by
    obtain⟨q,e,hq,h0⟩:=h k xs[k] (List.getElem?_eq_getElem hlt)
    injection e with e
    subst e
    have:W.cell? (p.add k)=some (.int .u8 xs[k]):=(hW.cell (World.block_lt_of_cell? _ _ h0)).trans h0
    simp[go_sem,this]
   exact coR<|qR 2 [] k2 fun w3 k3=>wM (Jm (ixB p xs.length cap k hlt w3))<|wM (Jc (hcell w3 k3.touch.below))<|qE [] k3 fun w4 k4=>JE<|Je<|JR (.int .u8 xs[k]) ⟨rfl,k4.touch.below⟩
 · have hge:¬k < xs.length:=by have:¬(k:Int) < (xs.length:Int):=by simpa using hge
                               omega
   have hg:gb xs k=0:=by unfold gb;rw[List.getD_eq_getElem?_getD,List.getElem?_eq_none (by omega)];rfl
   rw[hg]
   exact qQ [] k2 fun w3 k3=>JE<|JR (.int .u8 0) ⟨rfl,k3.touch.below⟩
theorem QRf (f p c:Int)(hf:(f=0∧p=0)∨(f=221∧p=3)∨(f=253∧p=4))(w:World) :
 Calls Tryz.prog 37 #[.int .u8 f,.int .u8 c] w fun e w'=>e=.returned (.int .i64 (Jp p c))∧Below w.heap.size w w':=by
 go_enter Tryz.func37,Tryz.ntmps37
 refine JA<|qQ [] (Many.begin w) fun w1 k1=>coS<|coB<|qQ [] k1 fun w2 k2=>coI (c==237) (fun e=>?_) fun e=>?_
 · have e:c=237:=by simpa using e
   have hh:Jp p c=2:=by subst e;rfl
   rw[hh]
   exact qQ [] k2 fun w3 k3=>JE<|QG<|Je<|JR (.int .i64 2) ⟨rfl,k3.touch.below⟩
 have e:¬c=237:=by simpa using e
 by_cases h203:c=203
 · subst h203
   rcases hf with ⟨rfl,rfl⟩|⟨rfl,rfl⟩|⟨rfl,rfl⟩
   · exact qQ [] k2 fun w3 k3=>coF<|qQ [] k3 fun w4 k4=>coF<|qQ [] k4 fun w5 k5=>coT<|qQ [] k5 fun w6 k6=>JE<|QG<|Je<|JR (.int .i64 1) ⟨rfl,k6.touch.below⟩
   · exact qQ [] k2 fun w3 k3=>coT<|qQ [] k3 fun w4 k4=>JE<|QG<|Je<|JR (.int .i64 5) ⟨rfl,k4.touch.below⟩
   · exact qQ [] k2 fun w3 k3=>coF<|qQ [] k3 fun w4 k4=>coT<|qQ [] k4 fun w5 k5=>JE<|QG<|Je<|JR (.int .i64 6) ⟨rfl,k5.touch.below⟩
 · have hh:Jp p c=p:=(if_neg h203).trans (if_neg e)
   have hb:(c==203)=false:=by simpa using h203
   rw[hh]
   refine coR<|qR 3 [] k2 fun w3 k3=>tell 11 hb<|qE [] k3 fun w4 k4=>coF<|coR<|qR 3 [] k4 fun w5 k5=>tell 18 hb<|qE [] k5 fun w6 k6=>coF<|coR<|qR 2 [] k6 fun w7 k7=>tell 24 hb<|qE [] k7 fun w8 k8=>coF ?_
   rcases hf with ⟨rfl,rfl⟩|⟨rfl,rfl⟩|⟨rfl,rfl⟩
   · exact qQ [] k8 fun w9 k9=>coF<|qQ [] k9 fun wa ka=>coF<|JC<|eoB<|eoT<|qQ [] ka fun wb kb=>JE<|JR (.int .i64 0) ⟨rfl,kb.touch.below⟩
   · exact qQ [] k8 fun w9 k9=>coT<|qQ [] k9 fun wa ka=>JE<|QG<|Je<|JR (.int .i64 3) ⟨rfl,ka.touch.below⟩
   · exact qQ [] k8 fun w9 k9=>coF<|qQ [] k9 fun wa ka=>coT<|qQ [] ka fun wb kb=>JE<|QG<|Je<|JR (.int .i64 4) ⟨rfl,kb.touch.below⟩
def QQD (xs:List Int)(k:Nat):Int:=match k with|0=>0|k+1=>gb xs k
def QCY (a b c e f g:Int):XA:=[some (.int .i64 a),some (.int .u8 b),some (.int .u8 c),some (.int .u16 e),some (.int .i64 f),some (.int .i64 g)]
def zv (b b2:Nat)(cs:XA):List RowK:=[⟨b,49,QCY 0 0 0 0 0 0⟩,⟨b2,49,cs⟩]
def dnB (A:Option Addr)(n cap b b2:Nat)(x:QFN):List Value:=[.slice A n cap,x.y 1,pT b 0,.bool false,.int .i64 (x.k:Int),x.y 5,pT b2 0,x.y 7,x.y 8,x.y 9,x.y 10,x.y 11,x.y 12,x.y 13,x.y 14,x.y 15,x.y 16,x.y 17,x.y 18,x.y 19,x.y 20,x.y 21,x.y 22,x.y 23,x.y 24,x.y 25,x.y 26,x.y 27,x.y 28,x.y 29,x.y 30,x.y 31,x.y 32,x.y 33,x.y 34,x.y 35,x.y 36,x.y 37,x.y 38,x.y 39,x.y 40,x.y 41,x.y 42,x.y 43,x.y 44,x.y 45,x.y 46,x.y 47,x.y 48,x.y 49,x.y 50,x.y 51,x.y 52,x.y 53,x.y 54,x.y 55,x.y 56,x.y 57,x.y 58,x.y 59,x.y 60,x.y 61,x.y 62,x.y 63,x.y 64,x.y 65,x.y 66,x.y 67,x.y 68,x.y 69,x.y 70,x.y 71,x.y 72,x.y 73,x.y 74,x.y 75,x.y 76,x.y 77,x.y 78,x.y 79,x.y 80,x.y 81,x.y 82,x.y 83,x.y 84,x.y 85,x.y 86,x.y 87,x.y 88,x.y 89,x.y 90,x.y 91,x.y 92,x.y 93,x.y 94,x.y 95,x.y 96,x.y 97,x.y 98,x.y 99,x.y 100,x.y 101,x.y 102,x.y 103,x.y 104,x.y 105,x.y 106,x.y 107,x.y 108,x.y 109,x.y 110,x.y 111,x.y 112,x.y 113,x.y 114,x.y 115,x.y 116,x.y 117,x.y 118,x.y 119,x.y 120,x.y 121,x.y 122,x.y 123,x.y 124,x.y 125,x.y 126,x.y 127,x.y 128]
def dnL (A:Option Addr)(cap b b2:Nat)(xs:List Int)(x:QFN):List Value:=[.slice A xs.length cap,x.y 1,pT b 0,.bool false,.int .i64 (x.k:Int),.int .u8 (QQD xs x.k),pT b2 0,x.y 7,x.y 8,x.y 9,x.y 10,x.y 11,x.y 12,x.y 13,x.y 14,x.y 15,x.y 16,x.y 17,x.y 18,x.y 19,x.y 20,x.y 21,x.y 22,x.y 23,x.y 24,x.y 25,x.y 26,x.y 27,x.y 28,x.y 29,x.y 30,x.y 31,x.y 32,x.y 33,x.y 34,x.y 35,x.y 36,x.y 37,x.y 38,x.y 39,x.y 40,x.y 41,x.y 42,x.y 43,x.y 44,x.y 45,x.y 46,x.y 47,x.y 48,x.y 49,x.y 50,x.y 51,x.y 52,x.y 53,x.y 54,x.y 55,x.y 56,x.y 57,x.y 58,x.y 59,x.y 60,x.y 61,x.y 62,x.y 63,x.y 64,x.y 65,x.y 66,x.y 67,x.y 68,x.y 69,x.y 70,x.y 71,x.y 72,x.y 73,x.y 74,x.y 75,x.y 76,x.y 77,x.y 78,x.y 79,x.y 80,x.y 81,x.y 82,x.y 83,x.y 84,x.y 85,x.y 86,x.y 87,x.y 88,x.y 89,x.y 90,x.y 91,x.y 92,x.y 93,x.y 94,x.y 95,x.y 96,x.y 97,x.y 98,x.y 99,x.y 100,x.y 101,x.y 102,x.y 103,x.y 104,x.y 105,x.y 106,x.y 107,x.y 108,x.y 109,x.y 110,x.y 111,x.y 112,x.y 113,x.y 114,x.y 115,x.y 116,x.y 117,x.y 118,x.y 119,x.y 120,x.y 121,x.y 122,x.y 123,x.y 124,x.y 125,x.y 126,x.y 127,x.y 128]
theorem QU4 {xs:List Int} {k:Nat}(h:jQ (gb xs k)=true):gb xs k=221∨gb xs k=253:=by simpa [jQ] using h
theorem QUw (xs:List Int)(k:Nat)(h:k≤lead xs):(QQD xs k=0∧Qo xs k=0)∨(QQD xs k=221∧Qo xs k=3)∨(QQD xs k=253∧Qo xs k=4):=by
 cases k with
 | zero=>exact .inl ⟨rfl,rfl⟩
 | succ k =>
   show (gb xs k=0∧_)∨(gb xs k=221∧_)∨(gb xs k=253∧_)
   rcases QU4 (QAT xs k (by omega)) with e|e
   · exact .inr (.inl ⟨e,by unfold Qo;rw[if_neg (by omega),show k+1-1=k by omega,if_pos e]⟩)
   · exact .inr (.inr ⟨e,by unfold Qo;rw[if_neg (by omega),show k+1-1=k by omega,if_neg (by omega)]⟩)
theorem cv8 (x:Int)(h:B8 x)(w:World):(convert 5 22 (.int .u8 x)).run Tryz.prog w=.ok (.int .u16 x) w:=QWw x h w
theorem QV2 (x:Int)(h:B8 x)(w:World):(binOp .mul 22 (.int .u16 256) (.int .u16 x)).run Tryz.prog w=.ok (.int .u16 (256*x)) w:=by
 have e:IntKind.u16.wrap (256*x)=256*x:=by have:=h.1;have:=h.2;rw[IntKind.wrap_u16];omega
 simp[go_sem,e]
theorem addW (x y:Int)(h:0≤x+y∧x+y≤65535)(w:World):(binOp .add 22 (.int .u16 x) (.int .u16 y)).run Tryz.prog w=.ok (.int .u16 (x+y)) w:=by
 have e:IntKind.u16.wrap (x+y)=x+y:=by rw[IntKind.wrap_u16];omega
 simp[go_sem,e]
theorem gW (op:BinOp)(x y:Operand)(a b:Int)(w:World):(eqGuard op 22 x y (.int .u16 a) (.int .u16 b)).run Tryz.prog w=.ok () w:=by simp[go_sem]
theorem aI (k c:Nat)(j:Int)(hj:j=(c:Int))(hk:k≤10000000)(hc:c≤100)(w:World):(binOp .add 3 (.int .i64 (k:Int)) (.int .i64 j)).run Tryz.prog w=.ok (.int .i64 ((k+c:Nat):Int)) w:=by
 subst hj
 rw[QCx _ _ (by omega) (by omega)]
 rfl
def dnC (A:Option Addr)(n cap b b2:Nat)(N:Int)(x:QFN):List Value:=[.slice A n cap,x.y 1,pT b 0,.bool false,.int .i64 (x.k:Int),x.y 5,pT b2 0,x.y 7,.int .i64 N,x.y 9,x.y 10,x.y 11,x.y 12,x.y 13,x.y 14,x.y 15,x.y 16,x.y 17,x.y 18,x.y 19,x.y 20,x.y 21,x.y 22,x.y 23,x.y 24,x.y 25,x.y 26,x.y 27,x.y 28,x.y 29,x.y 30,x.y 31,x.y 32,x.y 33,x.y 34,x.y 35,x.y 36,x.y 37,x.y 38,x.y 39,x.y 40,x.y 41,x.y 42,x.y 43,x.y 44,x.y 45,x.y 46,x.y 47,x.y 48,x.y 49,x.y 50,x.y 51,x.y 52,x.y 53,x.y 54,x.y 55,x.y 56,x.y 57,x.y 58,x.y 59,x.y 60,x.y 61,x.y 62,x.y 63,x.y 64,x.y 65,x.y 66,x.y 67,x.y 68,x.y 69,x.y 70,x.y 71,x.y 72,x.y 73,x.y 74,x.y 75,x.y 76,x.y 77,x.y 78,x.y 79,x.y 80,x.y 81,x.y 82,x.y 83,x.y 84,x.y 85,x.y 86,x.y 87,x.y 88,x.y 89,x.y 90,x.y 91,x.y 92,x.y 93,x.y 94,x.y 95,x.y 96,x.y 97,x.y 98,x.y 99,x.y 100,x.y 101,x.y 102,x.y 103,x.y 104,x.y 105,x.y 106,x.y 107,x.y 108,x.y 109,x.y 110,x.y 111,x.y 112,x.y 113,x.y 114,x.y 115,x.y 116,x.y 117,x.y 118,x.y 119,x.y 120,x.y 121,x.y 122,x.y 123,x.y 124,x.y 125,x.y 126,x.y 127,x.y 128]
theorem QKx {p c:Int}(hp:p=0∨p=3∨p=4):Jp p c=2↔c=237:=by
 unfold Jp QAz
 split<;>(try split)<;>(try split)<;>omega
theorem QMp {p c:Int}(hp:p=0∨p=3∨p=4):(Jp p c=1∨Jp p c=2∨Jp p c=5∨Jp p c=6)↔(c=203∨c=237):=by
 unfold Jp QAz
 split<;>(try split)<;>(try split)<;>omega
theorem QEl (ad:Option Addr)(cap:Nat)(xs:List Int)(hl:xs.length≤1000000)(hx:Bytes8 xs)(W:World)(h:BytesIn W W.heap.size ad xs) :
 Calls Tryz.prog 20 #[.slice ad xs.length cap] W fun e w'=>e=.returned (opB (QT xs) (okM xs))∧Below W.heap.size W w':=by
 have hK:=QLp xs
 have KA:∀ (k:Nat) (i:Int),i=(k:Int)→∀ w,Below W.heap.size W w→_:=fun k i hi w hw=>ratN ad cap xs (by omega) W.heap.size k i hi w (h.below hw)
 have hb:=fun i=>QB9 hx i
 go_enter Tryz.func20,Tryz.ntmps20
 refine JA<|qQ [] (Many.begin W) fun w1 k1=>qQ [] k1 fun w2 k2=>qQ [] k2 fun w3 k3=>qQ [1] k3 fun w4 k4=>coS<|coB<|jA (dnL ad cap W.heap.size w3.heap.size xs) (fun x w'=>Many W [] (zv W.heap.size w3.heap.size (QCY 0 0 0 0 0 ((x.k-1:Nat):Int))) w'∧x.k≤lead xs) (fun x=>lead xs-x.k) (fun y=>⟨0,y⟩) ⟨k4.take 2 _,Nat.zero_le _⟩ ?_
 clear k1 k2 k3 k4
 rintro ⟨k,y⟩ wL ⟨kL,hk⟩
 have hk:k≤lead xs:=hk
 have kL:Many W [] (zv W.heap.size w3.heap.size (QCY 0 0 0 0 0 ((k-1:Nat):Int))) wL:=kL
 have next:∀ {w':World} {base:List Value} {l:JY} {Q:Exit→Act→World→Prop} (hp:jQ (gb xs k)=true),Many W [] (zv W.heap.size w3.heap.size (QCY 0 0 0 0 0 (k:Int))) w'→ovO base l=dnL ad cap W.heap.size w3.heap.size xs ⟨k+1,Zb base l⟩→EO (Exit.then (QQ0 (dnL ad cap W.heap.size w3.heap.size xs) (fun x w'=>Many W [] (zv W.heap.size w3.heap.size (QCY 0 0 0 0 0 ((x.k-1:Nat):Int))) w'∧x.k≤lead xs) (fun x=>lead xs-x.k) ⟨k,y⟩) Q) .normal base l w':=fun {w' base l Q} hp hm e=>by
  have hlt:k < lead xs:=by
   rcases Nat.lt_or_ge k (lead xs) with h1|h1
   · exact h1
   · have:k=lead xs:=by omega
     rw[this,QCG] at hp
     cases hp
  exact Qf (fun y=>⟨k+1,y⟩) ⟨hm,hlt⟩ (by show lead xs-(k+1) < lead xs-k;omega) e
 have body:jQ (gb xs k)=true→k < xs.length:=fun hp=>by
  rcases Nat.lt_or_ge k xs.length with h1|h1
  · exact h1
  · have:gb xs k=0:=by unfold gb;rw[List.getD_eq_getElem?_getD,List.getElem?_eq_none h1];rfl
    rw[this] at hp
    cases hp
 have ld:∀ {w':World} {p:Addr} (hlt:k < xs.length),ad=some p→Below W.heap.size W w'→(Instr.loadAt 5 (.pointer (some (p.add k)))).run Tryz.prog w'=.ok (.int .u8 (gb xs k)) w':=fun {w' p} hlt e hw=>by
  subst e
  rw[show gb xs k=xs[k] by unfold gb;rw[List.getD_eq_getElem?_getD,List.getElem?_eq_getElem hlt];rfl]
  exact (h.below hw).ld hlt
 refine coS<|coR<|qR 2 [] kL fun wa ka=>qC (KA k k rfl wa ka.touch.below) ka fun wb kb=>qR 2 [] kb fun wc kc =>
  if h1:gb xs k=221 then tell 14 (show (gb xs k==221)=true by simpa using h1)<|qE [] kc fun wd kd=>coT<|JC<|eoT ?p1
  else tell 14 (show (gb xs k==221)=false by simpa using h1)<|qR 2 [] kc fun wd kd=>qC (KA k k rfl wd kd.touch.below) kd fun we ke=>qR 1 [] ke fun wf kf =>
  if h2:gb xs k=253 then tell 18 (show (gb xs k==253)=true by simpa using h2)<|qE [] kf fun wd kd=>coT<|JC<|eoT ?p2
  else tell 18 (show (gb xs k==253)=false by simpa using h2)<|qE [] kf fun wd kd=>coF<|coX<|jv<|jv<|QE9<|eoT ?p3
 case' p1=>have hp:jQ (gb xs k)=true:=by rw[h1];rfl
 case' p2=>have hp:jQ (gb xs k)=true:=by rw[h2];rfl
 case p1|p2 =>
  have hlt:=body hp
  obtain⟨p,rfl⟩:=h.addr hlt
  refine coB<|coS<|qQ [] kd fun we ke=>coI (decide ((k:Int) > 0)) (fun g=>coZ<|qR 2 [1] ke fun wf kf=>kBj 24 (.int .i64 ((k-1:Nat):Int)) (.int .i64 1) (.int .i64 (((k-1:Nat):Int)+1)) (egI _ _ _ _ _) (QCx _ _ (by omega) (by omega))<|qF [1] kf fun wg kg=>eoT ?_) fun g=>JC<|eoT ?_
  · have g:0 < k:=by have:(k:Int) > 0:=by simpa using g
                     omega
    have kg:=kg.take 2 (zv W.heap.size w3.heap.size (QCY 0 0 0 0 0 (((k-1:Nat):Int)+1)))
    rw[show ((k-1:Nat):Int)+1=(k:Int) by omega] at kg
    exact coR<|qR 2 [] kg fun wh kh=>wM (Jm (ixB p xs.length cap k hlt wh))<|wM (Jc (ld hlt rfl kh.touch.below))<|qE [] kh fun wi ki=>coZ<|qR 1 [] ki fun wj kj=>wM (QBc k (by omega))<|qF [] kj fun wk kk=>eoB<|next hp kk (by kernel_rfl)
  · have g:k=0:=by have:¬(k:Int) > 0:=by simpa using g
                   omega
    have ke:=ke.take 2 (zv W.heap.size w3.heap.size (QCY 0 0 0 0 0 ((k-1:Nat):Int)))
    rw[show ((k-1:Nat):Int)=(k:Int) by omega] at ke
    exact coR<|qR 2 [] ke fun wh kh=>wM (Jm (ixB p xs.length cap k hlt wh))<|wM (Jc (ld hlt rfl kh.touch.below))<|qE [] kh fun wi ki=>coZ<|qR 1 [] ki fun wj kj=>wM (QBc k (by omega))<|qF [] kj fun wk kk=>eoB<|next hp kk (by kernel_rfl)
 have hkl:k=lead xs:=(QLa xs k (fun j hj=>QAT xs j (by omega)) (by simp[jQ,h1,h2])).symm
 have kd:=kd.take 2 (zv W.heap.size w3.heap.size (QCY 0 0 0 0 0 ((k-1:Nat):Int)))
 have hf:=QUw xs k hk
 obtain⟨p,hp⟩:∃ p,p=Qo xs k:=⟨_,rfl⟩
 obtain⟨f,hff⟩:∃ f,f=QQD xs k:=⟨_,rfl⟩
 have hp3:p=0∨p=3∨p=4:=by omega
 have hp0:p≠0↔0 < k:=by
  rw[hp]
  unfold Qo
  split
  · omega
  · split<;>omega
 rw[←hff,←hp] at hf
 obtain⟨c,hc⟩:∃ c,c=gb xs k:=⟨_,rfl⟩
 have hc8:B8 c:=hc▸hb k
 obtain⟨S,hS⟩:∃ S,S=QDF p ((k-1:Nat):Int) c:=⟨_,rfl⟩
 obtain⟨q,hq⟩:∃ q,q=Jp p c:=⟨_,rfl⟩
 have hop:XJ xs=⟨q,QD (gb xs) k p,Q9 (gb xs) k p,QZ (gb xs) (Jh (gb xs) k p) (Jb q (QD (gb xs) k p)),(Jh (gb xs) k p:Int)+Jb q (QD (gb xs) k p),S⟩:=by
  rw[hS,hq,hc,hp,hkl]
  rfl
 have hlen:=jU xs
 have htwo:=QKx (c:=c) hp3
 have hcb:=QMp (c:=c) hp3
 rw[←hq] at htwo hcb
 have hah:Zh q=true↔(q=5∨q=6):=by unfold Zh;simp
 have KC:∀ w,Below W.heap.size W w→Calls Tryz.prog 36 #[.slice ad xs.length cap,.int .i64 (k:Int)] w fun e w'=>e=.returned (.int .u8 c)∧Below w.heap.size w w':=fun w hw=>by
  rw[hc]
  exact KA k k rfl w hw
 have KP:=fun w=>QRf f p c hf w
 rw[←hq,hff] at KP
 refine coR<|qR 3 [] kd fun we ke=>qC (KC we ke.touch.below) ke fun wf kf=>qC (KP wf) kf fun wg kg=>qE [1] kg fun wh kh=>QHs (dnB ad xs.length cap W.heap.size w3.heap.size) (fun x w'=>x.k=k∧Many W [] (zv W.heap.size w3.heap.size (QCY q 0 0 0 0 S)) w') ?_ ?_
 · refine coR<|qR 4 [1] kh fun wi ki=>?_
   by_cases hq2:q=2
   case neg =>
    have e:S=((k-1:Nat):Int):=by rw[hS];exact if_neg fun h=>hq2 (htwo.2 h.1)
    exact tell 41 (show (q==2)=false by simpa using hq2)<|qE [] ki fun wj kj=>coF<|JC<|ji (fun y=>⟨k,y⟩) ⟨rfl,by rw[e];exact kj.take 2 _⟩
   case pos =>
    refine tell 41 (show (q==2)=true by simpa using hq2)<|qR 2 [] ki fun wj kj=>?_
    by_cases hk0:(k:Int) > 0
    · have e:S=((k-1:Nat):Int)+1:=by rw[hS];exact if_pos ⟨htwo.1 hq2,hp0.2 (by omega)⟩
      exact tell 43 (show decide ((k:Int) > 0)=true by simpa using hk0)<|qE [] kj fun wm km=>coT<|coZ<|qR 2 [1] km fun wn kn=>kBj 47 (.int .i64 ((k-1:Nat):Int)) (.int .i64 1) (.int .i64 (((k-1:Nat):Int)+1)) (egI _ _ _ _ _) (QCx _ _ (by omega) (by omega))<|qF [1] kn fun wo ko=>ji (fun y=>⟨k,y⟩) ⟨rfl,by rw[e];exact ko.take 2 _⟩
    · have e:S=((k-1:Nat):Int):=by rw[hS];exact if_neg fun h=>hk0 (by have:=hp0.1 h.2;omega)
      exact tell 43 (show decide ((k:Int) > 0)=false by simpa using hk0)<|qE [] kj fun wm km=>coF<|JC<|ji (fun y=>⟨k,y⟩) ⟨rfl,by rw[e];exact km.take 2 _⟩
 clear kd ke kf kg kh kL
 rintro ⟨k',y'⟩ w' ⟨hk',km⟩
 have hk':k'=k:=hk'
 obtain rfl:k=k':=hk'.symm
 refine QHs (dnB ad xs.length cap W.heap.size w3.heap.size) (fun x w'=>x.k=Jh (gb xs) k p∧Many W [] (zv W.heap.size w3.heap.size (QCY q (QD (gb xs) k p) (Q9 (gb xs) k p) 0 0 S)) w') ?_ ?_
 · refine qQ [1] km fun wa ka=>coB<|coS<|qQ [] ka fun wb kb=>coI (q==5) (fun e=>JC<|eoT ?a5) fun e5=>coZ<|qF [] kb fun wc kc=>eoT<|coI (q==6) (fun e=>?a6) fun e6=>?_
   case a5 =>
    have ha:Zh (Jp p (gb xs k))=true:=by rw[←hc,←hq];exact hah.2 (.inl (by simpa using e))
    have rC:QD (gb xs) k p=gb xs (k+2):=if_pos ha
    have rD:Q9 (gb xs) k p=gb xs (k+1):=if_pos ha
    have rR:Jh (gb xs) k p=k+3:=if_pos ha
    exact coI (q==5) (fun _=>coR<|qR 2 [] kb fun wx kx=>kBj 74 (.int .i64 (k:Int)) (.int .i64 1) (.int .i64 ((k+1:Nat):Int)) (egI _ _ _ _ _) (aI k 1 1 rfl (by omega) (by omega))<|qC (KA (k+1) _ rfl wx kx.touch.below) kx fun wy ky=>qE [1] ky fun wz kz=>coR<|qR 2 [] kz fun wp kp=>kBj 79 (.int .i64 (k:Int)) (.int .i64 2) (.int .i64 ((k+2:Nat):Int)) (egI _ _ _ _ _) (aI k 2 2 rfl (by omega) (by omega))<|qC (KA (k+2) _ rfl wp kp.touch.below) kp fun wq kq=>qE [1] kq fun wr kr=>coZ<|qR 1 [] kr fun ws ks=>kBj 83 (.int .i64 (k:Int)) (.int .i64 3) (.int .i64 ((k+3:Nat):Int)) (egI _ _ _ _ _) (aI k 3 3 rfl (by omega) (by omega))<|qF [] ks fun wt kt=>eoB<|ji (fun y=>⟨k+3,y⟩) ⟨rR.symm,by rw[rC,rD];exact kt.take 2 _⟩) fun h=>Bool.noConfusion (e.symm.trans h)
   case a6 =>
    have ha:Zh (Jp p (gb xs k))=true:=by rw[←hc,←hq];exact hah.2 (.inr (by simpa using e))
    have rC:QD (gb xs) k p=gb xs (k+2):=if_pos ha
    have rD:Q9 (gb xs) k p=gb xs (k+1):=if_pos ha
    have rR:Jh (gb xs) k p=k+3:=if_pos ha
    exact coR<|qR 2 [] kc fun wx kx=>kBj 74 (.int .i64 (k:Int)) (.int .i64 1) (.int .i64 ((k+1:Nat):Int)) (egI _ _ _ _ _) (aI k 1 1 rfl (by omega) (by omega))<|qC (KA (k+1) _ rfl wx kx.touch.below) kx fun wy ky=>qE [1] ky fun wz kz=>coR<|qR 2 [] kz fun wp kp=>kBj 79 (.int .i64 (k:Int)) (.int .i64 2) (.int .i64 ((k+2:Nat):Int)) (egI _ _ _ _ _) (aI k 2 2 rfl (by omega) (by omega))<|qC (KA (k+2) _ rfl wp kp.touch.below) kp fun wq kq=>qE [1] kq fun wr kr=>coZ<|qR 1 [] kr fun ws ks=>kBj 83 (.int .i64 (k:Int)) (.int .i64 3) (.int .i64 ((k+3:Nat):Int)) (egI _ _ _ _ _) (aI k 3 3 rfl (by omega) (by omega))<|qF [] ks fun wt kt=>eoB<|ji (fun y=>⟨k+3,y⟩) ⟨rR.symm,by rw[rC,rD];exact kt.take 2 _⟩
   have hna:¬Zh (Jp p (gb xs k))=true:=by
    rw[←hc,←hq,hah]
    have h5:¬q=5:=by simpa using e5
    have h6:¬q=6:=by simpa using e6
    omega
   refine coS<|qQ [] kc fun wd kd=>coI (q==1) (fun e=>JC<|eoT ?a1) fun e1=>coZ<|qF [] kd fun we ke=>eoT<|coI (q==2) (fun e=>?a2) fun e2=>?_
   case a1 =>
    have h2:gb xs k=203∨gb xs k=237:=by rw[←hc];exact hcb.1 (.inl (by simpa using e))
    have rC:QD (gb xs) k p=gb xs (k+1):=(if_neg hna).trans (if_pos h2)
    have rD:Q9 (gb xs) k p=0:=(if_neg hna).trans (if_pos h2)
    have rR:Jh (gb xs) k p=k+2:=(if_neg hna).trans (if_pos h2)
    exact coI (q==1) (fun _=>coR<|qR 2 [] kd fun wx kx=>kBj 89 (.int .i64 (k:Int)) (.int .i64 1) (.int .i64 ((k+1:Nat):Int)) (egI _ _ _ _ _) (aI k 1 1 rfl (by omega) (by omega))<|qC (KA (k+1) _ rfl wx kx.touch.below) kx fun wy ky=>qE [1] ky fun wz kz=>coZ<|qR 1 [] kz fun ws ks=>kBj 93 (.int .i64 (k:Int)) (.int .i64 2) (.int .i64 ((k+2:Nat):Int)) (egI _ _ _ _ _) (aI k 2 2 rfl (by omega) (by omega))<|qF [] ks fun wt kt=>eoB<|ji (fun y=>⟨k+2,y⟩) ⟨rR.symm,by rw[rC,rD];exact kt.take 2 _⟩) fun h=>Bool.noConfusion (e.symm.trans h)
   case a2 =>
    have h2:gb xs k=203∨gb xs k=237:=by rw[←hc];exact hcb.1 (.inr (.inl (by simpa using e)))
    have rC:QD (gb xs) k p=gb xs (k+1):=(if_neg hna).trans (if_pos h2)
    have rD:Q9 (gb xs) k p=0:=(if_neg hna).trans (if_pos h2)
    have rR:Jh (gb xs) k p=k+2:=(if_neg hna).trans (if_pos h2)
    exact coR<|qR 2 [] ke fun wx kx=>kBj 89 (.int .i64 (k:Int)) (.int .i64 1) (.int .i64 ((k+1:Nat):Int)) (egI _ _ _ _ _) (aI k 1 1 rfl (by omega) (by omega))<|qC (KA (k+1) _ rfl wx kx.touch.below) kx fun wy ky=>qE [1] ky fun wz kz=>coZ<|qR 1 [] kz fun ws ks=>kBj 93 (.int .i64 (k:Int)) (.int .i64 2) (.int .i64 ((k+2:Nat):Int)) (egI _ _ _ _ _) (aI k 2 2 rfl (by omega) (by omega))<|qF [] ks fun wt kt=>eoB<|ji (fun y=>⟨k+2,y⟩) ⟨rR.symm,by rw[rC,rD];exact kt.take 2 _⟩
   have h2:¬(gb xs k=203∨gb xs k=237):=by
    rw[←hc,←hcb]
    have h5:¬q=5:=by simpa using e5
    have h6:¬q=6:=by simpa using e6
    have h7:¬q=1:=by simpa using e1
    have h8:¬q=2:=by simpa using e2
    omega
   have hqp:q=p:=by
    rw[hq,hc]
    unfold Jp
    rw[if_neg fun e=>h2 (.inl e),if_neg fun e=>h2 (.inr e)]
   have rC:QD (gb xs) k p=c:=by rw[hc];exact (if_neg hna).trans (if_neg h2)
   refine coR<|qR 2 [] ke fun wx kx=>qC (KC wx kx.touch.below) kx fun wy ky=>qE [1] ky fun wz kz=>coR<|qR 1 [] kz fun wp kp=>kBj 56 (.int .i64 (k:Int)) (.int .i64 1) (.int .i64 ((k+1:Nat):Int)) (egI _ _ _ _ _) (aI k 1 1 rfl (by omega) (by omega))<|qE [] kp fun wq kq=>coR<|qR 4 [1,1] kq fun wr kr=>qCe (QFA q c hc8 wr)<|qE [] kr fun ws ks=>qQ [] ks fun wt kt=>coI (JP q c) (fun e=>?_) fun e=>JC<|eoB ?_
   · have hn:JP p (gb xs k)=true:=by rw[←hqp,←hc];exact e
     have rD:Q9 (gb xs) k p=gb xs (k+1):=(if_neg hna).trans ((if_neg h2).trans (if_pos hn))
     have rR:Jh (gb xs) k p=k+1+1:=(if_neg hna).trans ((if_neg h2).trans (if_pos hn))
     exact coR<|qR 2 [] kt fun wu ku=>qC (KA (k+1) _ rfl wu ku.touch.below) ku fun wv kv=>qE [1] kv fun ww kw=>coZ<|qR 1 [] kw fun wx kx=>kBj 68 (.int .i64 ((k+1:Nat):Int)) (.int .i64 1) (.int .i64 ((k+1+1:Nat):Int)) (egI _ _ _ _ _) (aI (k+1) 1 1 rfl (by omega) (by omega))<|qF [] kx fun wy ky=>eoB<|ji (fun y=>⟨k+1+1,y⟩) ⟨rR.symm,by rw[rC,rD];exact ky.take 2 _⟩
   · have hn:¬JP p (gb xs k)=true:=by rw[←hqp,←hc,e];simp
     have rD:Q9 (gb xs) k p=0:=(if_neg hna).trans ((if_neg h2).trans (if_neg hn))
     have rR:Jh (gb xs) k p=k+1:=(if_neg hna).trans ((if_neg h2).trans (if_neg hn))
     exact ji (fun y=>⟨k+1,y⟩) ⟨rR.symm,by rw[rC,rD];exact kt.take 2 _⟩
 clear km
 have hCb:B8 (QD (gb xs) k p):=by
  unfold QD
  split
  · exact hb _
  · split<;>exact hb _
 have hrg:=QF8 (gb xs) k p
 generalize Q9 (gb xs) k p=D at *
 generalize QD (gb xs) k p=C at *
 generalize Jh (gb xs) k p=R at *
 have hn:=qw q C
 have KS:=fun w=>QNN q C hCb w
 generalize Jb q C=n at *
 rintro ⟨r,y2⟩ w2 ⟨hr,km⟩
 obtain rfl:r=R:=hr
 refine coR<|qR 4 [1,1] km fun wa ka=>qCe (KS wa)<|qE [] ka fun wb kb=>QHs (dnC ad xs.length cap W.heap.size w3.heap.size n) (fun x w'=>x.k=r∧Many W [] (zv W.heap.size w3.heap.size (QCY q C D (if n > 0 then gb xs r else 0) 0 S)) w') ?_ ?_
 · refine qQ [] kb fun wc kc=>coI (decide (n > 0)) (fun e=>?_) fun e=>JC<|ji (fun y=>⟨r,y⟩) ⟨rfl,by rw[if_neg (by simpa using e)];exact kc.take 2 _⟩
   have e:n > 0:=by simpa using e
   exact coZ<|qR 2 [] kc fun wd kd=>qC (KA r _ rfl wd kd.touch.below) kd fun we ke=>wM (QBL (cv8 (gb xs r) (hb r) we))<|qF [1] ke fun wf kf=>ji (fun y=>⟨r,y⟩) ⟨rfl,by rw[if_pos e];exact kf.take 2 _⟩
 clear km ka kb
 rintro ⟨r2,y3⟩ wv ⟨hr2,km⟩
 obtain rfl:r2=r:=hr2
 refine QHs (dnC ad xs.length cap W.heap.size w3.heap.size n) (fun x w'=>x.k=r2∧Many W [] (zv W.heap.size w3.heap.size (QCY q C D (QZ (gb xs) r2 n) 0 S)) w') ?_ ?_
 · refine qQ [] km fun wc kc=>coI (decide (n > 1)) (fun e=>?_) fun e=>JC<|ji (fun y=>⟨r2,y⟩) ⟨rfl,?_⟩
   · have e:n=2:=by have:n > 1:=by simpa using e
                    omega
     subst e
     have h1:=hb r2
     have h2:=hb (r2+1)
     have b1:=h1.1
     have b2:=h1.2
     have b3:=h2.1
     have b4:=h2.2
     have ei:QZ (gb xs) r2 2=gb xs r2+256*gb xs (r2+1):=by
      show 256*gb xs (r2+1)+gb xs r2=_
      omega
     have kc:Many W [] (zv W.heap.size w3.heap.size (QCY q C D (gb xs r2) 0 S)) wc:=kc.take 2 _
     exact qPz 9 kc fun wd kd=>qD 1 [0,1,2,3] kd<|qT 4 kd (fun w' _=>Xb (egI _ _ _ _ _ _) (aI r2 1 1 rfl (by omega) (by omega) _))<|qDc 5 (KA (r2+1) _ rfl wd kd.touch.below) kd fun we ke=>qT 6 ke (fun w' _=>QBL (cv8 (gb xs (r2+1)) h2 _))<|qT 7 ke (fun w' _=>Xb (gW _ _ _ _ _ _) (QV2 (gb xs (r2+1)) h2 _))<|qT 8 ke (fun w' _=>Xb (gW _ _ _ _ _ _) (addW (gb xs r2) (256*gb xs (r2+1)) (by omega) _))<|poE<|qF [1] ke fun wf kf=>ji (fun y=>⟨r2,y⟩) ⟨rfl,by rw[ei];exact kf.take 2 _⟩
   · have e:¬n > 1:=by simpa using e
     have ei:QZ (gb xs) r2 n=if n > 0 then gb xs r2 else 0:=by
      have:n=0∨n=1:=by omega
      rcases this with rfl|rfl<;>rfl
     rw[ei]
     exact kc.take 2 _
 clear km
 rintro ⟨r3,y4⟩ w4 ⟨hr3,km⟩
 obtain rfl:r3=r2:=hr3
 have hle:(lenOf xs:Int)=(r3:Int)+n:=by rw[←hlen,hop]
 generalize QZ (gb xs) r3 n=I at *
 refine coR<|qR 2 [] km fun wa ka=>kBj 120 (.int .i64 (r3:Int)) (.int .i64 n) (.int .i64 ((r3:Int)+n)) (egI _ _ _ _ _) (QCx _ _ (by omega) (by omega))<|qE [1] ka fun wb kb=>coS<|qQ [1] kb fun wc kc=>coI (decide ((r3:Int)+n > (xs.length:Int))) (fun e=>?_) fun e=>JC<|eoT ?_
 · have e:(r3:Int)+n > (xs.length:Int):=by simpa using e
   have ho:okM xs=false:=by unfold okM;rw[decide_eq_false_iff_not];omega
   refine qQ [0] kc fun wd kd=>JE<|Je<|eoK2 (V2:=.bool false) (kd.row 0 (b:=W.heap.size) (t:=49) [.int .i64 0,.int .u8 0,.int .u8 0,.int .u16 0,.int .i64 0,.int .i64 0] (by kernel_rfl)) ⟨?_,kd.touch.below⟩
   rw[(QQ2 ho).2,ho]
   rfl
 · have e:¬(r3:Int)+n > (xs.length:Int):=by simpa using e
   have ho:okM xs=true:=by unfold okM;rw[decide_eq_true_eq];omega
   refine qQ [1,0] kc fun wd kd=>JE<|eoK2 (V2:=.bool true) (kd.row 0 (b:=W.heap.size) (t:=49) [.int .i64 q,.int .u8 C,.int .u8 D,.int .u16 I,.int .i64 ((r3:Int)+n),.int .i64 S] (by kernel_rfl)) ⟨?_,kd.touch.below⟩
   rw[(QAr ho).2,hop,ho]
theorem QSL:∀ k:Fin 10,(⟨#[48,49,50,51,52,53,54,55,56,57]⟩:ByteArray).extract k.val (k.val+1)=⟨#[UInt8.ofNat (48+k.val)]⟩:=by decide +kernel
def QKT (k:Int):UInt8:=UInt8.ofNat (48+k.toNat)
theorem QQG (k:Int)(h0:0≤k)(h1:k < 10):(⟨#[48,49,50,51,52,53,54,55,56,57]⟩:ByteArray).extract k.toNat (k.toNat+1)=⟨#[QKT k]⟩ :=
 QSL ⟨k.toNat,by omega⟩
theorem QPG (u:Nat)(L:List UInt8)(h:¬u < 10):Lib.decDigits u++L=Lib.decDigits (u / 10)++(UInt8.ofNat (48+u%10) :: L):=by
 rw[Lib.decDigits,dif_neg h,List.append_assoc]
 rfl
theorem QPB (u:Nat)(L:List UInt8)(h:u < 10):Lib.decDigits u++L=UInt8.ofNat (48+u) :: L:=by
 rw[Lib.decDigits,dif_pos h]
 rfl
theorem QPZ (N:Int)(f:Nat)(h0:0 < N)(h:N < 10 ^ f):0 < f:=by
 rcases f with _|f
 · simp at h;omega
 · omega
theorem QJB (n:Int)(h0:0≤n)(h1:n≤9223372036854775807)(w:World) :
 Calls Tryz.prog 27 #[.int .i64 n] w fun e w'=>e=.returned (.string (ql n))∧Below w.heap.size w w':=by
 have h2:n < 10 ^ 19:=by omega
 have hI:Lib.itoa n=Lib.decDigits n.toNat++[]:=by
  unfold Lib.itoa
  rw[if_neg (by omega),List.append_nil]
 have HI:=Lib.hid hI
 clear hI
 go_enter Tryz.func27,Tryz.ntmps27
 go_wp2
 go_loopw [0,3] (fun i s wr=>∃ (N:Int) (L:List UInt8) (f:Nat),i=.int .i64 N∧s=.string ⟨L.toArray⟩∧0≤N∧N≤9223372036854775807∧N < 10 ^ f∧L.length+f=19∧0 < f∧Lib.decDigits N.toNat++L=Lib.itoa n∧Below w.heap.size w wr) (fun i s _=>19-QUr s)
 case atStart=>exact⟨n,[],19,rfl,rfl,h0,h1,h2,rfl,by omega,HI.out.symm,Below.refl _ _⟩
 case round =>
  obtain⟨N,L,f,rfl,rfl,a0,a1,a2,a3,a4,a5,aB⟩:=hrel
  have hs:=Xe L
  have HE:=Lib.hid a5
  have HB:=Lib.hid aB
  clear a5 aB h2
  obtain⟨g,rfl⟩:∃ g,f=g+1:=⟨f-1,by omega⟩
  have HP:=Lib.hid (QEi N g a2)
  have q0:0≤N%10:=by omega
  have q1:N%10 < 10:=by omega
  have hx:=QQG (N%10) q0 q1
  have q2:(N%10+1).toNat=(N%10).toNat+1:=by omega
  have q3:IntKind.i64.wrap (N%10+1)=N%10+1:=by rw[IntKind.wrap_i64];omega
  have q4:N%10≤N%10+1:=by omega
  have q5:N%10+1≤10:=by omega
  have r0:0≤N / 10:=by omega
  have r1:N / 10≤9223372036854775807:=by omega
  have hm:(N%10).toNat=N.toNat%10:=by omega
  have hd:(N / 10).toNat=N.toNat / 10:=by omega
  have HA:=Lib.hid (QBz [QKT (N%10)] L)
  have hM:=Lib.hid (show QKT (N%10)=UInt8.ofNat (48+N.toNat%10) by unfold QKT;rw[hm])
  have hD:=Lib.hid hd
  clear a2 a4 hm hd
  by_cases c:N < 10
  · have e0:(N / 10==0)=true:=by simp;omega
    have HL:=Lib.hid (QPB N.toNat L (by omega))
    have hN:=Lib.hid (show N.toNat%10=N.toNat by omega)
    go_wp2
    go_ret
    refine⟨QAu ?_,HB.out⟩
    show (⟨[QKT (N%10)].toArray⟩++⟨L.toArray⟩:ByteArray)=ql n
    rw[HA.out,hM.out,hN.out]
    show _=(⟨(Lib.itoa n).toArray⟩:ByteArray)
    rw[←HE.out,HL.out]
    rfl
  · have e0:(N / 10==0)=false:=by simp;omega
    have HL:=Lib.hid (QPG N.toNat L (by omega))
    have hpos:0 < N / 10:=by omega
    have HG:=Lib.hid (QPZ (N / 10) g hpos HP.out)
    clear hpos
    go_wp2
    go_roundw
    case rel=>exact⟨N / 10,QKT (N%10) :: L,g,rfl,by rw[HA.out];rfl,r0,r1,HP.out,by simp;omega,HG.out,by rw[hD.out,hM.out,←HE.out,HL.out],HB.out⟩
    case measure=>show 19-((⟨#[QKT (N%10)]⟩:ByteArray)++⟨L.toArray⟩).size < 19-(⟨L.toArray⟩:ByteArray).size;rw[HA.out,hs,Xe];simp;omega
theorem QK2:Lib.itoa (-9223372036854775808)=[45,57,50,50,51,51,55,50,48,51,54,56,53,52,55,55,53,56,48,56]:=by
 unfold Lib.itoa
 rw[if_pos (by decide),show (-9223372036854775808:Int).natAbs=9223372036854775808 by decide]
 simp[Lib.decDigits]
theorem QM0 (n:Int)(h:n < 0):Lib.itoa n=45 :: Lib.itoa (-n):=by
 unfold Lib.itoa
 rw[if_pos h,if_neg (by omega)]
 congr 2
 omega
theorem QJS (n:Int)(h:-9223372036854775808≤n∧n≤9223372036854775807)(w:World) :
 Calls Tryz.prog 27 #[.int .i64 n] w fun e w'=>e=.returned (.string (ql n))∧Below w.heap.size w w':=by
 by_cases h0:0≤n
 · exact QJB n h0 h.2 w
 by_cases hm:n=-9223372036854775808
 · have e:ql n=⟨#[45,57,50,50,51,51,55,50,48,51,54,56,53,52,55,55,53,56,48,56]⟩:=by
    unfold ql
    rw[hm,QK2]
   have HE:=Lib.hid e
   have hw:wrap64 (-n)=n:=by rw[hm];decide +kernel
   have hneg:n < 0:=by omega
   clear e hm h h0
   go_enter Tryz.func27,Tryz.ntmps27
   go_wp2
   go_ret
   exact⟨by rw[HE.out];rfl,Below.refl _ _⟩
 · have hk:=Lib.hid (QJB (-n) (by omega) (by omega))
   have hl:=QM0 n (by omega)
   have hs:=qt (-n) ⟨by omega,by omega⟩
   have he:(n==-n)=false:=by simp;omega
   have hw:wrap64 (-n)=-n:=IntWalk.wrap64_in _ ⟨by omega,by omega⟩
   have HL:=Lib.hid hl
   have hneg:n < 0:=by omega
   have hlo:-9223372036854775807≤n:=by omega
   clear hl h0 hm h
   go_enter Tryz.func27,Tryz.ntmps27
   go_wp2_with (first
    | (go_at_call 27;refine (hk.out _).mono ?_;rintro e w' ⟨rfl,hb⟩;have hsz:=hb.size))
   go_ret
   refine⟨QAu ?_,(by repeat (first|exact Below.refl _ _|assumption|refine JF ?_ (by assumption)|refine Below.drew ?_|refine Below.alloc ?_ (by first|(simp;done)|(simp;omega)|omega) _|refine Below.setCell ?_ (by first|(simp;done)|(simp;omega)|omega) _))⟩
   unfold ql
   rw[HL.out]
   exact QBz [45] _
def nmB (k:Nat):ByteArray:=[(⟨#[97,102,61]⟩:ByteArray),(⟨#[98,99,61]⟩:ByteArray),(⟨#[100,101,61]⟩:ByteArray),(⟨#[104,108,61]⟩:ByteArray),(⟨#[105,120,61]⟩:ByteArray),(⟨#[105,121,61]⟩:ByteArray),(⟨#[115,112,61]⟩:ByteArray),(⟨#[112,99,61]⟩:ByteArray)].getD k ⟨#[]⟩
theorem QJL (k:Nat)(h:k < 8):(nmB k).size=3:=by
 obtain rfl|rfl|rfl|rfl|rfl|rfl|rfl|rfl:k=0∨k=1∨k=2∨k=3∨k=4∨k=5∨k=6∨k=7:=by omega
 all_goals rfl
def nums (g:Rg)(k:Nat):Int:=[g.af,g.bc,g.de,g.hl,g.ix,g.iy,g.sp,g.pc].getD k 0
theorem QVu (g:Rg)(hg:RgB g)(k:Nat)(h:k < 8):Wd16 (nums g k):=by
 obtain rfl|rfl|rfl|rfl|rfl|rfl|rfl|rfl:k=0∨k=1∨k=2∨k=3∨k=4∨k=5∨k=6∨k=7:=by omega
 · exact hg.af
 · exact hg.bc
 · exact hg.de
 · exact hg.hl
 · exact hg.ix
 · exact hg.iy
 · exact hg.sp
 · exact hg.pc
def QIf (b:Bool)(s:ByteArray):ByteArray:=if b then s else ⟨#[]⟩
def QC7 (x:Nat→Int):Nat→ByteArray
 | 0=>⟨#[]⟩
 | k+1=>QC7 x k++nmB k++Jt (x k)++⟨#[32]⟩
theorem QBv (a b:ByteArray):(a++b).size=a.size+b.size:=by simp
theorem QCk (x:Nat→Int):∀ k,k≤8→(QC7 x k).size=9*k
 | 0,_=>rfl
 | k+1,h=>by
   rw[QC7,QBv,QBv,QBv,QCk x k (by omega),QJL k (by omega),ZD]
   show 9*k+3+5+1=_
   omega
theorem QVX (x:Nat→Int):QC7 x 8=⟨#[]⟩++nmB 0++Jt (x 0)++⟨#[32]⟩++nmB 1++Jt (x 1)++⟨#[32]⟩++nmB 2++Jt (x 2)++⟨#[32]⟩++nmB 3++Jt (x 3)++⟨#[32]⟩++nmB 4++Jt (x 4)++⟨#[32]⟩++nmB 5++Jt (x 5)++⟨#[32]⟩++nmB 6++Jt (x 6)++⟨#[32]⟩++nmB 7++Jt (x 7)++⟨#[32]⟩:=rfl
theorem QQs (g:Rg):(⟨(jp g).toArray⟩:ByteArray)=QC7 (nums g) 8++⟨#[105,61]⟩++Xt g.i++⟨#[32,114,61]⟩++Xt g.r++⟨#[32,105,109]⟩++ql g.mode++QIf g.iff1 ⟨#[32,105,102,102,49]⟩++QIf g.iff2 ⟨#[32,105,102,102,50]⟩++QIf g.halted ⟨#[32,104,97,108,116]⟩:=by
 rw[QVX]
 apply ByteArray.ext
 unfold jp zI Jt Xt ql QIf
 generalize Lib.itoa g.mode=I
 cases g.iff1<;>cases g.iff2<;>cases g.halted<;>simp[nmB,nums,Lib.join,List.intercalate,List.intersperse,QBC,QEw]
theorem QTE (a:ByteArray):a++⟨#[]⟩=a:=by
 apply ByteArray.ext
 simp
theorem QUn {w w':World} {A i j m:Nat} {u v x:Value}(k:Below w.heap.size w w')(h:w.cell? ⟨A,i,none⟩=some u∧w.cell? ⟨A,j,none⟩=some v∧w.cell? ⟨A,m,none⟩=some x) :
 w'.cell? ⟨A,i,none⟩=some u∧w'.cell? ⟨A,j,none⟩=some v∧w'.cell? ⟨A,m,none⟩=some x:=⟨cell_kept h.1 k,cell_kept h.2.1 k,cell_kept h.2.2 k⟩
theorem QUx {w w':World} {A B i j:Nat} {u v:Value}(k:Below w.heap.size w w')(h:w.cell? ⟨A,i,none⟩=some u∧w.cell? ⟨B,j,none⟩=some v) :
 w'.cell? ⟨A,i,none⟩=some u∧w'.cell? ⟨B,j,none⟩=some v:=⟨cell_kept h.1 k,cell_kept h.2 k⟩
theorem QCt (n:Int)(h:Wd16 n)(w:World) :
 Calls Tryz.prog 22 #[.int .i64 (IntKind.i64.wrap n),.int .i64 4] w fun e w'=>e=.returned (.string (Jt n))∧Below w.heap.size w w':=by
 rw[show IntKind.i64.wrap n=n by have:=h.1;have:=h.2;rw[IntKind.wrap_i64];omega]
 exact QGV n h.1 h.2 w
theorem QGD (n:Int)(h:B8 n)(w:World) :
 Calls Tryz.prog 22 #[.int .i64 (IntKind.i64.wrap n),.int .i64 2] w fun e w'=>e=.returned (.string (Xt n))∧Below w.heap.size w w':=by
 rw[show IntKind.i64.wrap n=n by have:=h.1;have:=h.2;rw[IntKind.wrap_i64];omega]
 exact QCU n h.1 h.2 w
theorem QJy (g:Rg)(hg:RgB g)(w:World) :
 Calls Tryz.prog 23 #[JM g] w fun e w'=>e=.returned (.string ⟨(jp g).toArray⟩)∧Below w.heap.size w w':=by
 have HNB:=Lib.hid (QVu g hg)
 have hg8:=hg.i
 have hg9:=hg.r
 have hgm:=hg.mode
 obtain⟨af,bc,de,hl,af2,bc2,de2,hl2,ix,iy,sp,pc,wz,i,r,iff1,iff2,halted,late,mode⟩:=g
 have KB:=Lib.hid QGD
 have HQ8:=Lib.hid (show B8 i from hg8)
 have HQ9:=Lib.hid (show B8 r from hg9)
 have KN:=Lib.hid (QJS mode hgm)
 have HM:=Lib.hid hgm
 clear hg hg8 hg9 hgm
 obtain⟨cs,hcs⟩:∃ cs,cs=(#[.int .u16 af,.int .u16 bc,.int .u16 de,.int .u16 hl,.int .u16 af2,.int .u16 bc2,.int .u16 de2,.int .u16 hl2,.int .u16 ix,.int .u16 iy,.int .u16 sp,.int .u16 pc,.int .u16 wz,.int .u8 i,.int .u8 r,.bool iff1,.bool iff2,.bool halted,.bool late,.int .i64 mode]:Array Value):=⟨_,rfl⟩
 have HE:=Lib.hid hcs
 show Calls _ _ #[.agg (#[.int .u16 af,.int .u16 bc,.int .u16 de,.int .u16 hl,.int .u16 af2,.int .u16 bc2,.int .u16 de2,.int .u16 hl2,.int .u16 ix,.int .u16 iy,.int .u16 sp,.int .u16 pc,.int .u16 wz,.int .u8 i,.int .u8 r,.bool iff1,.bool iff2,.bool halted,.bool late,.int .i64 mode]:Array Value)] _ _
 rw[←hcs]
 clear hcs
 go_enter Tryz.func23,Tryz.ntmps23
 go_upto_region 1 with (fail)
 have rA:=Row.new w 24 cs
 have HB:=Lib.hid ((Below.refl w.heap.size w).alloc (Nat.le_refl _) (.cells cs 24))
 generalize w.alloc (.cells cs 24)=W0 at *
 rw[HE.out] at rA
 have rA:=Lib.hid rA
 have hltA:=rA.out.lt
 have c0:W0.cell? ⟨w.heap.size,0,none⟩=some (.int .u16 af):=rA.out.cell 0
 have c1:W0.cell? ⟨w.heap.size,1,none⟩=some (.int .u16 bc):=rA.out.cell 1
 have c2:W0.cell? ⟨w.heap.size,2,none⟩=some (.int .u16 de):=rA.out.cell 2
 have c3:W0.cell? ⟨w.heap.size,3,none⟩=some (.int .u16 hl):=rA.out.cell 3
 have c8:W0.cell? ⟨w.heap.size,8,none⟩=some (.int .u16 ix):=rA.out.cell 8
 have c9:W0.cell? ⟨w.heap.size,9,none⟩=some (.int .u16 iy):=rA.out.cell 9
 have c10:W0.cell? ⟨w.heap.size,10,none⟩=some (.int .u16 sp):=rA.out.cell 10
 have c11:W0.cell? ⟨w.heap.size,11,none⟩=some (.int .u16 pc):=rA.out.cell 11
 go_upto_region 3 with (fail)
 clear c0 c1 c2 c3 c8 c9 c10 c11
 have rN:=(Row.new W0 9 #[.string ⟨#[97,102,61]⟩,.string ⟨#[98,99,61]⟩,.string ⟨#[100,101,61]⟩,.string ⟨#[104,108,61]⟩,.string ⟨#[105,120,61]⟩,.string ⟨#[105,121,61]⟩,.string ⟨#[115,112,61]⟩,.string ⟨#[112,99,61]⟩]).alloc (.cells #[.int .u16 af,.int .u16 bc,.int .u16 de,.int .u16 hl,.int .u16 ix,.int .u16 iy,.int .u16 sp,.int .u16 pc] 22)
 have rX:=Row.new (W0.alloc (.cells #[.string ⟨#[97,102,61]⟩,.string ⟨#[98,99,61]⟩,.string ⟨#[100,101,61]⟩,.string ⟨#[104,108,61]⟩,.string ⟨#[105,120,61]⟩,.string ⟨#[105,121,61]⟩,.string ⟨#[115,112,61]⟩,.string ⟨#[112,99,61]⟩] 9)) 22 #[.int .u16 af,.int .u16 bc,.int .u16 de,.int .u16 hl,.int .u16 ix,.int .u16 iy,.int .u16 sp,.int .u16 pc]
 rw[show (W0.alloc (.cells #[.string ⟨#[97,102,61]⟩,.string ⟨#[98,99,61]⟩,.string ⟨#[100,101,61]⟩,.string ⟨#[104,108,61]⟩,.string ⟨#[105,120,61]⟩,.string ⟨#[105,121,61]⟩,.string ⟨#[115,112,61]⟩,.string ⟨#[112,99,61]⟩] 9)).heap.size=W0.heap.size+1 by simp] at rX
 have rA2:=Lib.hid ((rA.out.alloc (.cells #[.string ⟨#[97,102,61]⟩,.string ⟨#[98,99,61]⟩,.string ⟨#[100,101,61]⟩,.string ⟨#[104,108,61]⟩,.string ⟨#[105,120,61]⟩,.string ⟨#[105,121,61]⟩,.string ⟨#[115,112,61]⟩,.string ⟨#[112,99,61]⟩] 9)).alloc (.cells #[.int .u16 af,.int .u16 bc,.int .u16 de,.int .u16 hl,.int .u16 ix,.int .u16 iy,.int .u16 sp,.int .u16 pc] 22))
 have HB2:=Lib.hid ((HB.out.alloc HB.out.size (.cells #[.string ⟨#[97,102,61]⟩,.string ⟨#[98,99,61]⟩,.string ⟨#[100,101,61]⟩,.string ⟨#[104,108,61]⟩,.string ⟨#[105,120,61]⟩,.string ⟨#[105,121,61]⟩,.string ⟨#[115,112,61]⟩,.string ⟨#[112,99,61]⟩] 9)).alloc (by have:=HB.out.size;simp;omega) (.cells #[.int .u16 af,.int .u16 bc,.int .u16 de,.int .u16 hl,.int .u16 ix,.int .u16 iy,.int .u16 sp,.int .u16 pc] 22))
 generalize (W0.alloc (.cells #[.string ⟨#[97,102,61]⟩,.string ⟨#[98,99,61]⟩,.string ⟨#[100,101,61]⟩,.string ⟨#[104,108,61]⟩,.string ⟨#[105,120,61]⟩,.string ⟨#[105,121,61]⟩,.string ⟨#[115,112,61]⟩,.string ⟨#[112,99,61]⟩] 9)).alloc (.cells #[.int .u16 af,.int .u16 bc,.int .u16 de,.int .u16 hl,.int .u16 ix,.int .u16 iy,.int .u16 sp,.int .u16 pc] 22)=W at *
 have HN:Hid (∀ k,k < 8→W.cell? ⟨W0.heap.size,k,none⟩=some (.string (nmB k))):=Lib.hid (fun k hk=>by
  obtain rfl|rfl|rfl|rfl|rfl|rfl|rfl|rfl:k=0∨k=1∨k=2∨k=3∨k=4∨k=5∨k=6∨k=7:=by omega
  all_goals exact rN.cell _)
 have HX:Hid (∀ k,k < 8→W.cell? ⟨W0.heap.size+1,k,none⟩=some (.int .u16 (nums ⟨af,bc,de,hl,af2,bc2,de2,hl2,ix,iy,sp,pc,wz,i,r,iff1,iff2,halted,late,mode⟩ k))):=Lib.hid (fun k hk=>by
  obtain rfl|rfl|rfl|rfl|rfl|rfl|rfl|rfl:k=0∨k=1∨k=2∨k=3∨k=4∨k=5∨k=6∨k=7:=by omega
  all_goals exact rX.cell _)
 have hgN:=rN.lt
 have hgX:=rX.lt
 clear rN rX rA HB hltA HE
 have HF:=Lib.hid (show ∀ x,nums ⟨af,bc,de,hl,af2,bc2,de2,hl2,ix,iy,sp,pc,wz,i,r,iff1,iff2,halted,late,mode⟩=x→QC7 (nums ⟨af,bc,de,hl,af2,bc2,de2,hl2,ix,iy,sp,pc,wz,i,r,iff1,iff2,halted,late,mode⟩) 8=QC7 x 8 from fun x h=>by rw[h])
 obtain⟨x,hx⟩:∃ x,x=nums ⟨af,bc,de,hl,af2,bc2,de2,hl2,ix,iy,sp,pc,wz,i,r,iff1,iff2,halted,late,mode⟩:=⟨_,rfl⟩
 rw[←hx] at HX HNB
 have HXE:=Lib.hid hx
 clear hx HF
 generalize W0.heap.size=gN at *
 go_wp2
 go_loopw [5,6] (fun s i wr=>∃ k:Nat,k≤8∧s=.string (QC7 x k)∧i=.int .i64 (k:Int)∧Below W.heap.size W wr) (fun _ i _=>8-(intOf i).toNat)
 case atStart=>exact⟨0,by omega,rfl,rfl,Below.refl _ _⟩
 case round =>
  obtain⟨k,hk,rfl,rfl,hB⟩:=hrel
  have HBr:=Lib.hid hB
  by_cases hlt:k < 8
  · have l0:=(hB.cell (p:=⟨gN,k,none⟩) hgN).trans (HN.out k hlt)
    have l1:=(hB.cell (p:=⟨gN+1,k,none⟩) hgX).trans (HX.out k hlt)
    have hs0:=QCk x k hk
    have hs1:=QJL k hlt
    have hs2:=ZD (x k)
    have kH:=Lib.hid (QCt (x k) (HNB.out k hlt))
    have HACC:=Lib.hid (show QC7 x (k+1)=QC7 x k++nmB k++Jt (x k)++⟨#[32]⟩ from rfl)
    clear hB
    generalize x k=v at *
    generalize nmB k=nm at *
    have n1:(k:Int) < 8:=by omega
    have n0:(0:Int)≤(k:Int):=by omega
    have g1:¬(9223372036854775807 < 9*k+3):=by omega
    have g2:¬(9223372036854775807 < 9*k+3+5):=by omega
    have g3:¬(9223372036854775807 < 9*k+3+5+1):=by omega
    go_upto_region 7 with (fail)
    go_region_held3 (fun w'=>w'.cell? ⟨gN,k,none⟩=some (.string nm)∧w'.cell? ⟨gN+1,k,none⟩=some (.int .u16 v)) (first|with_reducible assumption|exact⟨l0,l1⟩|with_reducible exact QUx hb (by with_reducible assumption)) (first
     | (go_at_call 22;refine (kH.out _).mono ?_;rintro e w' ⟨rfl,hb⟩;have HB3:=Lib.hid (show Below W.heap.size W w' from (show Below W.heap.size W _ from (by first|exact HBr.out|exact HBr.out.drew)).trans (hb.mono (by first|exact HBr.out.size|exact HBr.out.drew.size)))))
    go_wp2
    go_roundw
    case rel=>exact⟨k+1,by omega,by rw[HACC.out],by go_num,HB3.out⟩
    case measure=>simp[intOf];omega
  · obtain rfl:k=8:=by omega
    have hltA:w.heap.size < W.heap.size:=rA2.out.lt
    have rW:=Lib.hid (rA2.out.below hB hltA)
    have l13:wr.cell? ⟨w.heap.size,13,none⟩=some (.int .u8 i):=rW.out.cell 13
    have l14:wr.cell? ⟨w.heap.size,14,none⟩=some (.int .u8 r):=rW.out.cell 14
    have l19:wr.cell? ⟨w.heap.size,19,none⟩=some (.int .i64 mode):=rW.out.cell 19
    have hltW:w.heap.size < wr.heap.size:=rW.out.lt
    have hs0:=QCk x 8 (Nat.le_refl _)
    have hs1:=jN i
    have hs2:=jN r
    have hs3:=qt mode HM.out
    have g1:¬(9223372036854775807 < 86+(ql mode).size):=by omega
    have HSN:=Lib.hid hs3
    have HXA:=Lib.hid (show QC7 x 8=QC7 (nums ⟨af,bc,de,hl,af2,bc2,de2,hl2,ix,iy,sp,pc,wz,i,r,iff1,iff2,halted,late,mode⟩) 8 by rw[HXE.out])
    have HBW:=Lib.hid (HB2.out.trans (hB.mono HB2.out.size))
    clear hB hlt hk hgN hgX HNB HN HX HXE hs3
    generalize QC7 x 8=AC at *
    simp only[show ((8:Nat):Int)=8 from rfl]
    go_upto_region 8 with (fail)
    have HBr2:=Lib.hid (Below.refl wr.heap.size wr)
    have q8:=HQ8.out
    have q9:=HQ9.out
    go_region_held3 (fun w'=>w'.cell? ⟨w.heap.size,13,none⟩=some (.int .u8 i)∧w'.cell? ⟨w.heap.size,14,none⟩=some (.int .u8 r)∧w'.cell? ⟨w.heap.size,19,none⟩=some (.int .i64 mode)) (first|with_reducible assumption|exact⟨l13,l14,l19⟩|with_reducible exact QUn hb (by with_reducible assumption)) (first
     | (go_at_call 22;refine (KB.out _ (by with_reducible assumption) _).mono ?_;rintro e w' ⟨rfl,hb⟩;have HBr2:=Lib.hid (show Below wr.heap.size wr w' from (show Below wr.heap.size wr _ from (by first|exact HBr2.out|exact HBr2.out.drew)).trans (hb.mono (by first|exact HBr2.out.size|exact HBr2.out.drew.size))))
     | (go_at_call 27;refine (KN.out _).mono ?_;rintro e w' ⟨rfl,hb⟩;have HBr2:=Lib.hid (show Below wr.heap.size wr w' from (show Below wr.heap.size wr _ from (by first|exact HBr2.out|exact HBr2.out.drew)).trans (hb.mono (by first|exact HBr2.out.size|exact HBr2.out.drew.size)))))
    have rV:=rW.out.below HBr2.out hltW
    have l15:w'.cell? ⟨w.heap.size,15,none⟩=some (.bool iff1):=rV.cell 15
    have l16:w'.cell? ⟨w.heap.size,16,none⟩=some (.bool iff2):=rV.cell 16
    have l17:w'.cell? ⟨w.heap.size,17,none⟩=some (.bool halted):=rV.cell 17
    have HBF:=Lib.hid (HBW.out.trans (HBr2.out.mono HBW.out.size))
    have hT:(AC++⟨#[105,61]⟩++Xt i++⟨#[32,114,61]⟩++Xt r++⟨#[32,105,109]⟩++ql mode:ByteArray).size≤107:=by
     simp only[QBv,hs0,hs1,hs2]
     have:=HSN.out
     show 9*8+2+3+3+3+3+_≤107
     omega
    have hacc:=QQs ⟨af,bc,de,hl,af2,bc2,de2,hl2,ix,iy,sp,pc,wz,i,r,iff1,iff2,halted,late,mode⟩
    rw[←HXA.out] at hacc
    have HACC:=Lib.hid hacc
    clear hacc
    clear l13 l14 l19 hs0 hs1 hs2 g1 q8 q9 rV
    generalize (AC++⟨#[105,61]⟩++Xt i++⟨#[32,114,61]⟩++Xt r++⟨#[32,105,109]⟩++ql mode:ByteArray)=TX at *
    have hb1:iff1=true∨iff1=false:=by cases iff1<;>simp
    have hb2:iff2=true∨iff2=false:=by cases iff2<;>simp
    have hb3:halted=true∨halted=false:=by cases halted<;>simp
    obtain h1|h1:=hb1
    all_goals
     obtain h2|h2:=hb2
     all_goals
      obtain h3|h3:=hb3
      all_goals
       rw[h1] at l15
       rw[h2] at l16
       rw[h3] at l17
       have H1:=Lib.hid h1
       have H2:=Lib.hid h2
       have H3:=Lib.hid h3
       clear h1 h2 h3
       go_wp2
       go_ret
       refine⟨QAu (Eq.trans ?_ HACC.out.symm),HBF.out⟩
       simp only[QIf,H1.out,H2.out,H3.out,if_true,if_false,QTE,Bool.false_eq_true]
end Go.Proofs.YtmgcgiecimnncaaGreatDoor
