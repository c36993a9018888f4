/- Contracts and facts that the claim's proof wants (several texts in one). -/
import Derived.Test.YtmgcgiecimnncaaGreatDoorTlG27
namespace Go.Proofs.YtmgcgiecimnncaaGreatDoor
open Go.RowKit
set_option linter.unusedVariables false
set_option linter.unusedSimpArgs false
set_option maxRecDepth 20000
set_option maxHeartbeats 20000000
def QQT (A S:Nat)(w:World):Nat :=
 (match w.cell? ⟨A,0,none⟩ with|some (.int _ n)=>n.toNat|_=>0)+(match w.cell? ⟨S,0,none⟩ with|some (.bool true)=>1|_=>0)
theorem Rd.reads {w:World} {B A C S:Nat} {ad:Option Addr} {cap:Nat} {xs:List Int} {k:Nat}(h:Rd w B A C S ad cap xs k)(hk:k≤xs.length+1):QQT A S w=k:=by
 unfold QQT
 rw[h.hA.cell,h.hS.cell]
 rcases Nat.lt_or_ge xs.length k with e|e
 · rw[decide_eq_true e]
   simp
   omega
 · rw[decide_eq_false (by omega)]
   simp
   omega
theorem QC {w:World} {g:Nat} {t:TypeId} {v0 v1 v2 v3 v4 v5:Value}(h:Row w g t #[v0,v1,v2,v3,v4,v5]) :
 (w.cell? ⟨g,0,none⟩=some v0∧w.cell? ⟨g,1,none⟩=some v1∧w.cell? ⟨g,2,none⟩=some v2∧w.cell? ⟨g,3,none⟩=some v3∧w.cell? ⟨g,4,none⟩=some v4∧w.cell? ⟨g,5,none⟩=some v5)∧∀ i,w.frozen? ⟨g,i,none⟩=false :=
 ⟨⟨h.cell 0,h.cell 1,h.cell 2,h.cell 3,h.cell 4,h.cell 5⟩,h.frozen⟩
abbrev QAP:Array Value:=#[.int .i64 0,.int .u8 0,.int .u8 0,.int .u16 0,.int .i64 0,.int .i64 0]
structure Fr (w:World)(B A C S:Nat)(ad:Option Addr)(cap:Nat)(xs:List Int)(k:Nat)(W:World):Prop where
 rd:Rd W B A C S ad cap xs k
 row:Row W w.heap.size 49 QAP
 bes:Besides A S w W
 lt:A < w.heap.size∧C < w.heap.size∧S < w.heap.size
theorem Fr.set {w W:World} {B A C S:Nat} {ad:Option Addr} {cap:Nat} {xs:List Int} {k:Nat}(h:Fr w B A C S ad cap xs k W)(i:Nat)(u:Value):Fr w B A C S ad cap xs k (W.setCell ⟨w.heap.size+1,i,none⟩ u) :=
 { h with
  rd:=h.rd.far (p:=⟨w.heap.size+1,i,none⟩) (by have:=h.lt;have:=h.rd.bA;show B≤w.heap.size+1∧w.heap.size+1≠A∧w.heap.size+1≠C∧w.heap.size+1≠S;omega) u
  row:=h.row.far (p:=⟨w.heap.size+1,i,none⟩) (by show w.heap.size≠w.heap.size+1;omega) u
  bes:=h.bes.setCell (p:=⟨w.heap.size+1,i,none⟩) (.inr (.inr (by show w.heap.size≤w.heap.size+1;omega))) u }
theorem Fr.below {w W W':World} {B A C S:Nat} {ad:Option Addr} {cap:Nat} {xs:List Int} {k:Nat}(h:Fr w B A C S ad cap xs k W)(hb:Below W.heap.size W W'):Fr w B A C S ad cap xs k W' :=
 { h with rd:=h.rd.below hb,row:=h.row.below hb h.row.lt,bes:=h.bes.trans (.of_below hb) }
theorem Fr.after {w W W':World} {B A C S:Nat} {ad:Option Addr} {cap:Nat} {xs:List Int} {k k':Nat}(h:Fr w B A C S ad cap xs k W)(a:After W W' B A C S ad cap xs k'):Fr w B A C S ad cap xs k' W' :=
 { h with rd:=a.1,row:=h.row.besides a.2 (by have:=h.lt;omega) (by have:=h.lt;omega),bes:=h.bes.trans a.2 }
theorem Fr.own {w W W':World} {B A C S:Nat} {ad:Option Addr} {cap:Nat} {xs:List Int} {k k':Nat} {cs:Array Value}(h:Fr w B A C S ad cap xs k W)(a:After W W' B A C S ad cap xs k')(r:Row W (w.heap.size+1) 49 cs):Row W' (w.heap.size+1) 49 cs :=
 r.besides a.2 (by have:=h.lt;omega) (by have:=h.lt;omega)
def QTv (w:World)(B A C S:Nat)(ad:Option Addr)(cap:Nat)(xs:List Int)(t:Value)(wr:World):Prop :=
 ∃ k:Nat,k≤lead xs∧t=.int .u8 (gb xs k)∧Fr w B A C S ad cap xs (k+1) wr ∧
  Row wr (w.heap.size+1) 49 #[.int .i64 (Qo xs k),.int .u8 0,.int .u8 0,.int .u16 0,.int .i64 0,.int .i64 ((k-1:Nat):Int)]
theorem jF {w:World} {g:Nat} {t:TypeId} {a0 a1 a2 a3 a4 a5:Value}(h:Row w g t #[a0,a1,a2,a3,a4,a5])(v0 v1 v2 v3 v4 v5:Value) :
 Row ((((((w.setCell ⟨g,0,none⟩ v0).setCell ⟨g,1,none⟩ v1).setCell ⟨g,2,none⟩ v2).setCell ⟨g,3,none⟩ v3).setCell ⟨g,4,none⟩ v4).setCell ⟨g,5,none⟩ v5) g t #[v0,v1,v2,v3,v4,v5] :=
 (((((h.set 0 v0).set 1 v1).set 2 v2).set 3 v3).set 4 v4).set 5 v5
theorem After.six {w W:World} {B A C S:Nat} {ad:Option Addr} {cap:Nat} {xs:List Int} {k:Nat}(h:Fr w B A C S ad cap xs k W)(v0 v1 v2 v3 v4 v5:Value) :
 After w ((((((W.setCell ⟨w.heap.size,0,none⟩ v0).setCell ⟨w.heap.size,1,none⟩ v1).setCell ⟨w.heap.size,2,none⟩ v2).setCell ⟨w.heap.size,3,none⟩ v3).setCell ⟨w.heap.size,4,none⟩ v4).setCell ⟨w.heap.size,5,none⟩ v5) B A C S ad cap xs k:=by
 have hp:∀ i:Nat,B≤(⟨w.heap.size,i,none⟩:Addr).block∧(⟨w.heap.size,i,none⟩:Addr).block≠A∧(⟨w.heap.size,i,none⟩:Addr).block≠C∧(⟨w.heap.size,i,none⟩:Addr).block≠S:=fun i=>by
  have:=h.lt
  have:=h.rd.bA
  show B≤w.heap.size∧w.heap.size≠A∧w.heap.size≠C∧w.heap.size≠S
  omega
 exact⟨(((((h.rd.far (hp 0) v0).far (hp 1) v1).far (hp 2) v2).far (hp 3) v3).far (hp 4) v4).far (hp 5) v5,
  (((((h.bes.setCell (p:=⟨w.heap.size,0,none⟩) (.inr (.inr (Nat.le_refl _))) v0).setCell (p:=⟨w.heap.size,1,none⟩) (.inr (.inr (Nat.le_refl _))) v1).setCell (p:=⟨w.heap.size,2,none⟩) (.inr (.inr (Nat.le_refl _))) v2).setCell (p:=⟨w.heap.size,3,none⟩) (.inr (.inr (Nat.le_refl _))) v3).setCell (p:=⟨w.heap.size,4,none⟩) (.inr (.inr (Nat.le_refl _))) v4).setCell (p:=⟨w.heap.size,5,none⟩) (.inr (.inr (Nat.le_refl _))) v5⟩
theorem Q5 {w W:World} {B A C S:Nat} {ad:Option Addr} {cap:Nat} {xs:List Int}(k:Nat)(hl:xs.length≤140737488355328)(hF:Fr w B A C S ad cap xs k W)(cs:Array Value)(hr:Row W (w.heap.size+1) 49 cs) :
 Calls Tryz.prog 48 #[.pointer (some ⟨A,0,none⟩),.pointer (some ⟨C,0,none⟩),.pointer (some ⟨S,0,none⟩)] W fun e W'=>e=.returned (.int .u8 (gb xs k))∧Fr w B A C S ad cap xs (k+1) W'∧Row W' (w.heap.size+1) 49 cs :=
 (QAL B A C S ad cap xs k hl W hF.rd).mono fun e W' ⟨he,h⟩=>⟨he,hF.after h,hF.own h hr⟩
theorem QMz (xs:List Int):lenOf xs=Jh (gb xs) (lead xs) (Qo xs (lead xs))+(Jb (XJ xs).plane (XJ xs).code).toNat:=by
 have k:=qw (Jp (Qo xs (lead xs)) (gb xs (lead xs))) (QD (gb xs) (lead xs) (Qo xs (lead xs)))
 have e:(XJ xs).len=(Jh (gb xs) (lead xs) (Qo xs (lead xs)):Int)+Jb (XJ xs).plane (XJ xs).code:=rfl
 have e2:=jU xs
 have e3:(XJ xs).plane=Jp (Qo xs (lead xs)) (gb xs (lead xs)):=rfl
 have e4:(XJ xs).code=QD (gb xs) (lead xs) (Qo xs (lead xs)):=rfl
 rw[e3,e4] at e ⊢
 omega
theorem QKc (xs:List Int)(k:Nat)(hk:k=lead xs)(pp ss c q code d sk:Int)(r:Nat)(hp:Qo xs k=pp)(hs:((k-1:Nat):Int)=ss)(hc:gb xs k=c)
 (hq:Jp pp c=q)(hcode:QD (gb xs) k pp=code)(hd:Q9 (gb xs) k pp=d)(hsk:QDF pp ss c=sk)(hr:Jh (gb xs) k pp=r) :
 opV (XJ xs).plane (XJ xs).code (XJ xs).disp (XJ xs).imm 0 (XJ xs).skip=opV q code d (QZ (gb xs) r (Jb q code)) 0 sk∧lenOf xs=r+(Jb q code).toNat:=by
 subst hk hp hs hc hq hcode hd hsk hr
 exact⟨rfl,QMz xs⟩
theorem QS (q c:Int):Jb q c=0∨Jb q c=1∨Jb q c=2:=by have:=qw q c;omega
theorem QGK (xs:List Int)(k:Nat):Qo xs (k+1)=if gb xs k=221 then 3 else 4:=by
 unfold Qo
 rw[if_neg (by omega)]
 rfl
theorem QMQ (B A C S:Nat)(ad:Option Addr)(cap:Nat)(xs:List Int)(hl:xs.length≤140737488355328)(hx:Bytes8 xs)(w:World)(h:Rd w B A C S ad cap xs 0) :
 Calls Tryz.prog 49 #[rdV A C S] w fun e w'=>e=.returned (opV (XJ xs).plane (XJ xs).code (XJ xs).disp (XJ xs).imm 0 (XJ xs).skip)∧After w w' B A C S ad cap xs (lenOf xs):=by
 have r1:=Lib.hid (Row.new (w.alloc (.cells QAP 49)) 49 QAP)
 have hF:=Lib.hid (show Fr w B A C S ad cap xs 0 ((w.alloc (.cells QAP 49)).alloc (.cells QAP 49)) from
  ⟨(h.alloc _).alloc _,(Row.new w _ _).alloc _,((Besides.refl A S w).alloc _).alloc _,h.hA.lt,h.hC.lt,h.hS.lt⟩)
 rw[World.size_alloc] at r1
 clear h
 go_enter Tryz.func49,Tryz.ntmps49
 go_wp2_with fail
 refine (QAL B A C S ad cap xs 0 hl _ hF.out.rd).mono ?_
 rintro e w1 ⟨rfl,hr⟩
 have head:=Lib.hid (show QTv w B A C S ad cap xs (.int .u8 (gb xs 0)) w1 from ⟨0,Nat.zero_le _,rfl,hF.out.after hr,hF.out.own hr r1.out⟩)
 clear hr r1 hF
 go_wp2
 go_loopw [4] (fun t wr=>QTv w B A C S ad cap xs t wr) (fun _ wr=>xs.length+1-QQT A S wr)
 case atStart=>exact head.out
 case round =>
  obtain⟨k,hk,rfl,hF,r1⟩:=hrel
  clear head
  have hll:=QLp xs
  by_cases hlt:k < lead xs
  · have hp:=Lib.hid (QAT xs k hlt)
    have hm:=Lib.hid (hF.rd.reads (by omega))
    have hs:=Lib.hid (QGK xs k)
    have hx1:((gb xs k==221)=true∧(gb xs k==253)=false)∨((gb xs k==221)=false∧(gb xs k==253)=true):=by
     have:=hp.out
     unfold jQ at this
     simp only[Bool.or_eq_true,beq_iff_eq] at this
     simp only[beq_iff_eq,beq_eq_false_iff_ne]
     omega
    have hq:Hid (Qo xs (k+1)=if (gb xs k==221)=true then 3 else 4):=by
     rw[hs.out]
     by_cases e:gb xs k=221
     · rw[e];exact rfl
     · rw[if_neg e,if_neg (by simpa using e)];exact rfl
    clear hp hs
    cases k with
    | zero =>
      rw[show Qo xs 0=0 from rfl] at r1
      obtain⟨⟨c0,c1,c2,c3,c4,c5⟩,f⟩:=QC r1
      rcases hx1 with ⟨h1,h2⟩|⟨h1,h2⟩
      all_goals rw[h1] at hq
      · go_wp2_with fail
        refine (QHo _ _ _ _ _ _).mono ?_
        rintro e w2 ⟨rfl,hb2⟩
        have hF2:=hF.below hb2
        have r1':=r1.below hb2 r1.lt
        clear c0 c1 c2 c3 c4 c5 f
        obtain⟨⟨c0,c1,c2,c3,c4,c5⟩,f⟩:=QC r1'
        have hF3:=(((((((hF2.set 0 (.int .i64 0)).set 1 (.int .u8 0)).set 2 (.int .u8 0)).set 3 (.int .u16 0)).set 4 (.int .i64 0)).set 5 (.int .i64 0)).set 0 (.int .i64 3))
        have r3:=(jF r1' (.int .i64 0) (.int .u8 0) (.int .u8 0) (.int .u16 0) (.int .i64 0) (.int .i64 0)).set 0 (.int .i64 3)
        clear hF2 r1' hb2
        go_wp2_with fail
        clear c0 c1 c2 c3 c4 c5 f
        refine (Q5 (w:=w) (0+1) hl hF3 #[.int .i64 3,.int .u8 0,.int .u8 0,.int .u16 0,.int .i64 0,.int .i64 0] r3).mono ?_
        clear hF3 r3
        rintro e w3 ⟨rfl,hF3,r3⟩
        go_wp2
        go_roundw
        case rel=>exact⟨0+1,by omega,rfl,hF3,by rw[hq.out];exact r3⟩
        case measure =>
         rw[hm.out,hF3.rd.reads (by omega)]
         omega
      · go_wp2_with fail
        refine (QHo _ _ _ _ _ _).mono ?_
        rintro e w2 ⟨rfl,hb2⟩
        have hF2:=hF.below hb2
        have r1':=r1.below hb2 r1.lt
        clear c0 c1 c2 c3 c4 c5 f
        obtain⟨⟨c0,c1,c2,c3,c4,c5⟩,f⟩:=QC r1'
        have hF3:=((((((((hF2.set 0 (.int .i64 0)).set 1 (.int .u8 0)).set 2 (.int .u8 0)).set 3 (.int .u16 0)).set 4 (.int .i64 0)).set 5 (.int .i64 0)).set 0 (.int .i64 3)).set 0 (.int .i64 4))
        have r3:=((jF r1' (.int .i64 0) (.int .u8 0) (.int .u8 0) (.int .u16 0) (.int .i64 0) (.int .i64 0)).set 0 (.int .i64 3)).set 0 (.int .i64 4)
        clear hF2 r1' hb2
        go_wp2_with fail
        clear c0 c1 c2 c3 c4 c5 f
        refine (Q5 (w:=w) (0+1) hl hF3 #[.int .i64 4,.int .u8 0,.int .u8 0,.int .u16 0,.int .i64 0,.int .i64 0] r3).mono ?_
        clear hF3 r3
        rintro e w3 ⟨rfl,hF3,r3⟩
        go_wp2
        go_roundw
        case rel=>exact⟨0+1,by omega,rfl,hF3,by rw[hq.out];exact r3⟩
        case measure =>
         rw[hm.out,hF3.rd.reads (by omega)]
         omega
    | succ j =>
      rw[show ((j+1-1:Nat):Int)=(j:Int) from rfl] at r1
      have hj:(0:Int)≤(j:Int)∧(j:Int)≤4611686018427387904:=by omega
      have hq':Hid ((((j+1+1-1:Nat)):Int)=(j:Int)+1):=by show ((j+1:Nat):Int)=_;omega
      have h34:Qo xs (j+1)=3∨Qo xs (j+1)=4:=by
       rw[QGK]
       split<;>omega
      rcases h34 with h34|h34
      all_goals
       rw[h34] at r1
       clear h34
       obtain⟨⟨c0,c1,c2,c3,c4,c5⟩,f⟩:=QC r1
       rcases hx1 with ⟨h1,h2⟩|⟨h1,h2⟩
       all_goals rw[h1] at hq
      · go_wp2_with fail
        refine (zU 3 0 0 0 0 _ rfl hj _).mono ?_
        rintro e w2 ⟨rfl,hb2⟩
        have hF2:=hF.below hb2
        have r1':=r1.below hb2 r1.lt
        clear c0 c1 c2 c3 c4 c5 f
        obtain⟨⟨c0,c1,c2,c3,c4,c5⟩,f⟩:=QC r1'
        have hF3:=(((((((hF2.set 0 (.int .i64 3)).set 1 (.int .u8 0)).set 2 (.int .u8 0)).set 3 (.int .u16 0)).set 4 (.int .i64 0)).set 5 (.int .i64 ((j:Int)+1))).set 0 (.int .i64 3))
        have r3:=(jF r1' (.int .i64 3) (.int .u8 0) (.int .u8 0) (.int .u16 0) (.int .i64 0) (.int .i64 ((j:Int)+1))).set 0 (.int .i64 3)
        clear hF2 r1' hb2
        go_wp2_with fail
        clear c0 c1 c2 c3 c4 c5 f
        refine (Q5 (w:=w) (j+1+1) hl hF3 #[.int .i64 3,.int .u8 0,.int .u8 0,.int .u16 0,.int .i64 0,.int .i64 ((j:Int)+1)] r3).mono ?_
        clear hF3 r3
        rintro e w3 ⟨rfl,hF3,r3⟩
        go_wp2
        go_roundw
        case rel=>exact⟨j+1+1,by omega,rfl,hF3,by rw[hq.out,hq'.out];exact r3⟩
        case measure =>
         rw[hm.out,hF3.rd.reads (by omega)]
         omega
      · go_wp2_with fail
        refine (zU 3 0 0 0 0 _ rfl hj _).mono ?_
        rintro e w2 ⟨rfl,hb2⟩
        have hF2:=hF.below hb2
        have r1':=r1.below hb2 r1.lt
        clear c0 c1 c2 c3 c4 c5 f
        obtain⟨⟨c0,c1,c2,c3,c4,c5⟩,f⟩:=QC r1'
        have hF3:=((((((((hF2.set 0 (.int .i64 3)).set 1 (.int .u8 0)).set 2 (.int .u8 0)).set 3 (.int .u16 0)).set 4 (.int .i64 0)).set 5 (.int .i64 ((j:Int)+1))).set 0 (.int .i64 3)).set 0 (.int .i64 4))
        have r3:=((jF r1' (.int .i64 3) (.int .u8 0) (.int .u8 0) (.int .u16 0) (.int .i64 0) (.int .i64 ((j:Int)+1))).set 0 (.int .i64 3)).set 0 (.int .i64 4)
        clear hF2 r1' hb2
        go_wp2_with fail
        clear c0 c1 c2 c3 c4 c5 f
        refine (Q5 (w:=w) (j+1+1) hl hF3 #[.int .i64 4,.int .u8 0,.int .u8 0,.int .u16 0,.int .i64 0,.int .i64 ((j:Int)+1)] r3).mono ?_
        clear hF3 r3
        rintro e w3 ⟨rfl,hF3,r3⟩
        go_wp2
        go_roundw
        case rel=>exact⟨j+1+1,by omega,rfl,hF3,by rw[hq.out,hq'.out];exact r3⟩
        case measure =>
         rw[hm.out,hF3.rd.reads (by omega)]
         omega
      · go_wp2_with fail
        refine (zU 4 0 0 0 0 _ rfl hj _).mono ?_
        rintro e w2 ⟨rfl,hb2⟩
        have hF2:=hF.below hb2
        have r1':=r1.below hb2 r1.lt
        clear c0 c1 c2 c3 c4 c5 f
        obtain⟨⟨c0,c1,c2,c3,c4,c5⟩,f⟩:=QC r1'
        have hF3:=(((((((hF2.set 0 (.int .i64 4)).set 1 (.int .u8 0)).set 2 (.int .u8 0)).set 3 (.int .u16 0)).set 4 (.int .i64 0)).set 5 (.int .i64 ((j:Int)+1))).set 0 (.int .i64 3))
        have r3:=(jF r1' (.int .i64 4) (.int .u8 0) (.int .u8 0) (.int .u16 0) (.int .i64 0) (.int .i64 ((j:Int)+1))).set 0 (.int .i64 3)
        clear hF2 r1' hb2
        go_wp2_with fail
        clear c0 c1 c2 c3 c4 c5 f
        refine (Q5 (w:=w) (j+1+1) hl hF3 #[.int .i64 3,.int .u8 0,.int .u8 0,.int .u16 0,.int .i64 0,.int .i64 ((j:Int)+1)] r3).mono ?_
        clear hF3 r3
        rintro e w3 ⟨rfl,hF3,r3⟩
        go_wp2
        go_roundw
        case rel=>exact⟨j+1+1,by omega,rfl,hF3,by rw[hq.out,hq'.out];exact r3⟩
        case measure =>
         rw[hm.out,hF3.rd.reads (by omega)]
         omega
      · go_wp2_with fail
        refine (zU 4 0 0 0 0 _ rfl hj _).mono ?_
        rintro e w2 ⟨rfl,hb2⟩
        have hF2:=hF.below hb2
        have r1':=r1.below hb2 r1.lt
        clear c0 c1 c2 c3 c4 c5 f
        obtain⟨⟨c0,c1,c2,c3,c4,c5⟩,f⟩:=QC r1'
        have hF3:=((((((((hF2.set 0 (.int .i64 4)).set 1 (.int .u8 0)).set 2 (.int .u8 0)).set 3 (.int .u16 0)).set 4 (.int .i64 0)).set 5 (.int .i64 ((j:Int)+1))).set 0 (.int .i64 3)).set 0 (.int .i64 4))
        have r3:=((jF r1' (.int .i64 4) (.int .u8 0) (.int .u8 0) (.int .u16 0) (.int .i64 0) (.int .i64 ((j:Int)+1))).set 0 (.int .i64 3)).set 0 (.int .i64 4)
        clear hF2 r1' hb2
        go_wp2_with fail
        clear c0 c1 c2 c3 c4 c5 f
        refine (Q5 (w:=w) (j+1+1) hl hF3 #[.int .i64 4,.int .u8 0,.int .u8 0,.int .u16 0,.int .i64 0,.int .i64 ((j:Int)+1)] r3).mono ?_
        clear hF3 r3
        rintro e w3 ⟨rfl,hF3,r3⟩
        go_wp2
        go_roundw
        case rel=>exact⟨j+1+1,by omega,rfl,hF3,by rw[hq.out,hq'.out];exact r3⟩
        case measure =>
         rw[hm.out,hF3.rd.reads (by omega)]
         omega
  · obtain rfl:k=lead xs:=by omega
    have he:=QCG xs
    have n1:(gb xs (lead xs)==221)=false:=by unfold jQ at he;simp only[Bool.or_eq_false_iff] at he;exact he.1
    have n2:(gb xs (lead xs)==253)=false:=by unfold jQ at he;simp only[Bool.or_eq_false_iff] at he;exact he.2
    have hk:=Lib.hid (QKc xs (lead xs) rfl)
    have hbig:(((lead xs-1:Nat)):Int)≤140737488355328:=by omega
    clear he hlt hll
    generalize hss:((lead xs-1:Nat):Int)=ss at *
    have hss0:0≤ss:=by omega
    have hbyte:=Lib.hid (fun i=>QB9 hx i)
    have h034:Qo xs (lead xs)=0∨Qo xs (lead xs)=3∨Qo xs (lead xs)=4:=by
     unfold Qo
     split
     · omega
     · split<;>omega
    rcases h034 with h034|h034|h034
    · rw[h034] at r1
      obtain⟨⟨c0,c1,c2,c3,c4,c5⟩,f⟩:=QC r1
      by_cases e203:gb xs (lead xs)=203
      · have fin0:=Lib.hid (hk.out 0 ss (gb xs (lead xs)) 1 (gb xs (lead xs+1)) (0) (ss) (lead xs+2) h034 rfl rfl (by rw[e203];rfl) (by unfold QD;rw[e203];rfl) (by unfold Q9;rw[e203];rfl) (by rw[e203];rfl) (by unfold Jh;rw[e203];rfl))
        have n3:(gb xs (lead xs)==203)=true:=by rw[e203];rfl
        clear e203
        have hwi:=Lib.hid (show ∀ W,Calls Tryz.prog 76 #[.int .i64 0] W fun e w'=>e=.returned (.int .i64 1)∧W=w' from QBd 0)
        have hah:=Lib.hid (show ∀ W,Calls Tryz.prog 77 #[.int .i64 1] W fun e w'=>e=.returned (.bool false)∧W=w' from QA1 1)
        have hF2:=hF.set 0 (.int .i64 1)
        have r2:=r1.set 0 (.int .i64 1)
        go_wp2_with (first
         | (go_at_call 76;refine (hwi.out _).mono ?_;rintro e w' ⟨rfl,rfl⟩)
         | (go_at_call 77;refine (hah.out _).mono ?_;rintro e w' ⟨rfl,rfl⟩))
        clear hwi hah
        clear c0 c1 c2 c3 c4 c5 f
        refine (Q5 (w:=w) (lead xs+1) hl hF2 #[.int .i64 1,.int .u8 0,.int .u8 0,.int .u16 0,.int .i64 0,.int .i64 ss] r2).mono ?_
        rintro e w3 ⟨rfl,hF3,r3⟩
        clear hF2 r2
        obtain⟨⟨c0,c1,c2,c3,c4,c5⟩,f⟩:=QC r3
        have hF4:=hF3.set 1 (.int .u8 (gb xs (lead xs+1)))
        have r4:=r3.set 1 (.int .u8 (gb xs (lead xs+1)))
        clear hF3 r3
        go_wp2_with fail
        clear c0 c1 c2 c3 c4 c5 f
        refine (Xa 1 (gb xs (lead xs+1)) (hbyte.out (lead xs+1)) _).mono ?_
        rintro e w5 ⟨rfl,hb5⟩
        have hF5:=hF4.below hb5
        have r5:=r4.below hb5 r4.lt
        obtain⟨⟨c0,c1,c2,c3,c4,c5⟩,f⟩:=QC r5
        clear hF4 r4 hb5
        go_wp2_with fail
        clear c0 c1 c2 c3 c4 c5 f
        refine (Ql (Jb 1 (gb xs (lead xs+1))) (QS _ _) B A C S ad cap xs (lead xs+2) hl hx _ hF5.rd).mono ?_
        rintro e w6 ⟨rfl,hr6⟩
        have hF6:=hF5.after hr6
        have r6:=hF5.own hr6 r5
        have rr:=hF6.row
        have fin:=Lib.hid (After.six (hF6.set 3 (.int .u16 (QZ (gb xs) (lead xs+2) (Jb 1 (gb xs (lead xs+1)))))) (.int .i64 1) (.int .u8 (gb xs (lead xs+1))) (.int .u8 (0)) (.int .u16 (QZ (gb xs) (lead xs+2) (Jb 1 (gb xs (lead xs+1))))) (.int .i64 0) (.int .i64 (ss)))
        clear hF5 r5 hr6 hF6
        obtain⟨⟨c0,c1,c2,c3,c4,c5⟩,f⟩:=QC r6
        obtain⟨⟨d0,d1,d2,d3,d4,d5⟩,g⟩:=QC rr
        clear r6 rr
        go_wp2
        refine bodyPost_ret (v:=opV 1 (gb xs (lead xs+1)) (0) (QZ (gb xs) (lead xs+2) (Jb 1 (gb xs (lead xs+1)))) 0 (ss)) (by simp[results,Tryz.f49,go_sem,c0,c1,c2,c3,c4,c5,d0,d1,d2,d3,d4,d5]) rfl ?_
        rw[fin0.out.1,fin0.out.2]
        exact⟨rfl,fin.out⟩
      · by_cases e237:gb xs (lead xs)=237
        · have fin0:=Lib.hid (hk.out 0 ss (gb xs (lead xs)) 2 (gb xs (lead xs+1)) (0) (ss) (lead xs+2) h034 rfl rfl (by rw[e237];rfl) (by unfold QD;rw[e237];rfl) (by unfold Q9;rw[e237];rfl) (by rw[e237];rfl) (by unfold Jh;rw[e237];rfl))
          have n3:(gb xs (lead xs)==203)=false:=by rw[e237];rfl
          have n4:(gb xs (lead xs)==237)=true:=by rw[e237];rfl
          clear e203 e237
          have hsb:0≤ss∧ss≤4611686018427387904:=by omega
          go_wp2_with fail
          refine (QHo _ _ _ _ _ _).mono ?_
          rintro e w2 ⟨rfl,hb2⟩
          have hF2:=hF.below hb2
          have r2:=r1.below hb2 r1.lt
          clear c0 c1 c2 c3 c4 c5 f
          obtain⟨⟨c0,c1,c2,c3,c4,c5⟩,f⟩:=QC r2
          have hF3:=((((((hF2.set 0 (.int .i64 0)).set 1 (.int .u8 0)).set 2 (.int .u8 0)).set 3 (.int .u16 0)).set 4 (.int .i64 0)).set 5 (.int .i64 (ss)))
          have r3:=jF r2 (.int .i64 0) (.int .u8 0) (.int .u8 0) (.int .u16 0) (.int .i64 0) (.int .i64 (ss))
          clear hF2 r2 hb2
          go_wp2_with fail
          clear c0 c1 c2 c3 c4 c5 f
          refine (Q5 (w:=w) (lead xs+1) hl hF3 #[.int .i64 0,.int .u8 0,.int .u8 0,.int .u16 0,.int .i64 0,.int .i64 (ss)] r3).mono ?_
          rintro e w4 ⟨rfl,hF4,r4⟩
          clear hF3 r3
          obtain⟨⟨c0,c1,c2,c3,c4,c5⟩,f⟩:=QC r4
          have hF5:=(hF4.set 0 (.int .i64 2)).set 1 (.int .u8 (gb xs (lead xs+1)))
          have r5:=(r4.set 0 (.int .i64 2)).set 1 (.int .u8 (gb xs (lead xs+1)))
          clear hF4 r4
          have hF4:=hF5
          have r4:=r5
          clear hF5 r5
          go_wp2_with fail
          clear c0 c1 c2 c3 c4 c5 f
          refine (Xa 2 (gb xs (lead xs+1)) (hbyte.out (lead xs+1)) _).mono ?_
          rintro e w5 ⟨rfl,hb5⟩
          have hF5:=hF4.below hb5
          have r5:=r4.below hb5 r4.lt
          obtain⟨⟨c0,c1,c2,c3,c4,c5⟩,f⟩:=QC r5
          clear hF4 r4 hb5
          go_wp2_with fail
          clear c0 c1 c2 c3 c4 c5 f
          refine (Ql (Jb 2 (gb xs (lead xs+1))) (QS _ _) B A C S ad cap xs (lead xs+2) hl hx _ hF5.rd).mono ?_
          rintro e w6 ⟨rfl,hr6⟩
          have hF6:=hF5.after hr6
          have r6:=hF5.own hr6 r5
          have rr:=hF6.row
          have fin:=Lib.hid (After.six (hF6.set 3 (.int .u16 (QZ (gb xs) (lead xs+2) (Jb 2 (gb xs (lead xs+1)))))) (.int .i64 2) (.int .u8 (gb xs (lead xs+1))) (.int .u8 (0)) (.int .u16 (QZ (gb xs) (lead xs+2) (Jb 2 (gb xs (lead xs+1))))) (.int .i64 0) (.int .i64 (ss)))
          clear hF5 r5 hr6 hF6
          obtain⟨⟨c0,c1,c2,c3,c4,c5⟩,f⟩:=QC r6
          obtain⟨⟨d0,d1,d2,d3,d4,d5⟩,g⟩:=QC rr
          clear r6 rr
          go_wp2
          refine bodyPost_ret (v:=opV 2 (gb xs (lead xs+1)) (0) (QZ (gb xs) (lead xs+2) (Jb 2 (gb xs (lead xs+1)))) 0 (ss)) (by simp[results,Tryz.f49,go_sem,c0,c1,c2,c3,c4,c5,d0,d1,d2,d3,d4,d5]) rfl ?_
          rw[fin0.out.1,fin0.out.2]
          exact⟨rfl,fin.out⟩
        · have hPl:Jp 0 (gb xs (lead xs))=0:=by unfold Jp;rw[if_neg e203,if_neg e237]
          have hN:JP 0 (gb xs (lead xs))=false:=rfl
          have fin0:=Lib.hid (hk.out 0 ss (gb xs (lead xs)) 0 (gb xs (lead xs)) (0) (ss) (lead xs+1) h034 rfl rfl hPl (by unfold QD;rw[hPl,if_neg (by decide),if_neg (by omega)]) (by unfold Q9;rw[hPl,if_neg (by decide),if_neg (by omega),hN];rfl) (by unfold QDF;rw[if_neg (by omega)]) (by unfold Jh;rw[hPl,if_neg (by decide),if_neg (by omega),hN];rfl))
          have n3:(gb xs (lead xs)==203)=false:=by simpa using e203
          have n4:(gb xs (lead xs)==237)=false:=by simpa using e237
          clear e203 e237 hPl
          have hne:=Lib.hid (show ∀ W,Calls Tryz.prog 78 #[.int .i64 0,.int .u8 (gb xs (lead xs))] W fun e w'=>e=.returned (.bool false)∧W=w' from fun W=>hN▸Zy 0 (gb xs (lead xs)) (hbyte.out (lead xs)) W)
          clear hN
          have hF2:=hF.set 1 (.int .u8 (gb xs (lead xs)))
          have r2:=r1.set 1 (.int .u8 (gb xs (lead xs)))
          go_wp2_with (first
           | (go_at_call 78;refine (hne.out _).mono ?_;rintro e w' ⟨rfl,rfl⟩))
          clear hne
          have hF4:=hF2
          have r4:=r2
          clear hF2 r2
          clear c0 c1 c2 c3 c4 c5 f
          refine (Xa 0 (gb xs (lead xs)) (hbyte.out (lead xs)) _).mono ?_
          rintro e w5 ⟨rfl,hb5⟩
          have hF5:=hF4.below hb5
          have r5:=r4.below hb5 r4.lt
          obtain⟨⟨c0,c1,c2,c3,c4,c5⟩,f⟩:=QC r5
          clear hF4 r4 hb5
          go_wp2_with fail
          clear c0 c1 c2 c3 c4 c5 f
          refine (Ql (Jb 0 (gb xs (lead xs))) (QS _ _) B A C S ad cap xs (lead xs+1) hl hx _ hF5.rd).mono ?_
          rintro e w6 ⟨rfl,hr6⟩
          have hF6:=hF5.after hr6
          have r6:=hF5.own hr6 r5
          have rr:=hF6.row
          have fin:=Lib.hid (After.six (hF6.set 3 (.int .u16 (QZ (gb xs) (lead xs+1) (Jb 0 (gb xs (lead xs)))))) (.int .i64 0) (.int .u8 (gb xs (lead xs))) (.int .u8 (0)) (.int .u16 (QZ (gb xs) (lead xs+1) (Jb 0 (gb xs (lead xs))))) (.int .i64 0) (.int .i64 (ss)))
          clear hF5 r5 hr6 hF6
          obtain⟨⟨c0,c1,c2,c3,c4,c5⟩,f⟩:=QC r6
          obtain⟨⟨d0,d1,d2,d3,d4,d5⟩,g⟩:=QC rr
          clear r6 rr
          go_wp2
          refine bodyPost_ret (v:=opV 0 (gb xs (lead xs)) (0) (QZ (gb xs) (lead xs+1) (Jb 0 (gb xs (lead xs)))) 0 (ss)) (by simp[results,Tryz.f49,go_sem,c0,c1,c2,c3,c4,c5,d0,d1,d2,d3,d4,d5]) rfl ?_
          rw[fin0.out.1,fin0.out.2]
          exact⟨rfl,fin.out⟩
    · rw[h034] at r1
      obtain⟨⟨c0,c1,c2,c3,c4,c5⟩,f⟩:=QC r1
      by_cases e203:gb xs (lead xs)=203
      · have fin0:=Lib.hid (hk.out 3 ss (gb xs (lead xs)) 5 (gb xs (lead xs+2)) (gb xs (lead xs+1)) (ss) (lead xs+3) h034 rfl rfl (by rw[e203];rfl) (by unfold QD;rw[e203];rfl) (by unfold Q9;rw[e203];rfl) (by rw[e203];rfl) (by unfold Jh;rw[e203];rfl))
        have n3:(gb xs (lead xs)==203)=true:=by rw[e203];rfl
        clear e203
        have hwi:=Lib.hid (show ∀ W,Calls Tryz.prog 76 #[.int .i64 3] W fun e w'=>e=.returned (.int .i64 5)∧W=w' from QBd 3)
        have hah:=Lib.hid (show ∀ W,Calls Tryz.prog 77 #[.int .i64 5] W fun e w'=>e=.returned (.bool true)∧W=w' from QA1 5)
        have hF2:=hF.set 0 (.int .i64 5)
        have r2:=r1.set 0 (.int .i64 5)
        go_wp2_with (first
         | (go_at_call 76;refine (hwi.out _).mono ?_;rintro e w' ⟨rfl,rfl⟩)
         | (go_at_call 77;refine (hah.out _).mono ?_;rintro e w' ⟨rfl,rfl⟩))
        clear hwi hah
        clear c0 c1 c2 c3 c4 c5 f
        refine (Q5 (w:=w) (lead xs+1) hl hF2 #[.int .i64 5,.int .u8 0,.int .u8 0,.int .u16 0,.int .i64 0,.int .i64 ss] r2).mono ?_
        rintro e w3 ⟨rfl,hF3,r3⟩
        clear hF2 r2
        obtain⟨⟨c0,c1,c2,c3,c4,c5⟩,f⟩:=QC r3
        have hFa:=hF3.set 2 (.int .u8 (gb xs (lead xs+1)))
        have ra:=r3.set 2 (.int .u8 (gb xs (lead xs+1)))
        clear hF3 r3
        go_wp2_with fail
        clear c0 c1 c2 c3 c4 c5 f
        refine (Q5 (w:=w) (lead xs+2) hl hFa #[.int .i64 5,.int .u8 0,.int .u8 (gb xs (lead xs+1)),.int .u16 0,.int .i64 0,.int .i64 ss] ra).mono ?_
        rintro e w5 ⟨rfl,hF5,r5⟩
        clear hFa ra
        obtain⟨⟨c0,c1,c2,c3,c4,c5⟩,f⟩:=QC r5
        have hF4:=hF5.set 1 (.int .u8 (gb xs (lead xs+2)))
        have r4:=r5.set 1 (.int .u8 (gb xs (lead xs+2)))
        clear hF5 r5
        go_wp2_with fail
        clear c0 c1 c2 c3 c4 c5 f
        refine (Xa 5 (gb xs (lead xs+2)) (hbyte.out (lead xs+2)) _).mono ?_
        rintro e w5 ⟨rfl,hb5⟩
        have hF5:=hF4.below hb5
        have r5:=r4.below hb5 r4.lt
        obtain⟨⟨c0,c1,c2,c3,c4,c5⟩,f⟩:=QC r5
        clear hF4 r4 hb5
        go_wp2_with fail
        clear c0 c1 c2 c3 c4 c5 f
        refine (Ql (Jb 5 (gb xs (lead xs+2))) (QS _ _) B A C S ad cap xs (lead xs+3) hl hx _ hF5.rd).mono ?_
        rintro e w6 ⟨rfl,hr6⟩
        have hF6:=hF5.after hr6
        have r6:=hF5.own hr6 r5
        have rr:=hF6.row
        have fin:=Lib.hid (After.six (hF6.set 3 (.int .u16 (QZ (gb xs) (lead xs+3) (Jb 5 (gb xs (lead xs+2)))))) (.int .i64 5) (.int .u8 (gb xs (lead xs+2))) (.int .u8 (gb xs (lead xs+1))) (.int .u16 (QZ (gb xs) (lead xs+3) (Jb 5 (gb xs (lead xs+2))))) (.int .i64 0) (.int .i64 (ss)))
        clear hF5 r5 hr6 hF6
        obtain⟨⟨c0,c1,c2,c3,c4,c5⟩,f⟩:=QC r6
        obtain⟨⟨d0,d1,d2,d3,d4,d5⟩,g⟩:=QC rr
        clear r6 rr
        go_wp2
        refine bodyPost_ret (v:=opV 5 (gb xs (lead xs+2)) (gb xs (lead xs+1)) (QZ (gb xs) (lead xs+3) (Jb 5 (gb xs (lead xs+2)))) 0 (ss)) (by simp[results,Tryz.f49,go_sem,c0,c1,c2,c3,c4,c5,d0,d1,d2,d3,d4,d5]) rfl ?_
        rw[fin0.out.1,fin0.out.2]
        exact⟨rfl,fin.out⟩
      · by_cases e237:gb xs (lead xs)=237
        · have fin0:=Lib.hid (hk.out 3 ss (gb xs (lead xs)) 2 (gb xs (lead xs+1)) (0) (ss+1) (lead xs+2) h034 rfl rfl (by rw[e237];rfl) (by unfold QD;rw[e237];rfl) (by unfold Q9;rw[e237];rfl) (by rw[e237];rfl) (by unfold Jh;rw[e237];rfl))
          have n3:(gb xs (lead xs)==203)=false:=by rw[e237];rfl
          have n4:(gb xs (lead xs)==237)=true:=by rw[e237];rfl
          clear e203 e237
          have hsb:0≤ss∧ss≤4611686018427387904:=by omega
          go_wp2_with fail
          refine (zU 3 0 0 0 0 _ rfl hsb _).mono ?_
          rintro e w2 ⟨rfl,hb2⟩
          have hF2:=hF.below hb2
          have r2:=r1.below hb2 r1.lt
          clear c0 c1 c2 c3 c4 c5 f
          obtain⟨⟨c0,c1,c2,c3,c4,c5⟩,f⟩:=QC r2
          have hF3:=((((((hF2.set 0 (.int .i64 3)).set 1 (.int .u8 0)).set 2 (.int .u8 0)).set 3 (.int .u16 0)).set 4 (.int .i64 0)).set 5 (.int .i64 (ss+1)))
          have r3:=jF r2 (.int .i64 3) (.int .u8 0) (.int .u8 0) (.int .u16 0) (.int .i64 0) (.int .i64 (ss+1))
          clear hF2 r2 hb2
          go_wp2_with fail
          clear c0 c1 c2 c3 c4 c5 f
          refine (Q5 (w:=w) (lead xs+1) hl hF3 #[.int .i64 3,.int .u8 0,.int .u8 0,.int .u16 0,.int .i64 0,.int .i64 (ss+1)] r3).mono ?_
          rintro e w4 ⟨rfl,hF4,r4⟩
          clear hF3 r3
          obtain⟨⟨c0,c1,c2,c3,c4,c5⟩,f⟩:=QC r4
          have hF5:=(hF4.set 0 (.int .i64 2)).set 1 (.int .u8 (gb xs (lead xs+1)))
          have r5:=(r4.set 0 (.int .i64 2)).set 1 (.int .u8 (gb xs (lead xs+1)))
          clear hF4 r4
          have hF4:=hF5
          have r4:=r5
          clear hF5 r5
          go_wp2_with fail
          clear c0 c1 c2 c3 c4 c5 f
          refine (Xa 2 (gb xs (lead xs+1)) (hbyte.out (lead xs+1)) _).mono ?_
          rintro e w5 ⟨rfl,hb5⟩
          have hF5:=hF4.below hb5
          have r5:=r4.below hb5 r4.lt
          obtain⟨⟨c0,c1,c2,c3,c4,c5⟩,f⟩:=QC r5
          clear hF4 r4 hb5
          go_wp2_with fail
          clear c0 c1 c2 c3 c4 c5 f
          refine (Ql (Jb 2 (gb xs (lead xs+1))) (QS _ _) B A C S ad cap xs (lead xs+2) hl hx _ hF5.rd).mono ?_
          rintro e w6 ⟨rfl,hr6⟩
          have hF6:=hF5.after hr6
          have r6:=hF5.own hr6 r5
          have rr:=hF6.row
          have fin:=Lib.hid (After.six (hF6.set 3 (.int .u16 (QZ (gb xs) (lead xs+2) (Jb 2 (gb xs (lead xs+1)))))) (.int .i64 2) (.int .u8 (gb xs (lead xs+1))) (.int .u8 (0)) (.int .u16 (QZ (gb xs) (lead xs+2) (Jb 2 (gb xs (lead xs+1))))) (.int .i64 0) (.int .i64 (ss+1)))
          clear hF5 r5 hr6 hF6
          obtain⟨⟨c0,c1,c2,c3,c4,c5⟩,f⟩:=QC r6
          obtain⟨⟨d0,d1,d2,d3,d4,d5⟩,g⟩:=QC rr
          clear r6 rr
          go_wp2
          refine bodyPost_ret (v:=opV 2 (gb xs (lead xs+1)) (0) (QZ (gb xs) (lead xs+2) (Jb 2 (gb xs (lead xs+1)))) 0 (ss+1)) (by simp[results,Tryz.f49,go_sem,c0,c1,c2,c3,c4,c5,d0,d1,d2,d3,d4,d5]) rfl ?_
          rw[fin0.out.1,fin0.out.2]
          exact⟨rfl,fin.out⟩
        · cases hN:JP 3 (gb xs (lead xs))
          · have hPl:Jp 3 (gb xs (lead xs))=3:=by unfold Jp;rw[if_neg e203,if_neg e237]
            have fin0:=Lib.hid (hk.out 3 ss (gb xs (lead xs)) 3 (gb xs (lead xs)) (0) (ss) (lead xs+1) h034 rfl rfl hPl (by unfold QD;rw[hPl,if_neg (by decide),if_neg (by omega)]) (by unfold Q9;rw[hPl,if_neg (by decide),if_neg (by omega),hN];rfl) (by unfold QDF;rw[if_neg (by omega)]) (by unfold Jh;rw[hPl,if_neg (by decide),if_neg (by omega),hN];rfl))
            have n3:(gb xs (lead xs)==203)=false:=by simpa using e203
            have n4:(gb xs (lead xs)==237)=false:=by simpa using e237
            clear e203 e237 hPl
            have hne:=Lib.hid (show ∀ W,Calls Tryz.prog 78 #[.int .i64 3,.int .u8 (gb xs (lead xs))] W fun e w'=>e=.returned (.bool false)∧W=w' from fun W=>hN▸Zy 3 (gb xs (lead xs)) (hbyte.out (lead xs)) W)
            clear hN
            have hF2:=hF.set 1 (.int .u8 (gb xs (lead xs)))
            have r2:=r1.set 1 (.int .u8 (gb xs (lead xs)))
            go_wp2_with (first
             | (go_at_call 78;refine (hne.out _).mono ?_;rintro e w' ⟨rfl,rfl⟩))
            clear hne
            have hF4:=hF2
            have r4:=r2
            clear hF2 r2
            clear c0 c1 c2 c3 c4 c5 f
            refine (Xa 3 (gb xs (lead xs)) (hbyte.out (lead xs)) _).mono ?_
            rintro e w5 ⟨rfl,hb5⟩
            have hF5:=hF4.below hb5
            have r5:=r4.below hb5 r4.lt
            obtain⟨⟨c0,c1,c2,c3,c4,c5⟩,f⟩:=QC r5
            clear hF4 r4 hb5
            go_wp2_with fail
            clear c0 c1 c2 c3 c4 c5 f
            refine (Ql (Jb 3 (gb xs (lead xs))) (QS _ _) B A C S ad cap xs (lead xs+1) hl hx _ hF5.rd).mono ?_
            rintro e w6 ⟨rfl,hr6⟩
            have hF6:=hF5.after hr6
            have r6:=hF5.own hr6 r5
            have rr:=hF6.row
            have fin:=Lib.hid (After.six (hF6.set 3 (.int .u16 (QZ (gb xs) (lead xs+1) (Jb 3 (gb xs (lead xs)))))) (.int .i64 3) (.int .u8 (gb xs (lead xs))) (.int .u8 (0)) (.int .u16 (QZ (gb xs) (lead xs+1) (Jb 3 (gb xs (lead xs))))) (.int .i64 0) (.int .i64 (ss)))
            clear hF5 r5 hr6 hF6
            obtain⟨⟨c0,c1,c2,c3,c4,c5⟩,f⟩:=QC r6
            obtain⟨⟨d0,d1,d2,d3,d4,d5⟩,g⟩:=QC rr
            clear r6 rr
            go_wp2
            refine bodyPost_ret (v:=opV 3 (gb xs (lead xs)) (0) (QZ (gb xs) (lead xs+1) (Jb 3 (gb xs (lead xs)))) 0 (ss)) (by simp[results,Tryz.f49,go_sem,c0,c1,c2,c3,c4,c5,d0,d1,d2,d3,d4,d5]) rfl ?_
            rw[fin0.out.1,fin0.out.2]
            exact⟨rfl,fin.out⟩
          · have hPl:Jp 3 (gb xs (lead xs))=3:=by unfold Jp;rw[if_neg e203,if_neg e237]
            have fin0:=Lib.hid (hk.out 3 ss (gb xs (lead xs)) 3 (gb xs (lead xs)) (gb xs (lead xs+1)) (ss) (lead xs+2) h034 rfl rfl hPl (by unfold QD;rw[hPl,if_neg (by decide),if_neg (by omega)]) (by unfold Q9;rw[hPl,if_neg (by decide),if_neg (by omega),hN];rfl) (by unfold QDF;rw[if_neg (by omega)]) (by unfold Jh;rw[hPl,if_neg (by decide),if_neg (by omega),hN];rfl))
            have n3:(gb xs (lead xs)==203)=false:=by simpa using e203
            have n4:(gb xs (lead xs)==237)=false:=by simpa using e237
            clear e203 e237 hPl
            have hne:=Lib.hid (show ∀ W,Calls Tryz.prog 78 #[.int .i64 3,.int .u8 (gb xs (lead xs))] W fun e w'=>e=.returned (.bool true)∧W=w' from fun W=>hN▸Zy 3 (gb xs (lead xs)) (hbyte.out (lead xs)) W)
            clear hN
            have hF2:=hF.set 1 (.int .u8 (gb xs (lead xs)))
            have r2:=r1.set 1 (.int .u8 (gb xs (lead xs)))
            go_wp2_with (first
             | (go_at_call 78;refine (hne.out _).mono ?_;rintro e w' ⟨rfl,rfl⟩))
            clear hne
            clear c0 c1 c2 c3 c4 c5 f
            refine (Q5 (w:=w) (lead xs+1) hl hF2 #[.int .i64 3,.int .u8 (gb xs (lead xs)),.int .u8 0,.int .u16 0,.int .i64 0,.int .i64 ss] r2).mono ?_
            rintro e w3 ⟨rfl,hF3,r3⟩
            clear hF2 r2
            obtain⟨⟨c0,c1,c2,c3,c4,c5⟩,f⟩:=QC r3
            have hF4:=hF3.set 2 (.int .u8 (gb xs (lead xs+1)))
            have r4:=r3.set 2 (.int .u8 (gb xs (lead xs+1)))
            clear hF3 r3
            go_wp2_with fail
            clear c0 c1 c2 c3 c4 c5 f
            refine (Xa 3 (gb xs (lead xs)) (hbyte.out (lead xs)) _).mono ?_
            rintro e w5 ⟨rfl,hb5⟩
            have hF5:=hF4.below hb5
            have r5:=r4.below hb5 r4.lt
            obtain⟨⟨c0,c1,c2,c3,c4,c5⟩,f⟩:=QC r5
            clear hF4 r4 hb5
            go_wp2_with fail
            clear c0 c1 c2 c3 c4 c5 f
            refine (Ql (Jb 3 (gb xs (lead xs))) (QS _ _) B A C S ad cap xs (lead xs+2) hl hx _ hF5.rd).mono ?_
            rintro e w6 ⟨rfl,hr6⟩
            have hF6:=hF5.after hr6
            have r6:=hF5.own hr6 r5
            have rr:=hF6.row
            have fin:=Lib.hid (After.six (hF6.set 3 (.int .u16 (QZ (gb xs) (lead xs+2) (Jb 3 (gb xs (lead xs)))))) (.int .i64 3) (.int .u8 (gb xs (lead xs))) (.int .u8 (gb xs (lead xs+1))) (.int .u16 (QZ (gb xs) (lead xs+2) (Jb 3 (gb xs (lead xs))))) (.int .i64 0) (.int .i64 (ss)))
            clear hF5 r5 hr6 hF6
            obtain⟨⟨c0,c1,c2,c3,c4,c5⟩,f⟩:=QC r6
            obtain⟨⟨d0,d1,d2,d3,d4,d5⟩,g⟩:=QC rr
            clear r6 rr
            go_wp2
            refine bodyPost_ret (v:=opV 3 (gb xs (lead xs)) (gb xs (lead xs+1)) (QZ (gb xs) (lead xs+2) (Jb 3 (gb xs (lead xs)))) 0 (ss)) (by simp[results,Tryz.f49,go_sem,c0,c1,c2,c3,c4,c5,d0,d1,d2,d3,d4,d5]) rfl ?_
            rw[fin0.out.1,fin0.out.2]
            exact⟨rfl,fin.out⟩
    · rw[h034] at r1
      obtain⟨⟨c0,c1,c2,c3,c4,c5⟩,f⟩:=QC r1
      by_cases e203:gb xs (lead xs)=203
      · have fin0:=Lib.hid (hk.out 4 ss (gb xs (lead xs)) 6 (gb xs (lead xs+2)) (gb xs (lead xs+1)) (ss) (lead xs+3) h034 rfl rfl (by rw[e203];rfl) (by unfold QD;rw[e203];rfl) (by unfold Q9;rw[e203];rfl) (by rw[e203];rfl) (by unfold Jh;rw[e203];rfl))
        have n3:(gb xs (lead xs)==203)=true:=by rw[e203];rfl
        clear e203
        have hwi:=Lib.hid (show ∀ W,Calls Tryz.prog 76 #[.int .i64 4] W fun e w'=>e=.returned (.int .i64 6)∧W=w' from QBd 4)
        have hah:=Lib.hid (show ∀ W,Calls Tryz.prog 77 #[.int .i64 6] W fun e w'=>e=.returned (.bool true)∧W=w' from QA1 6)
        have hF2:=hF.set 0 (.int .i64 6)
        have r2:=r1.set 0 (.int .i64 6)
        go_wp2_with (first
         | (go_at_call 76;refine (hwi.out _).mono ?_;rintro e w' ⟨rfl,rfl⟩)
         | (go_at_call 77;refine (hah.out _).mono ?_;rintro e w' ⟨rfl,rfl⟩))
        clear hwi hah
        clear c0 c1 c2 c3 c4 c5 f
        refine (Q5 (w:=w) (lead xs+1) hl hF2 #[.int .i64 6,.int .u8 0,.int .u8 0,.int .u16 0,.int .i64 0,.int .i64 ss] r2).mono ?_
        rintro e w3 ⟨rfl,hF3,r3⟩
        clear hF2 r2
        obtain⟨⟨c0,c1,c2,c3,c4,c5⟩,f⟩:=QC r3
        have hFa:=hF3.set 2 (.int .u8 (gb xs (lead xs+1)))
        have ra:=r3.set 2 (.int .u8 (gb xs (lead xs+1)))
        clear hF3 r3
        go_wp2_with fail
        clear c0 c1 c2 c3 c4 c5 f
        refine (Q5 (w:=w) (lead xs+2) hl hFa #[.int .i64 6,.int .u8 0,.int .u8 (gb xs (lead xs+1)),.int .u16 0,.int .i64 0,.int .i64 ss] ra).mono ?_
        rintro e w5 ⟨rfl,hF5,r5⟩
        clear hFa ra
        obtain⟨⟨c0,c1,c2,c3,c4,c5⟩,f⟩:=QC r5
        have hF4:=hF5.set 1 (.int .u8 (gb xs (lead xs+2)))
        have r4:=r5.set 1 (.int .u8 (gb xs (lead xs+2)))
        clear hF5 r5
        go_wp2_with fail
        clear c0 c1 c2 c3 c4 c5 f
        refine (Xa 6 (gb xs (lead xs+2)) (hbyte.out (lead xs+2)) _).mono ?_
        rintro e w5 ⟨rfl,hb5⟩
        have hF5:=hF4.below hb5
        have r5:=r4.below hb5 r4.lt
        obtain⟨⟨c0,c1,c2,c3,c4,c5⟩,f⟩:=QC r5
        clear hF4 r4 hb5
        go_wp2_with fail
        clear c0 c1 c2 c3 c4 c5 f
        refine (Ql (Jb 6 (gb xs (lead xs+2))) (QS _ _) B A C S ad cap xs (lead xs+3) hl hx _ hF5.rd).mono ?_
        rintro e w6 ⟨rfl,hr6⟩
        have hF6:=hF5.after hr6
        have r6:=hF5.own hr6 r5
        have rr:=hF6.row
        have fin:=Lib.hid (After.six (hF6.set 3 (.int .u16 (QZ (gb xs) (lead xs+3) (Jb 6 (gb xs (lead xs+2)))))) (.int .i64 6) (.int .u8 (gb xs (lead xs+2))) (.int .u8 (gb xs (lead xs+1))) (.int .u16 (QZ (gb xs) (lead xs+3) (Jb 6 (gb xs (lead xs+2))))) (.int .i64 0) (.int .i64 (ss)))
        clear hF5 r5 hr6 hF6
        obtain⟨⟨c0,c1,c2,c3,c4,c5⟩,f⟩:=QC r6
        obtain⟨⟨d0,d1,d2,d3,d4,d5⟩,g⟩:=QC rr
        clear r6 rr
        go_wp2
        refine bodyPost_ret (v:=opV 6 (gb xs (lead xs+2)) (gb xs (lead xs+1)) (QZ (gb xs) (lead xs+3) (Jb 6 (gb xs (lead xs+2)))) 0 (ss)) (by simp[results,Tryz.f49,go_sem,c0,c1,c2,c3,c4,c5,d0,d1,d2,d3,d4,d5]) rfl ?_
        rw[fin0.out.1,fin0.out.2]
        exact⟨rfl,fin.out⟩
      · by_cases e237:gb xs (lead xs)=237
        · have fin0:=Lib.hid (hk.out 4 ss (gb xs (lead xs)) 2 (gb xs (lead xs+1)) (0) (ss+1) (lead xs+2) h034 rfl rfl (by rw[e237];rfl) (by unfold QD;rw[e237];rfl) (by unfold Q9;rw[e237];rfl) (by rw[e237];rfl) (by unfold Jh;rw[e237];rfl))
          have n3:(gb xs (lead xs)==203)=false:=by rw[e237];rfl
          have n4:(gb xs (lead xs)==237)=true:=by rw[e237];rfl
          clear e203 e237
          have hsb:0≤ss∧ss≤4611686018427387904:=by omega
          go_wp2_with fail
          refine (zU 4 0 0 0 0 _ rfl hsb _).mono ?_
          rintro e w2 ⟨rfl,hb2⟩
          have hF2:=hF.below hb2
          have r2:=r1.below hb2 r1.lt
          clear c0 c1 c2 c3 c4 c5 f
          obtain⟨⟨c0,c1,c2,c3,c4,c5⟩,f⟩:=QC r2
          have hF3:=((((((hF2.set 0 (.int .i64 4)).set 1 (.int .u8 0)).set 2 (.int .u8 0)).set 3 (.int .u16 0)).set 4 (.int .i64 0)).set 5 (.int .i64 (ss+1)))
          have r3:=jF r2 (.int .i64 4) (.int .u8 0) (.int .u8 0) (.int .u16 0) (.int .i64 0) (.int .i64 (ss+1))
          clear hF2 r2 hb2
          go_wp2_with fail
          clear c0 c1 c2 c3 c4 c5 f
          refine (Q5 (w:=w) (lead xs+1) hl hF3 #[.int .i64 4,.int .u8 0,.int .u8 0,.int .u16 0,.int .i64 0,.int .i64 (ss+1)] r3).mono ?_
          rintro e w4 ⟨rfl,hF4,r4⟩
          clear hF3 r3
          obtain⟨⟨c0,c1,c2,c3,c4,c5⟩,f⟩:=QC r4
          have hF5:=(hF4.set 0 (.int .i64 2)).set 1 (.int .u8 (gb xs (lead xs+1)))
          have r5:=(r4.set 0 (.int .i64 2)).set 1 (.int .u8 (gb xs (lead xs+1)))
          clear hF4 r4
          have hF4:=hF5
          have r4:=r5
          clear hF5 r5
          go_wp2_with fail
          clear c0 c1 c2 c3 c4 c5 f
          refine (Xa 2 (gb xs (lead xs+1)) (hbyte.out (lead xs+1)) _).mono ?_
          rintro e w5 ⟨rfl,hb5⟩
          have hF5:=hF4.below hb5
          have r5:=r4.below hb5 r4.lt
          obtain⟨⟨c0,c1,c2,c3,c4,c5⟩,f⟩:=QC r5
          clear hF4 r4 hb5
          go_wp2_with fail
          clear c0 c1 c2 c3 c4 c5 f
          refine (Ql (Jb 2 (gb xs (lead xs+1))) (QS _ _) B A C S ad cap xs (lead xs+2) hl hx _ hF5.rd).mono ?_
          rintro e w6 ⟨rfl,hr6⟩
          have hF6:=hF5.after hr6
          have r6:=hF5.own hr6 r5
          have rr:=hF6.row
          have fin:=Lib.hid (After.six (hF6.set 3 (.int .u16 (QZ (gb xs) (lead xs+2) (Jb 2 (gb xs (lead xs+1)))))) (.int .i64 2) (.int .u8 (gb xs (lead xs+1))) (.int .u8 (0)) (.int .u16 (QZ (gb xs) (lead xs+2) (Jb 2 (gb xs (lead xs+1))))) (.int .i64 0) (.int .i64 (ss+1)))
          clear hF5 r5 hr6 hF6
          obtain⟨⟨c0,c1,c2,c3,c4,c5⟩,f⟩:=QC r6
          obtain⟨⟨d0,d1,d2,d3,d4,d5⟩,g⟩:=QC rr
          clear r6 rr
          go_wp2
          refine bodyPost_ret (v:=opV 2 (gb xs (lead xs+1)) (0) (QZ (gb xs) (lead xs+2) (Jb 2 (gb xs (lead xs+1)))) 0 (ss+1)) (by simp[results,Tryz.f49,go_sem,c0,c1,c2,c3,c4,c5,d0,d1,d2,d3,d4,d5]) rfl ?_
          rw[fin0.out.1,fin0.out.2]
          exact⟨rfl,fin.out⟩
        · cases hN:JP 4 (gb xs (lead xs))
          · have hPl:Jp 4 (gb xs (lead xs))=4:=by unfold Jp;rw[if_neg e203,if_neg e237]
            have fin0:=Lib.hid (hk.out 4 ss (gb xs (lead xs)) 4 (gb xs (lead xs)) (0) (ss) (lead xs+1) h034 rfl rfl hPl (by unfold QD;rw[hPl,if_neg (by decide),if_neg (by omega)]) (by unfold Q9;rw[hPl,if_neg (by decide),if_neg (by omega),hN];rfl) (by unfold QDF;rw[if_neg (by omega)]) (by unfold Jh;rw[hPl,if_neg (by decide),if_neg (by omega),hN];rfl))
            have n3:(gb xs (lead xs)==203)=false:=by simpa using e203
            have n4:(gb xs (lead xs)==237)=false:=by simpa using e237
            clear e203 e237 hPl
            have hne:=Lib.hid (show ∀ W,Calls Tryz.prog 78 #[.int .i64 4,.int .u8 (gb xs (lead xs))] W fun e w'=>e=.returned (.bool false)∧W=w' from fun W=>hN▸Zy 4 (gb xs (lead xs)) (hbyte.out (lead xs)) W)
            clear hN
            have hF2:=hF.set 1 (.int .u8 (gb xs (lead xs)))
            have r2:=r1.set 1 (.int .u8 (gb xs (lead xs)))
            go_wp2_with (first
             | (go_at_call 78;refine (hne.out _).mono ?_;rintro e w' ⟨rfl,rfl⟩))
            clear hne
            have hF4:=hF2
            have r4:=r2
            clear hF2 r2
            clear c0 c1 c2 c3 c4 c5 f
            refine (Xa 4 (gb xs (lead xs)) (hbyte.out (lead xs)) _).mono ?_
            rintro e w5 ⟨rfl,hb5⟩
            have hF5:=hF4.below hb5
            have r5:=r4.below hb5 r4.lt
            obtain⟨⟨c0,c1,c2,c3,c4,c5⟩,f⟩:=QC r5
            clear hF4 r4 hb5
            go_wp2_with fail
            clear c0 c1 c2 c3 c4 c5 f
            refine (Ql (Jb 4 (gb xs (lead xs))) (QS _ _) B A C S ad cap xs (lead xs+1) hl hx _ hF5.rd).mono ?_
            rintro e w6 ⟨rfl,hr6⟩
            have hF6:=hF5.after hr6
            have r6:=hF5.own hr6 r5
            have rr:=hF6.row
            have fin:=Lib.hid (After.six (hF6.set 3 (.int .u16 (QZ (gb xs) (lead xs+1) (Jb 4 (gb xs (lead xs)))))) (.int .i64 4) (.int .u8 (gb xs (lead xs))) (.int .u8 (0)) (.int .u16 (QZ (gb xs) (lead xs+1) (Jb 4 (gb xs (lead xs))))) (.int .i64 0) (.int .i64 (ss)))
            clear hF5 r5 hr6 hF6
            obtain⟨⟨c0,c1,c2,c3,c4,c5⟩,f⟩:=QC r6
            obtain⟨⟨d0,d1,d2,d3,d4,d5⟩,g⟩:=QC rr
            clear r6 rr
            go_wp2
            refine bodyPost_ret (v:=opV 4 (gb xs (lead xs)) (0) (QZ (gb xs) (lead xs+1) (Jb 4 (gb xs (lead xs)))) 0 (ss)) (by simp[results,Tryz.f49,go_sem,c0,c1,c2,c3,c4,c5,d0,d1,d2,d3,d4,d5]) rfl ?_
            rw[fin0.out.1,fin0.out.2]
            exact⟨rfl,fin.out⟩
          · have hPl:Jp 4 (gb xs (lead xs))=4:=by unfold Jp;rw[if_neg e203,if_neg e237]
            have fin0:=Lib.hid (hk.out 4 ss (gb xs (lead xs)) 4 (gb xs (lead xs)) (gb xs (lead xs+1)) (ss) (lead xs+2) h034 rfl rfl hPl (by unfold QD;rw[hPl,if_neg (by decide),if_neg (by omega)]) (by unfold Q9;rw[hPl,if_neg (by decide),if_neg (by omega),hN];rfl) (by unfold QDF;rw[if_neg (by omega)]) (by unfold Jh;rw[hPl,if_neg (by decide),if_neg (by omega),hN];rfl))
            have n3:(gb xs (lead xs)==203)=false:=by simpa using e203
            have n4:(gb xs (lead xs)==237)=false:=by simpa using e237
            clear e203 e237 hPl
            have hne:=Lib.hid (show ∀ W,Calls Tryz.prog 78 #[.int .i64 4,.int .u8 (gb xs (lead xs))] W fun e w'=>e=.returned (.bool true)∧W=w' from fun W=>hN▸Zy 4 (gb xs (lead xs)) (hbyte.out (lead xs)) W)
            clear hN
            have hF2:=hF.set 1 (.int .u8 (gb xs (lead xs)))
            have r2:=r1.set 1 (.int .u8 (gb xs (lead xs)))
            go_wp2_with (first
             | (go_at_call 78;refine (hne.out _).mono ?_;rintro e w' ⟨rfl,rfl⟩))
            clear hne
            clear c0 c1 c2 c3 c4 c5 f
            refine (Q5 (w:=w) (lead xs+1) hl hF2 #[.int .i64 4,.int .u8 (gb xs (lead xs)),.int .u8 0,.int .u16 0,.int .i64 0,.int .i64 ss] r2).mono ?_
            rintro e w3 ⟨rfl,hF3,r3⟩
            clear hF2 r2
            obtain⟨⟨c0,c1,c2,c3,c4,c5⟩,f⟩:=QC r3
            have hF4:=hF3.set 2 (.int .u8 (gb xs (lead xs+1)))
            have r4:=r3.set 2 (.int .u8 (gb xs (lead xs+1)))
            clear hF3 r3
            go_wp2_with fail
            clear c0 c1 c2 c3 c4 c5 f
            refine (Xa 4 (gb xs (lead xs)) (hbyte.out (lead xs)) _).mono ?_
            rintro e w5 ⟨rfl,hb5⟩
            have hF5:=hF4.below hb5
            have r5:=r4.below hb5 r4.lt
            obtain⟨⟨c0,c1,c2,c3,c4,c5⟩,f⟩:=QC r5
            clear hF4 r4 hb5
            go_wp2_with fail
            clear c0 c1 c2 c3 c4 c5 f
            refine (Ql (Jb 4 (gb xs (lead xs))) (QS _ _) B A C S ad cap xs (lead xs+2) hl hx _ hF5.rd).mono ?_
            rintro e w6 ⟨rfl,hr6⟩
            have hF6:=hF5.after hr6
            have r6:=hF5.own hr6 r5
            have rr:=hF6.row
            have fin:=Lib.hid (After.six (hF6.set 3 (.int .u16 (QZ (gb xs) (lead xs+2) (Jb 4 (gb xs (lead xs)))))) (.int .i64 4) (.int .u8 (gb xs (lead xs))) (.int .u8 (gb xs (lead xs+1))) (.int .u16 (QZ (gb xs) (lead xs+2) (Jb 4 (gb xs (lead xs))))) (.int .i64 0) (.int .i64 (ss)))
            clear hF5 r5 hr6 hF6
            obtain⟨⟨c0,c1,c2,c3,c4,c5⟩,f⟩:=QC r6
            obtain⟨⟨d0,d1,d2,d3,d4,d5⟩,g⟩:=QC rr
            clear r6 rr
            go_wp2
            refine bodyPost_ret (v:=opV 4 (gb xs (lead xs)) (gb xs (lead xs+1)) (QZ (gb xs) (lead xs+2) (Jb 4 (gb xs (lead xs)))) 0 (ss)) (by simp[results,Tryz.f49,go_sem,c0,c1,c2,c3,c4,c5,d0,d1,d2,d3,d4,d5]) rfl ?_
            rw[fin0.out.1,fin0.out.2]
            exact⟨rfl,fin.out⟩
end Go.Proofs.YtmgcgiecimnncaaGreatDoor
