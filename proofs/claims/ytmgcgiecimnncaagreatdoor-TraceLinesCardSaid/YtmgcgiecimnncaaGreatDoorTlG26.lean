/- Contracts and facts that the claim's proof wants (several texts in one). -/
import Derived.Lib.Join
import Derived.Lib.ItoaLen
import Derived.Shelf.Strings.OnBuilder
import Derived.Test.YtmgcgiecimnncaaGreatDoorTlG22
import Derived.Test.YtmgcgiecimnncaaGreatDoorTlG25
namespace Go.Proofs.YtmgcgiecimnncaaGreatDoor
open Go.RowKit
set_option linter.unusedVariables false
set_option linter.unusedSimpArgs false
set_option maxRecDepth 20000
set_option maxHeartbeats 20000000
theorem QIa (pl c d m le sk:Int)(w:World) :
 Calls Tryz.prog 60 #[nmV pl c d m le sk] w fun e w'=>e=.returned (QAH pl c d m le sk)∧w'=w.alloc (.cells #[.int .i64 pl,.int .u8 c,.int .u8 d,.int .u16 m,.int .i64 le,.int .i64 sk] 101):=by
 unfold QAH
 by_cases h:pl=3∨pl=4
 · rw[if_pos h]
   rcases h with rfl|rfl
   all_goals
    go_enter Tryz.func60,Tryz.ntmps60
    go_wp2
    go_ret
    exact⟨rfl,rfl⟩
 · rw[if_neg h]
   simp only[not_or] at h
   have e3:(pl==3)=false:=by simpa using h.1
   have e4:(pl==4)=false:=by simpa using h.2
   clear h
   go_enter Tryz.func60,Tryz.ntmps60
   go_wp2
   go_ret
   exact⟨rfl,rfl⟩
theorem QNH (pl c d m le sk:Int):∃ fn,QAH pl c d m le sk=.func (.func fn) #[nmV pl c d m le sk] #[]:=by
 unfold QAH
 split
 · exact⟨_,rfl⟩
 · exact⟨_,rfl⟩
theorem QUP {w:World} {g:Nat} {t:TypeId} {v0 v1 v2 v3 v4 v5 v6 v7 v8 v9 v10 v11:Value}(h:Row w g t #[v0,v1,v2,v3,v4,v5,v6,v7,v8,v9,v10,v11]) :
 (w.cell? ⟨g,0,none⟩=some v0∧w.cell? ⟨g,1,none⟩=some v1∧w.cell? ⟨g,2,none⟩=some v2∧w.cell? ⟨g,3,none⟩=some v3∧w.cell? ⟨g,4,none⟩=some v4∧w.cell? ⟨g,5,none⟩=some v5∧w.cell? ⟨g,6,none⟩=some v6∧w.cell? ⟨g,7,none⟩=some v7∧w.cell? ⟨g,8,none⟩=some v8∧w.cell? ⟨g,9,none⟩=some v9∧w.cell? ⟨g,10,none⟩=some v10∧w.cell? ⟨g,11,none⟩=some v11)∧∀ i,w.frozen? ⟨g,i,none⟩=false :=
 ⟨⟨h.cell 0,h.cell 1,h.cell 2,h.cell 3,h.cell 4,h.cell 5,h.cell 6,h.cell 7,h.cell 8,h.cell 9,h.cell 10,h.cell 11⟩,h.frozen⟩
theorem QTF (W:World)(o:Obj)(t:TypeId)(cs:Array Value):Row ((W.alloc o).alloc (.cells cs t)).drew (W.heap.size+1) t cs:=by
 have:=Row.new (W.alloc o) t cs
 rwa [World.size_alloc] at this
theorem QOB (W:World)(o:Obj)(t:TypeId)(cs:Array Value):Row ((W.alloc (.cells cs t)).alloc o).drew W.heap.size t cs :=
 (Row.new W t cs).alloc o
theorem cell_of {w:World} {p:Addr} {a b:Option Value}(h:w.cell? p=a)(e:a=b):w.cell? p=b:=h.trans e
theorem fp_b (c:Int)(hc:B8 c):0≤fp c∧fp c≤3:=by obtain⟨h0,h1⟩:=hc;unfold fp;omega
theorem fq_b (c:Int)(hc:B8 c):0≤fq c∧fq c≤1:=by obtain⟨h0,h1⟩:=hc;unfold fq;omega
theorem QOx:∀ (p:Fin 7) (c:Fin 256),((X2 (p.val:Int) (fx (c.val:Int)) (fy (c.val:Int)) (fz (c.val:Int)) (fp (c.val:Int)) (fq (c.val:Int))).all (fun k=>decide (k < 256))&&decide ((X2 (p.val:Int) (fx (c.val:Int)) (fy (c.val:Int)) (fz (c.val:Int)) (fp (c.val:Int)) (fq (c.val:Int))).length≤16))=true:=by decide +kernel
theorem QMl (pl c:Int)(hc:B8 c):(∀ k∈X2 pl (fx c) (fy c) (fz c) (fp c) (fq c),k < 256)∧(X2 pl (fx c) (fy c) (fz c) (fp c) (fq c)).length≤16:=by
 by_cases h:0≤pl∧pl≤6
 · have e:((X2 pl (fx c) (fy c) (fz c) (fp c) (fq c)).all (fun k=>decide (k < 256))&&decide ((X2 pl (fx c) (fy c) (fz c) (fp c) (fq c)).length≤16))=true:=by
    refine Ji (P:=fun c=>((X2 pl (fx c) (fy c) (fz c) (fp c) (fq c)).all (fun k=>decide (k < 256))&&decide ((X2 pl (fx c) (fy c) (fz c) (fp c) (fq c)).length≤16))=true) (fun x=>?_) c hc.1 hc.2
    have:=QOx ⟨pl.toNat,by omega⟩ x
    rwa [show ((⟨pl.toNat,by omega⟩:Fin 7).val:Int)=pl by show (pl.toNat:Int)=pl;omega] at this
   rw[Bool.and_eq_true] at e
   exact⟨fun k hk=>by simpa using List.all_eq_true.1 e.1 k hk,by simpa using e.2⟩
 · have e:X2 pl (fx c) (fy c) (fz c) (fp c) (fq c)=[63]:=by unfold X2;rw[if_neg (by omega),if_neg (by omega),if_neg (by omega),if_neg (by omega)]
   rw[e]
   exact⟨by decide,by decide⟩
theorem QK4 (pl c:Int):filled pl (JP pl c) (fy c) (fz c) (fp c) (X2 pl (fx c) (fy c) (fz c) (fp c) (fq c)) (X2 pl (fx c) (fy c) (fz c) (fp c) (fq c)).length=j6 pl c:=by
 unfold filled j6
 rw[List.take_length]
theorem QNg (pl c d m le sk:Int)(hc:B8 c)(hd:B8 d)(hm:0≤m∧m≤65535)(w:World)(h:TextTabs w) :
 Calls Tryz.prog 32 #[opV pl c d m le sk] w fun e w'=>e=.returned (.string (sy pl d m (j6 pl c)))∧Below w.heap.size w w':=by
 have bx:=QKN c hc
 have bY:=QKI c hc
 have bz:=QK0 c hc
 have kc:=Lib.hid (fun W=>QIa pl c d m le sk W)
 have kf:=Lib.hid (fun W=>zb c hc W)
 have fK:=QNH pl c d m le sk
 obtain⟨fn,hfn⟩:=fK
 have bp:=fp_b c hc
 have bq:=fq_b c hc
 have hF:=QMl pl c hc
 have kform:=Lib.hid (fun W (hW:Below w.heap.size w W)=>QNJ pl c d m le sk (fx c) (fy c) (fz c) (fp c) (fq c) (.func (.func fn) #[nmV pl c d m le sk] #[]) W (h.below hW) bx bY bz bp bq)
 have kfill:∀ W,Below w.heap.size w W→_:=(fun W (hW:Below w.heap.size w W)=>QOy pl c d m le sk (fx c) (fy c) (fz c) (fp c) (fq c) hc hd hm bY bz bp (X2 pl (fx c) (fy c) (fz c) (fp c) (fq c)) hF.1 hF.2 W (h.below hW))
 rw[hfn,QK4 pl c] at kfill
 have kfill:=Lib.hid kfill
 clear h hc hd hm
 have kc:=kc.out
 rw[hfn] at kc
 have kc:=Lib.hid kc
 have HFN:=Lib.hid hfn
 clear hfn
 have hR0:=Row.new w 49 #[.int .i64 pl,.int .u8 c,.int .u8 d,.int .u16 m,.int .i64 le,.int .i64 sk]
 have hlt0:=hR0.lt
 have hs:(w.alloc (.cells #[.int .i64 pl,.int .u8 c,.int .u8 d,.int .u16 m,.int .i64 le,.int .i64 sk] 49)).cell? ⟨w.heap.size,0,none⟩=some (.int .i64 pl)∧(w.alloc (.cells #[.int .i64 pl,.int .u8 c,.int .u8 d,.int .u16 m,.int .i64 le,.int .i64 sk] 49)).cell? ⟨w.heap.size,1,none⟩=some (.int .u8 c)∧(w.alloc (.cells #[.int .i64 pl,.int .u8 c,.int .u8 d,.int .u16 m,.int .i64 le,.int .i64 sk] 49)).cell? ⟨w.heap.size,2,none⟩=some (.int .u8 d)∧(w.alloc (.cells #[.int .i64 pl,.int .u8 c,.int .u8 d,.int .u16 m,.int .i64 le,.int .i64 sk] 49)).cell? ⟨w.heap.size,3,none⟩=some (.int .u16 m)∧(w.alloc (.cells #[.int .i64 pl,.int .u8 c,.int .u8 d,.int .u16 m,.int .i64 le,.int .i64 sk] 49)).cell? ⟨w.heap.size,4,none⟩=some (.int .i64 le)∧(w.alloc (.cells #[.int .i64 pl,.int .u8 c,.int .u8 d,.int .u16 m,.int .i64 le,.int .i64 sk] 49)).cell? ⟨w.heap.size,5,none⟩=some (.int .i64 sk):=⟨hR0.cell 0,hR0.cell 1,hR0.cell 2,hR0.cell 3,hR0.cell 4,hR0.cell 5⟩
 have hB0:Below w.heap.size w (w.alloc (.cells #[.int .i64 pl,.int .u8 c,.int .u8 d,.int .u16 m,.int .i64 le,.int .i64 sk] 49)):=(Below.refl _ w).alloc (Nat.le_refl _) _
 have hsz0:w.heap.size < (w.alloc (.cells #[.int .i64 pl,.int .u8 c,.int .u8 d,.int .u16 m,.int .i64 le,.int .i64 sk] 49)).heap.size:=hlt0
 have HR0:=Lib.hid hR0
 have HB0:=Lib.hid hB0
 clear hR0 hB0 hlt0
 go_enter Tryz.func32,Tryz.ntmps32
 go_upto_region 1 with fail
 generalize (w.alloc (.cells #[.int .i64 pl,.int .u8 c,.int .u8 d,.int .u16 m,.int .i64 le,.int .i64 sk] 49))=W at *
 go_cut [3] (fun s3 wx=>∃ g:Nat,s3=.pointer (some ⟨g,0,none⟩)∧w.heap.size < g∧Row wx g 104 (shC pl c d m le sk 0 0 0 0 0 (.func (.func fn) #[nmV pl c d m le sk] #[]))∧Row wx w.heap.size 49 #[.int .i64 pl,.int .u8 c,.int .u8 d,.int .u16 m,.int .i64 le,.int .i64 sk]∧Below w.heap.size w wx)
 case first =>
  have x0:=World.new_ne W _ hs.1
  have x1:=World.new_ne W _ hs.2.1
  have x2:=World.new_ne W _ hs.2.2.1
  have x3:=World.new_ne W _ hs.2.2.2.1
  have x4:=World.new_ne W _ hs.2.2.2.2.1
  have x5:=World.new_ne W _ hs.2.2.2.2.2
  go_region_held3 (fun w'=>w'.cell? ⟨w.heap.size,0,none⟩=some (.int .i64 pl)∧w'.cell? ⟨w.heap.size,1,none⟩=some (.int .u8 c)∧w'.cell? ⟨w.heap.size,2,none⟩=some (.int .u8 d)∧w'.cell? ⟨w.heap.size,3,none⟩=some (.int .u16 m)∧w'.cell? ⟨w.heap.size,4,none⟩=some (.int .i64 le)∧w'.cell? ⟨w.heap.size,5,none⟩=some (.int .i64 sk)) (go_keep)
   (first
   | (go_at_call 60;refine (kc.out _).mono ?_;rintro e w1 ⟨rfl,rfl⟩))
  · go_wp2_with fail
    go_meet
    exact⟨_,rfl,by omega,QTF W _ _ _,(HR0.out.alloc _).alloc _,((HB0.out.alloc HB0.out.size _).alloc (by have:=HB0.out.size;simp;omega) _).drew⟩
  · go_wp2_with fail
    go_meet
    exact⟨_,rfl,by omega,QOB W _ _ _,(HR0.out.alloc _).alloc _,((HB0.out.alloc HB0.out.size _).alloc (by have:=HB0.out.size;simp;omega) _).drew⟩
 case rest =>
  obtain⟨g,rfl,hg,hRg,hRo,hB⟩:=hcut
  obtain⟨⟨g0,g1,g2,g3,g4,g5,g6,g7,g8,g9,g10,g11⟩,gf⟩:=QUP hRg
  have o1:=cell_of (hRo.cell 1) rfl
  have HRg:=Lib.hid hRg
  have HRo:=Lib.hid hRo
  have HB:=Lib.hid hB
  clear hRg hRo hB hs
  go_upto_region 3 with (first
   | (go_at_call 61;refine (kf.out _).mono ?_;rintro e w' ⟨rfl,rfl⟩))
  have hV:Row (((((wc.setCell ⟨g,6,none⟩ (.int .i64 (fx c))).setCell ⟨g,7,none⟩ (.int .i64 (fy c))).setCell ⟨g,8,none⟩ (.int .i64 (fz c))).setCell ⟨g,9,none⟩ (.int .i64 (fp c))).setCell ⟨g,10,none⟩ (.int .i64 (fq c))) g 104 (shC pl c d m le sk (fx c) (fy c) (fz c) (fp c) (fq c) (.func (.func fn) #[nmV pl c d m le sk] #[])):=((((HRg.out.set 6 _).set 7 _).set 8 _).set 9 _).set 10 _
  have hVB:Below w.heap.size w (((((wc.setCell ⟨g,6,none⟩ (.int .i64 (fx c))).setCell ⟨g,7,none⟩ (.int .i64 (fy c))).setCell ⟨g,8,none⟩ (.int .i64 (fz c))).setCell ⟨g,9,none⟩ (.int .i64 (fp c))).setCell ⟨g,10,none⟩ (.int .i64 (fq c))) :=
   ((((HB.out.setCell (p:=⟨g,6,none⟩) (Nat.le_of_lt hg) _).setCell (p:=⟨g,7,none⟩) (Nat.le_of_lt hg) _).setCell (p:=⟨g,8,none⟩) (Nat.le_of_lt hg) _).setCell (p:=⟨g,9,none⟩) (Nat.le_of_lt hg) _).setCell (p:=⟨g,10,none⟩) (Nat.le_of_lt hg) _
  generalize (((((wc.setCell ⟨g,6,none⟩ (.int .i64 (fx c))).setCell ⟨g,7,none⟩ (.int .i64 (fy c))).setCell ⟨g,8,none⟩ (.int .i64 (fz c))).setCell ⟨g,9,none⟩ (.int .i64 (fp c))).setCell ⟨g,10,none⟩ (.int .i64 (fq c)))=V at *
  have gV:=hV.lt
  have gV2:g < V.drew.heap.size:=gV
  obtain⟨hs12,-⟩:=QUP hV
  have HVB:=Lib.hid hVB
  clear hV hVB HRg HRo HB g0 g1 g2 g3 g4 g5 g6 g7 g8 g9 g10 g11 gf o1 hg HR0 HB0
  have kform:=kform.out
  have kfill:=kfill.out
  clear kf
  generalize hR:sy pl d m (j6 pl c)=R at *
  have HR:=Lib.hid hR
  clear hR
  generalize X2 pl (fx c) (fy c) (fz c) (fp c) (fq c)=F at *
  generalize fx c=X at *
  generalize fy c=Y at *
  generalize fz c=Z at *
  generalize fp c=P at *
  generalize fq c=Q at *
  have kform:=Lib.hid kform
  have kfill:=Lib.hid kfill
  go_region_held3 (fun V'=>V'.cell? ⟨g,0,none⟩=some (.int .i64 pl)∧V'.cell? ⟨g,1,none⟩=some (.int .u8 c)∧V'.cell? ⟨g,2,none⟩=some (.int .u8 d)∧V'.cell? ⟨g,3,none⟩=some (.int .u16 m)∧V'.cell? ⟨g,4,none⟩=some (.int .i64 le)∧V'.cell? ⟨g,5,none⟩=some (.int .i64 sk)∧V'.cell? ⟨g,6,none⟩=some (.int .i64 X)∧V'.cell? ⟨g,7,none⟩=some (.int .i64 Y)∧V'.cell? ⟨g,8,none⟩=some (.int .i64 Z)∧V'.cell? ⟨g,9,none⟩=some (.int .i64 P)∧V'.cell? ⟨g,10,none⟩=some (.int .i64 Q)∧V'.cell? ⟨g,11,none⟩=some (.func (.func fn) #[nmV pl c d m le sk] #[])) (first|with_reducible assumption|with_reducible exact Box12.keep (Below.drew (Below.refl _ _)) gV (by with_reducible assumption)|with_reducible exact Box12.keep hb (by first|exact gV2|exact hsz) (by with_reducible assumption))
   (first
   | (go_at_call 63;refine (kform.out _ HVB.out.drew).mono ?_;rintro e w1 ⟨rfl,hb⟩;have hsz:g < w1.heap.size:=Nat.lt_of_lt_of_le gV hb.size;have HW1:=Lib.hid (HVB.out.drew.trans (hb.mono HVB.out.size)))
   | (go_at_call 62;refine (kfill.out _ HW1.out).mono ?_;rintro e w2 ⟨rfl,hb⟩))
  go_wp2
  go_ret
  exact⟨Qa HR.out.symm,HW1.out.trans (hb.mono HW1.out.size)⟩
def zI (g:Rg):List (List UInt8) :=
 [[97,102,61]++QBC g.af,[98,99,61]++QBC g.bc,[100,101,61]++QBC g.de,[104,108,61]++QBC g.hl,[105,120,61]++QBC g.ix,[105,121,61]++QBC g.iy,[115,112,61]++QBC g.sp,[112,99,61]++QBC g.pc,
  [105,61]++QEw g.i,[114,61]++QEw g.r,[105,109]++Lib.itoa g.mode]++(if g.iff1 then [[105,102,102,49]] else [])++(if g.iff2 then [[105,102,102,50]] else [])++(if g.halted then [[104,97,108,116]] else [])
def jp (g:Rg):List UInt8:=Lib.join (zI g) [32]
structure NumTabs (w:World):Prop where
 pow:Lib.TabIs Tryz.prog w "internal/strconv.uint64pow10" .u64 Lib.pow10Tab
 bru:w.cell? ⟨23,15,none⟩=some (.int .u8 4)
theorem NumTabs.below {w w':World}(h:NumTabs w)(k:Below w.heap.size w w'):NumTabs w' :=
 ⟨Jq h.pow k,cell_kept h.bru k⟩
def Jt (n:Int):ByteArray:=⟨(QBC n).toArray⟩
def Xt (n:Int):ByteArray:=⟨(QEw n).toArray⟩
def ql (n:Int):ByteArray:=⟨(Lib.itoa n).toArray⟩
theorem ZD (n:Int):(Jt n).size=5:=rfl
theorem jN (n:Int):(Xt n).size=3:=rfl
theorem qt (n:Int)(h:-9223372036854775808≤n∧n≤9223372036854775807):(ql n).size≤21:=by
 show (Lib.itoa n).toArray.size≤21
 have:=Lib.itoa_length_le n h.1 h.2
 simpa using this
theorem QGI (n:Int)(h:Wd16 n)(w:World)(ht:NumTabs w) :
 Calls Tryz.prog 16 #[.int .i64 n,.int .i64 4] w fun e w'=>e=.returned (.string (Jt n))∧Below w.heap.size w w':=by
 have k:=QCo n 4 h.1 h.2 (by omega) (by omega) w ht.bru
 rw[QT0 n h.1 h.2] at k
 exact k
theorem QGA (n:Int)(h:B8 n)(w:World)(ht:NumTabs w) :
 Calls Tryz.prog 16 #[.int .i64 n,.int .i64 2] w fun e w'=>e=.returned (.string (Xt n))∧Below w.heap.size w w':=by
 have k:=QCo n 2 h.1 (by have:=h.2;omega) (by omega) (by omega) w ht.bru
 rw[QUE n h.1 h.2] at k
 exact k
theorem QF6 (n:Int)(h:-9223372036854775808≤n∧n≤9223372036854775807)(w:World)(ht:NumTabs w) :
 Calls Tryz.prog 26 #[.int .i64 n] w fun e w'=>e=.returned (.string (ql n))∧Below w.heap.size w w':=by
 refine (Sh.strconv_Itoa n h.1 h.2 w ht.pow).mono ?_
 rintro e w' ⟨rfl,k,os,rfl⟩
 exact⟨rfl,QEk w k os⟩
theorem QNY (n:Int)(h:Wd16 n)(w:World)(ht:NumTabs w) :
 Calls Tryz.prog 33 #[.int .u16 n] w fun e w'=>e=.returned (.string (Jt n))∧Below w.heap.size w w':=by
 have k:=Lib.hid (QGI n h w ht)
 obtain⟨h0,h1⟩:=h
 go_enter Tryz.func33,Tryz.ntmps33
 go_wp2_with (first
  | (go_at_call 16;refine (k.out).mono ?_;rintro e w' ⟨rfl,hb⟩;have hsz:=hb.size))
 go_ret
 exact⟨rfl,(by repeat (first|exact Below.refl _ _|assumption|refine JF ?_ (by assumption)|refine Below.drew ?_|refine Below.alloc ?_ (by first|(simp;done)|(simp;omega)|omega) _|refine Below.setCell ?_ (by first|(simp;done)|(simp;omega)|omega) _))⟩
section
open Go.Shelf Go.RowKit
def Sh.lays156_ren:Go.Shelf.Ren:=⟨fun|156=>34|165=>56|166=>57|169=>59|240=>92|241=>93|276=>114|277=>115|n=>n,fun|0=>0|3=>3|4=>4|5=>5|9=>9|20=>20|31=>42|37=>26|70=>89|72=>91|75=>94|76=>95|80=>98|127=>131|164=>148|n=>n,fun|n=>n⟩
theorem Sh.lays156:Go.Proofs.Lays.n156 Tryz.prog Sh.lays156_ren:={
 mixed:=by kernel_rfl
 f156:=Tryz.func34.trans (congrArg some (by kernel_rfl))
 f165:=Tryz.func56.trans (congrArg some (by kernel_rfl))
 f166:=Tryz.func57.trans (congrArg some (by kernel_rfl))
 f169:=Tryz.func59.trans (congrArg some (by kernel_rfl))
 f240:=Tryz.func92.trans (congrArg some (by kernel_rfl))
 f241:=Tryz.func93.trans (congrArg some (by kernel_rfl))
 f276:=Tryz.func114.trans (congrArg some (by kernel_rfl))
 f277:=Tryz.func115.trans (congrArg some (by kernel_rfl))
 t0:=Tryz.underlying0
 a0:=Tryz.isAgg0
 z0:=Tryz.sizeOf0
 v0:=Tryz.zeroValue0
 t3:=Tryz.underlying3
 a3:=Tryz.isAgg3
 z3:=Tryz.sizeOf3
 v3:=Tryz.zeroValue3
 t4:=Tryz.underlying4
 a4:=Tryz.isAgg4
 z4:=Tryz.sizeOf4
 v4:=Tryz.zeroValue4
 t9:=Tryz.underlying9
 a9:=Tryz.isAgg9
 z9:=Tryz.sizeOf9
 v9:=Tryz.zeroValue9
 t20:=Tryz.underlying20
 a20:=Tryz.isAgg20
 z20:=Tryz.sizeOf20
 v20:=Tryz.zeroValue20
 t31:=Tryz.underlying42
 a31:=Tryz.isAgg42
 z31:=Tryz.sizeOf42
 v31:=Tryz.zeroValue42
 t37:=Tryz.underlying26
 a37:=Tryz.isAgg26
 z37:=Tryz.sizeOf26
 v37:=Tryz.zeroValue26
 t70:=Tryz.underlying89
 a70:=Tryz.isAgg89
 z70:=Tryz.sizeOf89
 v70:=Tryz.zeroValue89
 t72:=Tryz.underlying91
 a72:=Tryz.isAgg91
 z72:=Tryz.sizeOf91
 v72:=Tryz.zeroValue91
 t75:=Tryz.underlying94
 a75:=Tryz.isAgg94
 z75:=Tryz.sizeOf94
 v75:=Tryz.zeroValue94
 t76:=Tryz.underlying95
 a76:=Tryz.isAgg95
 z76:=Tryz.sizeOf95
 v76:=Tryz.zeroValue95
 t127:=Tryz.underlying131
 a127:=Tryz.isAgg131
 z127:=Tryz.sizeOf131
 v127:=Tryz.zeroValue131
 t164:=Tryz.underlying148
 a164:=Tryz.isAgg148
 z164:=Tryz.sizeOf148
 v164:=Tryz.zeroValue148 }
theorem Sh.Builder_Extra_156:Builder.Extra Tryz.prog Sh.lays156_ren:={
 sizeBuilder:=by kernel_rfl
 liesBuilder:=by kernel_rfl
 t5:=Tryz.underlying5
 a5:=Tryz.isAgg5
 z5:=Tryz.sizeOf5
 v5:=Tryz.zeroValue5
 infoByte:=by kernel_rfl
 cellsByte:=by kernel_rfl
 sizeByte:=by kernel_rfl
 neB5:=by decide }
theorem Sh.strings_Join (bk o c:Nat)(xs:List ByteArray)(sep:ByteArray)(w:World)
 (hcells:∀ (j:Nat) x,xs[j]? = some x→w.cell? ⟨bk,o+j,none⟩=some (.string x))
 (hbk:bk < w.heap.size)(hN:xs.length≤140737488355328)(hcap:xs.length≤c)
 (hlen:(Lib.join (xs.map (·.data.toList)) sep.data.toList).length≤140737488355328) :
 Calls Tryz.prog 34 #[.slice (some ⟨bk,o,none⟩) xs.length c,.string sep] w fun e w'=>e=.returned (.string ⟨(Lib.join (xs.map (·.data.toList)) sep.data.toList).toArray⟩)∧Below w.heap.size w w' :=
 Any.strings_Join Sh.lays156 Sh.Builder_Extra_156 bk o c xs sep w hcells hbk hN hcap hlen
end
def X6 (b:Bool)(s:ByteArray):List Value:=if b then [.string s] else []
def QCu (b:Bool)(s:ByteArray):List ByteArray:=if b then [s] else []
theorem QCW (b:Bool)(s:ByteArray):(X6 b s).length≤1:=by cases b<;>simp[X6]
theorem QQZ (b:Bool)(s:ByteArray):X6 b s=(QCu b s).map Value.string:=by cases b<;>rfl
def qL (g:Rg):List ByteArray :=
 [⟨#[97,102,61]⟩++Jt g.af,⟨#[98,99,61]⟩++Jt g.bc,⟨#[100,101,61]⟩++Jt g.de,⟨#[104,108,61]⟩++Jt g.hl,⟨#[105,120,61]⟩++Jt g.ix,⟨#[105,121,61]⟩++Jt g.iy,⟨#[115,112,61]⟩++Jt g.sp,⟨#[112,99,61]⟩++Jt g.pc,
  ⟨#[105,61]⟩++Xt g.i,⟨#[114,61]⟩++Xt g.r,⟨#[105,109]⟩++ql g.mode]++QCu g.iff1 ⟨#[105,102,102,49]⟩++QCu g.iff2 ⟨#[105,102,102,50]⟩++QCu g.halted ⟨#[104,97,108,116]⟩
theorem QGi (g:Rg):(qL g).map (·.data.toList)=zI g:=by
 unfold qL zI QCu Jt Xt ql
 cases g.iff1<;>cases g.iff2<;>cases g.halted<;>simp
theorem QKi (g:Rg):(qL g).length≤14:=by
 unfold qL QCu
 cases g.iff1<;>cases g.iff2<;>cases g.halted<;>simp
theorem QKK (g:Rg):(qL g).length≠0:=by
 unfold qL
 simp
theorem QC8 (g:Rg)(h:-9223372036854775808≤g.mode∧g.mode≤9223372036854775807):(jp g).length≤400:=by
 have:=Lib.itoa_length_le g.mode h.1 h.2
 unfold jp zI
 generalize Lib.itoa g.mode=I at *
 cases g.iff1<;>cases g.iff2<;>cases g.halted<;>simp[Lib.join,List.intercalate,QBC,QEw,List.intersperse]<;>omega
theorem QOn {w w':World} {B:Nat} {v0 v1 v2 v3 v4 v5 v6 v7 v8 v9 v10 v11 v12 v13:Value}(k:Below w.heap.size w w')
 (h:w.cell? ⟨B,0,none⟩=some v0∧w.cell? ⟨B,1,none⟩=some v1∧w.cell? ⟨B,2,none⟩=some v2∧w.cell? ⟨B,3,none⟩=some v3∧w.cell? ⟨B,8,none⟩=some v4∧w.cell? ⟨B,9,none⟩=some v5∧w.cell? ⟨B,10,none⟩=some v6∧w.cell? ⟨B,11,none⟩=some v7∧w.cell? ⟨B,13,none⟩=some v8∧w.cell? ⟨B,14,none⟩=some v9∧w.cell? ⟨B,19,none⟩=some v10∧w.cell? ⟨B,15,none⟩=some v11∧w.cell? ⟨B,16,none⟩=some v12∧w.cell? ⟨B,17,none⟩=some v13) :
 w'.cell? ⟨B,0,none⟩=some v0∧w'.cell? ⟨B,1,none⟩=some v1∧w'.cell? ⟨B,2,none⟩=some v2∧w'.cell? ⟨B,3,none⟩=some v3∧w'.cell? ⟨B,8,none⟩=some v4∧w'.cell? ⟨B,9,none⟩=some v5∧w'.cell? ⟨B,10,none⟩=some v6∧w'.cell? ⟨B,11,none⟩=some v7∧w'.cell? ⟨B,13,none⟩=some v8∧w'.cell? ⟨B,14,none⟩=some v9∧w'.cell? ⟨B,19,none⟩=some v10∧w'.cell? ⟨B,15,none⟩=some v11∧w'.cell? ⟨B,16,none⟩=some v12∧w'.cell? ⟨B,17,none⟩=some v13:=by
 obtain⟨h0,h1,h2,h3,h4,h5,h6,h7,h8,h9,h10,h11,h12,h13⟩:=h
 exact⟨cell_kept h0 k,cell_kept h1 k,cell_kept h2 k,cell_kept h3 k,cell_kept h4 k,cell_kept h5 k,cell_kept h6 k,cell_kept h7 k,cell_kept h8 k,cell_kept h9 k,cell_kept h10 k,cell_kept h11 k,cell_kept h12 k,cell_kept h13 k⟩
theorem QNT {a0 a1 a2 a3 a4 a5 a6 a7 a8 a9 a10 a11 a12 a13:Prop}(h:a0∧a1∧a2∧a3∧a4∧a5∧a6∧a7∧a8∧a9∧a10∧a11∧a12∧a13):a11∧a12∧a13:=h.2.2.2.2.2.2.2.2.2.2.2
theorem QNP:(Tryz.prog.info? 9).map (fun i=>(i.zero,i.size,i.bytes))=some (some (.string ⟨#[]⟩),1,16):=by kernel_rfl
theorem QOJ (g:Rg)(hg:RgB g)(w:World)(ht:NumTabs w) :
 Calls Tryz.prog 18 #[JM g] w fun e w'=>e=.returned (.string ⟨(jp g).toArray⟩)∧Below w.heap.size w w':=by
 obtain⟨i0,hi0,hz0,hz1,hz2⟩:=info_parts QNP
 obtain⟨af,bc,de,hl,af2,bc2,de2,hl2,ix,iy,sp,pc,wz,i,r,iff1,iff2,halted,late,mode⟩:=g
 obtain⟨b1,b2,b3,b4,b5,b6,b7,b8,b9,b10,b11,b12,b13,b14,b15,b16⟩:=hg
 have kw:=Lib.hid (fun n (hn:Wd16 n) W (hW:Below w.heap.size w W)=>QNY n hn W (ht.below hW))
 have kb:Hid (∀ n (hn:B8 n) W (hW:Below w.heap.size w W),Calls Tryz.prog 16 #[.int .i64 (IntKind.i64.wrap n),.int .i64 2] W fun e w'=>e=.returned (.string (Xt n))∧Below W.heap.size W w'):=Lib.hid (fun n hn W hW=>by
  rw[show IntKind.i64.wrap n=n by have:=hn.1;have:=hn.2;rw[IntKind.wrap_i64];omega]
  exact QGA n hn W (ht.below hW))
 have kn:=Lib.hid (fun W (hW:Below w.heap.size w W)=>QF6 mode b16 W (ht.below hW))
 have hns:=qt mode b16
 have HNS:=Lib.hid hns
 have HMB:=Lib.hid b16
 have hws:=ZD
 have hbs:=jN
 have big:¬(9223372036854775807 < 2+(ql mode).size):=by omega
 have q0:Wd16 af:=b1
 have q1:Wd16 bc:=b2
 have q2:Wd16 de:=b3
 have q3:Wd16 hl:=b4
 have q4:Wd16 ix:=b9
 have q5:Wd16 iy:=b10
 have q6:Wd16 sp:=b11
 have q7:Wd16 pc:=b12
 have q8:B8 i:=b14
 have q9:B8 r:=b15
 have q8':=q8.1
 have q8'':=q8.2
 have q9':=q9.1
 have q9'':=q9.2
 clear b1 b2 b3 b4 b5 b6 b7 b8 b9 b10 b11 b12 b13 b14 b15 b16 ht hns
 obtain⟨cs,hcs⟩:∃ cs,cs=(#[.int .u16 af,.int .u16 bc,.int .u16 de,.int .u16 hl,.int .u16 af2,.int .u16 bc2,.int .u16 de2,.int .u16 hl2,.int .u16 ix,.int .u16 iy,.int .u16 sp,.int .u16 pc,.int .u16 wz,.int .u8 i,.int .u8 r,.bool iff1,.bool iff2,.bool halted,.bool late,.int .i64 mode]:Array Value):=⟨_,rfl⟩
 have HE:=Lib.hid hcs
 show Calls _ _ #[.agg (#[.int .u16 af,.int .u16 bc,.int .u16 de,.int .u16 hl,.int .u16 af2,.int .u16 bc2,.int .u16 de2,.int .u16 hl2,.int .u16 ix,.int .u16 iy,.int .u16 sp,.int .u16 pc,.int .u16 wz,.int .u8 i,.int .u8 r,.bool iff1,.bool iff2,.bool halted,.bool late,.int .i64 mode]:Array Value)] _ _
 rw[←hcs]
 clear hcs
 go_enter Tryz.func18,Tryz.ntmps18
 go_upto_region 1 with (fail)
 have rA:=Row.new w 24 cs
 have HB:=Lib.hid ((Below.refl w.heap.size w).alloc (Nat.le_refl _) (.cells cs 24))
 generalize w.alloc (.cells cs 24)=W0 at *
 rw[HE.out] at rA
 have hs:W0.cell? ⟨w.heap.size,0,none⟩=some (.int .u16 af)∧W0.cell? ⟨w.heap.size,1,none⟩=some (.int .u16 bc)∧W0.cell? ⟨w.heap.size,2,none⟩=some (.int .u16 de)∧W0.cell? ⟨w.heap.size,3,none⟩=some (.int .u16 hl)∧W0.cell? ⟨w.heap.size,8,none⟩=some (.int .u16 ix)∧W0.cell? ⟨w.heap.size,9,none⟩=some (.int .u16 iy)∧W0.cell? ⟨w.heap.size,10,none⟩=some (.int .u16 sp)∧W0.cell? ⟨w.heap.size,11,none⟩=some (.int .u16 pc)∧W0.cell? ⟨w.heap.size,13,none⟩=some (.int .u8 i)∧W0.cell? ⟨w.heap.size,14,none⟩=some (.int .u8 r)∧W0.cell? ⟨w.heap.size,19,none⟩=some (.int .i64 mode)∧W0.cell? ⟨w.heap.size,15,none⟩=some (.bool iff1)∧W0.cell? ⟨w.heap.size,16,none⟩=some (.bool iff2)∧W0.cell? ⟨w.heap.size,17,none⟩=some (.bool halted):=⟨rA.cell 0,rA.cell 1,rA.cell 2,rA.cell 3,rA.cell 8,rA.cell 9,rA.cell 10,rA.cell 11,rA.cell 13,rA.cell 14,rA.cell 19,rA.cell 15,rA.cell 16,rA.cell 17⟩
 have rA:=Lib.hid rA
 have HB0:=HB
 clear HB
 have HB:=Lib.hid (Below.refl W0.heap.size W0)
 have kw2:=Lib.hid (fun n (hn:Wd16 n) W (hW:Below W0.heap.size W0 W)=>kw.out n hn W (HB0.out.trans (hW.mono HB0.out.size)))
 have kb2:=Lib.hid (fun n (hn:B8 n) W (hW:Below W0.heap.size W0 W)=>kb.out n hn W (HB0.out.trans (hW.mono HB0.out.size)))
 have kn2:=Lib.hid (fun W (hW:Below W0.heap.size W0 W)=>kn.out W (HB0.out.trans (hW.mono HB0.out.size)))
 clear kw kb kn
 go_cut [3] (fun s3 wx=>wx.ownsRow (w.heap.size+1) 9 1 s3 11 [Value.string (⟨#[97,102,61]⟩++Jt af:ByteArray),Value.string (⟨#[98,99,61]⟩++Jt bc:ByteArray),Value.string (⟨#[100,101,61]⟩++Jt de:ByteArray),Value.string (⟨#[104,108,61]⟩++Jt hl:ByteArray),Value.string (⟨#[105,120,61]⟩++Jt ix:ByteArray),Value.string (⟨#[105,121,61]⟩++Jt iy:ByteArray),Value.string (⟨#[115,112,61]⟩++Jt sp:ByteArray),Value.string (⟨#[112,99,61]⟩++Jt pc:ByteArray),Value.string (⟨#[105,61]⟩++Xt i:ByteArray),Value.string (⟨#[114,61]⟩++Xt r:ByteArray),Value.string (⟨#[105,109]⟩++ql mode:ByteArray)]∧(wx.cell? ⟨w.heap.size,15,none⟩=some (.bool iff1)∧wx.cell? ⟨w.heap.size,16,none⟩=some (.bool iff2)∧wx.cell? ⟨w.heap.size,17,none⟩=some (.bool halted))∧Below w.heap.size w wx)
 case first =>
  go_region_held3 (fun w'=>w'.cell? ⟨w.heap.size,0,none⟩=some (.int .u16 af)∧w'.cell? ⟨w.heap.size,1,none⟩=some (.int .u16 bc)∧w'.cell? ⟨w.heap.size,2,none⟩=some (.int .u16 de)∧w'.cell? ⟨w.heap.size,3,none⟩=some (.int .u16 hl)∧w'.cell? ⟨w.heap.size,8,none⟩=some (.int .u16 ix)∧w'.cell? ⟨w.heap.size,9,none⟩=some (.int .u16 iy)∧w'.cell? ⟨w.heap.size,10,none⟩=some (.int .u16 sp)∧w'.cell? ⟨w.heap.size,11,none⟩=some (.int .u16 pc)∧w'.cell? ⟨w.heap.size,13,none⟩=some (.int .u8 i)∧w'.cell? ⟨w.heap.size,14,none⟩=some (.int .u8 r)∧w'.cell? ⟨w.heap.size,19,none⟩=some (.int .i64 mode)∧w'.cell? ⟨w.heap.size,15,none⟩=some (.bool iff1)∧w'.cell? ⟨w.heap.size,16,none⟩=some (.bool iff2)∧w'.cell? ⟨w.heap.size,17,none⟩=some (.bool halted)) (first|with_reducible assumption|exact hs|with_reducible exact QOn hb (by with_reducible assumption)|with_reducible exact QOn (Below.alloc (Below.refl _ _) (Nat.le_refl _) _) (by with_reducible assumption)) (first
   | (go_at_call 33;refine (kw2.out _ (by with_reducible assumption) _ (by first|exact HB.out|exact HB.out.drew)).mono ?_;rintro e w' ⟨rfl,hb⟩;have HB:=Lib.hid (show Below W0.heap.size W0 w' from (show Below W0.heap.size W0 _ from (by first|exact HB.out|exact HB.out.drew)).trans (hb.mono (by first|exact HB.out.size|exact HB.out.drew.size))))
   | (go_at_call 16;refine (kb2.out _ (by with_reducible assumption) _ (by first|exact HB.out|exact HB.out.drew)).mono ?_;rintro e w' ⟨rfl,hb⟩;have HB:=Lib.hid (show Below W0.heap.size W0 w' from (show Below W0.heap.size W0 _ from (by first|exact HB.out|exact HB.out.drew)).trans (hb.mono (by first|exact HB.out.size|exact HB.out.drew.size))))
   | (go_at_call 26;refine (kn2.out _ (by first|exact HB.out|exact HB.out.drew)).mono ?_;rintro e w' ⟨rfl,hb⟩;have HB:=Lib.hid (show Below W0.heap.size W0 w' from (show Below W0.heap.size W0 _ from (by first|exact HB.out|exact HB.out.drew)).trans (hb.mono (by first|exact HB.out.size|exact HB.out.drew.size)))))
  go_wp2_with fail
  go_meet
  have hlt:w.heap.size+1≤w'.heap.size:=Nat.lt_of_lt_of_le rA.out.lt HB.out.size
  exact⟨World.ownsRow_lit w' _ 11 hlt (by decide) rfl,QNT (by with_reducible assumption),HB0.out.trans ((HB.out.alloc HB.out.size _).mono HB0.out.size)⟩
 case rest =>
  obtain⟨hown,⟨c15,c16,c17⟩,hB⟩:=hcut
  obtain⟨N,hN⟩:∃ N:Nat,N=11:=⟨_,rfl⟩
  obtain⟨XS,hXS⟩:∃ XS:List Value,XS=[Value.string (⟨#[97,102,61]⟩++Jt af:ByteArray),Value.string (⟨#[98,99,61]⟩++Jt bc:ByteArray),Value.string (⟨#[100,101,61]⟩++Jt de:ByteArray),Value.string (⟨#[104,108,61]⟩++Jt hl:ByteArray),Value.string (⟨#[105,120,61]⟩++Jt ix:ByteArray),Value.string (⟨#[105,121,61]⟩++Jt iy:ByteArray),Value.string (⟨#[115,112,61]⟩++Jt sp:ByteArray),Value.string (⟨#[112,99,61]⟩++Jt pc:ByteArray),Value.string (⟨#[105,61]⟩++Xt i:ByteArray),Value.string (⟨#[114,61]⟩++Xt r:ByteArray),Value.string (⟨#[105,109]⟩++ql mode:ByteArray)]:=⟨_,rfl⟩
  rw[←hXS,←hN] at hown
  have HX:=Lib.hid hXS
  have hN':N≤11:=by omega
  have HV:=Lib.hid hown
  have HB:=Lib.hid hB
  clear hown hB hXS hN HE rA hs hws hbs big q0 q1 q2 q3 q4 q5 q6 q7 q8 q9 q8' q8'' q9' q9'' kw2 kb2 kn2
  have hsz:w.heap.size+1≤wc.heap.size:=World.block_lt_of_cell? _ _ c15
  go_upto_if 52 with (fail)
  go_cut [3] (fun s3 wx=>wx.ownsRow (w.heap.size+1) 9 1 s3 (N+(X6 iff1 ⟨#[105,102,102,49]⟩).length) (XS++X6 iff1 ⟨#[105,102,102,49]⟩)∧(wx.cell? ⟨w.heap.size,15,none⟩=some (.bool iff1)∧wx.cell? ⟨w.heap.size,16,none⟩=some (.bool iff2)∧wx.cell? ⟨w.heap.size,17,none⟩=some (.bool halted))∧Below w.heap.size w wx)
  case first =>
   by_cases hv:iff1=true
   · rw[hv]
     have em:X6 iff1 ⟨#[105,102,102,49]⟩=[.string ⟨#[105,102,102,49]⟩]:=by rw[hv];rfl
     have EM:=Lib.hid em
     have HC:=Lib.hid (And.intro c15 (And.intro c16 c17))
     clear em hv c15 c16 c17
     have ownA:=HV.out.alloc (.cells #[.string ⟨#[105,102,102,49]⟩] 9)
     have hnews:=XP wc [.string ⟨#[105,102,102,49]⟩] 9
     have HBa:=Lib.hid (HB.out.alloc HB.out.size (.cells #[.string ⟨#[105,102,102,49]⟩] 9))
     go_wp2_with (at_builtin;refine wpList_append_own_at _ rfl (.tmp 53) (.tmp 54) _ rfl (w.heap.size+1) 9 i0 _ 1 16 Tryz.underlying42 hi0 hz0 hz1 hz2 rfl (by omega) _ N XS rfl ownA ⟨wc.heap.size,0,none⟩ 1 1 [.string ⟨#[105,102,102,49]⟩] rfl rfl hnews (by intro u hu;simp at hu;rcases hu with rfl;rfl) (by simp only[maxLen];omega) (by omega) (by simp;omega) ?_;intro v1 w4 hown4 hg4 hni4 hat4)
     have d15:=XH (JI wc _ HC.out.1) hg4 ownA (Nat.lt_succ_self _)
     have d16:=XH (JI wc _ HC.out.2.1) hg4 ownA (Nat.lt_succ_self _)
     have d17:=XH (JI wc _ HC.out.2.2) hg4 ownA (Nat.lt_succ_self _)
     have B4:=j7 HBa.out hg4 ownA (Nat.le_succ _)
     go_meet
     exact⟨by rw[EM.out];exact hown4,⟨d15,d16,d17⟩,B4⟩
   · have hf:iff1=false:=by simpa using hv
     rw[hf]
     have em:X6 iff1 ⟨#[105,102,102,49]⟩=[]:=by rw[hf];rfl
     have EM:=Lib.hid em
     have HC:=Lib.hid (And.intro c15 (And.intro c16 c17))
     clear em hv hf c15 c16 c17
     go_wp2_with fail
     go_meet
     exact⟨by rw[EM.out,List.append_nil];exact HV.out,HC.out,HB.out⟩
  case rest =>
   clear c15 c16 c17 HV HB hsz
   obtain⟨hown,⟨c15,c16,c17⟩,hB⟩:=hcut
   have hml:=QCW iff1 ⟨#[105,102,102,49]⟩
   obtain⟨N',hN2⟩:∃ N':Nat,N'=N+(X6 iff1 ⟨#[105,102,102,49]⟩).length:=⟨_,rfl⟩
   obtain⟨XS',hXS'⟩:∃ XS':List Value,XS'=XS++X6 iff1 ⟨#[105,102,102,49]⟩:=⟨_,rfl⟩
   rw[←hXS',←hN2] at hown
   have hN3:N'≤12:=by omega
   have HX':=Lib.hid (hXS'.trans (by rw[HX.out]))
   clear hN2 hXS' hml hN' HX
   have hN':=hN3
   have HX:=HX'
   clear hN3 HX'
   have HV:=Lib.hid hown
   have HB:=Lib.hid hB
   clear hown hB
   obtain⟨N,rfl⟩:∃ N:Nat,N=N':=⟨_,rfl⟩
   obtain⟨XS,rfl⟩:∃ XS:List Value,XS=XS':=⟨_,rfl⟩
   have hsz:w.heap.size+1≤wc.heap.size:=World.block_lt_of_cell? _ _ c16
   go_upto_if 57 with (fail)
   go_cut [3] (fun s3 wx=>wx.ownsRow (w.heap.size+1) 9 1 s3 (N+(X6 iff2 ⟨#[105,102,102,50]⟩).length) (XS++X6 iff2 ⟨#[105,102,102,50]⟩)∧(wx.cell? ⟨w.heap.size,15,none⟩=some (.bool iff1)∧wx.cell? ⟨w.heap.size,16,none⟩=some (.bool iff2)∧wx.cell? ⟨w.heap.size,17,none⟩=some (.bool halted))∧Below w.heap.size w wx)
   case first =>
    by_cases hv:iff2=true
    · rw[hv]
      have em:X6 iff2 ⟨#[105,102,102,50]⟩=[.string ⟨#[105,102,102,50]⟩]:=by rw[hv];rfl
      have EM:=Lib.hid em
      have HC:=Lib.hid (And.intro c15 (And.intro c16 c17))
      clear em hv c15 c16 c17
      have ownA:=HV.out.alloc (.cells #[.string ⟨#[105,102,102,50]⟩] 9)
      have hnews:=XP wc [.string ⟨#[105,102,102,50]⟩] 9
      have HBa:=Lib.hid (HB.out.alloc HB.out.size (.cells #[.string ⟨#[105,102,102,50]⟩] 9))
      go_wp2_with (at_builtin;refine wpList_append_own_at _ rfl (.tmp 58) (.tmp 59) _ rfl (w.heap.size+1) 9 i0 _ 1 16 Tryz.underlying42 hi0 hz0 hz1 hz2 rfl (by omega) _ N XS rfl ownA ⟨wc.heap.size,0,none⟩ 1 1 [.string ⟨#[105,102,102,50]⟩] rfl rfl hnews (by intro u hu;simp at hu;rcases hu with rfl;rfl) (by simp only[maxLen];omega) (by omega) (by simp;omega) ?_;intro v1 w4 hown4 hg4 hni4 hat4)
      have d15:=XH (JI wc _ HC.out.1) hg4 ownA (Nat.lt_succ_self _)
      have d16:=XH (JI wc _ HC.out.2.1) hg4 ownA (Nat.lt_succ_self _)
      have d17:=XH (JI wc _ HC.out.2.2) hg4 ownA (Nat.lt_succ_self _)
      have B4:=j7 HBa.out hg4 ownA (Nat.le_succ _)
      go_meet
      exact⟨by rw[EM.out];exact hown4,⟨d15,d16,d17⟩,B4⟩
    · have hf:iff2=false:=by simpa using hv
      rw[hf]
      have em:X6 iff2 ⟨#[105,102,102,50]⟩=[]:=by rw[hf];rfl
      have EM:=Lib.hid em
      have HC:=Lib.hid (And.intro c15 (And.intro c16 c17))
      clear em hv hf c15 c16 c17
      go_wp2_with fail
      go_meet
      exact⟨by rw[EM.out,List.append_nil];exact HV.out,HC.out,HB.out⟩
   case rest =>
    clear c15 c16 c17 HV HB hsz
    obtain⟨hown,⟨c15,c16,c17⟩,hB⟩:=hcut
    have hml:=QCW iff2 ⟨#[105,102,102,50]⟩
    obtain⟨N',hN2⟩:∃ N':Nat,N'=N+(X6 iff2 ⟨#[105,102,102,50]⟩).length:=⟨_,rfl⟩
    obtain⟨XS',hXS'⟩:∃ XS':List Value,XS'=XS++X6 iff2 ⟨#[105,102,102,50]⟩:=⟨_,rfl⟩
    rw[←hXS',←hN2] at hown
    have hN3:N'≤13:=by omega
    have HX':=Lib.hid (hXS'.trans (by rw[HX.out]))
    clear hN2 hXS' hml hN' HX
    have hN':=hN3
    have HX:=HX'
    clear hN3 HX'
    have HV:=Lib.hid hown
    have HB:=Lib.hid hB
    clear hown hB
    obtain⟨N,rfl⟩:∃ N:Nat,N=N':=⟨_,rfl⟩
    obtain⟨XS,rfl⟩:∃ XS:List Value,XS=XS':=⟨_,rfl⟩
    have hsz:w.heap.size+1≤wc.heap.size:=World.block_lt_of_cell? _ _ c17
    go_upto_if 62 with (fail)
    go_cut [3] (fun s3 wx=>wx.ownsRow (w.heap.size+1) 9 1 s3 (N+(X6 halted ⟨#[104,97,108,116]⟩).length) (XS++X6 halted ⟨#[104,97,108,116]⟩)∧(wx.cell? ⟨w.heap.size,15,none⟩=some (.bool iff1)∧wx.cell? ⟨w.heap.size,16,none⟩=some (.bool iff2)∧wx.cell? ⟨w.heap.size,17,none⟩=some (.bool halted))∧Below w.heap.size w wx)
    case first =>
     by_cases hv:halted=true
     · rw[hv]
       have em:X6 halted ⟨#[104,97,108,116]⟩=[.string ⟨#[104,97,108,116]⟩]:=by rw[hv];rfl
       have EM:=Lib.hid em
       have HC:=Lib.hid (And.intro c15 (And.intro c16 c17))
       clear em hv c15 c16 c17
       have ownA:=HV.out.alloc (.cells #[.string ⟨#[104,97,108,116]⟩] 9)
       have hnews:=XP wc [.string ⟨#[104,97,108,116]⟩] 9
       have HBa:=Lib.hid (HB.out.alloc HB.out.size (.cells #[.string ⟨#[104,97,108,116]⟩] 9))
       go_wp2_with (at_builtin;refine wpList_append_own_at _ rfl (.tmp 63) (.tmp 64) _ rfl (w.heap.size+1) 9 i0 _ 1 16 Tryz.underlying42 hi0 hz0 hz1 hz2 rfl (by omega) _ N XS rfl ownA ⟨wc.heap.size,0,none⟩ 1 1 [.string ⟨#[104,97,108,116]⟩] rfl rfl hnews (by intro u hu;simp at hu;rcases hu with rfl;rfl) (by simp only[maxLen];omega) (by omega) (by simp;omega) ?_;intro v1 w4 hown4 hg4 hni4 hat4)
       have d15:=XH (JI wc _ HC.out.1) hg4 ownA (Nat.lt_succ_self _)
       have d16:=XH (JI wc _ HC.out.2.1) hg4 ownA (Nat.lt_succ_self _)
       have d17:=XH (JI wc _ HC.out.2.2) hg4 ownA (Nat.lt_succ_self _)
       have B4:=j7 HBa.out hg4 ownA (Nat.le_succ _)
       go_meet
       exact⟨by rw[EM.out];exact hown4,⟨d15,d16,d17⟩,B4⟩
     · have hf:halted=false:=by simpa using hv
       rw[hf]
       have em:X6 halted ⟨#[104,97,108,116]⟩=[]:=by rw[hf];rfl
       have EM:=Lib.hid em
       have HC:=Lib.hid (And.intro c15 (And.intro c16 c17))
       clear em hv hf c15 c16 c17
       go_wp2_with fail
       go_meet
       exact⟨by rw[EM.out,List.append_nil];exact HV.out,HC.out,HB.out⟩
    case rest =>
     clear c15 c16 c17 HV HB hsz
     obtain⟨hown,⟨c15,c16,c17⟩,hB⟩:=hcut
     have hml:=QCW halted ⟨#[104,97,108,116]⟩
     obtain⟨N',hN2⟩:∃ N':Nat,N'=N+(X6 halted ⟨#[104,97,108,116]⟩).length:=⟨_,rfl⟩
     obtain⟨XS',hXS'⟩:∃ XS':List Value,XS'=XS++X6 halted ⟨#[104,97,108,116]⟩:=⟨_,rfl⟩
     rw[←hXS',←hN2] at hown
     have hN3:N'≤14:=by omega
     have HX':=Lib.hid (hXS'.trans (by rw[HX.out]))
     clear hN2 hXS' hml hN' HX
     have hN':=hN3
     have HX:=HX'
     clear hN3 HX'
     have HV:=Lib.hid hown
     have HB:=Lib.hid hB
     clear hown hB
     obtain⟨N,rfl⟩:∃ N:Nat,N=N':=⟨_,rfl⟩
     obtain⟨XS,rfl⟩:∃ XS:List Value,XS=XS':=⟨_,rfl⟩
     have hbe:XS=(qL ⟨af,bc,de,hl,af2,bc2,de2,hl2,ix,iy,sp,pc,wz,i,r,iff1,iff2,halted,late,mode⟩).map Value.string:=by
      rw[HX.out]
      unfold qL
      simp only[QQZ,List.map_append,List.map_cons,List.map_nil]
     have hln:N=(qL ⟨af,bc,de,hl,af2,bc2,de2,hl2,ix,iy,sp,pc,wz,i,r,iff1,iff2,halted,late,mode⟩).length:=by
      have:=HV.out.1
      rw[hbe,List.length_map] at this
      omega
     have hBl:=QKi ⟨af,bc,de,hl,af2,bc2,de2,hl2,ix,iy,sp,pc,wz,i,r,iff1,iff2,halted,late,mode⟩
     have hBp:=QKK ⟨af,bc,de,hl,af2,bc2,de2,hl2,ix,iy,sp,pc,wz,i,r,iff1,iff2,halted,late,mode⟩
     have hIt:=QGi ⟨af,bc,de,hl,af2,bc2,de2,hl2,ix,iy,sp,pc,wz,i,r,iff1,iff2,halted,late,mode⟩
     have hGl:=QC8 ⟨af,bc,de,hl,af2,bc2,de2,hl2,ix,iy,sp,pc,wz,i,r,iff1,iff2,halted,late,mode⟩ HMB.out
     obtain⟨g8,cap8,h8,hc8,hg8,hcell8⟩:=QSe HV.out (by omega)
     have hj:Calls Tryz.prog 34 #[.slice (some ⟨g8,0,none⟩) N cap8,.string ⟨#[32]⟩] wc fun e w'=>e=.returned (.string ⟨(jp ⟨af,bc,de,hl,af2,bc2,de2,hl2,ix,iy,sp,pc,wz,i,r,iff1,iff2,halted,late,mode⟩).toArray⟩)∧Below wc.heap.size wc w':=by
      have hk:=Sh.strings_Join g8 0 cap8 (qL ⟨af,bc,de,hl,af2,bc2,de2,hl2,ix,iy,sp,pc,wz,i,r,iff1,iff2,halted,late,mode⟩) ⟨#[32]⟩ wc (fun j x hx=>by
       rw[Nat.zero_add,hcell8 j (by rw[hln];exact (List.getElem?_eq_some_iff.1 hx).1),hbe,List.getElem?_map,hx]
       rfl) hg8 (by omega) (by omega) (by rw[hIt];show (jp ⟨af,bc,de,hl,af2,bc2,de2,hl2,ix,iy,sp,pc,wz,i,r,iff1,iff2,halted,late,mode⟩).length≤_;omega)
      rw[hIt,←hln] at hk
      exact hk
     have HJ:=Lib.hid hj
     have H8:=Lib.hid h8
     clear hbe hln hBl hBp hIt hGl h8 hc8 hg8 hcell8 hj c15 c16 c17 hN' HX HV
     rw[H8.out]
     go_wp2_with fail
     refine HJ.out.mono ?_
     rintro e w9 ⟨rfl,hb9⟩
     have HB9:=Lib.hid (HB.out.trans (hb9.mono HB.out.size))
     clear hb9
     go_wp2
     go_ret
     exact⟨rfl,HB9.out⟩
theorem QV4 {xs:List Int}(h:Bytes8 xs):B8 (XJ xs).code∧B8 (XJ xs).disp∧0≤(XJ xs).imm∧(XJ xs).imm≤65535:=by
 have g:=fun i=>QB9 h i
 refine⟨?_,?_,?_⟩
 · show B8 (QD _ _ _)
   unfold QD
   split
   · exact g _
   · split<;>exact g _
 · show B8 (Q9 _ _ _)
   unfold Q9
   split
   · exact g _
   · split
     · exact B8.zero
     · split
       · exact g _
       · exact B8.zero
 · show 0≤QZ _ _ _∧QZ _ _ _≤65535
   unfold QZ
   split
   · omega
   · split
     · have:=g (Jh (gb xs) (lead xs) (Qo xs (lead xs)))
       have h0:=this.1
       have h1:=this.2
       omega
     · have h0:=(g (Jh (gb xs) (lead xs) (Qo xs (lead xs)))).1
       have h1:=(g (Jh (gb xs) (lead xs) (Qo xs (lead xs)))).2
       have h2:=(g (Jh (gb xs) (lead xs) (Qo xs (lead xs))+1)).1
       have h3:=(g (Jh (gb xs) (lead xs) (Qo xs (lead xs))+1)).2
       omega
theorem QHU {xs:List Int}(h:Bytes8 xs):B8 (QT xs).code∧B8 (QT xs).disp∧0≤(QT xs).imm∧(QT xs).imm≤65535:=by
 unfold QT
 split
 · exact QV4 h
 · exact⟨B8.zero,B8.zero,by decide,by decide⟩
theorem QMe:∀ (p:Fin 7) (c:Fin 256),decide ((j6 (p.val:Int) (c.val:Int)).length≤40)=true:=by decide +kernel
theorem QRD (pl c:Int)(hc:B8 c):(j6 pl c).length≤40:=by
 by_cases h:0≤pl∧pl≤6
 · refine of_decide_eq_true (Ji (P:=fun c=>decide ((j6 pl c).length≤40)=true) (fun x=>?_) c hc.1 hc.2)
   have:=QMe ⟨pl.toNat,by omega⟩ x
   rwa [show ((⟨pl.toNat,by omega⟩:Fin 7).val:Int)=pl by show (pl.toNat:Int)=pl;omega] at this
 · have e:X2 pl (fx c) (fy c) (fz c) (fp c) (fq c)=[63]:=by unfold X2;rw[if_neg (by omega),if_neg (by omega),if_neg (by omega),if_neg (by omega)]
   unfold j6
   rw[e]
   simp[opT]
def JZ (m:List (Int×Int))(pc:Int):List Int:=jx m pc 8
def Qn (m:List (Int×Int))(pc:Int):List Int:=if okM (JZ m pc)=true then (JZ m pc).take (lenOf (JZ m pc)) else JZ m pc
theorem QAw (m:List (Int×Int))(pc:Int):(JZ m pc).length=8:=Xr _ _ _
theorem zx {m:List (Int×Int)}(h:Jk m)(pc:Int):Bytes8 (JZ m pc):=fun x hx=>QQN h _ _ x hx
theorem Bytes8.tk {xs:List Int}(h:Bytes8 xs)(k:Nat):Bytes8 (xs.take k):=fun x hx=>h x (List.mem_of_mem_take hx)
theorem QJl {m:List (Int×Int)}(h:Jk m)(pc:Int):Bytes8 (Qn m pc):=by
 unfold Qn
 split
 · exact (zx h pc).tk _
 · exact zx h pc
theorem QN7 (m:List (Int×Int))(pc:Int):(Qn m pc).length≤8:=by
 have:=QAw m pc
 unfold Qn
 split
 · rw[List.length_take];omega
 · omega
def opS (o:OpM):ByteArray:=sy o.plane o.disp o.imm (j6 o.plane o.code)
def qq (xs:List Int):ByteArray:=if okM xs=true then opS (QT xs) else ⟨#[46,46]⟩
theorem QPk (o:OpM)(h:B8 o.code):(opS o).size≤320:=by
 have h1:=QHk o.plane o.disp o.imm (j6 o.plane o.code)
 have h2:=QRD o.plane o.code h
 unfold opS sy
 rw[Q4]
 omega
theorem QFC {xs:List Int}(h:Bytes8 xs):(qq xs).size≤320:=by
 unfold qq
 split
 · exact QPk _ (QHU h).1
 · decide
def QQ5 (g:Rg)(m:List (Int×Int)):ByteArray:=Jt g.pc++⟨#[58,32]⟩++qq (Qn m g.pc)++⟨#[32,124,32]⟩++⟨(jp g).toArray⟩
def Zm (w:Wd):ByteArray:=QQ5 w.g w.m
def itW:Nat→Wd→Wd
 | 0,w=>w
 | k+1,w=>itW k (mkW (Qx w 0 0))
def ZR (N:Nat)(w:Wd):List ByteArray:=(List.range N).map fun i=>Zm (itW i w)
def tvs (l:List ByteArray):List Value:=l.map Value.string
theorem QPO (k:Nat):∀ w,itW (k+1) w=mkW (Qx (itW k w) 0 0):=by
 induction k with
 | zero=>intro w;rfl
 | succ k ih=>intro w;exact ih (mkW (Qx w 0 0))
theorem QK6 (N:Nat)(w:Wd):ZR (N+1) w=ZR N w++[Zm (itW N w)]:=by
 unfold ZR
 rw[List.range_succ,List.map_append]
 rfl
theorem QNC (N:Nat)(w:Wd):(ZR N w).length=N:=by simp[ZR]
theorem SimW.symm {w u:Wd}(h:SimW w u):SimW u w:=⟨h.g.symm,h.m.symm,h.p.symm⟩
theorem SimW.trans {w u v:Wd}(h:SimW w u)(k:SimW u v):SimW w v:=⟨h.g.trans k.g,h.m.trans k.m,h.p.trans k.p⟩
theorem OkW.it (hA:zM):∀ (k:Nat) {w:Wd},OkW w→OkW (itW k w)
 | 0,w,h=>h
 | k+1,w,h=>OkW.it hA k (QUi (h.pstepW hA 0 B8.zero))
theorem QLn:∀ (k:Nat) (w:Wd),(itW k w).m.length≤w.m.length+200*k∧(itW k w).p.length≤w.p.length
 | 0,w=>⟨Nat.le_refl _,Nat.le_refl _⟩
 | k+1,w=>by
   have ih:=QLn k (mkW (Qx w 0 0))
   have h1:(Qx w 0 0).m.length≤w.m.length+200:=QED w 0 0
   have h2:(Qx w 0 0).p.length≤w.p.length:=QET w 0 0
   have h3:=QVQ (Qx w 0 0)
   exact⟨Nat.le_trans ih.1 (by omega),Nat.le_trans ih.2 h2⟩
section
variable {F:Fence} {n:Nat} {ds:List Deferred} {P:Program} {ops:Array Oper} {Q:Exit→Act→World→Prop} {base:List Value} {l:JY} {w:World}
theorem eiBo {i j:Nat}(h:EI ds Q (.exit j) base l w)(hn:Nat.beq j i=false:=by kernel_rfl):EI ds (Exit.inBlock i Q) (.exit j) base l w:=⟨fun hi=>by
 have hn':¬j=i:=fun e=>by subst e;rw[Nat.beq_refl] at hn;cases hn
 simp only[Exit.inBlock,hn',if_false]
 exact h.h hi⟩
theorem QVb {lo id:Nat} {rc:Loop} {R:Ending→World→Prop}(hl:w.heap[lo]? = some (.loop rc))(hR:∀ w',w.grownBy w' (some lo)→w'.heap[lo]? = some (.loop { rc with state:=.done,pending:=some (.exit id) })→R (.returned (.bool false)) w'):EI [] (roundPost P lo R) (.exit id) base l w :=
 ⟨fun _=>⟨_,_,run_endRound _ hl,hR _ (grownBy_putObj' w lo _) (World.putObj_heap_same (Array.getElem?_eq_some_iff.1 hl).1)⟩⟩
theorem QGl {lo:Nat} {rc:Loop}(hl:w.heap[lo]? = some (.loop rc))(hs:rc.state≠.busy):∃ w',(Instr.endLoop lo).run P w=.ok rc.pending w'∧w.grownBy w' (some lo) :=
 ⟨_,by rw[run_endLoop hl hs],grownBy_putObj' w lo _⟩
theorem QO9 {gf:FuncId} {lb:Array Value} {gop:Operand} {ps:Array Tmp} {assign body:Code}(eg:∀ args w,(callFunc gf args).run P w=.ok (.enter gf args) w)
 (h:∀ (fn:FuncId) (W1:World),Below w.heap.size w W1→W1.heap[w.heap.size]? = some (.deferred (some []))→W1.heap[w.heap.size+1]? = some (.loop { state:=.ready,pending:=none,fn,tmps:=(ovO base l).toArray,params:=ps,assign,body,defers:=w.heap.size }) →
   Calls P gf (#[.func (.yield (w.heap.size+1)) #[] #[]]++lb) W1 fun e W3=>∃ v W4 c,e=.returned v∧(Instr.endLoop (w.heap.size+1)).run P W3=.ok (some c) W4∧CI Fence.wide 0 [{ target:=.collected w.heap.size,args:=#[] }] P c Q base l W4)
 (hg:evO base l gop=.func (.func gf) #[] lb:=by kernel_rfl):CI Fence.wide 0 [] P (.rangeFunc gop ps assign body) Q base l w :=
 ⟨fun hi=>by
  refine wpIn_rangeFunc fun fn _=>?_
  have hev:(QAX [] base l).eval gop=.func (.func gf) #[] lb:=by rw[QCj [] hi];exact hg
  obtain⟨W1,hW1⟩:∃ W1,W1=(w.alloc (.deferred (some []))).alloc (.loop { state:=.ready,pending:=none,fn,tmps:=(ovO base l).toArray,params:=ps,assign,body,defers:=w.heap.size }):=⟨_,rfl⟩
  have hb1:Below w.heap.size w W1:=by
   rw[hW1]
   exact Below.alloc (Below.alloc (Below.refl _ _) (Nat.le_refl _) _) (by simp) _
  have hD1:W1.heap[w.heap.size]? = some (.deferred (some [])):=by
   rw[hW1]
   exact (Below.heap_alloc _ _ _ (by simp)).trans (World.alloc_heap_new w _)
  have hL1:W1.heap[w.heap.size+1]? = some (.loop { state:=.ready,pending:=none,fn,tmps:=(ovO base l).toArray,params:=ps,assign,body,defers:=w.heap.size }):=by
   rw[hW1]
   have:=World.alloc_heap_new (w.alloc (.deferred (some []))) (.loop { state:=.ready,pending:=none,fn,tmps:=(ovO base l).toArray,params:=ps,assign,body,defers:=w.heap.size })
   rw[World.size_alloc] at this
   exact this
  have h0:(Instr.enterLoop fn (QAX [] base l).tmps ps assign body Fence.wide.round).run P w=.ok (w.heap.size+1,[{ target:=.collected w.heap.size,args:=#[] }]) W1:=by
   rw[hW1]
   exact run_enterLoop_outer _ _ _ _ _
  refine⟨w.heap.size+1,[{ target:=.collected w.heap.size,args:=#[] }],W1,{ target:=.fn (.func gf) lb,args:=#[.func (.yield (w.heap.size+1)) #[] #[]] },W1,gf,#[.func (.yield (w.heap.size+1)) #[] #[]]++lb,W1,h0,?_,?_,?_,?_,?_⟩
  · simp only[resolve,hev]
    simp[go_sem]
  · intro f' _;exact trivial
  · simp[invoke,go_sem,eg]
  · intro hx;cases hx
  · refine callsIn_wide.2 ((h fn W1 hb1 hD1 hL1).mono fun e W3 ⟨v,W4,c,he,hend,hq⟩=>?_)
    subst he
    exact⟨some c,W4,hend,hq.h hi⟩⟩
theorem QUv {fn:Func} {R:Ending→World→Prop} {t:Tmp}(V:Value)(hR:R (.returned V) w)(h:fn.results=#[.tmp t]:=by exact rfl)(hv:lkO base t l=V:=by kernel_rfl):EI [] (bodyPostM Fence.wide 0 P fn R) .ret base l w :=
 ⟨fun hi=>⟨V,by rw[results_tmp h,show (QAX [] base l).tmps.getD t undef=V from (congrFun (Jj hi) (.tmp t)).trans hv],hR⟩⟩
end
def StrsIn (w:World)(B:Nat)(A:Option Addr)(l:List ByteArray):Prop:=∀ (j:Nat) (u:Value),(tvs l)[j]? = some u→∃ p,A=some p∧p.block < B∧w.cell? (p.add j)=some u
theorem StrsIn.keep {w w':World} {B:Nat} {A:Option Addr} {l:List ByteArray}(h:StrsIn w B A l)(k:∀ b,b < B→w'.heap[b]? = w.heap[b]?):StrsIn w' B A l:=fun j c hc=>by
 obtain⟨p,e,hp,h0⟩:=h j c hc
 exact⟨p,e,hp,(World.cell?_of_block (by rw[add_block];exact k _ hp)).trans h0⟩
theorem StrsIn.more {w:World} {B B':Nat} {A:Option Addr} {l:List ByteArray}(h:StrsIn w B A l)(k:B≤B'):StrsIn w B' A l:=fun j c hc=>by
 obtain⟨p,e,hp,h0⟩:=h j c hc
 exact⟨p,e,Nat.lt_of_lt_of_le hp k,h0⟩
theorem StrsIn.below {w w':World} {B:Nat} {A:Option Addr} {l:List ByteArray}(h:StrsIn w B A l)(k:Below B w w'):StrsIn w' B A l:=h.keep fun b hb=>k.block b hb
theorem StrsIn.on {w w':World} {A:Option Addr} {l:List ByteArray}(h:StrsIn w w.heap.size A l)(k:Below w.heap.size w w'):StrsIn w' w'.heap.size A l:=(h.below k).more k.size
theorem QLQ (l:List ByteArray):(tvs l).length=l.length:=by simp[tvs]
theorem QKR (a b:List ByteArray):tvs a++tvs b=tvs (a++b):=by simp[tvs]
theorem StrsIn.at_ {w:World} {B:Nat} {A:Option Addr} {l:List ByteArray}(h:StrsIn w B A l){k:Nat}(hk:k < l.length):∃ p,A=some p:=by
 obtain⟨p,e,-⟩:=h k (.string l[k]) (by simp[tvs,List.getElem?_eq_getElem hk])
 exact⟨p,e⟩
theorem StrsIn.ld {w:World} {B:Nat} {p:Addr} {l:List ByteArray}(h:StrsIn w B (some p) l){k:Nat}(hk:k < l.length):(Instr.loadAt 9 (.pointer (some (p.add k)))).run Tryz.prog w=.ok (.string l[k]) w:=by
 obtain⟨q,e,-,h0⟩:=h k (.string l[k]) (by simp[tvs,List.getElem?_eq_getElem hk])
 injection e with e
 subst e
 simp[go_sem,h0]
theorem ixS (p:Addr)(n c k:Nat)(h:k < n)(w:World):(Instr.indexAt 42 (.slice (some p) n c) (.int .i64 (k:Int))).run Tryz.prog w=.ok (.pointer (some (p.add k))) w:=by
 have h1:¬((k:Int) < 0):=by omega
 simp[go_sem,h1,h]
theorem QB8 {W:World} {b n:Nat} {v:Value} {l:List ByteArray}(h:W.ownsRow b 9 1 v n (tvs l)):∃ A c,v=.slice A n c∧n≤c∧StrsIn W W.heap.size A l∧(A=none→c=0):=by
 rcases h.2 with ⟨e1,e2⟩|⟨g,c,cur,e1,-,hh,hle,-⟩
 · subst e1 e2
   have h1:=h.1
   rw[QLQ] at h1
   obtain rfl:l=[]:=List.eq_nil_of_length_eq_zero (by omega)
   exact⟨none,0,rfl,Nat.le_refl _,fun j u h=>by simp[tvs] at h,fun _=>rfl⟩
 · subst e1
   have hv:=h.cells (g:=g) rfl
   exact⟨_,c,rfl,hle,fun j u hu=>⟨_,rfl,(Array.getElem?_eq_some_iff.1 hh).1,hv j u hu⟩,fun e=>by cases e⟩
theorem bsS (x:ByteArray)(w:World):(Instr.buildSlice 42 1 #[(0,.string x)]).run Tryz.prog w=.ok (.slice (some ⟨w.heap.size,0,none⟩) 1 1) (w.alloc (.cells #[.string x] 9)):=by simp[go_sem]
theorem QS3 (a:ByteArray)(w:World):(binOp .eql 9 (.string a) (.string a)).run Tryz.prog w=.ok (.bool true) w:=by simp[go_sem]
theorem gS (op:BinOp)(x y:Operand)(a b:ByteArray)(w:World):(eqGuard op 9 x y (.string a) (.string b)).run Tryz.prog w=.ok () w:=by simp[go_sem]
end Go.Proofs.YtmgcgiecimnncaaGreatDoor
