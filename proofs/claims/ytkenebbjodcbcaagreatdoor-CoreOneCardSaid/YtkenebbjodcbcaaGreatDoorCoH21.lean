/- Contracts and facts that the claim's proof wants (several texts in one). -/
import Derived.Test.YtkenebbjodcbcaaGreatDoorCoH19
import Derived.Test.YtkenebbjodcbcaaGreatDoorCoH20
namespace Go.Proofs.YtkenebbjodcbcaaGreatDoor
open Go.RowKit
set_option linter.unusedVariables false
set_option linter.unusedSimpArgs false
set_option maxRecDepth 20000
set_option maxHeartbeats 20000000
section
attribute [local go_sem ↓] QE6 QEx QEf QEi QEX QD7 QFI QE4
theorem QGP (a b bc f:Int)(ha:B8 a)(hB:B8 b)(hf:B8 f)(h0:0≤bc)(h1:bc≤65535)(w:World) :
 Calls Tryz.prog 145 #[.int .u8 a,.int .u8 b,.int .u16 bc,.int .u8 f] w fun e w'=>e=.returned (.int .u8 (moveF a b bc f))∧Below w.heap.size w w':=by
 have hn:=QFD a b
 have hq:(a+b)%256=QEt a b:=rfl
 have a0:=ha.1;have a1:=ha.2;have b0:=hB.1;have b1:=hB.2
 go_enter Tryz.func145,Tryz.ntmps145
 go_wp2_with (first
  | (go_at_call 153;refine (Qc _ hf.1 hf.2 _).mono ?_;rintro e w' ⟨rfl,hb⟩;have hsz:=hb.size)
  | (go_at_call 151;refine (QI _ _ (B8.lo (by assumption)) (B8.hi (by assumption)) _).mono ?_;rintro e w' ⟨rfl,rfl⟩)
  | (go_at_call 155;refine (QD _ _ _ _ _ _ _ _ _).mono ?_;rintro e w' ⟨rfl,hb⟩;have hsz:=hb.size))
 go_ret
 exact⟨rfl,(by repeat (first|exact Below.refl _ _|assumption|refine JZ ?_ (by assumption)|refine Below.drew ?_|refine Below.alloc ?_ (by first|(simp;done)|(simp;omega)|omega) _|refine Below.setCell ?_ (by first|(simp;done)|(simp;omega)|omega) _))⟩
theorem QFx (a b bc f:Int)(ha:B8 a)(hB:B8 b)(hf:B8 f)(h0:0≤bc)(h1:bc≤65535)(w:World) :
 Calls Tryz.prog 146 #[.int .u8 a,.int .u8 b,.int .u16 bc,.int .u8 f] w fun e w'=>e=.returned (.int .u8 (Zu a b bc f))∧Below w.heap.size w w':=by
 have hn:=QD9 a b
 have hs:=Lib.hid (fun w=>zT a b false ha hB w)
 have hg:=J9 a b false
 have hr:=J5 a b false
 have r0:=hr.1
 have r1:=hr.2
 have hm:Hid (Zu a b bc f=mkM (isM (QE a b false) 7) (isM (QE a b false) 6) (isM (lessM a b) 1) (isM (QE a b false) 4) (isM (lessM a b) 3) (bc != 0) true (isM f 0)):=Lib.hid rfl
 cases hc:isM (QE a b false) 4
 · have hl:=QIQ a b hc
   rw[hc] at hm
   generalize hR:QQ a b false=R at *
   generalize hG:QE a b false=G at *
   clear hR hG
   subst hl
   go_enter Tryz.func146,Tryz.ntmps146
   go_wp2_with (first
    | (go_at_call 165;refine (hs.out _).mono ?_;rintro e w' ⟨rfl,hb⟩;have hsz:=hb.size)
    | (go_at_call 153;refine (Qc _ (B8.lo (by assumption)) (B8.hi (by assumption)) _).mono ?_;rintro e w' ⟨rfl,hb⟩;have hsz:=hb.size)
    | (go_at_call 151;refine (QI _ _ (B8.lo (by assumption)) (B8.hi (by assumption)) _).mono ?_;rintro e w' ⟨rfl,rfl⟩)
    | (go_at_call 155;refine (QD _ _ _ _ _ _ _ _ _).mono ?_;rintro e w' ⟨rfl,hb⟩;have hsz:=hb.size))
   go_ret
   exact⟨by rw[hm.out];rfl,(by repeat (first|exact Below.refl _ _|assumption|refine JZ ?_ (by assumption)|refine Below.drew ?_|refine Below.alloc ?_ (by first|(simp;done)|(simp;omega)|omega) _|refine Below.setCell ?_ (by first|(simp;done)|(simp;omega)|omega) _))⟩
 · have hl:=QGc a b hc
   rw[hc] at hm
   generalize hR:QQ a b false=R at *
   generalize hG:QE a b false=G at *
   clear hR hG
   go_enter Tryz.func146,Tryz.ntmps146
   go_wp2_with (first
    | (go_at_call 165;refine (hs.out _).mono ?_;rintro e w' ⟨rfl,hb⟩;have hsz:=hb.size)
    | (go_at_call 153;refine (Qc _ (B8.lo (by assumption)) (B8.hi (by assumption)) _).mono ?_;rintro e w' ⟨rfl,hb⟩;have hsz:=hb.size)
    | (go_at_call 151;refine (QI _ _ (B8.lo (by assumption)) (B8.hi (by assumption)) _).mono ?_;rintro e w' ⟨rfl,rfl⟩)
    | (go_at_call 155;refine (QD _ _ _ _ _ _ _ _ _).mono ?_;rintro e w' ⟨rfl,hb⟩;have hsz:=hb.size))
   go_ret
   exact⟨by rw[hm.out];rfl,(by repeat (first|exact Below.refl _ _|assumption|refine JZ ?_ (by assumption)|refine Below.drew ?_|refine Below.alloc ?_ (by first|(simp;done)|(simp;omega)|omega) _|refine Below.setCell ?_ (by first|(simp;done)|(simp;omega)|omega) _))⟩
def zN (a b:Int):Nat→Int
 | 0=>0
 | k+1=>JQ (zN a b k) k (QFm (isM a k) (isM b k))
theorem QBO (a b:Int):∀ k,B8 (zN a b k)
 | 0=>B8.zero
 | k+1=>(QBO a b k).with _ _
theorem QHA (a b:Int):zN a b 8=Zf a b:=QIK _ _ _ _ _ _ _ _
theorem QDP (b left k:Int)(hB:B8 b)(hL:B8 left)(k0:0≤k)(k1:k≤510)(w:World) :
 Calls Tryz.prog 234 #[.int .u8 b,.int .u8 left,.int .i64 k] w fun e w'=>e=.returned (.int .u8 (Qs b k left))∧Below w.heap.size w w':=by
 have hr:=J7 left
 have hx:=QHA (k%8) left
 have h8:B8 (k%8):=⟨by omega,by omega⟩
 go_enter Tryz.func234,Tryz.ntmps234
 go_wp2_with (first
  | (go_at_call 167;refine (jp _ (B8.lo (by assumption)) (B8.hi (by assumption)) _).mono ?_;rintro e w' ⟨rfl,hb⟩;have hsz:=hb.size)
  | (go_at_call 153;refine (Qc _ (B8.lo (by assumption)) (B8.hi (by assumption)) _).mono ?_;rintro e w' ⟨rfl,hb⟩;have hsz:=hb.size))
 obtain⟨e7,e6,e5,e4,e3,e2,e1,e0⟩:=zv left
 rw[e7,e6,e5,e4,e3,e2,e1,e0]
 clear e7 e6 e5 e4 e3 e2 e1 e0
 go_loop [8,9] (fun p i=>∃ n:Nat,n≤8∧i=.int .i64 n∧p=.int .u8 (zN (k%8) left n)) (fun _ i=>8-(intOf i).toNat)
 case atStart=>exact⟨0,by omega,rfl,rfl⟩
 case round =>
  obtain⟨n,hn,rfl,rfl⟩:=hrel
  have hp:=QBO (k%8) left n
  by_cases hlt:n < 8
  · have HS:=Lib.hid (show zN (k%8) left (n+1)=JQ (zN (k%8) left n) n (QFm (isM (k%8) n) (isM left n)) from rfl)
    go_wp2_with (first
     | (go_at_call 151;refine (QI _ _ (B8.lo (by assumption)) (B8.hi (by assumption)) _).mono ?_;rintro e w' ⟨rfl,rfl⟩)
     | (go_at_call 103;refine (QL _ _ _ (B8.lo (by assumption)) (B8.hi (by assumption)) _).mono ?_;rintro e w' ⟨rfl,rfl⟩))
    go_round
    case rel=>exact⟨n+1,by omega,by go_num,by rw[HS.out];rfl⟩
    case measure=>simp[intOf];omega
  · obtain rfl:n=8:=by omega
    rw[hx] at hp ⊢
    go_wp2_with (first
     | (go_at_call 154;refine (QGN _ (B8.lo (by assumption)) (B8.hi (by assumption)) _).mono ?_;rintro e w' ⟨rfl,rfl⟩)
     | (go_at_call 151;refine (QI _ _ (B8.lo (by assumption)) (B8.hi (by assumption)) _).mono ?_;rintro e w' ⟨rfl,rfl⟩)
     | (go_at_call 155;refine (QD _ _ _ _ _ _ _ _ _).mono ?_;rintro e w' ⟨rfl,hb⟩;have hsz:=hb.size))
    go_ret
    exact⟨rfl,(by repeat (first|exact Below.refl _ _|assumption|refine JZ ?_ (by assumption)|refine Below.drew ?_|refine Below.alloc ?_ (by first|(simp;done)|(simp;omega)|omega) _|refine Below.setCell ?_ (by first|(simp;done)|(simp;omega)|omega) _))⟩
theorem QGf (y:Int):-255≤y.tmod 256∧y.tmod 256≤255∧(y.tmod 256)%256=y%256:=by
 rcases Int.le_total 0 y with h|h
 · rw[Int.tmod_eq_emod_of_nonneg h];omega
 · obtain⟨z,rfl⟩:∃ z,y=-z:=⟨-y,by omega⟩
   rw[Int.neg_tmod,Int.tmod_eq_emod_of_nonneg (by omega)];omega
theorem QGa (b c left s:Int)(hB:B8 b)(hc:B8 c)(hL:B8 left)(w:World) :
 Calls Tryz.prog 148 #[.int .u8 b,.int .u8 c,.int .u8 left,.int .i64 s] w fun e w'=>e=.returned (.int .u8 (Qs b (b+byC c s) left))∧Below w.heap.size w w':=by
 have hr:=QIe c s
 have r0:=hr.1;have r1:=hr.2
 have b0:=hB.1;have b1:=hB.2;have c0:=hc.1;have c1:=hc.2
 obtain⟨t0,t1,t2⟩:=QGf s
 have hq:∀ x:Int,-255≤x→x≤510→x%256=byC c s→(x.tmod 256+256).tmod 256=byC c s:=by
  intro x x0 x1 hx
  obtain⟨u0,u1,u2⟩:=QGf x
  rw[Int.tmod_eq_emod_of_nonneg (by omega)];omega
 have hu:=hq (c+s.tmod 256) (by omega) (by omega) (by unfold byC;omega)
 obtain⟨v0,v1,-⟩:=QGf (c+s.tmod 256)
 clear hq t2
 go_enter Tryz.func148,Tryz.ntmps148
 go_wp2_with (first
  | (go_at_call 234;refine (QDP _ _ _ (by assumption) (by assumption) (by omega) (by omega) _).mono ?_;rintro e w' ⟨rfl,hb⟩;have hsz:=hb.size))
 go_ret
 exact⟨rfl,(by repeat (first|exact Below.refl _ _|assumption|refine JZ ?_ (by assumption)|refine Below.drew ?_|refine Below.alloc ?_ (by first|(simp;done)|(simp;omega)|omega) _|refine Below.setCell ?_ (by first|(simp;done)|(simp;omega)|omega) _))⟩
theorem QGW (b l left:Int)(hB:B8 b)(hl:B8 l)(hL:B8 left)(w:World) :
 Calls Tryz.prog 149 #[.int .u8 b,.int .u8 l,.int .u8 left] w fun e w'=>e=.returned (.int .u8 (Qs b (b+l) left))∧Below w.heap.size w w':=by
 have b0:=hB.1;have b1:=hB.2;have l0:=hl.1;have l1:=hl.2
 go_enter Tryz.func149,Tryz.ntmps149
 go_wp2_with (first
  | (go_at_call 234;refine (QDP _ _ _ (by assumption) (by assumption) (by omega) (by omega) _).mono ?_;rintro e w' ⟨rfl,hb⟩;have hsz:=hb.size))
 go_ret
 exact⟨rfl,(by repeat (first|exact Below.refl _ _|assumption|refine JZ ?_ (by assumption)|refine Below.drew ?_|refine Below.alloc ?_ (by first|(simp;done)|(simp;omega)|omega) _|refine Below.setCell ?_ (by first|(simp;done)|(simp;omega)|omega) _))⟩
theorem ZC (kind f:Int)(hf:B8 f)(w:World) :
 Calls Tryz.prog 150 #[.int .i64 kind,.int .u8 f] w fun e w'=>e=.returned (.bool (Ji kind f))∧Below w.heap.size w w':=by
 by_cases hc:kind < 0∨4≤kind
 · rw[QEe kind f hc]
   have n0:(kind==0)=false:=by simp;omega
   have n1:(kind==1)=false:=by simp;omega
   have n2:(kind==2)=false:=by simp;omega
   have n3:(kind==3)=false:=by simp;omega
   clear hc
   go_enter Tryz.func150,Tryz.ntmps150
   go_wp2_with (first
    | (go_at_call 153;refine (Qc _ (B8.lo (by assumption)) (B8.hi (by assumption)) _).mono ?_;rintro e w' ⟨rfl,hb⟩;have hsz:=hb.size))
   go_ret
   exact⟨rfl,(by repeat (first|exact Below.refl _ _|assumption|refine JZ ?_ (by assumption)|refine Below.drew ?_|refine Below.alloc ?_ (by first|(simp;done)|(simp;omega)|omega) _|refine Below.setCell ?_ (by first|(simp;done)|(simp;omega)|omega) _))⟩
 · obtain rfl|rfl|rfl|rfl:kind=0∨kind=1∨kind=2∨kind=3:=by omega
   all_goals
    clear hc
    cases hp:isM f 2
    all_goals
     go_enter Tryz.func150,Tryz.ntmps150
     go_wp2_with (first
      | (go_at_call 153;refine (Qc _ (B8.lo (by assumption)) (B8.hi (by assumption)) _).mono ?_;rintro e w' ⟨rfl,hb⟩;have hsz:=hb.size))
     go_ret
     exact⟨Qn (by simp[Ji,hp]),(by repeat (first|exact Below.refl _ _|assumption|refine JZ ?_ (by assumption)|refine Below.drew ?_|refine Below.alloc ?_ (by first|(simp;done)|(simp;omega)|omega) _|refine Below.setCell ?_ (by first|(simp;done)|(simp;omega)|omega) _))⟩
end
theorem Js {s:Ws}(h:WsB s):B8 s.a:=h.r.af.hi
theorem QP {s:Ws}(h:WsB s):B8 s.f:=h.r.af.lo8
theorem Xs {s:Ws}(h:WsB s):Wd16 s.hl:=h.r.pair _ _
theorem idxS (ad:Addr)(n cap:Nat)(i:Int)(k:Nat)(hk:i=k)(hlt:k < n)(w:World):(Instr.indexAt 26 (.slice (some ad) n cap) (.int .i64 i)).run Tryz.prog w=.ok (.pointer (some (ad.add k))) w:=by
 subst hk
 have h0:(k:Int) < n:=by omega
 simp[go_sem,hlt]
theorem Xw (k:Int)(a:Int)(hAa:Wd16 a)(b:Int)(hAb:B8 b)(t:Int){s:Ws} {xs:List Int} {z:Zs} {w:World} {p B:Nat}(h:AtW w p B s xs z) :
 Calls Tryz.prog 63 #[pT p 0,.int .i64 k,.int .u16 a,.int .u8 b,.int .i64 t] w (OutX w p B .u8 xs ((QF ⟨k,a,b,t⟩ s).runZ xs z)):=by
 obtain⟨pos,lacks,asked⟩:=z
 have hz:=h.frozen
 cases lacks with
 | true =>
   have e:(QF ⟨k,a,b,t⟩ s).runZ xs ⟨pos,true,asked⟩=((0,s),⟨pos,true,asked⟩):=by simp[QF,Tr.runZ]
   have c22:=h.cell 22 (.bool true) (fun _ _ _=>rfl)
   go_enter Tryz.func63,Tryz.ntmps63
   go_wp2
   exact QO4 10 (.int .u8 0) rfl (by kernel_rfl) rfl (OutX.ok (k:=.u8) e B8.zero (NowW.begin h))
 | false =>
   have c22:=h.cell 22 (.bool false) (fun _ _ _=>rfl)
   have c21:=h.cell 21 (.int .i64 (pos:Int)) (fun _ _ _=>rfl)
   have hpos:=h.pos
   have hbig:=h.big
   have h0:=h
   have hb8:=h.bytes
   obtain⟨⟨A,cap,hc,hr,hby⟩,hl,h8,hm,ht,hg⟩:=h0
   have c20:w.cell? ⟨p,20,none⟩=some (.slice A xs.length cap):=hr.cell 20
   have c23:=hr.cell 23
   have c24:=hr.cell 24
   have c25:=hr.cell 25
   have c26:=hr.cell 26
   simp only[wC] at c23 c24 c25 c26
   have z21:=hr.frozen 21
   have z22:=hr.frozen 22
   have z23:=hr.frozen 23
   have z24:=hr.frozen 24
   have z25:=hr.frozen 25
   have z26:=hr.frozen 26
   clear hz
   by_cases hle:xs.length≤pos
   · have e:(QF ⟨k,a,b,t⟩ s).runZ xs ⟨pos,false,asked⟩=((0,s),⟨pos,true,⟨k,a,b,t⟩⟩):=by simp[QF,Tr.runZ,hle]
     have hge:(xs.length:Int)≤(pos:Int):=by omega
     go_enter Tryz.func63,Tryz.ntmps63
     go_wp2_with fail
     go_quiet (fail)
     go_wp2
     have hR:Row (w.drewN nq) p 112 (wC s A xs.length cap ⟨pos,false,asked⟩):=hr
     have hR2:=((((hR.set 22 (.bool true)).set 23 (.int .i64 k)).set 24 (.int .u16 a)).set 25 (.int .u8 b)).set 26 (.int .i64 t)
     have hO:∀ c,c≠p→((((((w.drewN nq).setCell ⟨p,22,none⟩ (.bool true)).setCell ⟨p,23,none⟩ (.int .i64 k)).setCell ⟨p,24,none⟩ (.int .u16 a)).setCell ⟨p,25,none⟩ (.int .u8 b)).setCell ⟨p,26,none⟩ (.int .i64 t)).heap[c]? = w.heap[c]?:=fun c hc =>
      (Below.heap_setCell _ _ _ c hc).trans ((Below.heap_setCell _ _ _ c hc).trans ((Below.heap_setCell _ _ _ c hc).trans ((Below.heap_setCell _ _ _ c hc).trans (Below.heap_setCell _ _ _ c hc))))
     refine QO4 10 (.int .u8 0) rfl (by kernel_rfl) rfl (OutX.ok (k:=.u8) e B8.zero ⟨⟨⟨A,cap,hc,hR2,hby.keep fun c hlt=>hO c (by omega)⟩,hl,h8,hm,ht,hg⟩,⟨rfl,rfl,rfl,by simp[World.setCell],fun c _ n1 _=>hO c n1⟩⟩)
   · have e:(QF ⟨k,a,b,t⟩ s).runZ xs ⟨pos,false,asked⟩=((xs.getD pos 0,s),⟨pos+1,false,asked⟩):=by simp[QF,Tr.runZ,hle]
     have hge:¬(xs.length:Int)≤(pos:Int):=by omega
     obtain⟨ad,hA,hlt,hcell⟩:=hby.at_ (k:=pos) (by omega)
     subst hA
     go_enter Tryz.func63,Tryz.ntmps63
     go_wp2_with fail
     go_quiet (fail)
     go_wp2_with fail
     have hR:Row (w.drewN nq) p 112 (wC s (some ad) xs.length cap ⟨pos,false,asked⟩):=hr
     have hR2:=hR.set 21 (.int .i64 ((pos:Int)+1))
     have hO:∀ c,c≠p→((w.drewN nq).setCell ⟨p,21,none⟩ (.int .i64 ((pos:Int)+1))).heap[c]? = w.heap[c]?:=fun c hc=>Below.heap_setCell _ _ _ c hc
     have hcell2:((w.drewN nq).setCell ⟨p,21,none⟩ (.int .i64 ((pos:Int)+1))).cell? (ad.add pos)=some (.int .u8 (xs.getD pos 0)):=(World.cell?_of_block (hO _ (by rw[add_block];omega))).trans hcell
     have hbes:Besides p p w ((w.drewN nq).setCell ⟨p,21,none⟩ (.int .i64 ((pos:Int)+1))):=⟨rfl,rfl,rfl,by simp[World.setCell],fun c _ n1 _=>hO c n1⟩
     have hat:AtW ((w.drewN nq).setCell ⟨p,21,none⟩ (.int .i64 ((pos:Int)+1))) p B s xs ⟨pos+1,false,asked⟩:=⟨⟨some ad,cap,hc,hR2,hby.keep fun c hlt=>hO c (by omega)⟩,hl,h8,hm,by show pos+1≤xs.length;omega,hg⟩
     clear c20 c21 c22 c23 c24 c25 c26 z21 z22 z23 z24 z25 z26 hcell hby hr h hR
     generalize (w.drewN nq).setCell ⟨p,21,none⟩ (.int .i64 ((pos:Int)+1))=W1 at *
     refine qW 11 (fun w'=>w'=W1.drew) (by kernel_rfl) (by kernel_rfl) rfl ?_
     intro w2 _ hS
     refine yM 0 44 (pT p 0) hS<|yN 1 45 p 0 hS<|yF 2 46 (fW1 p) hS<|yG 3 47 (.slice (some ad) xs.length cap) rfl (fun w hS=>by subst hS;exact jC rfl (by kernel_rfl) (ldS (hR2.drew.cell 20))) hS<|yM 4 48 (pT p 0) hS<|yN 5 49 p 0 hS<|yF 6 50 (fW2 p) hS<|yG 7 51 (.int .i64 ((pos:Int)+1)) rfl (fun w hS=>by subst hS;exact jC rfl (by kernel_rfl) (ldI (hR2.drew.cell 21))) hS<|yG 8 52 (.int .i64 ((pos:Int)+1-1)) rfl (fun w hS=>QDC (V:=.int .i64 ((pos:Int)+1)) (W:=.int .i64 1) (R:=.int .i64 ((pos:Int)+1-1)) rfl (by kernel_rfl) (by kernel_rfl) (egI _ _ _ _ _) (QF7 _ _ (by omega) (by omega)) w) hS<|yG 9 53 (.pointer (some (ad.add pos))) rfl (fun w hS=>QLc (V:=.slice (some ad) xs.length cap) (W:=.int .i64 ((pos:Int)+1-1)) rfl (by kernel_rfl) (by kernel_rfl) (idxS ad xs.length cap _ pos (by omega) (by omega) w)) hS<|yG 10 54 (.int .u8 (xs.getD pos 0)) rfl (fun w hS=>by subst hS;exact jC rfl (by kernel_rfl) (ld8 hcell2)) hS ?_
     refine QB4 (by kernel_rfl) ?_
     simp only[List.drop_succ_cons,List.drop_zero]
     try simp only[Act.put,sA,sB,sC]
     refine oA 10 (.int .u8 (xs.getD pos 0)) ?_
     refine JS ?_
     try simp only[Act.put,sA,sB,sC]
     go_wp2_with fail
     subst hS
     exact QO4 10 (.int .u8 (xs.getD pos 0)) rfl (by kernel_rfl) rfl (OutX.ok (k:=.u8) e (hb8.getD pos) ⟨hat.drew,hbes.drew⟩)
section
variable {ops:Array Oper} {Q:Exit→Act→World→Prop} {w w0:World} {o:Oper} {rest:List Oper} {base:List Value} {l:J0} {p B:Nat} {s:Ws} {xs:List Int} {z:Zs}
def wK (s:Ws)(z:Zs):Xf:=(((wC s none 0 0 z).toList.map some).set 20 none)
theorem QIL (s:Ws)(z:Zs)(A:Option Addr)(n cap:Nat):Kn (wK s z) (wC s A n cap z):=by
 refine⟨by simp[wK],fun k v hk=>?_⟩
 by_cases e:k=20
 · subst e;simp[wK] at hk
 · rw[wK,List.getElem?_set_ne (Ne.symm e)] at hk
   have h0:(wC s none 0 0 z)[k]? = some v:=by
    rw[←Array.getElem?_toList]
    exact QDU hk
   have h1:wC s A n cap z=(wC s none 0 0 z).setIfInBounds 20 (.slice A n cap):=rfl
   rw[h1,Array.getElem?_setIfInBounds_ne (Ne.symm e)]
   exact h0
theorem QPr {s s':Ws} {z:Zs} {A:Option Addr} {n cap:Nat} {full:Array Value}(hk:Kn (wK s' z) full)(hs:Same (wK s z) (wC s A n cap z) (wK s' z) full):full=wC s' A n cap z:=by
 apply Array.ext_getElem?
 intro k
 by_cases e:k=20
 · subst e
   have:=(hs 20 (by simp[wK])).2
   rw[this];rfl
 · have hkn:=QIL s' z A n cap
   by_cases hl:k < 31
   · have hsome:∃ v,(wK s' z)[k]? = some (some v):=by
      rw[wK,List.getElem?_set_ne (Ne.symm e),List.getElem?_map]
      have:k < (wC s' none 0 0 z).toList.length:=hl
      rw[List.getElem?_eq_getElem this]
      exact⟨_,rfl⟩
     obtain⟨v,hv⟩:=hsome
     rw[hk.at_ k v hv,hkn.at_ k v hv]
   · rw[Array.getElem?_eq_none (by rw[hk.size];simp[wK];omega),Array.getElem?_eq_none (by simp;omega)]
abbrev eW (P:Program)(ops:Array Oper)(w:World)(p:Nat)(base:List Value)(os:List Oper)(l:J0)(s:Ws)(z:Zs):Ev:=evs P ops w p base.length base os l (wK s z) [] []
theorem NowW.put {w':World} {A:Option Addr} {cap:Nat} {s':Ws}(hn:NowW w0 p B s xs z w)(hc:xs.length≤cap)(hby:BytesIn w B A xs)(hm:WsB s')(hr:Row w' p 112 (wC s' A xs.length cap z))(hb:Besides p p w w'):NowW w0 p B s' xs z w':=by
 have k:∀ b,b < B→w'.heap[b]? = w.heap[b]?:=fun b hlt=>hb.block b (by have:=hn.at_.lt;have:=hn.at_.low;omega) (by have:=hn.at_.low;omega) (by have:=hn.at_.low;omega)
 exact⟨⟨⟨A,cap,hc,hr,hby.keep k⟩,hn.at_.low,hn.at_.bytes,hm,hn.at_.pos,hn.at_.big⟩,hn.bes.trans hb⟩
theorem zR (n:Nat)(hn:NowW w0 p B s xs z w)(h:WO Tryz.prog ops Q base (rest.drop n) (eW Tryz.prog ops w p base (rest.take n) l s z).l w)(ha:(rest.take n).all zC=true:=by kernel_rfl)
 (hk:okE (eW Tryz.prog ops w p base (rest.take n) l s z) (wK s z):=by unfold okE;kernel_rfl):WO Tryz.prog ops Q base rest l w:=by
 obtain⟨A,cap,hc,hr,hby⟩:=hn.at_.row
 exact QGu n hr (QIL ..) hk fun w' _ e _ _ _ _=>by rw[e ha];exact h
theorem zFs (hn:NowW w0 p B s xs z w)(s':Ws)(hm:WsB s')(h:∀ w',NowW w0 p B s' xs z w'→EO Q .normal base (eW Tryz.prog ops w p base rest l s z).l w')
 (hk:okE (eW Tryz.prog ops w p base rest l s z) (wK s' z):=by unfold okE;kernel_rfl):WO Tryz.prog ops Q base rest l w:=by
 obtain⟨A,cap,hc,hr,hby⟩:=hn.at_.row
 exact QDs hr (QIL ..) hk fun w' full' _ hr' hK hs hb=>woE (h w' (hn.put hc hby hm (by rw[←QPr hK hs];exact hr') hb))
theorem zF (hn:NowW w0 p B s xs z w)(h:EO Q .normal base (eW Tryz.prog ops w p base rest l s z).l w)(ha:rest.all zC=true:=by kernel_rfl)
 (hk:okE (eW Tryz.prog ops w p base rest l s z) (wK s z):=by unfold okE;kernel_rfl):WO Tryz.prog ops Q base rest l w:=by
 obtain⟨A,cap,hc,hr,hby⟩:=hn.at_.row
 exact QDs hr (QIL ..) hk fun w' _ e _ _ _ _=>by rw[e ha];exact woE h
theorem zEs {y:Code}(hn:NowW w0 p B s xs z w)(s':Ws)(hm:WsB s')(h:∀ w',NowW w0 p B s' xs z w'→CO Tryz.prog y Q base (eW Tryz.prog ops w p base rest l s z).l w')
 (hk:okE (eW Tryz.prog ops w p base rest l s z) (wK s' z):=by unfold okE;kernel_rfl):WO Tryz.prog ops (Exit.then (y.wp Tryz.prog Q) Q) base rest l w:=zFs hn s' hm (fun w' k=>eoT (h w' k)) hk
theorem zE {y:Code}(hn:NowW w0 p B s xs z w)(h:CO Tryz.prog y Q base (eW Tryz.prog ops w p base rest l s z).l w)(ha:rest.all zC=true:=by kernel_rfl)
 (hk:okE (eW Tryz.prog ops w p base rest l s z) (wK s z):=by unfold okE;kernel_rfl):WO Tryz.prog ops (Exit.then (y.wp Tryz.prog Q) Q) base rest l w:=zF hn (eoT h) ha hk
theorem zQs {y:Code} {id:Nat}(hn:NowW w0 p B s xs z w)(s':Ws)(hm:WsB s')(h:∀ w',NowW w0 p B s' xs z w'→CO Tryz.prog y Q base (eW Tryz.prog rest.toArray w p base rest l s z).l w')
 (hk:okE (eW Tryz.prog rest.toArray w p base rest l s z) (wK s' z):=by unfold okE;kernel_rfl):CO Tryz.prog (.seq (.region id rest.toArray false) y) Q base l w:=coR (zEs hn s' hm h hk)
theorem zQ {y:Code} {id:Nat}(hn:NowW w0 p B s xs z w)(h:CO Tryz.prog y Q base (eW Tryz.prog rest.toArray w p base rest l s z).l w)(ha:rest.all zC=true:=by kernel_rfl)
 (hk:okE (eW Tryz.prog rest.toArray w p base rest l s z) (wK s z):=by unfold okE;kernel_rfl):CO Tryz.prog (.seq (.region id rest.toArray false) y) Q base l w:=coR (zE hn h ha hk)
def SW (w0:World)(p B:Nat)(s:Ws)(xs:List Int)(z:Zs)(w:World):Prop:=NowW w0 p B s xs z w
theorem zP (n:Nat){id:Nat} {y:Code}(hn:NowW w0 p B s xs z w)(h:∀ w',NowW w0 p B s xs z w'→PO Tryz.prog ops (Exit.then (y.wp Tryz.prog Q) Q) (SW w0 p B s xs z) n base n (Array.replicate ops.size false) l w')
 (hB:Q0 ops n=true:=by kernel_rfl)(hm:(Tryz.prog).follows .mixedOrders=true:=by kernel_rfl):CO Tryz.prog (.seq (.region id ops true) y) Q base l w:=coP n hn.drew (h _ hn.drew) hB hm
theorem zPz (n:Nat){id:Nat}(hn:NowW w0 p B s xs z w)(h:∀ w',NowW w0 p B s xs z w'→PO Tryz.prog ops Q (SW w0 p B s xs z) n base n (Array.replicate ops.size false) l w')
 (hB:Q0 ops n=true:=by kernel_rfl)(hm:(Tryz.prog).follows .mixedOrders=true:=by kernel_rfl):CO Tryz.prog (.region id ops true) Q base l w:=QRT n hn.drew (h _ hn.drew) hB hm
theorem zD {n f:Nat} {listed:Array Bool}(is:List Nat)(hn:NowW w0 p B s xs z w)(h:PO Tryz.prog ops Q (SW w0 p B s xs z) n base (f-is.length) (QKm is listed) (eW Tryz.prog ops w p base (atO ops is) l s z).l w)
 (hk:okE (eW Tryz.prog ops w p base (atO ops is) l s z) (wK s z):=by unfold okE;kernel_rfl)(ha:((atO ops is).all zC&&(QEE ops n is listed&&(Q0 ops n&&Nat.ble is.length f)))=true:=by kernel_rfl)
 (hQ:∀ d v c a w,Q (.panic c) (a.put d v) w→Q (.panic c) a w:=by intro d _ _ _ _ h;cases d<;>exact h):PO Tryz.prog ops Q (SW w0 p B s xs z) n base f listed l w:=by
 simp only[Bool.and_eq_true] at ha
 obtain⟨a1,a2,a3,a4⟩:=ha
 simp only[okE,Prod.mk.injEq] at hk
 obtain⟨h1,_,h3,h4⟩:=hk
 have hle:is.length≤f:=by simpa using a4
 have:=QAK (cs:=wK s z) (ty:=112) (base:=base) (W:=w) a3 hQ (fun w' hs=>by
  have hs:NowW w0 p B s xs z w':=hs
  obtain⟨A,cap,hc,hr,hby⟩:=hs.at_.row
  exact⟨_,hr,QIL ..⟩) is (f-is.length) listed l [] [] w h1 (Q1 h3) (Q1 h4) a1 a2 hn h
 rwa [Nat.sub_add_cancel hle] at this
theorem zDo' {n f:Nat} {listed:Array Bool} {V:Value} {N:World→Prop} {g:FuncId} {args:Array Value}(i:Nat)(hc:Calls Tryz.prog g args w fun e w'=>e=.returned V∧N w'∧SW w0 p B s xs z w')(h:∀ w',N w'→SW w0 p B s xs z w'→PO Tryz.prog ops Q (SW w0 p B s xs z) n base (f-1) (listed.setIfInBounds i true) (XL o.dst V l) w')
 (ho:ops[i]? = some o:=by exact rfl)(hr:(Region.ready .any ops listed,decide (i < n),Nat.blt 0 f,QA ops base.length base l o,XH o.dst base.length)=([i],true,true,some true,true):=by kernel_rfl)
 (he:(execOp (evO base l) o).run Tryz.prog w=.ok (.enter g args) w:=by kernel_rfl):PO Tryz.prog ops Q (SW w0 p B s xs z) n base f listed l w:=by
 simp only[Prod.mk.injEq] at hr
 obtain⟨h1,h2,h3,h4,h5⟩:=hr
 have hf:f=(f-1)+1:=by have:0 < f:=by simpa [Nat.blt_eq] using h3
                       omega
 rw[hf]
 exact QHP ho h1 h2 h4 he h5 hc fun e w' ⟨e1,e2,e3⟩=>by subst e1;exact⟨e3,h w' e2 e3⟩
theorem zDo {n f:Nat} {listed:Array Bool} {V:Value} {g:FuncId} {args:Array Value}(i:Nat)(hc:Calls Tryz.prog g args w fun e w'=>e=.returned V∧NowW w0 p B s xs z w')(h:∀ w',NowW w0 p B s xs z w'→PO Tryz.prog ops Q (SW w0 p B s xs z) n base (f-1) (listed.setIfInBounds i true) (XL o.dst V l) w')
 (ho:ops[i]? = some o:=by exact rfl)(hr:(Region.ready .any ops listed,decide (i < n),Nat.blt 0 f,QA ops base.length base l o,XH o.dst base.length)=([i],true,true,some true,true):=by kernel_rfl)
 (he:(execOp (evO base l) o).run Tryz.prog w=.ok (.enter g args) w:=by kernel_rfl):PO Tryz.prog ops Q (SW w0 p B s xs z) n base f listed l w :=
 zDo' i (hc.mono fun e w' k=>⟨k.1,k.2,k.2⟩) (fun w' k _=>h w' k) ho hr he
theorem zDe {n f:Nat} {listed:Array Bool} {V:Value} {g:FuncId} {args:Array Value}(i:Nat)(hc:Calls Tryz.prog g args w fun e w'=>e=.returned V∧w=w')(hn:NowW w0 p B s xs z w)(h:PO Tryz.prog ops Q (SW w0 p B s xs z) n base (f-1) (listed.setIfInBounds i true) (XL o.dst V l) w)
 (ho:ops[i]? = some o:=by exact rfl)(hr:(Region.ready .any ops listed,decide (i < n),Nat.blt 0 f,QA ops base.length base l o,XH o.dst base.length)=([i],true,true,some true,true):=by kernel_rfl)
 (he:(execOp (evO base l) o).run Tryz.prog w=.ok (.enter g args) w:=by kernel_rfl):PO Tryz.prog ops Q (SW w0 p B s xs z) n base f listed l w :=
 zDo' i (hc.mono fun e w' k=>⟨k.1,k.2,by rw[←k.2];exact hn⟩) (fun w' e _=>by rw[←e];exact h) ho hr he
theorem zDb {n f:Nat} {listed:Array Bool} {V:Value} {g:FuncId} {args:Array Value}(i:Nat)(hc:Calls Tryz.prog g args w fun e w'=>e=.returned V∧Below w.heap.size w w')(hn:NowW w0 p B s xs z w)(h:∀ w',NowW w0 p B s xs z w'→PO Tryz.prog ops Q (SW w0 p B s xs z) n base (f-1) (listed.setIfInBounds i true) (XL o.dst V l) w')
 (ho:ops[i]? = some o:=by exact rfl)(hr:(Region.ready .any ops listed,decide (i < n),Nat.blt 0 f,QA ops base.length base l o,XH o.dst base.length)=([i],true,true,some true,true):=by kernel_rfl)
 (he:(execOp (evO base l) o).run Tryz.prog w=.ok (.enter g args) w:=by kernel_rfl):PO Tryz.prog ops Q (SW w0 p B s xs z) n base f listed l w :=
 zDo i (hc.mono fun e w' k=>⟨k.1,hn.below k.2⟩) h ho hr he
theorem zDa {n f:Nat} {listed:Array Bool} {V:Value} {g:FuncId} {args:Array Value}(i:Nat)(hc:Calls Tryz.prog g args w fun e w'=>e=.returned V∧NowW w p B s xs z w')(hn:NowW w0 p B s xs z w)(h:∀ w',NowW w0 p B s xs z w'→PO Tryz.prog ops Q (SW w0 p B s xs z) n base (f-1) (listed.setIfInBounds i true) (XL o.dst V l) w')
 (ho:ops[i]? = some o:=by exact rfl)(hr:(Region.ready .any ops listed,decide (i < n),Nat.blt 0 f,QA ops base.length base l o,XH o.dst base.length)=([i],true,true,some true,true):=by kernel_rfl)
 (he:(execOp (evO base l) o).run Tryz.prog w=.ok (.enter g args) w:=by kernel_rfl):PO Tryz.prog ops Q (SW w0 p B s xs z) n base f listed l w :=
 zDo i (hc.mono fun e w' k=>⟨k.1,hn.after k.2⟩) h ho hr he
theorem zX0 {k:IntKind} {X:(Int×Ws)×Zs} {g:FuncId} {args:Array Value}(hc:Calls Tryz.prog g args w (OutX w p B k xs X))(hn:NowW w0 p B s xs z w)
 (hK:∀ v s z w',X=((v,s),z)→kB k v→NowW w0 p B s xs z w'→WO Tryz.prog ops Q base rest (XL o.dst (.int k v) l) w')
 (hg:QA ops base.length base l o=some true:=by kernel_rfl)(he:(execOp (evO base l) o).run Tryz.prog w=.ok (.enter g args) w:=by kernel_rfl)(hd:XH o.dst base.length=true:=by kernel_rfl):WO Tryz.prog ops Q base (o :: rest) l w :=
 QCd hg he hd hc fun e w' ho=>by
  obtain⟨rfl,hk,hN⟩:=ho
  exact hK _ _ _ w' rfl hk (hn.after hN)
theorem zY0 {X:Ws×Zs} {g:FuncId} {args:Array Value}(hc:Calls Tryz.prog g args w (OutY w p B xs X))(hn:NowW w0 p B s xs z w)
 (hK:∀ s z w',X=(s,z)→NowW w0 p B s xs z w'→WO Tryz.prog ops Q base rest (XL o.dst (.tuple #[]) l) w')
 (hg:QA ops base.length base l o=some true:=by kernel_rfl)(he:(execOp (evO base l) o).run Tryz.prog w=.ok (.enter g args) w:=by kernel_rfl)(hd:XH o.dst base.length=true:=by kernel_rfl):WO Tryz.prog ops Q base (o :: rest) l w :=
 QCd hg he hd hc fun e w' ho=>by
  obtain⟨rfl,hN⟩:=ho
  exact hK _ _ w' rfl (hn.after hN)
theorem zX {β:Type} {k:IntKind} {T:Tr (Int×Ws)} {f:Int×Ws→Tr β} {G:β×Zs} {g:FuncId} {args:Array Value}(hc:Calls Tryz.prog g args w (OutX w p B k xs (T.runZ xs z)))(hn:NowW w0 p B s xs z w)(hr:G=(T.bind f).runZ xs z)
 (hK:∀ v s z' w',kB k v→NowW w0 p B s xs z' w'→G=(f (v,s)).runZ xs z'→WO Tryz.prog ops Q base rest (XL o.dst (.int k v) l) w')
 (hg:QA ops base.length base l o=some true:=by kernel_rfl)(he:(execOp (evO base l) o).run Tryz.prog w=.ok (.enter g args) w:=by kernel_rfl)(hd:XH o.dst base.length=true:=by kernel_rfl):WO Tryz.prog ops Q base (o :: rest) l w :=
 zX0 hc hn (fun v s z' w' hX hk hN=>hK v s z' w' hk hN (hr.trans (QBi hX _))) hg he hd
theorem zY {β:Type} {T:Tr Ws} {f:Ws→Tr β} {G:β×Zs} {g:FuncId} {args:Array Value}(hc:Calls Tryz.prog g args w (OutY w p B xs (T.runZ xs z)))(hn:NowW w0 p B s xs z w)(hr:G=(T.bind f).runZ xs z)
 (hK:∀ s z' w',NowW w0 p B s xs z' w'→G=(f s).runZ xs z'→WO Tryz.prog ops Q base rest (XL o.dst (.tuple #[]) l) w')
 (hg:QA ops base.length base l o=some true:=by kernel_rfl)(he:(execOp (evO base l) o).run Tryz.prog w=.ok (.enter g args) w:=by kernel_rfl)(hd:XH o.dst base.length=true:=by kernel_rfl):WO Tryz.prog ops Q base (o :: rest) l w :=
 zY0 hc hn (fun s z' w' hX hN=>hK s z' w' hN (hr.trans (QBi hX _))) hg he hd
theorem zYt {T:Tr Ws} {G:Ws×Zs} {g:FuncId} {args:Array Value}(hc:Calls Tryz.prog g args w (OutY w p B xs (T.runZ xs z)))(hn:NowW w0 p B s xs z w)(hr:G=T.runZ xs z)
 (hK:∀ s z' w',NowW w0 p B s xs z' w'→G=(s,z')→WO Tryz.prog ops Q base rest (XL o.dst (.tuple #[]) l) w')
 (hg:QA ops base.length base l o=some true:=by kernel_rfl)(he:(execOp (evO base l) o).run Tryz.prog w=.ok (.enter g args) w:=by kernel_rfl)(hd:XH o.dst base.length=true:=by kernel_rfl):WO Tryz.prog ops Q base (o :: rest) l w :=
 zY0 hc hn (fun s z' w' hX hN=>hK s z' w' hN (hr.trans hX)) hg he hd
theorem zBB {V:Value} {g:FuncId} {args:Array Value}(hc:Calls Tryz.prog g args w fun e w'=>e=.returned V∧Below w.heap.size w w')(hn:NowW w0 p B s xs z w)(h:∀ w',NowW w0 p B s xs z w'→WO Tryz.prog ops Q base rest (XL o.dst V l) w')
 (hg:QA ops base.length base l o=some true:=by kernel_rfl)(he:(execOp (evO base l) o).run Tryz.prog w=.ok (.enter g args) w:=by kernel_rfl)(hd:XH o.dst base.length=true:=by kernel_rfl):WO Tryz.prog ops Q base (o :: rest) l w :=
 kO hc (fun w' hb=>h w' (hn.below hb)) hg he hd
theorem zAA {V:Value} {s':Ws} {z':Zs} {g:FuncId} {args:Array Value}(hc:Calls Tryz.prog g args w fun e w'=>e=.returned V∧NowW w p B s' xs z' w')(hn:NowW w0 p B s xs z w)(h:∀ w',NowW w0 p B s' xs z' w'→WO Tryz.prog ops Q base rest (XL o.dst V l) w')
 (hg:QA ops base.length base l o=some true:=by kernel_rfl)(he:(execOp (evO base l) o).run Tryz.prog w=.ok (.enter g args) w:=by kernel_rfl)(hd:XH o.dst base.length=true:=by kernel_rfl):WO Tryz.prog ops Q base (o :: rest) l w :=
 kO hc (fun w' hk=>h w' (hn.after hk)) hg he hd
end
section
variable {α β:Type} {xs:List Int} {z:Zs} {G:β×Zs} {c:Prop} [Decidable c]
theorem dZ {a:β}(h:G=(Tr.done a).runZ xs z):G=(a,z):=h
theorem pZ {t e:Tr β}(h:G=(if c then t else e).runZ xs z)(hc:c:=by first|assumption|omega):G=t.runZ xs z:=h.trans (JX hc)
theorem qZ {t e:Tr β}(h:G=(if c then t else e).runZ xs z)(hc:¬c:=by first|assumption|omega):G=e.runZ xs z:=h.trans (JP hc)
theorem pbZ {t e:Tr α} {f:α→Tr β}(h:G=((if c then t else e).bind f).runZ xs z)(hc:c:=by first|assumption|omega):G=(t.bind f).runZ xs z:=h.trans (zG hc)
theorem qbZ {t e:Tr α} {f:α→Tr β}(h:G=((if c then t else e).bind f).runZ xs z)(hc:¬c:=by first|assumption|omega):G=(e.bind f).runZ xs z:=h.trans (q9 hc)
variable {P:Program} {Q:Exit→Act→World→Prop} {base:List Value} {l:J0} {w:World}
theorem zIf {t e:Tr β} {o:Operand} {x y:Code}(h:G=(if c then t else e).runZ xs z)(h1:c→G=t.runZ xs z→CO P x Q base l w)(h2:¬c→G=e.runZ xs z→CO P y Q base l w)(hc:evO base l o=.bool (decide c):=by kernel_rfl):CO P (.cond o x y) Q base l w :=
 coI (decide c) (fun k=>h1 (of_decide_eq_true k) (pZ h (of_decide_eq_true k))) (fun k=>h2 (of_decide_eq_false k) (qZ h (of_decide_eq_false k))) hc
end
theorem Jo (n:Int){s:Ws} {xs:List Int} {z:Zs} {w:World} {p B:Nat}(h:AtW w p B s xs z) :
 Calls Tryz.prog 87 #[pT p 0,.int .i64 (n)] w (OutY w p B xs ((JO n s).runZ xs z)):=by
 have hn:=NowW.begin h
 have hr:(JO n s).runZ xs z=(JO n s).runZ xs z:=rfl
 go_enter Tryz.func87,Tryz.ntmps87
 exact JB<|coZ<|zR 2 hn<|zX (Xw 7 0 (⟨by decide,by decide⟩) 0 (⟨by decide,by decide⟩) n hn.at_) hn hr<|fun v1 s1 z1 w1 hk1 hn hr=>woE<|eoV (OutY.ok (dZ hr) hn)
theorem QOH  {s:Ws} {xs:List Int} {z:Zs} {w:World} {p B:Nat}(h:AtW w p B s xs z) :
 Calls Tryz.prog 64 #[pT p 0] w (fun e w'=>e=.returned (.tuple #[])∧NowW w p B (s.tick) xs z w'):=by
 have hn:=NowW.begin h
 go_enter Tryz.func64,Tryz.ntmps64
 exact JB<|have b1:=hn.at_.ms.r;coZ<|zR 5 hn<|zBB (QCm s.r 1 (b1).r _) hn<|fun w2 hn=>zFs hn _ (hn.at_.ms.u_rg ((b1).tick _))<|fun w3 hn=>eoV (⟨rfl,hn⟩)
theorem Xb (a:Int)(hAa:Wd16 a){s:Ws} {xs:List Int} {z:Zs} {w:World} {p B:Nat}(h:AtW w p B s xs z) :
 Calls Tryz.prog 118 #[pT p 0,.int .u16 (a)] w (OutX w p B .u8 xs ((Jm a s).runZ xs z)):=by
 have hn:=NowW.begin h
 have hr:(Jm a s).runZ xs z=(Jm a s).runZ xs z:=rfl
 go_enter Tryz.func118,Tryz.ntmps118
 exact JB<|zQ hn<|coR<|zR 2 hn<|zX (Xw 2 a (hAa) 0 (⟨by decide,by decide⟩) 3 hn.at_) hn hr<|fun v3 s3 z3 w3 hk3 hn hr=>zE hn<|JF<|Jj (.int .u8 (v3)) (OutX.ok (dZ hr) (hk3) hn)
theorem Q3 (a:Int)(hAa:Wd16 a)(b:Int)(hAb:B8 b){s:Ws} {xs:List Int} {z:Zs} {w:World} {p B:Nat}(h:AtW w p B s xs z) :
 Calls Tryz.prog 144 #[pT p 0,.int .u16 (a),.int .u8 (b)] w (OutY w p B xs ((Jb a b s).runZ xs z)):=by
 have hn:=NowW.begin h
 have hr:(Jb a b s).runZ xs z=(Jb a b s).runZ xs z:=rfl
 go_enter Tryz.func144,Tryz.ntmps144
 exact JB<|coZ<|zR 3 hn<|zX (Xw 3 a (hAa) b (hAb) 3 hn.at_) hn hr<|fun v1 s1 z1 w1 hk1 hn hr=>woE<|eoV (OutY.ok (dZ hr) hn)
theorem QB6  {s:Ws} {xs:List Int} {z:Zs} {w:World} {p B:Nat}(h:AtW w p B s xs z) :
 Calls Tryz.prog 66 #[pT p 0] w (OutX w p B .u8 xs ((Je s).runZ xs z)):=by
 have hn:=NowW.begin h
 have hr:(Je s).runZ xs z=(Je s).runZ xs z:=rfl
 go_enter Tryz.func66,Tryz.ntmps66
 exact JB<|zQ hn<|have b3:=hn.at_.ms.r.pc;coR<|zR 6 hn<|zX (Xw 1 s.r.pc (b3) 0 (⟨by decide,by decide⟩) 4 hn.at_) hn hr<|fun v4 s4 z4 w4 hk4 hn hr=>zE hn<|have b6:=hn.at_.ms.r.pc;zQs hn (.u_pc _ ((s4.r.pc+1)%65536)) (hn.at_.ms.u_pc (Wd16.mod _))<|fun w7 hn=>coR<|zR 1 hn<|zAA (QOH hn.at_) hn<|fun w9 hn=>wT<|zQ hn<|JF<|Jj (.int .u8 (v4)) (OutX.ok (dZ hr) (hk4) hn)
theorem XP  {s:Ws} {xs:List Int} {z:Zs} {w:World} {p B:Nat}(h:AtW w p B s xs z) :
 Calls Tryz.prog 84 #[pT p 0] w (OutX w p B .u8 xs ((JU s).runZ xs z)):=by
 have hn:=NowW.begin h
 have hr:(JU s).runZ xs z=(JU s).runZ xs z:=rfl
 go_enter Tryz.func84,Tryz.ntmps84
 exact JB<|zQ hn<|have b3:=hn.at_.ms.r.pc;coR<|zR 6 hn<|zX (Xb s.r.pc (b3) hn.at_) hn hr<|fun v4 s4 z4 w4 hk4 hn hr=>zE hn<|have b6:=hn.at_.ms.r.pc;zQs hn (.u_pc _ ((s4.r.pc+1)%65536)) (hn.at_.ms.u_pc (Wd16.mod _))<|fun w7 hn=>zQ hn<|JF<|Jj (.int .u8 (v4)) (OutX.ok (dZ hr) (hk4) hn)
theorem QCg  {s:Ws} {xs:List Int} {z:Zs} {w:World} {p B:Nat}(h:AtW w p B s xs z) :
 Calls Tryz.prog 163 #[pT p 0] w (OutX w p B .u16 xs ((Ju s).runZ xs z)):=by
 have hn:=NowW.begin h
 have hr:(Ju s).runZ xs z=(Ju s).runZ xs z:=rfl
 go_enter Tryz.func163,Tryz.ntmps163
 exact JB<|zQ hn<|coR<|zR 1 hn<|zX (XP hn.at_) hn hr<|fun v3 s3 z3 w3 hk3 hn hr=>zE hn<|coR<|zR 1 hn<|zX (XP hn.at_) hn hr<|fun v5 s5 z5 w5 hk5 hn hr=>zE hn<|coR<|zR 2 hn<|kE (QV v5 v3 (hk5).1 (hk5).2 (hk3).1 (hk3).2 _)<|zE hn<|JF<|Jj (.int .u16 (256*v5+v3)) (OutX.ok (dZ hr) (Wd16.mk8 (hk5) (hk3)) hn)
theorem QGr (x:Int)(hAx:Wd16 x){s:Ws} {xs:List Int} {z:Zs} {w:World} {p B:Nat}(h:AtW w p B s xs z) :
 Calls Tryz.prog 185 #[pT p 0,.int .u16 (x)] w (OutY w p B xs ((Jy x s).runZ xs z)):=by
 have hn:=NowW.begin h
 have hr:(Jy x s).runZ xs z=(Jy x s).runZ xs z:=rfl
 go_enter Tryz.func185,Tryz.ntmps185
 exact JB<|have b2:=hn.at_.ms.r.sp;zQs hn (.u_sp _ ((s.r.sp-1)%65536)) (hn.at_.ms.u_sp (Wd16.mod _))<|fun w3 hn=>zP 8 hn<|fun w5 hn=>have b6:=hn.at_.ms.r.sp;zD [0,1,2,3,4,5,6] hn<|zDe 7 (Xd x (hAx).1 (hAx).2 _) hn<|poE<|zY (Q3 ((s.u_sp ((s.r.sp-1)%65536)).r.sp) (b6) (x / 256) ((hAx).hi) hn.at_) hn hr<|fun s8 z8 w8 hn hr=>wT<|have b10:=hn.at_.ms.r.sp;zQs hn (.u_sp _ ((s8.r.sp-1)%65536)) (hn.at_.ms.u_sp (Wd16.mod _))<|fun w11 hn=>zPz 8 hn<|fun w12 hn=>have b13:=hn.at_.ms.r.sp;zD [0,1,2,3,4,5,6] hn<|zDe 7 (Q4 x (hAx).1 (hAx).2 _) hn<|poE<|zY (Q3 ((s8.u_sp ((s8.r.sp-1)%65536)).r.sp) (b13) (x%256) ((hAx).lo8) hn.at_) hn hr<|fun s15 z15 w15 hn hr=>woE<|eoV (OutY.ok (dZ hr) hn)
theorem QNm  {s:Ws} {xs:List Int} {z:Zs} {w:World} {p B:Nat}(h:AtW w p B s xs z) :
 Calls Tryz.prog 166 #[pT p 0] w (OutX w p B .u16 xs ((QX s).runZ xs z)):=by
 have hn:=NowW.begin h
 have hr:(QX s).runZ xs z=(QX s).runZ xs z:=rfl
 go_enter Tryz.func166,Tryz.ntmps166
 exact JB<|zQ hn<|have b3:=hn.at_.ms.r.sp;coR<|zR 6 hn<|zX (Xb s.r.sp (b3) hn.at_) hn hr<|fun v4 s4 z4 w4 hk4 hn hr=>zE hn<|have b6:=hn.at_.ms.r.sp;zQs hn (.u_sp _ ((s4.r.sp+1)%65536)) (hn.at_.ms.u_sp (Wd16.mod _))<|fun w7 hn=>have b9:=hn.at_.ms.r.sp;coR<|zR 6 hn<|zX (Xb ((s4.u_sp ((s4.r.sp+1)%65536)).r.sp) (b9) hn.at_) hn hr<|fun v10 s10 z10 w10 hk10 hn hr=>zE hn<|have b12:=hn.at_.ms.r.sp;zQs hn (.u_sp _ ((s10.r.sp+1)%65536)) (hn.at_.ms.u_sp (Wd16.mod _))<|fun w13 hn=>coR<|zR 2 hn<|kE (QV v10 v4 (hk10).1 (hk10).2 (hk4).1 (hk4).2 _)<|zE hn<|JF<|Jj (.int .u16 (256*v10+v4)) (OutX.ok (dZ hr) (Wd16.mk8 (hk10) (hk4)) hn)
theorem w_a  {s:Ws} {xs:List Int} {z:Zs} {w:World} {p B:Nat}(h:AtW w p B s xs z) :
 Calls Tryz.prog 102 #[pT p 0] w (fun e w'=>e=.returned (.int .u8 (s.a))∧NowW w p B (s) xs z w'):=by
 have hn:=NowW.begin h
 go_enter Tryz.func102,Tryz.ntmps102
 exact JB<|zQ hn<|have b3:=hn.at_.ms.r.af;coR<|zR 5 hn<|kE (Xd s.r.af (b3).1 (b3).2 _)<|zE hn<|JF<|Jj (.int .u8 (s.r.af / 256)) (⟨rfl,hn⟩)
theorem w_f  {s:Ws} {xs:List Int} {z:Zs} {w:World} {p B:Nat}(h:AtW w p B s xs z) :
 Calls Tryz.prog 110 #[pT p 0] w (fun e w'=>e=.returned (.int .u8 (s.f))∧NowW w p B (s) xs z w'):=by
 have hn:=NowW.begin h
 go_enter Tryz.func110,Tryz.ntmps110
 exact JB<|zQ hn<|have b3:=hn.at_.ms.r.af;coR<|zR 5 hn<|kE (Q4 s.r.af (b3).1 (b3).2 _)<|zE hn<|JF<|Jj (.int .u8 (s.r.af%256)) (⟨rfl,hn⟩)
theorem QU (a:Int)(hAa:B8 a)(f:Int)(hAf:B8 f){s:Ws} {xs:List Int} {z:Zs} {w:World} {p B:Nat}(h:AtW w p B s xs z) :
 Calls Tryz.prog 101 #[pT p 0,.int .u8 (a),.int .u8 (f)] w (fun e w'=>e=.returned (.tuple #[])∧NowW w p B (s.af a f) xs z w'):=by
 have hn:=NowW.begin h
 go_enter Tryz.func101,Tryz.ntmps101
 exact JB<|coZ<|zR 3 hn<|kE (QV a f (hAa).1 (hAa).2 (hAf).1 (hAf).2 _)<|zFs hn (.u_af _ (256*a+f)) (hn.at_.ms.u_af (Wd16.mk8 (hAa) (hAf)))<|fun w2 hn=>eoV (⟨rfl,hn⟩)
theorem QDp  {s:Ws} {xs:List Int} {z:Zs} {w:World} {p B:Nat}(h:AtW w p B s xs z) :
 Calls Tryz.prog 105 #[pT p 0] w (fun e w'=>e=.returned (.bool (isM s.f 0))∧NowW w p B (s) xs z w'):=by
 have hn:=NowW.begin h
 go_enter Tryz.func105,Tryz.ntmps105
 exact JB<|zQ hn<|have b3:=QP hn.at_.ms;coR<|zR 1 hn<|zAA (w_f hn.at_) hn<|fun w4 hn=>kE (QI s.f 0 (b3).1 (b3).2 _)<|zE hn<|JF<|Jj (.bool (isM s.f 0)) (⟨rfl,hn⟩)
theorem QDh  {s:Ws} {xs:List Int} {z:Zs} {w:World} {p B:Nat}(h:AtW w p B s xs z) :
 Calls Tryz.prog 86 #[pT p 0] w (fun e w'=>e=.returned (.int .u16 (s.hl))∧NowW w p B (s) xs z w'):=by
 have hn:=NowW.begin h
 go_enter Tryz.func86,Tryz.ntmps86
 exact JB<|zQ hn<|zP 9 hn<|fun w3 hn=>have b4:=hn.at_.ms.r;zD [0,1,2,3,4,5,6,7] hn<|zDb 8 (Qo s.r s.plane 2 _) hn<|fun w5 hn=>poE<|zE hn<|JF<|Jj (.int .u16 (Jk s.r s.plane 2)) (⟨rfl,hn⟩)
theorem QG4 (x:Int)(hAx:Wd16 x){s:Ws} {xs:List Int} {z:Zs} {w:World} {p B:Nat}(h:AtW w p B s xs z) :
 Calls Tryz.prog 172 #[pT p 0,.int .u16 (x)] w (fun e w'=>e=.returned (.tuple #[])∧NowW w p B (s.setHl x) xs z w'):=by
 have hn:=NowW.begin h
 go_enter Tryz.func172,Tryz.ntmps172
 exact JB<|zPz 13 hn<|fun w1 hn=>have b2:=hn.at_.ms.r;zD [0,1,2,3,4,5,6,7,8,9] hn<|zDb 10 (XN s.r s.plane 2 x _) hn<|fun w3 hn=>zD [11,12] hn<|poE<|zFs hn _ (hn.at_.ms.u_rg ((b2).setPair _ _ (hAx)))<|fun w4 hn=>eoV (⟨rfl,hn⟩)
theorem QLd  {s:Ws} {xs:List Int} {z:Zs} {w:World} {p B:Nat}(h:AtW w p B s xs z) :
 Calls Tryz.prog 156 #[pT p 0] w (OutX w p B .u16 xs ((Xn s).runZ xs z)):=by
 have hn:=NowW.begin h
 have hr:(Xn s).runZ xs z=(Xn s).runZ xs z:=rfl
 go_enter Tryz.func156,Tryz.ntmps156
 refine JB<|zQ hn<|coS<|zQ hn<|coI (!(s.known)) (fun h4=>?_) fun h4=>?_
 · have g4:¬s.known=true:=by simpa using h4
   refine have hr:=hr.trans (JP g4);zQs hn (.u_known _ (true)) (hn.at_.ms.u_known)<|fun w6 hn=>have b8:=hn.at_.ms.r.hl;zQs hn ((s.u_known (true)).u_m ((s.u_known (true)).r.hl)) (hn.at_.ms.u_m (b8))<|fun w9 hn=>coR<|zR 6 hn ?_
   rcases Bool.eq_false_or_eq_true ((((s.u_known (true)).u_m ((s.u_known (true)).r.hl)).plane)==3) with h11|h11
   · have g11:(((s.u_known (true)).u_m ((s.u_known (true)).r.hl)).plane)=3:=by simpa using h11
     exact tell 25 h11<|zE hn<|coT<|have hr:=hr.trans (JX (.inl g11));coR<|zR 1 hn<|zX (XP hn.at_) hn hr<|fun v13 s13 z13 w13 hk13 hn hr=>zE hn<|coR<|zR 1 hn<|zY (Jo 5 hn.at_) hn hr<|fun s15 z15 w15 hn hr=>wT<|have b17:=Xs hn.at_.ms;coR<|zR 2 hn<|zAA (QDh hn.at_) hn<|fun w18 hn=>zR 1 hn<|kE (za s15.hl v13 (b17) (hk13) _)<|zEs hn (.u_m _ (JA s15.hl (JR v13))) (hn.at_.ms.u_m (Wd16.mod _))<|fun w20 hn=>have b21:=hn.at_.ms.m;coZ<|zEs hn ((s15.u_m (JA s15.hl (JR v13))).u_wz ((s15.u_m (JA s15.hl (JR v13))).m)) (hn.at_.ms.u_wz (b21))<|fun w22 hn=>have b24:=hn.at_.ms.m;zQ hn<|JF<|Jj (.int .u16 (((s15.u_m (JA s15.hl (JR v13))).u_wz ((s15.u_m (JA s15.hl (JR v13))).m)).m)) (OutX.ok (dZ hr) (b24) hn)
   have g11:¬(((s.u_known (true)).u_m ((s.u_known (true)).r.hl)).plane)=3:=by simpa using h11
   refine tell 25 h11<|zE hn<|coI ((((s.u_known (true)).u_m ((s.u_known (true)).r.hl)).plane)==4) (fun h25=>?_) fun h25=>?_
   · have g25:(((s.u_known (true)).u_m ((s.u_known (true)).r.hl)).plane)=4:=by simpa using h25
     exact have hr:=hr.trans (JX (.inr g25));coR<|zR 1 hn<|zX (XP hn.at_) hn hr<|fun v27 s27 z27 w27 hk27 hn hr=>zE hn<|coR<|zR 1 hn<|zY (Jo 5 hn.at_) hn hr<|fun s29 z29 w29 hn hr=>wT<|have b31:=Xs hn.at_.ms;coR<|zR 2 hn<|zAA (QDh hn.at_) hn<|fun w32 hn=>zR 1 hn<|kE (za s29.hl v27 (b31) (hk27) _)<|zEs hn (.u_m _ (JA s29.hl (JR v27))) (hn.at_.ms.u_m (Wd16.mod _))<|fun w34 hn=>have b35:=hn.at_.ms.m;coZ<|zEs hn ((s29.u_m (JA s29.hl (JR v27))).u_wz ((s29.u_m (JA s29.hl (JR v27))).m)) (hn.at_.ms.u_wz (b35))<|fun w36 hn=>have b38:=hn.at_.ms.m;zQ hn<|JF<|Jj (.int .u16 (((s29.u_m (JA s29.hl (JR v27))).u_wz ((s29.u_m (JA s29.hl (JR v27))).m)).m)) (OutX.ok (dZ hr) (b38) hn)
   have g25:¬(((s.u_known (true)).u_m ((s.u_known (true)).r.hl)).plane)=4:=by simpa using h25
   exact have hr:=hr.trans (JP (not_or.2 ⟨g11,g25⟩));JC<|eoT<|have b40:=hn.at_.ms.m;zQ hn<|JF<|Jj (.int .u16 (((s.u_known (true)).u_m ((s.u_known (true)).r.hl)).m)) (OutX.ok (dZ hr) (b40) hn)
 have g4:s.known=true:=by simpa using h4
 exact have hr:=hr.trans (JX g4);JC<|eoT<|have b42:=hn.at_.ms.m;zQ hn<|JF<|Jj (.int .u16 (s.m)) (OutX.ok (dZ hr) (b42) hn)
theorem QGA  {s:Ws} {xs:List Int} {z:Zs} {w:World} {p B:Nat}(h:AtW w p B s xs z) :
 Calls Tryz.prog 158 #[pT p 0] w (fun e w'=>e=.returned (.int .i64 (QG s))∧NowW w p B (s) xs z w'):=by
 have hn:=NowW.begin h
 go_enter Tryz.func158,Tryz.ntmps158
 refine JB<|zQ hn<|zP 9 hn<|fun w3 hn=>have b4:=hn.at_.ms.code;zD [0,1,2,3,4,5,6,7] hn<|zDe 8 (QKc s.plane s.code (b4) _) hn<|poE<|zE hn<|coS<|zQ hn<|coI (XT s.plane s.code) (fun h8=>?_) fun h8=>?_
 · have g8:XT s.plane s.code=true:=by simpa using h8
   refine zQ hn<|JF<|Jp<|Jj (.int .i64 (0)) ?_
   have e:QG s=0:=by unfold QG;first|rw[if_pos (by assumption)]|rw[if_neg (by assumption)]
   exact⟨by rw[e],hn⟩
 have g8:¬XT s.plane s.code=true:=by simpa using h8
 refine JC<|eoT<|zQ hn<|JF<|Jj (.int .i64 (s.plane)) ?_
 have e:QG s=s.plane:=by unfold QG;first|rw[if_pos (by assumption)]|rw[if_neg (by assumption)]
 exact⟨by rw[e],hn⟩
theorem QFU (k:Int){s:Ws} {xs:List Int} {z:Zs} {w:World} {p B:Nat}(h:AtW w p B s xs z) :
 Calls Tryz.prog 107 #[pT p 0,.int .i64 (k)] w (OutX w p B .u8 xs ((jH k s).runZ xs z)):=by
 have hn:=NowW.begin h
 have hr:(jH k s).runZ xs z=(jH k s).runZ xs z:=rfl
 go_enter Tryz.func107,Tryz.ntmps107
 refine JB<|zQ hn<|coS<|zQ hn<|zIf hr (fun g4 hr=>?_) fun g4 hr=>?_
 · exact coR<|zR 2 hn<|zX (QLd hn.at_) hn hr<|fun v6 s6 z6 w6 hk6 hn hr=>zX (Xb v6 (hk6) hn.at_) hn hr<|fun v7 s7 z7 w7 hk7 hn hr=>zE hn<|JF<|Jp<|Jj (.int .u8 (v7)) (OutX.ok (dZ hr) (hk7) hn)
 exact JC<|eoT<|zP 8 hn<|fun w9 hn=>have b10:=hn.at_.ms.r;zD [0,1,2,3,4,6] hn<|zDa 5 (QGA hn.at_) hn<|fun w11 hn=>zDb 7 (QOc s.r (b10) (QG s) k _) hn<|fun w12 hn=>poE<|zE hn<|JF<|Jj (.int .u8 (qd s.r (QG s) k)) (OutX.ok (dZ hr) ((b10).get _ _) hn)
theorem Xy (k:Int)(b:Int)(hAb:B8 b){s:Ws} {xs:List Int} {z:Zs} {w:World} {p B:Nat}(h:AtW w p B s xs z) :
 Calls Tryz.prog 106 #[pT p 0,.int .i64 (k),.int .u8 (b)] w (OutY w p B xs ((setW k b s).runZ xs z)):=by
 have hn:=NowW.begin h
 have hr:(setW k b s).runZ xs z=(setW k b s).runZ xs z:=rfl
 go_enter Tryz.func106,Tryz.ntmps106
 refine JB<|zQ hn<|zIf hr (fun g2 hr=>?_) fun g2 hr=>?_
 · exact coZ<|zR 2 hn<|zX (QLd hn.at_) hn hr<|fun v3 s3 z3 w3 hk3 hn hr=>zR 1 hn<|zY (Q3 v3 (hk3) b (hAb) hn.at_) hn hr<|fun s4 z4 w4 hn hr=>woE<|eoV (OutY.ok (dZ hr) hn)
 exact zPz 12 hn<|fun w5 hn=>have b6:=hn.at_.ms.r;zD [0,1,2,3,4,5,7,8] hn<|zDa 6 (QGA hn.at_) hn<|fun w7 hn=>zDb 9 (QOK s.r (b6) (QG s) k b (hAb) _) hn<|fun w8 hn=>zD [10,11] hn<|poE<|zFs hn _ (hn.at_.ms.u_rg ((b6).set _ _ (hAb)))<|fun w9 hn=>eoV (OutY.ok (dZ hr) hn)
theorem QNn (o:Bool){s:Ws} {xs:List Int} {z:Zs} {w:World} {p B:Nat}(h:AtW w p B s xs z) :
 Calls Tryz.prog 242 #[pT p 0,.bool (o)] w (OutY w p B xs ((QKG o s).runZ xs z)):=by
 have hn:=NowW.begin h
 have hr:(QKG o s).runZ xs z=(QKG o s).runZ xs z:=rfl
 go_enter Tryz.func242,Tryz.ntmps242
 refine JB<|coR<|zR 1 hn<|zX (XP hn.at_) hn hr<|fun v2 s2 z2 w2 hk2 hn hr=>zE hn<|zQ hn<|coI (o) (fun h4=>?_) fun h4=>?_
 · have g4:o=true:=by simpa using h4
   exact have hr:=hr.trans (JX g4);coR<|zR 1 hn<|zY (Jo 5 hn.at_) hn hr<|fun s6 z6 w6 hn hr=>wT<|have b8:=hn.at_.ms.r.pc;coR<|zR 7 hn<|kE (za s6.r.pc v2 (b8) (hk2) _)<|zEs hn (.u_pc _ (JA s6.r.pc (JR v2))) (hn.at_.ms.u_pc (Wd16.mod _))<|fun w10 hn=>have b11:=hn.at_.ms.r.pc;coZ<|zFs hn ((s6.u_pc (JA s6.r.pc (JR v2))).u_wz ((s6.u_pc (JA s6.r.pc (JR v2))).r.pc)) (hn.at_.ms.u_wz (b11))<|fun w12 hn=>eoV (OutY.ok (dZ hr) hn)
 have g4:¬o=true:=by simpa using h4
 exact have hr:=hr.trans (JP g4);JC<|eoV (OutY.ok (dZ hr) hn)
theorem QFN  {s:Ws} {xs:List Int} {z:Zs} {w:World} {p B:Nat}(h:AtW w p B s xs z) :
 Calls Tryz.prog 147 #[pT p 0] w (fun e w'=>e=.returned (.int .u8 (s.left))∧NowW w p B (s.less) xs z w'):=by
 have hn:=NowW.begin h
 go_enter Tryz.func147,Tryz.ntmps147
 exact JB<|zQ hn<|have b3:=hn.at_.ms.r.bc;coR<|zR 5 hn<|kE (Xd s.r.bc (b3).1 (b3).2 _)<|zE hn<|have b6:=hn.at_.ms.r.bc;coR<|zR 7 hn<|kE (Q4 s.r.bc (b6).1 (b6).2 _)<|kE (QV (((s.r.bc / 256)-1)%256) (s.r.bc%256) (B8.mod _).1 (B8.mod _).2 ((b6).lo8).1 ((b6).lo8).2 _)<|zEs hn (.u_bc _ (256*(((s.r.bc / 256)-1)%256)+(s.r.bc%256))) (hn.at_.ms.u_bc (Wd16.mk8 (B8.mod _) ((b6).lo8)))<|fun w9 hn=>zQ hn<|JF<|Jj (.int .u8 (((s.r.bc / 256)-1)%256)) (⟨rfl,hn⟩)
end Go.Proofs.YtkenebbjodcbcaaGreatDoor
