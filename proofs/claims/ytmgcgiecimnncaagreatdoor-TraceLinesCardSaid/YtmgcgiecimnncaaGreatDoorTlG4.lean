/- Contracts and facts that the claim's proof wants (several texts in one). -/
import Derived.Deep.RegionHeld3
import Derived.Laws.EntriesVeiled
import Derived.Maps.Own
import Derived.Deep.DeepHandedRow
import Derived.Test.YtmgcgiecimnncaaGreatDoorTlG3
namespace Go.Proofs.YtmgcgiecimnncaaGreatDoor
open Go.RowKit
set_option linter.unusedVariables false
set_option linter.unusedSimpArgs false
set_option maxRecDepth 20000
set_option maxHeartbeats 20000000
theorem QMM (x y:Bool)(w:World) :
 Calls Tryz.prog 321 #[.bool x,.bool y] w fun e w'=>e=.returned (.bool (andB x y))∧w=w':=by
 cases x
 all_goals
  go_enter Tryz.func321,Tryz.ntmps321
  go_wp2
  go_ret
  exact⟨rfl,rfl⟩
theorem QPC (x y:Bool)(w:World) :
 Calls Tryz.prog 323 #[.bool x,.bool y] w fun e w'=>e=.returned (.bool (orB x y))∧w=w':=by
 cases x
 all_goals
  go_enter Tryz.func323,Tryz.ntmps323
  go_wp2
  go_ret
  exact⟨rfl,rfl⟩
theorem QNZ (x y:Bool)(w:World) :
 Calls Tryz.prog 322 #[.bool x,.bool y] w fun e w'=>e=.returned (.bool (QU0 x y))∧w=w':=by
 go_enter Tryz.func322,Tryz.ntmps322
 go_wp2
 go_ret
 exact⟨rfl,rfl⟩
theorem QGf (a b:Int)(ha:B8 a)(hB:B8 b)(w:World) :
 Calls Tryz.prog 320 #[.int .u8 a,.int .u8 b,.func (.func 321) #[] #[]] w fun e w'=>e=.returned (.int .u8 (QDe a b))∧Below w.heap.size w w':=by
 go_enter Tryz.func320,Tryz.ntmps320
 go_wp2
 refine wp_loop_rounds 9 ?_
 iterate 9 (rw[rounds_succ];go_wp2_with (first
  | (go_at_call 253;refine (Qw _ _ (B8.lo (by assumption)) (B8.hi (by assumption)) _).mono ?_;rintro e w' ⟨rfl,rfl⟩)
  | (go_at_call 321;refine (QMM _ _ _).mono ?_;rintro e w' ⟨rfl,rfl⟩)
  | (go_at_call 209;refine (Qr _ _ _ (B8.lo (by repeat (first|exact B8.zero|apply B8.with))) (B8.hi (by repeat (first|exact B8.zero|apply B8.with))) _).mono ?_;rintro e w' ⟨rfl,rfl⟩)))
 go_ret
 exact⟨Jy (QPL _ _ _ _ _ _ _ _),(by repeat (first|exact Below.refl _ _|assumption|refine JF ?_ (by assumption)|refine Below.drew ?_|refine Below.alloc ?_ (by first|(simp;done)|(simp;omega)|omega) _|refine Below.setCell ?_ (by first|(simp;done)|(simp;omega)|omega) _))⟩
theorem QIK (a b:Int)(ha:B8 a)(hB:B8 b)(w:World) :
 Calls Tryz.prog 320 #[.int .u8 a,.int .u8 b,.func (.func 323) #[] #[]] w fun e w'=>e=.returned (.int .u8 (orR a b))∧Below w.heap.size w w':=by
 go_enter Tryz.func320,Tryz.ntmps320
 go_wp2
 refine wp_loop_rounds 9 ?_
 iterate 9 (rw[rounds_succ];go_wp2_with (first
  | (go_at_call 253;refine (Qw _ _ (B8.lo (by assumption)) (B8.hi (by assumption)) _).mono ?_;rintro e w' ⟨rfl,rfl⟩)
  | (go_at_call 323;refine (QPC _ _ _).mono ?_;rintro e w' ⟨rfl,rfl⟩)
  | (go_at_call 209;refine (Qr _ _ _ (B8.lo (by repeat (first|exact B8.zero|apply B8.with))) (B8.hi (by repeat (first|exact B8.zero|apply B8.with))) _).mono ?_;rintro e w' ⟨rfl,rfl⟩)))
 go_ret
 exact⟨Jy (QPL _ _ _ _ _ _ _ _),(by repeat (first|exact Below.refl _ _|assumption|refine JF ?_ (by assumption)|refine Below.drew ?_|refine Below.alloc ?_ (by first|(simp;done)|(simp;omega)|omega) _|refine Below.setCell ?_ (by first|(simp;done)|(simp;omega)|omega) _))⟩
theorem QHg (a b:Int)(ha:B8 a)(hB:B8 b)(w:World) :
 Calls Tryz.prog 320 #[.int .u8 a,.int .u8 b,.func (.func 322) #[] #[]] w fun e w'=>e=.returned (.int .u8 (zc a b))∧Below w.heap.size w w':=by
 go_enter Tryz.func320,Tryz.ntmps320
 go_wp2
 refine wp_loop_rounds 9 ?_
 iterate 9 (rw[rounds_succ];go_wp2_with (first
  | (go_at_call 253;refine (Qw _ _ (B8.lo (by assumption)) (B8.hi (by assumption)) _).mono ?_;rintro e w' ⟨rfl,rfl⟩)
  | (go_at_call 322;refine (QNZ _ _ _).mono ?_;rintro e w' ⟨rfl,rfl⟩)
  | (go_at_call 209;refine (Qr _ _ _ (B8.lo (by repeat (first|exact B8.zero|apply B8.with))) (B8.hi (by repeat (first|exact B8.zero|apply B8.with))) _).mono ?_;rintro e w' ⟨rfl,rfl⟩)))
 go_ret
 exact⟨Jy (QPL _ _ _ _ _ _ _ _),(by repeat (first|exact Below.refl _ _|assumption|refine JF ?_ (by assumption)|refine Below.drew ?_|refine Below.alloc ?_ (by first|(simp;done)|(simp;omega)|omega) _|refine Below.setCell ?_ (by first|(simp;done)|(simp;omega)|omega) _))⟩
theorem QTB (a b:Int)(ha:B8 a)(hB:B8 b)(w:World) :
 Calls Tryz.prog 289 #[.int .u8 a,.int .u8 b] w fun e w'=>e=.returned (two (QDe a b) (QBm (QDe a b)))∧Below w.heap.size w w':=by
 have hr:B8 (QDe a b):=J6 ..
 have hm:=Lib.hid (QNE _ hr)
 go_enter Tryz.func289,Tryz.ntmps289
 go_wp2_with (first
  | (go_at_call 320;refine (QGf _ _ (by assumption) (by assumption) _).mono ?_;rintro e w' ⟨rfl,hb⟩;have hsz:=hb.size)
  | (go_at_call 249;refine (Xm _ (B8.lo (by assumption)) (B8.hi (by assumption)) _).mono ?_;rintro e w' ⟨rfl,hb⟩;have hsz:=hb.size))
 go_ret2
 exact⟨by rw[hm.out];rfl,(by repeat (first|exact Below.refl _ _|assumption|refine JF ?_ (by assumption)|refine Below.drew ?_|refine Below.alloc ?_ (by first|(simp;done)|(simp;omega)|omega) _|refine Below.setCell ?_ (by first|(simp;done)|(simp;omega)|omega) _))⟩
theorem QVK (a b:Int)(ha:B8 a)(hB:B8 b)(w:World) :
 Calls Tryz.prog 291 #[.int .u8 a,.int .u8 b] w fun e w'=>e=.returned (two (orR a b) (J2 (orR a b)))∧Below w.heap.size w w':=by
 have hr:B8 (orR a b):=J6 ..
 go_enter Tryz.func291,Tryz.ntmps291
 go_wp2_with (first
  | (go_at_call 320;refine (QIK _ _ (by assumption) (by assumption) _).mono ?_;rintro e w' ⟨rfl,hb⟩;have hsz:=hb.size)
  | (go_at_call 249;refine (Xm _ (B8.lo (by assumption)) (B8.hi (by assumption)) _).mono ?_;rintro e w' ⟨rfl,hb⟩;have hsz:=hb.size))
 go_ret2
 exact⟨rfl,(by repeat (first|exact Below.refl _ _|assumption|refine JF ?_ (by assumption)|refine Below.drew ?_|refine Below.alloc ?_ (by first|(simp;done)|(simp;omega)|omega) _|refine Below.setCell ?_ (by first|(simp;done)|(simp;omega)|omega) _))⟩
theorem QRm (a b:Int)(ha:B8 a)(hB:B8 b)(w:World) :
 Calls Tryz.prog 290 #[.int .u8 a,.int .u8 b] w fun e w'=>e=.returned (two (zc a b) (J2 (zc a b)))∧Below w.heap.size w w':=by
 have hr:B8 (zc a b):=J6 ..
 go_enter Tryz.func290,Tryz.ntmps290
 go_wp2_with (first
  | (go_at_call 320;refine (QHg _ _ (by assumption) (by assumption) _).mono ?_;rintro e w' ⟨rfl,hb⟩;have hsz:=hb.size)
  | (go_at_call 249;refine (Xm _ (B8.lo (by assumption)) (B8.hi (by assumption)) _).mono ?_;rintro e w' ⟨rfl,hb⟩;have hsz:=hb.size))
 go_ret2
 exact⟨rfl,(by repeat (first|exact Below.refl _ _|assumption|refine JF ?_ (by assumption)|refine Below.drew ?_|refine Below.alloc ?_ (by first|(simp;done)|(simp;omega)|omega) _|refine Below.setCell ?_ (by first|(simp;done)|(simp;omega)|omega) _))⟩
theorem QCl (b f:Int)(hb:B8 b)(hf:B8 f)(w:World) :
 Calls Tryz.prog 317 #[.int .u8 b,.int .u8 f] w fun e w'=>e=.returned (.int .u8 (Q1 (JV b) f 196))∧w=w':=by
 have hr:=Qc b
 go_enter Tryz.func317,Tryz.ntmps317
 go_wp2_with (first
  | (go_at_call 300;refine (Zr _ (B8.lo (by assumption)) (B8.hi (by assumption)) _).mono ?_;rintro e w' ⟨rfl,rfl⟩)
  | (go_at_call 252;refine (Xc _ _ _ (B8.lo (by assumption)) (B8.hi (by assumption)) (B8.lo (by assumption)) (B8.hi (by assumption)) (by omega) (by omega) _).mono ?_;rintro e w' ⟨rfl,rfl⟩))
 go_ret
 exact⟨rfl,rfl⟩
theorem QMb:∀ x:Fin 256,bits .xor .u8 IntKind.u8.max (x.val:Int)=255-(x.val:Int):=by decide +kernel
theorem QWE (b:Int)(hb:B8 b):bits .xor .u8 IntKind.u8.max b=255-b :=
 Ji (P:=fun b=>bits .xor .u8 IntKind.u8.max b=255-b) QMb b hb.1 hb.2
theorem QST (a f:Int)(ha:B8 a)(hf:B8 f)(w:World) :
 Calls Tryz.prog 283 #[.int .u8 a,.int .u8 f] w fun e w'=>e=.returned (two (255-a) (QK5 a f))∧w=w':=by
 have hr:B8 (255-a):=⟨by have:=ha.2;omega,by have:=ha.1;omega⟩
 have hx:=QWE a ha
 have hm:=Lib.hid (QPl a f hf)
 go_enter Tryz.func283,Tryz.ntmps283
 go_wp2_with (first
  | (go_at_call 317;refine (QCl _ _ (by assumption) (by assumption) _).mono ?_;rintro e w' ⟨rfl,rfl⟩))
 go_ret2
 exact⟨by rw[←hm.out];rfl,rfl⟩
theorem QLh (a f:Int)(ha:B8 a)(hf:B8 f)(w:World) :
 Calls Tryz.prog 284 #[.int .u8 a,.int .u8 f] w fun e w'=>e=.returned (.int .u8 (QHS a f))∧w=w':=by
 have hm:=Lib.hid (QQr a f)
 go_enter Tryz.func284,Tryz.ntmps284
 go_wp2_with (first
  | (go_at_call 317;refine (QCl _ _ (by assumption) (by assumption) _).mono ?_;rintro e w' ⟨rfl,rfl⟩))
 go_ret
 exact⟨Jy hm.out,rfl⟩
theorem QTa (a f:Int)(ha:B8 a)(hf:B8 f)(w:World) :
 Calls Tryz.prog 285 #[.int .u8 a,.int .u8 f] w fun e w'=>e=.returned (.int .u8 (QHA a f))∧w=w':=by
 have k:=ze f hf
 cases hc:isM f 0
 · have hm:=Lib.hid (QUg a f hc)
   have k0:bits .and .u8 f 1=0:=by rw[k,hc];rfl
   clear k hc
   go_enter Tryz.func285,Tryz.ntmps285
   go_wp2_with (first
    | (go_at_call 284;refine (QLh _ _ (by assumption) (by assumption) _).mono ?_;rintro e w' ⟨rfl,rfl⟩))
   go_ret
   exact⟨Jy hm.out,rfl⟩
 · have hm:=Lib.hid (QTf a f hc)
   have k0:bits .and .u8 f 1=1:=by rw[k,hc];rfl
   clear k hc
   go_enter Tryz.func285,Tryz.ntmps285
   go_wp2_with (first
    | (go_at_call 317;refine (QCl _ _ (by assumption) (by assumption) _).mono ?_;rintro e w' ⟨rfl,rfl⟩))
   go_ret
   exact⟨Jy hm.out,rfl⟩
section
def Digits (w:World):Prop:=w.cell? ⟨27,0,none⟩=some (.int .u8 16)∧w.cell? ⟨27,1,none⟩=some (.int .u8 15)∧w.cell? ⟨27,2,none⟩=some (.int .u8 9)∧w.cell? ⟨27,3,none⟩=some (.int .u8 6)∧w.cell? ⟨27,4,none⟩=some (.int .u8 1)∧w.cell? ⟨27,5,none⟩=some (.int .u8 255)∧w.cell? ⟨27,6,none⟩=some (.int .u8 153)∧w.cell? ⟨27,7,none⟩=some (.int .u8 96)
theorem Digits.below {w w':World}(h:Digits w)(k:Below w.heap.size w w'):Digits w':=by
 obtain⟨h0,h1,h2,h3,h4,h5,h6,h7⟩:=h
 exact⟨(k.cell (World.block_lt_of_cell? _ _ h0)).trans h0,(k.cell (World.block_lt_of_cell? _ _ h1)).trans h1,(k.cell (World.block_lt_of_cell? _ _ h2)).trans h2,(k.cell (World.block_lt_of_cell? _ _ h3)).trans h3,(k.cell (World.block_lt_of_cell? _ _ h4)).trans h4,(k.cell (World.block_lt_of_cell? _ _ h5)).trans h5,(k.cell (World.block_lt_of_cell? _ _ h6)).trans h6,(k.cell (World.block_lt_of_cell? _ _ h7)).trans h7⟩
theorem QBH {P:Program} {t e:TypeId} {n m:Nat} {fs:Array Field} {cs:Array Value} {k:IntKind} {i:Int} {w:World}(h:P.underlying t=some (.array n e))(he:P.underlying e=some (.struct fs))(hs:(sizeOf e).run P w=.ok m w)(hi:0≤i∧i < n) :
 (Instr.index t (.agg cs) (.int k i)).run P w=.ok (.agg (cs.extract (i.toNat*m) (i.toNat*m+m))) w:=by
 simp[Instr.index,asIntOf,run_underlying h,hi,hs,part,isAgg,run_underlying he]
theorem QWf (a0 a1 a2 a3 a4 a5 a6 a7:Value)(w:World):(Instr.index 292 (.agg #[a0,a1,a2,a3,a4,a5,a6,a7]) (.int .i64 0)).run Tryz.prog w=.ok (.agg #[a0,a1,a2,a3]) w :=
 QBH (m:=4) Tryz.underlying292 Tryz.underlying291 (by kernel_rfl) (by decide)
theorem QWV (a0 a1 a2 a3 a4 a5 a6 a7:Value)(w:World):(Instr.index 292 (.agg #[a0,a1,a2,a3,a4,a5,a6,a7]) (.int .i64 1)).run Tryz.prog w=.ok (.agg #[a4,a5,a6,a7]) w :=
 QBH (m:=4) Tryz.underlying292 Tryz.underlying291 (by kernel_rfl) (by decide)
attribute [local go_sem ↓] QWf QWV
theorem QP3:∀ x:Fin 256,bits .and .u8 (x.val:Int) 16=(if isM (x.val:Int) 4 then 16 else 0)∧bits .and .u8 (x.val:Int) 1=(if isM (x.val:Int) 0 then 1 else 0)∧bits .and .u8 (x.val:Int) 15=(x.val:Int)%16∧bits .and .u8 (x.val:Int) 255=(x.val:Int)∧bits .and .u8 (x.val:Int) 2=(if isM (x.val:Int) 1 then 2 else 0):=by decide +kernel
theorem QAR (f:Int)(h:B8 f):bits .and .u8 f 16=(if isM f 4 then 16 else 0)∧bits .and .u8 f 1=(if isM f 0 then 1 else 0)∧bits .and .u8 f 15=f%16∧bits .and .u8 f 255=f∧bits .and .u8 f 2=(if isM f 1 then 2 else 0) :=
 Ji (P:=fun f=>bits .and .u8 f 16=(if isM f 4 then 16 else 0)∧bits .and .u8 f 1=(if isM f 0 then 1 else 0)∧bits .and .u8 f 15=f%16∧bits .and .u8 f 255=f∧bits .and .u8 f 2=(if isM f 1 then 2 else 0)) QP3 f h.1 h.2
def QEC (a f:Int):Int:=(if QEc a f then 16 else 0)+(if zK a f then 1 else 0)
theorem QWl:bits .or .u8 0 16=16∧bits .or .u8 16 1=17∧bits .or .u8 0 1=1:=by decide +kernel
theorem QDT (a f:Int)(ha:B8 a)(hf:B8 f)(w:World)(hd:Digits w) :
 Calls Tryz.prog 316 #[.int .u8 a,.int .u8 f] w fun e w'=>e=.returned (two (byM a f) (QEC a f))∧Below w.heap.size w w':=by
 obtain⟨d0,d1,d2,d3,d4,d5,d6,d7⟩:=hd
 obtain⟨k1,k2,_,_,_⟩:=QAR f hf
 obtain⟨_,_,k3,k4,_⟩:=QAR a ha
 obtain⟨o1,o2,o3⟩:=QWl
 have a0:=ha.1
 have a1:=ha.2
 by_cases c2:9 < a%16<;>by_cases c4:153 < a<;>cases c1:isM f 4<;>cases c3:isM f 0
 all_goals
  rw[c1] at k1
  rw[c3] at k2
  simp only[if_true,if_false,Bool.false_eq_true] at k1 k2
  have hb:byM a f=(if isM f 4||decide (9 < a%16) then 6 else 0)+(if isM f 0||decide (153 < a) then 96 else 0):=rfl
  have hw:QEC a f=(if isM f 4||decide (9 < a%16) then 16 else 0)+(if isM f 0||decide (153 < a) then 1 else 0):=rfl
  first|rw[c1,c3,decide_eq_true c2,decide_eq_true c4] at hb hw|rw[c1,c3,decide_eq_true c2,decide_eq_false c4] at hb hw|rw[c1,c3,decide_eq_false c2,decide_eq_true c4] at hb hw|rw[c1,c3,decide_eq_false c2,decide_eq_false c4] at hb hw
  have hb:=Lib.hid hb
  have hw:=Lib.hid hw
  clear c1 c3
  go_enter Tryz.func316,Tryz.ntmps316
  go_wp2
  refine wp_loop_rounds 3 ?_
  iterate 3 (rw[rounds_succ];go_wp2)
  go_ret2
  exact⟨by rw[hb.out,hw.out];rfl,(by repeat (first|exact Below.refl _ _|assumption|refine JF ?_ (by assumption)|refine Below.drew ?_|refine Below.alloc ?_ (by first|(simp;done)|(simp;omega)|omega) _|refine Below.setCell ?_ (by first|(simp;done)|(simp;omega)|omega) _))⟩
theorem QPX:∀ b0 b1 b2 b4 b5 n h c:Bool,bits .or .u8 (bits .or .u8 (bits .or .u8 (mkM b0 b1 b2 false b4 b5 false false) (if n then 2 else 0)) (if h then 16 else 0)) (if c then 1 else 0)=mkM b0 b1 b2 h b4 b5 n c:=by decide +kernel
theorem QM1 (a f:Int):bits .and .u8 (QEC a f) 1=if zK a f then 1 else 0:=by
 unfold QEC
 generalize QEc a f=x
 generalize zK a f=y
 revert x y
 decide +kernel
theorem QQg (a f:Int)(ha:B8 a)(hf:B8 f) :
 bits .or .u8 (bits .or .u8 (bits .or .u8 (J2 (jf a f)) (bits .and .u8 f 2)) (bits .and .u8 (bits .xor .u8 a (jf a f)) 16)) (bits .and .u8 (QEC a f) 1)=QLG a f:=by
 have hr:=zN a f
 have hx:=QId a (jf a f) ha.1 ha.2 hr.1 hr.2
 rw[(QAR f hf).2.2.2.2,(QAR _ hx).1,QM1]
 have i:=QL2 a (jf a f) 4 (by omega) ha.1 ha.2 hr.1 hr.2
 rw[show isM (bits .xor .u8 a (jf a f)) 4=(isM a 4 != isM (jf a f) 4) from by simpa using i]
 exact QPX _ _ _ _ _ _ _ _
theorem QRn (a f:Int)(ha:B8 a)(hf:B8 f)(w:World)(hd:Digits w) :
 Calls Tryz.prog 282 #[.int .u8 a,.int .u8 f] w fun e w'=>e=.returned (two (jf a f) (QLG a f))∧Below w.heap.size w w':=by
 have hm:=QQg a f ha hf
 have hr:=zN a f
 have hy:=QPd a f
 have k:=(QAR f hf).2.2.2.2
 have a0:=ha.1
 have a1:=ha.2
 cases c:isM f 1
 · have e:jf a f=(a+byM a f)%256:=by unfold jf;rw[c];rfl
   rw[c] at k
   simp only[if_false,Bool.false_eq_true] at k
   rw[k,e] at hm
   rw[e] at hr ⊢
   have hm:=Lib.hid hm
   clear e c
   go_enter Tryz.func282,Tryz.ntmps282
   go_wp2_with (first
    | (go_at_call 316;refine (QDT _ _ (by assumption) (by assumption) _ hd).mono ?_;rintro e w' ⟨rfl,hb⟩;have hsz:=hb.size)
    | (go_at_call 249;refine (Xm _ (B8.lo (by assumption)) (B8.hi (by assumption)) _).mono ?_;rintro e w' ⟨rfl,hb⟩;have hsz:=hb.size))
   go_ret2
   exact⟨by rw[←hm.out];rfl,(by repeat (first|exact Below.refl _ _|assumption|refine JF ?_ (by assumption)|refine Below.drew ?_|refine Below.alloc ?_ (by first|(simp;done)|(simp;omega)|omega) _|refine Below.setCell ?_ (by first|(simp;done)|(simp;omega)|omega) _))⟩
 · have e:jf a f=(a-byM a f)%256:=by unfold jf;rw[c];rfl
   rw[c] at k
   simp only[if_true] at k
   rw[k,e] at hm
   rw[e] at hr ⊢
   have hm:=Lib.hid hm
   clear e c
   go_enter Tryz.func282,Tryz.ntmps282
   go_wp2_with (first
    | (go_at_call 316;refine (QDT _ _ (by assumption) (by assumption) _ hd).mono ?_;rintro e w' ⟨rfl,hb⟩;have hsz:=hb.size)
    | (go_at_call 249;refine (Xm _ (B8.lo (by assumption)) (B8.hi (by assumption)) _).mono ?_;rintro e w' ⟨rfl,hb⟩;have hsz:=hb.size))
   go_ret2
   exact⟨by rw[←hm.out];rfl,(by repeat (first|exact Below.refl _ _|assumption|refine JF ?_ (by assumption)|refine Below.drew ?_|refine Below.alloc ?_ (by first|(simp;done)|(simp;omega)|omega) _|refine Below.setCell ?_ (by first|(simp;done)|(simp;omega)|omega) _))⟩
end
theorem QG2 (W:World)(o o':Obj):({ W.alloc o with heap:=(W.alloc o).heap.setIfInBounds W.heap.size o' }:World)=W.alloc o':=by
 have e:(W.heap.push o).setIfInBounds W.heap.size o'=W.heap.push o':=by
  apply Array.ext
  · simp
  · intro i h1 h2
    simp at h1 h2
    by_cases hi:i=W.heap.size
    · subst hi;simp
    · rw[Array.getElem_setIfInBounds,Array.getElem_push_lt (by omega),Array.getElem_push_lt (by omega),if_neg (by omega)]
      simpa using h1
 show ({ W with heap:=(W.heap.push o).setIfInBounds W.heap.size o' }:World)={ W with heap:=W.heap.push o' }
 rw[e]
theorem JJ {P:Program}(W:World)(t kt et:TypeId)(ht:P.underlying t=some (.map kt et))(hk:P.underlying kt=some (.int .i64))(es:List MapEntry)(clock:Nat)(n:Int)(val:Value)(b:Nat)
 (hb:b=W.heap.size)(hnew:Instr.findNow (.int .i64) (.int .i64 n) es 0=some none) :
 (Instr.mapUpdate t (.map (some b)) (.int .i64 n) val).run P (W.alloc (.map es.toArray clock))=.ok () (W.alloc (.map (es++[({ key:=.int .i64 n,val:=val,born:=clock }:MapEntry)]).toArray (clock+1))):=by
 subst hb
 have hb:=(MapKept.heap_alloc W (.map es.toArray clock)).1
 simp[Instr.mapUpdate,run_underlying ht,MapKept.run_getObj_map hb,MapKept.run_checkKey hk (k:=.int .i64 n) (by simp[MapKept.IsKey]) false 9999,MapKept.run_findKey hk hnew,MapKept.run_setObj_map _ hb,Result.andThen]
 exact QG2 W _ _
theorem J4 {P:Program} {W:World} {t kt et:TypeId}(ht:P.underlying t=some (.map kt et))(hk:P.underlying kt=some (.int .i64)){es:Array MapEntry} {clock M:Nat}(hb:W.heap[M]? = some (.map es clock)){n:Int} {j:Nat} {v:Value}
 (hf:Instr.findNow (.int .i64) (.int .i64 n) es.toList 0=some (some (j,v))):(Instr.lookup t (.map (some M)) (.int .i64 n) true).run P W=.ok (.tuple #[v,.bool true]) W:=by
 simp[Instr.lookup,run_underlying ht,MapKept.run_getObj_map hb,MapKept.run_checkKey hk (k:=.int .i64 n) (by simp[MapKept.IsKey]) _ 9999,MapKept.run_findKey hk hf,Result.andThen]
theorem qB {P:Program} {W:World} {t kt et:TypeId}(ht:P.underlying t=some (.map kt et))(hk:P.underlying kt=some (.int .i64)){es:Array MapEntry} {clock M:Nat}(hb:W.heap[M]? = some (.map es clock)){n:Int} {z:Value}
 (hf:Instr.findNow (.int .i64) (.int .i64 n) es.toList 0=some none)(hz:(zeroValue et).run P W=.ok z W):(Instr.lookup t (.map (some M)) (.int .i64 n) true).run P W=.ok (.tuple #[z,.bool false]) W:=by
 simp[Instr.lookup,run_underlying ht,MapKept.run_getObj_map hb,MapKept.run_checkKey hk (k:=.int .i64 n) (by simp[MapKept.IsKey]) _ 9999,MapKept.run_findKey hk hf,hz,Result.andThen]
theorem XU {P:Program} {W:World} {t kt et:TypeId}(ht:P.underlying t=some (.map kt et))(hk:P.underlying kt=some (.int .i64)){es:Array MapEntry} {clock M:Nat}(hb:W.heap[M]? = some (.map es clock)){n:Int} {j:Nat} {v:Value}
 (hf:Instr.findNow (.int .i64) (.int .i64 n) es.toList 0=some (some (j,v))):(Instr.lookup t (.map (some M)) (.int .i64 n) false).run P W=.ok v W:=by
 simp[Instr.lookup,run_underlying ht,MapKept.run_getObj_map hb,MapKept.run_checkKey hk (k:=.int .i64 n) (by simp[MapKept.IsKey]) _ 9999,MapKept.run_findKey hk hf,Result.andThen]
theorem Ju {P:Program} {W:World} {t kt et:TypeId}(ht:P.underlying t=some (.map kt et))(hk:P.underlying kt=some (.int .i64)){es:Array MapEntry} {clock M:Nat}(hb:W.heap[M]? = some (.map es clock)){n:Int} {z:Value}
 (hf:Instr.findNow (.int .i64) (.int .i64 n) es.toList 0=some none)(hz:(zeroValue et).run P W=.ok z W):(Instr.lookup t (.map (some M)) (.int .i64 n) false).run P W=.ok z W:=by
 simp[Instr.lookup,run_underlying ht,MapKept.run_getObj_map hb,MapKept.run_checkKey hk (k:=.int .i64 n) (by simp[MapKept.IsKey]) _ 9999,MapKept.run_findKey hk hf,hz,Result.andThen]
theorem QFe {P:Program} {W:World} {t kt et:TypeId}(ht:P.underlying t=some (.map kt et))(hk:P.underlying kt=some (.int .i64)){n:Int} {z:Value}
 (hz:(zeroValue et).run P W=.ok z W):(Instr.lookup t (.map none) (.int .i64 n) false).run P W=.ok z W:=by
 simp[Instr.lookup,run_underlying ht,MapKept.run_checkKey hk (k:=.int .i64 n) (by simp[MapKept.IsKey]) _ 9999,MapKept.run_findKey hk (show Instr.findNow (.int .i64) (.int .i64 n) [] 0=some none from rfl),hz,Result.andThen]
section
theorem QWn (v0:Value)(W:World)(b:Nat)(hb:b=W.heap.size) :
 (Instr.mapUpdate 253 (.map (some b)) (.int .i64 0) v0).run Tryz.prog (W.alloc (.map #[] 0))=.ok () (W.alloc (.map #[⟨.int .i64 0,v0,0⟩] 1)) :=
 JJ W _ _ _ Tryz.underlying253 Tryz.underlying3 _ _ _ _ b hb rfl
theorem QWs (v0 v1:Value)(W:World)(b:Nat)(hb:b=W.heap.size) :
 (Instr.mapUpdate 253 (.map (some b)) (.int .i64 1) v1).run Tryz.prog (W.alloc (.map #[⟨.int .i64 0,v0,0⟩] 1))=.ok () (W.alloc (.map #[⟨.int .i64 0,v0,0⟩,⟨.int .i64 1,v1,1⟩] 2)) :=
 JJ W _ _ _ Tryz.underlying253 Tryz.underlying3 _ _ _ _ b hb rfl
theorem QWa (v0 v1 v2:Value)(W:World)(b:Nat)(hb:b=W.heap.size) :
 (Instr.mapUpdate 253 (.map (some b)) (.int .i64 2) v2).run Tryz.prog (W.alloc (.map #[⟨.int .i64 0,v0,0⟩,⟨.int .i64 1,v1,1⟩] 2))=.ok () (W.alloc (.map #[⟨.int .i64 0,v0,0⟩,⟨.int .i64 1,v1,1⟩,⟨.int .i64 2,v2,2⟩] 3)) :=
 JJ W _ _ _ Tryz.underlying253 Tryz.underlying3 _ _ _ _ b hb rfl
theorem QWQ (v0 v1 v2 v3:Value)(W:World)(b:Nat)(hb:b=W.heap.size) :
 (Instr.mapUpdate 253 (.map (some b)) (.int .i64 3) v3).run Tryz.prog (W.alloc (.map #[⟨.int .i64 0,v0,0⟩,⟨.int .i64 1,v1,1⟩,⟨.int .i64 2,v2,2⟩] 3))=.ok () (W.alloc (.map #[⟨.int .i64 0,v0,0⟩,⟨.int .i64 1,v1,1⟩,⟨.int .i64 2,v2,2⟩,⟨.int .i64 3,v3,3⟩] 4)) :=
 JJ W _ _ _ Tryz.underlying253 Tryz.underlying3 _ _ _ _ b hb rfl
theorem QWJ (v0 v1 v2 v3 v4:Value)(W:World)(b:Nat)(hb:b=W.heap.size) :
 (Instr.mapUpdate 253 (.map (some b)) (.int .i64 4) v4).run Tryz.prog (W.alloc (.map #[⟨.int .i64 0,v0,0⟩,⟨.int .i64 1,v1,1⟩,⟨.int .i64 2,v2,2⟩,⟨.int .i64 3,v3,3⟩] 4))=.ok () (W.alloc (.map #[⟨.int .i64 0,v0,0⟩,⟨.int .i64 1,v1,1⟩,⟨.int .i64 2,v2,2⟩,⟨.int .i64 3,v3,3⟩,⟨.int .i64 4,v4,4⟩] 5)) :=
 JJ W _ _ _ Tryz.underlying253 Tryz.underlying3 _ _ _ _ b hb rfl
theorem QWK (v0 v1 v2 v3 v4 v5:Value)(W:World)(b:Nat)(hb:b=W.heap.size) :
 (Instr.mapUpdate 253 (.map (some b)) (.int .i64 5) v5).run Tryz.prog (W.alloc (.map #[⟨.int .i64 0,v0,0⟩,⟨.int .i64 1,v1,1⟩,⟨.int .i64 2,v2,2⟩,⟨.int .i64 3,v3,3⟩,⟨.int .i64 4,v4,4⟩] 5))=.ok () (W.alloc (.map #[⟨.int .i64 0,v0,0⟩,⟨.int .i64 1,v1,1⟩,⟨.int .i64 2,v2,2⟩,⟨.int .i64 3,v3,3⟩,⟨.int .i64 4,v4,4⟩,⟨.int .i64 5,v5,5⟩] 6)) :=
 JJ W _ _ _ Tryz.underlying253 Tryz.underlying3 _ _ _ _ b hb rfl
theorem QWd (v0 v1 v2 v3 v4 v5 v6:Value)(W:World)(b:Nat)(hb:b=W.heap.size) :
 (Instr.mapUpdate 253 (.map (some b)) (.int .i64 6) v6).run Tryz.prog (W.alloc (.map #[⟨.int .i64 0,v0,0⟩,⟨.int .i64 1,v1,1⟩,⟨.int .i64 2,v2,2⟩,⟨.int .i64 3,v3,3⟩,⟨.int .i64 4,v4,4⟩,⟨.int .i64 5,v5,5⟩] 6))=.ok () (W.alloc (.map #[⟨.int .i64 0,v0,0⟩,⟨.int .i64 1,v1,1⟩,⟨.int .i64 2,v2,2⟩,⟨.int .i64 3,v3,3⟩,⟨.int .i64 4,v4,4⟩,⟨.int .i64 5,v5,5⟩,⟨.int .i64 6,v6,6⟩] 7)) :=
 JJ W _ _ _ Tryz.underlying253 Tryz.underlying3 _ _ _ _ b hb rfl
theorem QWc (v0 v1 v2 v3 v4 v5 v6 v7:Value)(W:World)(b:Nat)(hb:b=W.heap.size) :
 (Instr.mapUpdate 253 (.map (some b)) (.int .i64 7) v7).run Tryz.prog (W.alloc (.map #[⟨.int .i64 0,v0,0⟩,⟨.int .i64 1,v1,1⟩,⟨.int .i64 2,v2,2⟩,⟨.int .i64 3,v3,3⟩,⟨.int .i64 4,v4,4⟩,⟨.int .i64 5,v5,5⟩,⟨.int .i64 6,v6,6⟩] 7))=.ok () (W.alloc (.map #[⟨.int .i64 0,v0,0⟩,⟨.int .i64 1,v1,1⟩,⟨.int .i64 2,v2,2⟩,⟨.int .i64 3,v3,3⟩,⟨.int .i64 4,v4,4⟩,⟨.int .i64 5,v5,5⟩,⟨.int .i64 6,v6,6⟩,⟨.int .i64 7,v7,7⟩] 8)) :=
 JJ W _ _ _ Tryz.underlying253 Tryz.underlying3 _ _ _ _ b hb rfl
attribute [local go_sem] QWn QWs QWa QWQ QWJ QWK QWd QWc
abbrev QL4 (O:Nat):Value:=.func (.func 324) #[] #[.pointer (some ⟨O,0,none⟩)]
abbrev QD0 (F:Nat):Value:=.func (.func 325) #[] #[.pointer (some ⟨F,0,none⟩)]
abbrev QGy:Value:=.func (.func 326) #[] #[]
abbrev QUN (B:Nat):Value:=.func (.func 327) #[] #[.pointer (some ⟨B,0,none⟩)]
abbrev QT7:Value:=.func (.func 328) #[] #[]
def XQ (B F O:Nat):Array MapEntry:=#[⟨.int .i64 0,QL4 O,0⟩,⟨.int .i64 1,QL4 O,1⟩,⟨.int .i64 2,QD0 F,2⟩,⟨.int .i64 3,QD0 F,3⟩,⟨.int .i64 4,QGy,4⟩,⟨.int .i64 5,QUN B,5⟩,⟨.int .i64 6,QT7,6⟩,⟨.int .i64 7,QGy,7⟩]
def QWh (w:World)(B F O M:Nat)(b f:Int)(o:Bool):Prop :=
 (w.cell? ⟨B,0,none⟩=some (.int .u8 b)∧w.cell? ⟨F,0,none⟩=some (.int .u8 f)∧w.cell? ⟨O,0,none⟩=some (.bool o))∧w.heap[M]? = some (.map (XQ B F O) 8)
theorem Qe (b f:Int)(o:Bool)(w:World) :
 Calls Tryz.prog 298 #[.int .u8 b,.int .u8 f,.bool o] w fun e w'=>∃ B F O M,e=.returned (.map (some M))∧QWh w' B F O M b f o∧Below w.heap.size w w':=by
 have hmm:=@run_makeMap Tryz.prog
 go_enter Tryz.func298,Tryz.ntmps298
 go_wp2
 go_ret
 have c1:=jl w (.int .u8 b) 5
 have c2:=jl (w.alloc (.cells #[.int .u8 b] 5)) (.int .u8 f) 5
 have c3:=jl ((w.alloc (.cells #[.int .u8 b] 5)).alloc (.cells #[.int .u8 f] 5)) (.bool o) 4
 simp only[World.size_alloc] at c2 c3
 refine⟨w.heap.size,w.heap.size+1,w.heap.size+1+1,w.heap.size+1+1+1,rfl,⟨⟨JI _ _ (JI _ _ (JI _ _ c1)),JI _ _ (JI _ _ c2),JI _ _ c3⟩,?_⟩,(by repeat (first|exact Below.refl _ _|assumption|refine JF ?_ (by assumption)|refine Below.drew ?_|refine Below.alloc ?_ (by first|(simp;done)|(simp;omega)|omega) _|refine Below.setCell ?_ (by first|(simp;done)|(simp;omega)|omega) _))⟩
 have h:=(MapKept.heap_alloc (((w.alloc (.cells #[.int .u8 b] 5)).alloc (.cells #[.int .u8 f] 5)).alloc (.cells #[.bool o] 4)) (.map (XQ w.heap.size (w.heap.size+1) (w.heap.size+1+1)) 8)).1
 simp only[World.size_alloc] at h
 exact h
theorem QFr (O:Nat)(o:Bool)(w:World)(h:w.cell? ⟨O,0,none⟩=some (.bool o)) :
 Calls Tryz.prog 324 #[.pointer (some ⟨O,0,none⟩)] w fun e w'=>e=.returned (.bool o)∧w=w':=by
 go_enter Tryz.func324,Tryz.ntmps324
 go_wp2
 go_ret
 exact⟨rfl,rfl⟩
theorem QTA (f:Int)(h:B8 f):(bits .and .u8 f 1 != 0)=isM f 0:=by
 rw[ze f h]
 cases isM f 0<;>rfl
theorem QDY (F:Nat)(f:Int)(hf:B8 f)(w:World)(h:w.cell? ⟨F,0,none⟩=some (.int .u8 f)) :
 Calls Tryz.prog 325 #[.pointer (some ⟨F,0,none⟩)] w fun e w'=>e=.returned (.bool (isM f 0))∧w=w':=by
 have hl:=Lib.hid (QTA f hf)
 go_enter Tryz.func325,Tryz.ntmps325
 go_wp2
 go_ret
 exact⟨QE hl.out,rfl⟩
theorem QEJ (w:World) :
 Calls Tryz.prog 326 #[] w fun e w'=>e=.returned (.bool false)∧w=w':=by
 go_enter Tryz.func326,Tryz.ntmps326
 go_wp2
 go_ret
 exact⟨rfl,rfl⟩
theorem QOA (B:Nat)(b:Int)(hb:B8 b)(w:World)(h:w.cell? ⟨B,0,none⟩=some (.int .u8 b)) :
 Calls Tryz.prog 327 #[.pointer (some ⟨B,0,none⟩)] w fun e w'=>e=.returned (.bool (isM b 7))∧w=w':=by
 go_enter Tryz.func327,Tryz.ntmps327
 go_wp2_with (first
  | (go_at_call 253;refine (Qw _ _ (B8.lo (by assumption)) (B8.hi (by assumption)) _).mono ?_;rintro e w' ⟨rfl,rfl⟩))
 go_ret
 exact⟨rfl,rfl⟩
theorem QMu (w:World) :
 Calls Tryz.prog 328 #[] w fun e w'=>e=.returned (.bool true)∧w=w':=by
 go_enter Tryz.func328,Tryz.ntmps328
 go_wp2
 go_ret
 exact⟨rfl,rfl⟩
theorem QU5 {w:World} {B F O M:Nat}(h:w.heap[M]? = some (.map (XQ B F O) 8)):(Instr.lookup 253 (.map (some M)) (.int .i64 0) true).run Tryz.prog w=.ok (.tuple #[QL4 O,.bool true]) w :=
 J4 Tryz.underlying253 Tryz.underlying3 h rfl
theorem QUq {w:World} {B F O M:Nat}(h:w.heap[M]? = some (.map (XQ B F O) 8)):(Instr.lookup 253 (.map (some M)) (.int .i64 1) true).run Tryz.prog w=.ok (.tuple #[QL4 O,.bool true]) w :=
 J4 Tryz.underlying253 Tryz.underlying3 h rfl
theorem QVl {w:World} {B F O M:Nat}(h:w.heap[M]? = some (.map (XQ B F O) 8)):(Instr.lookup 253 (.map (some M)) (.int .i64 2) true).run Tryz.prog w=.ok (.tuple #[QD0 F,.bool true]) w :=
 J4 Tryz.underlying253 Tryz.underlying3 h rfl
theorem QVC {w:World} {B F O M:Nat}(h:w.heap[M]? = some (.map (XQ B F O) 8)):(Instr.lookup 253 (.map (some M)) (.int .i64 3) true).run Tryz.prog w=.ok (.tuple #[QD0 F,.bool true]) w :=
 J4 Tryz.underlying253 Tryz.underlying3 h rfl
theorem QUb {w:World} {B F O M:Nat}(h:w.heap[M]? = some (.map (XQ B F O) 8)):(Instr.lookup 253 (.map (some M)) (.int .i64 4) true).run Tryz.prog w=.ok (.tuple #[QGy,.bool true]) w :=
 J4 Tryz.underlying253 Tryz.underlying3 h rfl
theorem QU3 {w:World} {B F O M:Nat}(h:w.heap[M]? = some (.map (XQ B F O) 8)):(Instr.lookup 253 (.map (some M)) (.int .i64 5) true).run Tryz.prog w=.ok (.tuple #[QUN B,.bool true]) w :=
 J4 Tryz.underlying253 Tryz.underlying3 h rfl
theorem QUp {w:World} {B F O M:Nat}(h:w.heap[M]? = some (.map (XQ B F O) 8)):(Instr.lookup 253 (.map (some M)) (.int .i64 6) true).run Tryz.prog w=.ok (.tuple #[QT7,.bool true]) w :=
 J4 Tryz.underlying253 Tryz.underlying3 h rfl
theorem QUc {w:World} {B F O M:Nat}(h:w.heap[M]? = some (.map (XQ B F O) 8)):(Instr.lookup 253 (.map (some M)) (.int .i64 7) true).run Tryz.prog w=.ok (.tuple #[QGy,.bool true]) w :=
 J4 Tryz.underlying253 Tryz.underlying3 h rfl
theorem QSn {w:World} {B F O M:Nat} {k:Int}(hk:k < 0∨8≤k)(h:w.heap[M]? = some (.map (XQ B F O) 8)):(Instr.lookup 253 (.map (some M)) (.int .i64 k) true).run Tryz.prog w=.ok (.tuple #[.nilFunc,.bool false]) w :=
 qB Tryz.underlying253 Tryz.underlying3 h (by
  have n0:(k==0)=false:=by simp;omega
  have n1:(k==1)=false:=by simp;omega
  have n2:(k==2)=false:=by simp;omega
  have n3:(k==3)=false:=by simp;omega
  have n4:(k==4)=false:=by simp;omega
  have n5:(k==5)=false:=by simp;omega
  have n6:(k==6)=false:=by simp;omega
  have n7:(k==7)=false:=by simp;omega
  simp only[XQ,Instr.findNow,Instr.sameNow,if_true,n0,n1,n2,n3,n4,n5,n6,n7]) (by kernel_rfl)
end
def Courses (w:World):Prop:=w.cell? ⟨25,0,none⟩=some (.int .i64 1)∧w.cell? ⟨25,1,none⟩=some (.int .i64 7)∧w.cell? ⟨25,2,none⟩=some (.int .i64 0)∧w.cell? ⟨25,3,none⟩=some (.int .i64 (-1))∧w.cell? ⟨25,4,none⟩=some (.int .i64 0)∧w.cell? ⟨25,5,none⟩=some (.int .i64 7)
theorem Courses.below {w w':World}(h:Courses w)(k:Below w.heap.size w w'):Courses w':=by
 obtain⟨h0,h1,h2,h3,h4,h5⟩:=h
 exact⟨cell_kept h0 k,cell_kept h1 k,cell_kept h2 k,cell_kept h3 k,cell_kept h4 k,cell_kept h5 k⟩
theorem Ze (y:Int):bits BinOp.and IntKind.i64 y 1=y%2:=by
 have e:(BitVec.ofInt 64 y &&& BitVec.ofInt 64 1).toNat=(y%2).toNat:=by
  rw[BitVec.toNat_and,show (BitVec.ofInt 64 1).toNat=2 ^ 1-1 by decide,Nat.and_two_pow_sub_one_eq_mod,BitVec.toNat_ofInt]
  omega
 show IntKind.i64.wrap ((BitVec.ofInt 64 y &&& BitVec.ofInt 64 1).toNat:Int)=_
 rw[e,IntKind.wrap_i64]
 omega
theorem QFK (o:Bool)(w:World) :
 Calls Tryz.prog 250 #[.bool o] w fun e w'=>e=.returned (.int .u8 (one o))∧w=w':=by
 cases o
 all_goals
  go_enter Tryz.func250,Tryz.ntmps250
  go_wp2
  go_ret
  exact⟨rfl,rfl⟩
theorem QA9 (w:World)(u v x:Value)(t:TypeId):(w.alloc (.cells #[u,v,x] t)).cell? ⟨w.heap.size,0,none⟩=some u∧(w.alloc (.cells #[u,v,x] t)).cell? ⟨w.heap.size,1,none⟩=some v∧(w.alloc (.cells #[u,v,x] t)).cell? ⟨w.heap.size,2,none⟩=some x:=by
 have e:∀ o:Obj,(w.alloc o).heap[w.heap.size]? = some o:=fun o=>by
  show (w.heap.push _)[w.heap.size]? = _
  simp
 refine⟨?_,?_,?_⟩<;>(simp only[World.cell?,e];rfl)
theorem QDG {w w':World} {p q r:Addr} {u v x:Value}(k:Below w.heap.size w w')(h:w.cell? p=some u∧w.cell? q=some v∧w.cell? r=some x):w'.cell? p=some u∧w'.cell? q=some v∧w'.cell? r=some x :=
 ⟨cell_kept h.1 k,cell_kept h.2.1 k,cell_kept h.2.2 k⟩
theorem last3 {p q r:Prop}(h:p∧q∧r):r:=h.2.2
abbrev QBM (r:Int)(o k:Bool):Value:=.tuple #[.int .u8 r,.bool o,.bool k]
theorem QVf (b f:Int)(hb:B8 b)(hf:B8 f)(w:World)(hd:Courses w) :
 Calls Tryz.prog 248 #[.int .i64 0,.int .u8 b,.int .u8 f] w fun e w'=>e=.returned (QBM (shM 0 b f) (jR 0 b) true)∧Below w.heap.size w w':=by
 have hB:=hb
 clear hb
 obtain⟨d0,d1,d2,d3,d4,d5⟩:=hd
 have ka:=Ze 0
 simp only[show (0:Int)%2=0 by decide] at ka
 have ht:B8 (XE b 1):=Qv b 1 hB.1 hB.2
 go_enter Tryz.func248,Tryz.ntmps248
 go_wp2_with (first
  | (go_at_call 253;refine (Qw _ _ (B8.lo (by assumption)) (B8.hi (by assumption)) _).mono ?_;rintro e w' ⟨rfl,rfl⟩)
  | (go_at_call 298;refine (Qe _ _ _ _).mono ?_;rintro e w' ⟨B,F,O,M,rfl,⟨⟨c1,c2,c3⟩,hm⟩,hb⟩;have hl:=QU5 hm))
 have k0:w'.cell? ⟨w.heap.size,0,none⟩=some (.int .i64 1):=cell_kept (QA9 w _ _ _ _).1 hb
 have k2:w'.cell? ⟨w.heap.size,2,none⟩=some (.int .i64 0):=cell_kept (QA9 w _ _ _ _).2.2 hb
 have hsz:=hb.size
 simp only[World.size_alloc] at hsz
 have hs:w'.cell? ⟨w.heap.size,0,none⟩=some (.int .i64 1)∧w'.cell? ⟨w.heap.size,2,none⟩=some (.int .i64 0)∧w'.cell? ⟨O,0,none⟩=some (.bool (isM b 7)):=⟨k0,k2,c3⟩
 have hb0:Below w.heap.size w w':=(by repeat (first|exact Below.refl _ _|assumption|refine JF ?_ (by assumption)|refine Below.drew ?_|refine Below.alloc ?_ (by first|(simp;done)|(simp;omega)|omega) _|refine Below.setCell ?_ (by first|(simp;done)|(simp;omega)|omega) _))
 clear hb k0 k2 c1 c2 c3 hl hm d0 d1 d2 d3 d4 d5 ka
 go_region_held3 (fun w'=>w'.cell? ⟨w.heap.size,0,none⟩=some (.int .i64 1)∧w'.cell? ⟨w.heap.size,2,none⟩=some (.int .i64 0)∧w'.cell? ⟨O,0,none⟩=some (.bool (isM b 7))) (first|go_keep|exact QDG hb (by assumption))
  (first
  | (go_at_call 299;refine (Z7 _ _ (B8.lo (by assumption)) (B8.hi (by assumption)) _).mono ?_;rintro e w' ⟨rfl,hb⟩;have hsz:=hb.size)
  | (go_at_call 324;refine (QFr O (isM b 7) _ (last3 (by assumption))).mono ?_;rintro e w' ⟨rfl,rfl⟩)
  | (go_at_call 209;refine (Qr _ _ _ (B8.lo (by assumption)) (B8.hi (by assumption)) _).mono ?_;rintro e w' ⟨rfl,rfl⟩))
 go_wp2_with fail
 go_ret3
 exact⟨rfl,(by repeat (first|exact Below.refl _ _|assumption|refine JF ?_ (by assumption)|refine Below.drew ?_|refine Below.alloc ?_ (by first|(simp;done)|(simp;omega)|omega) _|refine Below.setCell ?_ (by first|(simp;done)|(simp;omega)|omega) _))⟩
theorem QVo (b f:Int)(hb:B8 b)(hf:B8 f)(w:World)(hd:Courses w) :
 Calls Tryz.prog 248 #[.int .i64 1,.int .u8 b,.int .u8 f] w fun e w'=>e=.returned (QBM (shM 1 b f) (jR 1 b) true)∧Below w.heap.size w w':=by
 have hB:=hb
 clear hb
 obtain⟨d0,d1,d2,d3,d4,d5⟩:=hd
 have ka:=Ze 1
 simp only[show (1:Int)%2=1 by decide] at ka
 have ht:B8 (XE b (-1)):=Qv b (-1) hB.1 hB.2
 go_enter Tryz.func248,Tryz.ntmps248
 go_wp2_with (first
  | (go_at_call 253;refine (Qw _ _ (B8.lo (by assumption)) (B8.hi (by assumption)) _).mono ?_;rintro e w' ⟨rfl,rfl⟩)
  | (go_at_call 298;refine (Qe _ _ _ _).mono ?_;rintro e w' ⟨B,F,O,M,rfl,⟨⟨c1,c2,c3⟩,hm⟩,hb⟩;have hl:=QUq hm))
 have k0:w'.cell? ⟨w.heap.size,0,none⟩=some (.int .i64 (-1)):=cell_kept (QA9 w _ _ _ _).1 hb
 have k2:w'.cell? ⟨w.heap.size,2,none⟩=some (.int .i64 7):=cell_kept (QA9 w _ _ _ _).2.2 hb
 have hsz:=hb.size
 simp only[World.size_alloc] at hsz
 have hs:w'.cell? ⟨w.heap.size,0,none⟩=some (.int .i64 (-1))∧w'.cell? ⟨w.heap.size,2,none⟩=some (.int .i64 7)∧w'.cell? ⟨O,0,none⟩=some (.bool (isM b 0)):=⟨k0,k2,c3⟩
 have hb0:Below w.heap.size w w':=(by repeat (first|exact Below.refl _ _|assumption|refine JF ?_ (by assumption)|refine Below.drew ?_|refine Below.alloc ?_ (by first|(simp;done)|(simp;omega)|omega) _|refine Below.setCell ?_ (by first|(simp;done)|(simp;omega)|omega) _))
 clear hb k0 k2 c1 c2 c3 hl hm d0 d1 d2 d3 d4 d5 ka
 go_region_held3 (fun w'=>w'.cell? ⟨w.heap.size,0,none⟩=some (.int .i64 (-1))∧w'.cell? ⟨w.heap.size,2,none⟩=some (.int .i64 7)∧w'.cell? ⟨O,0,none⟩=some (.bool (isM b 0))) (first|go_keep|exact QDG hb (by assumption))
  (first
  | (go_at_call 299;refine (Z7 _ _ (B8.lo (by assumption)) (B8.hi (by assumption)) _).mono ?_;rintro e w' ⟨rfl,hb⟩;have hsz:=hb.size)
  | (go_at_call 324;refine (QFr O (isM b 0) _ (last3 (by assumption))).mono ?_;rintro e w' ⟨rfl,rfl⟩)
  | (go_at_call 209;refine (Qr _ _ _ (B8.lo (by assumption)) (B8.hi (by assumption)) _).mono ?_;rintro e w' ⟨rfl,rfl⟩))
 go_wp2_with fail
 go_ret3
 exact⟨rfl,(by repeat (first|exact Below.refl _ _|assumption|refine JF ?_ (by assumption)|refine Below.drew ?_|refine Below.alloc ?_ (by first|(simp;done)|(simp;omega)|omega) _|refine Below.setCell ?_ (by first|(simp;done)|(simp;omega)|omega) _))⟩
theorem QV7 (b f:Int)(hb:B8 b)(hf:B8 f)(w:World)(hd:Courses w) :
 Calls Tryz.prog 248 #[.int .i64 2,.int .u8 b,.int .u8 f] w fun e w'=>e=.returned (QBM (shM 2 b f) (jR 2 b) true)∧Below w.heap.size w w':=by
 have hB:=hb
 clear hb
 obtain⟨d0,d1,d2,d3,d4,d5⟩:=hd
 have ka:=Ze 2
 simp only[show (2:Int)%2=0 by decide] at ka
 have ht:B8 (XE b 1):=Qv b 1 hB.1 hB.2
 go_enter Tryz.func248,Tryz.ntmps248
 go_wp2_with (first
  | (go_at_call 253;refine (Qw _ _ (B8.lo (by assumption)) (B8.hi (by assumption)) _).mono ?_;rintro e w' ⟨rfl,rfl⟩)
  | (go_at_call 298;refine (Qe _ _ _ _).mono ?_;rintro e w' ⟨B,F,O,M,rfl,⟨⟨c1,c2,c3⟩,hm⟩,hb⟩;have hl:=QVl hm))
 have k0:w'.cell? ⟨w.heap.size,0,none⟩=some (.int .i64 1):=cell_kept (QA9 w _ _ _ _).1 hb
 have k2:w'.cell? ⟨w.heap.size,2,none⟩=some (.int .i64 0):=cell_kept (QA9 w _ _ _ _).2.2 hb
 have hsz:=hb.size
 simp only[World.size_alloc] at hsz
 have hs:w'.cell? ⟨w.heap.size,0,none⟩=some (.int .i64 1)∧w'.cell? ⟨w.heap.size,2,none⟩=some (.int .i64 0)∧w'.cell? ⟨F,0,none⟩=some (.int .u8 f):=⟨k0,k2,c2⟩
 have hb0:Below w.heap.size w w':=(by repeat (first|exact Below.refl _ _|assumption|refine JF ?_ (by assumption)|refine Below.drew ?_|refine Below.alloc ?_ (by first|(simp;done)|(simp;omega)|omega) _|refine Below.setCell ?_ (by first|(simp;done)|(simp;omega)|omega) _))
 clear hb k0 k2 c1 c2 c3 hl hm d0 d1 d2 d3 d4 d5 ka
 go_region_held3 (fun w'=>w'.cell? ⟨w.heap.size,0,none⟩=some (.int .i64 1)∧w'.cell? ⟨w.heap.size,2,none⟩=some (.int .i64 0)∧w'.cell? ⟨F,0,none⟩=some (.int .u8 f)) (first|go_keep|exact QDG hb (by assumption))
  (first
  | (go_at_call 299;refine (Z7 _ _ (B8.lo (by assumption)) (B8.hi (by assumption)) _).mono ?_;rintro e w' ⟨rfl,hb⟩;have hsz:=hb.size)
  | (go_at_call 325;refine (QDY F f hf _ (last3 (by assumption))).mono ?_;rintro e w' ⟨rfl,rfl⟩)
  | (go_at_call 209;refine (Qr _ _ _ (B8.lo (by assumption)) (B8.hi (by assumption)) _).mono ?_;rintro e w' ⟨rfl,rfl⟩))
 go_wp2_with fail
 go_ret3
 exact⟨rfl,(by repeat (first|exact Below.refl _ _|assumption|refine JF ?_ (by assumption)|refine Below.drew ?_|refine Below.alloc ?_ (by first|(simp;done)|(simp;omega)|omega) _|refine Below.setCell ?_ (by first|(simp;done)|(simp;omega)|omega) _))⟩
theorem QVt (b f:Int)(hb:B8 b)(hf:B8 f)(w:World)(hd:Courses w) :
 Calls Tryz.prog 248 #[.int .i64 3,.int .u8 b,.int .u8 f] w fun e w'=>e=.returned (QBM (shM 3 b f) (jR 3 b) true)∧Below w.heap.size w w':=by
 have hB:=hb
 clear hb
 obtain⟨d0,d1,d2,d3,d4,d5⟩:=hd
 have ka:=Ze 3
 simp only[show (3:Int)%2=1 by decide] at ka
 have ht:B8 (XE b (-1)):=Qv b (-1) hB.1 hB.2
 go_enter Tryz.func248,Tryz.ntmps248
 go_wp2_with (first
  | (go_at_call 253;refine (Qw _ _ (B8.lo (by assumption)) (B8.hi (by assumption)) _).mono ?_;rintro e w' ⟨rfl,rfl⟩)
  | (go_at_call 298;refine (Qe _ _ _ _).mono ?_;rintro e w' ⟨B,F,O,M,rfl,⟨⟨c1,c2,c3⟩,hm⟩,hb⟩;have hl:=QVC hm))
 have k0:w'.cell? ⟨w.heap.size,0,none⟩=some (.int .i64 (-1)):=cell_kept (QA9 w _ _ _ _).1 hb
 have k2:w'.cell? ⟨w.heap.size,2,none⟩=some (.int .i64 7):=cell_kept (QA9 w _ _ _ _).2.2 hb
 have hsz:=hb.size
 simp only[World.size_alloc] at hsz
 have hs:w'.cell? ⟨w.heap.size,0,none⟩=some (.int .i64 (-1))∧w'.cell? ⟨w.heap.size,2,none⟩=some (.int .i64 7)∧w'.cell? ⟨F,0,none⟩=some (.int .u8 f):=⟨k0,k2,c2⟩
 have hb0:Below w.heap.size w w':=(by repeat (first|exact Below.refl _ _|assumption|refine JF ?_ (by assumption)|refine Below.drew ?_|refine Below.alloc ?_ (by first|(simp;done)|(simp;omega)|omega) _|refine Below.setCell ?_ (by first|(simp;done)|(simp;omega)|omega) _))
 clear hb k0 k2 c1 c2 c3 hl hm d0 d1 d2 d3 d4 d5 ka
 go_region_held3 (fun w'=>w'.cell? ⟨w.heap.size,0,none⟩=some (.int .i64 (-1))∧w'.cell? ⟨w.heap.size,2,none⟩=some (.int .i64 7)∧w'.cell? ⟨F,0,none⟩=some (.int .u8 f)) (first|go_keep|exact QDG hb (by assumption))
  (first
  | (go_at_call 299;refine (Z7 _ _ (B8.lo (by assumption)) (B8.hi (by assumption)) _).mono ?_;rintro e w' ⟨rfl,hb⟩;have hsz:=hb.size)
  | (go_at_call 325;refine (QDY F f hf _ (last3 (by assumption))).mono ?_;rintro e w' ⟨rfl,rfl⟩)
  | (go_at_call 209;refine (Qr _ _ _ (B8.lo (by assumption)) (B8.hi (by assumption)) _).mono ?_;rintro e w' ⟨rfl,rfl⟩))
 go_wp2_with fail
 go_ret3
 exact⟨rfl,(by repeat (first|exact Below.refl _ _|assumption|refine JF ?_ (by assumption)|refine Below.drew ?_|refine Below.alloc ?_ (by first|(simp;done)|(simp;omega)|omega) _|refine Below.setCell ?_ (by first|(simp;done)|(simp;omega)|omega) _))⟩
theorem QV5 (b f:Int)(hb:B8 b)(hf:B8 f)(w:World)(hd:Courses w) :
 Calls Tryz.prog 248 #[.int .i64 4,.int .u8 b,.int .u8 f] w fun e w'=>e=.returned (QBM (shM 4 b f) (jR 4 b) true)∧Below w.heap.size w w':=by
 have hB:=hb
 clear hb
 obtain⟨d0,d1,d2,d3,d4,d5⟩:=hd
 have ka:=Ze 4
 simp only[show (4:Int)%2=0 by decide] at ka
 have ht:B8 (XE b 1):=Qv b 1 hB.1 hB.2
 go_enter Tryz.func248,Tryz.ntmps248
 go_wp2_with (first
  | (go_at_call 253;refine (Qw _ _ (B8.lo (by assumption)) (B8.hi (by assumption)) _).mono ?_;rintro e w' ⟨rfl,rfl⟩)
  | (go_at_call 298;refine (Qe _ _ _ _).mono ?_;rintro e w' ⟨B,F,O,M,rfl,⟨⟨c1,c2,c3⟩,hm⟩,hb⟩;have hl:=QUb hm))
 have k0:w'.cell? ⟨w.heap.size,0,none⟩=some (.int .i64 1):=cell_kept (QA9 w _ _ _ _).1 hb
 have k2:w'.cell? ⟨w.heap.size,2,none⟩=some (.int .i64 0):=cell_kept (QA9 w _ _ _ _).2.2 hb
 have hsz:=hb.size
 simp only[World.size_alloc] at hsz
 have hs:w'.cell? ⟨w.heap.size,0,none⟩=some (.int .i64 1)∧w'.cell? ⟨w.heap.size,2,none⟩=some (.int .i64 0)∧w'.cell? ⟨O,0,none⟩=some (.bool (isM b 7)):=⟨k0,k2,c3⟩
 have hb0:Below w.heap.size w w':=(by repeat (first|exact Below.refl _ _|assumption|refine JF ?_ (by assumption)|refine Below.drew ?_|refine Below.alloc ?_ (by first|(simp;done)|(simp;omega)|omega) _|refine Below.setCell ?_ (by first|(simp;done)|(simp;omega)|omega) _))
 clear hb k0 k2 c1 c2 c3 hl hm d0 d1 d2 d3 d4 d5 ka
 go_region_held3 (fun w'=>w'.cell? ⟨w.heap.size,0,none⟩=some (.int .i64 1)∧w'.cell? ⟨w.heap.size,2,none⟩=some (.int .i64 0)∧w'.cell? ⟨O,0,none⟩=some (.bool (isM b 7))) (first|go_keep|exact QDG hb (by assumption))
  (first
  | (go_at_call 299;refine (Z7 _ _ (B8.lo (by assumption)) (B8.hi (by assumption)) _).mono ?_;rintro e w' ⟨rfl,hb⟩;have hsz:=hb.size)
  | (go_at_call 326;refine (QEJ _).mono ?_;rintro e w' ⟨rfl,rfl⟩)
  | (go_at_call 209;refine (Qr _ _ _ (B8.lo (by assumption)) (B8.hi (by assumption)) _).mono ?_;rintro e w' ⟨rfl,rfl⟩))
 go_wp2_with fail
 go_ret3
 exact⟨rfl,(by repeat (first|exact Below.refl _ _|assumption|refine JF ?_ (by assumption)|refine Below.drew ?_|refine Below.alloc ?_ (by first|(simp;done)|(simp;omega)|omega) _|refine Below.setCell ?_ (by first|(simp;done)|(simp;omega)|omega) _))⟩
theorem QV0 (b f:Int)(hb:B8 b)(hf:B8 f)(w:World)(hd:Courses w) :
 Calls Tryz.prog 248 #[.int .i64 5,.int .u8 b,.int .u8 f] w fun e w'=>e=.returned (QBM (shM 5 b f) (jR 5 b) true)∧Below w.heap.size w w':=by
 have hB:=hb
 clear hb
 obtain⟨d0,d1,d2,d3,d4,d5⟩:=hd
 have ka:=Ze 5
 simp only[show (5:Int)%2=1 by decide] at ka
 have ht:B8 (XE b (-1)):=Qv b (-1) hB.1 hB.2
 go_enter Tryz.func248,Tryz.ntmps248
 go_wp2_with (first
  | (go_at_call 253;refine (Qw _ _ (B8.lo (by assumption)) (B8.hi (by assumption)) _).mono ?_;rintro e w' ⟨rfl,rfl⟩)
  | (go_at_call 298;refine (Qe _ _ _ _).mono ?_;rintro e w' ⟨B,F,O,M,rfl,⟨⟨c1,c2,c3⟩,hm⟩,hb⟩;have hl:=QU3 hm))
 have k0:w'.cell? ⟨w.heap.size,0,none⟩=some (.int .i64 (-1)):=cell_kept (QA9 w _ _ _ _).1 hb
 have k2:w'.cell? ⟨w.heap.size,2,none⟩=some (.int .i64 7):=cell_kept (QA9 w _ _ _ _).2.2 hb
 have hsz:=hb.size
 simp only[World.size_alloc] at hsz
 have hs:w'.cell? ⟨w.heap.size,0,none⟩=some (.int .i64 (-1))∧w'.cell? ⟨w.heap.size,2,none⟩=some (.int .i64 7)∧w'.cell? ⟨B,0,none⟩=some (.int .u8 b):=⟨k0,k2,c1⟩
 have hb0:Below w.heap.size w w':=(by repeat (first|exact Below.refl _ _|assumption|refine JF ?_ (by assumption)|refine Below.drew ?_|refine Below.alloc ?_ (by first|(simp;done)|(simp;omega)|omega) _|refine Below.setCell ?_ (by first|(simp;done)|(simp;omega)|omega) _))
 clear hb k0 k2 c1 c2 c3 hl hm d0 d1 d2 d3 d4 d5 ka
 go_region_held3 (fun w'=>w'.cell? ⟨w.heap.size,0,none⟩=some (.int .i64 (-1))∧w'.cell? ⟨w.heap.size,2,none⟩=some (.int .i64 7)∧w'.cell? ⟨B,0,none⟩=some (.int .u8 b)) (first|go_keep|exact QDG hb (by assumption))
  (first
  | (go_at_call 299;refine (Z7 _ _ (B8.lo (by assumption)) (B8.hi (by assumption)) _).mono ?_;rintro e w' ⟨rfl,hb⟩;have hsz:=hb.size)
  | (go_at_call 327;refine (QOA B b hB _ (last3 (by assumption))).mono ?_;rintro e w' ⟨rfl,rfl⟩)
  | (go_at_call 209;refine (Qr _ _ _ (B8.lo (by assumption)) (B8.hi (by assumption)) _).mono ?_;rintro e w' ⟨rfl,rfl⟩))
 go_wp2_with fail
 go_ret3
 exact⟨rfl,(by repeat (first|exact Below.refl _ _|assumption|refine JF ?_ (by assumption)|refine Below.drew ?_|refine Below.alloc ?_ (by first|(simp;done)|(simp;omega)|omega) _|refine Below.setCell ?_ (by first|(simp;done)|(simp;omega)|omega) _))⟩
theorem QU1 (b f:Int)(hb:B8 b)(hf:B8 f)(w:World)(hd:Courses w) :
 Calls Tryz.prog 248 #[.int .i64 6,.int .u8 b,.int .u8 f] w fun e w'=>e=.returned (QBM (shM 6 b f) (jR 6 b) true)∧Below w.heap.size w w':=by
 have hB:=hb
 clear hb
 obtain⟨d0,d1,d2,d3,d4,d5⟩:=hd
 have ka:=Ze 6
 simp only[show (6:Int)%2=0 by decide] at ka
 have ht:B8 (XE b 1):=Qv b 1 hB.1 hB.2
 go_enter Tryz.func248,Tryz.ntmps248
 go_wp2_with (first
  | (go_at_call 253;refine (Qw _ _ (B8.lo (by assumption)) (B8.hi (by assumption)) _).mono ?_;rintro e w' ⟨rfl,rfl⟩)
  | (go_at_call 298;refine (Qe _ _ _ _).mono ?_;rintro e w' ⟨B,F,O,M,rfl,⟨⟨c1,c2,c3⟩,hm⟩,hb⟩;have hl:=QUp hm))
 have k0:w'.cell? ⟨w.heap.size,0,none⟩=some (.int .i64 1):=cell_kept (QA9 w _ _ _ _).1 hb
 have k2:w'.cell? ⟨w.heap.size,2,none⟩=some (.int .i64 0):=cell_kept (QA9 w _ _ _ _).2.2 hb
 have hsz:=hb.size
 simp only[World.size_alloc] at hsz
 have hs:w'.cell? ⟨w.heap.size,0,none⟩=some (.int .i64 1)∧w'.cell? ⟨w.heap.size,2,none⟩=some (.int .i64 0)∧w'.cell? ⟨O,0,none⟩=some (.bool (isM b 7)):=⟨k0,k2,c3⟩
 have hb0:Below w.heap.size w w':=(by repeat (first|exact Below.refl _ _|assumption|refine JF ?_ (by assumption)|refine Below.drew ?_|refine Below.alloc ?_ (by first|(simp;done)|(simp;omega)|omega) _|refine Below.setCell ?_ (by first|(simp;done)|(simp;omega)|omega) _))
 clear hb k0 k2 c1 c2 c3 hl hm d0 d1 d2 d3 d4 d5 ka
 go_region_held3 (fun w'=>w'.cell? ⟨w.heap.size,0,none⟩=some (.int .i64 1)∧w'.cell? ⟨w.heap.size,2,none⟩=some (.int .i64 0)∧w'.cell? ⟨O,0,none⟩=some (.bool (isM b 7))) (first|go_keep|exact QDG hb (by assumption))
  (first
  | (go_at_call 299;refine (Z7 _ _ (B8.lo (by assumption)) (B8.hi (by assumption)) _).mono ?_;rintro e w' ⟨rfl,hb⟩;have hsz:=hb.size)
  | (go_at_call 328;refine (QMu _).mono ?_;rintro e w' ⟨rfl,rfl⟩)
  | (go_at_call 209;refine (Qr _ _ _ (B8.lo (by assumption)) (B8.hi (by assumption)) _).mono ?_;rintro e w' ⟨rfl,rfl⟩))
 go_wp2_with fail
 go_ret3
 exact⟨rfl,(by repeat (first|exact Below.refl _ _|assumption|refine JF ?_ (by assumption)|refine Below.drew ?_|refine Below.alloc ?_ (by first|(simp;done)|(simp;omega)|omega) _|refine Below.setCell ?_ (by first|(simp;done)|(simp;omega)|omega) _))⟩
theorem QVp (b f:Int)(hb:B8 b)(hf:B8 f)(w:World)(hd:Courses w) :
 Calls Tryz.prog 248 #[.int .i64 7,.int .u8 b,.int .u8 f] w fun e w'=>e=.returned (QBM (shM 7 b f) (jR 7 b) true)∧Below w.heap.size w w':=by
 have hB:=hb
 clear hb
 obtain⟨d0,d1,d2,d3,d4,d5⟩:=hd
 have ka:=Ze 7
 simp only[show (7:Int)%2=1 by decide] at ka
 have ht:B8 (XE b (-1)):=Qv b (-1) hB.1 hB.2
 go_enter Tryz.func248,Tryz.ntmps248
 go_wp2_with (first
  | (go_at_call 253;refine (Qw _ _ (B8.lo (by assumption)) (B8.hi (by assumption)) _).mono ?_;rintro e w' ⟨rfl,rfl⟩)
  | (go_at_call 298;refine (Qe _ _ _ _).mono ?_;rintro e w' ⟨B,F,O,M,rfl,⟨⟨c1,c2,c3⟩,hm⟩,hb⟩;have hl:=QUc hm))
 have k0:w'.cell? ⟨w.heap.size,0,none⟩=some (.int .i64 (-1)):=cell_kept (QA9 w _ _ _ _).1 hb
 have k2:w'.cell? ⟨w.heap.size,2,none⟩=some (.int .i64 7):=cell_kept (QA9 w _ _ _ _).2.2 hb
 have hsz:=hb.size
 simp only[World.size_alloc] at hsz
 have hs:w'.cell? ⟨w.heap.size,0,none⟩=some (.int .i64 (-1))∧w'.cell? ⟨w.heap.size,2,none⟩=some (.int .i64 7)∧w'.cell? ⟨O,0,none⟩=some (.bool (isM b 0)):=⟨k0,k2,c3⟩
 have hb0:Below w.heap.size w w':=(by repeat (first|exact Below.refl _ _|assumption|refine JF ?_ (by assumption)|refine Below.drew ?_|refine Below.alloc ?_ (by first|(simp;done)|(simp;omega)|omega) _|refine Below.setCell ?_ (by first|(simp;done)|(simp;omega)|omega) _))
 clear hb k0 k2 c1 c2 c3 hl hm d0 d1 d2 d3 d4 d5 ka
 go_region_held3 (fun w'=>w'.cell? ⟨w.heap.size,0,none⟩=some (.int .i64 (-1))∧w'.cell? ⟨w.heap.size,2,none⟩=some (.int .i64 7)∧w'.cell? ⟨O,0,none⟩=some (.bool (isM b 0))) (first|go_keep|exact QDG hb (by assumption))
  (first
  | (go_at_call 299;refine (Z7 _ _ (B8.lo (by assumption)) (B8.hi (by assumption)) _).mono ?_;rintro e w' ⟨rfl,hb⟩;have hsz:=hb.size)
  | (go_at_call 326;refine (QEJ _).mono ?_;rintro e w' ⟨rfl,rfl⟩)
  | (go_at_call 209;refine (Qr _ _ _ (B8.lo (by assumption)) (B8.hi (by assumption)) _).mono ?_;rintro e w' ⟨rfl,rfl⟩))
 go_wp2_with fail
 go_ret3
 exact⟨rfl,(by repeat (first|exact Below.refl _ _|assumption|refine JF ?_ (by assumption)|refine Below.drew ?_|refine Below.alloc ?_ (by first|(simp;done)|(simp;omega)|omega) _|refine Below.setCell ?_ (by first|(simp;done)|(simp;omega)|omega) _))⟩
theorem QJP (k b f:Int)(h0:0≤k)(h1:k < 8)(hb:B8 b)(hf:B8 f)(w:World)(hd:Courses w) :
 Calls Tryz.prog 248 #[.int .i64 k,.int .u8 b,.int .u8 f] w fun e w'=>e=.returned (QBM (shM k b f) (jR k b) true)∧Below w.heap.size w w':=by
 obtain rfl|rfl|rfl|rfl|rfl|rfl|rfl|rfl:k=0∨k=1∨k=2∨k=3∨k=4∨k=5∨k=6∨k=7:=by omega
 · exact QVf b f hb hf w hd
 · exact QVo b f hb hf w hd
 · exact QV7 b f hb hf w hd
 · exact QVt b f hb hf w hd
 · exact QV5 b f hb hf w hd
 · exact QV0 b f hb hf w hd
 · exact QU1 b f hb hf w hd
 · exact QVp b f hb hf w hd
theorem QLR (k b f:Int)(hk:k < 0∨8≤k)(hb:B8 b)(hf:B8 f)(w:World)(hd:Courses w) :
 Calls Tryz.prog 248 #[.int .i64 k,.int .u8 b,.int .u8 f] w fun e w'=>e=.returned (QBM 0 false false)∧Below w.heap.size w w':=by
 have hB:=hb
 clear hb
 obtain⟨d0,d1,d2,d3,d4,d5⟩:=hd
 have ka:=Ze k
 have hk:=Lib.hid hk
 obtain h2|h2:k%2=0∨k%2=1:=by omega
 all_goals
  rw[h2] at ka
  clear h2
  go_enter Tryz.func248,Tryz.ntmps248
  go_wp2_with (first
   | (go_at_call 253;refine (Qw _ _ (B8.lo (by assumption)) (B8.hi (by assumption)) _).mono ?_;rintro e w' ⟨rfl,rfl⟩)
   | (go_at_call 298;refine (Qe _ _ _ _).mono ?_;rintro e w' ⟨B,F,O,M,rfl,⟨⟨c1,c2,c3⟩,hm⟩,hb⟩;have hl:=QSn hk.out hm))
  go_ret3
  have hsz:=hb.size
  simp only[World.size_alloc] at hsz
  exact⟨rfl,(by repeat (first|exact Below.refl _ _|assumption|refine JF ?_ (by assumption)|refine Below.drew ?_|refine Below.alloc ?_ (by first|(simp;done)|(simp;omega)|omega) _|refine Below.setCell ?_ (by first|(simp;done)|(simp;omega)|omega) _))⟩
end Go.Proofs.YtmgcgiecimnncaaGreatDoor
