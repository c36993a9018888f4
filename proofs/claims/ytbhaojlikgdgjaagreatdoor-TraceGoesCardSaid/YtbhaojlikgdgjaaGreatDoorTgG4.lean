/- Contracts and facts that the claim's proof wants (several texts in one). -/
import Derived.Deep.RegionHeld3
import Derived.Laws.EntriesVeiled
import Derived.Maps.Own
import Derived.Deep.DeepHandedRow
import Derived.Test.YtbhaojlikgdgjaaGreatDoorTgG3
namespace Go.Proofs.YtbhaojlikgdgjaaGreatDoor
open Go.RowKit
set_option linter.unusedVariables false
set_option linter.unusedSimpArgs false
set_option maxRecDepth 20000
set_option maxHeartbeats 20000000
theorem QMO (x y:Bool)(w:World) :
 Calls Tryz.prog 287 #[.bool x,.bool y] w fun e w'=>e=.returned (.bool (andB x y))∧w=w':=by
 cases x
 all_goals
  go_enter Tryz.func287,Tryz.ntmps287
  go_wp2
  go_ret
  exact⟨rfl,rfl⟩
theorem QO2 (x y:Bool)(w:World) :
 Calls Tryz.prog 289 #[.bool x,.bool y] w fun e w'=>e=.returned (.bool (orB x y))∧w=w':=by
 cases x
 all_goals
  go_enter Tryz.func289,Tryz.ntmps289
  go_wp2
  go_ret
  exact⟨rfl,rfl⟩
theorem QMK (x y:Bool)(w:World) :
 Calls Tryz.prog 288 #[.bool x,.bool y] w fun e w'=>e=.returned (.bool (QTW x y))∧w=w':=by
 go_enter Tryz.func288,Tryz.ntmps288
 go_wp2
 go_ret
 exact⟨rfl,rfl⟩
theorem QFl (a b:Int)(ha:B8 a)(hB:B8 b)(w:World) :
 Calls Tryz.prog 286 #[.int .u8 a,.int .u8 b,.func (.func 287) #[] #[]] w fun e w'=>e=.returned (.int .u8 (QCl a b))∧Below w.heap.size w w':=by
 go_enter Tryz.func286,Tryz.ntmps286
 go_wp2
 refine wp_loop_rounds 9 ?_
 iterate 9 (rw[rounds_succ];go_wp2_with (first
  | (go_at_call 219;refine (Qi _ _ (B8.lo (by assumption)) (B8.hi (by assumption)) _).mono ?_;rintro e w' ⟨rfl,rfl⟩)
  | (go_at_call 287;refine (QMO _ _ _).mono ?_;rintro e w' ⟨rfl,rfl⟩)
  | (go_at_call 175;refine (Qe _ _ _ (B8.lo (by repeat (first|exact B8.zero|apply B8.with))) (B8.hi (by repeat (first|exact B8.zero|apply B8.with))) _).mono ?_;rintro e w' ⟨rfl,rfl⟩)))
 go_ret
 exact⟨Jr (QPL _ _ _ _ _ _ _ _),(by repeat (first|exact Below.refl _ _|assumption|refine JF ?_ (by assumption)|refine Below.drew ?_|refine Below.alloc ?_ (by first|(simp;done)|(simp;omega)|omega) _|refine Below.setCell ?_ (by first|(simp;done)|(simp;omega)|omega) _))⟩
theorem QG1 (a b:Int)(ha:B8 a)(hB:B8 b)(w:World) :
 Calls Tryz.prog 286 #[.int .u8 a,.int .u8 b,.func (.func 289) #[] #[]] w fun e w'=>e=.returned (.int .u8 (orR a b))∧Below w.heap.size w w':=by
 go_enter Tryz.func286,Tryz.ntmps286
 go_wp2
 refine wp_loop_rounds 9 ?_
 iterate 9 (rw[rounds_succ];go_wp2_with (first
  | (go_at_call 219;refine (Qi _ _ (B8.lo (by assumption)) (B8.hi (by assumption)) _).mono ?_;rintro e w' ⟨rfl,rfl⟩)
  | (go_at_call 289;refine (QO2 _ _ _).mono ?_;rintro e w' ⟨rfl,rfl⟩)
  | (go_at_call 175;refine (Qe _ _ _ (B8.lo (by repeat (first|exact B8.zero|apply B8.with))) (B8.hi (by repeat (first|exact B8.zero|apply B8.with))) _).mono ?_;rintro e w' ⟨rfl,rfl⟩)))
 go_ret
 exact⟨Jr (QPL _ _ _ _ _ _ _ _),(by repeat (first|exact Below.refl _ _|assumption|refine JF ?_ (by assumption)|refine Below.drew ?_|refine Below.alloc ?_ (by first|(simp;done)|(simp;omega)|omega) _|refine Below.setCell ?_ (by first|(simp;done)|(simp;omega)|omega) _))⟩
theorem QF2 (a b:Int)(ha:B8 a)(hB:B8 b)(w:World) :
 Calls Tryz.prog 286 #[.int .u8 a,.int .u8 b,.func (.func 288) #[] #[]] w fun e w'=>e=.returned (.int .u8 (zD a b))∧Below w.heap.size w w':=by
 go_enter Tryz.func286,Tryz.ntmps286
 go_wp2
 refine wp_loop_rounds 9 ?_
 iterate 9 (rw[rounds_succ];go_wp2_with (first
  | (go_at_call 219;refine (Qi _ _ (B8.lo (by assumption)) (B8.hi (by assumption)) _).mono ?_;rintro e w' ⟨rfl,rfl⟩)
  | (go_at_call 288;refine (QMK _ _ _).mono ?_;rintro e w' ⟨rfl,rfl⟩)
  | (go_at_call 175;refine (Qe _ _ _ (B8.lo (by repeat (first|exact B8.zero|apply B8.with))) (B8.hi (by repeat (first|exact B8.zero|apply B8.with))) _).mono ?_;rintro e w' ⟨rfl,rfl⟩)))
 go_ret
 exact⟨Jr (QPL _ _ _ _ _ _ _ _),(by repeat (first|exact Below.refl _ _|assumption|refine JF ?_ (by assumption)|refine Below.drew ?_|refine Below.alloc ?_ (by first|(simp;done)|(simp;omega)|omega) _|refine Below.setCell ?_ (by first|(simp;done)|(simp;omega)|omega) _))⟩
theorem QQv (a b:Int)(ha:B8 a)(hB:B8 b)(w:World) :
 Calls Tryz.prog 255 #[.int .u8 a,.int .u8 b] w fun e w'=>e=.returned (two (QCl a b) (QBD (QCl a b)))∧Below w.heap.size w w':=by
 have hr:B8 (QCl a b):=Jw ..
 have hm:=Lib.hid (QMc _ hr)
 go_enter Tryz.func255,Tryz.ntmps255
 go_wp2_with (first
  | (go_at_call 286;refine (QFl _ _ (by assumption) (by assumption) _).mono ?_;rintro e w' ⟨rfl,hb⟩;have hsz:=hb.size)
  | (go_at_call 215;refine (XW _ (B8.lo (by assumption)) (B8.hi (by assumption)) _).mono ?_;rintro e w' ⟨rfl,hb⟩;have hsz:=hb.size))
 go_ret2
 exact⟨by rw[hm.out];rfl,(by repeat (first|exact Below.refl _ _|assumption|refine JF ?_ (by assumption)|refine Below.drew ?_|refine Below.alloc ?_ (by first|(simp;done)|(simp;omega)|omega) _|refine Below.setCell ?_ (by first|(simp;done)|(simp;omega)|omega) _))⟩
theorem QUF (a b:Int)(ha:B8 a)(hB:B8 b)(w:World) :
 Calls Tryz.prog 257 #[.int .u8 a,.int .u8 b] w fun e w'=>e=.returned (two (orR a b) (Jq (orR a b)))∧Below w.heap.size w w':=by
 have hr:B8 (orR a b):=Jw ..
 go_enter Tryz.func257,Tryz.ntmps257
 go_wp2_with (first
  | (go_at_call 286;refine (QG1 _ _ (by assumption) (by assumption) _).mono ?_;rintro e w' ⟨rfl,hb⟩;have hsz:=hb.size)
  | (go_at_call 215;refine (XW _ (B8.lo (by assumption)) (B8.hi (by assumption)) _).mono ?_;rintro e w' ⟨rfl,hb⟩;have hsz:=hb.size))
 go_ret2
 exact⟨rfl,(by repeat (first|exact Below.refl _ _|assumption|refine JF ?_ (by assumption)|refine Below.drew ?_|refine Below.alloc ?_ (by first|(simp;done)|(simp;omega)|omega) _|refine Below.setCell ?_ (by first|(simp;done)|(simp;omega)|omega) _))⟩
theorem QP1 (a b:Int)(ha:B8 a)(hB:B8 b)(w:World) :
 Calls Tryz.prog 256 #[.int .u8 a,.int .u8 b] w fun e w'=>e=.returned (two (zD a b) (Jq (zD a b)))∧Below w.heap.size w w':=by
 have hr:B8 (zD a b):=Jw ..
 go_enter Tryz.func256,Tryz.ntmps256
 go_wp2_with (first
  | (go_at_call 286;refine (QF2 _ _ (by assumption) (by assumption) _).mono ?_;rintro e w' ⟨rfl,hb⟩;have hsz:=hb.size)
  | (go_at_call 215;refine (XW _ (B8.lo (by assumption)) (B8.hi (by assumption)) _).mono ?_;rintro e w' ⟨rfl,hb⟩;have hsz:=hb.size))
 go_ret2
 exact⟨rfl,(by repeat (first|exact Below.refl _ _|assumption|refine JF ?_ (by assumption)|refine Below.drew ?_|refine Below.alloc ?_ (by first|(simp;done)|(simp;omega)|omega) _|refine Below.setCell ?_ (by first|(simp;done)|(simp;omega)|omega) _))⟩
theorem QB0 (b f:Int)(hb:B8 b)(hf:B8 f)(w:World) :
 Calls Tryz.prog 283 #[.int .u8 b,.int .u8 f] w fun e w'=>e=.returned (.int .u8 (Ql (JT b) f 196))∧w=w':=by
 have hr:=QP b
 go_enter Tryz.func283,Tryz.ntmps283
 go_wp2_with (first
  | (go_at_call 266;refine (ZM _ (B8.lo (by assumption)) (B8.hi (by assumption)) _).mono ?_;rintro e w' ⟨rfl,rfl⟩)
  | (go_at_call 218;refine (XT _ _ _ (B8.lo (by assumption)) (B8.hi (by assumption)) (B8.lo (by assumption)) (B8.hi (by assumption)) (by omega) (by omega) _).mono ?_;rintro e w' ⟨rfl,rfl⟩))
 go_ret
 exact⟨rfl,rfl⟩
theorem QMx:∀ x:Fin 256,bits .xor .u8 IntKind.u8.max (x.val:Int)=255-(x.val:Int):=by decide +kernel
theorem QVC (b:Int)(hb:B8 b):bits .xor .u8 IntKind.u8.max b=255-b :=
 Je (P:=fun b=>bits .xor .u8 IntKind.u8.max b=255-b) QMx b hb.1 hb.2
theorem QQV (a f:Int)(ha:B8 a)(hf:B8 f)(w:World) :
 Calls Tryz.prog 249 #[.int .u8 a,.int .u8 f] w fun e w'=>e=.returned (two (255-a) (QJX a f))∧w=w':=by
 have hr:B8 (255-a):=⟨by have:=ha.2;omega,by have:=ha.1;omega⟩
 have hx:=QVC a ha
 have hm:=Lib.hid (QNd a f hf)
 go_enter Tryz.func249,Tryz.ntmps249
 go_wp2_with (first
  | (go_at_call 283;refine (QB0 _ _ (by assumption) (by assumption) _).mono ?_;rintro e w' ⟨rfl,rfl⟩))
 go_ret2
 exact⟨by rw[←hm.out];rfl,rfl⟩
theorem QKQ (a f:Int)(ha:B8 a)(hf:B8 f)(w:World) :
 Calls Tryz.prog 250 #[.int .u8 a,.int .u8 f] w fun e w'=>e=.returned (.int .u8 (QGN a f))∧w=w':=by
 have hm:=Lib.hid (QNr a f)
 go_enter Tryz.func250,Tryz.ntmps250
 go_wp2_with (first
  | (go_at_call 283;refine (QB0 _ _ (by assumption) (by assumption) _).mono ?_;rintro e w' ⟨rfl,rfl⟩))
 go_ret
 exact⟨Jr hm.out,rfl⟩
theorem QQu (a f:Int)(ha:B8 a)(hf:B8 f)(w:World) :
 Calls Tryz.prog 251 #[.int .u8 a,.int .u8 f] w fun e w'=>e=.returned (.int .u8 (QGV a f))∧w=w':=by
 have k:=qm f hf
 cases hc:isM f 0
 · have hm:=Lib.hid (QTc a f hc)
   have k0:bits .and .u8 f 1=0:=by rw[k,hc];rfl
   clear k hc
   go_enter Tryz.func251,Tryz.ntmps251
   go_wp2_with (first
    | (go_at_call 250;refine (QKQ _ _ (by assumption) (by assumption) _).mono ?_;rintro e w' ⟨rfl,rfl⟩))
   go_ret
   exact⟨Jr hm.out,rfl⟩
 · have hm:=Lib.hid (QP5 a f hc)
   have k0:bits .and .u8 f 1=1:=by rw[k,hc];rfl
   clear k hc
   go_enter Tryz.func251,Tryz.ntmps251
   go_wp2_with (first
    | (go_at_call 283;refine (QB0 _ _ (by assumption) (by assumption) _).mono ?_;rintro e w' ⟨rfl,rfl⟩))
   go_ret
   exact⟨Jr hm.out,rfl⟩
section
def Digits (w:World):Prop:=w.cell? ⟨27,0,none⟩=some (.int .u8 16)∧w.cell? ⟨27,1,none⟩=some (.int .u8 15)∧w.cell? ⟨27,2,none⟩=some (.int .u8 9)∧w.cell? ⟨27,3,none⟩=some (.int .u8 6)∧w.cell? ⟨27,4,none⟩=some (.int .u8 1)∧w.cell? ⟨27,5,none⟩=some (.int .u8 255)∧w.cell? ⟨27,6,none⟩=some (.int .u8 153)∧w.cell? ⟨27,7,none⟩=some (.int .u8 96)
theorem Digits.below {w w':World}(h:Digits w)(k:Below w.heap.size w w'):Digits w':=by
 obtain⟨h0,h1,h2,h3,h4,h5,h6,h7⟩:=h
 exact⟨(k.cell (World.block_lt_of_cell? _ _ h0)).trans h0,(k.cell (World.block_lt_of_cell? _ _ h1)).trans h1,(k.cell (World.block_lt_of_cell? _ _ h2)).trans h2,(k.cell (World.block_lt_of_cell? _ _ h3)).trans h3,(k.cell (World.block_lt_of_cell? _ _ h4)).trans h4,(k.cell (World.block_lt_of_cell? _ _ h5)).trans h5,(k.cell (World.block_lt_of_cell? _ _ h6)).trans h6,(k.cell (World.block_lt_of_cell? _ _ h7)).trans h7⟩
theorem QAY {P:Program} {t e:TypeId} {n m:Nat} {fs:Array Field} {cs:Array Value} {k:IntKind} {i:Int} {w:World}(h:P.underlying t=some (.array n e))(he:P.underlying e=some (.struct fs))(hs:(sizeOf e).run P w=.ok m w)(hi:0≤i∧i < n) :
 (Instr.index t (.agg cs) (.int k i)).run P w=.ok (.agg (cs.extract (i.toNat*m) (i.toNat*m+m))) w:=by
 simp[Instr.index,asIntOf,run_underlying h,hi,hs,part,isAgg,run_underlying he]
theorem QUd (a0 a1 a2 a3 a4 a5 a6 a7:Value)(w:World):(Instr.index 278 (.agg #[a0,a1,a2,a3,a4,a5,a6,a7]) (.int .i64 0)).run Tryz.prog w=.ok (.agg #[a0,a1,a2,a3]) w :=
 QAY (m:=4) Tryz.underlying278 Tryz.underlying277 (by kernel_rfl) (by decide)
theorem QU9 (a0 a1 a2 a3 a4 a5 a6 a7:Value)(w:World):(Instr.index 278 (.agg #[a0,a1,a2,a3,a4,a5,a6,a7]) (.int .i64 1)).run Tryz.prog w=.ok (.agg #[a4,a5,a6,a7]) w :=
 QAY (m:=4) Tryz.underlying278 Tryz.underlying277 (by kernel_rfl) (by decide)
attribute [local go_sem ↓] QUd QU9
theorem QNh:∀ x:Fin 256,bits .and .u8 (x.val:Int) 16=(if isM (x.val:Int) 4 then 16 else 0)∧bits .and .u8 (x.val:Int) 1=(if isM (x.val:Int) 0 then 1 else 0)∧bits .and .u8 (x.val:Int) 15=(x.val:Int)%16∧bits .and .u8 (x.val:Int) 255=(x.val:Int)∧bits .and .u8 (x.val:Int) 2=(if isM (x.val:Int) 1 then 2 else 0):=by decide +kernel
theorem ze (f:Int)(h:B8 f):bits .and .u8 f 16=(if isM f 4 then 16 else 0)∧bits .and .u8 f 1=(if isM f 0 then 1 else 0)∧bits .and .u8 f 15=f%16∧bits .and .u8 f 255=f∧bits .and .u8 f 2=(if isM f 1 then 2 else 0) :=
 Je (P:=fun f=>bits .and .u8 f 16=(if isM f 4 then 16 else 0)∧bits .and .u8 f 1=(if isM f 0 then 1 else 0)∧bits .and .u8 f 15=f%16∧bits .and .u8 f 255=f∧bits .and .u8 f 2=(if isM f 1 then 2 else 0)) QNh f h.1 h.2
def QDD (a f:Int):Int:=(if QDS a f then 16 else 0)+(if qV a f then 1 else 0)
theorem QVA:bits .or .u8 0 16=16∧bits .or .u8 16 1=17∧bits .or .u8 0 1=1:=by decide +kernel
theorem QCH (a f:Int)(ha:B8 a)(hf:B8 f)(w:World)(hd:Digits w) :
 Calls Tryz.prog 282 #[.int .u8 a,.int .u8 f] w fun e w'=>e=.returned (two (byM a f) (QDD a f))∧Below w.heap.size w w':=by
 obtain⟨d0,d1,d2,d3,d4,d5,d6,d7⟩:=hd
 obtain⟨k1,k2,_,_,_⟩:=ze f hf
 obtain⟨_,_,k3,k4,_⟩:=ze a ha
 obtain⟨o1,o2,o3⟩:=QVA
 have a0:=ha.1
 have a1:=ha.2
 by_cases c2:9 < a%16<;>by_cases c4:153 < a<;>cases c1:isM f 4<;>cases c3:isM f 0
 all_goals
  rw[c1] at k1
  rw[c3] at k2
  simp only[if_true,if_false,Bool.false_eq_true] at k1 k2
  have hb:byM a f=(if isM f 4||decide (9 < a%16) then 6 else 0)+(if isM f 0||decide (153 < a) then 96 else 0):=rfl
  have hw:QDD a f=(if isM f 4||decide (9 < a%16) then 16 else 0)+(if isM f 0||decide (153 < a) then 1 else 0):=rfl
  first|rw[c1,c3,decide_eq_true c2,decide_eq_true c4] at hb hw|rw[c1,c3,decide_eq_true c2,decide_eq_false c4] at hb hw|rw[c1,c3,decide_eq_false c2,decide_eq_true c4] at hb hw|rw[c1,c3,decide_eq_false c2,decide_eq_false c4] at hb hw
  have hb:=Lib.hid hb
  have hw:=Lib.hid hw
  clear c1 c3
  go_enter Tryz.func282,Tryz.ntmps282
  go_wp2
  refine wp_loop_rounds 3 ?_
  iterate 3 (rw[rounds_succ];go_wp2)
  go_ret2
  exact⟨by rw[hb.out,hw.out];rfl,(by repeat (first|exact Below.refl _ _|assumption|refine JF ?_ (by assumption)|refine Below.drew ?_|refine Below.alloc ?_ (by first|(simp;done)|(simp;omega)|omega) _|refine Below.setCell ?_ (by first|(simp;done)|(simp;omega)|omega) _))⟩
theorem QNX:∀ b0 b1 b2 b4 b5 n h c:Bool,bits .or .u8 (bits .or .u8 (bits .or .u8 (mkM b0 b1 b2 false b4 b5 false false) (if n then 2 else 0)) (if h then 16 else 0)) (if c then 1 else 0)=mkM b0 b1 b2 h b4 b5 n c:=by decide +kernel
theorem QL5 (a f:Int):bits .and .u8 (QDD a f) 1=if qV a f then 1 else 0:=by
 unfold QDD
 generalize QDS a f=x
 generalize qV a f=y
 revert x y
 decide +kernel
theorem QOV (a f:Int)(ha:B8 a)(hf:B8 f) :
 bits .or .u8 (bits .or .u8 (bits .or .u8 (Jq (Z7 a f)) (bits .and .u8 f 2)) (bits .and .u8 (bits .xor .u8 a (Z7 a f)) 16)) (bits .and .u8 (QDD a f) 1)=QJK a f:=by
 have hr:=qU a f
 have hx:=QH9 a (Z7 a f) ha.1 ha.2 hr.1 hr.2
 rw[(ze f hf).2.2.2.2,(ze _ hx).1,QL5]
 have i:=QKF a (Z7 a f) 4 (by omega) ha.1 ha.2 hr.1 hr.2
 rw[show isM (bits .xor .u8 a (Z7 a f)) 4=(isM a 4 != isM (Z7 a f) 4) from by simpa using i]
 exact QNX _ _ _ _ _ _ _ _
theorem QR9 (a f:Int)(ha:B8 a)(hf:B8 f)(w:World)(hd:Digits w) :
 Calls Tryz.prog 248 #[.int .u8 a,.int .u8 f] w fun e w'=>e=.returned (two (Z7 a f) (QJK a f))∧Below w.heap.size w w':=by
 have hm:=QOV a f ha hf
 have hr:=qU a f
 have hy:=QNA a f
 have k:=(ze f hf).2.2.2.2
 have a0:=ha.1
 have a1:=ha.2
 cases c:isM f 1
 · have e:Z7 a f=(a+byM a f)%256:=by unfold Z7;rw[c];rfl
   rw[c] at k
   simp only[if_false,Bool.false_eq_true] at k
   rw[k,e] at hm
   rw[e] at hr ⊢
   have hm:=Lib.hid hm
   clear e c
   go_enter Tryz.func248,Tryz.ntmps248
   go_wp2_with (first
    | (go_at_call 282;refine (QCH _ _ (by assumption) (by assumption) _ hd).mono ?_;rintro e w' ⟨rfl,hb⟩;have hsz:=hb.size)
    | (go_at_call 215;refine (XW _ (B8.lo (by assumption)) (B8.hi (by assumption)) _).mono ?_;rintro e w' ⟨rfl,hb⟩;have hsz:=hb.size))
   go_ret2
   exact⟨by rw[←hm.out];rfl,(by repeat (first|exact Below.refl _ _|assumption|refine JF ?_ (by assumption)|refine Below.drew ?_|refine Below.alloc ?_ (by first|(simp;done)|(simp;omega)|omega) _|refine Below.setCell ?_ (by first|(simp;done)|(simp;omega)|omega) _))⟩
 · have e:Z7 a f=(a-byM a f)%256:=by unfold Z7;rw[c];rfl
   rw[c] at k
   simp only[if_true] at k
   rw[k,e] at hm
   rw[e] at hr ⊢
   have hm:=Lib.hid hm
   clear e c
   go_enter Tryz.func248,Tryz.ntmps248
   go_wp2_with (first
    | (go_at_call 282;refine (QCH _ _ (by assumption) (by assumption) _ hd).mono ?_;rintro e w' ⟨rfl,hb⟩;have hsz:=hb.size)
    | (go_at_call 215;refine (XW _ (B8.lo (by assumption)) (B8.hi (by assumption)) _).mono ?_;rintro e w' ⟨rfl,hb⟩;have hsz:=hb.size))
   go_ret2
   exact⟨by rw[←hm.out];rfl,(by repeat (first|exact Below.refl _ _|assumption|refine JF ?_ (by assumption)|refine Below.drew ?_|refine Below.alloc ?_ (by first|(simp;done)|(simp;omega)|omega) _|refine Below.setCell ?_ (by first|(simp;done)|(simp;omega)|omega) _))⟩
end
theorem QFj (W:World)(o o':Obj):({ W.alloc o with heap:=(W.alloc o).heap.setIfInBounds W.heap.size o' }:World)=W.alloc o':=by
 have e:(W.heap.push o).setIfInBounds W.heap.size o'=W.heap.push o':=by
  apply Array.ext
  · simp
  · intro i h1 h2
    simp at h1 h2
    by_cases hi:i=W.heap.size
    · subst hi;simp
    · rw[Array.getElem_setIfInBounds,Array.getElem_push_lt (by omega),Array.getElem_push_lt (by omega),if_neg (by omega)]
      simpa using h1
 show ({ W with heap:=(W.heap.push o).setIfInBounds W.heap.size o' }:World)={ W with heap:=W.heap.push o' }
 rw[e]
theorem JJ {P:Program}(W:World)(t kt et:TypeId)(ht:P.underlying t=some (.map kt et))(hk:P.underlying kt=some (.int .i64))(es:List MapEntry)(clock:Nat)(n:Int)(val:Value)(b:Nat)
 (hb:b=W.heap.size)(hnew:Instr.findNow (.int .i64) (.int .i64 n) es 0=some none) :
 (Instr.mapUpdate t (.map (some b)) (.int .i64 n) val).run P (W.alloc (.map es.toArray clock))=.ok () (W.alloc (.map (es++[({ key:=.int .i64 n,val:=val,born:=clock }:MapEntry)]).toArray (clock+1))):=by
 subst hb
 have hb:=(MapKept.heap_alloc W (.map es.toArray clock)).1
 simp[Instr.mapUpdate,run_underlying ht,MapKept.run_getObj_map hb,MapKept.run_checkKey hk (k:=.int .i64 n) (by simp[MapKept.IsKey]) false 9999,MapKept.run_findKey hk hnew,MapKept.run_setObj_map _ hb,Result.andThen]
 exact QFj W _ _
theorem Jv {P:Program} {W:World} {t kt et:TypeId}(ht:P.underlying t=some (.map kt et))(hk:P.underlying kt=some (.int .i64)){es:Array MapEntry} {clock M:Nat}(hb:W.heap[M]? = some (.map es clock)){n:Int} {j:Nat} {v:Value}
 (hf:Instr.findNow (.int .i64) (.int .i64 n) es.toList 0=some (some (j,v))):(Instr.lookup t (.map (some M)) (.int .i64 n) true).run P W=.ok (.tuple #[v,.bool true]) W:=by
 simp[Instr.lookup,run_underlying ht,MapKept.run_getObj_map hb,MapKept.run_checkKey hk (k:=.int .i64 n) (by simp[MapKept.IsKey]) _ 9999,MapKept.run_findKey hk hf,Result.andThen]
theorem jQ {P:Program} {W:World} {t kt et:TypeId}(ht:P.underlying t=some (.map kt et))(hk:P.underlying kt=some (.int .i64)){es:Array MapEntry} {clock M:Nat}(hb:W.heap[M]? = some (.map es clock)){n:Int} {z:Value}
 (hf:Instr.findNow (.int .i64) (.int .i64 n) es.toList 0=some none)(hz:(zeroValue et).run P W=.ok z W):(Instr.lookup t (.map (some M)) (.int .i64 n) true).run P W=.ok (.tuple #[z,.bool false]) W:=by
 simp[Instr.lookup,run_underlying ht,MapKept.run_getObj_map hb,MapKept.run_checkKey hk (k:=.int .i64 n) (by simp[MapKept.IsKey]) _ 9999,MapKept.run_findKey hk hf,hz,Result.andThen]
theorem XE {P:Program} {W:World} {t kt et:TypeId}(ht:P.underlying t=some (.map kt et))(hk:P.underlying kt=some (.int .i64)){es:Array MapEntry} {clock M:Nat}(hb:W.heap[M]? = some (.map es clock)){n:Int} {j:Nat} {v:Value}
 (hf:Instr.findNow (.int .i64) (.int .i64 n) es.toList 0=some (some (j,v))):(Instr.lookup t (.map (some M)) (.int .i64 n) false).run P W=.ok v W:=by
 simp[Instr.lookup,run_underlying ht,MapKept.run_getObj_map hb,MapKept.run_checkKey hk (k:=.int .i64 n) (by simp[MapKept.IsKey]) _ 9999,MapKept.run_findKey hk hf,Result.andThen]
theorem Jn {P:Program} {W:World} {t kt et:TypeId}(ht:P.underlying t=some (.map kt et))(hk:P.underlying kt=some (.int .i64)){es:Array MapEntry} {clock M:Nat}(hb:W.heap[M]? = some (.map es clock)){n:Int} {z:Value}
 (hf:Instr.findNow (.int .i64) (.int .i64 n) es.toList 0=some none)(hz:(zeroValue et).run P W=.ok z W):(Instr.lookup t (.map (some M)) (.int .i64 n) false).run P W=.ok z W:=by
 simp[Instr.lookup,run_underlying ht,MapKept.run_getObj_map hb,MapKept.run_checkKey hk (k:=.int .i64 n) (by simp[MapKept.IsKey]) _ 9999,MapKept.run_findKey hk hf,hz,Result.andThen]
theorem QEO {P:Program} {W:World} {t kt et:TypeId}(ht:P.underlying t=some (.map kt et))(hk:P.underlying kt=some (.int .i64)){n:Int} {z:Value}
 (hz:(zeroValue et).run P W=.ok z W):(Instr.lookup t (.map none) (.int .i64 n) false).run P W=.ok z W:=by
 simp[Instr.lookup,run_underlying ht,MapKept.run_checkKey hk (k:=.int .i64 n) (by simp[MapKept.IsKey]) _ 9999,MapKept.run_findKey hk (show Instr.findNow (.int .i64) (.int .i64 n) [] 0=some none from rfl),hz,Result.andThen]
section
theorem QVE (v0:Value)(W:World)(b:Nat)(hb:b=W.heap.size) :
 (Instr.mapUpdate 239 (.map (some b)) (.int .i64 0) v0).run Tryz.prog (W.alloc (.map #[] 0))=.ok () (W.alloc (.map #[⟨.int .i64 0,v0,0⟩] 1)) :=
 JJ W _ _ _ Tryz.underlying239 Tryz.underlying3 _ _ _ _ b hb rfl
theorem QUQ (v0 v1:Value)(W:World)(b:Nat)(hb:b=W.heap.size) :
 (Instr.mapUpdate 239 (.map (some b)) (.int .i64 1) v1).run Tryz.prog (W.alloc (.map #[⟨.int .i64 0,v0,0⟩] 1))=.ok () (W.alloc (.map #[⟨.int .i64 0,v0,0⟩,⟨.int .i64 1,v1,1⟩] 2)) :=
 JJ W _ _ _ Tryz.underlying239 Tryz.underlying3 _ _ _ _ b hb rfl
theorem QUT (v0 v1 v2:Value)(W:World)(b:Nat)(hb:b=W.heap.size) :
 (Instr.mapUpdate 239 (.map (some b)) (.int .i64 2) v2).run Tryz.prog (W.alloc (.map #[⟨.int .i64 0,v0,0⟩,⟨.int .i64 1,v1,1⟩] 2))=.ok () (W.alloc (.map #[⟨.int .i64 0,v0,0⟩,⟨.int .i64 1,v1,1⟩,⟨.int .i64 2,v2,2⟩] 3)) :=
 JJ W _ _ _ Tryz.underlying239 Tryz.underlying3 _ _ _ _ b hb rfl
theorem QUq (v0 v1 v2 v3:Value)(W:World)(b:Nat)(hb:b=W.heap.size) :
 (Instr.mapUpdate 239 (.map (some b)) (.int .i64 3) v3).run Tryz.prog (W.alloc (.map #[⟨.int .i64 0,v0,0⟩,⟨.int .i64 1,v1,1⟩,⟨.int .i64 2,v2,2⟩] 3))=.ok () (W.alloc (.map #[⟨.int .i64 0,v0,0⟩,⟨.int .i64 1,v1,1⟩,⟨.int .i64 2,v2,2⟩,⟨.int .i64 3,v3,3⟩] 4)) :=
 JJ W _ _ _ Tryz.underlying239 Tryz.underlying3 _ _ _ _ b hb rfl
theorem QUp (v0 v1 v2 v3 v4:Value)(W:World)(b:Nat)(hb:b=W.heap.size) :
 (Instr.mapUpdate 239 (.map (some b)) (.int .i64 4) v4).run Tryz.prog (W.alloc (.map #[⟨.int .i64 0,v0,0⟩,⟨.int .i64 1,v1,1⟩,⟨.int .i64 2,v2,2⟩,⟨.int .i64 3,v3,3⟩] 4))=.ok () (W.alloc (.map #[⟨.int .i64 0,v0,0⟩,⟨.int .i64 1,v1,1⟩,⟨.int .i64 2,v2,2⟩,⟨.int .i64 3,v3,3⟩,⟨.int .i64 4,v4,4⟩] 5)) :=
 JJ W _ _ _ Tryz.underlying239 Tryz.underlying3 _ _ _ _ b hb rfl
theorem QUx (v0 v1 v2 v3 v4 v5:Value)(W:World)(b:Nat)(hb:b=W.heap.size) :
 (Instr.mapUpdate 239 (.map (some b)) (.int .i64 5) v5).run Tryz.prog (W.alloc (.map #[⟨.int .i64 0,v0,0⟩,⟨.int .i64 1,v1,1⟩,⟨.int .i64 2,v2,2⟩,⟨.int .i64 3,v3,3⟩,⟨.int .i64 4,v4,4⟩] 5))=.ok () (W.alloc (.map #[⟨.int .i64 0,v0,0⟩,⟨.int .i64 1,v1,1⟩,⟨.int .i64 2,v2,2⟩,⟨.int .i64 3,v3,3⟩,⟨.int .i64 4,v4,4⟩,⟨.int .i64 5,v5,5⟩] 6)) :=
 JJ W _ _ _ Tryz.underlying239 Tryz.underlying3 _ _ _ _ b hb rfl
theorem QUZ (v0 v1 v2 v3 v4 v5 v6:Value)(W:World)(b:Nat)(hb:b=W.heap.size) :
 (Instr.mapUpdate 239 (.map (some b)) (.int .i64 6) v6).run Tryz.prog (W.alloc (.map #[⟨.int .i64 0,v0,0⟩,⟨.int .i64 1,v1,1⟩,⟨.int .i64 2,v2,2⟩,⟨.int .i64 3,v3,3⟩,⟨.int .i64 4,v4,4⟩,⟨.int .i64 5,v5,5⟩] 6))=.ok () (W.alloc (.map #[⟨.int .i64 0,v0,0⟩,⟨.int .i64 1,v1,1⟩,⟨.int .i64 2,v2,2⟩,⟨.int .i64 3,v3,3⟩,⟨.int .i64 4,v4,4⟩,⟨.int .i64 5,v5,5⟩,⟨.int .i64 6,v6,6⟩] 7)) :=
 JJ W _ _ _ Tryz.underlying239 Tryz.underlying3 _ _ _ _ b hb rfl
theorem QUv (v0 v1 v2 v3 v4 v5 v6 v7:Value)(W:World)(b:Nat)(hb:b=W.heap.size) :
 (Instr.mapUpdate 239 (.map (some b)) (.int .i64 7) v7).run Tryz.prog (W.alloc (.map #[⟨.int .i64 0,v0,0⟩,⟨.int .i64 1,v1,1⟩,⟨.int .i64 2,v2,2⟩,⟨.int .i64 3,v3,3⟩,⟨.int .i64 4,v4,4⟩,⟨.int .i64 5,v5,5⟩,⟨.int .i64 6,v6,6⟩] 7))=.ok () (W.alloc (.map #[⟨.int .i64 0,v0,0⟩,⟨.int .i64 1,v1,1⟩,⟨.int .i64 2,v2,2⟩,⟨.int .i64 3,v3,3⟩,⟨.int .i64 4,v4,4⟩,⟨.int .i64 5,v5,5⟩,⟨.int .i64 6,v6,6⟩,⟨.int .i64 7,v7,7⟩] 8)) :=
 JJ W _ _ _ Tryz.underlying239 Tryz.underlying3 _ _ _ _ b hb rfl
attribute [local go_sem] QVE QUQ QUT QUq QUp QUx QUZ QUv
abbrev QJ4 (O:Nat):Value:=.func (.func 290) #[] #[.pointer (some ⟨O,0,none⟩)]
abbrev QCs (F:Nat):Value:=.func (.func 291) #[] #[.pointer (some ⟨F,0,none⟩)]
abbrev QGf:Value:=.func (.func 292) #[] #[]
abbrev QSh (B:Nat):Value:=.func (.func 293) #[] #[.pointer (some ⟨B,0,none⟩)]
abbrev QSW:Value:=.func (.func 294) #[] #[]
def Q9 (B F O:Nat):Array MapEntry:=#[⟨.int .i64 0,QJ4 O,0⟩,⟨.int .i64 1,QJ4 O,1⟩,⟨.int .i64 2,QCs F,2⟩,⟨.int .i64 3,QCs F,3⟩,⟨.int .i64 4,QGf,4⟩,⟨.int .i64 5,QSh B,5⟩,⟨.int .i64 6,QSW,6⟩,⟨.int .i64 7,QGf,7⟩]
def QUk (w:World)(B F O M:Nat)(b f:Int)(o:Bool):Prop :=
 (w.cell? ⟨B,0,none⟩=some (.int .u8 b)∧w.cell? ⟨F,0,none⟩=some (.int .u8 f)∧w.cell? ⟨O,0,none⟩=some (.bool o))∧w.heap[M]? = some (.map (Q9 B F O) 8)
theorem QO (b f:Int)(o:Bool)(w:World) :
 Calls Tryz.prog 264 #[.int .u8 b,.int .u8 f,.bool o] w fun e w'=>∃ B F O M,e=.returned (.map (some M))∧QUk w' B F O M b f o∧Below w.heap.size w w':=by
 have hmm:=@run_makeMap Tryz.prog
 go_enter Tryz.func264,Tryz.ntmps264
 go_wp2
 go_ret
 have c1:=jL w (.int .u8 b) 5
 have c2:=jL (w.alloc (.cells #[.int .u8 b] 5)) (.int .u8 f) 5
 have c3:=jL ((w.alloc (.cells #[.int .u8 b] 5)).alloc (.cells #[.int .u8 f] 5)) (.bool o) 4
 simp only[World.size_alloc] at c2 c3
 refine⟨w.heap.size,w.heap.size+1,w.heap.size+1+1,w.heap.size+1+1+1,rfl,⟨⟨JH _ _ (JH _ _ (JH _ _ c1)),JH _ _ (JH _ _ c2),JH _ _ c3⟩,?_⟩,(by repeat (first|exact Below.refl _ _|assumption|refine JF ?_ (by assumption)|refine Below.drew ?_|refine Below.alloc ?_ (by first|(simp;done)|(simp;omega)|omega) _|refine Below.setCell ?_ (by first|(simp;done)|(simp;omega)|omega) _))⟩
 have h:=(MapKept.heap_alloc (((w.alloc (.cells #[.int .u8 b] 5)).alloc (.cells #[.int .u8 f] 5)).alloc (.cells #[.bool o] 4)) (.map (Q9 w.heap.size (w.heap.size+1) (w.heap.size+1+1)) 8)).1
 simp only[World.size_alloc] at h
 exact h
theorem QEy (O:Nat)(o:Bool)(w:World)(h:w.cell? ⟨O,0,none⟩=some (.bool o)) :
 Calls Tryz.prog 290 #[.pointer (some ⟨O,0,none⟩)] w fun e w'=>e=.returned (.bool o)∧w=w':=by
 go_enter Tryz.func290,Tryz.ntmps290
 go_wp2
 go_ret
 exact⟨rfl,rfl⟩
theorem QQx (f:Int)(h:B8 f):(bits .and .u8 f 1 != 0)=isM f 0:=by
 rw[qm f h]
 cases isM f 0<;>rfl
theorem QCg (F:Nat)(f:Int)(hf:B8 f)(w:World)(h:w.cell? ⟨F,0,none⟩=some (.int .u8 f)) :
 Calls Tryz.prog 291 #[.pointer (some ⟨F,0,none⟩)] w fun e w'=>e=.returned (.bool (isM f 0))∧w=w':=by
 have hl:=Lib.hid (QQx f hf)
 go_enter Tryz.func291,Tryz.ntmps291
 go_wp2
 go_ret
 exact⟨Qp hl.out,rfl⟩
theorem QDO (w:World) :
 Calls Tryz.prog 292 #[] w fun e w'=>e=.returned (.bool false)∧w=w':=by
 go_enter Tryz.func292,Tryz.ntmps292
 go_wp2
 go_ret
 exact⟨rfl,rfl⟩
theorem QMf (B:Nat)(b:Int)(hb:B8 b)(w:World)(h:w.cell? ⟨B,0,none⟩=some (.int .u8 b)) :
 Calls Tryz.prog 293 #[.pointer (some ⟨B,0,none⟩)] w fun e w'=>e=.returned (.bool (isM b 7))∧w=w':=by
 go_enter Tryz.func293,Tryz.ntmps293
 go_wp2_with (first
  | (go_at_call 219;refine (Qi _ _ (B8.lo (by assumption)) (B8.hi (by assumption)) _).mono ?_;rintro e w' ⟨rfl,rfl⟩))
 go_ret
 exact⟨rfl,rfl⟩
theorem QLN (w:World) :
 Calls Tryz.prog 294 #[] w fun e w'=>e=.returned (.bool true)∧w=w':=by
 go_enter Tryz.func294,Tryz.ntmps294
 go_wp2
 go_ret
 exact⟨rfl,rfl⟩
theorem QS8 {w:World} {B F O M:Nat}(h:w.heap[M]? = some (.map (Q9 B F O) 8)):(Instr.lookup 239 (.map (some M)) (.int .i64 0) true).run Tryz.prog w=.ok (.tuple #[QJ4 O,.bool true]) w :=
 Jv Tryz.underlying239 Tryz.underlying3 h rfl
theorem QTh {w:World} {B F O M:Nat}(h:w.heap[M]? = some (.map (Q9 B F O) 8)):(Instr.lookup 239 (.map (some M)) (.int .i64 1) true).run Tryz.prog w=.ok (.tuple #[QJ4 O,.bool true]) w :=
 Jv Tryz.underlying239 Tryz.underlying3 h rfl
theorem QUG {w:World} {B F O M:Nat}(h:w.heap[M]? = some (.map (Q9 B F O) 8)):(Instr.lookup 239 (.map (some M)) (.int .i64 2) true).run Tryz.prog w=.ok (.tuple #[QCs F,.bool true]) w :=
 Jv Tryz.underlying239 Tryz.underlying3 h rfl
theorem QTP {w:World} {B F O M:Nat}(h:w.heap[M]? = some (.map (Q9 B F O) 8)):(Instr.lookup 239 (.map (some M)) (.int .i64 3) true).run Tryz.prog w=.ok (.tuple #[QCs F,.bool true]) w :=
 Jv Tryz.underlying239 Tryz.underlying3 h rfl
theorem QUK {w:World} {B F O M:Nat}(h:w.heap[M]? = some (.map (Q9 B F O) 8)):(Instr.lookup 239 (.map (some M)) (.int .i64 4) true).run Tryz.prog w=.ok (.tuple #[QGf,.bool true]) w :=
 Jv Tryz.underlying239 Tryz.underlying3 h rfl
theorem QS2 {w:World} {B F O M:Nat}(h:w.heap[M]? = some (.map (Q9 B F O) 8)):(Instr.lookup 239 (.map (some M)) (.int .i64 5) true).run Tryz.prog w=.ok (.tuple #[QSh B,.bool true]) w :=
 Jv Tryz.underlying239 Tryz.underlying3 h rfl
theorem QTm {w:World} {B F O M:Nat}(h:w.heap[M]? = some (.map (Q9 B F O) 8)):(Instr.lookup 239 (.map (some M)) (.int .i64 6) true).run Tryz.prog w=.ok (.tuple #[QSW,.bool true]) w :=
 Jv Tryz.underlying239 Tryz.underlying3 h rfl
theorem QTQ {w:World} {B F O M:Nat}(h:w.heap[M]? = some (.map (Q9 B F O) 8)):(Instr.lookup 239 (.map (some M)) (.int .i64 7) true).run Tryz.prog w=.ok (.tuple #[QGf,.bool true]) w :=
 Jv Tryz.underlying239 Tryz.underlying3 h rfl
theorem QRe {w:World} {B F O M:Nat} {k:Int}(hk:k < 0∨8≤k)(h:w.heap[M]? = some (.map (Q9 B F O) 8)):(Instr.lookup 239 (.map (some M)) (.int .i64 k) true).run Tryz.prog w=.ok (.tuple #[.nilFunc,.bool false]) w :=
 jQ Tryz.underlying239 Tryz.underlying3 h (by
  have n0:(k==0)=false:=by simp;omega
  have n1:(k==1)=false:=by simp;omega
  have n2:(k==2)=false:=by simp;omega
  have n3:(k==3)=false:=by simp;omega
  have n4:(k==4)=false:=by simp;omega
  have n5:(k==5)=false:=by simp;omega
  have n6:(k==6)=false:=by simp;omega
  have n7:(k==7)=false:=by simp;omega
  simp only[Q9,Instr.findNow,Instr.sameNow,if_true,n0,n1,n2,n3,n4,n5,n6,n7]) (by kernel_rfl)
end
def Courses (w:World):Prop:=w.cell? ⟨25,0,none⟩=some (.int .i64 1)∧w.cell? ⟨25,1,none⟩=some (.int .i64 7)∧w.cell? ⟨25,2,none⟩=some (.int .i64 0)∧w.cell? ⟨25,3,none⟩=some (.int .i64 (-1))∧w.cell? ⟨25,4,none⟩=some (.int .i64 0)∧w.cell? ⟨25,5,none⟩=some (.int .i64 7)
theorem Courses.below {w w':World}(h:Courses w)(k:Below w.heap.size w w'):Courses w':=by
 obtain⟨h0,h1,h2,h3,h4,h5⟩:=h
 exact⟨cell_kept h0 k,cell_kept h1 k,cell_kept h2 k,cell_kept h3 k,cell_kept h4 k,cell_kept h5 k⟩
theorem X4 (y:Int):bits BinOp.and IntKind.i64 y 1=y%2:=by
 have e:(BitVec.ofInt 64 y &&& BitVec.ofInt 64 1).toNat=(y%2).toNat:=by
  rw[BitVec.toNat_and,show (BitVec.ofInt 64 1).toNat=2 ^ 1-1 by decide,Nat.and_two_pow_sub_one_eq_mod,BitVec.toNat_ofInt]
  omega
 show IntKind.i64.wrap ((BitVec.ofInt 64 y &&& BitVec.ofInt 64 1).toNat:Int)=_
 rw[e,IntKind.wrap_i64]
 omega
theorem QDU (o:Bool)(w:World) :
 Calls Tryz.prog 216 #[.bool o] w fun e w'=>e=.returned (.int .u8 (one o))∧w=w':=by
 cases o
 all_goals
  go_enter Tryz.func216,Tryz.ntmps216
  go_wp2
  go_ret
  exact⟨rfl,rfl⟩
theorem QAQ (w:World)(u v x:Value)(t:TypeId):(w.alloc (.cells #[u,v,x] t)).cell? ⟨w.heap.size,0,none⟩=some u∧(w.alloc (.cells #[u,v,x] t)).cell? ⟨w.heap.size,1,none⟩=some v∧(w.alloc (.cells #[u,v,x] t)).cell? ⟨w.heap.size,2,none⟩=some x:=by
 have e:∀ o:Obj,(w.alloc o).heap[w.heap.size]? = some o:=fun o=>by
  show (w.heap.push _)[w.heap.size]? = _
  simp
 refine⟨?_,?_,?_⟩<;>(simp only[World.cell?,e];rfl)
theorem QCV {w w':World} {p q r:Addr} {u v x:Value}(k:Below w.heap.size w w')(h:w.cell? p=some u∧w.cell? q=some v∧w.cell? r=some x):w'.cell? p=some u∧w'.cell? q=some v∧w'.cell? r=some x :=
 ⟨cell_kept h.1 k,cell_kept h.2.1 k,cell_kept h.2.2 k⟩
theorem last3 {p q r:Prop}(h:p∧q∧r):r:=h.2.2
abbrev QAW (r:Int)(o k:Bool):Value:=.tuple #[.int .u8 r,.bool o,.bool k]
theorem QTs (b f:Int)(hb:B8 b)(hf:B8 f)(w:World)(hd:Courses w) :
 Calls Tryz.prog 214 #[.int .i64 0,.int .u8 b,.int .u8 f] w fun e w'=>e=.returned (QAW (shM 0 b f) (Z5 0 b) true)∧Below w.heap.size w w':=by
 have hB:=hb
 clear hb
 obtain⟨d0,d1,d2,d3,d4,d5⟩:=hd
 have ka:=X4 0
 simp only[show (0:Int)%2=0 by decide] at ka
 have ht:B8 (Q2 b 1):=Qg b 1 hB.1 hB.2
 go_enter Tryz.func214,Tryz.ntmps214
 go_wp2_with (first
  | (go_at_call 219;refine (Qi _ _ (B8.lo (by assumption)) (B8.hi (by assumption)) _).mono ?_;rintro e w' ⟨rfl,rfl⟩)
  | (go_at_call 264;refine (QO _ _ _ _).mono ?_;rintro e w' ⟨B,F,O,M,rfl,⟨⟨c1,c2,c3⟩,hm⟩,hb⟩;have hl:=QS8 hm))
 have k0:w'.cell? ⟨w.heap.size,0,none⟩=some (.int .i64 1):=cell_kept (QAQ w _ _ _ _).1 hb
 have k2:w'.cell? ⟨w.heap.size,2,none⟩=some (.int .i64 0):=cell_kept (QAQ w _ _ _ _).2.2 hb
 have hsz:=hb.size
 simp only[World.size_alloc] at hsz
 have hs:w'.cell? ⟨w.heap.size,0,none⟩=some (.int .i64 1)∧w'.cell? ⟨w.heap.size,2,none⟩=some (.int .i64 0)∧w'.cell? ⟨O,0,none⟩=some (.bool (isM b 7)):=⟨k0,k2,c3⟩
 have hb0:Below w.heap.size w w':=(by repeat (first|exact Below.refl _ _|assumption|refine JF ?_ (by assumption)|refine Below.drew ?_|refine Below.alloc ?_ (by first|(simp;done)|(simp;omega)|omega) _|refine Below.setCell ?_ (by first|(simp;done)|(simp;omega)|omega) _))
 clear hb k0 k2 c1 c2 c3 hl hm d0 d1 d2 d3 d4 d5 ka
 go_region_held3 (fun w'=>w'.cell? ⟨w.heap.size,0,none⟩=some (.int .i64 1)∧w'.cell? ⟨w.heap.size,2,none⟩=some (.int .i64 0)∧w'.cell? ⟨O,0,none⟩=some (.bool (isM b 7))) (first|go_keep|exact QCV hb (by assumption))
  (first
  | (go_at_call 265;refine (Za _ _ (B8.lo (by assumption)) (B8.hi (by assumption)) _).mono ?_;rintro e w' ⟨rfl,hb⟩;have hsz:=hb.size)
  | (go_at_call 290;refine (QEy O (isM b 7) _ (last3 (by assumption))).mono ?_;rintro e w' ⟨rfl,rfl⟩)
  | (go_at_call 175;refine (Qe _ _ _ (B8.lo (by assumption)) (B8.hi (by assumption)) _).mono ?_;rintro e w' ⟨rfl,rfl⟩))
 go_wp2_with fail
 go_ret3
 exact⟨rfl,(by repeat (first|exact Below.refl _ _|assumption|refine JF ?_ (by assumption)|refine Below.drew ?_|refine Below.alloc ?_ (by first|(simp;done)|(simp;omega)|omega) _|refine Below.setCell ?_ (by first|(simp;done)|(simp;omega)|omega) _))⟩
theorem QUD (b f:Int)(hb:B8 b)(hf:B8 f)(w:World)(hd:Courses w) :
 Calls Tryz.prog 214 #[.int .i64 1,.int .u8 b,.int .u8 f] w fun e w'=>e=.returned (QAW (shM 1 b f) (Z5 1 b) true)∧Below w.heap.size w w':=by
 have hB:=hb
 clear hb
 obtain⟨d0,d1,d2,d3,d4,d5⟩:=hd
 have ka:=X4 1
 simp only[show (1:Int)%2=1 by decide] at ka
 have ht:B8 (Q2 b (-1)):=Qg b (-1) hB.1 hB.2
 go_enter Tryz.func214,Tryz.ntmps214
 go_wp2_with (first
  | (go_at_call 219;refine (Qi _ _ (B8.lo (by assumption)) (B8.hi (by assumption)) _).mono ?_;rintro e w' ⟨rfl,rfl⟩)
  | (go_at_call 264;refine (QO _ _ _ _).mono ?_;rintro e w' ⟨B,F,O,M,rfl,⟨⟨c1,c2,c3⟩,hm⟩,hb⟩;have hl:=QTh hm))
 have k0:w'.cell? ⟨w.heap.size,0,none⟩=some (.int .i64 (-1)):=cell_kept (QAQ w _ _ _ _).1 hb
 have k2:w'.cell? ⟨w.heap.size,2,none⟩=some (.int .i64 7):=cell_kept (QAQ w _ _ _ _).2.2 hb
 have hsz:=hb.size
 simp only[World.size_alloc] at hsz
 have hs:w'.cell? ⟨w.heap.size,0,none⟩=some (.int .i64 (-1))∧w'.cell? ⟨w.heap.size,2,none⟩=some (.int .i64 7)∧w'.cell? ⟨O,0,none⟩=some (.bool (isM b 0)):=⟨k0,k2,c3⟩
 have hb0:Below w.heap.size w w':=(by repeat (first|exact Below.refl _ _|assumption|refine JF ?_ (by assumption)|refine Below.drew ?_|refine Below.alloc ?_ (by first|(simp;done)|(simp;omega)|omega) _|refine Below.setCell ?_ (by first|(simp;done)|(simp;omega)|omega) _))
 clear hb k0 k2 c1 c2 c3 hl hm d0 d1 d2 d3 d4 d5 ka
 go_region_held3 (fun w'=>w'.cell? ⟨w.heap.size,0,none⟩=some (.int .i64 (-1))∧w'.cell? ⟨w.heap.size,2,none⟩=some (.int .i64 7)∧w'.cell? ⟨O,0,none⟩=some (.bool (isM b 0))) (first|go_keep|exact QCV hb (by assumption))
  (first
  | (go_at_call 265;refine (Za _ _ (B8.lo (by assumption)) (B8.hi (by assumption)) _).mono ?_;rintro e w' ⟨rfl,hb⟩;have hsz:=hb.size)
  | (go_at_call 290;refine (QEy O (isM b 0) _ (last3 (by assumption))).mono ?_;rintro e w' ⟨rfl,rfl⟩)
  | (go_at_call 175;refine (Qe _ _ _ (B8.lo (by assumption)) (B8.hi (by assumption)) _).mono ?_;rintro e w' ⟨rfl,rfl⟩))
 go_wp2_with fail
 go_ret3
 exact⟨rfl,(by repeat (first|exact Below.refl _ _|assumption|refine JF ?_ (by assumption)|refine Below.drew ?_|refine Below.alloc ?_ (by first|(simp;done)|(simp;omega)|omega) _|refine Below.setCell ?_ (by first|(simp;done)|(simp;omega)|omega) _))⟩
theorem QTJ (b f:Int)(hb:B8 b)(hf:B8 f)(w:World)(hd:Courses w) :
 Calls Tryz.prog 214 #[.int .i64 2,.int .u8 b,.int .u8 f] w fun e w'=>e=.returned (QAW (shM 2 b f) (Z5 2 b) true)∧Below w.heap.size w w':=by
 have hB:=hb
 clear hb
 obtain⟨d0,d1,d2,d3,d4,d5⟩:=hd
 have ka:=X4 2
 simp only[show (2:Int)%2=0 by decide] at ka
 have ht:B8 (Q2 b 1):=Qg b 1 hB.1 hB.2
 go_enter Tryz.func214,Tryz.ntmps214
 go_wp2_with (first
  | (go_at_call 219;refine (Qi _ _ (B8.lo (by assumption)) (B8.hi (by assumption)) _).mono ?_;rintro e w' ⟨rfl,rfl⟩)
  | (go_at_call 264;refine (QO _ _ _ _).mono ?_;rintro e w' ⟨B,F,O,M,rfl,⟨⟨c1,c2,c3⟩,hm⟩,hb⟩;have hl:=QUG hm))
 have k0:w'.cell? ⟨w.heap.size,0,none⟩=some (.int .i64 1):=cell_kept (QAQ w _ _ _ _).1 hb
 have k2:w'.cell? ⟨w.heap.size,2,none⟩=some (.int .i64 0):=cell_kept (QAQ w _ _ _ _).2.2 hb
 have hsz:=hb.size
 simp only[World.size_alloc] at hsz
 have hs:w'.cell? ⟨w.heap.size,0,none⟩=some (.int .i64 1)∧w'.cell? ⟨w.heap.size,2,none⟩=some (.int .i64 0)∧w'.cell? ⟨F,0,none⟩=some (.int .u8 f):=⟨k0,k2,c2⟩
 have hb0:Below w.heap.size w w':=(by repeat (first|exact Below.refl _ _|assumption|refine JF ?_ (by assumption)|refine Below.drew ?_|refine Below.alloc ?_ (by first|(simp;done)|(simp;omega)|omega) _|refine Below.setCell ?_ (by first|(simp;done)|(simp;omega)|omega) _))
 clear hb k0 k2 c1 c2 c3 hl hm d0 d1 d2 d3 d4 d5 ka
 go_region_held3 (fun w'=>w'.cell? ⟨w.heap.size,0,none⟩=some (.int .i64 1)∧w'.cell? ⟨w.heap.size,2,none⟩=some (.int .i64 0)∧w'.cell? ⟨F,0,none⟩=some (.int .u8 f)) (first|go_keep|exact QCV hb (by assumption))
  (first
  | (go_at_call 265;refine (Za _ _ (B8.lo (by assumption)) (B8.hi (by assumption)) _).mono ?_;rintro e w' ⟨rfl,hb⟩;have hsz:=hb.size)
  | (go_at_call 291;refine (QCg F f hf _ (last3 (by assumption))).mono ?_;rintro e w' ⟨rfl,rfl⟩)
  | (go_at_call 175;refine (Qe _ _ _ (B8.lo (by assumption)) (B8.hi (by assumption)) _).mono ?_;rintro e w' ⟨rfl,rfl⟩))
 go_wp2_with fail
 go_ret3
 exact⟨rfl,(by repeat (first|exact Below.refl _ _|assumption|refine JF ?_ (by assumption)|refine Below.drew ?_|refine Below.alloc ?_ (by first|(simp;done)|(simp;omega)|omega) _|refine Below.setCell ?_ (by first|(simp;done)|(simp;omega)|omega) _))⟩
theorem QTR (b f:Int)(hb:B8 b)(hf:B8 f)(w:World)(hd:Courses w) :
 Calls Tryz.prog 214 #[.int .i64 3,.int .u8 b,.int .u8 f] w fun e w'=>e=.returned (QAW (shM 3 b f) (Z5 3 b) true)∧Below w.heap.size w w':=by
 have hB:=hb
 clear hb
 obtain⟨d0,d1,d2,d3,d4,d5⟩:=hd
 have ka:=X4 3
 simp only[show (3:Int)%2=1 by decide] at ka
 have ht:B8 (Q2 b (-1)):=Qg b (-1) hB.1 hB.2
 go_enter Tryz.func214,Tryz.ntmps214
 go_wp2_with (first
  | (go_at_call 219;refine (Qi _ _ (B8.lo (by assumption)) (B8.hi (by assumption)) _).mono ?_;rintro e w' ⟨rfl,rfl⟩)
  | (go_at_call 264;refine (QO _ _ _ _).mono ?_;rintro e w' ⟨B,F,O,M,rfl,⟨⟨c1,c2,c3⟩,hm⟩,hb⟩;have hl:=QTP hm))
 have k0:w'.cell? ⟨w.heap.size,0,none⟩=some (.int .i64 (-1)):=cell_kept (QAQ w _ _ _ _).1 hb
 have k2:w'.cell? ⟨w.heap.size,2,none⟩=some (.int .i64 7):=cell_kept (QAQ w _ _ _ _).2.2 hb
 have hsz:=hb.size
 simp only[World.size_alloc] at hsz
 have hs:w'.cell? ⟨w.heap.size,0,none⟩=some (.int .i64 (-1))∧w'.cell? ⟨w.heap.size,2,none⟩=some (.int .i64 7)∧w'.cell? ⟨F,0,none⟩=some (.int .u8 f):=⟨k0,k2,c2⟩
 have hb0:Below w.heap.size w w':=(by repeat (first|exact Below.refl _ _|assumption|refine JF ?_ (by assumption)|refine Below.drew ?_|refine Below.alloc ?_ (by first|(simp;done)|(simp;omega)|omega) _|refine Below.setCell ?_ (by first|(simp;done)|(simp;omega)|omega) _))
 clear hb k0 k2 c1 c2 c3 hl hm d0 d1 d2 d3 d4 d5 ka
 go_region_held3 (fun w'=>w'.cell? ⟨w.heap.size,0,none⟩=some (.int .i64 (-1))∧w'.cell? ⟨w.heap.size,2,none⟩=some (.int .i64 7)∧w'.cell? ⟨F,0,none⟩=some (.int .u8 f)) (first|go_keep|exact QCV hb (by assumption))
  (first
  | (go_at_call 265;refine (Za _ _ (B8.lo (by assumption)) (B8.hi (by assumption)) _).mono ?_;rintro e w' ⟨rfl,hb⟩;have hsz:=hb.size)
  | (go_at_call 291;refine (QCg F f hf _ (last3 (by assumption))).mono ?_;rintro e w' ⟨rfl,rfl⟩)
  | (go_at_call 175;refine (Qe _ _ _ (B8.lo (by assumption)) (B8.hi (by assumption)) _).mono ?_;rintro e w' ⟨rfl,rfl⟩))
 go_wp2_with fail
 go_ret3
 exact⟨rfl,(by repeat (first|exact Below.refl _ _|assumption|refine JF ?_ (by assumption)|refine Below.drew ?_|refine Below.alloc ?_ (by first|(simp;done)|(simp;omega)|omega) _|refine Below.setCell ?_ (by first|(simp;done)|(simp;omega)|omega) _))⟩
theorem QSy (b f:Int)(hb:B8 b)(hf:B8 f)(w:World)(hd:Courses w) :
 Calls Tryz.prog 214 #[.int .i64 4,.int .u8 b,.int .u8 f] w fun e w'=>e=.returned (QAW (shM 4 b f) (Z5 4 b) true)∧Below w.heap.size w w':=by
 have hB:=hb
 clear hb
 obtain⟨d0,d1,d2,d3,d4,d5⟩:=hd
 have ka:=X4 4
 simp only[show (4:Int)%2=0 by decide] at ka
 have ht:B8 (Q2 b 1):=Qg b 1 hB.1 hB.2
 go_enter Tryz.func214,Tryz.ntmps214
 go_wp2_with (first
  | (go_at_call 219;refine (Qi _ _ (B8.lo (by assumption)) (B8.hi (by assumption)) _).mono ?_;rintro e w' ⟨rfl,rfl⟩)
  | (go_at_call 264;refine (QO _ _ _ _).mono ?_;rintro e w' ⟨B,F,O,M,rfl,⟨⟨c1,c2,c3⟩,hm⟩,hb⟩;have hl:=QUK hm))
 have k0:w'.cell? ⟨w.heap.size,0,none⟩=some (.int .i64 1):=cell_kept (QAQ w _ _ _ _).1 hb
 have k2:w'.cell? ⟨w.heap.size,2,none⟩=some (.int .i64 0):=cell_kept (QAQ w _ _ _ _).2.2 hb
 have hsz:=hb.size
 simp only[World.size_alloc] at hsz
 have hs:w'.cell? ⟨w.heap.size,0,none⟩=some (.int .i64 1)∧w'.cell? ⟨w.heap.size,2,none⟩=some (.int .i64 0)∧w'.cell? ⟨O,0,none⟩=some (.bool (isM b 7)):=⟨k0,k2,c3⟩
 have hb0:Below w.heap.size w w':=(by repeat (first|exact Below.refl _ _|assumption|refine JF ?_ (by assumption)|refine Below.drew ?_|refine Below.alloc ?_ (by first|(simp;done)|(simp;omega)|omega) _|refine Below.setCell ?_ (by first|(simp;done)|(simp;omega)|omega) _))
 clear hb k0 k2 c1 c2 c3 hl hm d0 d1 d2 d3 d4 d5 ka
 go_region_held3 (fun w'=>w'.cell? ⟨w.heap.size,0,none⟩=some (.int .i64 1)∧w'.cell? ⟨w.heap.size,2,none⟩=some (.int .i64 0)∧w'.cell? ⟨O,0,none⟩=some (.bool (isM b 7))) (first|go_keep|exact QCV hb (by assumption))
  (first
  | (go_at_call 265;refine (Za _ _ (B8.lo (by assumption)) (B8.hi (by assumption)) _).mono ?_;rintro e w' ⟨rfl,hb⟩;have hsz:=hb.size)
  | (go_at_call 292;refine (QDO _).mono ?_;rintro e w' ⟨rfl,rfl⟩)
  | (go_at_call 175;refine (Qe _ _ _ (B8.lo (by assumption)) (B8.hi (by assumption)) _).mono ?_;rintro e w' ⟨rfl,rfl⟩))
 go_wp2_with fail
 go_ret3
 exact⟨rfl,(by repeat (first|exact Below.refl _ _|assumption|refine JF ?_ (by assumption)|refine Below.drew ?_|refine Below.alloc ?_ (by first|(simp;done)|(simp;omega)|omega) _|refine Below.setCell ?_ (by first|(simp;done)|(simp;omega)|omega) _))⟩
theorem QTo (b f:Int)(hb:B8 b)(hf:B8 f)(w:World)(hd:Courses w) :
 Calls Tryz.prog 214 #[.int .i64 5,.int .u8 b,.int .u8 f] w fun e w'=>e=.returned (QAW (shM 5 b f) (Z5 5 b) true)∧Below w.heap.size w w':=by
 have hB:=hb
 clear hb
 obtain⟨d0,d1,d2,d3,d4,d5⟩:=hd
 have ka:=X4 5
 simp only[show (5:Int)%2=1 by decide] at ka
 have ht:B8 (Q2 b (-1)):=Qg b (-1) hB.1 hB.2
 go_enter Tryz.func214,Tryz.ntmps214
 go_wp2_with (first
  | (go_at_call 219;refine (Qi _ _ (B8.lo (by assumption)) (B8.hi (by assumption)) _).mono ?_;rintro e w' ⟨rfl,rfl⟩)
  | (go_at_call 264;refine (QO _ _ _ _).mono ?_;rintro e w' ⟨B,F,O,M,rfl,⟨⟨c1,c2,c3⟩,hm⟩,hb⟩;have hl:=QS2 hm))
 have k0:w'.cell? ⟨w.heap.size,0,none⟩=some (.int .i64 (-1)):=cell_kept (QAQ w _ _ _ _).1 hb
 have k2:w'.cell? ⟨w.heap.size,2,none⟩=some (.int .i64 7):=cell_kept (QAQ w _ _ _ _).2.2 hb
 have hsz:=hb.size
 simp only[World.size_alloc] at hsz
 have hs:w'.cell? ⟨w.heap.size,0,none⟩=some (.int .i64 (-1))∧w'.cell? ⟨w.heap.size,2,none⟩=some (.int .i64 7)∧w'.cell? ⟨B,0,none⟩=some (.int .u8 b):=⟨k0,k2,c1⟩
 have hb0:Below w.heap.size w w':=(by repeat (first|exact Below.refl _ _|assumption|refine JF ?_ (by assumption)|refine Below.drew ?_|refine Below.alloc ?_ (by first|(simp;done)|(simp;omega)|omega) _|refine Below.setCell ?_ (by first|(simp;done)|(simp;omega)|omega) _))
 clear hb k0 k2 c1 c2 c3 hl hm d0 d1 d2 d3 d4 d5 ka
 go_region_held3 (fun w'=>w'.cell? ⟨w.heap.size,0,none⟩=some (.int .i64 (-1))∧w'.cell? ⟨w.heap.size,2,none⟩=some (.int .i64 7)∧w'.cell? ⟨B,0,none⟩=some (.int .u8 b)) (first|go_keep|exact QCV hb (by assumption))
  (first
  | (go_at_call 265;refine (Za _ _ (B8.lo (by assumption)) (B8.hi (by assumption)) _).mono ?_;rintro e w' ⟨rfl,hb⟩;have hsz:=hb.size)
  | (go_at_call 293;refine (QMf B b hB _ (last3 (by assumption))).mono ?_;rintro e w' ⟨rfl,rfl⟩)
  | (go_at_call 175;refine (Qe _ _ _ (B8.lo (by assumption)) (B8.hi (by assumption)) _).mono ?_;rintro e w' ⟨rfl,rfl⟩))
 go_wp2_with fail
 go_ret3
 exact⟨rfl,(by repeat (first|exact Below.refl _ _|assumption|refine JF ?_ (by assumption)|refine Below.drew ?_|refine Below.alloc ?_ (by first|(simp;done)|(simp;omega)|omega) _|refine Below.setCell ?_ (by first|(simp;done)|(simp;omega)|omega) _))⟩
theorem QTx (b f:Int)(hb:B8 b)(hf:B8 f)(w:World)(hd:Courses w) :
 Calls Tryz.prog 214 #[.int .i64 6,.int .u8 b,.int .u8 f] w fun e w'=>e=.returned (QAW (shM 6 b f) (Z5 6 b) true)∧Below w.heap.size w w':=by
 have hB:=hb
 clear hb
 obtain⟨d0,d1,d2,d3,d4,d5⟩:=hd
 have ka:=X4 6
 simp only[show (6:Int)%2=0 by decide] at ka
 have ht:B8 (Q2 b 1):=Qg b 1 hB.1 hB.2
 go_enter Tryz.func214,Tryz.ntmps214
 go_wp2_with (first
  | (go_at_call 219;refine (Qi _ _ (B8.lo (by assumption)) (B8.hi (by assumption)) _).mono ?_;rintro e w' ⟨rfl,rfl⟩)
  | (go_at_call 264;refine (QO _ _ _ _).mono ?_;rintro e w' ⟨B,F,O,M,rfl,⟨⟨c1,c2,c3⟩,hm⟩,hb⟩;have hl:=QTm hm))
 have k0:w'.cell? ⟨w.heap.size,0,none⟩=some (.int .i64 1):=cell_kept (QAQ w _ _ _ _).1 hb
 have k2:w'.cell? ⟨w.heap.size,2,none⟩=some (.int .i64 0):=cell_kept (QAQ w _ _ _ _).2.2 hb
 have hsz:=hb.size
 simp only[World.size_alloc] at hsz
 have hs:w'.cell? ⟨w.heap.size,0,none⟩=some (.int .i64 1)∧w'.cell? ⟨w.heap.size,2,none⟩=some (.int .i64 0)∧w'.cell? ⟨O,0,none⟩=some (.bool (isM b 7)):=⟨k0,k2,c3⟩
 have hb0:Below w.heap.size w w':=(by repeat (first|exact Below.refl _ _|assumption|refine JF ?_ (by assumption)|refine Below.drew ?_|refine Below.alloc ?_ (by first|(simp;done)|(simp;omega)|omega) _|refine Below.setCell ?_ (by first|(simp;done)|(simp;omega)|omega) _))
 clear hb k0 k2 c1 c2 c3 hl hm d0 d1 d2 d3 d4 d5 ka
 go_region_held3 (fun w'=>w'.cell? ⟨w.heap.size,0,none⟩=some (.int .i64 1)∧w'.cell? ⟨w.heap.size,2,none⟩=some (.int .i64 0)∧w'.cell? ⟨O,0,none⟩=some (.bool (isM b 7))) (first|go_keep|exact QCV hb (by assumption))
  (first
  | (go_at_call 265;refine (Za _ _ (B8.lo (by assumption)) (B8.hi (by assumption)) _).mono ?_;rintro e w' ⟨rfl,hb⟩;have hsz:=hb.size)
  | (go_at_call 294;refine (QLN _).mono ?_;rintro e w' ⟨rfl,rfl⟩)
  | (go_at_call 175;refine (Qe _ _ _ (B8.lo (by assumption)) (B8.hi (by assumption)) _).mono ?_;rintro e w' ⟨rfl,rfl⟩))
 go_wp2_with fail
 go_ret3
 exact⟨rfl,(by repeat (first|exact Below.refl _ _|assumption|refine JF ?_ (by assumption)|refine Below.drew ?_|refine Below.alloc ?_ (by first|(simp;done)|(simp;omega)|omega) _|refine Below.setCell ?_ (by first|(simp;done)|(simp;omega)|omega) _))⟩
theorem QS9 (b f:Int)(hb:B8 b)(hf:B8 f)(w:World)(hd:Courses w) :
 Calls Tryz.prog 214 #[.int .i64 7,.int .u8 b,.int .u8 f] w fun e w'=>e=.returned (QAW (shM 7 b f) (Z5 7 b) true)∧Below w.heap.size w w':=by
 have hB:=hb
 clear hb
 obtain⟨d0,d1,d2,d3,d4,d5⟩:=hd
 have ka:=X4 7
 simp only[show (7:Int)%2=1 by decide] at ka
 have ht:B8 (Q2 b (-1)):=Qg b (-1) hB.1 hB.2
 go_enter Tryz.func214,Tryz.ntmps214
 go_wp2_with (first
  | (go_at_call 219;refine (Qi _ _ (B8.lo (by assumption)) (B8.hi (by assumption)) _).mono ?_;rintro e w' ⟨rfl,rfl⟩)
  | (go_at_call 264;refine (QO _ _ _ _).mono ?_;rintro e w' ⟨B,F,O,M,rfl,⟨⟨c1,c2,c3⟩,hm⟩,hb⟩;have hl:=QTQ hm))
 have k0:w'.cell? ⟨w.heap.size,0,none⟩=some (.int .i64 (-1)):=cell_kept (QAQ w _ _ _ _).1 hb
 have k2:w'.cell? ⟨w.heap.size,2,none⟩=some (.int .i64 7):=cell_kept (QAQ w _ _ _ _).2.2 hb
 have hsz:=hb.size
 simp only[World.size_alloc] at hsz
 have hs:w'.cell? ⟨w.heap.size,0,none⟩=some (.int .i64 (-1))∧w'.cell? ⟨w.heap.size,2,none⟩=some (.int .i64 7)∧w'.cell? ⟨O,0,none⟩=some (.bool (isM b 0)):=⟨k0,k2,c3⟩
 have hb0:Below w.heap.size w w':=(by repeat (first|exact Below.refl _ _|assumption|refine JF ?_ (by assumption)|refine Below.drew ?_|refine Below.alloc ?_ (by first|(simp;done)|(simp;omega)|omega) _|refine Below.setCell ?_ (by first|(simp;done)|(simp;omega)|omega) _))
 clear hb k0 k2 c1 c2 c3 hl hm d0 d1 d2 d3 d4 d5 ka
 go_region_held3 (fun w'=>w'.cell? ⟨w.heap.size,0,none⟩=some (.int .i64 (-1))∧w'.cell? ⟨w.heap.size,2,none⟩=some (.int .i64 7)∧w'.cell? ⟨O,0,none⟩=some (.bool (isM b 0))) (first|go_keep|exact QCV hb (by assumption))
  (first
  | (go_at_call 265;refine (Za _ _ (B8.lo (by assumption)) (B8.hi (by assumption)) _).mono ?_;rintro e w' ⟨rfl,hb⟩;have hsz:=hb.size)
  | (go_at_call 292;refine (QDO _).mono ?_;rintro e w' ⟨rfl,rfl⟩)
  | (go_at_call 175;refine (Qe _ _ _ (B8.lo (by assumption)) (B8.hi (by assumption)) _).mono ?_;rintro e w' ⟨rfl,rfl⟩))
 go_wp2_with fail
 go_ret3
 exact⟨rfl,(by repeat (first|exact Below.refl _ _|assumption|refine JF ?_ (by assumption)|refine Below.drew ?_|refine Below.alloc ?_ (by first|(simp;done)|(simp;omega)|omega) _|refine Below.setCell ?_ (by first|(simp;done)|(simp;omega)|omega) _))⟩
theorem QIU (k b f:Int)(h0:0≤k)(h1:k < 8)(hb:B8 b)(hf:B8 f)(w:World)(hd:Courses w) :
 Calls Tryz.prog 214 #[.int .i64 k,.int .u8 b,.int .u8 f] w fun e w'=>e=.returned (QAW (shM k b f) (Z5 k b) true)∧Below w.heap.size w w':=by
 obtain rfl|rfl|rfl|rfl|rfl|rfl|rfl|rfl:k=0∨k=1∨k=2∨k=3∨k=4∨k=5∨k=6∨k=7:=by omega
 · exact QTs b f hb hf w hd
 · exact QUD b f hb hf w hd
 · exact QTJ b f hb hf w hd
 · exact QTR b f hb hf w hd
 · exact QSy b f hb hf w hd
 · exact QTo b f hb hf w hd
 · exact QTx b f hb hf w hd
 · exact QS9 b f hb hf w hd
theorem QKj (k b f:Int)(hk:k < 0∨8≤k)(hb:B8 b)(hf:B8 f)(w:World)(hd:Courses w) :
 Calls Tryz.prog 214 #[.int .i64 k,.int .u8 b,.int .u8 f] w fun e w'=>e=.returned (QAW 0 false false)∧Below w.heap.size w w':=by
 have hB:=hb
 clear hb
 obtain⟨d0,d1,d2,d3,d4,d5⟩:=hd
 have ka:=X4 k
 have hk:=Lib.hid hk
 obtain h2|h2:k%2=0∨k%2=1:=by omega
 all_goals
  rw[h2] at ka
  clear h2
  go_enter Tryz.func214,Tryz.ntmps214
  go_wp2_with (first
   | (go_at_call 219;refine (Qi _ _ (B8.lo (by assumption)) (B8.hi (by assumption)) _).mono ?_;rintro e w' ⟨rfl,rfl⟩)
   | (go_at_call 264;refine (QO _ _ _ _).mono ?_;rintro e w' ⟨B,F,O,M,rfl,⟨⟨c1,c2,c3⟩,hm⟩,hb⟩;have hl:=QRe hk.out hm))
  go_ret3
  have hsz:=hb.size
  simp only[World.size_alloc] at hsz
  exact⟨rfl,(by repeat (first|exact Below.refl _ _|assumption|refine JF ?_ (by assumption)|refine Below.drew ?_|refine Below.alloc ?_ (by first|(simp;done)|(simp;omega)|omega) _|refine Below.setCell ?_ (by first|(simp;done)|(simp;omega)|omega) _))⟩
end Go.Proofs.YtbhaojlikgdgjaaGreatDoor
