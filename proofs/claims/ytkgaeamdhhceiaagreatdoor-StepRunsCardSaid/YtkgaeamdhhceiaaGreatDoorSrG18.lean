/- Contracts and facts that the claim's proof wants (several texts in one). -/
import Derived.Test.YtkgaeamdhhceiaaGreatDoorSrG9
namespace Go.Proofs.YtkgaeamdhhceiaaGreatDoor
open Go.RowKit
set_option linter.unusedVariables false
set_option linter.unusedSimpArgs false
set_option maxRecDepth 20000
set_option maxHeartbeats 20000000
section
attribute [local go_sem ↓] QGE QFm QFw QGQ QFI QFE QEw QFP
theorem QJY (c:Bool)(w:World) :
 Calls Tryz.prog 204 #[.bool c] w fun e w'=>e=.returned (.int .i64 (one c))∧w=w':=by
 cases c
 all_goals
  go_enter Tryz.func204,Tryz.ntmps204
  go_wp2
  go_ret
  exact⟨rfl,rfl⟩
theorem QJA (n:Int)(w:World) :
 Calls Tryz.prog 205 #[.int .i64 n] w fun e w'=>e=.returned (.bool (QBI n))∧w=w':=by
 by_cases h:n < -128
 · go_enter Tryz.func205,Tryz.ntmps205
   go_wp2
   go_ret
   exact⟨Qy (by unfold QBI;rw[decide_eq_true h];rfl),rfl⟩
 · go_enter Tryz.func205,Tryz.ntmps205
   go_wp2
   go_ret
   exact⟨Qy (by unfold QBI;rw[decide_eq_false (show ¬n < -128 by omega)];rfl),rfl⟩
theorem QAr (r:Int):isM (JD r) 7=isM r 7∧isM (JD r) 6=(r==0)∧isM (JD r) 5=isM r 5∧isM (JD r) 4=false∧isM (JD r) 3=isM r 3∧isM (JD r) 2=false∧isM (JD r) 1=false∧isM (JD r) 0=false:=ZE _ _ _ _ _ _ _ _
theorem signed_bounds (a:Int)(h0:0≤a)(h1:a≤255):-128≤JR a∧JR a≤127:=by unfold JR;split<;>omega
theorem QFO (a b:Int)(c:Bool)(ha:B8 a)(hb:B8 b)(w:World) :
 Calls Tryz.prog 165 #[.int .u8 a,.int .u8 b,.bool c] w fun e w'=>e=.returned (two (XW a b c) (XX a b c))∧Below w.heap.size w w':=by
 have a0:=ha.1
 have a1:=ha.2
 have b0:=hb.1
 have b1:=hb.2
 have hr:=Lib.hid (QV a b c)
 have ho:=Q1 c
 have hq:=Lib.hid (QD (XW a b c))
 have s1:=signed_bounds a a0 a1
 have s2:=signed_bounds b b0 b1
 clear ha hb
 go_enter Tryz.func165,Tryz.ntmps165
 go_wp2_with (first
  | (go_at_call 204;refine (QJY _ _).mono ?_;rintro e w' ⟨rfl,rfl⟩)
  | (go_at_call 156;refine (j7 _ (by omega) (by omega) _).mono ?_;rintro e w' ⟨rfl,hb⟩;have hsz:=hb.size)
  | (go_at_call 142;refine (Qn _ hq.out.1 hq.out.2 _).mono ?_;rintro e w' ⟨rfl,hb⟩;have hsz:=hb.size)
  | (go_at_call 109;refine (QA7 _ (by omega) (by omega) _).mono ?_;rintro e w' ⟨rfl,rfl⟩)
  | (go_at_call 205;refine (QJA _ _).mono ?_;rintro e w' ⟨rfl,rfl⟩)
  | (go_at_call 144;refine (QK _ _ _ _ _ _ _ _ _).mono ?_;rintro e w' ⟨rfl,hb⟩;have hsz:=hb.size))
 go_ret2
 obtain⟨e0,e1,e2,e3,e4,e5,e6,e7⟩:=QAr (XW a b c)
 rw[e0,e1,e2,e4,e6]
 exact⟨rfl,(by repeat (first|exact Below.refl _ _|assumption|refine Jc ?_ (by assumption)|refine Below.drew ?_|refine Below.alloc ?_ (by first|(simp;done)|(simp;omega)|omega) _|refine Below.setCell ?_ (by first|(simp;done)|(simp;omega)|omega) _))⟩
theorem QAX (a b:Int)(c:Bool)(ha:B8 a)(hb:B8 b)(w:World) :
 Calls Tryz.prog 154 #[.int .u8 a,.int .u8 b,.bool c] w fun e w'=>e=.returned (two (QX a b c) (QM a b c))∧Below w.heap.size w w':=by
 have a0:=ha.1
 have a1:=ha.2
 have b0:=hb.1
 have b1:=hb.2
 have hr:=Lib.hid (QA a b c)
 have ho:=Q1 c
 have hq:=Lib.hid (QD (QX a b c))
 have s1:=signed_bounds a a0 a1
 have s2:=signed_bounds b b0 b1
 have hs:(a-b-one c+512)%256=QX a b c:=by unfold QX;omega
 clear ha hb
 go_enter Tryz.func154,Tryz.ntmps154
 go_wp2_with (first
  | (go_at_call 204;refine (QJY _ _).mono ?_;rintro e w' ⟨rfl,rfl⟩)
  | (go_at_call 156;refine (j7 _ hr.out.1 hr.out.2 _).mono ?_;rintro e w' ⟨rfl,hb⟩;have hsz:=hb.size)
  | (go_at_call 142;refine (Qn _ hq.out.1 hq.out.2 _).mono ?_;rintro e w' ⟨rfl,hb⟩;have hsz:=hb.size)
  | (go_at_call 109;refine (QA7 _ (by omega) (by omega) _).mono ?_;rintro e w' ⟨rfl,rfl⟩)
  | (go_at_call 205;refine (QJA _ _).mono ?_;rintro e w' ⟨rfl,rfl⟩)
  | (go_at_call 144;refine (QK _ _ _ _ _ _ _ _ _).mono ?_;rintro e w' ⟨rfl,hb⟩;have hsz:=hb.size))
 go_ret2
 obtain⟨e0,e1,e2,e3,e4,e5,e6,e7⟩:=QAr (QX a b c)
 rw[e0,e1,e2,e4]
 exact⟨rfl,(by repeat (first|exact Below.refl _ _|assumption|refine Jc ?_ (by assumption)|refine Below.drew ?_|refine Below.alloc ?_ (by first|(simp;done)|(simp;omega)|omega) _|refine Below.setCell ?_ (by first|(simp;done)|(simp;omega)|omega) _))⟩
theorem QPN (a b:Int)(ha:B8 a)(hb:B8 b)(w:World) :
 Calls Tryz.prog 169 #[.int .u8 a,.int .u8 b] w fun e w'=>e=.returned (.int .u8 (QET a b))∧Below w.heap.size w w':=by
 have hf:=Lib.hid (QG a b false)
 have ha:=Lib.hid ha
 have hB:=Lib.hid hb
 clear hb
 go_enter Tryz.func169,Tryz.ntmps169
 go_wp2_with (first
  | (go_at_call 154;refine (QAX _ _ _ ha.out hB.out _).mono ?_;rintro e w' ⟨rfl,hb⟩;have hsz:=hb.size)
  | (go_at_call 142;refine (Qn _ hf.out.1 hf.out.2 _).mono ?_;rintro e w' ⟨rfl,hb⟩;have hsz:=hb.size)
  | (go_at_call 140;refine (QP _ _ hB.out.1 hB.out.2 _).mono ?_;rintro e w' ⟨rfl,rfl⟩)
  | (go_at_call 144;refine (QK _ _ _ _ _ _ _ _ _).mono ?_;rintro e w' ⟨rfl,hb⟩;have hsz:=hb.size))
 go_ret
 obtain⟨e0,e1,e2,e3,e4,e5,e6,e7⟩:isM (QM a b false) 7=_∧isM (QM a b false) 6=_∧isM (QM a b false) 5=_∧isM (QM a b false) 4=_∧isM (QM a b false) 3=_∧isM (QM a b false) 2=_∧isM (QM a b false) 1=_∧isM (QM a b false) 0=_:=ZE _ _ _ _ _ _ _ _
 rw[e0,e1,e3,e5,e6,e7]
 exact⟨rfl,(by repeat (first|exact Below.refl _ _|assumption|refine Jc ?_ (by assumption)|refine Below.drew ?_|refine Below.alloc ?_ (by first|(simp;done)|(simp;omega)|omega) _|refine Below.setCell ?_ (by first|(simp;done)|(simp;omega)|omega) _))⟩
theorem QJv (a f:Int)(ha:B8 a)(hf:B8 f)(w:World) :
 Calls Tryz.prog 209 #[.int .u8 a,.int .u8 f] w fun e w'=>e=.returned (two (XW a 1 false) (QEN a f))∧Below w.heap.size w w':=by
 have hg:=Lib.hid (XE a 1 false)
 have ha:=Lib.hid ha
 have hf:=Lib.hid hf
 go_enter Tryz.func209,Tryz.ntmps209
 go_wp2_with (first
  | (go_at_call 165;refine (QFO _ _ _ ha.out ⟨by omega,by omega⟩ _).mono ?_;rintro e w' ⟨rfl,hb⟩;have hsz:=hb.size)
  | (go_at_call 142;refine (Qn _ hg.out.1 hg.out.2 _).mono ?_;rintro e w' ⟨rfl,hb⟩;have hsz:=hb.size)
  | (go_at_call 140;refine (QP _ _ hf.out.1 hf.out.2 _).mono ?_;rintro e w' ⟨rfl,rfl⟩)
  | (go_at_call 144;refine (QK _ _ _ _ _ _ _ _ _).mono ?_;rintro e w' ⟨rfl,hb⟩;have hsz:=hb.size))
 go_ret2
 obtain⟨e0,e1,e2,e3,e4,e5,e6,e7⟩:isM (XX a 1 false) 7=_∧isM (XX a 1 false) 6=_∧isM (XX a 1 false) 5=_∧isM (XX a 1 false) 4=_∧isM (XX a 1 false) 3=_∧isM (XX a 1 false) 2=_∧isM (XX a 1 false) 1=_∧isM (XX a 1 false) 0=_:=ZE _ _ _ _ _ _ _ _
 rw[e0,e1,e2,e3,e4,e5,e6]
 exact⟨rfl,(by repeat (first|exact Below.refl _ _|assumption|refine Jc ?_ (by assumption)|refine Below.drew ?_|refine Below.alloc ?_ (by first|(simp;done)|(simp;omega)|omega) _|refine Below.setCell ?_ (by first|(simp;done)|(simp;omega)|omega) _))⟩
theorem QKg (a f:Int)(ha:B8 a)(hf:B8 f)(w:World) :
 Calls Tryz.prog 210 #[.int .u8 a,.int .u8 f] w fun e w'=>e=.returned (two (QX a 1 false) (QEL a f))∧Below w.heap.size w w':=by
 have hg:=Lib.hid (QG a 1 false)
 have ha:=Lib.hid ha
 have hf:=Lib.hid hf
 go_enter Tryz.func210,Tryz.ntmps210
 go_wp2_with (first
  | (go_at_call 154;refine (QAX _ _ _ ha.out ⟨by omega,by omega⟩ _).mono ?_;rintro e w' ⟨rfl,hb⟩;have hsz:=hb.size)
  | (go_at_call 142;refine (Qn _ hg.out.1 hg.out.2 _).mono ?_;rintro e w' ⟨rfl,hb⟩;have hsz:=hb.size)
  | (go_at_call 140;refine (QP _ _ hf.out.1 hf.out.2 _).mono ?_;rintro e w' ⟨rfl,rfl⟩)
  | (go_at_call 144;refine (QK _ _ _ _ _ _ _ _ _).mono ?_;rintro e w' ⟨rfl,hb⟩;have hsz:=hb.size))
 go_ret2
 obtain⟨e0,e1,e2,e3,e4,e5,e6,e7⟩:isM (QM a 1 false) 7=_∧isM (QM a 1 false) 6=_∧isM (QM a 1 false) 5=_∧isM (QM a 1 false) 4=_∧isM (QM a 1 false) 3=_∧isM (QM a 1 false) 2=_∧isM (QM a 1 false) 1=_∧isM (QM a 1 false) 0=_:=ZE _ _ _ _ _ _ _ _
 rw[e0,e1,e2,e3,e4,e5,e6]
 exact⟨rfl,(by repeat (first|exact Below.refl _ _|assumption|refine Jc ?_ (by assumption)|refine Below.drew ?_|refine Below.alloc ?_ (by first|(simp;done)|(simp;omega)|omega) _|refine Below.setCell ?_ (by first|(simp;done)|(simp;omega)|omega) _))⟩
theorem QPY (a:Int)(ha:B8 a)(w:World) :
 Calls Tryz.prog 102 #[.int .u8 a] w fun e w'=>e=.returned (two (QX 0 a false) (QM 0 a false))∧Below w.heap.size w w':=by
 have ha:=Lib.hid ha
 go_enter Tryz.func102,Tryz.ntmps102
 go_wp2_with (first
  | (go_at_call 154;refine (QAX _ _ _ ⟨by omega,by omega⟩ ha.out _).mono ?_;rintro e w' ⟨rfl,hb⟩;have hsz:=hb.size))
 go_ret2
 exact⟨rfl,(by repeat (first|exact Below.refl _ _|assumption|refine Jc ?_ (by assumption)|refine Below.drew ?_|refine Below.alloc ?_ (by first|(simp;done)|(simp;omega)|omega) _|refine Below.setCell ?_ (by first|(simp;done)|(simp;omega)|omega) _))⟩
end
section
attribute [local go_sem ↓] QGE QFm QFw QGQ QFI QFE QEw QFP
theorem QC2 (x:Int)(hx:W16 x)(w:World) :
 Calls Tryz.prog 150 #[.int .u16 x] w fun e w'=>e=.returned (.int .i64 (XB x))∧w=w':=by
 have x0:=hx.1
 have x1:=hx.2
 by_cases h:x < 32768
 · have e:XB x=x:=if_pos h
   rw[e];clear e
   go_enter Tryz.func150,Tryz.ntmps150
   go_wp2
   go_ret
   exact⟨rfl,rfl⟩
 · have e:XB x=x-65536:=if_neg h
   rw[e];clear e
   go_enter Tryz.func150,Tryz.ntmps150
   go_wp2
   go_ret
   exact⟨rfl,rfl⟩
theorem QEG (f:Int)(hf:B8 f)(w:World) :
 Calls Tryz.prog 149 #[.int .u8 f] w fun e w'=>e=.returned (.int .i64 (one (isM f 0)))∧w=w':=by
 cases h:isM f 0
 all_goals
  go_enter Tryz.func149,Tryz.ntmps149
  go_wp2_with (go_at_call 140;refine (QP _ _ (B8.lo (by assumption)) (B8.hi (by assumption)) _).mono ?_;rintro e w' ⟨rfl,rfl⟩)
  go_ret
  exact⟨rfl,rfl⟩
theorem QEt (b0 b1 b2 b3 b4 b5 b6 b7:Bool)(r:Int)(hr:W16 r)(w:World) :
 Calls Tryz.prog 203 #[v8 b0 b1 b2 b3 b4 b5 b6 b7,.int .u16 r] w fun e w'=>e=.returned (v8 b0 b1 (isM (r / 256) 5) b3 (isM (r / 256) 3) b5 b6 b7)∧Below w.heap.size w w':=by
 have hh:=hr.high
 go_enter Tryz.func203,Tryz.ntmps203
 go_wp2_with (first
  | (go_at_call 52;refine (Xp _ (W16.lo (by assumption)) (W16.hi (by assumption)) _).mono ?_;rintro e w' ⟨rfl,rfl⟩)
  | (go_at_call 140;refine (QP _ _ (B8.lo (by assumption)) (B8.hi (by assumption)) _).mono ?_;rintro e w' ⟨rfl,rfl⟩))
 refine bodyPost_ret (v:=v8 b0 b1 (isM (r / 256) 5) b3 (isM (r / 256) 3) b5 b6 b7) (by simp[results,Tryz.f203,go_sem]) rfl ?_
 exact⟨rfl,(by repeat (first|exact Below.refl _ _|assumption|refine Jc ?_ (by assumption)|refine Below.drew ?_|refine Below.alloc ?_ (by first|(simp;done)|(simp;omega)|omega) _|refine Below.setCell ?_ (by first|(simp;done)|(simp;omega)|omega) _))⟩
theorem QCv (r:Int)(half over out minus:Bool)(hr:W16 r)(w:World) :
 Calls Tryz.prog 151 #[.int .u16 r,.bool half,.bool over,.bool out,.bool minus] w fun e w'=>e=.returned (.int .u8 (QHU r half over minus out))∧Below w.heap.size w w':=by
 have hh:=hr.high
 go_enter Tryz.func151,Tryz.ntmps151
 go_wp2_with (first
  | (go_at_call 52;refine (Xp _ (W16.lo (by assumption)) (W16.hi (by assumption)) _).mono ?_;rintro e w' ⟨rfl,rfl⟩)
  | (go_at_call 140;refine (QP _ _ (B8.lo (by assumption)) (B8.hi (by assumption)) _).mono ?_;rintro e w' ⟨rfl,rfl⟩)
  | (go_at_call 203;refine (QEt _ _ _ _ _ _ _ _ _ (by assumption) _).mono ?_;rintro e w' ⟨rfl,hb⟩;have hsz:=hb.size)
  | (go_at_call 144;refine (QK _ _ _ _ _ _ _ _ _).mono ?_;rintro e w' ⟨rfl,hb⟩;have hsz:=hb.size))
 go_ret
 exact⟨rfl,(by repeat (first|exact Below.refl _ _|assumption|refine Jc ?_ (by assumption)|refine Below.drew ?_|refine Below.alloc ?_ (by first|(simp;done)|(simp;omega)|omega) _|refine Below.setCell ?_ (by first|(simp;done)|(simp;omega)|omega) _))⟩
theorem QNm (a b f:Int)(ha:W16 a)(hb:W16 b)(hf:B8 f)(w:World) :
 Calls Tryz.prog 160 #[.int .u16 a,.int .u16 b,.int .u8 f] w fun e w'=>e=.returned (QI1 (ZK a b false) (QDA a b f))∧Below w.heap.size w w':=by
 have a0:=ha.1
 have a1:=ha.2
 have b0:=hb.1
 have b1:=hb.2
 have hr:=QHV a b false
 have hs:(a+b)%65536=ZK a b false:=by unfold ZK one;simp
 clear ha hb
 go_enter Tryz.func160,Tryz.ntmps160
 go_wp2_with (first
  | (go_at_call 142;refine (Qn _ (B8.lo (by assumption)) (B8.hi (by assumption)) _).mono ?_;rintro e w' ⟨rfl,hb⟩;have hsz:=hb.size)
  | (go_at_call 203;refine (QEt _ _ _ _ _ _ _ _ _ (by assumption) _).mono ?_;rintro e w' ⟨rfl,hb⟩;have hsz:=hb.size)
  | (go_at_call 144;refine (QK _ _ _ _ _ _ _ _ _).mono ?_;rintro e w' ⟨rfl,hb⟩;have hsz:=hb.size))
 go_ret2
 exact⟨rfl,(by repeat (first|exact Below.refl _ _|assumption|refine Jc ?_ (by assumption)|refine Below.drew ?_|refine Below.alloc ?_ (by first|(simp;done)|(simp;omega)|omega) _|refine Below.setCell ?_ (by first|(simp;done)|(simp;omega)|omega) _))⟩
theorem jO (a:Int)(h0:0≤a)(h1:a≤65535):-32768≤XB a∧XB a≤32767:=by unfold XB;split<;>omega
theorem QNi (a b f:Int)(ha:W16 a)(hb:W16 b)(hf:B8 f)(w:World) :
 Calls Tryz.prog 100 #[.int .u16 a,.int .u16 b,.int .u8 f] w fun e w'=>e=.returned (QI1 (ZK a b (isM f 0)) (QAQ a b (isM f 0)))∧Below w.heap.size w w':=by
 have hB:=hb
 clear hb
 have a0:=ha.1
 have a1:=ha.2
 have b0:=hB.1
 have b1:=hB.2
 have ho:=Q1 (isM f 0)
 have s1:=jO a a0 a1
 have s2:=jO b b0 b1
 have hr:=QHV a b (isM f 0)
 have hs:(a+b+one (isM f 0))%65536=ZK a b (isM f 0):=rfl
 cases hv:decide (XB a+XB b+one (isM f 0) < -32768)
 all_goals
  have hv0:=Lib.hid hv
  simp at hv
  go_enter Tryz.func100,Tryz.ntmps100
  go_wp2_with (first
   | (go_at_call 149;refine (QEG _ (by assumption) _).mono ?_;rintro e w' ⟨rfl,rfl⟩)
   | (go_at_call 150;refine (QC2 _ (by assumption) _).mono ?_;rintro e w' ⟨rfl,rfl⟩)
   | (go_at_call 151;refine (QCv _ _ _ _ _ (by assumption) _).mono ?_;rintro e w' ⟨rfl,hb⟩;have hsz:=hb.size))
  go_ret2
  refine⟨?_,(by repeat (first|exact Below.refl _ _|assumption|refine Jc ?_ (by assumption)|refine Below.drew ?_|refine Below.alloc ?_ (by first|(simp;done)|(simp;omega)|omega) _|refine Below.setCell ?_ (by first|(simp;done)|(simp;omega)|omega) _))⟩
  unfold QAQ QJi
  rw[hv0.out]
  rfl
theorem QNo (a b f:Int)(ha:W16 a)(hb:W16 b)(hf:B8 f)(w:World) :
 Calls Tryz.prog 97 #[.int .u16 a,.int .u16 b,.int .u8 f] w fun e w'=>e=.returned (QI1 (qK a b (isM f 0)) (QA4 a b (isM f 0)))∧Below w.heap.size w w':=by
 have hB:=hb
 clear hb
 have a0:=ha.1
 have a1:=ha.2
 have b0:=hB.1
 have b1:=hB.2
 have ho:=Q1 (isM f 0)
 have s1:=jO a a0 a1
 have s2:=jO b b0 b1
 have hr:=QMy a b (isM f 0)
 have hs:(a-b-one (isM f 0)+131072)%65536=qK a b (isM f 0):=by unfold qK;omega
 cases hv:decide (XB a-XB b-one (isM f 0) < -32768)
 all_goals
  have hv0:=Lib.hid hv
  simp at hv
  go_enter Tryz.func97,Tryz.ntmps97
  go_wp2_with (first
   | (go_at_call 149;refine (QEG _ (by assumption) _).mono ?_;rintro e w' ⟨rfl,rfl⟩)
   | (go_at_call 150;refine (QC2 _ (by assumption) _).mono ?_;rintro e w' ⟨rfl,rfl⟩)
   | (go_at_call 151;refine (QCv _ _ _ _ _ (by assumption) _).mono ?_;rintro e w' ⟨rfl,hb⟩;have hsz:=hb.size))
  go_ret2
  refine⟨?_,(by repeat (first|exact Below.refl _ _|assumption|refine Jc ?_ (by assumption)|refine Below.drew ?_|refine Below.alloc ?_ (by first|(simp;done)|(simp;omega)|omega) _|refine Below.setCell ?_ (by first|(simp;done)|(simp;omega)|omega) _))⟩
  unfold QA4 QJi
  rw[hv0.out]
  rfl
theorem QPo (y:Int):-65535≤y.tmod 65536∧y.tmod 65536≤65535∧(y.tmod 65536)%65536=y%65536:=by
 rcases Int.le_total 0 y with h|h
 · rw[Int.tmod_eq_emod_of_nonneg h];omega
 · obtain⟨z,rfl⟩:∃ z,y=-z:=⟨-y,by omega⟩
   rw[Int.neg_tmod,Int.tmod_eq_emod_of_nonneg (by omega)];omega
theorem QS (x y:Int)(hx:W16 x)(w:World) :
 Calls Tryz.prog 108 #[.int .u16 x,.int .i64 y] w fun e w'=>e=.returned (.int .u16 (JA x y))∧w=w':=by
 have x0:=hx.1
 have x1:=hx.2
 obtain⟨t0,t1,t2⟩:=QPo y
 obtain⟨u0,u1,u2⟩:=QPo (x+y.tmod 65536)
 have T2:=Lib.hid t2
 have U2:=Lib.hid u2
 clear t2 u2
 go_enter Tryz.func108,Tryz.ntmps108
 go_wp2
 go_ret
 exact⟨Qo (by rw[U2.out];have:=T2.out;unfold JA;omega),rfl⟩
theorem QAN (x y:Int)(hx:W16 x)(hy:B8 y)(w:World) :
 Calls Tryz.prog 70 #[.int .u16 x,.int .u8 y] w fun e w'=>e=.returned (.int .u16 (JA x (JR y)))∧w=w':=by
 go_enter Tryz.func70,Tryz.ntmps70
 go_wp2_with (first
  | (go_at_call 109;refine (QA7 _ (B8.lo (by assumption)) (B8.hi (by assumption)) _).mono ?_;rintro e w' ⟨rfl,rfl⟩)
  | (go_at_call 108;refine (QS _ _ (by assumption) _).mono ?_;rintro e w' ⟨rfl,rfl⟩))
 go_ret
 exact⟨rfl,rfl⟩
end
section
theorem QQs (w' w:World)(b0 b1 b2 b3 b4 b5 b6 b7:Bool)(t:TypeId)(hb:Below (w.alloc (.cells #[.bool b0,.bool b1,.bool b2,.bool b3,.bool b4,.bool b5,.bool b6,.bool b7] t)).heap.size (w.alloc (.cells #[.bool b0,.bool b1,.bool b2,.bool b3,.bool b4,.bool b5,.bool b6,.bool b7] t)) w') :
 ArrIs w' w.heap.size 8 (fun j=>.bool ([b0,b1,b2,b3,b4,b5,b6,b7].getD j false)) :=
 (ArrIs.new w _ t 0 0 _ 8 (.inr rfl) (fun j hj=>QOl (fun j=>(#[Value.bool b0,.bool b1,.bool b2,.bool b3,.bool b4,.bool b5,.bool b6,.bool b7]:Array Value)[j]?=some (.bool ([b0,b1,b2,b3,b4,b5,b6,b7].getD j false))) ⟨rfl,rfl,rfl,rfl,rfl,rfl,rfl,rfl⟩ j hj)).kept hb
attribute [local go_sem ↓] QGE QFm QFw QGQ QFI QFE QEw QFP
def XZ (op:Bool→Bool→Bool)(a b:Int):Nat→Int
 | 0=>0
 | k+1=>JO (XZ op a b k) k (op (isM a k) (isM b k))
theorem jQ (op:Bool→Bool→Bool)(a b:Int):∀ k,B8 (XZ op a b k)
 | 0=>B8.zero
 | k+1=>(jQ op a b k).with _ _
theorem zu (op:Bool→Bool→Bool)(a b:Int):XZ op a b 8=QDS op a b:=QJV _ _ _ _ _ _ _ _
theorem QFr (a b:Int)(ha:B8 a)(hB:B8 b)(w:World) :
 Calls Tryz.prog 216 #[.int .i64 0,.int .u8 a,.int .u8 b] w fun e w'=>e=.returned (.int .u8 (zB a b))∧w=w':=by
 go_enter Tryz.func216,Tryz.ntmps216
 go_wp2
 go_loop [7,8] (fun r i=>∃ k:Nat,k≤8∧i=.int .i64 k∧r=.int .u8 (XZ QLf a b k)) (fun _ i=>8-(intOf i).toNat)
 case atStart=>exact⟨0,by omega,rfl,rfl⟩
 case round =>
  obtain⟨k,hk,rfl,rfl⟩:=hrel
  have hm:=jQ QLf a b k
  by_cases hlt:k < 8
  · have HS:=Lib.hid (show XZ QLf a b (k+1)=JO (XZ QLf a b k) k (QLf (isM a k) (isM b k)) from rfl)
    cases c:isM a k<;>cases d:isM b k
    all_goals
     rw[c,d] at HS
     go_wp2_with (first
      | (go_at_call 140;refine (QP _ _ (B8.lo (by assumption)) (B8.hi (by assumption)) _).mono ?_;rintro e w' ⟨rfl,rfl⟩)
      | (go_at_call 92;refine (QR _ _ _ (B8.lo (by assumption)) (B8.hi (by assumption)) _).mono ?_;rintro e w' ⟨rfl,rfl⟩))
     go_round
     case rel=>exact⟨k+1,by omega,by go_num,by rw[HS.out];rfl⟩
     case measure=>simp[intOf];omega
  · obtain rfl:k=8:=by omega
    go_wp2
    go_ret
    exact⟨Qo (zu _ _ _),rfl⟩
theorem QGn (a b:Int)(ha:B8 a)(hB:B8 b)(w:World) :
 Calls Tryz.prog 216 #[.int .i64 1,.int .u8 a,.int .u8 b] w fun e w'=>e=.returned (.int .u8 (orR a b))∧w=w':=by
 go_enter Tryz.func216,Tryz.ntmps216
 go_wp2
 go_loop [7,8] (fun r i=>∃ k:Nat,k≤8∧i=.int .i64 k∧r=.int .u8 (XZ orB a b k)) (fun _ i=>8-(intOf i).toNat)
 case atStart=>exact⟨0,by omega,rfl,rfl⟩
 case round =>
  obtain⟨k,hk,rfl,rfl⟩:=hrel
  have hm:=jQ orB a b k
  by_cases hlt:k < 8
  · have HS:=Lib.hid (show XZ orB a b (k+1)=JO (XZ orB a b k) k (orB (isM a k) (isM b k)) from rfl)
    cases c:isM a k<;>cases d:isM b k
    all_goals
     rw[c,d] at HS
     go_wp2_with (first
      | (go_at_call 140;refine (QP _ _ (B8.lo (by assumption)) (B8.hi (by assumption)) _).mono ?_;rintro e w' ⟨rfl,rfl⟩)
      | (go_at_call 92;refine (QR _ _ _ (B8.lo (by assumption)) (B8.hi (by assumption)) _).mono ?_;rintro e w' ⟨rfl,rfl⟩))
     go_round
     case rel=>exact⟨k+1,by omega,by go_num,by rw[HS.out];rfl⟩
     case measure=>simp[intOf];omega
  · obtain rfl:k=8:=by omega
    go_wp2
    go_ret
    exact⟨Qo (zu _ _ _),rfl⟩
theorem QGU (a b:Int)(ha:B8 a)(hB:B8 b)(w:World) :
 Calls Tryz.prog 216 #[.int .i64 2,.int .u8 a,.int .u8 b] w fun e w'=>e=.returned (.int .u8 (jB a b))∧w=w':=by
 go_enter Tryz.func216,Tryz.ntmps216
 go_wp2
 go_loop [7,8] (fun r i=>∃ k:Nat,k≤8∧i=.int .i64 k∧r=.int .u8 (XZ QGp a b k)) (fun _ i=>8-(intOf i).toNat)
 case atStart=>exact⟨0,by omega,rfl,rfl⟩
 case round =>
  obtain⟨k,hk,rfl,rfl⟩:=hrel
  have hm:=jQ QGp a b k
  by_cases hlt:k < 8
  · have HS:=Lib.hid (show XZ QGp a b (k+1)=JO (XZ QGp a b k) k (QGp (isM a k) (isM b k)) from rfl)
    cases c:isM a k<;>cases d:isM b k
    all_goals
     rw[c,d] at HS
     go_wp2_with (first
      | (go_at_call 140;refine (QP _ _ (B8.lo (by assumption)) (B8.hi (by assumption)) _).mono ?_;rintro e w' ⟨rfl,rfl⟩)
      | (go_at_call 92;refine (QR _ _ _ (B8.lo (by assumption)) (B8.hi (by assumption)) _).mono ?_;rintro e w' ⟨rfl,rfl⟩))
     go_round
     case rel=>exact⟨k+1,by omega,by go_num,by rw[HS.out];rfl⟩
     case measure=>simp[intOf];omega
  · obtain rfl:k=8:=by omega
    go_wp2
    go_ret
    exact⟨Qo (zu _ _ _),rfl⟩
theorem QPC (a b:Int)(ha:B8 a)(hB:B8 b)(w:World) :
 Calls Tryz.prog 166 #[.int .u8 a,.int .u8 b] w fun e w'=>e=.returned (two (zB a b) (zN (zB a b)))∧Below w.heap.size w w':=by
 have hr:B8 (zB a b):=J7 ..
 have he:=J4 (zB a b)
 have hm:=Lib.hid (QKs _ hr)
 go_enter Tryz.func166,Tryz.ntmps166
 go_wp2_with (first
  | (go_at_call 216;refine (QFr _ _ (by assumption) (by assumption) _).mono ?_;rintro e w' ⟨rfl,rfl⟩)
  | (go_at_call 92;refine (QR _ _ _ (B8.lo (by assumption)) (B8.hi (by assumption)) _).mono ?_;rintro e w' ⟨rfl,rfl⟩)
  | (go_at_call 93;refine (Zb _ (B8.lo (by assumption)) (B8.hi (by assumption)) _).mono ?_;rintro e w' ⟨rfl,hb⟩;have hsz:=hb.size))
 go_ret2
 exact⟨by rw[←hm.out];rfl,(by repeat (first|exact Below.refl _ _|assumption|refine Jc ?_ (by assumption)|refine Below.drew ?_|refine Below.alloc ?_ (by first|(simp;done)|(simp;omega)|omega) _|refine Below.setCell ?_ (by first|(simp;done)|(simp;omega)|omega) _))⟩
theorem QSE (a b:Int)(ha:B8 a)(hB:B8 b)(w:World) :
 Calls Tryz.prog 168 #[.int .u8 a,.int .u8 b] w fun e w'=>e=.returned (two (orR a b) (Js (orR a b)))∧Below w.heap.size w w':=by
 have hr:B8 (orR a b):=J7 ..
 have he:=J4 (orR a b)
 go_enter Tryz.func168,Tryz.ntmps168
 go_wp2_with (first
  | (go_at_call 216;refine (QGn _ _ (by assumption) (by assumption) _).mono ?_;rintro e w' ⟨rfl,rfl⟩)
  | (go_at_call 92;refine (QR _ _ _ (B8.lo (by assumption)) (B8.hi (by assumption)) _).mono ?_;rintro e w' ⟨rfl,rfl⟩)
  | (go_at_call 93;refine (Zb _ (B8.lo (by assumption)) (B8.hi (by assumption)) _).mono ?_;rintro e w' ⟨rfl,hb⟩;have hsz:=hb.size))
 go_ret2
 exact⟨rfl,(by repeat (first|exact Below.refl _ _|assumption|refine Jc ?_ (by assumption)|refine Below.drew ?_|refine Below.alloc ?_ (by first|(simp;done)|(simp;omega)|omega) _|refine Below.setCell ?_ (by first|(simp;done)|(simp;omega)|omega) _))⟩
theorem QQi (a b:Int)(ha:B8 a)(hB:B8 b)(w:World) :
 Calls Tryz.prog 167 #[.int .u8 a,.int .u8 b] w fun e w'=>e=.returned (two (jB a b) (Js (jB a b)))∧Below w.heap.size w w':=by
 have hr:B8 (jB a b):=J7 ..
 have he:=J4 (jB a b)
 go_enter Tryz.func167,Tryz.ntmps167
 go_wp2_with (first
  | (go_at_call 216;refine (QGU _ _ (by assumption) (by assumption) _).mono ?_;rintro e w' ⟨rfl,rfl⟩)
  | (go_at_call 92;refine (QR _ _ _ (B8.lo (by assumption)) (B8.hi (by assumption)) _).mono ?_;rintro e w' ⟨rfl,rfl⟩)
  | (go_at_call 93;refine (Zb _ (B8.lo (by assumption)) (B8.hi (by assumption)) _).mono ?_;rintro e w' ⟨rfl,hb⟩;have hsz:=hb.size))
 go_ret2
 exact⟨rfl,(by repeat (first|exact Below.refl _ _|assumption|refine Jc ?_ (by assumption)|refine Below.drew ?_|refine Below.alloc ?_ (by first|(simp;done)|(simp;omega)|omega) _|refine Below.setCell ?_ (by first|(simp;done)|(simp;omega)|omega) _))⟩
theorem ArrIs.there {w:World} {A n:Nat} {v:Nat→Value}(h:ArrIs w A n v):w.there A 0 n:=fun j hj=>by
 rw[Nat.zero_add];exact⟨by rw[(h j hj).1];rfl,(h j hj).2⟩
theorem QUg (w:World)(b:Nat)(x0 x1 x2 x3 x4 x5 x6 x7:Value)(h:w.there b 0 8):∀ w2,w.setCells b 0 [x0,x1,x2,x3,x4,x5,x6,x7]=w2 →
 w2.cell? ⟨b,0,none⟩=some x0∧w2.cell? ⟨b,1,none⟩=some x1∧w2.cell? ⟨b,2,none⟩=some x2∧w2.cell? ⟨b,3,none⟩=some x3∧w2.cell? ⟨b,4,none⟩=some x4∧w2.cell? ⟨b,5,none⟩=some x5∧w2.cell? ⟨b,6,none⟩=some x6∧w2.cell? ⟨b,7,none⟩=some x7:=by
 rintro w2 rfl
 have hc:=World.rangeAt_setCells_same w b 0 [x0,x1,x2,x3,x4,x5,x6,x7] h
 exact⟨hc 0 _ rfl,hc 1 _ rfl,hc 2 _ rfl,hc 3 _ rfl,hc 4 _ rfl,hc 5 _ rfl,hc 6 _ rfl,hc 7 _ rfl⟩
theorem Below.setCells {n:Nat} {w w':World}(h:Below n w w'){b:Nat}(hb:n≤b):∀ (vs:List Value) (o:Nat),Below n w (w'.setCells b o vs):=by
 intro vs
 induction vs generalizing w' with
 | nil=>intro o;exact h
 | cons v r ih=>intro o;exact ih (h.setCell hb _) (o+1)
theorem QDP (f a:Int)(hf:B8 f)(ha:B8 a)(w:World) :
 Calls Tryz.prog 267 #[.int .u8 f,.int .u8 a] w fun e w'=>e=.returned (v8 (isM f 7) (isM f 6) (isM a 5) (isM f 4) (isM a 3) (isM f 2) (isM f 1) (isM f 0))∧Below w.heap.size w w':=by
 have hf0:=hf.1
 have hf1:=hf.2
 go_enter Tryz.func267,Tryz.ntmps267
 go_wp2_with fail
 refine (Qn _ hf0 hf1 _).mono ?_
 rintro e w' ⟨rfl,hb⟩
 have hsz:=hb.size
 have hlt:w.heap.size < w'.heap.size:=by simp only[World.size_alloc] at hsz;omega
 have R:=((QQs w' w false false false false false false false false _ hb).alloc (.cells #[.bool (isM f 7),.bool (isM f 6),.bool (isM a 5),.bool (isM f 4),.bool (isM a 3),.bool (isM f 2),.bool (isM f 1),.bool (isM f 0)] 163)).there
 have hb:=Lib.hid hb
 clear hsz
 go_wp2_with (first
  | (go_at_call 140;refine (QP _ _ ha.1 ha.2 _).mono ?_;rintro e w' ⟨rfl,rfl⟩)
  | (refine wpList_store_mid rfl _ _ _ rfl _ _ _ rfl rfl R (by kernel_rfl) (by simp[Value.oneCell']) ?_;rw[show (#[Value.bool (isM f 7),.bool (isM f 6),.bool (isM a 5),.bool (isM f 4),.bool (isM a 3),.bool (isM f 2),.bool (isM f 1),.bool (isM f 0)]:Array Value).toList=[Value.bool (isM f 7),.bool (isM f 6),.bool (isM a 5),.bool (isM f 4),.bool (isM a 3),.bool (isM f 2),.bool (isM f 1),.bool (isM f 0)] from rfl];have hl:=QUg _ _ (.bool (isM f 7)) (.bool (isM f 6)) (.bool (isM a 5)) (.bool (isM f 4)) (.bool (isM a 3)) (.bool (isM f 2)) (.bool (isM f 1)) (.bool (isM f 0)) R _ rfl;have hq:=Lib.hid (Below.setCells (b:=w.heap.size) (show Below w.heap.size w (w'.alloc (.cells #[.bool (isM f 7),.bool (isM f 6),.bool (isM a 5),.bool (isM f 4),.bool (isM a 3),.bool (isM f 2),.bool (isM f 1),.bool (isM f 0)] 163)) from Below.alloc (Below.trans ((Below.refl _ w).alloc (Nat.le_refl _) _) (hb.out.mono (by simp))) (by omega) _) (Nat.le_refl _) [.bool (isM f 7),.bool (isM f 6),.bool (isM a 5),.bool (isM f 4),.bool (isM a 3),.bool (isM f 2),.bool (isM f 1),.bool (isM f 0)] 0);clear R;generalize (w'.alloc _).setCells w.heap.size 0 _=w2 at hl hq ⊢))
 refine bodyPost_ret (v:=v8 (isM f 7) (isM f 6) (isM a 5) (isM f 4) (isM a 3) (isM f 2) (isM f 1) (isM f 0)) (by simp[results,Tryz.f267,go_sem,hl.1,hl.2.1,hl.2.2.1,hl.2.2.2.1,hl.2.2.2.2.1,hl.2.2.2.2.2.1,hl.2.2.2.2.2.2.1,hl.2.2.2.2.2.2.2]) rfl ?_
 exact⟨rfl,hq.out⟩
theorem QQ2 (a f:Int)(ha:B8 a)(hf:B8 f)(w:World) :
 Calls Tryz.prog 212 #[.int .u8 a,.int .u8 f] w fun e w'=>e=.returned (two (255-a) (QFL a f))∧Below w.heap.size w w':=by
 have hr:B8 (255-a):=⟨by have:=ha.2;omega,by have:=ha.1;omega⟩
 have a0:=ha.1
 have a1:=ha.2
 go_enter Tryz.func212,Tryz.ntmps212
 go_wp2_with (first
  | (go_at_call 267;refine (QDP _ _ (by assumption) (by assumption) _).mono ?_;rintro e w' ⟨rfl,hb⟩;have hsz:=hb.size)
  | (go_at_call 144;refine (QK _ _ _ _ _ _ _ _ _).mono ?_;rintro e w' ⟨rfl,hb⟩;have hsz:=hb.size))
 go_ret2
 exact⟨rfl,(by repeat (first|exact Below.refl _ _|assumption|refine Jc ?_ (by assumption)|refine Below.drew ?_|refine Below.alloc ?_ (by first|(simp;done)|(simp;omega)|omega) _|refine Below.setCell ?_ (by first|(simp;done)|(simp;omega)|omega) _))⟩
theorem QO2 (a f:Int)(ha:B8 a)(hf:B8 f)(w:World) :
 Calls Tryz.prog 213 #[.int .u8 a,.int .u8 f] w fun e w'=>e=.returned (.int .u8 (QDo a f))∧Below w.heap.size w w':=by
 go_enter Tryz.func213,Tryz.ntmps213
 go_wp2_with (first
  | (go_at_call 267;refine (QDP _ _ (by assumption) (by assumption) _).mono ?_;rintro e w' ⟨rfl,hb⟩;have hsz:=hb.size)
  | (go_at_call 144;refine (QK _ _ _ _ _ _ _ _ _).mono ?_;rintro e w' ⟨rfl,hb⟩;have hsz:=hb.size))
 go_ret
 exact⟨rfl,(by repeat (first|exact Below.refl _ _|assumption|refine Jc ?_ (by assumption)|refine Below.drew ?_|refine Below.alloc ?_ (by first|(simp;done)|(simp;omega)|omega) _|refine Below.setCell ?_ (by first|(simp;done)|(simp;omega)|omega) _))⟩
theorem QOw (a f:Int)(ha:B8 a)(hf:B8 f)(w:World) :
 Calls Tryz.prog 214 #[.int .u8 a,.int .u8 f] w fun e w'=>e=.returned (.int .u8 (QDO a f))∧Below w.heap.size w w':=by
 go_enter Tryz.func214,Tryz.ntmps214
 go_wp2_with (first
  | (go_at_call 267;refine (QDP _ _ (by assumption) (by assumption) _).mono ?_;rintro e w' ⟨rfl,hb⟩;have hsz:=hb.size)
  | (go_at_call 144;refine (QK _ _ _ _ _ _ _ _ _).mono ?_;rintro e w' ⟨rfl,hb⟩;have hsz:=hb.size))
 go_ret
 exact⟨rfl,(by repeat (first|exact Below.refl _ _|assumption|refine Jc ?_ (by assumption)|refine Below.drew ?_|refine Below.alloc ?_ (by first|(simp;done)|(simp;omega)|omega) _|refine Below.setCell ?_ (by first|(simp;done)|(simp;omega)|omega) _))⟩
theorem QJ2 (r:Int):isM (Js r) 7=isM r 7∧isM (Js r) 6=(r==0)∧isM (Js r) 5=isM r 5∧isM (Js r) 4=false∧isM (Js r) 3=isM r 3∧isM (Js r) 2=qG r∧isM (Js r) 1=false∧isM (Js r) 0=false:=ZE _ _ _ _ _ _ _ _
end
section
attribute [local go_sem ↓] QGE QFm QFw QGQ QFI QFE QEw QFP
theorem QIT (a f N:Int)(h:byM a f=N)(c:isM f 1=false):(a+N)%256=Xq a f:=by unfold Xq;rw[c,h];rfl
theorem QFf (a f N:Int)(h:byM a f=N)(c:isM f 1=true):(a-N)%256=Xq a f:=by unfold Xq;rw[c,h];rfl
theorem QUC (a f:Int)(h:byM a f=0):a%256=Xq a f:=by unfold Xq;rw[h];split<;>omega
theorem QVB (a f:Int):byM a f=(if isM f 4||decide (9 < a%16) then 6 else 0)+(if isM f 0||decide (153 < a) then 96 else 0):=rfl
theorem QRr (a f:Int):QEK a f=mkM (isM (Xq a f) 7) (Xq a f==0) (isM (Xq a f) 5) (isM a 4 != isM (Xq a f) 4) (isM (Xq a f) 3) (qG (Xq a f)) (isM f 1) (isM f 0||decide (153 < a)):=rfl
theorem QQq (a f:Int)(ha:B8 a)(hf:B8 f)(w:World) :
 Calls Tryz.prog 211 #[.int .u8 a,.int .u8 f] w fun e w'=>e=.returned (two (Xq a f) (QEK a f))∧Below w.heap.size w w':=by
 have a0:=ha.1
 have a1:=ha.2
 have hr:=jq a f
 have he:=J4 (Xq a f)
 have hD:=QRr a f
 have hN:=QVB a f
 by_cases x2:9 < a%16<;>by_cases x4:153 < a<;>cases c1:isM f 4<;>cases c3:isM f 0<;>cases c5:isM f 1
 all_goals
  first|rw[c1,c3,decide_eq_true x2,decide_eq_true x4] at hN|rw[c1,c3,decide_eq_true x2,decide_eq_false x4] at hN|rw[c1,c3,decide_eq_false x2,decide_eq_true x4] at hN|rw[c1,c3,decide_eq_false x2,decide_eq_false x4] at hN
  first|rw[c3,c5,decide_eq_true x4] at hD|rw[c3,c5] at hD
  simp only[Bool.or_true,Bool.or_false,Bool.true_or,Bool.false_or] at hD
  first
   | have hb:=QUC a f (hN.trans (by decide))
   | have hb:=QFf a f 102 (hN.trans (by decide)) c5
   | have hb:=QIT a f 102 (hN.trans (by decide)) c5
   | have hb:=QFf a f 96 (hN.trans (by decide)) c5
   | have hb:=QIT a f 96 (hN.trans (by decide)) c5
   | have hb:=QFf a f 6 (hN.trans (by decide)) c5
   | have hb:=QIT a f 6 (hN.trans (by decide)) c5
  clear hN
  have HD:=Lib.hid hD
  clear hD
  go_enter Tryz.func211,Tryz.ntmps211
  go_wp2_with fail
  refine (Qn _ hf.1 hf.2 _).mono ?_
  rintro e w1 ⟨rfl,hb1⟩
  have hs1:=hb1.size
  go_wp2_with fail
  refine (Zb _ hr.1 hr.2 _).mono ?_
  rintro e w2 ⟨rfl,hb2⟩
  have hs2:=hb2.size
  have A2:=QQs w2 w1 _ _ _ _ _ _ _ _ _ hb2
  go_wp2_with fail
  refine (Qn _ he.1 he.2 _).mono ?_
  rintro e w3 ⟨rfl,hb3⟩
  have hs3:=hb3.size
  have c6:=((A2.kept hb3) 6 (by omega)).1
  simp only[List.getD_cons_succ,List.getD_cons_zero] at c6
  simp only[World.size_alloc] at hs2 hs3
  have hlt:w1.heap.size < w3.heap.size:=by omega
  go_wp2_with (first
   | (go_at_call 140;refine (QP _ _ (B8.lo (by assumption)) (B8.hi (by assumption)) _).mono ?_;rintro e w' ⟨rfl,rfl⟩)
   | (go_at_call 144;refine (QK _ _ _ _ _ _ _ _ _).mono ?_;rintro e w' ⟨rfl,hb⟩;have hsz:=hb.size))
  go_ret2
  obtain⟨e7,e6,e5,e4,e3,e2,e1,e0⟩:=QJ2 (Xq a f)
  rw[e7,e6,e5,e3,e2,HD.out]
  exact⟨rfl,(by repeat (first|exact Below.refl _ _|assumption|refine Jc ?_ (by assumption)|refine Below.drew ?_|refine Below.alloc ?_ (by first|(simp;done)|(simp;omega)|omega) _|refine Below.setCell ?_ (by first|(simp;done)|(simp;omega)|omega) _))⟩
end
section
attribute [local go_sem ↓] QGE QFm QFw QGQ QFI QFE QEw QFP
abbrev QI7 (r:Int)(o:Bool):Value:=.tuple #[.int .u8 r,.bool o]
theorem QI8 (b:Int)(i:Bool)(hb:B8 b)(w:World) :
 Calls Tryz.prog 206 #[.int .u8 b,.bool true,.bool i] w fun e w'=>e=.returned (QI7 (QM6 b i) (isM b 7))∧w=w':=by
 have hm:=(QPf b hb i).1
 have hm:=Lib.hid hm
 have hu:B8 (QPm b):=by unfold QPm;repeat (first|exact B8.zero|apply B8.with)
 go_enter Tryz.func206,Tryz.ntmps206
 go_wp2
 refine wp_loop_rounds 9 ?_
 iterate 9 (rw[rounds_succ];go_wp2_with (first
  | (go_at_call 140;refine (QP _ _ (B8.lo (by assumption)) (B8.hi (by assumption)) _).mono ?_;rintro e w' ⟨rfl,rfl⟩)
  | (go_at_call 92;refine (QR _ _ _ (B8.lo (by repeat (first|exact B8.zero|apply B8.with))) (B8.hi (by repeat (first|exact B8.zero|apply B8.with))) _).mono ?_;rintro e w' ⟨rfl,rfl⟩)))
 go_ret2
 exact⟨by rw[←hm.out];rfl,rfl⟩
theorem QH3 (b:Int)(i:Bool)(hb:B8 b)(w:World) :
 Calls Tryz.prog 206 #[.int .u8 b,.bool false,.bool i] w fun e w'=>e=.returned (QI7 (QOL b i) (isM b 0))∧w=w':=by
 have hm:=(QPf b hb i).2
 have hm:=Lib.hid hm
 go_enter Tryz.func206,Tryz.ntmps206
 go_wp2
 refine wp_loop_rounds 9 ?_
 iterate 9 (rw[rounds_succ];go_wp2_with (first
  | (go_at_call 140;refine (QP _ _ (B8.lo (by assumption)) (B8.hi (by assumption)) _).mono ?_;rintro e w' ⟨rfl,rfl⟩)
  | (go_at_call 92;refine (QR _ _ _ (B8.lo (by repeat (first|exact B8.zero|apply B8.with))) (B8.hi (by repeat (first|exact B8.zero|apply B8.with))) _).mono ?_;rintro e w' ⟨rfl,rfl⟩)))
 go_ret2
 exact⟨by rw[←hm.out];rfl,rfl⟩
theorem QHr (k b f:Int)(hk:k=0∨k=2∨k=4∨k=6)(hb:B8 b)(hf:B8 f)(w:World) :
 Calls Tryz.prog 158 #[.int .i64 k,.int .u8 b,.int .u8 f] w fun e w'=>e=.returned (ze (shM k b f) (Zn k b) true)∧w=w':=by
 obtain rfl|rfl|rfl|rfl:=hk
 all_goals
  go_enter Tryz.func158,Tryz.ntmps158
  go_wp2_with (first
   | (go_at_call 140;refine (QP _ _ (B8.lo (by assumption)) (B8.hi (by assumption)) _).mono ?_;rintro e w' ⟨rfl,rfl⟩)
   | (go_at_call 206;refine (QI8 _ _ (by assumption) _).mono ?_;rintro e w' ⟨rfl,rfl⟩))
  go_ret3
  exact⟨rfl,rfl⟩
theorem QJt (k b f:Int)(hk:k=1∨k=3∨k=5∨k=7)(hb:B8 b)(hf:B8 f)(w:World) :
 Calls Tryz.prog 158 #[.int .i64 k,.int .u8 b,.int .u8 f] w fun e w'=>e=.returned (ze (shM k b f) (Zn k b) true)∧w=w':=by
 obtain rfl|rfl|rfl|rfl:=hk
 all_goals
  go_enter Tryz.func158,Tryz.ntmps158
  go_wp2_with (first
   | (go_at_call 140;refine (QP _ _ (B8.lo (by assumption)) (B8.hi (by assumption)) _).mono ?_;rintro e w' ⟨rfl,rfl⟩)
   | (go_at_call 206;refine (QH3 _ _ (by assumption) _).mono ?_;rintro e w' ⟨rfl,rfl⟩))
  go_ret3
  exact⟨rfl,rfl⟩
theorem QBF (k b f:Int)(h0:0≤k)(h1:k < 8)(hb:B8 b)(hf:B8 f)(w:World) :
 Calls Tryz.prog 158 #[.int .i64 k,.int .u8 b,.int .u8 f] w fun e w'=>e=.returned (ze (shM k b f) (Zn k b) true)∧w=w':=by
 by_cases h:k%2=0
 · exact QHr k b f (by omega) hb hf w
 · exact QJt k b f (by omega) hb hf w
theorem QFl (k b f:Int)(hk:k < 0∨8≤k)(hb:B8 b)(hf:B8 f)(w:World) :
 Calls Tryz.prog 158 #[.int .i64 k,.int .u8 b,.int .u8 f] w fun e w'=>e=.returned (ze b false false)∧w=w':=by
 have n0:(k==0)=false:=by simp;omega
 have n1:(k==1)=false:=by simp;omega
 have n2:(k==2)=false:=by simp;omega
 have n3:(k==3)=false:=by simp;omega
 have n4:(k==4)=false:=by simp;omega
 have n5:(k==5)=false:=by simp;omega
 have n6:(k==6)=false:=by simp;omega
 have n7:(k==7)=false:=by simp;omega
 clear hk
 go_enter Tryz.func158,Tryz.ntmps158
 go_wp2
 go_ret3
 exact⟨rfl,rfl⟩
theorem QId (k b f:Int)(hb:B8 b)(hf:B8 f)(w:World) :
 Calls Tryz.prog 105 #[.int .i64 k,.int .u8 b,.int .u8 f] w fun e w'=>e=.returned (two (doR k b f) (doF k b f))∧Below w.heap.size w w':=by
 have hB:=hb
 clear hb
 by_cases h:0≤k∧k < 8
 · have er:doR k b f=shM k b f:=if_pos h
   have ef:doF k b f=JO (Js (shM k b f)) 0 (Zn k b):=if_pos h
   rw[er,ef]
   have hs:=QAJ k b f hB
   obtain⟨h0,h1⟩:=h
   clear er ef
   have hm:=QBF k b f h0 h1 hB hf
   generalize shM k b f=R at hs hm ⊢
   generalize Zn k b=O at hm ⊢
   have he:=J4 R
   clear h0 h1
   go_enter Tryz.func105,Tryz.ntmps105
   go_wp2_with (first
    | (go_at_call 158;refine (hm _).mono ?_;rintro e w' ⟨rfl,rfl⟩)
    | (go_at_call 93;refine (Zb _ (B8.lo (by assumption)) (B8.hi (by assumption)) _).mono ?_;rintro e w' ⟨rfl,hb⟩;have hsz:=hb.size)
    | (go_at_call 92;refine (QR _ _ _ (B8.lo (by assumption)) (B8.hi (by assumption)) _).mono ?_;rintro e w' ⟨rfl,rfl⟩))
   go_ret2
   exact⟨rfl,(by repeat (first|exact Below.refl _ _|assumption|refine Jc ?_ (by assumption)|refine Below.drew ?_|refine Below.alloc ?_ (by first|(simp;done)|(simp;omega)|omega) _|refine Below.setCell ?_ (by first|(simp;done)|(simp;omega)|omega) _))⟩
 · have er:doR k b f=b:=if_neg h
   have ef:doF k b f=f:=if_neg h
   rw[er,ef]
   have hm:=QFl k b f (by omega) hB hf
   clear h er ef
   go_enter Tryz.func105,Tryz.ntmps105
   go_wp2_with (first
    | (go_at_call 158;refine (hm _).mono ?_;rintro e w' ⟨rfl,rfl⟩))
   go_ret2
   exact⟨rfl,(by repeat (first|exact Below.refl _ _|assumption|refine Jc ?_ (by assumption)|refine Below.drew ?_|refine Below.alloc ?_ (by first|(simp;done)|(simp;omega)|omega) _|refine Below.setCell ?_ (by first|(simp;done)|(simp;omega)|omega) _))⟩
theorem QOY (k b f:Int)(hb:B8 b)(hf:B8 f)(w:World) :
 Calls Tryz.prog 215 #[.int .i64 k,.int .u8 b,.int .u8 f] w fun e w'=>e=.returned (two (QCT k b f) (QCU k b f))∧Below w.heap.size w w':=by
 have hB:=hb
 clear hb
 by_cases h:0≤k∧k < 4
 · have er:QCT k b f=shM k b f:=if_pos h
   have ef:QCU k b f=Ze f (shM k b f) false false (Zn k b):=if_pos h
   rw[er,ef]
   have hs:=QAJ k b f hB
   obtain⟨h0,h1⟩:=h
   clear er ef
   have hm:=QBF k b f h0 (by omega) hB hf
   generalize shM k b f=R at hs hm ⊢
   generalize Zn k b=O at hm ⊢
   go_enter Tryz.func215,Tryz.ntmps215
   go_wp2_with (first
    | (go_at_call 158;refine (hm _).mono ?_;rintro e w' ⟨rfl,rfl⟩)
    | (go_at_call 142;refine (Qn _ (B8.lo (by assumption)) (B8.hi (by assumption)) _).mono ?_;rintro e w' ⟨rfl,hb⟩;have hsz:=hb.size)
    | (go_at_call 140;refine (QP _ _ (B8.lo (by assumption)) (B8.hi (by assumption)) _).mono ?_;rintro e w' ⟨rfl,rfl⟩)
    | (go_at_call 144;refine (QK _ _ _ _ _ _ _ _ _).mono ?_;rintro e w' ⟨rfl,hb⟩;have hsz:=hb.size))
   go_ret2
   exact⟨rfl,(by repeat (first|exact Below.refl _ _|assumption|refine Jc ?_ (by assumption)|refine Below.drew ?_|refine Below.alloc ?_ (by first|(simp;done)|(simp;omega)|omega) _|refine Below.setCell ?_ (by first|(simp;done)|(simp;omega)|omega) _))⟩
 · have er:QCT k b f=b:=if_neg h
   have ef:QCU k b f=f:=if_neg h
   rw[er,ef]
   clear er ef
   by_cases h8:0≤k∧k < 8
   · have hm:=QBF k b f h8.1 h8.2 hB hf
     have h3:3 < k:=by omega
     clear h h8
     go_enter Tryz.func215,Tryz.ntmps215
     go_wp2_with (first
      | (go_at_call 158;refine (hm _).mono ?_;rintro e w' ⟨rfl,rfl⟩))
     go_ret2
     exact⟨rfl,(by repeat (first|exact Below.refl _ _|assumption|refine Jc ?_ (by assumption)|refine Below.drew ?_|refine Below.alloc ?_ (by first|(simp;done)|(simp;omega)|omega) _|refine Below.setCell ?_ (by first|(simp;done)|(simp;omega)|omega) _))⟩
   · have hm:=QFl k b f (by omega) hB hf
     clear h h8
     go_enter Tryz.func215,Tryz.ntmps215
     go_wp2_with (first
      | (go_at_call 158;refine (hm _).mono ?_;rintro e w' ⟨rfl,rfl⟩))
     go_ret2
     exact⟨rfl,(by repeat (first|exact Below.refl _ _|assumption|refine Jc ?_ (by assumption)|refine Below.drew ?_|refine Below.alloc ?_ (by first|(simp;done)|(simp;omega)|omega) _|refine Below.setCell ?_ (by first|(simp;done)|(simp;omega)|omega) _))⟩
theorem QEz (right:Bool)(a b f:Int)(ha:B8 a)(hb:B8 b)(hf:B8 f)(w:World) :
 Calls Tryz.prog 157 #[.bool right,.int .u8 a,.int .u8 b,.int .u8 f] w fun e w'=>e=.returned (three (Z1 right a b) (QEP right a b) (qO (Z1 right a b) (isM f 0)))∧Below w.heap.size w w':=by
 have hB:=hb
 clear hb
 have a0:=ha.1
 have a1:=ha.2
 have b0:=hB.1
 have b1:=hB.2
 cases right
 · have hd:=Zj false a b ha hB
   have he:=J4 (Z1 false a b)
   go_enter Tryz.func157,Tryz.ntmps157
   go_wp2_with (first
    | (go_at_call 140;refine (QP _ _ (B8.lo (by assumption)) (B8.hi (by assumption)) _).mono ?_;rintro e w' ⟨rfl,rfl⟩)
    | (go_at_call 93;refine (Zb (Z1 false a b) (B8.lo (by assumption)) (B8.hi (by assumption)) _).mono ?_;rintro e w' ⟨rfl,hb⟩;have hsz:=hb.size)
    | (go_at_call 92;refine (QR _ _ _ (B8.lo (by assumption)) (B8.hi (by assumption)) _).mono ?_;rintro e w' ⟨rfl,rfl⟩))
   go_ret3
   exact⟨rfl,(by repeat (first|exact Below.refl _ _|assumption|refine Jc ?_ (by assumption)|refine Below.drew ?_|refine Below.alloc ?_ (by first|(simp;done)|(simp;omega)|omega) _|refine Below.setCell ?_ (by first|(simp;done)|(simp;omega)|omega) _))⟩
 · have hd:=Zj true a b ha hB
   have he:=J4 (Z1 true a b)
   go_enter Tryz.func157,Tryz.ntmps157
   go_wp2_with (first
    | (go_at_call 140;refine (QP _ _ (B8.lo (by assumption)) (B8.hi (by assumption)) _).mono ?_;rintro e w' ⟨rfl,rfl⟩)
    | (go_at_call 93;refine (Zb (Z1 true a b) (B8.lo (by assumption)) (B8.hi (by assumption)) _).mono ?_;rintro e w' ⟨rfl,hb⟩;have hsz:=hb.size)
    | (go_at_call 92;refine (QR _ _ _ (B8.lo (by assumption)) (B8.hi (by assumption)) _).mono ?_;rintro e w' ⟨rfl,rfl⟩))
   go_ret3
   exact⟨rfl,(by repeat (first|exact Below.refl _ _|assumption|refine Jc ?_ (by assumption)|refine Below.drew ?_|refine Below.alloc ?_ (by first|(simp;done)|(simp;omega)|omega) _|refine Below.setCell ?_ (by first|(simp;done)|(simp;omega)|omega) _))⟩
theorem QDj (n b lines f:Int)(hb:B8 b)(hl:B8 lines)(hf:B8 f)(w:World) :
 Calls Tryz.prog 106 #[.int .i64 n,.int .u8 b,.int .u8 lines,.int .u8 f] w fun e w'=>e=.returned (.int .u8 (QAm n b lines f))∧Below w.heap.size w w':=by
 have hB:=hb
 clear hb
 by_cases h7:n=7
 · subst h7
   go_enter Tryz.func106,Tryz.ntmps106
   go_wp2_with (first
    | (go_at_call 142;refine (Qn _ (B8.lo (by assumption)) (B8.hi (by assumption)) _).mono ?_;rintro e w' ⟨rfl,hb⟩;have hsz:=hb.size)
    | (go_at_call 140;refine (QP _ _ (B8.lo (by assumption)) (B8.hi (by assumption)) _).mono ?_;rintro e w' ⟨rfl,rfl⟩)
    | (go_at_call 144;refine (QK _ _ _ _ _ _ _ _ _).mono ?_;rintro e w' ⟨rfl,hb⟩;have hsz:=hb.size))
   go_ret
   exact⟨rfl,(by repeat (first|exact Below.refl _ _|assumption|refine Jc ?_ (by assumption)|refine Below.drew ?_|refine Below.alloc ?_ (by first|(simp;done)|(simp;omega)|omega) _|refine Below.setCell ?_ (by first|(simp;done)|(simp;omega)|omega) _))⟩
 · have n7:(n==7)=false:=by simpa using h7
   have e:QAm n b lines f=mkM false (!isM b n) (isM lines 5) true (isM lines 3) (!isM b n) false (isM f 0):=by unfold QAm;rw[n7];rfl
   rw[e]
   clear h7 e
   go_enter Tryz.func106,Tryz.ntmps106
   go_wp2_with (first
    | (go_at_call 142;refine (Qn _ (B8.lo (by assumption)) (B8.hi (by assumption)) _).mono ?_;rintro e w' ⟨rfl,hb⟩;have hsz:=hb.size)
    | (go_at_call 140;refine (QP _ _ (B8.lo (by assumption)) (B8.hi (by assumption)) _).mono ?_;rintro e w' ⟨rfl,rfl⟩)
    | (go_at_call 144;refine (QK _ _ _ _ _ _ _ _ _).mono ?_;rintro e w' ⟨rfl,hb⟩;have hsz:=hb.size))
   go_ret
   exact⟨rfl,(by repeat (first|exact Below.refl _ _|assumption|refine Jc ?_ (by assumption)|refine Below.drew ?_|refine Below.alloc ?_ (by first|(simp;done)|(simp;omega)|omega) _|refine Below.setCell ?_ (by first|(simp;done)|(simp;omega)|omega) _))⟩
end
end Go.Proofs.YtkgaeamdhhceiaaGreatDoor
