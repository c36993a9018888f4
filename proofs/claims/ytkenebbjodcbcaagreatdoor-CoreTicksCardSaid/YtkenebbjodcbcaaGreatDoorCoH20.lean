/- Contracts and facts that the claim's proof wants (several texts in one). -/
import Derived.Test.YtkenebbjodcbcaaGreatDoorCoH9
namespace Go.Proofs.YtkenebbjodcbcaaGreatDoor
open Go.RowKit
set_option linter.unusedVariables false
set_option linter.unusedSimpArgs false
set_option maxRecDepth 20000
set_option maxHeartbeats 20000000
theorem QM5 (g:Rg)(w:World) :
 Calls Tryz.prog 241 #[JH g] w fun e w'=>e=.returned (JH (QEp g))∧Below w.heap.size w w':=by
 go_enter Tryz.func241,Tryz.ntmps241
 refine JB<|qQ [] (Many.begin w) fun w hm=>qQ [0,2] hm fun w hm=>qQ [0,2] hm fun w hm=>qQ [0,2] hm fun w hm=>qQ [2,1] hm fun w hm=>JF<|eoC 1 (JJ (QEp g)).toList hm ⟨rfl,hm.touch.below⟩
theorem QO9 (g:Rg)(w:World) :
 Calls Tryz.prog 251 #[JH g] w fun e w'=>e=.returned (JH (QKR g))∧Below w.heap.size w w':=by
 go_enter Tryz.func251,Tryz.ntmps251
 refine JB<|qQ [] (Many.begin w) fun w hm=>qQ [0,2] hm fun w hm=>qQ [0,2] hm fun w hm=>qQ [0,2] hm fun w hm=>qQ [0,2] hm fun w hm=>qQ [0,2] hm fun w hm=>qQ [0,2] hm fun w hm=>qQ [0,2] hm fun w hm=>qQ [2,1] hm fun w hm=>JF<|eoC 1 (JJ (QKR g)).toList hm ⟨rfl,hm.touch.below⟩
section
attribute [local go_sem ↓] QE6 QEx QEf QEi QEX QD7 QFI QE4
theorem QIM (c:Bool)(w:World) :
 Calls Tryz.prog 238 #[.bool c] w fun e w'=>e=.returned (.int .i64 (one c))∧w=w':=by
 cases c
 all_goals
  go_enter Tryz.func238,Tryz.ntmps238
  go_wp2
  go_ret
  exact⟨rfl,rfl⟩
theorem QHz (n:Int)(w:World) :
 Calls Tryz.prog 239 #[.int .i64 n] w fun e w'=>e=.returned (.bool (QAO n))∧w=w':=by
 by_cases h:n < -128
 · go_enter Tryz.func239,Tryz.ntmps239
   go_wp2
   go_ret
   exact⟨Qn (by unfold QAO;rw[decide_eq_true h];rfl),rfl⟩
 · go_enter Tryz.func239,Tryz.ntmps239
   go_wp2
   go_ret
   exact⟨Qn (by unfold QAO;rw[decide_eq_false (show ¬n < -128 by omega)];rfl),rfl⟩
theorem zv (r:Int):isM (JE r) 7=isM r 7∧isM (JE r) 6=(r==0)∧isM (JE r) 5=isM r 5∧isM (JE r) 4=false∧isM (JE r) 3=isM r 3∧isM (JE r) 2=false∧isM (JE r) 1=false∧isM (JE r) 0=false:=Xv _ _ _ _ _ _ _ _
theorem signed_bounds (a:Int)(h0:0≤a)(h1:a≤255):-128≤JR a∧JR a≤127:=by unfold JR;split<;>omega
theorem QEh (a b:Int)(c:Bool)(ha:B8 a)(hb:B8 b)(w:World) :
 Calls Tryz.prog 176 #[.int .u8 a,.int .u8 b,.bool c] w fun e w'=>e=.returned (two (XJ a b c) (XI a b c))∧Below w.heap.size w w':=by
 have a0:=ha.1
 have a1:=ha.2
 have b0:=hb.1
 have b1:=hb.2
 have hr:=Lib.hid (QO a b c)
 have ho:=Qq c
 have hq:=Lib.hid (J7 (XJ a b c))
 have s1:=signed_bounds a a0 a1
 have s2:=signed_bounds b b0 b1
 clear ha hb
 go_enter Tryz.func176,Tryz.ntmps176
 go_wp2_with (first
  | (go_at_call 238;refine (QIM _ _).mono ?_;rintro e w' ⟨rfl,rfl⟩)
  | (go_at_call 167;refine (jp _ (by omega) (by omega) _).mono ?_;rintro e w' ⟨rfl,hb⟩;have hsz:=hb.size)
  | (go_at_call 153;refine (Qc _ hq.out.1 hq.out.2 _).mono ?_;rintro e w' ⟨rfl,hb⟩;have hsz:=hb.size)
  | (go_at_call 120;refine (QAQ _ (by omega) (by omega) _).mono ?_;rintro e w' ⟨rfl,rfl⟩)
  | (go_at_call 239;refine (QHz _ _).mono ?_;rintro e w' ⟨rfl,rfl⟩)
  | (go_at_call 155;refine (QD _ _ _ _ _ _ _ _ _).mono ?_;rintro e w' ⟨rfl,hb⟩;have hsz:=hb.size))
 go_ret2
 obtain⟨e0,e1,e2,e3,e4,e5,e6,e7⟩:=zv (XJ a b c)
 rw[e0,e1,e2,e4,e6]
 exact⟨rfl,(by repeat (first|exact Below.refl _ _|assumption|refine JZ ?_ (by assumption)|refine Below.drew ?_|refine Below.alloc ?_ (by first|(simp;done)|(simp;omega)|omega) _|refine Below.setCell ?_ (by first|(simp;done)|(simp;omega)|omega) _))⟩
theorem zT (a b:Int)(c:Bool)(ha:B8 a)(hb:B8 b)(w:World) :
 Calls Tryz.prog 165 #[.int .u8 a,.int .u8 b,.bool c] w fun e w'=>e=.returned (two (QQ a b c) (QE a b c))∧Below w.heap.size w w':=by
 have a0:=ha.1
 have a1:=ha.2
 have b0:=hb.1
 have b1:=hb.2
 have hr:=Lib.hid (J5 a b c)
 have ho:=Qq c
 have hq:=Lib.hid (J7 (QQ a b c))
 have s1:=signed_bounds a a0 a1
 have s2:=signed_bounds b b0 b1
 have hs:(a-b-one c+512)%256=QQ a b c:=by unfold QQ;omega
 clear ha hb
 go_enter Tryz.func165,Tryz.ntmps165
 go_wp2_with (first
  | (go_at_call 238;refine (QIM _ _).mono ?_;rintro e w' ⟨rfl,rfl⟩)
  | (go_at_call 167;refine (jp _ hr.out.1 hr.out.2 _).mono ?_;rintro e w' ⟨rfl,hb⟩;have hsz:=hb.size)
  | (go_at_call 153;refine (Qc _ hq.out.1 hq.out.2 _).mono ?_;rintro e w' ⟨rfl,hb⟩;have hsz:=hb.size)
  | (go_at_call 120;refine (QAQ _ (by omega) (by omega) _).mono ?_;rintro e w' ⟨rfl,rfl⟩)
  | (go_at_call 239;refine (QHz _ _).mono ?_;rintro e w' ⟨rfl,rfl⟩)
  | (go_at_call 155;refine (QD _ _ _ _ _ _ _ _ _).mono ?_;rintro e w' ⟨rfl,hb⟩;have hsz:=hb.size))
 go_ret2
 obtain⟨e0,e1,e2,e3,e4,e5,e6,e7⟩:=zv (QQ a b c)
 rw[e0,e1,e2,e4]
 exact⟨rfl,(by repeat (first|exact Below.refl _ _|assumption|refine JZ ?_ (by assumption)|refine Below.drew ?_|refine Below.alloc ?_ (by first|(simp;done)|(simp;omega)|omega) _|refine Below.setCell ?_ (by first|(simp;done)|(simp;omega)|omega) _))⟩
theorem QNa (a b:Int)(ha:B8 a)(hb:B8 b)(w:World) :
 Calls Tryz.prog 180 #[.int .u8 a,.int .u8 b] w fun e w'=>e=.returned (.int .u8 (QDa a b))∧Below w.heap.size w w':=by
 have hf:=Lib.hid (J9 a b false)
 have ha:=Lib.hid ha
 have hB:=Lib.hid hb
 clear hb
 go_enter Tryz.func180,Tryz.ntmps180
 go_wp2_with (first
  | (go_at_call 165;refine (zT _ _ _ ha.out hB.out _).mono ?_;rintro e w' ⟨rfl,hb⟩;have hsz:=hb.size)
  | (go_at_call 153;refine (Qc _ hf.out.1 hf.out.2 _).mono ?_;rintro e w' ⟨rfl,hb⟩;have hsz:=hb.size)
  | (go_at_call 151;refine (QI _ _ hB.out.1 hB.out.2 _).mono ?_;rintro e w' ⟨rfl,rfl⟩)
  | (go_at_call 155;refine (QD _ _ _ _ _ _ _ _ _).mono ?_;rintro e w' ⟨rfl,hb⟩;have hsz:=hb.size))
 go_ret
 obtain⟨e0,e1,e2,e3,e4,e5,e6,e7⟩:isM (QE a b false) 7=_∧isM (QE a b false) 6=_∧isM (QE a b false) 5=_∧isM (QE a b false) 4=_∧isM (QE a b false) 3=_∧isM (QE a b false) 2=_∧isM (QE a b false) 1=_∧isM (QE a b false) 0=_:=Xv _ _ _ _ _ _ _ _
 rw[e0,e1,e3,e5,e6,e7]
 exact⟨rfl,(by repeat (first|exact Below.refl _ _|assumption|refine JZ ?_ (by assumption)|refine Below.drew ?_|refine Below.alloc ?_ (by first|(simp;done)|(simp;omega)|omega) _|refine Below.setCell ?_ (by first|(simp;done)|(simp;omega)|omega) _))⟩
theorem QIu (a f:Int)(ha:B8 a)(hf:B8 f)(w:World) :
 Calls Tryz.prog 243 #[.int .u8 a,.int .u8 f] w fun e w'=>e=.returned (two (XJ a 1 false) (QDc a f))∧Below w.heap.size w w':=by
 have hg:=Lib.hid (Qw a 1 false)
 have ha:=Lib.hid ha
 have hf:=Lib.hid hf
 go_enter Tryz.func243,Tryz.ntmps243
 go_wp2_with (first
  | (go_at_call 176;refine (QEh _ _ _ ha.out ⟨by omega,by omega⟩ _).mono ?_;rintro e w' ⟨rfl,hb⟩;have hsz:=hb.size)
  | (go_at_call 153;refine (Qc _ hg.out.1 hg.out.2 _).mono ?_;rintro e w' ⟨rfl,hb⟩;have hsz:=hb.size)
  | (go_at_call 151;refine (QI _ _ hf.out.1 hf.out.2 _).mono ?_;rintro e w' ⟨rfl,rfl⟩)
  | (go_at_call 155;refine (QD _ _ _ _ _ _ _ _ _).mono ?_;rintro e w' ⟨rfl,hb⟩;have hsz:=hb.size))
 go_ret2
 obtain⟨e0,e1,e2,e3,e4,e5,e6,e7⟩:isM (XI a 1 false) 7=_∧isM (XI a 1 false) 6=_∧isM (XI a 1 false) 5=_∧isM (XI a 1 false) 4=_∧isM (XI a 1 false) 3=_∧isM (XI a 1 false) 2=_∧isM (XI a 1 false) 1=_∧isM (XI a 1 false) 0=_:=Xv _ _ _ _ _ _ _ _
 rw[e0,e1,e2,e3,e4,e5,e6]
 exact⟨rfl,(by repeat (first|exact Below.refl _ _|assumption|refine JZ ?_ (by assumption)|refine Below.drew ?_|refine Below.alloc ?_ (by first|(simp;done)|(simp;omega)|omega) _|refine Below.setCell ?_ (by first|(simp;done)|(simp;omega)|omega) _))⟩
theorem QIA (a f:Int)(ha:B8 a)(hf:B8 f)(w:World) :
 Calls Tryz.prog 244 #[.int .u8 a,.int .u8 f] w fun e w'=>e=.returned (two (QQ a 1 false) (QDW a f))∧Below w.heap.size w w':=by
 have hg:=Lib.hid (J9 a 1 false)
 have ha:=Lib.hid ha
 have hf:=Lib.hid hf
 go_enter Tryz.func244,Tryz.ntmps244
 go_wp2_with (first
  | (go_at_call 165;refine (zT _ _ _ ha.out ⟨by omega,by omega⟩ _).mono ?_;rintro e w' ⟨rfl,hb⟩;have hsz:=hb.size)
  | (go_at_call 153;refine (Qc _ hg.out.1 hg.out.2 _).mono ?_;rintro e w' ⟨rfl,hb⟩;have hsz:=hb.size)
  | (go_at_call 151;refine (QI _ _ hf.out.1 hf.out.2 _).mono ?_;rintro e w' ⟨rfl,rfl⟩)
  | (go_at_call 155;refine (QD _ _ _ _ _ _ _ _ _).mono ?_;rintro e w' ⟨rfl,hb⟩;have hsz:=hb.size))
 go_ret2
 obtain⟨e0,e1,e2,e3,e4,e5,e6,e7⟩:isM (QE a 1 false) 7=_∧isM (QE a 1 false) 6=_∧isM (QE a 1 false) 5=_∧isM (QE a 1 false) 4=_∧isM (QE a 1 false) 3=_∧isM (QE a 1 false) 2=_∧isM (QE a 1 false) 1=_∧isM (QE a 1 false) 0=_:=Xv _ _ _ _ _ _ _ _
 rw[e0,e1,e2,e3,e4,e5,e6]
 exact⟨rfl,(by repeat (first|exact Below.refl _ _|assumption|refine JZ ?_ (by assumption)|refine Below.drew ?_|refine Below.alloc ?_ (by first|(simp;done)|(simp;omega)|omega) _|refine Below.setCell ?_ (by first|(simp;done)|(simp;omega)|omega) _))⟩
theorem QNP (a:Int)(ha:B8 a)(w:World) :
 Calls Tryz.prog 113 #[.int .u8 a] w fun e w'=>e=.returned (two (QQ 0 a false) (QE 0 a false))∧Below w.heap.size w w':=by
 have ha:=Lib.hid ha
 go_enter Tryz.func113,Tryz.ntmps113
 go_wp2_with (first
  | (go_at_call 165;refine (zT _ _ _ ⟨by omega,by omega⟩ ha.out _).mono ?_;rintro e w' ⟨rfl,hb⟩;have hsz:=hb.size))
 go_ret2
 exact⟨rfl,(by repeat (first|exact Below.refl _ _|assumption|refine JZ ?_ (by assumption)|refine Below.drew ?_|refine Below.alloc ?_ (by first|(simp;done)|(simp;omega)|omega) _|refine Below.setCell ?_ (by first|(simp;done)|(simp;omega)|omega) _))⟩
end
section
attribute [local go_sem ↓] QE6 QEx QEf QEi QEX QD7 QFI QE4
theorem QBg (x:Int)(hx:W16 x)(w:World) :
 Calls Tryz.prog 161 #[.int .u16 x] w fun e w'=>e=.returned (.int .i64 (Qx x))∧w=w':=by
 have x0:=hx.1
 have x1:=hx.2
 by_cases h:x < 32768
 · have e:Qx x=x:=if_pos h
   rw[e];clear e
   go_enter Tryz.func161,Tryz.ntmps161
   go_wp2
   go_ret
   exact⟨rfl,rfl⟩
 · have e:Qx x=x-65536:=if_neg h
   rw[e];clear e
   go_enter Tryz.func161,Tryz.ntmps161
   go_wp2
   go_ret
   exact⟨rfl,rfl⟩
theorem QDJ (f:Int)(hf:B8 f)(w:World) :
 Calls Tryz.prog 160 #[.int .u8 f] w fun e w'=>e=.returned (.int .i64 (one (isM f 0)))∧w=w':=by
 cases h:isM f 0
 all_goals
  go_enter Tryz.func160,Tryz.ntmps160
  go_wp2_with (go_at_call 151;refine (QI _ _ (B8.lo (by assumption)) (B8.hi (by assumption)) _).mono ?_;rintro e w' ⟨rfl,rfl⟩)
  go_ret
  exact⟨rfl,rfl⟩
theorem QFH (b0 b1 b2 b3 b4 b5 b6 b7:Bool)(r:Int)(hr:W16 r)(w:World) :
 Calls Tryz.prog 237 #[v8 b0 b1 b2 b3 b4 b5 b6 b7,.int .u16 r] w fun e w'=>e=.returned (v8 b0 b1 (isM (r / 256) 5) b3 (isM (r / 256) 3) b5 b6 b7)∧Below w.heap.size w w':=by
 have hh:=hr.high
 go_enter Tryz.func237,Tryz.ntmps237
 go_wp2_with (first
  | (go_at_call 68;refine (Xd _ (W16.lo (by assumption)) (W16.hi (by assumption)) _).mono ?_;rintro e w' ⟨rfl,rfl⟩)
  | (go_at_call 151;refine (QI _ _ (B8.lo (by assumption)) (B8.hi (by assumption)) _).mono ?_;rintro e w' ⟨rfl,rfl⟩))
 refine bodyPost_ret (v:=v8 b0 b1 (isM (r / 256) 5) b3 (isM (r / 256) 3) b5 b6 b7) (by simp[results,Tryz.f237,go_sem]) rfl ?_
 exact⟨rfl,(by repeat (first|exact Below.refl _ _|assumption|refine JZ ?_ (by assumption)|refine Below.drew ?_|refine Below.alloc ?_ (by first|(simp;done)|(simp;omega)|omega) _|refine Below.setCell ?_ (by first|(simp;done)|(simp;omega)|omega) _))⟩
theorem QBz (r:Int)(half over out minus:Bool)(hr:W16 r)(w:World) :
 Calls Tryz.prog 162 #[.int .u16 r,.bool half,.bool over,.bool out,.bool minus] w fun e w'=>e=.returned (.int .u8 (QGJ r half over minus out))∧Below w.heap.size w w':=by
 have hh:=hr.high
 go_enter Tryz.func162,Tryz.ntmps162
 go_wp2_with (first
  | (go_at_call 68;refine (Xd _ (W16.lo (by assumption)) (W16.hi (by assumption)) _).mono ?_;rintro e w' ⟨rfl,rfl⟩)
  | (go_at_call 151;refine (QI _ _ (B8.lo (by assumption)) (B8.hi (by assumption)) _).mono ?_;rintro e w' ⟨rfl,rfl⟩)
  | (go_at_call 237;refine (QFH _ _ _ _ _ _ _ _ _ (by assumption) _).mono ?_;rintro e w' ⟨rfl,hb⟩;have hsz:=hb.size)
  | (go_at_call 155;refine (QD _ _ _ _ _ _ _ _ _).mono ?_;rintro e w' ⟨rfl,hb⟩;have hsz:=hb.size))
 go_ret
 exact⟨rfl,(by repeat (first|exact Below.refl _ _|assumption|refine JZ ?_ (by assumption)|refine Below.drew ?_|refine Below.alloc ?_ (by first|(simp;done)|(simp;omega)|omega) _|refine Below.setCell ?_ (by first|(simp;done)|(simp;omega)|omega) _))⟩
theorem QLz (a b f:Int)(ha:W16 a)(hb:W16 b)(hf:B8 f)(w:World) :
 Calls Tryz.prog 171 #[.int .u16 a,.int .u16 b,.int .u8 f] w fun e w'=>e=.returned (QI3 (X0 a b false) (QBv a b f))∧Below w.heap.size w w':=by
 have a0:=ha.1
 have a1:=ha.2
 have b0:=hb.1
 have b1:=hb.2
 have hr:=QGS a b false
 have hs:(a+b)%65536=X0 a b false:=by unfold X0 one;simp
 clear ha hb
 go_enter Tryz.func171,Tryz.ntmps171
 go_wp2_with (first
  | (go_at_call 153;refine (Qc _ (B8.lo (by assumption)) (B8.hi (by assumption)) _).mono ?_;rintro e w' ⟨rfl,hb⟩;have hsz:=hb.size)
  | (go_at_call 237;refine (QFH _ _ _ _ _ _ _ _ _ (by assumption) _).mono ?_;rintro e w' ⟨rfl,hb⟩;have hsz:=hb.size)
  | (go_at_call 155;refine (QD _ _ _ _ _ _ _ _ _).mono ?_;rintro e w' ⟨rfl,hb⟩;have hsz:=hb.size))
 go_ret2
 exact⟨rfl,(by repeat (first|exact Below.refl _ _|assumption|refine JZ ?_ (by assumption)|refine Below.drew ?_|refine Below.alloc ?_ (by first|(simp;done)|(simp;omega)|omega) _|refine Below.setCell ?_ (by first|(simp;done)|(simp;omega)|omega) _))⟩
theorem jB (a:Int)(h0:0≤a)(h1:a≤65535):-32768≤Qx a∧Qx a≤32767:=by unfold Qx;split<;>omega
theorem QM7 (a b f:Int)(ha:W16 a)(hb:W16 b)(hf:B8 f)(w:World) :
 Calls Tryz.prog 111 #[.int .u16 a,.int .u16 b,.int .u8 f] w fun e w'=>e=.returned (QI3 (X0 a b (isM f 0)) (zZ a b (isM f 0)))∧Below w.heap.size w w':=by
 have hB:=hb
 clear hb
 have a0:=ha.1
 have a1:=ha.2
 have b0:=hB.1
 have b1:=hB.2
 have ho:=Qq (isM f 0)
 have s1:=jB a a0 a1
 have s2:=jB b b0 b1
 have hr:=QGS a b (isM f 0)
 have hs:(a+b+one (isM f 0))%65536=X0 a b (isM f 0):=rfl
 cases hv:decide (Qx a+Qx b+one (isM f 0) < -32768)
 all_goals
  have hv0:=Lib.hid hv
  simp at hv
  go_enter Tryz.func111,Tryz.ntmps111
  go_wp2_with (first
   | (go_at_call 160;refine (QDJ _ (by assumption) _).mono ?_;rintro e w' ⟨rfl,rfl⟩)
   | (go_at_call 161;refine (QBg _ (by assumption) _).mono ?_;rintro e w' ⟨rfl,rfl⟩)
   | (go_at_call 162;refine (QBz _ _ _ _ _ (by assumption) _).mono ?_;rintro e w' ⟨rfl,hb⟩;have hsz:=hb.size))
  go_ret2
  refine⟨?_,(by repeat (first|exact Below.refl _ _|assumption|refine JZ ?_ (by assumption)|refine Below.drew ?_|refine Below.alloc ?_ (by first|(simp;done)|(simp;omega)|omega) _|refine Below.setCell ?_ (by first|(simp;done)|(simp;omega)|omega) _))⟩
  unfold zZ QH2
  rw[hv0.out]
  rfl
theorem QMl (a b f:Int)(ha:W16 a)(hb:W16 b)(hf:B8 f)(w:World) :
 Calls Tryz.prog 108 #[.int .u16 a,.int .u16 b,.int .u8 f] w fun e w'=>e=.returned (QI3 (jr a b (isM f 0)) (QAB a b (isM f 0)))∧Below w.heap.size w w':=by
 have hB:=hb
 clear hb
 have a0:=ha.1
 have a1:=ha.2
 have b0:=hB.1
 have b1:=hB.2
 have ho:=Qq (isM f 0)
 have s1:=jB a a0 a1
 have s2:=jB b b0 b1
 have hr:=QMe a b (isM f 0)
 have hs:(a-b-one (isM f 0)+131072)%65536=jr a b (isM f 0):=by unfold jr;omega
 cases hv:decide (Qx a-Qx b-one (isM f 0) < -32768)
 all_goals
  have hv0:=Lib.hid hv
  simp at hv
  go_enter Tryz.func108,Tryz.ntmps108
  go_wp2_with (first
   | (go_at_call 160;refine (QDJ _ (by assumption) _).mono ?_;rintro e w' ⟨rfl,rfl⟩)
   | (go_at_call 161;refine (QBg _ (by assumption) _).mono ?_;rintro e w' ⟨rfl,rfl⟩)
   | (go_at_call 162;refine (QBz _ _ _ _ _ (by assumption) _).mono ?_;rintro e w' ⟨rfl,hb⟩;have hsz:=hb.size))
  go_ret2
  refine⟨?_,(by repeat (first|exact Below.refl _ _|assumption|refine JZ ?_ (by assumption)|refine Below.drew ?_|refine Below.alloc ?_ (by first|(simp;done)|(simp;omega)|omega) _|refine Below.setCell ?_ (by first|(simp;done)|(simp;omega)|omega) _))⟩
  unfold QAB QH2
  rw[hv0.out]
  rfl
theorem QOh (y:Int):-65535≤y.tmod 65536∧y.tmod 65536≤65535∧(y.tmod 65536)%65536=y%65536:=by
 rcases Int.le_total 0 y with h|h
 · rw[Int.tmod_eq_emod_of_nonneg h];omega
 · obtain⟨z,rfl⟩:∃ z,y=-z:=⟨-y,by omega⟩
   rw[Int.neg_tmod,Int.tmod_eq_emod_of_nonneg (by omega)];omega
theorem QN (x y:Int)(hx:W16 x)(w:World) :
 Calls Tryz.prog 119 #[.int .u16 x,.int .i64 y] w fun e w'=>e=.returned (.int .u16 (JA x y))∧w=w':=by
 have x0:=hx.1
 have x1:=hx.2
 obtain⟨t0,t1,t2⟩:=QOh y
 obtain⟨u0,u1,u2⟩:=QOh (x+y.tmod 65536)
 have T2:=Lib.hid t2
 have U2:=Lib.hid u2
 clear t2 u2
 go_enter Tryz.func119,Tryz.ntmps119
 go_wp2
 go_ret
 exact⟨Qf (by rw[U2.out];have:=T2.out;unfold JA;omega),rfl⟩
theorem za (x y:Int)(hx:W16 x)(hy:B8 y)(w:World) :
 Calls Tryz.prog 85 #[.int .u16 x,.int .u8 y] w fun e w'=>e=.returned (.int .u16 (JA x (JR y)))∧w=w':=by
 go_enter Tryz.func85,Tryz.ntmps85
 go_wp2_with (first
  | (go_at_call 120;refine (QAQ _ (B8.lo (by assumption)) (B8.hi (by assumption)) _).mono ?_;rintro e w' ⟨rfl,rfl⟩)
  | (go_at_call 119;refine (QN _ _ (by assumption) _).mono ?_;rintro e w' ⟨rfl,rfl⟩))
 go_ret
 exact⟨rfl,rfl⟩
end
section
theorem QNg (w' w:World)(b0 b1 b2 b3 b4 b5 b6 b7:Bool)(t:TypeId)(hb:Below (w.alloc (.cells #[.bool b0,.bool b1,.bool b2,.bool b3,.bool b4,.bool b5,.bool b6,.bool b7] t)).heap.size (w.alloc (.cells #[.bool b0,.bool b1,.bool b2,.bool b3,.bool b4,.bool b5,.bool b6,.bool b7] t)) w') :
 ArrIs w' w.heap.size 8 (fun j=>.bool ([b0,b1,b2,b3,b4,b5,b6,b7].getD j false)) :=
 (ArrIs.new w _ t 0 0 _ 8 (.inr rfl) (fun j hj=>QNM (fun j=>(#[Value.bool b0,.bool b1,.bool b2,.bool b3,.bool b4,.bool b5,.bool b6,.bool b7]:Array Value)[j]? = some (.bool ([b0,b1,b2,b3,b4,b5,b6,b7].getD j false))) ⟨rfl,rfl,rfl,rfl,rfl,rfl,rfl,rfl⟩ j hj)).kept hb
attribute [local go_sem ↓] QE6 QEx QEf QEi QEX QD7 QFI QE4
def XM (op:Bool→Bool→Bool)(a b:Int):Nat→Int
 | 0=>0
 | k+1=>JQ (XM op a b k) k (op (isM a k) (isM b k))
theorem Z8 (op:Bool→Bool→Bool)(a b:Int):∀ k,B8 (XM op a b k)
 | 0=>B8.zero
 | k+1=>(Z8 op a b k).with _ _
theorem qw (op:Bool→Bool→Bool)(a b:Int):XM op a b 8=QCr op a b:=QIK _ _ _ _ _ _ _ _
theorem QFV (a b:Int)(ha:B8 a)(hB:B8 b)(w:World) :
 Calls Tryz.prog 250 #[.int .i64 0,.int .u8 a,.int .u8 b] w fun e w'=>e=.returned (.int .u8 (qX a b))∧w=w':=by
 go_enter Tryz.func250,Tryz.ntmps250
 go_wp2
 go_loop [7,8] (fun r i=>∃ k:Nat,k≤8∧i=.int .i64 k∧r=.int .u8 (XM QJm a b k)) (fun _ i=>8-(intOf i).toNat)
 case atStart=>exact⟨0,by omega,rfl,rfl⟩
 case round =>
  obtain⟨k,hk,rfl,rfl⟩:=hrel
  have hm:=Z8 QJm a b k
  by_cases hlt:k < 8
  · have HS:=Lib.hid (show XM QJm a b (k+1)=JQ (XM QJm a b k) k (QJm (isM a k) (isM b k)) from rfl)
    cases c:isM a k<;>cases d:isM b k
    all_goals
     rw[c,d] at HS
     go_wp2_with (first
      | (go_at_call 151;refine (QI _ _ (B8.lo (by assumption)) (B8.hi (by assumption)) _).mono ?_;rintro e w' ⟨rfl,rfl⟩)
      | (go_at_call 103;refine (QL _ _ _ (B8.lo (by assumption)) (B8.hi (by assumption)) _).mono ?_;rintro e w' ⟨rfl,rfl⟩))
     go_round
     case rel=>exact⟨k+1,by omega,by go_num,by rw[HS.out];rfl⟩
     case measure=>simp[intOf];omega
  · obtain rfl:k=8:=by omega
    go_wp2
    go_ret
    exact⟨Qf (qw _ _ _),rfl⟩
theorem QFj (a b:Int)(ha:B8 a)(hB:B8 b)(w:World) :
 Calls Tryz.prog 250 #[.int .i64 1,.int .u8 a,.int .u8 b] w fun e w'=>e=.returned (.int .u8 (orR a b))∧w=w':=by
 go_enter Tryz.func250,Tryz.ntmps250
 go_wp2
 go_loop [7,8] (fun r i=>∃ k:Nat,k≤8∧i=.int .i64 k∧r=.int .u8 (XM orB a b k)) (fun _ i=>8-(intOf i).toNat)
 case atStart=>exact⟨0,by omega,rfl,rfl⟩
 case round =>
  obtain⟨k,hk,rfl,rfl⟩:=hrel
  have hm:=Z8 orB a b k
  by_cases hlt:k < 8
  · have HS:=Lib.hid (show XM orB a b (k+1)=JQ (XM orB a b k) k (orB (isM a k) (isM b k)) from rfl)
    cases c:isM a k<;>cases d:isM b k
    all_goals
     rw[c,d] at HS
     go_wp2_with (first
      | (go_at_call 151;refine (QI _ _ (B8.lo (by assumption)) (B8.hi (by assumption)) _).mono ?_;rintro e w' ⟨rfl,rfl⟩)
      | (go_at_call 103;refine (QL _ _ _ (B8.lo (by assumption)) (B8.hi (by assumption)) _).mono ?_;rintro e w' ⟨rfl,rfl⟩))
     go_round
     case rel=>exact⟨k+1,by omega,by go_num,by rw[HS.out];rfl⟩
     case measure=>simp[intOf];omega
  · obtain rfl:k=8:=by omega
    go_wp2
    go_ret
    exact⟨Qf (qw _ _ _),rfl⟩
theorem QFT (a b:Int)(ha:B8 a)(hB:B8 b)(w:World) :
 Calls Tryz.prog 250 #[.int .i64 2,.int .u8 a,.int .u8 b] w fun e w'=>e=.returned (.int .u8 (Zf a b))∧w=w':=by
 go_enter Tryz.func250,Tryz.ntmps250
 go_wp2
 go_loop [7,8] (fun r i=>∃ k:Nat,k≤8∧i=.int .i64 k∧r=.int .u8 (XM QFm a b k)) (fun _ i=>8-(intOf i).toNat)
 case atStart=>exact⟨0,by omega,rfl,rfl⟩
 case round =>
  obtain⟨k,hk,rfl,rfl⟩:=hrel
  have hm:=Z8 QFm a b k
  by_cases hlt:k < 8
  · have HS:=Lib.hid (show XM QFm a b (k+1)=JQ (XM QFm a b k) k (QFm (isM a k) (isM b k)) from rfl)
    cases c:isM a k<;>cases d:isM b k
    all_goals
     rw[c,d] at HS
     go_wp2_with (first
      | (go_at_call 151;refine (QI _ _ (B8.lo (by assumption)) (B8.hi (by assumption)) _).mono ?_;rintro e w' ⟨rfl,rfl⟩)
      | (go_at_call 103;refine (QL _ _ _ (B8.lo (by assumption)) (B8.hi (by assumption)) _).mono ?_;rintro e w' ⟨rfl,rfl⟩))
     go_round
     case rel=>exact⟨k+1,by omega,by go_num,by rw[HS.out];rfl⟩
     case measure=>simp[intOf];omega
  · obtain rfl:k=8:=by omega
    go_wp2
    go_ret
    exact⟨Qf (qw _ _ _),rfl⟩
theorem QOm (a b:Int)(ha:B8 a)(hB:B8 b)(w:World) :
 Calls Tryz.prog 177 #[.int .u8 a,.int .u8 b] w fun e w'=>e=.returned (two (qX a b) (qO (qX a b)))∧Below w.heap.size w w':=by
 have hr:B8 (qX a b):=J3 ..
 have he:=Jz (qX a b)
 have hm:=Lib.hid (QJe _ hr)
 go_enter Tryz.func177,Tryz.ntmps177
 go_wp2_with (first
  | (go_at_call 250;refine (QFV _ _ (by assumption) (by assumption) _).mono ?_;rintro e w' ⟨rfl,rfl⟩)
  | (go_at_call 103;refine (QL _ _ _ (B8.lo (by assumption)) (B8.hi (by assumption)) _).mono ?_;rintro e w' ⟨rfl,rfl⟩)
  | (go_at_call 104;refine (X3 _ (B8.lo (by assumption)) (B8.hi (by assumption)) _).mono ?_;rintro e w' ⟨rfl,hb⟩;have hsz:=hb.size))
 go_ret2
 exact⟨by rw[←hm.out];rfl,(by repeat (first|exact Below.refl _ _|assumption|refine JZ ?_ (by assumption)|refine Below.drew ?_|refine Below.alloc ?_ (by first|(simp;done)|(simp;omega)|omega) _|refine Below.setCell ?_ (by first|(simp;done)|(simp;omega)|omega) _))⟩
theorem QRR (a b:Int)(ha:B8 a)(hB:B8 b)(w:World) :
 Calls Tryz.prog 179 #[.int .u8 a,.int .u8 b] w fun e w'=>e=.returned (two (orR a b) (Jn (orR a b)))∧Below w.heap.size w w':=by
 have hr:B8 (orR a b):=J3 ..
 have he:=Jz (orR a b)
 go_enter Tryz.func179,Tryz.ntmps179
 go_wp2_with (first
  | (go_at_call 250;refine (QFj _ _ (by assumption) (by assumption) _).mono ?_;rintro e w' ⟨rfl,rfl⟩)
  | (go_at_call 103;refine (QL _ _ _ (B8.lo (by assumption)) (B8.hi (by assumption)) _).mono ?_;rintro e w' ⟨rfl,rfl⟩)
  | (go_at_call 104;refine (X3 _ (B8.lo (by assumption)) (B8.hi (by assumption)) _).mono ?_;rintro e w' ⟨rfl,hb⟩;have hsz:=hb.size))
 go_ret2
 exact⟨rfl,(by repeat (first|exact Below.refl _ _|assumption|refine JZ ?_ (by assumption)|refine Below.drew ?_|refine Below.alloc ?_ (by first|(simp;done)|(simp;omega)|omega) _|refine Below.setCell ?_ (by first|(simp;done)|(simp;omega)|omega) _))⟩
theorem QPg (a b:Int)(ha:B8 a)(hB:B8 b)(w:World) :
 Calls Tryz.prog 178 #[.int .u8 a,.int .u8 b] w fun e w'=>e=.returned (two (Zf a b) (Jn (Zf a b)))∧Below w.heap.size w w':=by
 have hr:B8 (Zf a b):=J3 ..
 have he:=Jz (Zf a b)
 go_enter Tryz.func178,Tryz.ntmps178
 go_wp2_with (first
  | (go_at_call 250;refine (QFT _ _ (by assumption) (by assumption) _).mono ?_;rintro e w' ⟨rfl,rfl⟩)
  | (go_at_call 103;refine (QL _ _ _ (B8.lo (by assumption)) (B8.hi (by assumption)) _).mono ?_;rintro e w' ⟨rfl,rfl⟩)
  | (go_at_call 104;refine (X3 _ (B8.lo (by assumption)) (B8.hi (by assumption)) _).mono ?_;rintro e w' ⟨rfl,hb⟩;have hsz:=hb.size))
 go_ret2
 exact⟨rfl,(by repeat (first|exact Below.refl _ _|assumption|refine JZ ?_ (by assumption)|refine Below.drew ?_|refine Below.alloc ?_ (by first|(simp;done)|(simp;omega)|omega) _|refine Below.setCell ?_ (by first|(simp;done)|(simp;omega)|omega) _))⟩
theorem ArrIs.there {w:World} {A n:Nat} {v:Nat→Value}(h:ArrIs w A n v):w.there A 0 n:=fun j hj=>by
 rw[Nat.zero_add];exact⟨by rw[(h j hj).1];rfl,(h j hj).2⟩
theorem QSv (w:World)(b:Nat)(x0 x1 x2 x3 x4 x5 x6 x7:Value)(h:w.there b 0 8):∀ w2,w.setCells b 0 [x0,x1,x2,x3,x4,x5,x6,x7]=w2 →
 w2.cell? ⟨b,0,none⟩=some x0∧w2.cell? ⟨b,1,none⟩=some x1∧w2.cell? ⟨b,2,none⟩=some x2∧w2.cell? ⟨b,3,none⟩=some x3∧w2.cell? ⟨b,4,none⟩=some x4∧w2.cell? ⟨b,5,none⟩=some x5∧w2.cell? ⟨b,6,none⟩=some x6∧w2.cell? ⟨b,7,none⟩=some x7:=by
 rintro w2 rfl
 have hc:=World.rangeAt_setCells_same w b 0 [x0,x1,x2,x3,x4,x5,x6,x7] h
 exact⟨hc 0 _ rfl,hc 1 _ rfl,hc 2 _ rfl,hc 3 _ rfl,hc 4 _ rfl,hc 5 _ rfl,hc 6 _ rfl,hc 7 _ rfl⟩
theorem Below.setCells {n:Nat} {w w':World}(h:Below n w w'){b:Nat}(hb:n≤b):∀ (vs:List Value) (o:Nat),Below n w (w'.setCells b o vs):=by
 intro vs
 induction vs generalizing w' with
 | nil=>intro o;exact h
 | cons v r ih=>intro o;exact ih (h.setCell hb _) (o+1)
theorem QCx (f a:Int)(hf:B8 f)(ha:B8 a)(w:World) :
 Calls Tryz.prog 304 #[.int .u8 f,.int .u8 a] w fun e w'=>e=.returned (v8 (isM f 7) (isM f 6) (isM a 5) (isM f 4) (isM a 3) (isM f 2) (isM f 1) (isM f 0))∧Below w.heap.size w w':=by
 have hf0:=hf.1
 have hf1:=hf.2
 go_enter Tryz.func304,Tryz.ntmps304
 go_wp2_with fail
 refine (Qc _ hf0 hf1 _).mono ?_
 rintro e w' ⟨rfl,hb⟩
 have hsz:=hb.size
 have hlt:w.heap.size < w'.heap.size:=by simp only[World.size_alloc] at hsz;omega
 have R:=((QNg w' w false false false false false false false false _ hb).alloc (.cells #[.bool (isM f 7),.bool (isM f 6),.bool (isM a 5),.bool (isM f 4),.bool (isM a 3),.bool (isM f 2),.bool (isM f 1),.bool (isM f 0)] 163)).there
 have hb:=Lib.hid hb
 clear hsz
 go_wp2_with (first
  | (go_at_call 151;refine (QI _ _ ha.1 ha.2 _).mono ?_;rintro e w' ⟨rfl,rfl⟩)
  | (refine wpList_store_mid rfl _ _ _ rfl _ _ _ rfl rfl R (by kernel_rfl) (by simp[Value.oneCell']) ?_;rw[show (#[Value.bool (isM f 7),.bool (isM f 6),.bool (isM a 5),.bool (isM f 4),.bool (isM a 3),.bool (isM f 2),.bool (isM f 1),.bool (isM f 0)]:Array Value).toList=[Value.bool (isM f 7),.bool (isM f 6),.bool (isM a 5),.bool (isM f 4),.bool (isM a 3),.bool (isM f 2),.bool (isM f 1),.bool (isM f 0)] from rfl];have hl:=QSv _ _ (.bool (isM f 7)) (.bool (isM f 6)) (.bool (isM a 5)) (.bool (isM f 4)) (.bool (isM a 3)) (.bool (isM f 2)) (.bool (isM f 1)) (.bool (isM f 0)) R _ rfl;have hq:=Lib.hid (Below.setCells (b:=w.heap.size) (show Below w.heap.size w (w'.alloc (.cells #[.bool (isM f 7),.bool (isM f 6),.bool (isM a 5),.bool (isM f 4),.bool (isM a 3),.bool (isM f 2),.bool (isM f 1),.bool (isM f 0)] 163)) from Below.alloc (Below.trans ((Below.refl _ w).alloc (Nat.le_refl _) _) (hb.out.mono (by simp))) (by omega) _) (Nat.le_refl _) [.bool (isM f 7),.bool (isM f 6),.bool (isM a 5),.bool (isM f 4),.bool (isM a 3),.bool (isM f 2),.bool (isM f 1),.bool (isM f 0)] 0);clear R;generalize (w'.alloc _).setCells w.heap.size 0 _=w2 at hl hq ⊢))
 refine bodyPost_ret (v:=v8 (isM f 7) (isM f 6) (isM a 5) (isM f 4) (isM a 3) (isM f 2) (isM f 1) (isM f 0)) (by simp[results,Tryz.f304,go_sem,hl.1,hl.2.1,hl.2.2.1,hl.2.2.2.1,hl.2.2.2.2.1,hl.2.2.2.2.2.1,hl.2.2.2.2.2.2.1,hl.2.2.2.2.2.2.2]) rfl ?_
 exact⟨rfl,hq.out⟩
theorem QNO (a f:Int)(ha:B8 a)(hf:B8 f)(w:World) :
 Calls Tryz.prog 246 #[.int .u8 a,.int .u8 f] w fun e w'=>e=.returned (two (255-a) (QED a f))∧Below w.heap.size w w':=by
 have hr:B8 (255-a):=⟨by have:=ha.2;omega,by have:=ha.1;omega⟩
 have a0:=ha.1
 have a1:=ha.2
 go_enter Tryz.func246,Tryz.ntmps246
 go_wp2_with (first
  | (go_at_call 304;refine (QCx _ _ (by assumption) (by assumption) _).mono ?_;rintro e w' ⟨rfl,hb⟩;have hsz:=hb.size)
  | (go_at_call 155;refine (QD _ _ _ _ _ _ _ _ _).mono ?_;rintro e w' ⟨rfl,hb⟩;have hsz:=hb.size))
 go_ret2
 exact⟨rfl,(by repeat (first|exact Below.refl _ _|assumption|refine JZ ?_ (by assumption)|refine Below.drew ?_|refine Below.alloc ?_ (by first|(simp;done)|(simp;omega)|omega) _|refine Below.setCell ?_ (by first|(simp;done)|(simp;omega)|omega) _))⟩
theorem QNk (a f:Int)(ha:B8 a)(hf:B8 f)(w:World) :
 Calls Tryz.prog 247 #[.int .u8 a,.int .u8 f] w fun e w'=>e=.returned (.int .u8 (QCt a f))∧Below w.heap.size w w':=by
 go_enter Tryz.func247,Tryz.ntmps247
 go_wp2_with (first
  | (go_at_call 304;refine (QCx _ _ (by assumption) (by assumption) _).mono ?_;rintro e w' ⟨rfl,hb⟩;have hsz:=hb.size)
  | (go_at_call 155;refine (QD _ _ _ _ _ _ _ _ _).mono ?_;rintro e w' ⟨rfl,hb⟩;have hsz:=hb.size))
 go_ret
 exact⟨rfl,(by repeat (first|exact Below.refl _ _|assumption|refine JZ ?_ (by assumption)|refine Below.drew ?_|refine Below.alloc ?_ (by first|(simp;done)|(simp;omega)|omega) _|refine Below.setCell ?_ (by first|(simp;done)|(simp;omega)|omega) _))⟩
theorem QPH (a f:Int)(ha:B8 a)(hf:B8 f)(w:World) :
 Calls Tryz.prog 248 #[.int .u8 a,.int .u8 f] w fun e w'=>e=.returned (.int .u8 (QCZ a f))∧Below w.heap.size w w':=by
 go_enter Tryz.func248,Tryz.ntmps248
 go_wp2_with (first
  | (go_at_call 304;refine (QCx _ _ (by assumption) (by assumption) _).mono ?_;rintro e w' ⟨rfl,hb⟩;have hsz:=hb.size)
  | (go_at_call 155;refine (QD _ _ _ _ _ _ _ _ _).mono ?_;rintro e w' ⟨rfl,hb⟩;have hsz:=hb.size))
 go_ret
 exact⟨rfl,(by repeat (first|exact Below.refl _ _|assumption|refine JZ ?_ (by assumption)|refine Below.drew ?_|refine Below.alloc ?_ (by first|(simp;done)|(simp;omega)|omega) _|refine Below.setCell ?_ (by first|(simp;done)|(simp;omega)|omega) _))⟩
theorem QIO (r:Int):isM (Jn r) 7=isM r 7∧isM (Jn r) 6=(r==0)∧isM (Jn r) 5=isM r 5∧isM (Jn r) 4=false∧isM (Jn r) 3=isM r 3∧isM (Jn r) 2=jj r∧isM (Jn r) 1=false∧isM (Jn r) 0=false:=Xv _ _ _ _ _ _ _ _
end
section
attribute [local go_sem ↓] QE6 QEx QEf QEi QEX QD7 QFI QE4
theorem QGm (a f N:Int)(h:byM a f=N)(c:isM f 1=false):(a+N)%256=Xj a f:=by unfold Xj;rw[c,h];rfl
theorem QEc (a f N:Int)(h:byM a f=N)(c:isM f 1=true):(a-N)%256=Xj a f:=by unfold Xj;rw[c,h];rfl
theorem QSJ (a f:Int)(h:byM a f=0):a%256=Xj a f:=by unfold Xj;rw[h];split<;>omega
theorem QS0 (a f:Int):byM a f=(if isM f 4||decide (9 < a%16) then 6 else 0)+(if isM f 0||decide (153 < a) then 96 else 0):=rfl
theorem QRU (a f:Int):QDe a f=mkM (isM (Xj a f) 7) (Xj a f==0) (isM (Xj a f) 5) (isM a 4 != isM (Xj a f) 4) (isM (Xj a f) 3) (jj (Xj a f)) (isM f 1) (isM f 0||decide (153 < a)):=rfl
theorem QO1 (a f:Int)(ha:B8 a)(hf:B8 f)(w:World) :
 Calls Tryz.prog 245 #[.int .u8 a,.int .u8 f] w fun e w'=>e=.returned (two (Xj a f) (QDe a f))∧Below w.heap.size w w':=by
 have a0:=ha.1
 have a1:=ha.2
 have hr:=jU a f
 have he:=Jz (Xj a f)
 have hD:=QRU a f
 have hN:=QS0 a f
 by_cases x2:9 < a%16<;>by_cases x4:153 < a<;>cases c1:isM f 4<;>cases c3:isM f 0<;>cases c5:isM f 1
 all_goals
  first|rw[c1,c3,decide_eq_true x2,decide_eq_true x4] at hN|rw[c1,c3,decide_eq_true x2,decide_eq_false x4] at hN|rw[c1,c3,decide_eq_false x2,decide_eq_true x4] at hN|rw[c1,c3,decide_eq_false x2,decide_eq_false x4] at hN
  first|rw[c3,c5,decide_eq_true x4] at hD|rw[c3,c5] at hD
  simp only[Bool.or_true,Bool.or_false,Bool.true_or,Bool.false_or] at hD
  first
   | have hb:=QSJ a f (hN.trans (by decide))
   | have hb:=QEc a f 102 (hN.trans (by decide)) c5
   | have hb:=QGm a f 102 (hN.trans (by decide)) c5
   | have hb:=QEc a f 96 (hN.trans (by decide)) c5
   | have hb:=QGm a f 96 (hN.trans (by decide)) c5
   | have hb:=QEc a f 6 (hN.trans (by decide)) c5
   | have hb:=QGm a f 6 (hN.trans (by decide)) c5
  clear hN
  have HD:=Lib.hid hD
  clear hD
  go_enter Tryz.func245,Tryz.ntmps245
  go_wp2_with fail
  refine (Qc _ hf.1 hf.2 _).mono ?_
  rintro e w1 ⟨rfl,hb1⟩
  have hs1:=hb1.size
  go_wp2_with fail
  refine (X3 _ hr.1 hr.2 _).mono ?_
  rintro e w2 ⟨rfl,hb2⟩
  have hs2:=hb2.size
  have A2:=QNg w2 w1 _ _ _ _ _ _ _ _ _ hb2
  go_wp2_with fail
  refine (Qc _ he.1 he.2 _).mono ?_
  rintro e w3 ⟨rfl,hb3⟩
  have hs3:=hb3.size
  have c6:=((A2.kept hb3) 6 (by omega)).1
  simp only[List.getD_cons_succ,List.getD_cons_zero] at c6
  simp only[World.size_alloc] at hs2 hs3
  have hlt:w1.heap.size < w3.heap.size:=by omega
  go_wp2_with (first
   | (go_at_call 151;refine (QI _ _ (B8.lo (by assumption)) (B8.hi (by assumption)) _).mono ?_;rintro e w' ⟨rfl,rfl⟩)
   | (go_at_call 155;refine (QD _ _ _ _ _ _ _ _ _).mono ?_;rintro e w' ⟨rfl,hb⟩;have hsz:=hb.size))
  go_ret2
  obtain⟨e7,e6,e5,e4,e3,e2,e1,e0⟩:=QIO (Xj a f)
  rw[e7,e6,e5,e3,e2,HD.out]
  exact⟨rfl,(by repeat (first|exact Below.refl _ _|assumption|refine JZ ?_ (by assumption)|refine Below.drew ?_|refine Below.alloc ?_ (by first|(simp;done)|(simp;omega)|omega) _|refine Below.setCell ?_ (by first|(simp;done)|(simp;omega)|omega) _))⟩
end
section
attribute [local go_sem ↓] QE6 QEx QEf QEi QEX QD7 QFI QE4
abbrev QIi (r:Int)(o:Bool):Value:=.tuple #[.int .u8 r,.bool o]
theorem QH6 (b:Int)(i:Bool)(hb:B8 b)(w:World) :
 Calls Tryz.prog 240 #[.int .u8 b,.bool true,.bool i] w fun e w'=>e=.returned (QIi (QMK b i) (isM b 7))∧w=w':=by
 have hm:=(QOZ b hb i).1
 have hm:=Lib.hid hm
 have hu:B8 (QN7 b):=by unfold QN7;repeat (first|exact B8.zero|apply B8.with)
 go_enter Tryz.func240,Tryz.ntmps240
 go_wp2
 refine wp_loop_rounds 9 ?_
 iterate 9 (rw[rounds_succ];go_wp2_with (first
  | (go_at_call 151;refine (QI _ _ (B8.lo (by assumption)) (B8.hi (by assumption)) _).mono ?_;rintro e w' ⟨rfl,rfl⟩)
  | (go_at_call 103;refine (QL _ _ _ (B8.lo (by repeat (first|exact B8.zero|apply B8.with))) (B8.hi (by repeat (first|exact B8.zero|apply B8.with))) _).mono ?_;rintro e w' ⟨rfl,rfl⟩)))
 go_ret2
 exact⟨by rw[←hm.out];rfl,rfl⟩
theorem QHM (b:Int)(i:Bool)(hb:B8 b)(w:World) :
 Calls Tryz.prog 240 #[.int .u8 b,.bool false,.bool i] w fun e w'=>e=.returned (QIi (QNI b i) (isM b 0))∧w=w':=by
 have hm:=(QOZ b hb i).2
 have hm:=Lib.hid hm
 go_enter Tryz.func240,Tryz.ntmps240
 go_wp2
 refine wp_loop_rounds 9 ?_
 iterate 9 (rw[rounds_succ];go_wp2_with (first
  | (go_at_call 151;refine (QI _ _ (B8.lo (by assumption)) (B8.hi (by assumption)) _).mono ?_;rintro e w' ⟨rfl,rfl⟩)
  | (go_at_call 103;refine (QL _ _ _ (B8.lo (by repeat (first|exact B8.zero|apply B8.with))) (B8.hi (by repeat (first|exact B8.zero|apply B8.with))) _).mono ?_;rintro e w' ⟨rfl,rfl⟩)))
 go_ret2
 exact⟨by rw[←hm.out];rfl,rfl⟩
theorem QHk (k b f:Int)(hk:k=0∨k=2∨k=4∨k=6)(hb:B8 b)(hf:B8 f)(w:World) :
 Calls Tryz.prog 169 #[.int .i64 k,.int .u8 b,.int .u8 f] w fun e w'=>e=.returned (jk (shM k b f) (ZR k b) true)∧w=w':=by
 obtain rfl|rfl|rfl|rfl:=hk
 all_goals
  go_enter Tryz.func169,Tryz.ntmps169
  go_wp2_with (first
   | (go_at_call 151;refine (QI _ _ (B8.lo (by assumption)) (B8.hi (by assumption)) _).mono ?_;rintro e w' ⟨rfl,rfl⟩)
   | (go_at_call 240;refine (QH6 _ _ (by assumption) _).mono ?_;rintro e w' ⟨rfl,rfl⟩))
  go_ret3
  exact⟨rfl,rfl⟩
theorem QI2 (k b f:Int)(hk:k=1∨k=3∨k=5∨k=7)(hb:B8 b)(hf:B8 f)(w:World) :
 Calls Tryz.prog 169 #[.int .i64 k,.int .u8 b,.int .u8 f] w fun e w'=>e=.returned (jk (shM k b f) (ZR k b) true)∧w=w':=by
 obtain rfl|rfl|rfl|rfl:=hk
 all_goals
  go_enter Tryz.func169,Tryz.ntmps169
  go_wp2_with (first
   | (go_at_call 151;refine (QI _ _ (B8.lo (by assumption)) (B8.hi (by assumption)) _).mono ?_;rintro e w' ⟨rfl,rfl⟩)
   | (go_at_call 240;refine (QHM _ _ (by assumption) _).mono ?_;rintro e w' ⟨rfl,rfl⟩))
  go_ret3
  exact⟨rfl,rfl⟩
theorem QAM (k b f:Int)(h0:0≤k)(h1:k < 8)(hb:B8 b)(hf:B8 f)(w:World) :
 Calls Tryz.prog 169 #[.int .i64 k,.int .u8 b,.int .u8 f] w fun e w'=>e=.returned (jk (shM k b f) (ZR k b) true)∧w=w':=by
 by_cases h:k%2=0
 · exact QHk k b f (by omega) hb hf w
 · exact QI2 k b f (by omega) hb hf w
theorem QEy (k b f:Int)(hk:k < 0∨8≤k)(hb:B8 b)(hf:B8 f)(w:World) :
 Calls Tryz.prog 169 #[.int .i64 k,.int .u8 b,.int .u8 f] w fun e w'=>e=.returned (jk b false false)∧w=w':=by
 have n0:(k==0)=false:=by simp;omega
 have n1:(k==1)=false:=by simp;omega
 have n2:(k==2)=false:=by simp;omega
 have n3:(k==3)=false:=by simp;omega
 have n4:(k==4)=false:=by simp;omega
 have n5:(k==5)=false:=by simp;omega
 have n6:(k==6)=false:=by simp;omega
 have n7:(k==7)=false:=by simp;omega
 clear hk
 go_enter Tryz.func169,Tryz.ntmps169
 go_wp2
 go_ret3
 exact⟨rfl,rfl⟩
theorem QGi (k b f:Int)(hb:B8 b)(hf:B8 f)(w:World) :
 Calls Tryz.prog 116 #[.int .i64 k,.int .u8 b,.int .u8 f] w fun e w'=>e=.returned (two (doR k b f) (doF k b f))∧Below w.heap.size w w':=by
 have hB:=hb
 clear hb
 by_cases h:0≤k∧k < 8
 · have er:doR k b f=shM k b f:=if_pos h
   have ef:doF k b f=JQ (Jn (shM k b f)) 0 (ZR k b):=if_pos h
   rw[er,ef]
   have hs:=zB k b f hB
   obtain⟨h0,h1⟩:=h
   clear er ef
   have hm:=QAM k b f h0 h1 hB hf
   generalize shM k b f=R at hs hm ⊢
   generalize ZR k b=O at hm ⊢
   have he:=Jz R
   clear h0 h1
   go_enter Tryz.func116,Tryz.ntmps116
   go_wp2_with (first
    | (go_at_call 169;refine (hm _).mono ?_;rintro e w' ⟨rfl,rfl⟩)
    | (go_at_call 104;refine (X3 _ (B8.lo (by assumption)) (B8.hi (by assumption)) _).mono ?_;rintro e w' ⟨rfl,hb⟩;have hsz:=hb.size)
    | (go_at_call 103;refine (QL _ _ _ (B8.lo (by assumption)) (B8.hi (by assumption)) _).mono ?_;rintro e w' ⟨rfl,rfl⟩))
   go_ret2
   exact⟨rfl,(by repeat (first|exact Below.refl _ _|assumption|refine JZ ?_ (by assumption)|refine Below.drew ?_|refine Below.alloc ?_ (by first|(simp;done)|(simp;omega)|omega) _|refine Below.setCell ?_ (by first|(simp;done)|(simp;omega)|omega) _))⟩
 · have er:doR k b f=b:=if_neg h
   have ef:doF k b f=f:=if_neg h
   rw[er,ef]
   have hm:=QEy k b f (by omega) hB hf
   clear h er ef
   go_enter Tryz.func116,Tryz.ntmps116
   go_wp2_with (first
    | (go_at_call 169;refine (hm _).mono ?_;rintro e w' ⟨rfl,rfl⟩))
   go_ret2
   exact⟨rfl,(by repeat (first|exact Below.refl _ _|assumption|refine JZ ?_ (by assumption)|refine Below.drew ?_|refine Below.alloc ?_ (by first|(simp;done)|(simp;omega)|omega) _|refine Below.setCell ?_ (by first|(simp;done)|(simp;omega)|omega) _))⟩
theorem QOA (k b f:Int)(hb:B8 b)(hf:B8 f)(w:World) :
 Calls Tryz.prog 249 #[.int .i64 k,.int .u8 b,.int .u8 f] w fun e w'=>e=.returned (two (QBW k b f) (QBa k b f))∧Below w.heap.size w w':=by
 have hB:=hb
 clear hb
 by_cases h:0≤k∧k < 4
 · have er:QBW k b f=shM k b f:=if_pos h
   have ef:QBa k b f=ZA f (shM k b f) false false (ZR k b):=if_pos h
   rw[er,ef]
   have hs:=zB k b f hB
   obtain⟨h0,h1⟩:=h
   clear er ef
   have hm:=QAM k b f h0 (by omega) hB hf
   generalize shM k b f=R at hs hm ⊢
   generalize ZR k b=O at hm ⊢
   go_enter Tryz.func249,Tryz.ntmps249
   go_wp2_with (first
    | (go_at_call 169;refine (hm _).mono ?_;rintro e w' ⟨rfl,rfl⟩)
    | (go_at_call 153;refine (Qc _ (B8.lo (by assumption)) (B8.hi (by assumption)) _).mono ?_;rintro e w' ⟨rfl,hb⟩;have hsz:=hb.size)
    | (go_at_call 151;refine (QI _ _ (B8.lo (by assumption)) (B8.hi (by assumption)) _).mono ?_;rintro e w' ⟨rfl,rfl⟩)
    | (go_at_call 155;refine (QD _ _ _ _ _ _ _ _ _).mono ?_;rintro e w' ⟨rfl,hb⟩;have hsz:=hb.size))
   go_ret2
   exact⟨rfl,(by repeat (first|exact Below.refl _ _|assumption|refine JZ ?_ (by assumption)|refine Below.drew ?_|refine Below.alloc ?_ (by first|(simp;done)|(simp;omega)|omega) _|refine Below.setCell ?_ (by first|(simp;done)|(simp;omega)|omega) _))⟩
 · have er:QBW k b f=b:=if_neg h
   have ef:QBa k b f=f:=if_neg h
   rw[er,ef]
   clear er ef
   by_cases h8:0≤k∧k < 8
   · have hm:=QAM k b f h8.1 h8.2 hB hf
     have h3:3 < k:=by omega
     clear h h8
     go_enter Tryz.func249,Tryz.ntmps249
     go_wp2_with (first
      | (go_at_call 169;refine (hm _).mono ?_;rintro e w' ⟨rfl,rfl⟩))
     go_ret2
     exact⟨rfl,(by repeat (first|exact Below.refl _ _|assumption|refine JZ ?_ (by assumption)|refine Below.drew ?_|refine Below.alloc ?_ (by first|(simp;done)|(simp;omega)|omega) _|refine Below.setCell ?_ (by first|(simp;done)|(simp;omega)|omega) _))⟩
   · have hm:=QEy k b f (by omega) hB hf
     clear h h8
     go_enter Tryz.func249,Tryz.ntmps249
     go_wp2_with (first
      | (go_at_call 169;refine (hm _).mono ?_;rintro e w' ⟨rfl,rfl⟩))
     go_ret2
     exact⟨rfl,(by repeat (first|exact Below.refl _ _|assumption|refine JZ ?_ (by assumption)|refine Below.drew ?_|refine Below.alloc ?_ (by first|(simp;done)|(simp;omega)|omega) _|refine Below.setCell ?_ (by first|(simp;done)|(simp;omega)|omega) _))⟩
theorem QEP (right:Bool)(a b f:Int)(ha:B8 a)(hb:B8 b)(hf:B8 f)(w:World) :
 Calls Tryz.prog 168 #[.bool right,.int .u8 a,.int .u8 b,.int .u8 f] w fun e w'=>e=.returned (three (ZY right a b) (QDf right a b) (jx (ZY right a b) (isM f 0)))∧Below w.heap.size w w':=by
 have hB:=hb
 clear hb
 have a0:=ha.1
 have a1:=ha.2
 have b0:=hB.1
 have b1:=hB.2
 cases right
 · have hd:=ZM false a b ha hB
   have he:=Jz (ZY false a b)
   go_enter Tryz.func168,Tryz.ntmps168
   go_wp2_with (first
    | (go_at_call 151;refine (QI _ _ (B8.lo (by assumption)) (B8.hi (by assumption)) _).mono ?_;rintro e w' ⟨rfl,rfl⟩)
    | (go_at_call 104;refine (X3 (ZY false a b) (B8.lo (by assumption)) (B8.hi (by assumption)) _).mono ?_;rintro e w' ⟨rfl,hb⟩;have hsz:=hb.size)
    | (go_at_call 103;refine (QL _ _ _ (B8.lo (by assumption)) (B8.hi (by assumption)) _).mono ?_;rintro e w' ⟨rfl,rfl⟩))
   go_ret3
   exact⟨rfl,(by repeat (first|exact Below.refl _ _|assumption|refine JZ ?_ (by assumption)|refine Below.drew ?_|refine Below.alloc ?_ (by first|(simp;done)|(simp;omega)|omega) _|refine Below.setCell ?_ (by first|(simp;done)|(simp;omega)|omega) _))⟩
 · have hd:=ZM true a b ha hB
   have he:=Jz (ZY true a b)
   go_enter Tryz.func168,Tryz.ntmps168
   go_wp2_with (first
    | (go_at_call 151;refine (QI _ _ (B8.lo (by assumption)) (B8.hi (by assumption)) _).mono ?_;rintro e w' ⟨rfl,rfl⟩)
    | (go_at_call 104;refine (X3 (ZY true a b) (B8.lo (by assumption)) (B8.hi (by assumption)) _).mono ?_;rintro e w' ⟨rfl,hb⟩;have hsz:=hb.size)
    | (go_at_call 103;refine (QL _ _ _ (B8.lo (by assumption)) (B8.hi (by assumption)) _).mono ?_;rintro e w' ⟨rfl,rfl⟩))
   go_ret3
   exact⟨rfl,(by repeat (first|exact Below.refl _ _|assumption|refine JZ ?_ (by assumption)|refine Below.drew ?_|refine Below.alloc ?_ (by first|(simp;done)|(simp;omega)|omega) _|refine Below.setCell ?_ (by first|(simp;done)|(simp;omega)|omega) _))⟩
theorem QCP (n b lines f:Int)(hb:B8 b)(hl:B8 lines)(hf:B8 f)(w:World) :
 Calls Tryz.prog 117 #[.int .i64 n,.int .u8 b,.int .u8 lines,.int .u8 f] w fun e w'=>e=.returned (.int .u8 (zr n b lines f))∧Below w.heap.size w w':=by
 have hB:=hb
 clear hb
 by_cases h7:n=7
 · subst h7
   go_enter Tryz.func117,Tryz.ntmps117
   go_wp2_with (first
    | (go_at_call 153;refine (Qc _ (B8.lo (by assumption)) (B8.hi (by assumption)) _).mono ?_;rintro e w' ⟨rfl,hb⟩;have hsz:=hb.size)
    | (go_at_call 151;refine (QI _ _ (B8.lo (by assumption)) (B8.hi (by assumption)) _).mono ?_;rintro e w' ⟨rfl,rfl⟩)
    | (go_at_call 155;refine (QD _ _ _ _ _ _ _ _ _).mono ?_;rintro e w' ⟨rfl,hb⟩;have hsz:=hb.size))
   go_ret
   exact⟨rfl,(by repeat (first|exact Below.refl _ _|assumption|refine JZ ?_ (by assumption)|refine Below.drew ?_|refine Below.alloc ?_ (by first|(simp;done)|(simp;omega)|omega) _|refine Below.setCell ?_ (by first|(simp;done)|(simp;omega)|omega) _))⟩
 · have n7:(n==7)=false:=by simpa using h7
   have e:zr n b lines f=mkM false (!isM b n) (isM lines 5) true (isM lines 3) (!isM b n) false (isM f 0):=by unfold zr;rw[n7];rfl
   rw[e]
   clear h7 e
   go_enter Tryz.func117,Tryz.ntmps117
   go_wp2_with (first
    | (go_at_call 153;refine (Qc _ (B8.lo (by assumption)) (B8.hi (by assumption)) _).mono ?_;rintro e w' ⟨rfl,hb⟩;have hsz:=hb.size)
    | (go_at_call 151;refine (QI _ _ (B8.lo (by assumption)) (B8.hi (by assumption)) _).mono ?_;rintro e w' ⟨rfl,rfl⟩)
    | (go_at_call 155;refine (QD _ _ _ _ _ _ _ _ _).mono ?_;rintro e w' ⟨rfl,hb⟩;have hsz:=hb.size))
   go_ret
   exact⟨rfl,(by repeat (first|exact Below.refl _ _|assumption|refine JZ ?_ (by assumption)|refine Below.drew ?_|refine Below.alloc ?_ (by first|(simp;done)|(simp;omega)|omega) _|refine Below.setCell ?_ (by first|(simp;done)|(simp;omega)|omega) _))⟩
end
end Go.Proofs.YtkenebbjodcbcaaGreatDoor
