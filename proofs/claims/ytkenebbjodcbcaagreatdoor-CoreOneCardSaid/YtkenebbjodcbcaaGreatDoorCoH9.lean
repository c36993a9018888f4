/- Contracts and facts that the claim's proof wants (several texts in one). -/
import Derived.Test.YtkenebbjodcbcaaGreatDoorCoH5
import Derived.Test.YtkenebbjodcbcaaGreatDoorCoH8
namespace Go.Proofs.YtkenebbjodcbcaaGreatDoor
open Go.RowKit
set_option linter.unusedVariables false
set_option linter.unusedSimpArgs false
set_option maxRecDepth 20000
set_option maxHeartbeats 20000000
abbrev QI3 (r f:Int):Value:=.tuple #[.int .u16 r,.int .u8 f]
theorem zh (f:Int)(hf:B8 f)(w:World) :
 Calls Tryz.prog 311 #[.int .u8 f] w fun e w'=>e=.returned (.bool (isM f 0))∧w=w':=by
 have k:=Lib.hid (QEk f hf.1 hf.2).2.1
 have f0:=hf.1
 have f1:=hf.2
 go_enter Tryz.func311,Tryz.ntmps311
 go_wp2
 go_ret
 exact⟨Qn k.out,rfl⟩
theorem QFo (a b low:Int)(ha:B8 a)(hb:B8 b)(hl:B8 low)(O L:Nat)(w:World)(hO:w.cell? ⟨O,0,none⟩=some (.func (.func 287) #[] #[]))(hL:w.cell? ⟨L,0,none⟩=some (.int .u8 low)) :
 Calls Tryz.prog 347 #[.int .u8 a,.int .u8 b,.pointer (some ⟨O,0,none⟩),.pointer (some ⟨L,0,none⟩)] w fun e w' =>
  e=.returned (two (XJ a b (isM low 0)) (Xc (XI a b (isM low 0)) (bits .and .u8 (XI a b (isM low 0)) low) 64))∧Below w.heap.size w w':=by
 have hB:=hb
 clear hb
 have hf:=Qw a b (isM low 0)
 have hg:B8 (bits .and .u8 (XI a b (isM low 0)) low):=QB0 _ _ hf.1 hf.2 hl.1 hl.2
 go_enter Tryz.func347,Tryz.ntmps347
 go_wp2_with fail
 go_region_held3 (fun w'=>w'.cell? ⟨O,0,none⟩=some (.func (.func 287) #[] #[])∧w'.cell? ⟨L,0,none⟩=some (.int .u8 low)) (first|go_keep|exact QRh hb (by assumption))
  (first
  | (go_at_call 311;refine (zh _ (by assumption) _).mono ?_;rintro e w' ⟨rfl,rfl⟩)
  | (go_at_call 287;refine (QAi _ _ _ (by assumption) (by assumption) _).mono ?_;rintro e w' ⟨rfl,hb⟩;have hsz:=hb.size))
 rename_i hh
 obtain⟨h1,h2⟩:=hh
 have f0:=hf.1
 have f1:=hf.2
 have l0:=hl.1
 have l1:=hl.2
 go_wp2_with (first
  | (go_at_call 257;refine (X1 _ _ _ (B8.lo (by assumption)) (B8.hi (by assumption)) (B8.lo (by assumption)) (B8.hi (by assumption)) (by omega) (by omega) _).mono ?_;rintro e w' ⟨rfl,rfl⟩))
 go_ret2
 exact⟨rfl,(by repeat (first|exact Below.refl _ _|assumption|refine JZ ?_ (by assumption)|refine Below.drew ?_|refine Below.alloc ?_ (by first|(simp;done)|(simp;omega)|omega) _|refine Below.setCell ?_ (by first|(simp;done)|(simp;omega)|omega) _))⟩
theorem QHc (a b:Int)(c:Bool)(ha:B8 a)(hb:B8 b)(w:World) :
 Calls Tryz.prog 337 #[.agg #[.func (.func 287) #[] #[]],.int .u8 a,.int .u8 b,.bool c] w fun e w'=>∃ O L,
  e=.returned (.tuple #[.int .u8 (XJ a b c),.func (.func 347) #[] #[.pointer (some ⟨O,0,none⟩),.pointer (some ⟨L,0,none⟩)]]) ∧
  (w'.cell? ⟨O,0,none⟩=some (.func (.func 287) #[] #[])∧w'.cell? ⟨L,0,none⟩=some (.int .u8 (XI a b c)))∧Below w.heap.size w w':=by
 have hB:=hb
 clear hb
 go_enter Tryz.func337,Tryz.ntmps337
 go_wp2_with (first
  | (go_at_call 287;refine (QAi _ _ _ (by assumption) (by assumption) _).mono ?_;rintro e w' ⟨rfl,hb⟩;have hsz:=hb.size))
 go_ret2
 refine⟨w.heap.size,w'.heap.size,rfl,⟨cell_kept (qY w _ _) (Below.trans hb (Below.alloc (Below.refl _ _) hsz _)),qY _ _ _⟩,?_⟩
 (try simp only[World.size_alloc] at hsz)
 exact (by repeat (first|exact Below.refl _ _|assumption|refine JZ ?_ (by assumption)|refine Below.drew ?_|refine Below.alloc ?_ (by first|(simp;done)|(simp;omega)|omega) _|refine Below.setCell ?_ (by first|(simp;done)|(simp;omega)|omega) _))
theorem QBw (a b:Int)(c:Bool)(ha:W16 a)(hb:W16 b)(w:World) :
 Calls Tryz.prog 310 #[.agg #[.func (.func 287) #[] #[]],.int .u16 a,.int .u16 b,.bool c] w fun e w' =>
  e=.returned (QI3 (X0 a b c) (zZ a b c))∧Below w.heap.size w w':=by
 have hB:=hb
 clear hb
 have al:=ha.low
 have ah:=ha.high
 have bl:=hB.low
 have bh:=hB.high
 have lf:=Qw (a%256) (b%256) c
 have rl:=QO (a%256) (b%256) c
 have rh:=QO (a / 256) (b / 256) (isM (XI (a%256) (b%256) c) 0)
 have hw:=Lib.hid (QJC a b c ha hB)
 have hf:=Lib.hid (QLo a b c ha hB)
 go_enter Tryz.func310,Tryz.ntmps310
 go_wp2_with fail
 go_region_held3 (fun w'=>w'.cell? ⟨w.heap.size,0,none⟩=some (.func (.func 287) #[] #[])) (first|go_keep|exact cell_kept (by assumption) hb)
  (first
  | (go_at_call 142;refine (qK _ (W16.lo (by assumption)) (W16.hi (by assumption)) _).mono ?_;rintro e w' ⟨rfl,rfl⟩)
  | (go_at_call 337;refine (QHc _ _ _ (by assumption) (by assumption) _).mono ?_;rintro e w' ⟨O,L,rfl,hcell,hb⟩;have hsz:=hb.size))
 rename_i hh
 clear hh
 obtain⟨h1,h2⟩:=hcell
 go_wp2_with (first
  | (go_at_call 141;refine (qy _ (W16.lo (by assumption)) (W16.hi (by assumption)) _).mono ?_;rintro e w' ⟨rfl,rfl⟩)
  | (go_at_call 97;refine (J1 _ _ (B8.lo (by assumption)) (B8.hi (by assumption)) (B8.lo (by assumption)) (B8.hi (by assumption)) _).mono ?_;rintro e w' ⟨rfl,rfl⟩)
  | (go_at_call 347;refine (QFo _ _ (XI (a%256) (b%256) c) (by assumption) (by assumption) lf _ _ _ h1 h2).mono ?_;rintro e w2 ⟨rfl,hb2⟩;have hsz2:=hb2.size))
 go_ret2
 refine⟨by rw[←hw.out,←hf.out];rfl,?_⟩
 (try simp only[World.size_alloc] at hsz)
 exact (by repeat (first|exact Below.refl _ _|assumption|refine JZ ?_ (by assumption)|refine Below.drew ?_|refine Below.alloc ?_ (by first|(simp;done)|(simp;omega)|omega) _|refine Below.setCell ?_ (by first|(simp;done)|(simp;omega)|omega) _))
theorem QFr (a b low:Int)(ha:B8 a)(hb:B8 b)(hl:B8 low)(O L:Nat)(w:World)(hO:w.cell? ⟨O,0,none⟩=some (.func (.func 269) #[] #[]))(hL:w.cell? ⟨L,0,none⟩=some (.int .u8 low)) :
 Calls Tryz.prog 347 #[.int .u8 a,.int .u8 b,.pointer (some ⟨O,0,none⟩),.pointer (some ⟨L,0,none⟩)] w fun e w' =>
  e=.returned (two (QQ a b (isM low 0)) (Xc (QE a b (isM low 0)) (bits .and .u8 (QE a b (isM low 0)) low) 64))∧Below w.heap.size w w':=by
 have hB:=hb
 clear hb
 have hf:=J9 a b (isM low 0)
 have hg:B8 (bits .and .u8 (QE a b (isM low 0)) low):=QB0 _ _ hf.1 hf.2 hl.1 hl.2
 go_enter Tryz.func347,Tryz.ntmps347
 go_wp2_with fail
 go_region_held3 (fun w'=>w'.cell? ⟨O,0,none⟩=some (.func (.func 269) #[] #[])∧w'.cell? ⟨L,0,none⟩=some (.int .u8 low)) (first|go_keep|exact QRh hb (by assumption))
  (first
  | (go_at_call 311;refine (zh _ (by assumption) _).mono ?_;rintro e w' ⟨rfl,rfl⟩)
  | (go_at_call 269;refine (qn _ _ _ (by assumption) (by assumption) _).mono ?_;rintro e w' ⟨rfl,hb⟩;have hsz:=hb.size))
 rename_i hh
 obtain⟨h1,h2⟩:=hh
 have f0:=hf.1
 have f1:=hf.2
 have l0:=hl.1
 have l1:=hl.2
 go_wp2_with (first
  | (go_at_call 257;refine (X1 _ _ _ (B8.lo (by assumption)) (B8.hi (by assumption)) (B8.lo (by assumption)) (B8.hi (by assumption)) (by omega) (by omega) _).mono ?_;rintro e w' ⟨rfl,rfl⟩))
 go_ret2
 exact⟨rfl,(by repeat (first|exact Below.refl _ _|assumption|refine JZ ?_ (by assumption)|refine Below.drew ?_|refine Below.alloc ?_ (by first|(simp;done)|(simp;omega)|omega) _|refine Below.setCell ?_ (by first|(simp;done)|(simp;omega)|omega) _))⟩
theorem QGn (a b:Int)(c:Bool)(ha:B8 a)(hb:B8 b)(w:World) :
 Calls Tryz.prog 337 #[.agg #[.func (.func 269) #[] #[]],.int .u8 a,.int .u8 b,.bool c] w fun e w'=>∃ O L,
  e=.returned (.tuple #[.int .u8 (QQ a b c),.func (.func 347) #[] #[.pointer (some ⟨O,0,none⟩),.pointer (some ⟨L,0,none⟩)]]) ∧
  (w'.cell? ⟨O,0,none⟩=some (.func (.func 269) #[] #[])∧w'.cell? ⟨L,0,none⟩=some (.int .u8 (QE a b c)))∧Below w.heap.size w w':=by
 have hB:=hb
 clear hb
 go_enter Tryz.func337,Tryz.ntmps337
 go_wp2_with (first
  | (go_at_call 269;refine (qn _ _ _ (by assumption) (by assumption) _).mono ?_;rintro e w' ⟨rfl,hb⟩;have hsz:=hb.size))
 go_ret2
 refine⟨w.heap.size,w'.heap.size,rfl,⟨cell_kept (qY w _ _) (Below.trans hb (Below.alloc (Below.refl _ _) hsz _)),qY _ _ _⟩,?_⟩
 (try simp only[World.size_alloc] at hsz)
 exact (by repeat (first|exact Below.refl _ _|assumption|refine JZ ?_ (by assumption)|refine Below.drew ?_|refine Below.alloc ?_ (by first|(simp;done)|(simp;omega)|omega) _|refine Below.setCell ?_ (by first|(simp;done)|(simp;omega)|omega) _))
theorem QHR (a b:Int)(c:Bool)(ha:W16 a)(hb:W16 b)(w:World) :
 Calls Tryz.prog 310 #[.agg #[.func (.func 269) #[] #[]],.int .u16 a,.int .u16 b,.bool c] w fun e w' =>
  e=.returned (QI3 (jr a b c) (QAB a b c))∧Below w.heap.size w w':=by
 have hB:=hb
 clear hb
 have al:=ha.low
 have ah:=ha.high
 have bl:=hB.low
 have bh:=hB.high
 have lf:=J9 (a%256) (b%256) c
 have rl:=J5 (a%256) (b%256) c
 have rh:=J5 (a / 256) (b / 256) (isM (QE (a%256) (b%256) c) 0)
 have hw:=Lib.hid (QJH a b c ha hB)
 have hf:=Lib.hid (QL8 a b c ha hB)
 go_enter Tryz.func310,Tryz.ntmps310
 go_wp2_with fail
 go_region_held3 (fun w'=>w'.cell? ⟨w.heap.size,0,none⟩=some (.func (.func 269) #[] #[])) (first|go_keep|exact cell_kept (by assumption) hb)
  (first
  | (go_at_call 142;refine (qK _ (W16.lo (by assumption)) (W16.hi (by assumption)) _).mono ?_;rintro e w' ⟨rfl,rfl⟩)
  | (go_at_call 337;refine (QGn _ _ _ (by assumption) (by assumption) _).mono ?_;rintro e w' ⟨O,L,rfl,hcell,hb⟩;have hsz:=hb.size))
 rename_i hh
 clear hh
 obtain⟨h1,h2⟩:=hcell
 go_wp2_with (first
  | (go_at_call 141;refine (qy _ (W16.lo (by assumption)) (W16.hi (by assumption)) _).mono ?_;rintro e w' ⟨rfl,rfl⟩)
  | (go_at_call 97;refine (J1 _ _ (B8.lo (by assumption)) (B8.hi (by assumption)) (B8.lo (by assumption)) (B8.hi (by assumption)) _).mono ?_;rintro e w' ⟨rfl,rfl⟩)
  | (go_at_call 347;refine (QFr _ _ (QE (a%256) (b%256) c) (by assumption) (by assumption) lf _ _ _ h1 h2).mono ?_;rintro e w2 ⟨rfl,hb2⟩;have hsz2:=hb2.size))
 go_ret2
 refine⟨by rw[←hw.out,←hf.out];rfl,?_⟩
 (try simp only[World.size_alloc] at hsz)
 exact (by repeat (first|exact Below.refl _ _|assumption|refine JZ ?_ (by assumption)|refine Below.drew ?_|refine Below.alloc ?_ (by first|(simp;done)|(simp;omega)|omega) _|refine Below.setCell ?_ (by first|(simp;done)|(simp;omega)|omega) _))
theorem QD4 (w:World) :
 Calls Tryz.prog 312 #[] w fun e w'=>e=.returned (.agg #[.func (.func 287) #[] #[]])∧Below w.heap.size w w':=by
 go_enter Tryz.func312,Tryz.ntmps312
 go_wp2
 refine bodyPost_ret (v:=.agg #[.func (.func 287) #[] #[]]) (by simp[results,Tryz.f312,go_sem]) rfl ?_
 exact⟨rfl,(by repeat (first|exact Below.refl _ _|assumption|refine JZ ?_ (by assumption)|refine Below.drew ?_|refine Below.alloc ?_ (by first|(simp;done)|(simp;omega)|omega) _|refine Below.setCell ?_ (by first|(simp;done)|(simp;omega)|omega) _))⟩
theorem QDk (w:World) :
 Calls Tryz.prog 309 #[] w fun e w'=>e=.returned (.agg #[.func (.func 269) #[] #[]])∧Below w.heap.size w w':=by
 go_enter Tryz.func309,Tryz.ntmps309
 go_wp2
 refine bodyPost_ret (v:=.agg #[.func (.func 269) #[] #[]]) (by simp[results,Tryz.f309,go_sem]) rfl ?_
 exact⟨rfl,(by repeat (first|exact Below.refl _ _|assumption|refine JZ ?_ (by assumption)|refine Below.drew ?_|refine Below.alloc ?_ (by first|(simp;done)|(simp;omega)|omega) _|refine Below.setCell ?_ (by first|(simp;done)|(simp;omega)|omega) _))⟩
theorem QPk (a b f:Int)(ha:W16 a)(hb:W16 b)(hf:B8 f)(w:World) :
 Calls Tryz.prog 283 #[.int .u16 a,.int .u16 b,.int .u8 f] w fun e w'=>e=.returned (QI3 (X0 a b false) (QBv a b f))∧Below w.heap.size w w':=by
 have hB:=hb
 clear hb
 have hm:=Lib.hid (QMs a b f)
 have hg:=QCb a b false
 go_enter Tryz.func283,Tryz.ntmps283
 go_wp2_with (first
  | (go_at_call 312;refine (QD4 _).mono ?_;rintro e w' ⟨rfl,hb⟩;have hsz:=hb.size)
  | (go_at_call 310;refine (QBw _ _ _ (by assumption) (by assumption) _).mono ?_;rintro e w' ⟨rfl,hb⟩;have hsz:=hb.size)
  | (go_at_call 257;refine (X1 _ _ _ (B8.lo (by assumption)) (B8.hi (by assumption)) (B8.lo (by assumption)) (B8.hi (by assumption)) (by omega) (by omega) _).mono ?_;rintro e w' ⟨rfl,rfl⟩))
 go_ret2
 exact⟨by rw[←hm.out];rfl,(by repeat (first|exact Below.refl _ _|assumption|refine JZ ?_ (by assumption)|refine Below.drew ?_|refine Below.alloc ?_ (by first|(simp;done)|(simp;omega)|omega) _|refine Below.setCell ?_ (by first|(simp;done)|(simp;omega)|omega) _))⟩
theorem QNh (a b f:Int)(ha:W16 a)(hb:W16 b)(hf:B8 f)(w:World) :
 Calls Tryz.prog 265 #[.int .u16 a,.int .u16 b,.int .u8 f] w fun e w'=>e=.returned (QI3 (X0 a b (isM f 0)) (zZ a b (isM f 0)))∧Below w.heap.size w w':=by
 have hB:=hb
 clear hb
 go_enter Tryz.func265,Tryz.ntmps265
 go_wp2_with (first
  | (go_at_call 312;refine (QD4 _).mono ?_;rintro e w' ⟨rfl,hb⟩;have hsz:=hb.size)
  | (go_at_call 311;refine (zh _ (by assumption) _).mono ?_;rintro e w' ⟨rfl,rfl⟩)
  | (go_at_call 310;refine (QBw _ _ _ (by assumption) (by assumption) _).mono ?_;rintro e w' ⟨rfl,hb⟩;have hsz:=hb.size))
 go_ret2
 exact⟨rfl,(by repeat (first|exact Below.refl _ _|assumption|refine JZ ?_ (by assumption)|refine Below.drew ?_|refine Below.alloc ?_ (by first|(simp;done)|(simp;omega)|omega) _|refine Below.setCell ?_ (by first|(simp;done)|(simp;omega)|omega) _))⟩
theorem QPI (a b f:Int)(ha:W16 a)(hb:W16 b)(hf:B8 f)(w:World) :
 Calls Tryz.prog 263 #[.int .u16 a,.int .u16 b,.int .u8 f] w fun e w'=>e=.returned (QI3 (jr a b (isM f 0)) (QAB a b (isM f 0)))∧Below w.heap.size w w':=by
 have hB:=hb
 clear hb
 go_enter Tryz.func263,Tryz.ntmps263
 go_wp2_with (first
  | (go_at_call 309;refine (QDk _).mono ?_;rintro e w' ⟨rfl,hb⟩;have hsz:=hb.size)
  | (go_at_call 311;refine (zh _ (by assumption) _).mono ?_;rintro e w' ⟨rfl,rfl⟩)
  | (go_at_call 310;refine (QHR _ _ _ (by assumption) (by assumption) _).mono ?_;rintro e w' ⟨rfl,hb⟩;have hsz:=hb.size))
 go_ret2
 exact⟨rfl,(by repeat (first|exact Below.refl _ _|assumption|refine JZ ?_ (by assumption)|refine Below.drew ?_|refine Below.alloc ?_ (by first|(simp;done)|(simp;omega)|omega) _|refine Below.setCell ?_ (by first|(simp;done)|(simp;omega)|omega) _))⟩
theorem ZK (x y:Int)(hx:W16 x)(w:World) :
 Calls Tryz.prog 273 #[.int .u16 x,.int .i64 y] w fun e w'=>e=.returned (.int .u16 (JA x y))∧w=w':=by
 have x0:=hx.1
 have x1:=hx.2
 go_enter Tryz.func273,Tryz.ntmps273
 go_wp2
 go_ret
 exact⟨Qf (by simp only[IntKind.wrap_u16];unfold JA;omega),rfl⟩
theorem QJa (x y:Int)(hx:W16 x)(hy:B8 y)(w:World) :
 Calls Tryz.prog 213 #[.int .u16 x,.int .u8 y] w fun e w'=>e=.returned (.int .u16 (JA x (JR y)))∧w=w':=by
 go_enter Tryz.func213,Tryz.ntmps213
 go_wp2_with (first
  | (go_at_call 279;refine (QJj _ (B8.lo (by assumption)) (B8.hi (by assumption)) _).mono ?_;rintro e w' ⟨rfl,rfl⟩)
  | (go_at_call 273;refine (ZK _ _ (by assumption) _).mono ?_;rintro e w' ⟨rfl,rfl⟩))
 go_ret
 exact⟨rfl,rfl⟩
abbrev three (r q f:Int):Value:=.tuple #[.int .u8 r,.int .u8 q,.int .u8 f]
theorem QR8 (k b f:Int)(hb:B8 b)(hf:B8 f)(w:World)(hd:Courses w) :
 Calls Tryz.prog 188 #[.int .i64 k,.int .u8 b,.int .u8 f] w fun e w'=>e=.returned (two (doR k b f) (doF k b f))∧Below w.heap.size w w':=by
 have hB:=hb
 clear hb
 by_cases h:0≤k∧k < 8
 · have er:doR k b f=shM k b f:=if_pos h
   have ef:doF k b f=jx (shM k b f) (ZR k b):=if_pos h
   rw[er,ef,←QGs]
   have hs:=zB k b f hB
   obtain⟨h0,h1⟩:=h
   clear er ef
   generalize hR:shM k b f=R at hs ⊢
   generalize hO:ZR k b=O at ⊢
   have hR:=Lib.hid hR
   have hO:=Lib.hid hO
   have hm:=fun w hd=>QIs k b f h0 h1 hB hf w hd
   rw[hR.out,hO.out] at hm
   clear h0 h1 hR hO
   go_enter Tryz.func188,Tryz.ntmps188
   go_wp2_with (first
    | (go_at_call 253;refine (hm _ hd).mono ?_;rintro e w' ⟨rfl,hb⟩;have hsz:=hb.size)
    | (go_at_call 254;refine (ZO _ (B8.lo (by assumption)) (B8.hi (by assumption)) _).mono ?_;rintro e w' ⟨rfl,hb⟩;have hsz:=hb.size)
    | (go_at_call 255;refine (QER _ _).mono ?_;rintro e w' ⟨rfl,rfl⟩))
   go_ret2
   exact⟨rfl,(by repeat (first|exact Below.refl _ _|assumption|refine JZ ?_ (by assumption)|refine Below.drew ?_|refine Below.alloc ?_ (by first|(simp;done)|(simp;omega)|omega) _|refine Below.setCell ?_ (by first|(simp;done)|(simp;omega)|omega) _))⟩
 · have er:doR k b f=b:=if_neg h
   have ef:doF k b f=f:=if_neg h
   rw[er,ef]
   have h':k < 0∨8≤k:=by omega
   clear h er ef
   have hm:=fun w hd=>QK9 k b f h' hB hf w hd
   clear h'
   go_enter Tryz.func188,Tryz.ntmps188
   go_wp2_with (first
    | (go_at_call 253;refine (hm _ hd).mono ?_;rintro e w' ⟨rfl,hb⟩;have hsz:=hb.size))
   go_ret2
   exact⟨rfl,(by repeat (first|exact Below.refl _ _|assumption|refine JZ ?_ (by assumption)|refine Below.drew ?_|refine Below.alloc ?_ (by first|(simp;done)|(simp;omega)|omega) _|refine Below.setCell ?_ (by first|(simp;done)|(simp;omega)|omega) _))⟩
theorem QRB (k b f:Int)(hb:B8 b)(hf:B8 f)(w:World)(hd:Courses w) :
 Calls Tryz.prog 292 #[.int .i64 k,.int .u8 b,.int .u8 f] w fun e w'=>e=.returned (two (QBW k b f) (QBa k b f))∧Below w.heap.size w w':=by
 have hB:=hb
 clear hb
 by_cases h:0≤k∧k < 4
 · have er:QBW k b f=shM k b f:=if_pos h
   have ef:QBa k b f=ZA f (shM k b f) false false (ZR k b):=if_pos h
   rw[er,ef,←QNl]
   have hs:=zB k b f hB
   obtain⟨h0,h1⟩:=h
   clear er ef
   have hm:=fun w hd=>QIs k b f h0 (by omega) hB hf w hd
   generalize shM k b f=R at hs hm ⊢
   generalize ZR k b=O at hm ⊢
   have hq:=J7 R
   go_enter Tryz.func292,Tryz.ntmps292
   go_wp2_with (first
    | (go_at_call 253;refine (hm _ hd).mono ?_;rintro e w' ⟨rfl,hb⟩;have hsz:=hb.size)
    | (go_at_call 307;refine (jM _ (B8.lo (by assumption)) (B8.hi (by assumption)) _).mono ?_;rintro e w' ⟨rfl,rfl⟩)
    | (go_at_call 257;refine (X1 _ _ _ (B8.lo (by assumption)) (B8.hi (by assumption)) (B8.lo (by assumption)) (B8.hi (by assumption)) (by omega) (by omega) _).mono ?_;rintro e w' ⟨rfl,rfl⟩)
    | (go_at_call 255;refine (QER _ _).mono ?_;rintro e w' ⟨rfl,rfl⟩))
   go_ret2
   exact⟨rfl,(by repeat (first|exact Below.refl _ _|assumption|refine JZ ?_ (by assumption)|refine Below.drew ?_|refine Below.alloc ?_ (by first|(simp;done)|(simp;omega)|omega) _|refine Below.setCell ?_ (by first|(simp;done)|(simp;omega)|omega) _))⟩
 · have er:QBW k b f=b:=if_neg h
   have ef:QBa k b f=f:=if_neg h
   rw[er,ef]
   clear er ef
   by_cases h2:3 < k
   · clear h
     go_enter Tryz.func292,Tryz.ntmps292
     go_wp2_with fail
     go_ret2
     exact⟨rfl,(by repeat (first|exact Below.refl _ _|assumption|refine JZ ?_ (by assumption)|refine Below.drew ?_|refine Below.alloc ?_ (by first|(simp;done)|(simp;omega)|omega) _|refine Below.setCell ?_ (by first|(simp;done)|(simp;omega)|omega) _))⟩
   · have h3:k < 0:=by omega
     have hm:=fun w hd=>QK9 k b f (by omega) hB hf w hd
     clear h
     go_enter Tryz.func292,Tryz.ntmps292
     go_wp2_with (first
      | (go_at_call 253;refine (hm _ hd).mono ?_;rintro e w' ⟨rfl,hb⟩;have hsz:=hb.size))
     go_ret2
     exact⟨rfl,(by repeat (first|exact Below.refl _ _|assumption|refine JZ ?_ (by assumption)|refine Below.drew ?_|refine Below.alloc ?_ (by first|(simp;done)|(simp;omega)|omega) _|refine Below.setCell ?_ (by first|(simp;done)|(simp;omega)|omega) _))⟩
theorem QMg (right:Bool)(a b f:Int)(ha:B8 a)(hb:B8 b)(hf:B8 f)(w:World) :
 Calls Tryz.prog 315 #[.bool right,.int .u8 a,.int .u8 b,.int .u8 f] w fun e w'=>e=.returned (three (ZY right a b) (QDf right a b) (jx (ZY right a b) (isM f 0)))∧Below w.heap.size w w':=by
 have hB:=hb
 clear hb
 obtain⟨la,ua⟩:=QI1 a ha
 obtain⟨lb,_⟩:=QI1 b hB
 have lf:=zj f hf
 have a0:=ha.1
 have a1:=ha.2
 have b0:=hB.1
 have b1:=hB.2
 cases right
 · have j1:bits .or .u8 (a / 16*16) (b / 16)=ZY false a b:=QAo _ _ (by omega) (by omega) (by omega) (by omega)
   have j2:bits .or .u8 (b%16*16) (a%16)=QDf false a b:=QAo _ _ (by omega) (by omega) (by omega) (by omega)
   have hd:=ZM false a b ha hB
   rw[←QGs]
   go_enter Tryz.func315,Tryz.ntmps315
   go_wp2_with (first
    | (go_at_call 254;refine (ZO _ (B8.lo (by assumption)) (B8.hi (by assumption)) _).mono ?_;rintro e w' ⟨rfl,hb⟩;have hsz:=hb.size))
   go_ret3
   exact⟨rfl,(by repeat (first|exact Below.refl _ _|assumption|refine JZ ?_ (by assumption)|refine Below.drew ?_|refine Below.alloc ?_ (by first|(simp;done)|(simp;omega)|omega) _|refine Below.setCell ?_ (by first|(simp;done)|(simp;omega)|omega) _))⟩
 · have j1:bits .or .u8 (a / 16*16) (b%16)=ZY true a b:=QAo _ _ (by omega) (by omega) (by omega) (by omega)
   have j2:bits .or .u8 (a%16*16) (b / 16)=QDf true a b:=QAo _ _ (by omega) (by omega) (by omega) (by omega)
   have hd:=ZM true a b ha hB
   rw[←QGs]
   go_enter Tryz.func315,Tryz.ntmps315
   go_wp2_with (first
    | (go_at_call 254;refine (ZO _ (B8.lo (by assumption)) (B8.hi (by assumption)) _).mono ?_;rintro e w' ⟨rfl,hb⟩;have hsz:=hb.size))
   go_ret3
   exact⟨rfl,(by repeat (first|exact Below.refl _ _|assumption|refine JZ ?_ (by assumption)|refine Below.drew ?_|refine Below.alloc ?_ (by first|(simp;done)|(simp;omega)|omega) _|refine Below.setCell ?_ (by first|(simp;done)|(simp;omega)|omega) _))⟩
theorem QIV (n b lines f:Int)(hb:B8 b)(hl:B8 lines)(hf:B8 f)(w:World) :
 Calls Tryz.prog 194 #[.int .i64 n,.int .u8 b,.int .u8 lines,.int .u8 f] w fun e w'=>e=.returned (.int .u8 (zr n b lines f))∧w=w':=by
 have lf:=zj f hf
 have km:=QNt lines f hf
 rw[lf] at km
 have ho:=QHT 16 (one (isM f 0)) (by omega) (by omega) (Qq _).1 (by have:=(Qq (isM f 0)).2;omega)
 have hq:B8 (bits .or .u8 16 (one (isM f 0))):=ho
 clear ho
 cases hi:isM b n
 · have hm:=QSs n b lines f hi
   go_enter Tryz.func194,Tryz.ntmps194
   go_wp2_with (first
    | (go_at_call 258;refine (XY _ _ (B8.lo (by assumption)) (B8.hi (by assumption)) _).mono ?_;rintro e w' ⟨rfl,rfl⟩)
    | (go_at_call 257;refine (X1 _ _ _ (B8.lo (by assumption)) (B8.hi (by assumption)) (B8.lo (by assumption)) (B8.hi (by assumption)) (by omega) (by omega) _).mono ?_;rintro e w' ⟨rfl,rfl⟩))
   go_ret
   exact⟨rfl,rfl⟩
 · by_cases h7:n=7
   · subst h7
     have hm:=QLs b lines f hi
     go_enter Tryz.func194,Tryz.ntmps194
     go_wp2_with (first
      | (go_at_call 258;refine (XY _ _ (B8.lo (by assumption)) (B8.hi (by assumption)) _).mono ?_;rintro e w' ⟨rfl,rfl⟩)
      | (go_at_call 257;refine (X1 _ _ _ (B8.lo (by assumption)) (B8.hi (by assumption)) (B8.lo (by assumption)) (B8.hi (by assumption)) (by omega) (by omega) _).mono ?_;rintro e w' ⟨rfl,rfl⟩))
     go_ret
     exact⟨rfl,rfl⟩
   · have hm:=QQ6 n b lines f hi h7
     have n7:(n==7)=false:=by simpa using h7
     clear h7
     go_enter Tryz.func194,Tryz.ntmps194
     go_wp2_with (first
      | (go_at_call 258;refine (XY _ _ (B8.lo (by assumption)) (B8.hi (by assumption)) _).mono ?_;rintro e w' ⟨rfl,rfl⟩)
      | (go_at_call 257;refine (X1 _ _ _ (B8.lo (by assumption)) (B8.hi (by assumption)) (B8.lo (by assumption)) (B8.hi (by assumption)) (by omega) (by omega) _).mono ?_;rintro e w' ⟨rfl,rfl⟩))
     go_ret
     exact⟨rfl,rfl⟩
theorem cells3 (w:World)(t:TypeId)(x0 x1 x2:Int)(n:Nat×Nat):∀ j,j < [x0,x1,x2].length→(w.alloc (.cells #[.int .u8 x0,.int .u8 x1,.int .u8 x2] t n)).cell? ⟨w.heap.size,0+j,none⟩=some (.int .u8 ([x0,x1,x2].getD j 0)):=by
 have e:∀ o:Obj,(w.alloc o).heap[w.heap.size]? = some o:=fun o=>by
  show (w.heap.push _)[w.heap.size]? = _
  simp
 intro j hj
 match j,hj with
 | 0,_=>simp only[World.cell?,Nat.zero_add,e];rfl
 | 1,_=>simp only[World.cell?,Nat.zero_add,e];rfl
 | 2,_=>simp only[World.cell?,Nat.zero_add,e];rfl
theorem cells5 (w:World)(t:TypeId)(x0 x1 x2 x3 x4:Int)(n:Nat×Nat):∀ j,j < [x0,x1,x2,x3,x4].length→(w.alloc (.cells #[.int .u8 x0,.int .u8 x1,.int .u8 x2,.int .u8 x3,.int .u8 x4] t n)).cell? ⟨w.heap.size,0+j,none⟩=some (.int .u8 ([x0,x1,x2,x3,x4].getD j 0)):=by
 have e:∀ o:Obj,(w.alloc o).heap[w.heap.size]? = some o:=fun o=>by
  show (w.heap.push _)[w.heap.size]? = _
  simp
 intro j hj
 match j,hj with
 | 0,_=>simp only[World.cell?,Nat.zero_add,e];rfl
 | 1,_=>simp only[World.cell?,Nat.zero_add,e];rfl
 | 2,_=>simp only[World.cell?,Nat.zero_add,e];rfl
 | 3,_=>simp only[World.cell?,Nat.zero_add,e];rfl
 | 4,_=>simp only[World.cell?,Nat.zero_add,e];rfl
theorem QCs (h:Bool)(v:Int)(h0:0≤v)(h1:v≤255)(w:World) :
 Calls Tryz.prog 338 #[.bool h,.int .u8 v] w fun e w'=>e=.returned (.int .u8 (QY h v))∧w=w':=by
 cases h
 all_goals
  go_enter Tryz.func338,Tryz.ntmps338
  go_wp2
  go_ret
  exact⟨rfl,rfl⟩
theorem q6 (b off len cap:Nat)(zs:List Int)(w:World)(hz:len≤zs.length)(hbig:len≤100)(hc:∀ j,j < zs.length→w.cell? ⟨b,off+j,none⟩=some (.int .u8 (zs.getD j 0))) :
 Calls Tryz.prog 316 #[.slice (some ⟨b,off,none⟩) len cap] w fun e w'=>e=.returned (.int .u8 (QZ zs len))∧w=w':=by
 go_enter Tryz.func316,Tryz.ntmps316
 go_wp2
 go_loop [3,8] (fun t i=>∃ k:Nat,k≤len∧i=.int .i64 k∧t=.int .u8 (QZ zs k)) (fun _ i=>len-(intOf i).toNat)
 case atStart=>exact⟨0,Nat.zero_le _,rfl,rfl⟩
 case round =>
  obtain⟨k,hk,rfl,rfl⟩:=hrel
  by_cases hlt:k < len
  · have hk0:(0:Int)≤(k:Int):=by omega
    have hk1:(k:Int) < (len:Int):=by omega
    have hcell:=hc k (by omega)
    have hc:=Lib.hid hc
    go_wp2
    go_round
    case rel=>exact⟨k+1,by omega,by go_num,rfl⟩
    case measure=>simp[intOf];omega
  · obtain rfl:k=len:=by omega
    go_wp2
    go_ret
    exact⟨rfl,rfl⟩
theorem QES (bc:Int)(h0:0≤bc)(h1:bc≤65535)(w:World) :
 Calls Tryz.prog 317 #[.int .u16 bc] w fun e w'=>e=.returned (.int .u8 (QY (bc != 0) 4))∧w=w':=by
 go_enter Tryz.func317,Tryz.ntmps317
 go_wp2_with (first
  | (go_at_call 338;refine (QCs _ _ (by omega) (by omega) _).mono ?_;rintro e w' ⟨rfl,rfl⟩))
 go_ret
 exact⟨rfl,rfl⟩
def QCl (n:Int):Int:=QZ [QY (isM n 1) 32,QY (isM n 3) 8] 2
theorem QCn (n:Int)(hn:B8 n)(w:World) :
 Calls Tryz.prog 318 #[.int .u8 n] w fun e w'=>e=.returned (.int .u8 (QCl n))∧Below w.heap.size w w':=by
 go_enter Tryz.func318,Tryz.ntmps318
 go_wp2_with (first
  | (go_at_call 258;refine (XY _ _ (B8.lo (by assumption)) (B8.hi (by assumption)) _).mono ?_;rintro e w' ⟨rfl,rfl⟩)
  | (go_at_call 338;refine (QCs _ _ (by omega) (by omega) _).mono ?_;rintro e w' ⟨rfl,rfl⟩)
  | (go_at_call 316;refine (q6 _ 0 2 2 [QY (isM n 1) 32,QY (isM n 3) 8] _ (by simp) (by omega) (QOw _ _ _ _ _)).mono ?_;rintro e w' ⟨rfl,rfl⟩))
 go_ret
 exact⟨rfl,(by repeat (first|exact Below.refl _ _|assumption|refine JZ ?_ (by assumption)|refine Below.drew ?_|refine Below.alloc ?_ (by first|(simp;done)|(simp;omega)|omega) _|refine Below.setCell ?_ (by first|(simp;done)|(simp;omega)|omega) _))⟩
theorem QPu:∀ x:Fin 256,bits .and .u8 (x.val:Int) 193=mkM (isM (x.val:Int) 7) (isM (x.val:Int) 6) false false false false false (isM (x.val:Int) 0):=by decide +kernel
theorem QQC:∀ x:Fin 256,bits .and .u8 (x.val:Int) 208=mkM (isM (x.val:Int) 7) (isM (x.val:Int) 6) false (isM (x.val:Int) 4) false false false false:=by decide +kernel
theorem QSG:∀ x:Fin 256,(bits .and .u8 (x.val:Int) 16 != 0)=isM (x.val:Int) 4:=by decide +kernel
theorem QN1:∀ b7 b6 b0 p y x:Bool,QZ [mkM b7 b6 false false false false false b0,QY p 4,QZ [QY y 32,QY x 8] 2] 3=mkM b7 b6 y false x p false b0:=by decide +kernel
theorem QNb:∀ b7 b6 b4 c p y x:Bool,QZ [mkM b7 b6 false b4 false false false false,2,one c,QY p 4,QZ [QY y 32,QY x 8] 2] 5=mkM b7 b6 y b4 x p true c:=by decide +kernel
theorem QNz:∀ b7 z b5 b3 n k p:Bool,QZ [mkM b7 z b5 false b3 false false false,QY n 2,QY k 17,QY p 4] 4=mkM b7 z b5 k b3 p n k:=by decide +kernel
theorem QM2 (a b bc f:Int)(hf:B8 f):QZ [bits .and .u8 f 193,QY (bc != 0) 4,QCl (QEt a b)] 3=moveF a b bc f:=by
 rw[QB (P:=fun x=>bits .and .u8 x 193=mkM (isM x 7) (isM x 6) false false false false false (isM x 0)) QPu f hf.1 hf.2]
 exact QN1 _ _ _ _ _ _
theorem QMU (a b bc f:Int)(hf:B8 f):QZ [bits .and .u8 (QE a b false) 208,2,bits .and .u8 f 1,QY (bc != 0) 4,QCl (lessM a b)] 5=Zu a b bc f:=by
 have hg:=J9 a b false
 rw[zj f hf,QB (P:=fun x=>bits .and .u8 x 208=mkM (isM x 7) (isM x 6) false (isM x 4) false false false false) QQC _ hg.1 hg.2]
 exact QNb _ _ _ _ _ _ _
theorem QLn (b k left:Int):QZ [JE left,QY (isM b 7) 2,QY (decide (255 < k)) 17,QY (jj (Zf (k%8) left)) 4] 4=Qs b k left :=
 QNz _ _ _ _ _ _ _
theorem QPf (a b bc f:Int)(ha:B8 a)(hb:B8 b)(hf:B8 f)(h0:0≤bc)(h1:bc≤65535)(w:World) :
 Calls Tryz.prog 274 #[.int .u8 a,.int .u8 b,.int .u16 bc,.int .u8 f] w fun e w'=>e=.returned (.int .u8 (moveF a b bc f))∧Below w.heap.size w w':=by
 have hm:=Lib.hid (QM2 a b bc f hf)
 have hn:=Lib.hid (QFD a b)
 have a0:=ha.1;have a1:=ha.2;have b0:=hb.1;have b1:=hb.2
 clear ha hb
 go_enter Tryz.func274,Tryz.ntmps274
 go_wp2_with (first
  | (go_at_call 317;refine (QES _ h0 h1 _).mono ?_;rintro e w' ⟨rfl,rfl⟩)
  | (go_at_call 318;refine (QCn _ hn.out _).mono ?_;rintro e w' ⟨rfl,hb⟩;have hsz:=hb.size)
  | (go_at_call 316;refine (q6 _ 0 3 3 [bits .and .u8 f 193,QY (bc != 0) 4,QCl (QEt a b)] _ (by simp) (by omega) (cells3 _ _ _ _ _ _)).mono ?_;rintro e w' ⟨rfl,rfl⟩))
 go_ret
 exact⟨Qf hm.out,(by repeat (first|exact Below.refl _ _|assumption|refine JZ ?_ (by assumption)|refine Below.drew ?_|refine Below.alloc ?_ (by first|(simp;done)|(simp;omega)|omega) _|refine Below.setCell ?_ (by first|(simp;done)|(simp;omega)|omega) _))⟩
theorem QN5 (a b bc f:Int)(ha:B8 a)(hb:B8 b)(hf:B8 f)(h0:0≤bc)(h1:bc≤65535)(w:World) :
 Calls Tryz.prog 275 #[.int .u8 a,.int .u8 b,.int .u16 bc,.int .u8 f] w fun e w'=>e=.returned (.int .u8 (Zu a b bc f))∧Below w.heap.size w w':=by
 have hm:=Lib.hid (QMU a b bc f hf)
 have hn:=Lib.hid (QD9 a b)
 have hs:=Lib.hid (fun w=>qn a b false ha hb w)
 have hg:=J9 a b false
 have k4:=QB (P:=fun x=>(bits .and .u8 x 16 != 0)=isM x 4) QSG _ hg.1 hg.2
 cases hc:isM (QE a b false) 4
 · have hl:=Lib.hid (QIQ a b hc)
   rw[hc] at k4
   clear hc ha hb hg
   generalize hR:QQ a b false=R at *
   generalize hG:QE a b false=G at *
   clear hR hG
   have hl:=hl.out
   subst hl
   go_enter Tryz.func275,Tryz.ntmps275
   go_wp2_with (first
    | (go_at_call 269;refine (hs.out _).mono ?_;rintro e w' ⟨rfl,hb⟩;have hsz:=hb.size)
    | (go_at_call 317;refine (QES _ h0 h1 _).mono ?_;rintro e w' ⟨rfl,rfl⟩)
    | (go_at_call 318;refine (QCn _ hn.out _).mono ?_;rintro e w' ⟨rfl,hb⟩;have hsz:=hb.size)
    | (go_at_call 316;refine (q6 _ 0 5 5 [bits .and .u8 G 208,2,bits .and .u8 f 1,QY (bc != 0) 4,QCl (lessM a b)] _ (by simp) (by omega) (cells5 _ _ _ _ _ _ _ _)).mono ?_;rintro e w' ⟨rfl,rfl⟩))
   go_ret
   exact⟨Qf hm.out,(by repeat (first|exact Below.refl _ _|assumption|refine JZ ?_ (by assumption)|refine Below.drew ?_|refine Below.alloc ?_ (by first|(simp;done)|(simp;omega)|omega) _|refine Below.setCell ?_ (by first|(simp;done)|(simp;omega)|omega) _))⟩
 · have hl:=QJ4 a b hc
   have hr:=J5 a b false
   have r0:=hr.1
   have r1:=hr.2
   rw[hc] at k4
   clear hc ha hb hg hr
   generalize hR:QQ a b false=R at *
   generalize hG:QE a b false=G at *
   clear hR hG
   go_enter Tryz.func275,Tryz.ntmps275
   go_wp2_with (first
    | (go_at_call 269;refine (hs.out _).mono ?_;rintro e w' ⟨rfl,hb⟩;have hsz:=hb.size)
    | (go_at_call 317;refine (QES _ h0 h1 _).mono ?_;rintro e w' ⟨rfl,rfl⟩)
    | (go_at_call 318;refine (QCn _ hn.out _).mono ?_;rintro e w' ⟨rfl,hb⟩;have hsz:=hb.size)
    | (go_at_call 316;refine (q6 _ 0 5 5 [bits .and .u8 G 208,2,bits .and .u8 f 1,QY (bc != 0) 4,QCl (lessM a b)] _ (by simp) (by omega) (cells5 _ _ _ _ _ _ _ _)).mono ?_;rintro e w' ⟨rfl,rfl⟩))
   go_ret
   exact⟨Qf hm.out,(by repeat (first|exact Below.refl _ _|assumption|refine JZ ?_ (by assumption)|refine Below.drew ?_|refine Below.alloc ?_ (by first|(simp;done)|(simp;omega)|omega) _|refine Below.setCell ?_ (by first|(simp;done)|(simp;omega)|omega) _))⟩
theorem QJI (b l left:Int)(hB:B8 b)(hl:B8 l)(hL:B8 left)(w:World) :
 Calls Tryz.prog 319 #[.int .u8 b,.int .u8 l,.int .u8 left] w fun e w'=>e=.returned (.int .u8 (Qs b (b+l) left))∧Below w.heap.size w w':=by
 have hm:=Lib.hid (QLn b (b+l) left)
 have hx:=QNA ((b+l)%8) left ⟨by omega,by omega⟩ hL
 have hr:B8 (Zf ((b+l)%8) left):=J3 ..
 have b0:=hB.1;have b1:=hB.2;have l0:=hl.1;have l1:=hl.2
 go_enter Tryz.func319,Tryz.ntmps319
 go_wp2_with (first
  | (go_at_call 307;refine (jM _ (B8.lo (by assumption)) (B8.hi (by assumption)) _).mono ?_;rintro e w' ⟨rfl,rfl⟩)
  | (go_at_call 258;refine (XY _ _ (B8.lo (by assumption)) (B8.hi (by assumption)) _).mono ?_;rintro e w' ⟨rfl,rfl⟩)
  | (go_at_call 338;refine (QCs _ _ (by omega) (by omega) _).mono ?_;rintro e w' ⟨rfl,rfl⟩)
  | (go_at_call 308;refine (QIb _ (B8.lo (by assumption)) (B8.hi (by assumption)) _).mono ?_;rintro e w' ⟨rfl,hb⟩;have hsz:=hb.size)
  | (go_at_call 316;refine (q6 _ 0 4 4 [JE left,QY (isM b 7) 2,QY (decide (255 < b+l)) 17,QY (jj (Zf ((b+l)%8) left)) 4] _ (by simp) (by omega) (QN8 _ _ _ _ _ _ _)).mono ?_;rintro e w' ⟨rfl,rfl⟩))
 go_ret
 exact⟨Qf hm.out,(by repeat (first|exact Below.refl _ _|assumption|refine JZ ?_ (by assumption)|refine Below.drew ?_|refine Below.alloc ?_ (by first|(simp;done)|(simp;omega)|omega) _|refine Below.setCell ?_ (by first|(simp;done)|(simp;omega)|omega) _))⟩
theorem QOF (b c left s:Int)(hB:B8 b)(hc:B8 c)(hL:B8 left)(w:World) :
 Calls Tryz.prog 277 #[.int .u8 b,.int .u8 c,.int .u8 left,.int .i64 s] w fun e w'=>e=.returned (.int .u8 (Qs b (b+byC c s) left))∧Below w.heap.size w w':=by
 have hw:IntKind.u8.wrap s=s%256:=IntKind.wrap_u8 s
 have hq:(c+s%256)%256=byC c s:=by unfold byC;omega
 have hr:=QIe c s
 go_enter Tryz.func277,Tryz.ntmps277
 go_wp2_with (first
  | (go_at_call 319;refine (QJI _ _ _ (by assumption) (by assumption) (by assumption) _).mono ?_;rintro e w' ⟨rfl,hb⟩;have hsz:=hb.size))
 go_ret
 exact⟨rfl,(by repeat (first|exact Below.refl _ _|assumption|refine JZ ?_ (by assumption)|refine Below.drew ?_|refine Below.alloc ?_ (by first|(simp;done)|(simp;omega)|omega) _|refine Below.setCell ?_ (by first|(simp;done)|(simp;omega)|omega) _))⟩
theorem QOJ (b l left:Int)(hB:B8 b)(hl:B8 l)(hL:B8 left)(w:World) :
 Calls Tryz.prog 278 #[.int .u8 b,.int .u8 l,.int .u8 left] w fun e w'=>e=.returned (.int .u8 (Qs b (b+l) left))∧Below w.heap.size w w':=by
 go_enter Tryz.func278,Tryz.ntmps278
 go_wp2_with (first
  | (go_at_call 319;refine (QJI _ _ _ (by assumption) (by assumption) (by assumption) _).mono ?_;rintro e w' ⟨rfl,hb⟩;have hsz:=hb.size))
 go_ret
 exact⟨rfl,(by repeat (first|exact Below.refl _ _|assumption|refine JZ ?_ (by assumption)|refine Below.drew ?_|refine Below.alloc ?_ (by first|(simp;done)|(simp;omega)|omega) _|refine Below.setCell ?_ (by first|(simp;done)|(simp;omega)|omega) _))⟩
theorem Xt (kind f:Int)(hf:B8 f)(w:World) :
 Calls Tryz.prog 209 #[.int .i64 kind,.int .u8 f] w fun e w'=>e=.returned (.bool (Ji kind f))∧w=w':=by
 obtain⟨k6,-,k2,-⟩:=QEk f hf.1 hf.2
 by_cases hc:kind < 0∨4≤kind
 · rw[QEe kind f hc]
   have n0:(kind==0)=false:=by simp;omega
   have n1:(kind==1)=false:=by simp;omega
   have n2:(kind==2)=false:=by simp;omega
   have n3:(kind==3)=false:=by simp;omega
   clear hc
   cases hz:isM f 6
   all_goals
    rw[hz] at k6
    go_enter Tryz.func209,Tryz.ntmps209
    go_wp2
    go_ret
    exact⟨rfl,rfl⟩
 · obtain rfl|rfl|rfl|rfl:kind=0∨kind=1∨kind=2∨kind=3:=by omega
   all_goals
    clear hc
    cases hz:isM f 6<;>cases hp:isM f 2
    all_goals
     rw[hz] at k6
     rw[hp] at k2
     go_enter Tryz.func209,Tryz.ntmps209
     go_wp2
     go_ret
     exact⟨Qn (by simp[Ji,hz,hp]),rfl⟩
abbrev five (c:Int):Value:=.tuple #[.int .i64 (fx c),.int .i64 (fy c),.int .i64 (fz c),.int .i64 (fp c),.int .i64 (fq c)]
theorem QBp {fn:Func} {t u v x y:Tmp}(h:fn.results=#[.tmp t,.tmp u,.tmp v,.tmp x,.tmp y])(tmps:Array Value)(P:Program)(w:World) :
 (results fn tmps).run P w=.ok (.tuple #[tmps.getD t undef,tmps.getD u undef,tmps.getD v undef,tmps.getD x undef,tmps.getD y undef]) w:=by simp[results,h]
theorem qk (c:Int)(hc:B8 c)(w:World) :
 Calls Tryz.prog 99 #[.int .u8 c] w fun e w'=>e=.returned (five c)∧w=w':=by
 obtain⟨h0,h1⟩:=hc
 go_enter Tryz.func99,Tryz.ntmps99
 go_wp2
 refine bodyPost_ret (QBp rfl _ _ _) rfl ?_
 exact⟨rfl,rfl⟩
theorem QFP (c:Int)(hc:B8 c)(w:World) :
 Calls Tryz.prog 186 #[.int .u8 c] w fun e w'=>e=.returned (five c)∧w=w':=by
 obtain⟨h0,h1⟩:=hc
 go_enter Tryz.func186,Tryz.ntmps186
 go_wp2
 refine bodyPost_ret (QBp rfl _ _ _) rfl ?_
 refine⟨?_,rfl⟩
 have e1:c / 8%8 / 2=c / 16%4:=by omega
 have e2:c / 8%8%2=c / 8%2:=by omega
 show Ending.returned (.tuple #[.int .i64 (c / 64),.int .i64 (c / 8%8),.int .i64 (c%8),.int .i64 (c / 8%8 / 2),.int .i64 (c / 8%8%2)])=_
 rw[e1,e2]
 rfl
theorem QSn (c:Int)(hc:B8 c):0≤fx c∧fx c≤3:=by obtain⟨h0,h1⟩:=hc;unfold fx;omega
theorem QFJ (c:Int)(hc:B8 c):0≤fy c∧fy c≤7:=by obtain⟨h0,h1⟩:=hc;unfold fy;omega
theorem QTH (c:Int)(hc:B8 c):0≤fz c∧fz c≤7:=by obtain⟨h0,h1⟩:=hc;unfold fz;omega
theorem QPj (p:Int)(h:p < 0∨6 < p):(p==0)=false∧(p==1)=false∧(p==2)=false∧(p==3)=false∧(p==4)=false∧(p==5)=false∧(p==6)=false:=by
 simp only[beq_eq_false_iff_ne]
 omega
theorem QKc (p c:Int)(hc:B8 c)(w:World) :
 Calls Tryz.prog 236 #[.int .i64 p,.int .u8 c] w fun e w'=>e=.returned (.bool (XT p c))∧w=w':=by
 have bx:=QSn c hc
 have bY:=QFJ c hc
 have bz:=QTH c hc
 have hf:=Lib.hid (qk c hc)
 by_cases hp:p < 0∨6 < p
 · have h:=hp
   obtain⟨n0,n1,n2,n3,n4,n5,n6⟩:=QPj p h
   go_enter Tryz.func236,Tryz.ntmps236
   go_wp2_with (first
    | (go_at_call 99;refine (hf.out _).mono ?_;rintro e w' ⟨rfl,rfl⟩))
   go_ret
   exact⟨Qn (by unfold XT;rw[if_neg (by omega)];unfold qv;rw[n5,n6];rfl),rfl⟩
 obtain rfl|rfl|rfl|rfl|rfl|rfl|rfl:p=0∨p=1∨p=2∨p=3∨p=4∨p=5∨p=6:=by omega
 all_goals
  clear hp
  cases hy6:(fy c==6)<;>cases hz6:(fz c==6)
  all_goals
   go_enter Tryz.func236,Tryz.ntmps236
   go_wp2_with (first
    | (go_at_call 99;refine (hf.out _).mono ?_;rintro e w' ⟨rfl,rfl⟩))
   all_goals
    go_ret
    refine⟨Qn ?_,rfl⟩
    (try unfold XT qv j0)
    (try simp[*])
    (try simp_all)
    (try omega)
theorem QMO (p:Int)(w:World) :
 Calls Tryz.prog 212 #[.int .i64 p] w fun e w'=>e=.returned (.bool (qv p))∧w=w':=by
 have h:qv p=(p==5||p==6):=rfl
 cases h5:(p==5)<;>cases h6:(p==6)
 all_goals
  rw[h5,h6] at h
  have H:=Lib.hid h
  clear h
  go_enter Tryz.func212,Tryz.ntmps212
  go_wp2
  go_ret
  exact⟨Qn (by rw[H.out];rfl),rfl⟩
theorem QJx (c:Int)(hc:B8 c)(w:World) :
 Calls Tryz.prog 211 #[.int .u8 c] w fun e w'=>e=.returned (.bool (j0 c))∧w=w':=by
 have bx:=QSn c hc
 have bY:=QFJ c hc
 have bz:=QTH c hc
 have hf:=Lib.hid (QFP c hc)
 cases hy6:(fy c==6)<;>cases hz6:(fz c==6)
 all_goals
  go_enter Tryz.func211,Tryz.ntmps211
  go_wp2_with (first
   | (go_at_call 186;refine (hf.out _).mono ?_;rintro e w' ⟨rfl,rfl⟩))
  all_goals
   go_ret
   refine⟨Qn ?_,rfl⟩
   (try unfold j0)
   (try simp[*])
   (try simp_all)
   (try omega)
theorem QM8 (p c:Int)(hc:B8 c)(w:World) :
 Calls Tryz.prog 133 #[.int .i64 p,.int .u8 c] w fun e w'=>e=.returned (.bool (XT p c))∧w=w':=by
 have hp:=Lib.hid (QJx c hc)
 have ha:=Lib.hid (QMO p)
 by_cases h3:p=3
 · subst h3
   go_enter Tryz.func133,Tryz.ntmps133
   go_wp2_with (first
    | (go_at_call 211;refine (hp.out _).mono ?_;rintro e w' ⟨rfl,rfl⟩))
   go_ret
   exact⟨rfl,rfl⟩
 · by_cases h4:p=4
   · subst h4
     go_enter Tryz.func133,Tryz.ntmps133
     go_wp2_with (first
      | (go_at_call 211;refine (hp.out _).mono ?_;rintro e w' ⟨rfl,rfl⟩))
     go_ret
     exact⟨rfl,rfl⟩
   · have H:=Lib.hid (show XT p c=qv p by unfold XT;rw[if_neg (by omega)])
     have e3:(p==3)=false:=by simpa using h3
     have e4:(p==4)=false:=by simpa using h4
     clear h3 h4
     go_enter Tryz.func133,Tryz.ntmps133
     go_wp2_with (first
      | (go_at_call 212;refine (ha.out _).mono ?_;rintro e w' ⟨rfl,rfl⟩))
     go_ret
     exact⟨Qn H.out.symm,rfl⟩
theorem fpB (c:Int)(hc:B8 c):0≤fp c∧fp c≤3:=by obtain⟨h0,h1⟩:=hc;unfold fp;omega
theorem fqB (c:Int)(hc:B8 c):0≤fq c∧fq c≤1:=by obtain⟨h0,h1⟩:=hc;unfold fq;omega
theorem B8.not {a:Int}(h:B8 a):B8 (255-a):=by obtain⟨h0,h1⟩:=h;exact⟨by omega,by omega⟩
theorem jD {s:Ms}(h:MsB s):B8 s.a:=h.r.af.hi
theorem Ql {s:Ms}(h:MsB s):B8 s.f:=h.r.af.lo8
theorem QAe {s:Ms}(h:MsB s):Wd16 s.hl:=h.r.pair _ _
theorem Xi {s:Ms}(h:MsB s):Wd16 s.pair:=h.r.pair _ _
theorem QNV:∀ x:Fin 256,bits .and .u8 (x.val:Int) 1=one (isM (x.val:Int) 0):=by decide +kernel
theorem QR2 (f:Int)(hf:B8 f)(w:World):(binOp .and 5 (.int .u8 f) (.int .u8 1)).run Tryz.prog w=.ok (.int .u8 (one (isM f 0))) w:=by
 rw[←QB (P:=fun f=>bits .and .u8 f 1=one (isM f 0)) QNV f hf.1 hf.2]
 exact QUH f 1 w
theorem QKx:∀ b0 b1 b2 b3 b4 c:Bool,bits .or .u8 (mkM b0 b1 b2 false b3 b4 false false) (one c)=JQ (mkM b0 b1 b2 false b3 b4 false false) 0 c:=by decide +kernel
theorem QQU (b:Int)(c:Bool)(w:World):(binOp .or 5 (.int .u8 (Jn b)) (.int .u8 (one c))).run Tryz.prog w=.ok (.int .u8 (JQ (Jn b) 0 c)) w:=by
 rw[QSS]
 unfold Jn
 rw[QKx]
theorem QMR (b:Int)(c:Bool)(w:World):(binOp .or 5 (.int .u8 (JE b)) (.int .u8 (one c))).run Tryz.prog w=.ok (.int .u8 (JQ (JE b) 0 c)) w:=by
 rw[QSS]
 unfold JE
 rw[QKx]
theorem QPz:∀ x:Fin 256,bits .or .u8 (x.val:Int) 4=JQ (x.val:Int) 2 true:=by decide +kernel
theorem bOrP (f:Int)(hf:B8 f)(w:World):(binOp .or 5 (.int .u8 f) (.int .u8 4)).run Tryz.prog w=.ok (.int .u8 (JQ f 2 true)) w:=by
 rw[←QB (P:=fun f=>bits .or .u8 f 4=JQ f 2 true) QPz f hf.1 hf.2]
 exact QSS f 4 w
theorem QM9:∀ b0 b1 b2 b3 c:Bool,JQ (JQ (mkM b0 b1 b2 false b3 false false false) 0 c) 2 false=JQ (mkM b0 b1 b2 false b3 false false false) 0 c:=by decide +kernel
theorem QMz (b:Int)(c:Bool):JQ (JQ (JE b) 0 c) 2 false=JQ (JE b) 0 c:=by
 unfold JE
 rw[QM9]
theorem mod4 (y:Int):y%4=0∨y%4=1∨y%4=2∨y%4=3:=by omega
theorem QDM {x k:Int}(h0:0≤x)(h:x%4=k)(w:World):(binOp .rem 3 (.int .i64 x) (.int .i64 4)).run Tryz.prog w=.ok (.int .i64 k) w:=by
 have e:x.tmod 4=k:=by rw[Int.tmod_eq_emod_of_nonneg h0];exact h
 have e2:IntKind.i64.wrap k=k:=by rw[IntKind.wrap_i64];omega
 simp[go_sem,e,e2]
theorem QSt (w:World):(Instr.indexAt 182 (pT 1 0) (.int .i64 0)).run Tryz.prog w=.ok (pT 1 0) w:=by simp[go_sem,Addr.add]
theorem QS8 (w:World):(Instr.indexAt 182 (pT 1 0) (.int .i64 1)).run Tryz.prog w=.ok (pT 1 1) w:=by simp[go_sem,Addr.add]
theorem QSj (w:World):(Instr.indexAt 182 (pT 1 0) (.int .i64 2)).run Tryz.prog w=.ok (pT 1 2) w:=by simp[go_sem,Addr.add]
theorem QTO (w:World):(Instr.indexAt 182 (pT 1 0) (.int .i64 3)).run Tryz.prog w=.ok (pT 1 3) w:=by simp[go_sem,Addr.add]
section
variable {ops:Array Oper} {Q:Exit→Act→World→Prop} {a:Act} {w w0:World} {o:Oper} {rest:List Oper} {p B:Nat} {s:Ms} {xs:List Int} {x y:Operand}
theorem zy (hn:NowN w0 p B s xs w)(i:Nat)(V:Value)(s':Ms){t:TypeId}(hd:o.dst=none)(hg:o.guard=none)(ho:o.op=.store t x y)(hx:a.eval x=pT p i)(hy:a.eval y=V)
 (hl:(Instr.storeAt t (pT p i) V).run Tryz.prog w=.ok () (w.setCell ⟨p,i,none⟩ V))(hs:∀ A n cap,(mC s A n cap).setIfInBounds i V=mC s' A n cap)(hb:MsB s')
 (h:∀ w',NowN w0 p B s' xs w'→WL Tryz.prog ops Q rest (a.put none undef) w'):WL Tryz.prog ops Q (o :: rest) a w:=QKe _ _ hd hg ho hx hy hl (h _ (hn.set i V s' hs hb))
end
theorem AtN.nil {w:World} {p B:Nat} {s:Ms}(h:AtN w p B s []):∃ A cap,w.cell? ⟨p,20,none⟩=some (.slice A 0 cap):=by
 obtain⟨A,cap,hc,hr,hb⟩:=h.row
 exact⟨A,cap,hr.cell 20⟩
theorem AtN.cons {w:World} {p B:Nat} {s:Ms} {b:Int} {bs:List Int}(h:AtN w p B s (b :: bs)):∃ ad cap,bs.length+1≤cap∧w.cell? ⟨p,20,none⟩=some (.slice (some ad) (bs.length+1) cap)∧w.cell? ad=some (.int .u8 b) ∧
 AtN (w.setCell ⟨p,20,none⟩ (.slice (some (if cap=1 then ad else ad.add 1)) bs.length (cap-1))) p B s bs:=by
 have hp:=h.lt
 obtain⟨⟨A,cap,hc,hr,hby⟩,hl,h8,hm,ht⟩:=h
 obtain⟨ad,rfl,hlt,hcell⟩:=hby 0 b rfl
 have hd:=hby.drop (k:=1) (cap:=cap) (by simp) hc
 have k:∀ v c,c < B→(w.setCell ⟨p,20,none⟩ v).heap[c]? = w.heap[c]?:=fun v c hlt=>Below.heap_setCell w _ v c (by show c≠p;omega)
 refine⟨ad,cap,by simpa using hc,by simpa using hr.cell 20,by simpa [Addr.add] using hcell,⟨⟨some (if cap=1 then ad else ad.add 1),cap-1,by simp at hc;omega,?_,?_⟩,hl,h8.tail,hm,ht.keep (k _)⟩⟩
 · have:=hr.set 20 (.slice (some (if cap=1 then ad else ad.add 1)) bs.length (cap-1))
   exact this
 · refine BytesIn.keep ?_ (k _)
   simp only[List.drop_succ_cons,List.drop_zero] at hd
   have e:(if cap=1 then some ad else (some ad).map (·.add 1))=some (if cap=1 then ad else ad.add 1):=by split<;>rfl
   rwa [e] at hd
theorem QF6 (c:Cy)(hc:Wd16 c.addr∧B8 c.data){s:Ms} {xs:List Int} {w:World} {p B:Nat}(h:AtN w p B s xs) :
 Calls Tryz.prog 90 #[pT p 0,cyV c] w (OutI w p B .u8 ((QT c s).run xs)):=by
 obtain⟨ck,ca,cd,ct⟩:=c
 cases xs with
 | nil =>
   obtain⟨A,cap,h20⟩:=h.nil
   have hp:=h.lt
   have bel:Besides p p w (w.alloc (.cells #[.int .i64 ck,.int .u16 ca,.int .u8 cd,.int .i64 ct] 29)):=(Besides.refl p p w).alloc _
   have h20':(w.alloc (.cells #[.int .i64 ck,.int .u16 ca,.int .u8 cd,.int .i64 ct] 29)).cell? ⟨p,20,none⟩=some (.slice A 0 cap):=Zg w _ h20
   clear h20
   have f0:∀ b w,(Instr.fieldAt 118 (pT b 0) 1).run Tryz.prog w=.ok (pT b 20) w:=fM1
   go_enter Tryz.func90,Tryz.ntmps90
   go_wp2
   exact⟨rfl,rfl,⟨bel,hc⟩⟩
 | cons b bs =>
   have hb0:B8 b:=h.bytes.head
   have hp:=h.lt
   have h':AtN (w.alloc (.cells #[.int .i64 ck,.int .u16 ca,.int .u8 cd,.int .i64 ct] 29)) p B s (b :: bs):=h.below (Below.alloc (Below.refl _ _) (Nat.le_refl _) _)
   have bel:Besides p p w (w.alloc (.cells #[.int .i64 ck,.int .u16 ca,.int .u8 cd,.int .i64 ct] 29)):=(Besides.refl p p w).alloc _
   clear h
   obtain⟨ad,cap,hcap,h20,hcell,hnext⟩:=h'.cons
   have hz:=h'.frozen 20
   have f0:∀ b w,(Instr.fieldAt 118 (pT b 0) 1).run Tryz.prog w=.ok (pT b 20) w:=fM1
   have hne:((bs.length:Int)+1==0)=false:=by simp;omega
   have hl0:¬((bs.length:Int)+1 < 1):=by omega
   have hl1:(0:Int) < (bs.length:Int)+1:=by omega
   have hl2:¬((cap:Int) < (bs.length:Int)+1):=by omega
   have hrun:(QT ⟨ck,ca,cd,ct⟩ s).run (b :: bs)=.ok ((b,s),bs):=Tr.run_done _ _
   have e:∀ v,(w.alloc (.cells #[.int .i64 ck,.int .u16 ca,.int .u8 cd,.int .i64 ct] 29)).setCell ⟨p,20,none⟩ v=(w.setCell ⟨p,20,none⟩ v).alloc (.cells #[.int .i64 ck,.int .u16 ca,.int .u8 cd,.int .i64 ct] 29):=fun v=>World.setCell_alloc_past _ _ _ v hp
   have bel2:∀ v,Besides p p w ((w.setCell ⟨p,20,none⟩ v).alloc (.cells #[.int .i64 ck,.int .u16 ca,.int .u8 cd,.int .i64 ct] 29)):=fun v=>((Besides.refl p p w).setCell (.inl rfl) v).alloc _
   rw[e] at hnext
   by_cases h1:cap=1
   · subst h1
     obtain rfl:bs=[]:=List.length_eq_zero_iff.1 (by omega)
     rw[if_pos rfl] at hnext
     go_enter Tryz.func90,Tryz.ntmps90
     go_wp2
     exact QO4 4 (.int .u8 b) rfl (by kernel_rfl) rfl (OutI.ok (k:=.u8) hrun hb0 ⟨hnext,bel2 _⟩)
   · rw[if_neg h1] at hnext
     simp only[Addr.add,Nat.one_ne_zero,if_false] at hnext
     go_enter Tryz.func90,Tryz.ntmps90
     go_wp2
     exact QO4 4 (.int .u8 b) rfl (by kernel_rfl) rfl (OutI.ok (k:=.u8) hrun hb0 ⟨hnext,bel2 _⟩)
end Go.Proofs.YtkenebbjodcbcaaGreatDoor
