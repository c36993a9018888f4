/- Contracts and facts that the claim's proof wants (several texts in one). -/
import Derived.Test.YtkgaeamdhhceiaaGreatDoorSrG5
import Derived.Test.YtkgaeamdhhceiaaGreatDoorSrG8
namespace Go.Proofs.YtkgaeamdhhceiaaGreatDoor
open Go.RowKit
set_option linter.unusedVariables false
set_option linter.unusedSimpArgs false
set_option maxRecDepth 20000
set_option maxHeartbeats 20000000
abbrev QI1 (r f:Int):Value:=.tuple #[.int .u16 r,.int .u8 f]
theorem QAi (f:Int)(hf:B8 f)(w:World) :
 Calls Tryz.prog 326 #[.int .u8 f] w fun e w'=>e=.returned (.bool (isM f 0))∧w=w':=by
 have k:=Lib.hid (QFx f hf.1 hf.2).2.1
 have f0:=hf.1
 have f1:=hf.2
 go_enter Tryz.func326,Tryz.ntmps326
 go_wp2
 go_ret
 exact⟨Qy k.out,rfl⟩
theorem QGe (a b low:Int)(ha:B8 a)(hb:B8 b)(hl:B8 low)(O L:Nat)(w:World)(hO:w.cell? ⟨O,0,none⟩=some (.func (.func 303) #[] #[]))(hL:w.cell? ⟨L,0,none⟩=some (.int .u8 low)) :
 Calls Tryz.prog 362 #[.int .u8 a,.int .u8 b,.pointer (some ⟨O,0,none⟩),.pointer (some ⟨L,0,none⟩)] w fun e w' =>
  e=.returned (two (XW a b (isM low 0)) (Xo (XX a b (isM low 0)) (bits .and .u8 (XX a b (isM low 0)) low) 64))∧Below w.heap.size w w':=by
 have hB:=hb
 clear hb
 have hf:=XE a b (isM low 0)
 have hg:B8 (bits .and .u8 (XX a b (isM low 0)) low):=QCf _ _ hf.1 hf.2 hl.1 hl.2
 go_enter Tryz.func362,Tryz.ntmps362
 go_wp2_with fail
 go_region_held3 (fun w'=>w'.cell? ⟨O,0,none⟩=some (.func (.func 303) #[] #[])∧w'.cell? ⟨L,0,none⟩=some (.int .u8 low)) (first|go_keep|exact QTa hb (by assumption))
  (first
  | (go_at_call 326;refine (QAi _ (by assumption) _).mono ?_;rintro e w' ⟨rfl,rfl⟩)
  | (go_at_call 303;refine (QBR _ _ _ (by assumption) (by assumption) _).mono ?_;rintro e w' ⟨rfl,hb⟩;have hsz:=hb.size))
 rename_i hh
 obtain⟨h1,h2⟩:=hh
 have f0:=hf.1
 have f1:=hf.2
 have l0:=hl.1
 have l1:=hl.2
 go_wp2_with (first
  | (go_at_call 273;refine (ZV _ _ _ (B8.lo (by assumption)) (B8.hi (by assumption)) (B8.lo (by assumption)) (B8.hi (by assumption)) (by omega) (by omega) _).mono ?_;rintro e w' ⟨rfl,rfl⟩))
 go_ret2
 exact⟨rfl,(by repeat (first|exact Below.refl _ _|assumption|refine Jc ?_ (by assumption)|refine Below.drew ?_|refine Below.alloc ?_ (by first|(simp;done)|(simp;omega)|omega) _|refine Below.setCell ?_ (by first|(simp;done)|(simp;omega)|omega) _))⟩
theorem QIh (a b:Int)(c:Bool)(ha:B8 a)(hb:B8 b)(w:World) :
 Calls Tryz.prog 352 #[.agg #[.func (.func 303) #[] #[]],.int .u8 a,.int .u8 b,.bool c] w fun e w'=>∃ O L,
  e=.returned (.tuple #[.int .u8 (XW a b c),.func (.func 362) #[] #[.pointer (some ⟨O,0,none⟩),.pointer (some ⟨L,0,none⟩)]]) ∧
  (w'.cell? ⟨O,0,none⟩=some (.func (.func 303) #[] #[])∧w'.cell? ⟨L,0,none⟩=some (.int .u8 (XX a b c)))∧Below w.heap.size w w':=by
 have hB:=hb
 clear hb
 go_enter Tryz.func352,Tryz.ntmps352
 go_wp2_with (first
  | (go_at_call 303;refine (QBR _ _ _ (by assumption) (by assumption) _).mono ?_;rintro e w' ⟨rfl,hb⟩;have hsz:=hb.size))
 go_ret2
 refine⟨w.heap.size,w'.heap.size,rfl,⟨cell_kept (q8 w _ _) (Below.trans hb (Below.alloc (Below.refl _ _) hsz _)),q8 _ _ _⟩,?_⟩
 (try simp only[World.size_alloc] at hsz)
 exact (by repeat (first|exact Below.refl _ _|assumption|refine Jc ?_ (by assumption)|refine Below.drew ?_|refine Below.alloc ?_ (by first|(simp;done)|(simp;omega)|omega) _|refine Below.setCell ?_ (by first|(simp;done)|(simp;omega)|omega) _))
theorem QCp (a b:Int)(c:Bool)(ha:W16 a)(hb:W16 b)(w:World) :
 Calls Tryz.prog 325 #[.agg #[.func (.func 303) #[] #[]],.int .u16 a,.int .u16 b,.bool c] w fun e w' =>
  e=.returned (QI1 (ZK a b c) (QAQ a b c))∧Below w.heap.size w w':=by
 have hB:=hb
 clear hb
 have al:=ha.low
 have ah:=ha.high
 have bl:=hB.low
 have bh:=hB.high
 have lf:=XE (a%256) (b%256) c
 have rl:=QV (a%256) (b%256) c
 have rh:=QV (a / 256) (b / 256) (isM (XX (a%256) (b%256) c) 0)
 have hw:=Lib.hid (QKe a b c ha hB)
 have hf:=Lib.hid (QNy a b c ha hB)
 go_enter Tryz.func325,Tryz.ntmps325
 go_wp2_with fail
 go_region_held3 (fun w'=>w'.cell? ⟨w.heap.size,0,none⟩=some (.func (.func 303) #[] #[])) (first|go_keep|exact cell_kept (by assumption) hb)
  (first
  | (go_at_call 193;refine (zH _ (W16.lo (by assumption)) (W16.hi (by assumption)) _).mono ?_;rintro e w' ⟨rfl,rfl⟩)
  | (go_at_call 352;refine (QIh _ _ _ (by assumption) (by assumption) _).mono ?_;rintro e w' ⟨O,L,rfl,hcell,hb⟩;have hsz:=hb.size))
 rename_i hh
 clear hh
 obtain⟨h1,h2⟩:=hcell
 go_wp2_with (first
  | (go_at_call 192;refine (zr _ (W16.lo (by assumption)) (W16.hi (by assumption)) _).mono ?_;rintro e w' ⟨rfl,rfl⟩)
  | (go_at_call 121;refine (J6 _ _ (B8.lo (by assumption)) (B8.hi (by assumption)) (B8.lo (by assumption)) (B8.hi (by assumption)) _).mono ?_;rintro e w' ⟨rfl,rfl⟩)
  | (go_at_call 362;refine (QGe _ _ (XX (a%256) (b%256) c) (by assumption) (by assumption) lf _ _ _ h1 h2).mono ?_;rintro e w2 ⟨rfl,hb2⟩;have hsz2:=hb2.size))
 go_ret2
 refine⟨by rw[←hw.out,←hf.out];rfl,?_⟩
 (try simp only[World.size_alloc] at hsz)
 exact (by repeat (first|exact Below.refl _ _|assumption|refine Jc ?_ (by assumption)|refine Below.drew ?_|refine Below.alloc ?_ (by first|(simp;done)|(simp;omega)|omega) _|refine Below.setCell ?_ (by first|(simp;done)|(simp;omega)|omega) _))
theorem QGm (a b low:Int)(ha:B8 a)(hb:B8 b)(hl:B8 low)(O L:Nat)(w:World)(hO:w.cell? ⟨O,0,none⟩=some (.func (.func 285) #[] #[]))(hL:w.cell? ⟨L,0,none⟩=some (.int .u8 low)) :
 Calls Tryz.prog 362 #[.int .u8 a,.int .u8 b,.pointer (some ⟨O,0,none⟩),.pointer (some ⟨L,0,none⟩)] w fun e w' =>
  e=.returned (two (QX a b (isM low 0)) (Xo (QM a b (isM low 0)) (bits .and .u8 (QM a b (isM low 0)) low) 64))∧Below w.heap.size w w':=by
 have hB:=hb
 clear hb
 have hf:=QG a b (isM low 0)
 have hg:B8 (bits .and .u8 (QM a b (isM low 0)) low):=QCf _ _ hf.1 hf.2 hl.1 hl.2
 go_enter Tryz.func362,Tryz.ntmps362
 go_wp2_with fail
 go_region_held3 (fun w'=>w'.cell? ⟨O,0,none⟩=some (.func (.func 285) #[] #[])∧w'.cell? ⟨L,0,none⟩=some (.int .u8 low)) (first|go_keep|exact QTa hb (by assumption))
  (first
  | (go_at_call 326;refine (QAi _ (by assumption) _).mono ?_;rintro e w' ⟨rfl,rfl⟩)
  | (go_at_call 285;refine (zi _ _ _ (by assumption) (by assumption) _).mono ?_;rintro e w' ⟨rfl,hb⟩;have hsz:=hb.size))
 rename_i hh
 obtain⟨h1,h2⟩:=hh
 have f0:=hf.1
 have f1:=hf.2
 have l0:=hl.1
 have l1:=hl.2
 go_wp2_with (first
  | (go_at_call 273;refine (ZV _ _ _ (B8.lo (by assumption)) (B8.hi (by assumption)) (B8.lo (by assumption)) (B8.hi (by assumption)) (by omega) (by omega) _).mono ?_;rintro e w' ⟨rfl,rfl⟩))
 go_ret2
 exact⟨rfl,(by repeat (first|exact Below.refl _ _|assumption|refine Jc ?_ (by assumption)|refine Below.drew ?_|refine Below.alloc ?_ (by first|(simp;done)|(simp;omega)|omega) _|refine Below.setCell ?_ (by first|(simp;done)|(simp;omega)|omega) _))⟩
theorem QHl (a b:Int)(c:Bool)(ha:B8 a)(hb:B8 b)(w:World) :
 Calls Tryz.prog 352 #[.agg #[.func (.func 285) #[] #[]],.int .u8 a,.int .u8 b,.bool c] w fun e w'=>∃ O L,
  e=.returned (.tuple #[.int .u8 (QX a b c),.func (.func 362) #[] #[.pointer (some ⟨O,0,none⟩),.pointer (some ⟨L,0,none⟩)]]) ∧
  (w'.cell? ⟨O,0,none⟩=some (.func (.func 285) #[] #[])∧w'.cell? ⟨L,0,none⟩=some (.int .u8 (QM a b c)))∧Below w.heap.size w w':=by
 have hB:=hb
 clear hb
 go_enter Tryz.func352,Tryz.ntmps352
 go_wp2_with (first
  | (go_at_call 285;refine (zi _ _ _ (by assumption) (by assumption) _).mono ?_;rintro e w' ⟨rfl,hb⟩;have hsz:=hb.size))
 go_ret2
 refine⟨w.heap.size,w'.heap.size,rfl,⟨cell_kept (q8 w _ _) (Below.trans hb (Below.alloc (Below.refl _ _) hsz _)),q8 _ _ _⟩,?_⟩
 (try simp only[World.size_alloc] at hsz)
 exact (by repeat (first|exact Below.refl _ _|assumption|refine Jc ?_ (by assumption)|refine Below.drew ?_|refine Below.alloc ?_ (by first|(simp;done)|(simp;omega)|omega) _|refine Below.setCell ?_ (by first|(simp;done)|(simp;omega)|omega) _))
theorem QHj (a b:Int)(c:Bool)(ha:W16 a)(hb:W16 b)(w:World) :
 Calls Tryz.prog 325 #[.agg #[.func (.func 285) #[] #[]],.int .u16 a,.int .u16 b,.bool c] w fun e w' =>
  e=.returned (QI1 (qK a b c) (QA4 a b c))∧Below w.heap.size w w':=by
 have hB:=hb
 clear hb
 have al:=ha.low
 have ah:=ha.high
 have bl:=hB.low
 have bh:=hB.high
 have lf:=QG (a%256) (b%256) c
 have rl:=QA (a%256) (b%256) c
 have rh:=QA (a / 256) (b / 256) (isM (QM (a%256) (b%256) c) 0)
 have hw:=Lib.hid (QKS a b c ha hB)
 have hf:=Lib.hid (QNb a b c ha hB)
 go_enter Tryz.func325,Tryz.ntmps325
 go_wp2_with fail
 go_region_held3 (fun w'=>w'.cell? ⟨w.heap.size,0,none⟩=some (.func (.func 285) #[] #[])) (first|go_keep|exact cell_kept (by assumption) hb)
  (first
  | (go_at_call 193;refine (zH _ (W16.lo (by assumption)) (W16.hi (by assumption)) _).mono ?_;rintro e w' ⟨rfl,rfl⟩)
  | (go_at_call 352;refine (QHl _ _ _ (by assumption) (by assumption) _).mono ?_;rintro e w' ⟨O,L,rfl,hcell,hb⟩;have hsz:=hb.size))
 rename_i hh
 clear hh
 obtain⟨h1,h2⟩:=hcell
 go_wp2_with (first
  | (go_at_call 192;refine (zr _ (W16.lo (by assumption)) (W16.hi (by assumption)) _).mono ?_;rintro e w' ⟨rfl,rfl⟩)
  | (go_at_call 121;refine (J6 _ _ (B8.lo (by assumption)) (B8.hi (by assumption)) (B8.lo (by assumption)) (B8.hi (by assumption)) _).mono ?_;rintro e w' ⟨rfl,rfl⟩)
  | (go_at_call 362;refine (QGm _ _ (QM (a%256) (b%256) c) (by assumption) (by assumption) lf _ _ _ h1 h2).mono ?_;rintro e w2 ⟨rfl,hb2⟩;have hsz2:=hb2.size))
 go_ret2
 refine⟨by rw[←hw.out,←hf.out];rfl,?_⟩
 (try simp only[World.size_alloc] at hsz)
 exact (by repeat (first|exact Below.refl _ _|assumption|refine Jc ?_ (by assumption)|refine Below.drew ?_|refine Below.alloc ?_ (by first|(simp;done)|(simp;omega)|omega) _|refine Below.setCell ?_ (by first|(simp;done)|(simp;omega)|omega) _))
theorem QE7 (w:World) :
 Calls Tryz.prog 327 #[] w fun e w'=>e=.returned (.agg #[.func (.func 303) #[] #[]])∧Below w.heap.size w w':=by
 go_enter Tryz.func327,Tryz.ntmps327
 go_wp2
 refine bodyPost_ret (v:=.agg #[.func (.func 303) #[] #[]]) (by simp[results,Tryz.f327,go_sem]) rfl ?_
 exact⟨rfl,(by repeat (first|exact Below.refl _ _|assumption|refine Jc ?_ (by assumption)|refine Below.drew ?_|refine Below.alloc ?_ (by first|(simp;done)|(simp;omega)|omega) _|refine Below.setCell ?_ (by first|(simp;done)|(simp;omega)|omega) _))⟩
theorem QEV (w:World) :
 Calls Tryz.prog 324 #[] w fun e w'=>e=.returned (.agg #[.func (.func 285) #[] #[]])∧Below w.heap.size w w':=by
 go_enter Tryz.func324,Tryz.ntmps324
 go_wp2
 refine bodyPost_ret (v:=.agg #[.func (.func 285) #[] #[]]) (by simp[results,Tryz.f324,go_sem]) rfl ?_
 exact⟨rfl,(by repeat (first|exact Below.refl _ _|assumption|refine Jc ?_ (by assumption)|refine Below.drew ?_|refine Below.alloc ?_ (by first|(simp;done)|(simp;omega)|omega) _|refine Below.setCell ?_ (by first|(simp;done)|(simp;omega)|omega) _))⟩
theorem QPS (a b f:Int)(ha:W16 a)(hb:W16 b)(hf:B8 f)(w:World) :
 Calls Tryz.prog 299 #[.int .u16 a,.int .u16 b,.int .u8 f] w fun e w'=>e=.returned (QI1 (ZK a b false) (QDA a b f))∧Below w.heap.size w w':=by
 have hB:=hb
 clear hb
 have hm:=Lib.hid (QN8 a b f)
 have hg:=QDJ a b false
 go_enter Tryz.func299,Tryz.ntmps299
 go_wp2_with (first
  | (go_at_call 327;refine (QE7 _).mono ?_;rintro e w' ⟨rfl,hb⟩;have hsz:=hb.size)
  | (go_at_call 325;refine (QCp _ _ _ (by assumption) (by assumption) _).mono ?_;rintro e w' ⟨rfl,hb⟩;have hsz:=hb.size)
  | (go_at_call 273;refine (ZV _ _ _ (B8.lo (by assumption)) (B8.hi (by assumption)) (B8.lo (by assumption)) (B8.hi (by assumption)) (by omega) (by omega) _).mono ?_;rintro e w' ⟨rfl,rfl⟩))
 go_ret2
 exact⟨by rw[←hm.out];rfl,(by repeat (first|exact Below.refl _ _|assumption|refine Jc ?_ (by assumption)|refine Below.drew ?_|refine Below.alloc ?_ (by first|(simp;done)|(simp;omega)|omega) _|refine Below.setCell ?_ (by first|(simp;done)|(simp;omega)|omega) _))⟩
theorem QQz (a b f:Int)(ha:W16 a)(hb:W16 b)(hf:B8 f)(w:World) :
 Calls Tryz.prog 281 #[.int .u16 a,.int .u16 b,.int .u8 f] w fun e w'=>e=.returned (QI1 (ZK a b (isM f 0)) (QAQ a b (isM f 0)))∧Below w.heap.size w w':=by
 have hB:=hb
 clear hb
 go_enter Tryz.func281,Tryz.ntmps281
 go_wp2_with (first
  | (go_at_call 327;refine (QE7 _).mono ?_;rintro e w' ⟨rfl,hb⟩;have hsz:=hb.size)
  | (go_at_call 326;refine (QAi _ (by assumption) _).mono ?_;rintro e w' ⟨rfl,rfl⟩)
  | (go_at_call 325;refine (QCp _ _ _ (by assumption) (by assumption) _).mono ?_;rintro e w' ⟨rfl,hb⟩;have hsz:=hb.size))
 go_ret2
 exact⟨rfl,(by repeat (first|exact Below.refl _ _|assumption|refine Jc ?_ (by assumption)|refine Below.drew ?_|refine Below.alloc ?_ (by first|(simp;done)|(simp;omega)|omega) _|refine Below.setCell ?_ (by first|(simp;done)|(simp;omega)|omega) _))⟩
theorem QPk (a b f:Int)(ha:W16 a)(hb:W16 b)(hf:B8 f)(w:World) :
 Calls Tryz.prog 279 #[.int .u16 a,.int .u16 b,.int .u8 f] w fun e w'=>e=.returned (QI1 (qK a b (isM f 0)) (QA4 a b (isM f 0)))∧Below w.heap.size w w':=by
 have hB:=hb
 clear hb
 go_enter Tryz.func279,Tryz.ntmps279
 go_wp2_with (first
  | (go_at_call 324;refine (QEV _).mono ?_;rintro e w' ⟨rfl,hb⟩;have hsz:=hb.size)
  | (go_at_call 326;refine (QAi _ (by assumption) _).mono ?_;rintro e w' ⟨rfl,rfl⟩)
  | (go_at_call 325;refine (QHj _ _ _ (by assumption) (by assumption) _).mono ?_;rintro e w' ⟨rfl,hb⟩;have hsz:=hb.size))
 go_ret2
 exact⟨rfl,(by repeat (first|exact Below.refl _ _|assumption|refine Jc ?_ (by assumption)|refine Below.drew ?_|refine Below.alloc ?_ (by first|(simp;done)|(simp;omega)|omega) _|refine Below.setCell ?_ (by first|(simp;done)|(simp;omega)|omega) _))⟩
theorem Zh (x y:Int)(hx:W16 x)(w:World) :
 Calls Tryz.prog 289 #[.int .u16 x,.int .i64 y] w fun e w'=>e=.returned (.int .u16 (JA x y))∧w=w':=by
 have x0:=hx.1
 have x1:=hx.2
 go_enter Tryz.func289,Tryz.ntmps289
 go_wp2
 go_ret
 exact⟨Qo (by simp only[IntKind.wrap_u16];unfold JA;omega),rfl⟩
theorem QI4 (x y:Int)(hx:W16 x)(hy:B8 y)(w:World) :
 Calls Tryz.prog 245 #[.int .u16 x,.int .u8 y] w fun e w'=>e=.returned (.int .u16 (JA x (JR y)))∧w=w':=by
 go_enter Tryz.func245,Tryz.ntmps245
 go_wp2_with (first
  | (go_at_call 295;refine (QLk _ (B8.lo (by assumption)) (B8.hi (by assumption)) _).mono ?_;rintro e w' ⟨rfl,rfl⟩)
  | (go_at_call 289;refine (Zh _ _ (by assumption) _).mono ?_;rintro e w' ⟨rfl,rfl⟩))
 go_ret
 exact⟨rfl,rfl⟩
abbrev three (r q f:Int):Value:=.tuple #[.int .u8 r,.int .u8 q,.int .u8 f]
theorem QVF (k b f:Int)(hb:B8 b)(hf:B8 f)(w:World)(hd:Courses w) :
 Calls Tryz.prog 220 #[.int .i64 k,.int .u8 b,.int .u8 f] w fun e w'=>e=.returned (two (doR k b f) (doF k b f))∧Below w.heap.size w w':=by
 have hB:=hb
 clear hb
 by_cases h:0≤k∧k < 8
 · have er:doR k b f=shM k b f:=if_pos h
   have ef:doF k b f=qO (shM k b f) (Zn k b):=if_pos h
   rw[er,ef,←QIp]
   have hs:=QAJ k b f hB
   obtain⟨h0,h1⟩:=h
   clear er ef
   generalize hR:shM k b f=R at hs ⊢
   generalize hO:Zn k b=O at ⊢
   have hR:=Lib.hid hR
   have hO:=Lib.hid hO
   have hm:=fun w hd=>QKd k b f h0 h1 hB hf w hd
   rw[hR.out,hO.out] at hm
   clear h0 h1 hR hO
   go_enter Tryz.func220,Tryz.ntmps220
   go_wp2_with (first
    | (go_at_call 269;refine (hm _ hd).mono ?_;rintro e w' ⟨rfl,hb⟩;have hsz:=hb.size)
    | (go_at_call 270;refine (Zf _ (B8.lo (by assumption)) (B8.hi (by assumption)) _).mono ?_;rintro e w' ⟨rfl,hb⟩;have hsz:=hb.size)
    | (go_at_call 271;refine (QEp _ _).mono ?_;rintro e w' ⟨rfl,rfl⟩))
   go_ret2
   exact⟨rfl,(by repeat (first|exact Below.refl _ _|assumption|refine Jc ?_ (by assumption)|refine Below.drew ?_|refine Below.alloc ?_ (by first|(simp;done)|(simp;omega)|omega) _|refine Below.setCell ?_ (by first|(simp;done)|(simp;omega)|omega) _))⟩
 · have er:doR k b f=b:=if_neg h
   have ef:doF k b f=f:=if_neg h
   rw[er,ef]
   have h':k < 0∨8≤k:=by omega
   clear h er ef
   have hm:=fun w hd=>QMn k b f h' hB hf w hd
   clear h'
   go_enter Tryz.func220,Tryz.ntmps220
   go_wp2_with (first
    | (go_at_call 269;refine (hm _ hd).mono ?_;rintro e w' ⟨rfl,hb⟩;have hsz:=hb.size))
   go_ret2
   exact⟨rfl,(by repeat (first|exact Below.refl _ _|assumption|refine Jc ?_ (by assumption)|refine Below.drew ?_|refine Below.alloc ?_ (by first|(simp;done)|(simp;omega)|omega) _|refine Below.setCell ?_ (by first|(simp;done)|(simp;omega)|omega) _))⟩
theorem QSO (k b f:Int)(hb:B8 b)(hf:B8 f)(w:World)(hd:Courses w) :
 Calls Tryz.prog 308 #[.int .i64 k,.int .u8 b,.int .u8 f] w fun e w'=>e=.returned (two (QCT k b f) (QCU k b f))∧Below w.heap.size w w':=by
 have hB:=hb
 clear hb
 by_cases h:0≤k∧k < 4
 · have er:QCT k b f=shM k b f:=if_pos h
   have ef:QCU k b f=Ze f (shM k b f) false false (Zn k b):=if_pos h
   rw[er,ef,←QOi]
   have hs:=QAJ k b f hB
   obtain⟨h0,h1⟩:=h
   clear er ef
   have hm:=fun w hd=>QKd k b f h0 (by omega) hB hf w hd
   generalize shM k b f=R at hs hm ⊢
   generalize Zn k b=O at hm ⊢
   have hq:=QD R
   go_enter Tryz.func308,Tryz.ntmps308
   go_wp2_with (first
    | (go_at_call 269;refine (hm _ hd).mono ?_;rintro e w' ⟨rfl,hb⟩;have hsz:=hb.size)
    | (go_at_call 322;refine (jl _ (B8.lo (by assumption)) (B8.hi (by assumption)) _).mono ?_;rintro e w' ⟨rfl,rfl⟩)
    | (go_at_call 273;refine (ZV _ _ _ (B8.lo (by assumption)) (B8.hi (by assumption)) (B8.lo (by assumption)) (B8.hi (by assumption)) (by omega) (by omega) _).mono ?_;rintro e w' ⟨rfl,rfl⟩)
    | (go_at_call 271;refine (QEp _ _).mono ?_;rintro e w' ⟨rfl,rfl⟩))
   go_ret2
   exact⟨rfl,(by repeat (first|exact Below.refl _ _|assumption|refine Jc ?_ (by assumption)|refine Below.drew ?_|refine Below.alloc ?_ (by first|(simp;done)|(simp;omega)|omega) _|refine Below.setCell ?_ (by first|(simp;done)|(simp;omega)|omega) _))⟩
 · have er:QCT k b f=b:=if_neg h
   have ef:QCU k b f=f:=if_neg h
   rw[er,ef]
   clear er ef
   by_cases h2:3 < k
   · clear h
     go_enter Tryz.func308,Tryz.ntmps308
     go_wp2_with fail
     go_ret2
     exact⟨rfl,(by repeat (first|exact Below.refl _ _|assumption|refine Jc ?_ (by assumption)|refine Below.drew ?_|refine Below.alloc ?_ (by first|(simp;done)|(simp;omega)|omega) _|refine Below.setCell ?_ (by first|(simp;done)|(simp;omega)|omega) _))⟩
   · have h3:k < 0:=by omega
     have hm:=fun w hd=>QMn k b f (by omega) hB hf w hd
     clear h
     go_enter Tryz.func308,Tryz.ntmps308
     go_wp2_with (first
      | (go_at_call 269;refine (hm _ hd).mono ?_;rintro e w' ⟨rfl,hb⟩;have hsz:=hb.size))
     go_ret2
     exact⟨rfl,(by repeat (first|exact Below.refl _ _|assumption|refine Jc ?_ (by assumption)|refine Below.drew ?_|refine Below.alloc ?_ (by first|(simp;done)|(simp;omega)|omega) _|refine Below.setCell ?_ (by first|(simp;done)|(simp;omega)|omega) _))⟩
theorem QN7 (right:Bool)(a b f:Int)(ha:B8 a)(hb:B8 b)(hf:B8 f)(w:World) :
 Calls Tryz.prog 330 #[.bool right,.int .u8 a,.int .u8 b,.int .u8 f] w fun e w'=>e=.returned (three (Z1 right a b) (QEP right a b) (qO (Z1 right a b) (isM f 0)))∧Below w.heap.size w w':=by
 have hB:=hb
 clear hb
 obtain⟨la,ua⟩:=QKE a ha
 obtain⟨lb,_⟩:=QKE b hB
 have lf:=QAp f hf
 have a0:=ha.1
 have a1:=ha.2
 have b0:=hB.1
 have b1:=hB.2
 cases right
 · have j1:bits .or .u8 (a / 16*16) (b / 16)=Z1 false a b:=QBW _ _ (by omega) (by omega) (by omega) (by omega)
   have j2:bits .or .u8 (b%16*16) (a%16)=QEP false a b:=QBW _ _ (by omega) (by omega) (by omega) (by omega)
   have hd:=Zj false a b ha hB
   rw[←QIp]
   go_enter Tryz.func330,Tryz.ntmps330
   go_wp2_with (first
    | (go_at_call 270;refine (Zf _ (B8.lo (by assumption)) (B8.hi (by assumption)) _).mono ?_;rintro e w' ⟨rfl,hb⟩;have hsz:=hb.size))
   go_ret3
   exact⟨rfl,(by repeat (first|exact Below.refl _ _|assumption|refine Jc ?_ (by assumption)|refine Below.drew ?_|refine Below.alloc ?_ (by first|(simp;done)|(simp;omega)|omega) _|refine Below.setCell ?_ (by first|(simp;done)|(simp;omega)|omega) _))⟩
 · have j1:bits .or .u8 (a / 16*16) (b%16)=Z1 true a b:=QBW _ _ (by omega) (by omega) (by omega) (by omega)
   have j2:bits .or .u8 (a%16*16) (b / 16)=QEP true a b:=QBW _ _ (by omega) (by omega) (by omega) (by omega)
   have hd:=Zj true a b ha hB
   rw[←QIp]
   go_enter Tryz.func330,Tryz.ntmps330
   go_wp2_with (first
    | (go_at_call 270;refine (Zf _ (B8.lo (by assumption)) (B8.hi (by assumption)) _).mono ?_;rintro e w' ⟨rfl,hb⟩;have hsz:=hb.size))
   go_ret3
   exact⟨rfl,(by repeat (first|exact Below.refl _ _|assumption|refine Jc ?_ (by assumption)|refine Below.drew ?_|refine Below.alloc ?_ (by first|(simp;done)|(simp;omega)|omega) _|refine Below.setCell ?_ (by first|(simp;done)|(simp;omega)|omega) _))⟩
theorem QJM (n b lines f:Int)(hb:B8 b)(hl:B8 lines)(hf:B8 f)(w:World) :
 Calls Tryz.prog 226 #[.int .i64 n,.int .u8 b,.int .u8 lines,.int .u8 f] w fun e w'=>e=.returned (.int .u8 (QAm n b lines f))∧w=w':=by
 have lf:=QAp f hf
 have km:=QQt lines f hf
 rw[lf] at km
 have ho:=QIS 16 (one (isM f 0)) (by omega) (by omega) (Q1 _).1 (by have:=(Q1 (isM f 0)).2;omega)
 have hq:B8 (bits .or .u8 16 (one (isM f 0))):=ho
 clear ho
 cases hi:isM b n
 · have hm:=QU0 n b lines f hi
   go_enter Tryz.func226,Tryz.ntmps226
   go_wp2_with (first
    | (go_at_call 274;refine (Xk _ _ (B8.lo (by assumption)) (B8.hi (by assumption)) _).mono ?_;rintro e w' ⟨rfl,rfl⟩)
    | (go_at_call 273;refine (ZV _ _ _ (B8.lo (by assumption)) (B8.hi (by assumption)) (B8.lo (by assumption)) (B8.hi (by assumption)) (by omega) (by omega) _).mono ?_;rintro e w' ⟨rfl,rfl⟩))
   go_ret
   exact⟨rfl,rfl⟩
 · by_cases h7:n=7
   · subst h7
     have hm:=QOM b lines f hi
     go_enter Tryz.func226,Tryz.ntmps226
     go_wp2_with (first
      | (go_at_call 274;refine (Xk _ _ (B8.lo (by assumption)) (B8.hi (by assumption)) _).mono ?_;rintro e w' ⟨rfl,rfl⟩)
      | (go_at_call 273;refine (ZV _ _ _ (B8.lo (by assumption)) (B8.hi (by assumption)) (B8.lo (by assumption)) (B8.hi (by assumption)) (by omega) (by omega) _).mono ?_;rintro e w' ⟨rfl,rfl⟩))
     go_ret
     exact⟨rfl,rfl⟩
   · have hm:=QSJ n b lines f hi h7
     have n7:(n==7)=false:=by simpa using h7
     clear h7
     go_enter Tryz.func226,Tryz.ntmps226
     go_wp2_with (first
      | (go_at_call 274;refine (Xk _ _ (B8.lo (by assumption)) (B8.hi (by assumption)) _).mono ?_;rintro e w' ⟨rfl,rfl⟩)
      | (go_at_call 273;refine (ZV _ _ _ (B8.lo (by assumption)) (B8.hi (by assumption)) (B8.lo (by assumption)) (B8.hi (by assumption)) (by omega) (by omega) _).mono ?_;rintro e w' ⟨rfl,rfl⟩))
     go_ret
     exact⟨rfl,rfl⟩
theorem cells3 (w:World)(t:TypeId)(x0 x1 x2:Int)(n:Nat×Nat):∀ j,j < [x0,x1,x2].length→(w.alloc (.cells #[.int .u8 x0,.int .u8 x1,.int .u8 x2] t n)).cell? ⟨w.heap.size,0+j,none⟩=some (.int .u8 ([x0,x1,x2].getD j 0)):=by
 have e:∀ o:Obj,(w.alloc o).heap[w.heap.size]?=some o:=fun o=>by
  show (w.heap.push _)[w.heap.size]?=_
  simp
 intro j hj
 match j,hj with
 | 0,_=>simp only[World.cell?,Nat.zero_add,e];rfl
 | 1,_=>simp only[World.cell?,Nat.zero_add,e];rfl
 | 2,_=>simp only[World.cell?,Nat.zero_add,e];rfl
theorem cells5 (w:World)(t:TypeId)(x0 x1 x2 x3 x4:Int)(n:Nat×Nat):∀ j,j < [x0,x1,x2,x3,x4].length→(w.alloc (.cells #[.int .u8 x0,.int .u8 x1,.int .u8 x2,.int .u8 x3,.int .u8 x4] t n)).cell? ⟨w.heap.size,0+j,none⟩=some (.int .u8 ([x0,x1,x2,x3,x4].getD j 0)):=by
 have e:∀ o:Obj,(w.alloc o).heap[w.heap.size]?=some o:=fun o=>by
  show (w.heap.push _)[w.heap.size]?=_
  simp
 intro j hj
 match j,hj with
 | 0,_=>simp only[World.cell?,Nat.zero_add,e];rfl
 | 1,_=>simp only[World.cell?,Nat.zero_add,e];rfl
 | 2,_=>simp only[World.cell?,Nat.zero_add,e];rfl
 | 3,_=>simp only[World.cell?,Nat.zero_add,e];rfl
 | 4,_=>simp only[World.cell?,Nat.zero_add,e];rfl
theorem QDK (h:Bool)(v:Int)(h0:0≤v)(h1:v≤255)(w:World) :
 Calls Tryz.prog 353 #[.bool h,.int .u8 v] w fun e w'=>e=.returned (.int .u8 (Qi h v))∧w=w':=by
 cases h
 all_goals
  go_enter Tryz.func353,Tryz.ntmps353
  go_wp2
  go_ret
  exact⟨rfl,rfl⟩
theorem QAE (b off len cap:Nat)(zs:List Int)(w:World)(hz:len≤zs.length)(hbig:len≤100)(hc:∀ j,j < zs.length→w.cell? ⟨b,off+j,none⟩=some (.int .u8 (zs.getD j 0))) :
 Calls Tryz.prog 331 #[.slice (some ⟨b,off,none⟩) len cap] w fun e w'=>e=.returned (.int .u8 (Qh zs len))∧w=w':=by
 go_enter Tryz.func331,Tryz.ntmps331
 go_wp2
 go_loop [3,8] (fun t i=>∃ k:Nat,k≤len∧i=.int .i64 k∧t=.int .u8 (Qh zs k)) (fun _ i=>len-(intOf i).toNat)
 case atStart=>exact⟨0,Nat.zero_le _,rfl,rfl⟩
 case round =>
  obtain⟨k,hk,rfl,rfl⟩:=hrel
  by_cases hlt:k < len
  · have hk0:(0:Int)≤(k:Int):=by omega
    have hk1:(k:Int) < (len:Int):=by omega
    have hcell:=hc k (by omega)
    have hc:=Lib.hid hc
    go_wp2
    go_round
    case rel=>exact⟨k+1,by omega,by go_num,rfl⟩
    case measure=>simp[intOf];omega
  · obtain rfl:k=len:=by omega
    go_wp2
    go_ret
    exact⟨rfl,rfl⟩
theorem QGK (bc:Int)(h0:0≤bc)(h1:bc≤65535)(w:World) :
 Calls Tryz.prog 332 #[.int .u16 bc] w fun e w'=>e=.returned (.int .u8 (Qi (bc != 0) 4))∧w=w':=by
 go_enter Tryz.func332,Tryz.ntmps332
 go_wp2_with (first
  | (go_at_call 353;refine (QDK _ _ (by omega) (by omega) _).mono ?_;rintro e w' ⟨rfl,rfl⟩))
 go_ret
 exact⟨rfl,rfl⟩
def QDk (n:Int):Int:=Qh [Qi (isM n 1) 32,Qi (isM n 3) 8] 2
theorem QDD (n:Int)(hn:B8 n)(w:World) :
 Calls Tryz.prog 333 #[.int .u8 n] w fun e w'=>e=.returned (.int .u8 (QDk n))∧Below w.heap.size w w':=by
 go_enter Tryz.func333,Tryz.ntmps333
 go_wp2_with (first
  | (go_at_call 274;refine (Xk _ _ (B8.lo (by assumption)) (B8.hi (by assumption)) _).mono ?_;rintro e w' ⟨rfl,rfl⟩)
  | (go_at_call 353;refine (QDK _ _ (by omega) (by omega) _).mono ?_;rintro e w' ⟨rfl,rfl⟩)
  | (go_at_call 331;refine (QAE _ 0 2 2 [Qi (isM n 1) 32,Qi (isM n 3) 8] _ (by simp) (by omega) (QQc _ _ _ _ _)).mono ?_;rintro e w' ⟨rfl,rfl⟩))
 go_ret
 exact⟨rfl,(by repeat (first|exact Below.refl _ _|assumption|refine Jc ?_ (by assumption)|refine Below.drew ?_|refine Below.alloc ?_ (by first|(simp;done)|(simp;omega)|omega) _|refine Below.setCell ?_ (by first|(simp;done)|(simp;omega)|omega) _))⟩
theorem QRX:∀ x:Fin 256,bits .and .u8 (x.val:Int) 193=mkM (isM (x.val:Int) 7) (isM (x.val:Int) 6) false false false false false (isM (x.val:Int) 0):=by decide +kernel
theorem QR6:∀ x:Fin 256,bits .and .u8 (x.val:Int) 208=mkM (isM (x.val:Int) 7) (isM (x.val:Int) 6) false (isM (x.val:Int) 4) false false false false:=by decide +kernel
theorem QUi:∀ x:Fin 256,(bits .and .u8 (x.val:Int) 16 != 0)=isM (x.val:Int) 4:=by decide +kernel
theorem QPB:∀ b7 b6 b0 p y x:Bool,Qh [mkM b7 b6 false false false false false b0,Qi p 4,Qh [Qi y 32,Qi x 8] 2] 3=mkM b7 b6 y false x p false b0:=by decide +kernel
theorem QQh:∀ b7 b6 b4 c p y x:Bool,Qh [mkM b7 b6 false b4 false false false false,2,one c,Qi p 4,Qh [Qi y 32,Qi x 8] 2] 5=mkM b7 b6 y b4 x p true c:=by decide +kernel
theorem QQM:∀ b7 z b5 b3 n k p:Bool,Qh [mkM b7 z b5 false b3 false false false,Qi n 2,Qi k 17,Qi p 4] 4=mkM b7 z b5 k b3 p n k:=by decide +kernel
theorem QNN (a b bc f:Int)(hf:B8 f):Qh [bits .and .u8 f 193,Qi (bc != 0) 4,QDk (QFy a b)] 3=moveF a b bc f:=by
 rw[QI (P:=fun x=>bits .and .u8 x 193=mkM (isM x 7) (isM x 6) false false false false false (isM x 0)) QRX f hf.1 hf.2]
 exact QPB _ _ _ _ _ _
theorem QNK (a b bc f:Int)(hf:B8 f):Qh [bits .and .u8 (QM a b false) 208,2,bits .and .u8 f 1,Qi (bc != 0) 4,QDk (lessM a b)] 5=jD a b bc f:=by
 have hg:=QG a b false
 rw[QAp f hf,QI (P:=fun x=>bits .and .u8 x 208=mkM (isM x 7) (isM x 6) false (isM x 4) false false false false) QR6 _ hg.1 hg.2]
 exact QQh _ _ _ _ _ _ _
theorem QOO (b k left:Int):Qh [JD left,Qi (isM b 7) 2,Qi (decide (255 < k)) 17,Qi (qG (jB (k%8) left)) 4] 4=Q5 b k left :=
 QQM _ _ _ _ _ _ _
theorem QOf (a b bc f:Int)(ha:B8 a)(hb:B8 b)(hf:B8 f)(h0:0≤bc)(h1:bc≤65535)(w:World) :
 Calls Tryz.prog 290 #[.int .u8 a,.int .u8 b,.int .u16 bc,.int .u8 f] w fun e w'=>e=.returned (.int .u8 (moveF a b bc f))∧Below w.heap.size w w':=by
 have hm:=Lib.hid (QNN a b bc f hf)
 have hn:=Lib.hid (QF1 a b)
 have a0:=ha.1;have a1:=ha.2;have b0:=hb.1;have b1:=hb.2
 clear ha hb
 go_enter Tryz.func290,Tryz.ntmps290
 go_wp2_with (first
  | (go_at_call 332;refine (QGK _ h0 h1 _).mono ?_;rintro e w' ⟨rfl,rfl⟩)
  | (go_at_call 333;refine (QDD _ hn.out _).mono ?_;rintro e w' ⟨rfl,hb⟩;have hsz:=hb.size)
  | (go_at_call 331;refine (QAE _ 0 3 3 [bits .and .u8 f 193,Qi (bc != 0) 4,QDk (QFy a b)] _ (by simp) (by omega) (cells3 _ _ _ _ _ _)).mono ?_;rintro e w' ⟨rfl,rfl⟩))
 go_ret
 exact⟨Qo hm.out,(by repeat (first|exact Below.refl _ _|assumption|refine Jc ?_ (by assumption)|refine Below.drew ?_|refine Below.alloc ?_ (by first|(simp;done)|(simp;omega)|omega) _|refine Below.setCell ?_ (by first|(simp;done)|(simp;omega)|omega) _))⟩
theorem QPW (a b bc f:Int)(ha:B8 a)(hb:B8 b)(hf:B8 f)(h0:0≤bc)(h1:bc≤65535)(w:World) :
 Calls Tryz.prog 291 #[.int .u8 a,.int .u8 b,.int .u16 bc,.int .u8 f] w fun e w'=>e=.returned (.int .u8 (jD a b bc f))∧Below w.heap.size w w':=by
 have hm:=Lib.hid (QNK a b bc f hf)
 have hn:=Lib.hid (QFU a b)
 have hs:=Lib.hid (fun w=>zi a b false ha hb w)
 have hg:=QG a b false
 have k4:=QI (P:=fun x=>(bits .and .u8 x 16 != 0)=isM x 4) QUi _ hg.1 hg.2
 cases hc:isM (QM a b false) 4
 · have hl:=Lib.hid (QIz a b hc)
   rw[hc] at k4
   clear hc ha hb hg
   generalize hR:QX a b false=R at *
   generalize hG:QM a b false=G at *
   clear hR hG
   have hl:=hl.out
   subst hl
   go_enter Tryz.func291,Tryz.ntmps291
   go_wp2_with (first
    | (go_at_call 285;refine (hs.out _).mono ?_;rintro e w' ⟨rfl,hb⟩;have hsz:=hb.size)
    | (go_at_call 332;refine (QGK _ h0 h1 _).mono ?_;rintro e w' ⟨rfl,rfl⟩)
    | (go_at_call 333;refine (QDD _ hn.out _).mono ?_;rintro e w' ⟨rfl,hb⟩;have hsz:=hb.size)
    | (go_at_call 331;refine (QAE _ 0 5 5 [bits .and .u8 G 208,2,bits .and .u8 f 1,Qi (bc != 0) 4,QDk (lessM a b)] _ (by simp) (by omega) (cells5 _ _ _ _ _ _ _ _)).mono ?_;rintro e w' ⟨rfl,rfl⟩))
   go_ret
   exact⟨Qo hm.out,(by repeat (first|exact Below.refl _ _|assumption|refine Jc ?_ (by assumption)|refine Below.drew ?_|refine Below.alloc ?_ (by first|(simp;done)|(simp;omega)|omega) _|refine Below.setCell ?_ (by first|(simp;done)|(simp;omega)|omega) _))⟩
 · have hl:=QLl a b hc
   have hr:=QA a b false
   have r0:=hr.1
   have r1:=hr.2
   rw[hc] at k4
   clear hc ha hb hg hr
   generalize hR:QX a b false=R at *
   generalize hG:QM a b false=G at *
   clear hR hG
   go_enter Tryz.func291,Tryz.ntmps291
   go_wp2_with (first
    | (go_at_call 285;refine (hs.out _).mono ?_;rintro e w' ⟨rfl,hb⟩;have hsz:=hb.size)
    | (go_at_call 332;refine (QGK _ h0 h1 _).mono ?_;rintro e w' ⟨rfl,rfl⟩)
    | (go_at_call 333;refine (QDD _ hn.out _).mono ?_;rintro e w' ⟨rfl,hb⟩;have hsz:=hb.size)
    | (go_at_call 331;refine (QAE _ 0 5 5 [bits .and .u8 G 208,2,bits .and .u8 f 1,Qi (bc != 0) 4,QDk (lessM a b)] _ (by simp) (by omega) (cells5 _ _ _ _ _ _ _ _)).mono ?_;rintro e w' ⟨rfl,rfl⟩))
   go_ret
   exact⟨Qo hm.out,(by repeat (first|exact Below.refl _ _|assumption|refine Jc ?_ (by assumption)|refine Below.drew ?_|refine Below.alloc ?_ (by first|(simp;done)|(simp;omega)|omega) _|refine Below.setCell ?_ (by first|(simp;done)|(simp;omega)|omega) _))⟩
theorem QKB (b l left:Int)(hB:B8 b)(hl:B8 l)(hL:B8 left)(w:World) :
 Calls Tryz.prog 334 #[.int .u8 b,.int .u8 l,.int .u8 left] w fun e w'=>e=.returned (.int .u8 (Q5 b (b+l) left))∧Below w.heap.size w w':=by
 have hm:=Lib.hid (QOO b (b+l) left)
 have hx:=QNL ((b+l)%8) left ⟨by omega,by omega⟩ hL
 have hr:B8 (jB ((b+l)%8) left):=J7 ..
 have b0:=hB.1;have b1:=hB.2;have l0:=hl.1;have l1:=hl.2
 go_enter Tryz.func334,Tryz.ntmps334
 go_wp2_with (first
  | (go_at_call 322;refine (jl _ (B8.lo (by assumption)) (B8.hi (by assumption)) _).mono ?_;rintro e w' ⟨rfl,rfl⟩)
  | (go_at_call 274;refine (Xk _ _ (B8.lo (by assumption)) (B8.hi (by assumption)) _).mono ?_;rintro e w' ⟨rfl,rfl⟩)
  | (go_at_call 353;refine (QDK _ _ (by omega) (by omega) _).mono ?_;rintro e w' ⟨rfl,rfl⟩)
  | (go_at_call 323;refine (QJW _ (B8.lo (by assumption)) (B8.hi (by assumption)) _).mono ?_;rintro e w' ⟨rfl,hb⟩;have hsz:=hb.size)
  | (go_at_call 331;refine (QAE _ 0 4 4 [JD left,Qi (isM b 7) 2,Qi (decide (255 < b+l)) 17,Qi (qG (jB ((b+l)%8) left)) 4] _ (by simp) (by omega) (QQJ _ _ _ _ _ _ _)).mono ?_;rintro e w' ⟨rfl,rfl⟩))
 go_ret
 exact⟨Qo hm.out,(by repeat (first|exact Below.refl _ _|assumption|refine Jc ?_ (by assumption)|refine Below.drew ?_|refine Below.alloc ?_ (by first|(simp;done)|(simp;omega)|omega) _|refine Below.setCell ?_ (by first|(simp;done)|(simp;omega)|omega) _))⟩
theorem QRE (b c left s:Int)(hB:B8 b)(hc:B8 c)(hL:B8 left)(w:World) :
 Calls Tryz.prog 293 #[.int .u8 b,.int .u8 c,.int .u8 left,.int .i64 s] w fun e w'=>e=.returned (.int .u8 (Q5 b (b+byC c s) left))∧Below w.heap.size w w':=by
 have hw:IntKind.u8.wrap s=s%256:=IntKind.wrap_u8 s
 have hq:(c+s%256)%256=byC c s:=by unfold byC;omega
 have hr:=QJR c s
 go_enter Tryz.func293,Tryz.ntmps293
 go_wp2_with (first
  | (go_at_call 334;refine (QKB _ _ _ (by assumption) (by assumption) (by assumption) _).mono ?_;rintro e w' ⟨rfl,hb⟩;have hsz:=hb.size))
 go_ret
 exact⟨rfl,(by repeat (first|exact Below.refl _ _|assumption|refine Jc ?_ (by assumption)|refine Below.drew ?_|refine Below.alloc ?_ (by first|(simp;done)|(simp;omega)|omega) _|refine Below.setCell ?_ (by first|(simp;done)|(simp;omega)|omega) _))⟩
theorem QQr (b l left:Int)(hB:B8 b)(hl:B8 l)(hL:B8 left)(w:World) :
 Calls Tryz.prog 294 #[.int .u8 b,.int .u8 l,.int .u8 left] w fun e w'=>e=.returned (.int .u8 (Q5 b (b+l) left))∧Below w.heap.size w w':=by
 go_enter Tryz.func294,Tryz.ntmps294
 go_wp2_with (first
  | (go_at_call 334;refine (QKB _ _ _ (by assumption) (by assumption) (by assumption) _).mono ?_;rintro e w' ⟨rfl,hb⟩;have hsz:=hb.size))
 go_ret
 exact⟨rfl,(by repeat (first|exact Below.refl _ _|assumption|refine Jc ?_ (by assumption)|refine Below.drew ?_|refine Below.alloc ?_ (by first|(simp;done)|(simp;omega)|omega) _|refine Below.setCell ?_ (by first|(simp;done)|(simp;omega)|omega) _))⟩
theorem ZB (kind f:Int)(hf:B8 f)(w:World) :
 Calls Tryz.prog 241 #[.int .i64 kind,.int .u8 f] w fun e w'=>e=.returned (.bool (Jn kind f))∧w=w':=by
 obtain⟨k6,-,k2,-⟩:=QFx f hf.1 hf.2
 by_cases hc:kind < 0∨4≤kind
 · rw[QFQ kind f hc]
   have n0:(kind==0)=false:=by simp;omega
   have n1:(kind==1)=false:=by simp;omega
   have n2:(kind==2)=false:=by simp;omega
   have n3:(kind==3)=false:=by simp;omega
   clear hc
   cases hz:isM f 6
   all_goals
    rw[hz] at k6
    go_enter Tryz.func241,Tryz.ntmps241
    go_wp2
    go_ret
    exact⟨rfl,rfl⟩
 · obtain rfl|rfl|rfl|rfl:kind=0∨kind=1∨kind=2∨kind=3:=by omega
   all_goals
    clear hc
    cases hz:isM f 6<;>cases hp:isM f 2
    all_goals
     rw[hz] at k6
     rw[hp] at k2
     go_enter Tryz.func241,Tryz.ntmps241
     go_wp2
     go_ret
     exact⟨Qy (by simp[Jn,hz,hp]),rfl⟩
abbrev five (c:Int):Value:=.tuple #[.int .i64 (fx c),.int .i64 (fy c),.int .i64 (fz c),.int .i64 (fp c),.int .i64 (fq c)]
theorem QC4 {fn:Func} {t u v x y:Tmp}(h:fn.results=#[.tmp t,.tmp u,.tmp v,.tmp x,.tmp y])(tmps:Array Value)(P:Program)(w:World) :
 (results fn tmps).run P w=.ok (.tuple #[tmps.getD t undef,tmps.getD u undef,tmps.getD v undef,tmps.getD x undef,tmps.getD y undef]) w:=by simp[results,h]
theorem zl (c:Int)(hc:B8 c)(w:World) :
 Calls Tryz.prog 88 #[.int .u8 c] w fun e w'=>e=.returned (five c)∧w=w':=by
 obtain⟨h0,h1⟩:=hc
 go_enter Tryz.func88,Tryz.ntmps88
 go_wp2
 refine bodyPost_ret (QC4 rfl _ _ _) rfl ?_
 exact⟨rfl,rfl⟩
theorem QFR (c:Int)(hc:B8 c)(w:World) :
 Calls Tryz.prog 218 #[.int .u8 c] w fun e w'=>e=.returned (five c)∧w=w':=by
 obtain⟨h0,h1⟩:=hc
 go_enter Tryz.func218,Tryz.ntmps218
 go_wp2
 refine bodyPost_ret (QC4 rfl _ _ _) rfl ?_
 refine⟨?_,rfl⟩
 have e1:c / 8%8 / 2=c / 16%4:=by omega
 have e2:c / 8%8%2=c / 8%2:=by omega
 show Ending.returned (.tuple #[.int .i64 (c / 64),.int .i64 (c / 8%8),.int .i64 (c%8),.int .i64 (c / 8%8 / 2),.int .i64 (c / 8%8%2)])=_
 rw[e1,e2]
 rfl
theorem QUk (c:Int)(hc:B8 c):0≤fx c∧fx c≤3:=by obtain⟨h0,h1⟩:=hc;unfold fx;omega
theorem QGB (c:Int)(hc:B8 c):0≤fy c∧fy c≤7:=by obtain⟨h0,h1⟩:=hc;unfold fy;omega
theorem QTq (c:Int)(hc:B8 c):0≤fz c∧fz c≤7:=by obtain⟨h0,h1⟩:=hc;unfold fz;omega
theorem QO6 (p:Int)(h:p < 0∨6 < p):(p==0)=false∧(p==1)=false∧(p==2)=false∧(p==3)=false∧(p==4)=false∧(p==5)=false∧(p==6)=false:=by
 simp only[beq_eq_false_iff_ne]
 omega
theorem QK0 (p c:Int)(hc:B8 c)(w:World) :
 Calls Tryz.prog 202 #[.int .i64 p,.int .u8 c] w fun e w'=>e=.returned (.bool (Xa p c))∧w=w':=by
 have bx:=QUk c hc
 have bY:=QGB c hc
 have bz:=QTq c hc
 have hf:=Lib.hid (zl c hc)
 by_cases hp:p < 0∨6 < p
 · have h:=hp
   obtain⟨n0,n1,n2,n3,n4,n5,n6⟩:=QO6 p h
   go_enter Tryz.func202,Tryz.ntmps202
   go_wp2_with (first
    | (go_at_call 88;refine (hf.out _).mono ?_;rintro e w' ⟨rfl,rfl⟩))
   go_ret
   exact⟨Qy (by unfold Xa;rw[if_neg (by omega)];unfold zt;rw[n5,n6];rfl),rfl⟩
 obtain rfl|rfl|rfl|rfl|rfl|rfl|rfl:p=0∨p=1∨p=2∨p=3∨p=4∨p=5∨p=6:=by omega
 all_goals
  clear hp
  cases hy6:(fy c==6)<;>cases hz6:(fz c==6)
  all_goals
   go_enter Tryz.func202,Tryz.ntmps202
   go_wp2_with (first
    | (go_at_call 88;refine (hf.out _).mono ?_;rintro e w' ⟨rfl,rfl⟩))
   all_goals
    go_ret
    refine⟨Qy ?_,rfl⟩
    (try unfold Xa zt qW)
    (try simp[*])
    (try simp_all)
    (try omega)
theorem QMr (p:Int)(w:World) :
 Calls Tryz.prog 244 #[.int .i64 p] w fun e w'=>e=.returned (.bool (zt p))∧w=w':=by
 have h:zt p=(p==5||p==6):=rfl
 cases h5:(p==5)<;>cases h6:(p==6)
 all_goals
  rw[h5,h6] at h
  have H:=Lib.hid h
  clear h
  go_enter Tryz.func244,Tryz.ntmps244
  go_wp2
  go_ret
  exact⟨Qy (by rw[H.out];rfl),rfl⟩
theorem QK4 (c:Int)(hc:B8 c)(w:World) :
 Calls Tryz.prog 243 #[.int .u8 c] w fun e w'=>e=.returned (.bool (qW c))∧w=w':=by
 have bx:=QUk c hc
 have bY:=QGB c hc
 have bz:=QTq c hc
 have hf:=Lib.hid (QFR c hc)
 cases hy6:(fy c==6)<;>cases hz6:(fz c==6)
 all_goals
  go_enter Tryz.func243,Tryz.ntmps243
  go_wp2_with (first
   | (go_at_call 218;refine (hf.out _).mono ?_;rintro e w' ⟨rfl,rfl⟩))
  all_goals
   go_ret
   refine⟨Qy ?_,rfl⟩
   (try unfold qW)
   (try simp[*])
   (try simp_all)
   (try omega)
theorem QNg (p c:Int)(hc:B8 c)(w:World) :
 Calls Tryz.prog 184 #[.int .i64 p,.int .u8 c] w fun e w'=>e=.returned (.bool (Xa p c))∧w=w':=by
 have hp:=Lib.hid (QK4 c hc)
 have ha:=Lib.hid (QMr p)
 by_cases h3:p=3
 · subst h3
   go_enter Tryz.func184,Tryz.ntmps184
   go_wp2_with (first
    | (go_at_call 243;refine (hp.out _).mono ?_;rintro e w' ⟨rfl,rfl⟩))
   go_ret
   exact⟨rfl,rfl⟩
 · by_cases h4:p=4
   · subst h4
     go_enter Tryz.func184,Tryz.ntmps184
     go_wp2_with (first
      | (go_at_call 243;refine (hp.out _).mono ?_;rintro e w' ⟨rfl,rfl⟩))
     go_ret
     exact⟨rfl,rfl⟩
   · have H:=Lib.hid (show Xa p c=zt p by unfold Xa;rw[if_neg (by omega)])
     have e3:(p==3)=false:=by simpa using h3
     have e4:(p==4)=false:=by simpa using h4
     clear h3 h4
     go_enter Tryz.func184,Tryz.ntmps184
     go_wp2_with (first
      | (go_at_call 244;refine (ha.out _).mono ?_;rintro e w' ⟨rfl,rfl⟩))
     go_ret
     exact⟨Qy H.out.symm,rfl⟩
theorem fpB (c:Int)(hc:B8 c):0≤fp c∧fp c≤3:=by obtain⟨h0,h1⟩:=hc;unfold fp;omega
theorem fqB (c:Int)(hc:B8 c):0≤fq c∧fq c≤1:=by obtain⟨h0,h1⟩:=hc;unfold fq;omega
theorem B8.not {a:Int}(h:B8 a):B8 (255-a):=by obtain⟨h0,h1⟩:=h;exact⟨by omega,by omega⟩
theorem jU {s:Ms}(h:MsB s):B8 s.a:=h.r.af.hi
theorem Qv {s:Ms}(h:MsB s):B8 s.f:=h.r.af.lo8
theorem QBy {s:Ms}(h:MsB s):Wd16 s.hl:=h.r.pair _ _
theorem Xv {s:Ms}(h:MsB s):Wd16 s.pair:=h.r.pair _ _
theorem QQW:∀ x:Fin 256,bits .and .u8 (x.val:Int) 1=one (isM (x.val:Int) 0):=by decide +kernel
theorem QU4 (f:Int)(hf:B8 f)(w:World):(binOp .and 5 (.int .u8 f) (.int .u8 1)).run Tryz.prog w=.ok (.int .u8 (one (isM f 0))) w:=by
 rw[←QI (P:=fun f=>bits .and .u8 f 1=one (isM f 0)) QQW f hf.1 hf.2]
 exact QV1 f 1 w
theorem QMP:∀ b0 b1 b2 b3 b4 c:Bool,bits .or .u8 (mkM b0 b1 b2 false b3 b4 false false) (one c)=JO (mkM b0 b1 b2 false b3 b4 false false) 0 c:=by decide +kernel
theorem QRf (b:Int)(c:Bool)(w:World):(binOp .or 5 (.int .u8 (Js b)) (.int .u8 (one c))).run Tryz.prog w=.ok (.int .u8 (JO (Js b) 0 c)) w:=by
 rw[QUY]
 unfold Js
 rw[QMP]
theorem QNe (b:Int)(c:Bool)(w:World):(binOp .or 5 (.int .u8 (JD b)) (.int .u8 (one c))).run Tryz.prog w=.ok (.int .u8 (JO (JD b) 0 c)) w:=by
 rw[QUY]
 unfold JD
 rw[QMP]
theorem QRs:∀ x:Fin 256,bits .or .u8 (x.val:Int) 4=JO (x.val:Int) 2 true:=by decide +kernel
theorem bOrP (f:Int)(hf:B8 f)(w:World):(binOp .or 5 (.int .u8 f) (.int .u8 4)).run Tryz.prog w=.ok (.int .u8 (JO f 2 true)) w:=by
 rw[←QI (P:=fun f=>bits .or .u8 f 4=JO f 2 true) QRs f hf.1 hf.2]
 exact QUY f 4 w
theorem QN3:∀ b0 b1 b2 b3 c:Bool,JO (JO (mkM b0 b1 b2 false b3 false false false) 0 c) 2 false=JO (mkM b0 b1 b2 false b3 false false false) 0 c:=by decide +kernel
theorem QNU (b:Int)(c:Bool):JO (JO (JD b) 0 c) 2 false=JO (JD b) 0 c:=by
 unfold JD
 rw[QN3]
theorem mod4 (y:Int):y%4=0∨y%4=1∨y%4=2∨y%4=3:=by omega
theorem QEF {x k:Int}(h0:0≤x)(h:x%4=k)(w:World):(binOp .rem 3 (.int .i64 x) (.int .i64 4)).run Tryz.prog w=.ok (.int .i64 k) w:=by
 have e:x.tmod 4=k:=by rw[Int.tmod_eq_emod_of_nonneg h0];exact h
 have e2:IntKind.i64.wrap k=k:=by rw[IntKind.wrap_i64];omega
 simp[go_sem,e,e2]
theorem QUj (w:World):(Instr.indexAt 196 (pT 0 0) (.int .i64 0)).run Tryz.prog w=.ok (pT 0 0) w:=by simp[go_sem,Addr.add]
theorem QUs (w:World):(Instr.indexAt 196 (pT 0 0) (.int .i64 1)).run Tryz.prog w=.ok (pT 0 1) w:=by simp[go_sem,Addr.add]
theorem QUz (w:World):(Instr.indexAt 196 (pT 0 0) (.int .i64 2)).run Tryz.prog w=.ok (pT 0 2) w:=by simp[go_sem,Addr.add]
theorem QTs (w:World):(Instr.indexAt 196 (pT 0 0) (.int .i64 3)).run Tryz.prog w=.ok (pT 0 3) w:=by simp[go_sem,Addr.add]
section
variable {ops:Array Oper} {Q:Exit→Act→World→Prop} {a:Act} {w w0:World} {o:Oper} {rest:List Oper} {p B:Nat} {s:Ms} {xs:List Int} {x y:Operand}
theorem QAy (hn:NowN w0 p B s xs w)(i:Nat)(V:Value)(s':Ms){t:TypeId}(hd:o.dst=none)(hg:o.guard=none)(ho:o.op=.store t x y)(hx:a.eval x=pT p i)(hy:a.eval y=V)
 (hl:(Instr.storeAt t (pT p i) V).run Tryz.prog w=.ok () (w.setCell ⟨p,i,none⟩ V))(hs:∀ A n cap,(mC s A n cap).setIfInBounds i V=mC s' A n cap)(hb:MsB s')
 (h:∀ w',NowN w0 p B s' xs w'→WL Tryz.prog ops Q rest (a.put none undef) w'):WL Tryz.prog ops Q (o :: rest) a w:=QLK _ _ hd hg ho hx hy hl (h _ (hn.set i V s' hs hb))
end
theorem AtN.nil {w:World} {p B:Nat} {s:Ms}(h:AtN w p B s []):∃ A cap,w.cell? ⟨p,20,none⟩=some (.slice A 0 cap):=by
 obtain⟨A,cap,hc,hr,hb⟩:=h.row
 exact⟨A,cap,hr.cell 20⟩
theorem AtN.cons {w:World} {p B:Nat} {s:Ms} {b:Int} {bs:List Int}(h:AtN w p B s (b :: bs)):∃ ad cap,bs.length+1≤cap∧w.cell? ⟨p,20,none⟩=some (.slice (some ad) (bs.length+1) cap)∧w.cell? ad=some (.int .u8 b) ∧
 AtN (w.setCell ⟨p,20,none⟩ (.slice (some (if cap=1 then ad else ad.add 1)) bs.length (cap-1))) p B s bs:=by
 have hp:=h.lt
 obtain⟨⟨A,cap,hc,hr,hby⟩,hl,h8,hm,ht⟩:=h
 obtain⟨ad,rfl,hlt,hcell⟩:=hby 0 b rfl
 have hd:=hby.drop (k:=1) (cap:=cap) (by simp) hc
 have k:∀ v c,c < B→(w.setCell ⟨p,20,none⟩ v).heap[c]?=w.heap[c]?:=fun v c hlt=>Below.heap_setCell w _ v c (by show c≠p;omega)
 refine⟨ad,cap,by simpa using hc,by simpa using hr.cell 20,by simpa [Addr.add] using hcell,⟨⟨some (if cap=1 then ad else ad.add 1),cap-1,by simp at hc;omega,?_,?_⟩,hl,h8.tail,hm,ht.keep (k _)⟩⟩
 · have:=hr.set 20 (.slice (some (if cap=1 then ad else ad.add 1)) bs.length (cap-1))
   exact this
 · refine BytesIn.keep ?_ (k _)
   simp only[List.drop_succ_cons,List.drop_zero] at hd
   have e:(if cap=1 then some ad else (some ad).map (·.add 1))=some (if cap=1 then ad else ad.add 1):=by split<;>rfl
   rwa [e] at hd
theorem QG5 (c:Cy)(hc:Wd16 c.addr∧B8 c.data){s:Ms} {xs:List Int} {w:World} {p B:Nat}(h:AtN w p B s xs) :
 Calls Tryz.prog 114 #[pT p 0,cyV c] w (OutI w p B .u8 ((Qa c s).run xs)):=by
 obtain⟨ck,ca,cd,ct⟩:=c
 cases xs with
 | nil =>
   obtain⟨A,cap,h20⟩:=h.nil
   have hp:=h.lt
   have bel:Besides p p w (w.alloc (.cells #[.int .i64 ck,.int .u16 ca,.int .u8 cd,.int .i64 ct] 54)):=(Besides.refl p p w).alloc _
   have h20':(w.alloc (.cells #[.int .i64 ck,.int .u16 ca,.int .u8 cd,.int .i64 ct] 54)).cell? ⟨p,20,none⟩=some (.slice A 0 cap):=Z9 w _ h20
   clear h20
   have f0:∀ b w,(Instr.fieldAt 111 (pT b 0) 1).run Tryz.prog w=.ok (pT b 20) w:=fM1
   go_enter Tryz.func114,Tryz.ntmps114
   go_wp2
   exact⟨rfl,rfl,⟨bel,hc⟩⟩
 | cons b bs =>
   have hb0:B8 b:=h.bytes.head
   have hp:=h.lt
   have h':AtN (w.alloc (.cells #[.int .i64 ck,.int .u16 ca,.int .u8 cd,.int .i64 ct] 54)) p B s (b :: bs):=h.below (Below.alloc (Below.refl _ _) (Nat.le_refl _) _)
   have bel:Besides p p w (w.alloc (.cells #[.int .i64 ck,.int .u16 ca,.int .u8 cd,.int .i64 ct] 54)):=(Besides.refl p p w).alloc _
   clear h
   obtain⟨ad,cap,hcap,h20,hcell,hnext⟩:=h'.cons
   have hz:=h'.frozen 20
   have f0:∀ b w,(Instr.fieldAt 111 (pT b 0) 1).run Tryz.prog w=.ok (pT b 20) w:=fM1
   have hne:((bs.length:Int)+1==0)=false:=by simp;omega
   have hl0:¬((bs.length:Int)+1 < 1):=by omega
   have hl1:(0:Int) < (bs.length:Int)+1:=by omega
   have hl2:¬((cap:Int) < (bs.length:Int)+1):=by omega
   have hrun:(Qa ⟨ck,ca,cd,ct⟩ s).run (b :: bs)=.ok ((b,s),bs):=Tr.run_done _ _
   have e:∀ v,(w.alloc (.cells #[.int .i64 ck,.int .u16 ca,.int .u8 cd,.int .i64 ct] 54)).setCell ⟨p,20,none⟩ v=(w.setCell ⟨p,20,none⟩ v).alloc (.cells #[.int .i64 ck,.int .u16 ca,.int .u8 cd,.int .i64 ct] 54):=fun v=>World.setCell_alloc_past _ _ _ v hp
   have bel2:∀ v,Besides p p w ((w.setCell ⟨p,20,none⟩ v).alloc (.cells #[.int .i64 ck,.int .u16 ca,.int .u8 cd,.int .i64 ct] 54)):=fun v=>((Besides.refl p p w).setCell (.inl rfl) v).alloc _
   rw[e] at hnext
   by_cases h1:cap=1
   · subst h1
     obtain rfl:bs=[]:=List.length_eq_zero_iff.1 (by omega)
     rw[if_pos rfl] at hnext
     go_enter Tryz.func114,Tryz.ntmps114
     go_wp2
     exact QQE 4 (.int .u8 b) rfl (by kernel_rfl) rfl (OutI.ok (k:=.u8) hrun hb0 ⟨hnext,bel2 _⟩)
   · rw[if_neg h1] at hnext
     simp only[Addr.add,Nat.one_ne_zero,if_false] at hnext
     go_enter Tryz.func114,Tryz.ntmps114
     go_wp2
     exact QQE 4 (.int .u8 b) rfl (by kernel_rfl) rfl (OutI.ok (k:=.u8) hrun hb0 ⟨hnext,bel2 _⟩)
end Go.Proofs.YtkgaeamdhhceiaaGreatDoor
