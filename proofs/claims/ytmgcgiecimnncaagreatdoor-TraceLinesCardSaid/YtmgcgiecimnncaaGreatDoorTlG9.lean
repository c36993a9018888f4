/- Contracts and facts that the claim's proof wants (several texts in one). -/
import Derived.Test.YtmgcgiecimnncaaGreatDoorTlG5
import Derived.Test.YtmgcgiecimnncaaGreatDoorTlG8
namespace Go.Proofs.YtmgcgiecimnncaaGreatDoor
open Go.RowKit
set_option linter.unusedVariables false
set_option linter.unusedSimpArgs false
set_option maxRecDepth 20000
set_option maxHeartbeats 20000000
abbrev QQ6 (r f:Int):Value:=.tuple #[.int .u16 r,.int .u8 f]
theorem zp (f:Int)(hf:B8 f)(w:World) :
 Calls Tryz.prog 304 #[.int .u8 f] w fun e w'=>e=.returned (.bool (isM f 0))∧w=w':=by
 have k:=Lib.hid (QEL f hf.1 hf.2).2.1
 have f0:=hf.1
 have f1:=hf.2
 go_enter Tryz.func304,Tryz.ntmps304
 go_wp2
 go_ret
 exact⟨QE k.out,rfl⟩
theorem QFo (a b low:Int)(ha:B8 a)(hb:B8 b)(hl:B8 low)(O L:Nat)(w:World)(hO:w.cell? ⟨O,0,none⟩=some (.func (.func 281) #[] #[]))(hL:w.cell? ⟨L,0,none⟩=some (.int .u8 low)) :
 Calls Tryz.prog 340 #[.int .u8 a,.int .u8 b,.pointer (some ⟨O,0,none⟩),.pointer (some ⟨L,0,none⟩)] w fun e w' =>
  e=.returned (two (Xx a b (isM low 0)) (Q1 (ZF a b (isM low 0)) (bits .and .u8 (ZF a b (isM low 0)) low) 64))∧Below w.heap.size w w':=by
 have hB:=hb
 clear hb
 have hf:=Q8 a b (isM low 0)
 have hg:B8 (bits .and .u8 (ZF a b (isM low 0)) low):=QCL _ _ hf.1 hf.2 hl.1 hl.2
 go_enter Tryz.func340,Tryz.ntmps340
 go_wp2_with fail
 go_region_held3 (fun w'=>w'.cell? ⟨O,0,none⟩=some (.func (.func 281) #[] #[])∧w'.cell? ⟨L,0,none⟩=some (.int .u8 low)) (first|go_keep|exact QUR hb (by assumption))
  (first
  | (go_at_call 304;refine (zp _ (by assumption) _).mono ?_;rintro e w' ⟨rfl,rfl⟩)
  | (go_at_call 281;refine (QAf _ _ _ (by assumption) (by assumption) _).mono ?_;rintro e w' ⟨rfl,hb⟩;have hsz:=hb.size))
 rename_i hh
 obtain⟨h1,h2⟩:=hh
 have f0:=hf.1
 have f1:=hf.2
 have l0:=hl.1
 have l1:=hl.2
 go_wp2_with (first
  | (go_at_call 252;refine (Xc _ _ _ (B8.lo (by assumption)) (B8.hi (by assumption)) (B8.lo (by assumption)) (B8.hi (by assumption)) (by omega) (by omega) _).mono ?_;rintro e w' ⟨rfl,rfl⟩))
 go_ret2
 exact⟨rfl,(by repeat (first|exact Below.refl _ _|assumption|refine JF ?_ (by assumption)|refine Below.drew ?_|refine Below.alloc ?_ (by first|(simp;done)|(simp;omega)|omega) _|refine Below.setCell ?_ (by first|(simp;done)|(simp;omega)|omega) _))⟩
theorem QGv (a b:Int)(c:Bool)(ha:B8 a)(hb:B8 b)(w:World) :
 Calls Tryz.prog 330 #[.agg #[.func (.func 281) #[] #[]],.int .u8 a,.int .u8 b,.bool c] w fun e w'=>∃ O L,
  e=.returned (.tuple #[.int .u8 (Xx a b c),.func (.func 340) #[] #[.pointer (some ⟨O,0,none⟩),.pointer (some ⟨L,0,none⟩)]]) ∧
  (w'.cell? ⟨O,0,none⟩=some (.func (.func 281) #[] #[])∧w'.cell? ⟨L,0,none⟩=some (.int .u8 (ZF a b c)))∧Below w.heap.size w w':=by
 have hB:=hb
 clear hb
 go_enter Tryz.func330,Tryz.ntmps330
 go_wp2_with (first
  | (go_at_call 281;refine (QAf _ _ _ (by assumption) (by assumption) _).mono ?_;rintro e w' ⟨rfl,hb⟩;have hsz:=hb.size))
 go_ret2
 refine⟨w.heap.size,w'.heap.size,rfl,⟨cell_kept (jl w _ _) (Below.trans hb (Below.alloc (Below.refl _ _) hsz _)),jl _ _ _⟩,?_⟩
 (try simp only[World.size_alloc] at hsz)
 exact (by repeat (first|exact Below.refl _ _|assumption|refine JF ?_ (by assumption)|refine Below.drew ?_|refine Below.alloc ?_ (by first|(simp;done)|(simp;omega)|omega) _|refine Below.setCell ?_ (by first|(simp;done)|(simp;omega)|omega) _))
theorem QB1 (a b:Int)(c:Bool)(ha:W16 a)(hb:W16 b)(w:World) :
 Calls Tryz.prog 303 #[.agg #[.func (.func 281) #[] #[]],.int .u16 a,.int .u16 b,.bool c] w fun e w' =>
  e=.returned (QQ6 (qi a b c) (QBD a b c))∧Below w.heap.size w w':=by
 have hB:=hb
 clear hb
 have al:=ha.low
 have ah:=ha.high
 have bl:=hB.low
 have bh:=hB.high
 have lf:=Q8 (a%256) (b%256) c
 have rl:=QU (a%256) (b%256) c
 have rh:=QU (a / 256) (b / 256) (isM (ZF (a%256) (b%256) c) 0)
 have hw:=Lib.hid (QJU a b c ha hB)
 have hf:=Lib.hid (QMs a b c ha hB)
 go_enter Tryz.func303,Tryz.ntmps303
 go_wp2_with fail
 go_region_held3 (fun w'=>w'.cell? ⟨w.heap.size,0,none⟩=some (.func (.func 281) #[] #[])) (first|go_keep|exact cell_kept (by assumption) hb)
  (first
  | (go_at_call 118;refine (Zx _ (W16.lo (by assumption)) (W16.hi (by assumption)) _).mono ?_;rintro e w' ⟨rfl,rfl⟩)
  | (go_at_call 330;refine (QGv _ _ _ (by assumption) (by assumption) _).mono ?_;rintro e w' ⟨O,L,rfl,hcell,hb⟩;have hsz:=hb.size))
 rename_i hh
 clear hh
 obtain⟨h1,h2⟩:=hcell
 go_wp2_with (first
  | (go_at_call 194;refine (qX _ (W16.lo (by assumption)) (W16.hi (by assumption)) _).mono ?_;rintro e w' ⟨rfl,rfl⟩)
  | (go_at_call 103;refine (Ja _ _ (B8.lo (by assumption)) (B8.hi (by assumption)) (B8.lo (by assumption)) (B8.hi (by assumption)) _).mono ?_;rintro e w' ⟨rfl,rfl⟩)
  | (go_at_call 340;refine (QFo _ _ (ZF (a%256) (b%256) c) (by assumption) (by assumption) lf _ _ _ h1 h2).mono ?_;rintro e w2 ⟨rfl,hb2⟩;have hsz2:=hb2.size))
 go_ret2
 refine⟨by rw[←hw.out,←hf.out];rfl,?_⟩
 (try simp only[World.size_alloc] at hsz)
 exact (by repeat (first|exact Below.refl _ _|assumption|refine JF ?_ (by assumption)|refine Below.drew ?_|refine Below.alloc ?_ (by first|(simp;done)|(simp;omega)|omega) _|refine Below.setCell ?_ (by first|(simp;done)|(simp;omega)|omega) _))
theorem QFS (a b low:Int)(ha:B8 a)(hb:B8 b)(hl:B8 low)(O L:Nat)(w:World)(hO:w.cell? ⟨O,0,none⟩=some (.func (.func 264) #[] #[]))(hL:w.cell? ⟨L,0,none⟩=some (.int .u8 low)) :
 Calls Tryz.prog 340 #[.int .u8 a,.int .u8 b,.pointer (some ⟨O,0,none⟩),.pointer (some ⟨L,0,none⟩)] w fun e w' =>
  e=.returned (two (Qj a b (isM low 0)) (Q1 (Qm a b (isM low 0)) (bits .and .u8 (Qm a b (isM low 0)) low) 64))∧Below w.heap.size w w':=by
 have hB:=hb
 clear hb
 have hf:=QB a b (isM low 0)
 have hg:B8 (bits .and .u8 (Qm a b (isM low 0)) low):=QCL _ _ hf.1 hf.2 hl.1 hl.2
 go_enter Tryz.func340,Tryz.ntmps340
 go_wp2_with fail
 go_region_held3 (fun w'=>w'.cell? ⟨O,0,none⟩=some (.func (.func 264) #[] #[])∧w'.cell? ⟨L,0,none⟩=some (.int .u8 low)) (first|go_keep|exact QUR hb (by assumption))
  (first
  | (go_at_call 304;refine (zp _ (by assumption) _).mono ?_;rintro e w' ⟨rfl,rfl⟩)
  | (go_at_call 264;refine (qK _ _ _ (by assumption) (by assumption) _).mono ?_;rintro e w' ⟨rfl,hb⟩;have hsz:=hb.size))
 rename_i hh
 obtain⟨h1,h2⟩:=hh
 have f0:=hf.1
 have f1:=hf.2
 have l0:=hl.1
 have l1:=hl.2
 go_wp2_with (first
  | (go_at_call 252;refine (Xc _ _ _ (B8.lo (by assumption)) (B8.hi (by assumption)) (B8.lo (by assumption)) (B8.hi (by assumption)) (by omega) (by omega) _).mono ?_;rintro e w' ⟨rfl,rfl⟩))
 go_ret2
 exact⟨rfl,(by repeat (first|exact Below.refl _ _|assumption|refine JF ?_ (by assumption)|refine Below.drew ?_|refine Below.alloc ?_ (by first|(simp;done)|(simp;omega)|omega) _|refine Below.setCell ?_ (by first|(simp;done)|(simp;omega)|omega) _))⟩
theorem QGk (a b:Int)(c:Bool)(ha:B8 a)(hb:B8 b)(w:World) :
 Calls Tryz.prog 330 #[.agg #[.func (.func 264) #[] #[]],.int .u8 a,.int .u8 b,.bool c] w fun e w'=>∃ O L,
  e=.returned (.tuple #[.int .u8 (Qj a b c),.func (.func 340) #[] #[.pointer (some ⟨O,0,none⟩),.pointer (some ⟨L,0,none⟩)]]) ∧
  (w'.cell? ⟨O,0,none⟩=some (.func (.func 264) #[] #[])∧w'.cell? ⟨L,0,none⟩=some (.int .u8 (Qm a b c)))∧Below w.heap.size w w':=by
 have hB:=hb
 clear hb
 go_enter Tryz.func330,Tryz.ntmps330
 go_wp2_with (first
  | (go_at_call 264;refine (qK _ _ _ (by assumption) (by assumption) _).mono ?_;rintro e w' ⟨rfl,hb⟩;have hsz:=hb.size))
 go_ret2
 refine⟨w.heap.size,w'.heap.size,rfl,⟨cell_kept (jl w _ _) (Below.trans hb (Below.alloc (Below.refl _ _) hsz _)),jl _ _ _⟩,?_⟩
 (try simp only[World.size_alloc] at hsz)
 exact (by repeat (first|exact Below.refl _ _|assumption|refine JF ?_ (by assumption)|refine Below.drew ?_|refine Below.alloc ?_ (by first|(simp;done)|(simp;omega)|omega) _|refine Below.setCell ?_ (by first|(simp;done)|(simp;omega)|omega) _))
theorem QHZ (a b:Int)(c:Bool)(ha:W16 a)(hb:W16 b)(w:World) :
 Calls Tryz.prog 303 #[.agg #[.func (.func 264) #[] #[]],.int .u16 a,.int .u16 b,.bool c] w fun e w' =>
  e=.returned (QQ6 (QA8 a b c) (QBy a b c))∧Below w.heap.size w w':=by
 have hB:=hb
 clear hb
 have al:=ha.low
 have ah:=ha.high
 have bl:=hB.low
 have bh:=hB.high
 have lf:=QB (a%256) (b%256) c
 have rl:=QA (a%256) (b%256) c
 have rh:=QA (a / 256) (b / 256) (isM (Qm (a%256) (b%256) c) 0)
 have hw:=Lib.hid (QJK a b c ha hB)
 have hf:=Lib.hid (QMc a b c ha hB)
 go_enter Tryz.func303,Tryz.ntmps303
 go_wp2_with fail
 go_region_held3 (fun w'=>w'.cell? ⟨w.heap.size,0,none⟩=some (.func (.func 264) #[] #[])) (first|go_keep|exact cell_kept (by assumption) hb)
  (first
  | (go_at_call 118;refine (Zx _ (W16.lo (by assumption)) (W16.hi (by assumption)) _).mono ?_;rintro e w' ⟨rfl,rfl⟩)
  | (go_at_call 330;refine (QGk _ _ _ (by assumption) (by assumption) _).mono ?_;rintro e w' ⟨O,L,rfl,hcell,hb⟩;have hsz:=hb.size))
 rename_i hh
 clear hh
 obtain⟨h1,h2⟩:=hcell
 go_wp2_with (first
  | (go_at_call 194;refine (qX _ (W16.lo (by assumption)) (W16.hi (by assumption)) _).mono ?_;rintro e w' ⟨rfl,rfl⟩)
  | (go_at_call 103;refine (Ja _ _ (B8.lo (by assumption)) (B8.hi (by assumption)) (B8.lo (by assumption)) (B8.hi (by assumption)) _).mono ?_;rintro e w' ⟨rfl,rfl⟩)
  | (go_at_call 340;refine (QFS _ _ (Qm (a%256) (b%256) c) (by assumption) (by assumption) lf _ _ _ h1 h2).mono ?_;rintro e w2 ⟨rfl,hb2⟩;have hsz2:=hb2.size))
 go_ret2
 refine⟨by rw[←hw.out,←hf.out];rfl,?_⟩
 (try simp only[World.size_alloc] at hsz)
 exact (by repeat (first|exact Below.refl _ _|assumption|refine JF ?_ (by assumption)|refine Below.drew ?_|refine Below.alloc ?_ (by first|(simp;done)|(simp;omega)|omega) _|refine Below.setCell ?_ (by first|(simp;done)|(simp;omega)|omega) _))
theorem QEY (w:World) :
 Calls Tryz.prog 305 #[] w fun e w'=>e=.returned (.agg #[.func (.func 281) #[] #[]])∧Below w.heap.size w w':=by
 go_enter Tryz.func305,Tryz.ntmps305
 go_wp2
 refine bodyPost_ret (v:=.agg #[.func (.func 281) #[] #[]]) (by simp[results,Tryz.f305,go_sem]) rfl ?_
 exact⟨rfl,(by repeat (first|exact Below.refl _ _|assumption|refine JF ?_ (by assumption)|refine Below.drew ?_|refine Below.alloc ?_ (by first|(simp;done)|(simp;omega)|omega) _|refine Below.setCell ?_ (by first|(simp;done)|(simp;omega)|omega) _))⟩
theorem QDi (w:World) :
 Calls Tryz.prog 302 #[] w fun e w'=>e=.returned (.agg #[.func (.func 264) #[] #[]])∧Below w.heap.size w w':=by
 go_enter Tryz.func302,Tryz.ntmps302
 go_wp2
 refine bodyPost_ret (v:=.agg #[.func (.func 264) #[] #[]]) (by simp[results,Tryz.f302,go_sem]) rfl ?_
 exact⟨rfl,(by repeat (first|exact Below.refl _ _|assumption|refine JF ?_ (by assumption)|refine Below.drew ?_|refine Below.alloc ?_ (by first|(simp;done)|(simp;omega)|omega) _|refine Below.setCell ?_ (by first|(simp;done)|(simp;omega)|omega) _))⟩
theorem QPs (a b f:Int)(ha:W16 a)(hb:W16 b)(hf:B8 f)(w:World) :
 Calls Tryz.prog 277 #[.int .u16 a,.int .u16 b,.int .u8 f] w fun e w'=>e=.returned (QQ6 (qi a b false) (QF0 a b f))∧Below w.heap.size w w':=by
 have hB:=hb
 clear hb
 have hm:=Lib.hid (QMv a b f)
 have hg:=QGO a b false
 go_enter Tryz.func277,Tryz.ntmps277
 go_wp2_with (first
  | (go_at_call 305;refine (QEY _).mono ?_;rintro e w' ⟨rfl,hb⟩;have hsz:=hb.size)
  | (go_at_call 303;refine (QB1 _ _ _ (by assumption) (by assumption) _).mono ?_;rintro e w' ⟨rfl,hb⟩;have hsz:=hb.size)
  | (go_at_call 252;refine (Xc _ _ _ (B8.lo (by assumption)) (B8.hi (by assumption)) (B8.lo (by assumption)) (B8.hi (by assumption)) (by omega) (by omega) _).mono ?_;rintro e w' ⟨rfl,rfl⟩))
 go_ret2
 exact⟨by rw[←hm.out];rfl,(by repeat (first|exact Below.refl _ _|assumption|refine JF ?_ (by assumption)|refine Below.drew ?_|refine Below.alloc ?_ (by first|(simp;done)|(simp;omega)|omega) _|refine Below.setCell ?_ (by first|(simp;done)|(simp;omega)|omega) _))⟩
theorem QPo (a b f:Int)(ha:W16 a)(hb:W16 b)(hf:B8 f)(w:World) :
 Calls Tryz.prog 260 #[.int .u16 a,.int .u16 b,.int .u8 f] w fun e w'=>e=.returned (QQ6 (qi a b (isM f 0)) (QBD a b (isM f 0)))∧Below w.heap.size w w':=by
 have hB:=hb
 clear hb
 go_enter Tryz.func260,Tryz.ntmps260
 go_wp2_with (first
  | (go_at_call 305;refine (QEY _).mono ?_;rintro e w' ⟨rfl,hb⟩;have hsz:=hb.size)
  | (go_at_call 304;refine (zp _ (by assumption) _).mono ?_;rintro e w' ⟨rfl,rfl⟩)
  | (go_at_call 303;refine (QB1 _ _ _ (by assumption) (by assumption) _).mono ?_;rintro e w' ⟨rfl,hb⟩;have hsz:=hb.size))
 go_ret2
 exact⟨rfl,(by repeat (first|exact Below.refl _ _|assumption|refine JF ?_ (by assumption)|refine Below.drew ?_|refine Below.alloc ?_ (by first|(simp;done)|(simp;omega)|omega) _|refine Below.setCell ?_ (by first|(simp;done)|(simp;omega)|omega) _))⟩
theorem QQ3 (a b f:Int)(ha:W16 a)(hb:W16 b)(hf:B8 f)(w:World) :
 Calls Tryz.prog 258 #[.int .u16 a,.int .u16 b,.int .u8 f] w fun e w'=>e=.returned (QQ6 (QA8 a b (isM f 0)) (QBy a b (isM f 0)))∧Below w.heap.size w w':=by
 have hB:=hb
 clear hb
 go_enter Tryz.func258,Tryz.ntmps258
 go_wp2_with (first
  | (go_at_call 302;refine (QDi _).mono ?_;rintro e w' ⟨rfl,hb⟩;have hsz:=hb.size)
  | (go_at_call 304;refine (zp _ (by assumption) _).mono ?_;rintro e w' ⟨rfl,rfl⟩)
  | (go_at_call 303;refine (QHZ _ _ _ (by assumption) (by assumption) _).mono ?_;rintro e w' ⟨rfl,hb⟩;have hsz:=hb.size))
 go_ret2
 exact⟨rfl,(by repeat (first|exact Below.refl _ _|assumption|refine JF ?_ (by assumption)|refine Below.drew ?_|refine Below.alloc ?_ (by first|(simp;done)|(simp;omega)|omega) _|refine Below.setCell ?_ (by first|(simp;done)|(simp;omega)|omega) _))⟩
theorem Xn (x y:Int)(hx:W16 x)(w:World) :
 Calls Tryz.prog 268 #[.int .u16 x,.int .i64 y] w fun e w'=>e=.returned (.int .u16 (JH x y))∧w=w':=by
 have x0:=hx.1
 have x1:=hx.2
 go_enter Tryz.func268,Tryz.ntmps268
 go_wp2
 go_ret
 exact⟨Jy (by simp only[IntKind.wrap_u16];unfold JH;omega),rfl⟩
theorem QIq (x y:Int)(hx:W16 x)(hy:B8 y)(w:World) :
 Calls Tryz.prog 225 #[.int .u16 x,.int .u8 y] w fun e w'=>e=.returned (.int .u16 (JH x (JL y)))∧w=w':=by
 go_enter Tryz.func225,Tryz.ntmps225
 go_wp2_with (first
  | (go_at_call 120;refine (QBa _ (B8.lo (by assumption)) (B8.hi (by assumption)) _).mono ?_;rintro e w' ⟨rfl,rfl⟩)
  | (go_at_call 268;refine (Xn _ _ (by assumption) _).mono ?_;rintro e w' ⟨rfl,rfl⟩))
 go_ret
 exact⟨rfl,rfl⟩
abbrev three (r q f:Int):Value:=.tuple #[.int .u8 r,.int .u8 q,.int .u8 f]
theorem QVd (k b f:Int)(hb:B8 b)(hf:B8 f)(w:World)(hd:Courses w) :
 Calls Tryz.prog 202 #[.int .i64 k,.int .u8 b,.int .u8 f] w fun e w'=>e=.returned (two (doR k b f) (doF k b f))∧Below w.heap.size w w':=by
 have hB:=hb
 clear hb
 by_cases h:0≤k∧k < 8
 · have er:doR k b f=shM k b f:=if_pos h
   have ef:doF k b f=QBl (shM k b f) (jR k b):=if_pos h
   rw[er,ef,←QHi]
   have hs:=QBn k b f hB
   obtain⟨h0,h1⟩:=h
   clear er ef
   generalize hR:shM k b f=R at hs ⊢
   generalize hO:jR k b=O at ⊢
   have hR:=Lib.hid hR
   have hO:=Lib.hid hO
   have hm:=fun w hd=>QJP k b f h0 h1 hB hf w hd
   rw[hR.out,hO.out] at hm
   clear h0 h1 hR hO
   go_enter Tryz.func202,Tryz.ntmps202
   go_wp2_with (first
    | (go_at_call 248;refine (hm _ hd).mono ?_;rintro e w' ⟨rfl,hb⟩;have hsz:=hb.size)
    | (go_at_call 249;refine (Xm _ (B8.lo (by assumption)) (B8.hi (by assumption)) _).mono ?_;rintro e w' ⟨rfl,hb⟩;have hsz:=hb.size)
    | (go_at_call 250;refine (QFK _ _).mono ?_;rintro e w' ⟨rfl,rfl⟩))
   go_ret2
   exact⟨rfl,(by repeat (first|exact Below.refl _ _|assumption|refine JF ?_ (by assumption)|refine Below.drew ?_|refine Below.alloc ?_ (by first|(simp;done)|(simp;omega)|omega) _|refine Below.setCell ?_ (by first|(simp;done)|(simp;omega)|omega) _))⟩
 · have er:doR k b f=b:=if_neg h
   have ef:doF k b f=f:=if_neg h
   rw[er,ef]
   have h':k < 0∨8≤k:=by omega
   clear h er ef
   have hm:=fun w hd=>QLR k b f h' hB hf w hd
   clear h'
   go_enter Tryz.func202,Tryz.ntmps202
   go_wp2_with (first
    | (go_at_call 248;refine (hm _ hd).mono ?_;rintro e w' ⟨rfl,hb⟩;have hsz:=hb.size))
   go_ret2
   exact⟨rfl,(by repeat (first|exact Below.refl _ _|assumption|refine JF ?_ (by assumption)|refine Below.drew ?_|refine Below.alloc ?_ (by first|(simp;done)|(simp;omega)|omega) _|refine Below.setCell ?_ (by first|(simp;done)|(simp;omega)|omega) _))⟩
theorem QRS (k b f:Int)(hb:B8 b)(hf:B8 f)(w:World)(hd:Courses w) :
 Calls Tryz.prog 286 #[.int .i64 k,.int .u8 b,.int .u8 f] w fun e w'=>e=.returned (two (QHN k b f) (QHm k b f))∧Below w.heap.size w w':=by
 have hB:=hb
 clear hb
 by_cases h:0≤k∧k < 4
 · have er:QHN k b f=shM k b f:=if_pos h
   have ef:QHm k b f=Xy f (shM k b f) false false (jR k b):=if_pos h
   rw[er,ef,←QQJ]
   have hs:=QBn k b f hB
   obtain⟨h0,h1⟩:=h
   clear er ef
   have hm:=fun w hd=>QJP k b f h0 (by omega) hB hf w hd
   generalize shM k b f=R at hs hm ⊢
   generalize jR k b=O at hm ⊢
   have hq:=Qc R
   go_enter Tryz.func286,Tryz.ntmps286
   go_wp2_with (first
    | (go_at_call 248;refine (hm _ hd).mono ?_;rintro e w' ⟨rfl,hb⟩;have hsz:=hb.size)
    | (go_at_call 300;refine (Zr _ (B8.lo (by assumption)) (B8.hi (by assumption)) _).mono ?_;rintro e w' ⟨rfl,rfl⟩)
    | (go_at_call 252;refine (Xc _ _ _ (B8.lo (by assumption)) (B8.hi (by assumption)) (B8.lo (by assumption)) (B8.hi (by assumption)) (by omega) (by omega) _).mono ?_;rintro e w' ⟨rfl,rfl⟩)
    | (go_at_call 250;refine (QFK _ _).mono ?_;rintro e w' ⟨rfl,rfl⟩))
   go_ret2
   exact⟨rfl,(by repeat (first|exact Below.refl _ _|assumption|refine JF ?_ (by assumption)|refine Below.drew ?_|refine Below.alloc ?_ (by first|(simp;done)|(simp;omega)|omega) _|refine Below.setCell ?_ (by first|(simp;done)|(simp;omega)|omega) _))⟩
 · have er:QHN k b f=b:=if_neg h
   have ef:QHm k b f=f:=if_neg h
   rw[er,ef]
   clear er ef
   by_cases h2:3 < k
   · clear h
     go_enter Tryz.func286,Tryz.ntmps286
     go_wp2_with fail
     go_ret2
     exact⟨rfl,(by repeat (first|exact Below.refl _ _|assumption|refine JF ?_ (by assumption)|refine Below.drew ?_|refine Below.alloc ?_ (by first|(simp;done)|(simp;omega)|omega) _|refine Below.setCell ?_ (by first|(simp;done)|(simp;omega)|omega) _))⟩
   · have h3:k < 0:=by omega
     have hm:=fun w hd=>QLR k b f (by omega) hB hf w hd
     clear h
     go_enter Tryz.func286,Tryz.ntmps286
     go_wp2_with (first
      | (go_at_call 248;refine (hm _ hd).mono ?_;rintro e w' ⟨rfl,hb⟩;have hsz:=hb.size))
     go_ret2
     exact⟨rfl,(by repeat (first|exact Below.refl _ _|assumption|refine JF ?_ (by assumption)|refine Below.drew ?_|refine Below.alloc ?_ (by first|(simp;done)|(simp;omega)|omega) _|refine Below.setCell ?_ (by first|(simp;done)|(simp;omega)|omega) _))⟩
theorem QMr (right:Bool)(a b f:Int)(ha:B8 a)(hb:B8 b)(hf:B8 f)(w:World) :
 Calls Tryz.prog 308 #[.bool right,.int .u8 a,.int .u8 b,.int .u8 f] w fun e w'=>e=.returned (three (QB7 right a b) (QKB right a b) (QBl (QB7 right a b) (isM f 0)))∧Below w.heap.size w w':=by
 have hB:=hb
 clear hb
 obtain⟨la,ua⟩:=QHz a ha
 obtain⟨lb,_⟩:=QHz b hB
 have lf:=ze f hf
 have a0:=ha.1
 have a1:=ha.2
 have b0:=hB.1
 have b1:=hB.2
 cases right
 · have j1:bits .or .u8 (a / 16*16) (b / 16)=QB7 false a b:=QAg _ _ (by omega) (by omega) (by omega) (by omega)
   have j2:bits .or .u8 (b%16*16) (a%16)=QKB false a b:=QAg _ _ (by omega) (by omega) (by omega) (by omega)
   have hd:=zP false a b ha hB
   rw[←QHi]
   go_enter Tryz.func308,Tryz.ntmps308
   go_wp2_with (first
    | (go_at_call 249;refine (Xm _ (B8.lo (by assumption)) (B8.hi (by assumption)) _).mono ?_;rintro e w' ⟨rfl,hb⟩;have hsz:=hb.size))
   go_ret3
   exact⟨rfl,(by repeat (first|exact Below.refl _ _|assumption|refine JF ?_ (by assumption)|refine Below.drew ?_|refine Below.alloc ?_ (by first|(simp;done)|(simp;omega)|omega) _|refine Below.setCell ?_ (by first|(simp;done)|(simp;omega)|omega) _))⟩
 · have j1:bits .or .u8 (a / 16*16) (b%16)=QB7 true a b:=QAg _ _ (by omega) (by omega) (by omega) (by omega)
   have j2:bits .or .u8 (a%16*16) (b / 16)=QKB true a b:=QAg _ _ (by omega) (by omega) (by omega) (by omega)
   have hd:=zP true a b ha hB
   rw[←QHi]
   go_enter Tryz.func308,Tryz.ntmps308
   go_wp2_with (first
    | (go_at_call 249;refine (Xm _ (B8.lo (by assumption)) (B8.hi (by assumption)) _).mono ?_;rintro e w' ⟨rfl,hb⟩;have hsz:=hb.size))
   go_ret3
   exact⟨rfl,(by repeat (first|exact Below.refl _ _|assumption|refine JF ?_ (by assumption)|refine Below.drew ?_|refine Below.alloc ?_ (by first|(simp;done)|(simp;omega)|omega) _|refine Below.setCell ?_ (by first|(simp;done)|(simp;omega)|omega) _))⟩
theorem QIC (n b lines f:Int)(hb:B8 b)(hl:B8 lines)(hf:B8 f)(w:World) :
 Calls Tryz.prog 208 #[.int .i64 n,.int .u8 b,.int .u8 lines,.int .u8 f] w fun e w'=>e=.returned (.int .u8 (QDm n b lines f))∧w=w':=by
 have lf:=ze f hf
 have km:=QQj lines f hf
 rw[lf] at km
 have ho:=QHF 16 (one (isM f 0)) (by omega) (by omega) (XL _).1 (by have:=(XL (isM f 0)).2;omega)
 have hq:B8 (bits .or .u8 16 (one (isM f 0))):=ho
 clear ho
 cases hi:isM b n
 · have hm:=QUf n b lines f hi
   go_enter Tryz.func208,Tryz.ntmps208
   go_wp2_with (first
    | (go_at_call 253;refine (Qw _ _ (B8.lo (by assumption)) (B8.hi (by assumption)) _).mono ?_;rintro e w' ⟨rfl,rfl⟩)
    | (go_at_call 252;refine (Xc _ _ _ (B8.lo (by assumption)) (B8.hi (by assumption)) (B8.lo (by assumption)) (B8.hi (by assumption)) (by omega) (by omega) _).mono ?_;rintro e w' ⟨rfl,rfl⟩))
   go_ret
   exact⟨rfl,rfl⟩
 · by_cases h7:n=7
   · subst h7
     have hm:=QMw b lines f hi
     go_enter Tryz.func208,Tryz.ntmps208
     go_wp2_with (first
      | (go_at_call 253;refine (Qw _ _ (B8.lo (by assumption)) (B8.hi (by assumption)) _).mono ?_;rintro e w' ⟨rfl,rfl⟩)
      | (go_at_call 252;refine (Xc _ _ _ (B8.lo (by assumption)) (B8.hi (by assumption)) (B8.lo (by assumption)) (B8.hi (by assumption)) (by omega) (by omega) _).mono ?_;rintro e w' ⟨rfl,rfl⟩))
     go_ret
     exact⟨rfl,rfl⟩
   · have hm:=QRp n b lines f hi h7
     have n7:(n==7)=false:=by simpa using h7
     clear h7
     go_enter Tryz.func208,Tryz.ntmps208
     go_wp2_with (first
      | (go_at_call 253;refine (Qw _ _ (B8.lo (by assumption)) (B8.hi (by assumption)) _).mono ?_;rintro e w' ⟨rfl,rfl⟩)
      | (go_at_call 252;refine (Xc _ _ _ (B8.lo (by assumption)) (B8.hi (by assumption)) (B8.lo (by assumption)) (B8.hi (by assumption)) (by omega) (by omega) _).mono ?_;rintro e w' ⟨rfl,rfl⟩))
     go_ret
     exact⟨rfl,rfl⟩
theorem cells3 (w:World)(t:TypeId)(x0 x1 x2:Int)(n:Nat×Nat):∀ j,j < [x0,x1,x2].length→(w.alloc (.cells #[.int .u8 x0,.int .u8 x1,.int .u8 x2] t n)).cell? ⟨w.heap.size,0+j,none⟩=some (.int .u8 ([x0,x1,x2].getD j 0)):=by
 have e:∀ o:Obj,(w.alloc o).heap[w.heap.size]? = some o:=fun o=>by
  show (w.heap.push _)[w.heap.size]? = _
  simp
 intro j hj
 match j,hj with
 | 0,_=>simp only[World.cell?,Nat.zero_add,e];rfl
 | 1,_=>simp only[World.cell?,Nat.zero_add,e];rfl
 | 2,_=>simp only[World.cell?,Nat.zero_add,e];rfl
theorem cells5 (w:World)(t:TypeId)(x0 x1 x2 x3 x4:Int)(n:Nat×Nat):∀ j,j < [x0,x1,x2,x3,x4].length→(w.alloc (.cells #[.int .u8 x0,.int .u8 x1,.int .u8 x2,.int .u8 x3,.int .u8 x4] t n)).cell? ⟨w.heap.size,0+j,none⟩=some (.int .u8 ([x0,x1,x2,x3,x4].getD j 0)):=by
 have e:∀ o:Obj,(w.alloc o).heap[w.heap.size]? = some o:=fun o=>by
  show (w.heap.push _)[w.heap.size]? = _
  simp
 intro j hj
 match j,hj with
 | 0,_=>simp only[World.cell?,Nat.zero_add,e];rfl
 | 1,_=>simp only[World.cell?,Nat.zero_add,e];rfl
 | 2,_=>simp only[World.cell?,Nat.zero_add,e];rfl
 | 3,_=>simp only[World.cell?,Nat.zero_add,e];rfl
 | 4,_=>simp only[World.cell?,Nat.zero_add,e];rfl
theorem QCb (h:Bool)(v:Int)(h0:0≤v)(h1:v≤255)(w:World) :
 Calls Tryz.prog 331 #[.bool h,.int .u8 v] w fun e w'=>e=.returned (.int .u8 (J7 h v))∧w=w':=by
 cases h
 all_goals
  go_enter Tryz.func331,Tryz.ntmps331
  go_wp2
  go_ret
  exact⟨rfl,rfl⟩
theorem qu (b off len cap:Nat)(zs:List Int)(w:World)(hz:len≤zs.length)(hbig:len≤100)(hc:∀ j,j < zs.length→w.cell? ⟨b,off+j,none⟩=some (.int .u8 (zs.getD j 0))) :
 Calls Tryz.prog 309 #[.slice (some ⟨b,off,none⟩) len cap] w fun e w'=>e=.returned (.int .u8 (J8 zs len))∧w=w':=by
 go_enter Tryz.func309,Tryz.ntmps309
 go_wp2
 go_loop [3,8] (fun t i=>∃ k:Nat,k≤len∧i=.int .i64 k∧t=.int .u8 (J8 zs k)) (fun _ i=>len-(intOf i).toNat)
 case atStart=>exact⟨0,Nat.zero_le _,rfl,rfl⟩
 case round =>
  obtain⟨k,hk,rfl,rfl⟩:=hrel
  by_cases hlt:k < len
  · have hk0:(0:Int)≤(k:Int):=by omega
    have hk1:(k:Int) < (len:Int):=by omega
    have hcell:=hc k (by omega)
    have hc:=Lib.hid hc
    go_wp2
    go_round
    case rel=>exact⟨k+1,by omega,by go_num,rfl⟩
    case measure=>simp[intOf];omega
  · obtain rfl:k=len:=by omega
    go_wp2
    go_ret
    exact⟨rfl,rfl⟩
theorem QEb (bc:Int)(h0:0≤bc)(h1:bc≤65535)(w:World) :
 Calls Tryz.prog 310 #[.int .u16 bc] w fun e w'=>e=.returned (.int .u8 (J7 (bc != 0) 4))∧w=w':=by
 go_enter Tryz.func310,Tryz.ntmps310
 go_wp2_with (first
  | (go_at_call 331;refine (QCb _ _ (by omega) (by omega) _).mono ?_;rintro e w' ⟨rfl,rfl⟩))
 go_ret
 exact⟨rfl,rfl⟩
def QC3 (n:Int):Int:=J8 [J7 (isM n 1) 32,J7 (isM n 3) 8] 2
theorem QCa (n:Int)(hn:B8 n)(w:World) :
 Calls Tryz.prog 311 #[.int .u8 n] w fun e w'=>e=.returned (.int .u8 (QC3 n))∧Below w.heap.size w w':=by
 go_enter Tryz.func311,Tryz.ntmps311
 go_wp2_with (first
  | (go_at_call 253;refine (Qw _ _ (B8.lo (by assumption)) (B8.hi (by assumption)) _).mono ?_;rintro e w' ⟨rfl,rfl⟩)
  | (go_at_call 331;refine (QCb _ _ (by omega) (by omega) _).mono ?_;rintro e w' ⟨rfl,rfl⟩)
  | (go_at_call 309;refine (qu _ 0 2 2 [J7 (isM n 1) 32,J7 (isM n 3) 8] _ (by simp) (by omega) (QP0 _ _ _ _ _)).mono ?_;rintro e w' ⟨rfl,rfl⟩))
 go_ret
 exact⟨rfl,(by repeat (first|exact Below.refl _ _|assumption|refine JF ?_ (by assumption)|refine Below.drew ?_|refine Below.alloc ?_ (by first|(simp;done)|(simp;omega)|omega) _|refine Below.setCell ?_ (by first|(simp;done)|(simp;omega)|omega) _))⟩
theorem QTW:∀ x:Fin 256,bits .and .u8 (x.val:Int) 193=mkM (isM (x.val:Int) 7) (isM (x.val:Int) 6) false false false false false (isM (x.val:Int) 0):=by decide +kernel
theorem QSN:∀ x:Fin 256,bits .and .u8 (x.val:Int) 208=mkM (isM (x.val:Int) 7) (isM (x.val:Int) 6) false (isM (x.val:Int) 4) false false false false:=by decide +kernel
theorem QUl:∀ x:Fin 256,(bits .and .u8 (x.val:Int) 16 != 0)=isM (x.val:Int) 4:=by decide +kernel
theorem QQc:∀ b7 b6 b0 p y x:Bool,J8 [mkM b7 b6 false false false false false b0,J7 p 4,J8 [J7 y 32,J7 x 8] 2] 3=mkM b7 b6 y false x p false b0:=by decide +kernel
theorem QPQ:∀ b7 b6 b4 c p y x:Bool,J8 [mkM b7 b6 false b4 false false false false,2,one c,J7 p 4,J8 [J7 y 32,J7 x 8] 2] 5=mkM b7 b6 y b4 x p true c:=by decide +kernel
theorem QRH:∀ b7 z b5 b3 n k p:Bool,J8 [mkM b7 z b5 false b3 false false false,J7 n 2,J7 k 17,J7 p 4] 4=mkM b7 z b5 k b3 p n k:=by decide +kernel
theorem QON (a b bc f:Int)(hf:B8 f):J8 [bits .and .u8 f 193,J7 (bc != 0) 4,QC3 (QFz a b)] 3=moveF a b bc f:=by
 rw[Ji (P:=fun x=>bits .and .u8 x 193=mkM (isM x 7) (isM x 6) false false false false false (isM x 0)) QTW f hf.1 hf.2]
 exact QQc _ _ _ _ _ _
theorem QMV (a b bc f:Int)(hf:B8 f):J8 [bits .and .u8 (Qm a b false) 208,2,bits .and .u8 f 1,J7 (bc != 0) 4,QC3 (lessM a b)] 5=QI2 a b bc f:=by
 have hg:=QB a b false
 rw[ze f hf,Ji (P:=fun x=>bits .and .u8 x 208=mkM (isM x 7) (isM x 6) false (isM x 4) false false false false) QSN _ hg.1 hg.2]
 exact QPQ _ _ _ _ _ _ _
theorem QMf (b k left:Int):J8 [JV left,J7 (isM b 7) 2,J7 (decide (255 < k)) 17,J7 (jz (zc (k%8) left)) 4] 4=QCE b k left :=
 QRH _ _ _ _ _ _ _
theorem QPK (a b bc f:Int)(ha:B8 a)(hb:B8 b)(hf:B8 f)(h0:0≤bc)(h1:bc≤65535)(w:World) :
 Calls Tryz.prog 269 #[.int .u8 a,.int .u8 b,.int .u16 bc,.int .u8 f] w fun e w'=>e=.returned (.int .u8 (moveF a b bc f))∧Below w.heap.size w w':=by
 have hm:=Lib.hid (QON a b bc f hf)
 have hn:=Lib.hid (QJt a b)
 have a0:=ha.1;have a1:=ha.2;have b0:=hb.1;have b1:=hb.2
 clear ha hb
 go_enter Tryz.func269,Tryz.ntmps269
 go_wp2_with (first
  | (go_at_call 310;refine (QEb _ h0 h1 _).mono ?_;rintro e w' ⟨rfl,rfl⟩)
  | (go_at_call 311;refine (QCa _ hn.out _).mono ?_;rintro e w' ⟨rfl,hb⟩;have hsz:=hb.size)
  | (go_at_call 309;refine (qu _ 0 3 3 [bits .and .u8 f 193,J7 (bc != 0) 4,QC3 (QFz a b)] _ (by simp) (by omega) (cells3 _ _ _ _ _ _)).mono ?_;rintro e w' ⟨rfl,rfl⟩))
 go_ret
 exact⟨Jy hm.out,(by repeat (first|exact Below.refl _ _|assumption|refine JF ?_ (by assumption)|refine Below.drew ?_|refine Below.alloc ?_ (by first|(simp;done)|(simp;omega)|omega) _|refine Below.setCell ?_ (by first|(simp;done)|(simp;omega)|omega) _))⟩
theorem QPA (a b bc f:Int)(ha:B8 a)(hb:B8 b)(hf:B8 f)(h0:0≤bc)(h1:bc≤65535)(w:World) :
 Calls Tryz.prog 270 #[.int .u8 a,.int .u8 b,.int .u16 bc,.int .u8 f] w fun e w'=>e=.returned (.int .u8 (QI2 a b bc f))∧Below w.heap.size w w':=by
 have hm:=Lib.hid (QMV a b bc f hf)
 have hn:=Lib.hid (QK1 a b)
 have hs:=Lib.hid (fun w=>qK a b false ha hb w)
 have hg:=QB a b false
 have k4:=Ji (P:=fun x=>(bits .and .u8 x 16 != 0)=isM x 4) QUl _ hg.1 hg.2
 cases hc:isM (Qm a b false) 4
 · have hl:=Lib.hid (QPE a b hc)
   rw[hc] at k4
   clear hc ha hb hg
   generalize hR:Qj a b false=R at *
   generalize hG:Qm a b false=G at *
   clear hR hG
   have hl:=hl.out
   subst hl
   go_enter Tryz.func270,Tryz.ntmps270
   go_wp2_with (first
    | (go_at_call 264;refine (hs.out _).mono ?_;rintro e w' ⟨rfl,hb⟩;have hsz:=hb.size)
    | (go_at_call 310;refine (QEb _ h0 h1 _).mono ?_;rintro e w' ⟨rfl,rfl⟩)
    | (go_at_call 311;refine (QCa _ hn.out _).mono ?_;rintro e w' ⟨rfl,hb⟩;have hsz:=hb.size)
    | (go_at_call 309;refine (qu _ 0 5 5 [bits .and .u8 G 208,2,bits .and .u8 f 1,J7 (bc != 0) 4,QC3 (lessM a b)] _ (by simp) (by omega) (cells5 _ _ _ _ _ _ _ _)).mono ?_;rintro e w' ⟨rfl,rfl⟩))
   go_ret
   exact⟨Jy hm.out,(by repeat (first|exact Below.refl _ _|assumption|refine JF ?_ (by assumption)|refine Below.drew ?_|refine Below.alloc ?_ (by first|(simp;done)|(simp;omega)|omega) _|refine Below.setCell ?_ (by first|(simp;done)|(simp;omega)|omega) _))⟩
 · have hl:=QK8 a b hc
   have hr:=QA a b false
   have r0:=hr.1
   have r1:=hr.2
   rw[hc] at k4
   clear hc ha hb hg hr
   generalize hR:Qj a b false=R at *
   generalize hG:Qm a b false=G at *
   clear hR hG
   go_enter Tryz.func270,Tryz.ntmps270
   go_wp2_with (first
    | (go_at_call 264;refine (hs.out _).mono ?_;rintro e w' ⟨rfl,hb⟩;have hsz:=hb.size)
    | (go_at_call 310;refine (QEb _ h0 h1 _).mono ?_;rintro e w' ⟨rfl,rfl⟩)
    | (go_at_call 311;refine (QCa _ hn.out _).mono ?_;rintro e w' ⟨rfl,hb⟩;have hsz:=hb.size)
    | (go_at_call 309;refine (qu _ 0 5 5 [bits .and .u8 G 208,2,bits .and .u8 f 1,J7 (bc != 0) 4,QC3 (lessM a b)] _ (by simp) (by omega) (cells5 _ _ _ _ _ _ _ _)).mono ?_;rintro e w' ⟨rfl,rfl⟩))
   go_ret
   exact⟨Jy hm.out,(by repeat (first|exact Below.refl _ _|assumption|refine JF ?_ (by assumption)|refine Below.drew ?_|refine Below.alloc ?_ (by first|(simp;done)|(simp;omega)|omega) _|refine Below.setCell ?_ (by first|(simp;done)|(simp;omega)|omega) _))⟩
theorem QJj (b l left:Int)(hB:B8 b)(hl:B8 l)(hL:B8 left)(w:World) :
 Calls Tryz.prog 312 #[.int .u8 b,.int .u8 l,.int .u8 left] w fun e w'=>e=.returned (.int .u8 (QCE b (b+l) left))∧Below w.heap.size w w':=by
 have hm:=Lib.hid (QMf b (b+l) left)
 have hx:=QMJ ((b+l)%8) left ⟨by omega,by omega⟩ hL
 have hr:B8 (zc ((b+l)%8) left):=J6 ..
 have b0:=hB.1;have b1:=hB.2;have l0:=hl.1;have l1:=hl.2
 go_enter Tryz.func312,Tryz.ntmps312
 go_wp2_with (first
  | (go_at_call 300;refine (Zr _ (B8.lo (by assumption)) (B8.hi (by assumption)) _).mono ?_;rintro e w' ⟨rfl,rfl⟩)
  | (go_at_call 253;refine (Qw _ _ (B8.lo (by assumption)) (B8.hi (by assumption)) _).mono ?_;rintro e w' ⟨rfl,rfl⟩)
  | (go_at_call 331;refine (QCb _ _ (by omega) (by omega) _).mono ?_;rintro e w' ⟨rfl,rfl⟩)
  | (go_at_call 301;refine (QIe _ (B8.lo (by assumption)) (B8.hi (by assumption)) _).mono ?_;rintro e w' ⟨rfl,hb⟩;have hsz:=hb.size)
  | (go_at_call 309;refine (qu _ 0 4 4 [JV left,J7 (isM b 7) 2,J7 (decide (255 < b+l)) 17,J7 (jz (zc ((b+l)%8) left)) 4] _ (by simp) (by omega) (QOr _ _ _ _ _ _ _)).mono ?_;rintro e w' ⟨rfl,rfl⟩))
 go_ret
 exact⟨Jy hm.out,(by repeat (first|exact Below.refl _ _|assumption|refine JF ?_ (by assumption)|refine Below.drew ?_|refine Below.alloc ?_ (by first|(simp;done)|(simp;omega)|omega) _|refine Below.setCell ?_ (by first|(simp;done)|(simp;omega)|omega) _))⟩
theorem QRJ (b c left s:Int)(hB:B8 b)(hc:B8 c)(hL:B8 left)(w:World) :
 Calls Tryz.prog 272 #[.int .u8 b,.int .u8 c,.int .u8 left,.int .i64 s] w fun e w'=>e=.returned (.int .u8 (QCE b (b+byC c s) left))∧Below w.heap.size w w':=by
 have hw:IntKind.u8.wrap s=s%256:=IntKind.wrap_u8 s
 have hq:(c+s%256)%256=byC c s:=by unfold byC;omega
 have hr:=QPN c s
 go_enter Tryz.func272,Tryz.ntmps272
 go_wp2_with (first
  | (go_at_call 312;refine (QJj _ _ _ (by assumption) (by assumption) (by assumption) _).mono ?_;rintro e w' ⟨rfl,hb⟩;have hsz:=hb.size))
 go_ret
 exact⟨rfl,(by repeat (first|exact Below.refl _ _|assumption|refine JF ?_ (by assumption)|refine Below.drew ?_|refine Below.alloc ?_ (by first|(simp;done)|(simp;omega)|omega) _|refine Below.setCell ?_ (by first|(simp;done)|(simp;omega)|omega) _))⟩
theorem QQW (b l left:Int)(hB:B8 b)(hl:B8 l)(hL:B8 left)(w:World) :
 Calls Tryz.prog 273 #[.int .u8 b,.int .u8 l,.int .u8 left] w fun e w'=>e=.returned (.int .u8 (QCE b (b+l) left))∧Below w.heap.size w w':=by
 go_enter Tryz.func273,Tryz.ntmps273
 go_wp2_with (first
  | (go_at_call 312;refine (QJj _ _ _ (by assumption) (by assumption) (by assumption) _).mono ?_;rintro e w' ⟨rfl,hb⟩;have hsz:=hb.size))
 go_ret
 exact⟨rfl,(by repeat (first|exact Below.refl _ _|assumption|refine JF ?_ (by assumption)|refine Below.drew ?_|refine Below.alloc ?_ (by first|(simp;done)|(simp;omega)|omega) _|refine Below.setCell ?_ (by first|(simp;done)|(simp;omega)|omega) _))⟩
theorem XV (kind f:Int)(hf:B8 f)(w:World) :
 Calls Tryz.prog 223 #[.int .i64 kind,.int .u8 f] w fun e w'=>e=.returned (.bool (Jz kind f))∧w=w':=by
 obtain⟨k6,-,k2,-⟩:=QEL f hf.1 hf.2
 by_cases hc:kind < 0∨4≤kind
 · rw[QJ9 kind f hc]
   have n0:(kind==0)=false:=by simp;omega
   have n1:(kind==1)=false:=by simp;omega
   have n2:(kind==2)=false:=by simp;omega
   have n3:(kind==3)=false:=by simp;omega
   clear hc
   cases hz:isM f 6
   all_goals
    rw[hz] at k6
    go_enter Tryz.func223,Tryz.ntmps223
    go_wp2
    go_ret
    exact⟨rfl,rfl⟩
 · obtain rfl|rfl|rfl|rfl:kind=0∨kind=1∨kind=2∨kind=3:=by omega
   all_goals
    clear hc
    cases hz:isM f 6<;>cases hp:isM f 2
    all_goals
     rw[hz] at k6
     rw[hp] at k2
     go_enter Tryz.func223,Tryz.ntmps223
     go_wp2
     go_ret
     exact⟨QE (by simp[Jz,hz,hp]),rfl⟩
abbrev five (c:Int):Value:=.tuple #[.int .i64 (fx c),.int .i64 (fy c),.int .i64 (fz c),.int .i64 (fp c),.int .i64 (fq c)]
theorem QCB {fn:Func} {t u v x y:Tmp}(h:fn.results=#[.tmp t,.tmp u,.tmp v,.tmp x,.tmp y])(tmps:Array Value)(P:Program)(w:World) :
 (results fn tmps).run P w=.ok (.tuple #[tmps.getD t undef,tmps.getD u undef,tmps.getD v undef,tmps.getD x undef,tmps.getD y undef]) w:=by simp[results,h]
theorem QAI (c:Int)(hc:B8 c)(w:World) :
 Calls Tryz.prog 40 #[.int .u8 c] w fun e w'=>e=.returned (five c)∧w=w':=by
 obtain⟨h0,h1⟩:=hc
 go_enter Tryz.func40,Tryz.ntmps40
 go_wp2
 refine bodyPost_ret (QCB rfl _ _ _) rfl ?_
 exact⟨rfl,rfl⟩
theorem zb (c:Int)(hc:B8 c)(w:World) :
 Calls Tryz.prog 61 #[.int .u8 c] w fun e w'=>e=.returned (five c)∧w=w':=by
 obtain⟨h0,h1⟩:=hc
 go_enter Tryz.func61,Tryz.ntmps61
 go_wp2
 refine bodyPost_ret (QCB rfl _ _ _) rfl ?_
 refine⟨?_,rfl⟩
 have e1:c / 8%8 / 2=c / 16%4:=by omega
 have e2:c / 8%8%2=c / 8%2:=by omega
 show Ending.returned (.tuple #[.int .i64 (c / 64),.int .i64 (c / 8%8),.int .i64 (c%8),.int .i64 (c / 8%8 / 2),.int .i64 (c / 8%8%2)])=_
 rw[e1,e2]
 rfl
theorem QSh (x y z:Int)(hx:0≤x∧x≤3)(hy:0≤y∧y≤7)(hz:0≤z∧z≤7)(w:World) :
 Calls Tryz.prog 64 #[.int .i64 x,.int .i64 y,.int .i64 z] w fun e w'=>e=.returned (.bool (QDh x y z))∧w=w':=by
 by_cases h0:x=0
 · subst h0
   go_enter Tryz.func64,Tryz.ntmps64
   go_wp2
   all_goals
    go_ret
    refine⟨QE ?_,rfl⟩
    (try unfold QDh)
    (try simp[*])
 · have e0:(x==0)=false:=by simpa using h0
   go_enter Tryz.func64,Tryz.ntmps64
   go_wp2
   all_goals
    go_ret
    refine⟨QE ?_,rfl⟩
    (try unfold QDh)
    (try simp[*])
theorem QSS (x y z p q:Int)(hx:0≤x∧x≤3)(hy:0≤y∧y≤7)(hz:0≤z∧z≤7)(w:World) :
 Calls Tryz.prog 65 #[.int .i64 x,.int .i64 y,.int .i64 z,.int .i64 p,.int .i64 q] w fun e w'=>e=.returned (.bool (QM7 x y z p q))∧w=w':=by
 by_cases h0:x=0
 · subst h0
   go_enter Tryz.func65,Tryz.ntmps65
   go_wp2
   all_goals
    go_ret
    refine⟨QE ?_,rfl⟩
    (try unfold QM7)
    (try simp[*])
 · have e0:(x==0)=false:=by simpa using h0
   go_enter Tryz.func65,Tryz.ntmps65
   go_wp2
   all_goals
    go_ret
    refine⟨QE ?_,rfl⟩
    (try unfold QM7)
    (try simp[*])
    (try (rw[Bool.eq_iff_iff];simp[*]))
theorem QKN (c:Int)(hc:B8 c):0≤fx c∧fx c≤3:=by obtain⟨h0,h1⟩:=hc;unfold fx;omega
theorem QKI (c:Int)(hc:B8 c):0≤fy c∧fy c≤7:=by obtain⟨h0,h1⟩:=hc;unfold fy;omega
theorem QK0 (c:Int)(hc:B8 c):0≤fz c∧fz c≤7:=by obtain⟨h0,h1⟩:=hc;unfold fz;omega
theorem QIc (p:Int)(h:p < 0∨6 < p):(p==0)=false∧(p==1)=false∧(p==2)=false∧(p==3)=false∧(p==4)=false∧(p==5)=false∧(p==6)=false:=by
 simp only[beq_eq_false_iff_ne]
 omega
theorem QNN (p c:Int)(hc:B8 c)(w:World) :
 Calls Tryz.prog 39 #[.int .i64 p,.int .u8 c] w fun e w'=>e=.returned (.int .i64 (Jb p c))∧w=w':=by
 have bx:=QKN c hc
 have bY:=QKI c hc
 have bz:=QK0 c hc
 have hf:=Lib.hid (QAI c hc)
 by_cases hp:p < 0∨6 < p
 · have h:=hp
   obtain⟨n0,n1,n2,n3,n4,n5,n6⟩:=QIc p h
   go_enter Tryz.func39,Tryz.ntmps39
   go_wp2_with (first
    | (go_at_call 40;refine (hf.out _).mono ?_;rintro e w' ⟨rfl,rfl⟩))
   go_ret
   exact⟨Jy (by unfold Jb;rw[if_neg (by omega),if_neg (by omega)]),rfl⟩
 obtain rfl|rfl|rfl|rfl|rfl|rfl|rfl:p=0∨p=1∨p=2∨p=3∨p=4∨p=5∨p=6:=by omega
 all_goals
  clear hp
  cases h1:QDh (fx c) (fy c) (fz c)<;>cases h2:QM7 (fx c) (fy c) (fz c) (fp c) (fq c)
  all_goals
   have H1:=Lib.hid (fun w=>h1▸QSh (fx c) (fy c) (fz c) bx bY bz w)
   have H2:=Lib.hid (fun w=>h2▸QSS (fx c) (fy c) (fz c) (fp c) (fq c) bx bY bz w)
   have hs:=Lib.hid (show QBo c=if (if QDh (fx c) (fy c) (fz c) then true else false) then 1 else if QM7 (fx c) (fy c) (fz c) (fp c) (fq c) then 2 else 0 by unfold QBo;simp)
   rw[h1,h2] at hs
   clear h1 h2
   go_enter Tryz.func39,Tryz.ntmps39
   go_wp2_with (first
    | (go_at_call 40;refine (hf.out _).mono ?_;rintro e w' ⟨rfl,rfl⟩)
    | (go_at_call 64;refine (H1.out _).mono ?_;rintro e w' ⟨rfl,rfl⟩)
    | (go_at_call 65;refine (H2.out _).mono ?_;rintro e w' ⟨rfl,rfl⟩))
   all_goals
    go_ret
    refine⟨Jy ?_,rfl⟩
    simp[Jb,hs.out]
    (try simp[QEQ, *])
    (try simpa using ‹(fz c==3)=true›)
    (try simpa using ‹(fz c==3)=false›)
theorem QFA (p c:Int)(hc:B8 c)(w:World) :
 Calls Tryz.prog 38 #[.int .i64 p,.int .u8 c] w fun e w'=>e=.returned (.bool (JP p c))∧w=w':=by
 have bx:=QKN c hc
 have bY:=QKI c hc
 have bz:=QK0 c hc
 have hf:=Lib.hid (QAI c hc)
 by_cases hp:p < 0∨6 < p
 · have h:=hp
   obtain⟨n0,n1,n2,n3,n4,n5,n6⟩:=QIc p h
   go_enter Tryz.func38,Tryz.ntmps38
   go_wp2_with (first
    | (go_at_call 40;refine (hf.out _).mono ?_;rintro e w' ⟨rfl,rfl⟩))
   go_ret
   exact⟨QE (by unfold JP;rw[if_neg (by omega)];unfold Zh;rw[n5,n6];rfl),rfl⟩
 obtain rfl|rfl|rfl|rfl|rfl|rfl|rfl:p=0∨p=1∨p=2∨p=3∨p=4∨p=5∨p=6:=by omega
 all_goals
  clear hp
  cases hy6:(fy c==6)<;>cases hz6:(fz c==6)
  all_goals
   go_enter Tryz.func38,Tryz.ntmps38
   go_wp2_with (first
    | (go_at_call 40;refine (hf.out _).mono ?_;rintro e w' ⟨rfl,rfl⟩))
   all_goals
    go_ret
    refine⟨QE ?_,rfl⟩
    (try unfold JP Zh QDz)
    (try simp[*])
    (try simp_all)
    (try omega)
theorem QA1 (p:Int)(w:World) :
 Calls Tryz.prog 77 #[.int .i64 p] w fun e w'=>e=.returned (.bool (Zh p))∧w=w':=by
 have h:Zh p=(p==5||p==6):=rfl
 cases h5:(p==5)<;>cases h6:(p==6)
 all_goals
  rw[h5,h6] at h
  have H:=Lib.hid h
  clear h
  go_enter Tryz.func77,Tryz.ntmps77
  go_wp2
  go_ret
  exact⟨QE (by rw[H.out];rfl),rfl⟩
theorem QBd (p:Int)(w:World) :
 Calls Tryz.prog 76 #[.int .i64 p] w fun e w'=>e=.returned (.int .i64 (QAz p))∧w=w':=by
 by_cases h3:p=3
 · subst h3
   go_enter Tryz.func76,Tryz.ntmps76
   go_wp2
   go_ret
   exact⟨rfl,rfl⟩
 · by_cases h4:p=4
   · subst h4
     go_enter Tryz.func76,Tryz.ntmps76
     go_wp2
     go_ret
     exact⟨rfl,rfl⟩
   · have H:=Lib.hid (show QAz p=1 by unfold QAz;rw[if_neg h3,if_neg h4])
     have e3:(p==3)=false:=by simpa using h3
     have e4:(p==4)=false:=by simpa using h4
     clear h3 h4
     go_enter Tryz.func76,Tryz.ntmps76
     go_wp2
     go_ret
     exact⟨Jy H.out.symm,rfl⟩
theorem QKb (c:Int)(hc:B8 c)(w:World) :
 Calls Tryz.prog 102 #[.int .u8 c] w fun e w'=>e=.returned (.bool (QDz c))∧w=w':=by
 have bx:=QKN c hc
 have bY:=QKI c hc
 have bz:=QK0 c hc
 have hf:=Lib.hid (zb c hc)
 cases hy6:(fy c==6)<;>cases hz6:(fz c==6)
 all_goals
  go_enter Tryz.func102,Tryz.ntmps102
  go_wp2_with (first
   | (go_at_call 61;refine (hf.out _).mono ?_;rintro e w' ⟨rfl,rfl⟩))
  all_goals
   go_ret
   refine⟨QE ?_,rfl⟩
   (try unfold QDz)
   (try simp[*])
   (try simp_all)
   (try omega)
theorem Zy (p c:Int)(hc:B8 c)(w:World) :
 Calls Tryz.prog 78 #[.int .i64 p,.int .u8 c] w fun e w'=>e=.returned (.bool (JP p c))∧w=w':=by
 have hp:=Lib.hid (QKb c hc)
 have ha:=Lib.hid (QA1 p)
 by_cases h3:p=3
 · subst h3
   go_enter Tryz.func78,Tryz.ntmps78
   go_wp2_with (first
    | (go_at_call 102;refine (hp.out _).mono ?_;rintro e w' ⟨rfl,rfl⟩))
   go_ret
   exact⟨rfl,rfl⟩
 · by_cases h4:p=4
   · subst h4
     go_enter Tryz.func78,Tryz.ntmps78
     go_wp2_with (first
      | (go_at_call 102;refine (hp.out _).mono ?_;rintro e w' ⟨rfl,rfl⟩))
     go_ret
     exact⟨rfl,rfl⟩
   · have H:=Lib.hid (show JP p c=Zh p by unfold JP;rw[if_neg (by omega)])
     have e3:(p==3)=false:=by simpa using h3
     have e4:(p==4)=false:=by simpa using h4
     clear h3 h4
     go_enter Tryz.func78,Tryz.ntmps78
     go_wp2_with (first
      | (go_at_call 77;refine (ha.out _).mono ?_;rintro e w' ⟨rfl,rfl⟩))
     go_ret
     exact⟨QE H.out.symm,rfl⟩
abbrev opV (a b c d e f:Int):Value:=.agg #[.int .i64 a,.int .u8 b,.int .u8 c,.int .u16 d,.int .i64 e,.int .i64 f]
theorem QHo (b c d e f:Int)(w:World) :
 Calls Tryz.prog 75 #[opV 0 b c d e f] w fun E w'=>E=.returned (opV 0 b c d e f)∧Below w.heap.size w w':=by
 go_enter Tryz.func75,Tryz.ntmps75
 go_wp2
 refine bodyPost_ret (v:=opV 0 b c d e f) (by simp[results,Tryz.f75,go_sem]) rfl ?_
 exact⟨rfl,(by repeat (first|exact Below.refl _ _|assumption|refine JF ?_ (by assumption)|refine Below.drew ?_|refine Below.alloc ?_ (by first|(simp;done)|(simp;omega)|omega) _|refine Below.setCell ?_ (by first|(simp;done)|(simp;omega)|omega) _))⟩
theorem zU (a b c d e f:Int)(h:(a != 0)=true)(hf:0≤f∧f≤4611686018427387904)(w:World) :
 Calls Tryz.prog 75 #[opV a b c d e f] w fun E w'=>E=.returned (opV a b c d e (f+1))∧Below w.heap.size w w':=by
 go_enter Tryz.func75,Tryz.ntmps75
 go_wp2
 refine bodyPost_ret (v:=opV a b c d e (f+1)) (by simp[results,Tryz.f75,go_sem]) rfl ?_
 exact⟨rfl,(by repeat (first|exact Below.refl _ _|assumption|refine JF ?_ (by assumption)|refine Below.drew ?_|refine Below.alloc ?_ (by first|(simp;done)|(simp;omega)|omega) _|refine Below.setCell ?_ (by first|(simp;done)|(simp;omega)|omega) _))⟩
theorem fpB (c:Int)(hc:B8 c):0≤fp c∧fp c≤3:=by obtain⟨h0,h1⟩:=hc;unfold fp;omega
theorem fqB (c:Int)(hc:B8 c):0≤fq c∧fq c≤1:=by obtain⟨h0,h1⟩:=hc;unfold fq;omega
theorem B8.not {a:Int}(h:B8 a):B8 (255-a):=by obtain⟨h0,h1⟩:=h;exact⟨by omega,by omega⟩
theorem ZZ {s:Ms}(h:MsB s):B8 s.a:=h.r.af.hi
theorem QN {s:Ms}(h:MsB s):B8 s.f:=h.r.af.lo8
theorem QAa {s:Ms}(h:MsB s):Wd16 s.hl:=h.r.pair _ _
theorem XD {s:Ms}(h:MsB s):Wd16 s.pair:=h.r.pair _ _
theorem QOW:∀ x:Fin 256,bits .and .u8 (x.val:Int) 1=one (isM (x.val:Int) 0):=by decide +kernel
theorem QVw (f:Int)(hf:B8 f)(w:World):(binOp .and 5 (.int .u8 f) (.int .u8 1)).run Tryz.prog w=.ok (.int .u8 (one (isM f 0))) w:=by
 rw[←Ji (P:=fun f=>bits .and .u8 f 1=one (isM f 0)) QOW f hf.1 hf.2]
 exact QWX f 1 w
theorem QL9:∀ b0 b1 b2 b3 b4 c:Bool,bits .or .u8 (mkM b0 b1 b2 false b3 b4 false false) (one c)=JU (mkM b0 b1 b2 false b3 b4 false false) 0 c:=by decide +kernel
theorem QSD (b:Int)(c:Bool)(w:World):(binOp .or 5 (.int .u8 (J2 b)) (.int .u8 (one c))).run Tryz.prog w=.ok (.int .u8 (JU (J2 b) 0 c)) w:=by
 rw[QV1]
 unfold J2
 rw[QL9]
theorem QM3 (b:Int)(c:Bool)(w:World):(binOp .or 5 (.int .u8 (JV b)) (.int .u8 (one c))).run Tryz.prog w=.ok (.int .u8 (JU (JV b) 0 c)) w:=by
 rw[QV1]
 unfold JV
 rw[QL9]
theorem QTi:∀ x:Fin 256,bits .or .u8 (x.val:Int) 4=JU (x.val:Int) 2 true:=by decide +kernel
theorem bOrP (f:Int)(hf:B8 f)(w:World):(binOp .or 5 (.int .u8 f) (.int .u8 4)).run Tryz.prog w=.ok (.int .u8 (JU f 2 true)) w:=by
 rw[←Ji (P:=fun f=>bits .or .u8 f 4=JU f 2 true) QTi f hf.1 hf.2]
 exact QV1 f 4 w
theorem QOG:∀ b0 b1 b2 b3 c:Bool,JU (JU (mkM b0 b1 b2 false b3 false false false) 0 c) 2 false=JU (mkM b0 b1 b2 false b3 false false false) 0 c:=by decide +kernel
theorem QN0 (b:Int)(c:Bool):JU (JU (JV b) 0 c) 2 false=JU (JV b) 0 c:=by
 unfold JV
 rw[QOG]
theorem mod4 (y:Int):y%4=0∨y%4=1∨y%4=2∨y%4=3:=by omega
theorem QLo {x k:Int}(h0:0≤x)(h:x%4=k)(w:World):(binOp .rem 3 (.int .i64 x) (.int .i64 4)).run Tryz.prog w=.ok (.int .i64 k) w:=by
 have e:x.tmod 4=k:=by rw[Int.tmod_eq_emod_of_nonneg h0];exact h
 have e2:IntKind.i64.wrap k=k:=by rw[IntKind.wrap_i64];omega
 simp[go_sem,e,e2]
theorem QVF (w:World):(Instr.indexAt 220 (pT 24 0) (.int .i64 0)).run Tryz.prog w=.ok (pT 24 0) w:=by simp[go_sem,Addr.add]
theorem QV9 (w:World):(Instr.indexAt 220 (pT 24 0) (.int .i64 1)).run Tryz.prog w=.ok (pT 24 1) w:=by simp[go_sem,Addr.add]
theorem QVi (w:World):(Instr.indexAt 220 (pT 24 0) (.int .i64 2)).run Tryz.prog w=.ok (pT 24 2) w:=by simp[go_sem,Addr.add]
theorem QVG (w:World):(Instr.indexAt 220 (pT 24 0) (.int .i64 3)).run Tryz.prog w=.ok (pT 24 3) w:=by simp[go_sem,Addr.add]
section
variable {ops:Array Oper} {Q:Exit→Act→World→Prop} {a:Act} {w w0:World} {o:Oper} {rest:List Oper} {p B:Nat} {s:Ms} {xs:List Int} {x y:Operand}
theorem zt (hn:NowN w0 p B s xs w)(i:Nat)(V:Value)(s':Ms){t:TypeId}(hd:o.dst=none)(hg:o.guard=none)(ho:o.op=.store t x y)(hx:a.eval x=pT p i)(hy:a.eval y=V)
 (hl:(Instr.storeAt t (pT p i) V).run Tryz.prog w=.ok () (w.setCell ⟨p,i,none⟩ V))(hs:∀ A n cap,(mC s A n cap).setIfInBounds i V=mC s' A n cap)(hb:MsB s')
 (h:∀ w',NowN w0 p B s' xs w'→WL Tryz.prog ops Q rest (a.put none undef) w'):WL Tryz.prog ops Q (o :: rest) a w:=QQx _ _ hd hg ho hx hy hl (h _ (hn.set i V s' hs hb))
end
theorem AtN.nil {w:World} {p B:Nat} {s:Ms}(h:AtN w p B s []):∃ A cap,w.cell? ⟨p,20,none⟩=some (.slice A 0 cap):=by
 obtain⟨A,cap,hc,hr,hb⟩:=h.row
 exact⟨A,cap,hr.cell 20⟩
theorem AtN.cons {w:World} {p B:Nat} {s:Ms} {b:Int} {bs:List Int}(h:AtN w p B s (b :: bs)):∃ ad cap,bs.length+1≤cap∧w.cell? ⟨p,20,none⟩=some (.slice (some ad) (bs.length+1) cap)∧w.cell? ad=some (.int .u8 b) ∧
 AtN (w.setCell ⟨p,20,none⟩ (.slice (some (if cap=1 then ad else ad.add 1)) bs.length (cap-1))) p B s bs:=by
 have hp:=h.lt
 obtain⟨⟨A,cap,hc,hr,hby⟩,hl,h8,hm,ht⟩:=h
 obtain⟨ad,rfl,hlt,hcell⟩:=hby 0 b rfl
 have hd:=hby.drop (k:=1) (cap:=cap) (by simp) hc
 have k:∀ v c,c < B→(w.setCell ⟨p,20,none⟩ v).heap[c]? = w.heap[c]?:=fun v c hlt=>Below.heap_setCell w _ v c (by show c≠p;omega)
 refine⟨ad,cap,by simpa using hc,by simpa using hr.cell 20,by simpa [Addr.add] using hcell,⟨⟨some (if cap=1 then ad else ad.add 1),cap-1,by simp at hc;omega,?_,?_⟩,hl,h8.tail,hm,ht.keep (k _)⟩⟩
 · have:=hr.set 20 (.slice (some (if cap=1 then ad else ad.add 1)) bs.length (cap-1))
   exact this
 · refine BytesIn.keep ?_ (k _)
   simp only[List.drop_succ_cons,List.drop_zero] at hd
   have e:(if cap=1 then some ad else (some ad).map (·.add 1))=some (if cap=1 then ad else ad.add 1):=by split<;>rfl
   rwa [e] at hd
theorem QGZ (c:Cy)(hc:Wd16 c.addr∧B8 c.data){s:Ms} {xs:List Int} {w:World} {p B:Nat}(h:AtN w p B s xs) :
 Calls Tryz.prog 161 #[pT p 0,cyV c] w (OutI w p B .u8 ((QJb c s).run xs)):=by
 obtain⟨ck,ca,cd,ct⟩:=c
 cases xs with
 | nil =>
   obtain⟨A,cap,h20⟩:=h.nil
   have hp:=h.lt
   have bel:Besides p p w (w.alloc (.cells #[.int .i64 ck,.int .u16 ca,.int .u8 cd,.int .i64 ct] 30)):=(Besides.refl p p w).alloc _
   have h20':(w.alloc (.cells #[.int .i64 ck,.int .u16 ca,.int .u8 cd,.int .i64 ct] 30)).cell? ⟨p,20,none⟩=some (.slice A 0 cap):=JI w _ h20
   clear h20
   have f0:∀ b w,(Instr.fieldAt 181 (pT b 0) 1).run Tryz.prog w=.ok (pT b 20) w:=fM1
   go_enter Tryz.func161,Tryz.ntmps161
   go_wp2
   exact⟨rfl,rfl,⟨bel,hc⟩⟩
 | cons b bs =>
   have hb0:B8 b:=h.bytes.head
   have hp:=h.lt
   have h':AtN (w.alloc (.cells #[.int .i64 ck,.int .u16 ca,.int .u8 cd,.int .i64 ct] 30)) p B s (b :: bs):=h.below (Below.alloc (Below.refl _ _) (Nat.le_refl _) _)
   have bel:Besides p p w (w.alloc (.cells #[.int .i64 ck,.int .u16 ca,.int .u8 cd,.int .i64 ct] 30)):=(Besides.refl p p w).alloc _
   clear h
   obtain⟨ad,cap,hcap,h20,hcell,hnext⟩:=h'.cons
   have hz:=h'.frozen 20
   have f0:∀ b w,(Instr.fieldAt 181 (pT b 0) 1).run Tryz.prog w=.ok (pT b 20) w:=fM1
   have hne:((bs.length:Int)+1==0)=false:=by simp;omega
   have hl0:¬((bs.length:Int)+1 < 1):=by omega
   have hl1:(0:Int) < (bs.length:Int)+1:=by omega
   have hl2:¬((cap:Int) < (bs.length:Int)+1):=by omega
   have hrun:(QJb ⟨ck,ca,cd,ct⟩ s).run (b :: bs)=.ok ((b,s),bs):=Tr.run_done _ _
   have e:∀ v,(w.alloc (.cells #[.int .i64 ck,.int .u16 ca,.int .u8 cd,.int .i64 ct] 30)).setCell ⟨p,20,none⟩ v=(w.setCell ⟨p,20,none⟩ v).alloc (.cells #[.int .i64 ck,.int .u16 ca,.int .u8 cd,.int .i64 ct] 30):=fun v=>World.setCell_alloc_past _ _ _ v hp
   have bel2:∀ v,Besides p p w ((w.setCell ⟨p,20,none⟩ v).alloc (.cells #[.int .i64 ck,.int .u16 ca,.int .u8 cd,.int .i64 ct] 30)):=fun v=>((Besides.refl p p w).setCell (.inl rfl) v).alloc _
   rw[e] at hnext
   by_cases h1:cap=1
   · subst h1
     obtain rfl:bs=[]:=List.length_eq_zero_iff.1 (by omega)
     rw[if_pos rfl] at hnext
     go_enter Tryz.func161,Tryz.ntmps161
     go_wp2
     exact retI 4 (.int .u8 b) rfl (by kernel_rfl) rfl (OutI.ok (k:=.u8) hrun hb0 ⟨hnext,bel2 _⟩)
   · rw[if_neg h1] at hnext
     simp only[Addr.add,Nat.one_ne_zero,if_false] at hnext
     go_enter Tryz.func161,Tryz.ntmps161
     go_wp2
     exact retI 4 (.int .u8 b) rfl (by kernel_rfl) rfl (OutI.ok (k:=.u8) hrun hb0 ⟨hnext,bel2 _⟩)
end Go.Proofs.YtmgcgiecimnncaaGreatDoor
