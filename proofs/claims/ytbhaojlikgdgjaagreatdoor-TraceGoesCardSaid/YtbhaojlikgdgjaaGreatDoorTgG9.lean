/- Contracts and facts that the claim's proof wants (several texts in one). -/
import Derived.Test.YtbhaojlikgdgjaaGreatDoorTgG5
import Derived.Test.YtbhaojlikgdgjaaGreatDoorTgG8
namespace Go.Proofs.YtbhaojlikgdgjaaGreatDoor
open Go.RowKit
set_option linter.unusedVariables false
set_option linter.unusedSimpArgs false
set_option maxRecDepth 20000
set_option maxHeartbeats 20000000
abbrev QPo (r f:Int):Value:=.tuple #[.int .u16 r,.int .u8 f]
theorem qv (f:Int)(hf:B8 f)(w:World) :
 Calls Tryz.prog 270 #[.int .u8 f] w fun e w'=>e=.returned (.bool (isM f 0))∧w=w':=by
 have k:=Lib.hid (QDR f hf.1 hf.2).2.1
 have f0:=hf.1
 have f1:=hf.2
 go_enter Tryz.func270,Tryz.ntmps270
 go_wp2
 go_ret
 exact⟨Qp k.out,rfl⟩
theorem QEb (a b low:Int)(ha:B8 a)(hb:B8 b)(hl:B8 low)(O L:Nat)(w:World)(hO:w.cell? ⟨O,0,none⟩=some (.func (.func 247) #[] #[]))(hL:w.cell? ⟨L,0,none⟩=some (.int .u8 low)) :
 Calls Tryz.prog 306 #[.int .u8 a,.int .u8 b,.pointer (some ⟨O,0,none⟩),.pointer (some ⟨L,0,none⟩)] w fun e w' =>
  e=.returned (two (Xe a b (isM low 0)) (Ql (Xr a b (isM low 0)) (bits .and .u8 (Xr a b (isM low 0)) low) 64))∧Below w.heap.size w w':=by
 have hB:=hb
 clear hb
 have hf:=Qt a b (isM low 0)
 have hg:B8 (bits .and .u8 (Xr a b (isM low 0)) low):=QBc _ _ hf.1 hf.2 hl.1 hl.2
 go_enter Tryz.func306,Tryz.ntmps306
 go_wp2_with fail
 go_region_held3 (fun w'=>w'.cell? ⟨O,0,none⟩=some (.func (.func 247) #[] #[])∧w'.cell? ⟨L,0,none⟩=some (.int .u8 low)) (first|go_keep|exact QSP hb (by assumption))
  (first
  | (go_at_call 270;refine (qv _ (by assumption) _).mono ?_;rintro e w' ⟨rfl,rfl⟩)
  | (go_at_call 247;refine (QAF _ _ _ (by assumption) (by assumption) _).mono ?_;rintro e w' ⟨rfl,hb⟩;have hsz:=hb.size))
 rename_i hh
 obtain⟨h1,h2⟩:=hh
 have f0:=hf.1
 have f1:=hf.2
 have l0:=hl.1
 have l1:=hl.2
 go_wp2_with (first
  | (go_at_call 218;refine (XT _ _ _ (B8.lo (by assumption)) (B8.hi (by assumption)) (B8.lo (by assumption)) (B8.hi (by assumption)) (by omega) (by omega) _).mono ?_;rintro e w' ⟨rfl,rfl⟩))
 go_ret2
 exact⟨rfl,(by repeat (first|exact Below.refl _ _|assumption|refine JF ?_ (by assumption)|refine Below.drew ?_|refine Below.alloc ?_ (by first|(simp;done)|(simp;omega)|omega) _|refine Below.setCell ?_ (by first|(simp;done)|(simp;omega)|omega) _))⟩
theorem QGX (a b:Int)(c:Bool)(ha:B8 a)(hb:B8 b)(w:World) :
 Calls Tryz.prog 296 #[.agg #[.func (.func 247) #[] #[]],.int .u8 a,.int .u8 b,.bool c] w fun e w'=>∃ O L,
  e=.returned (.tuple #[.int .u8 (Xe a b c),.func (.func 306) #[] #[.pointer (some ⟨O,0,none⟩),.pointer (some ⟨L,0,none⟩)]]) ∧
  (w'.cell? ⟨O,0,none⟩=some (.func (.func 247) #[] #[])∧w'.cell? ⟨L,0,none⟩=some (.int .u8 (Xr a b c)))∧Below w.heap.size w w':=by
 have hB:=hb
 clear hb
 go_enter Tryz.func296,Tryz.ntmps296
 go_wp2_with (first
  | (go_at_call 247;refine (QAF _ _ _ (by assumption) (by assumption) _).mono ?_;rintro e w' ⟨rfl,hb⟩;have hsz:=hb.size))
 go_ret2
 refine⟨w.heap.size,w'.heap.size,rfl,⟨cell_kept (jL w _ _) (Below.trans hb (Below.alloc (Below.refl _ _) hsz _)),jL _ _ _⟩,?_⟩
 (try simp only[World.size_alloc] at hsz)
 exact (by repeat (first|exact Below.refl _ _|assumption|refine JF ?_ (by assumption)|refine Below.drew ?_|refine Below.alloc ?_ (by first|(simp;done)|(simp;omega)|omega) _|refine Below.setCell ?_ (by first|(simp;done)|(simp;omega)|omega) _))
theorem QA7 (a b:Int)(c:Bool)(ha:W16 a)(hb:W16 b)(w:World) :
 Calls Tryz.prog 269 #[.agg #[.func (.func 247) #[] #[]],.int .u16 a,.int .u16 b,.bool c] w fun e w' =>
  e=.returned (QPo (jo a b c) (QAO a b c))∧Below w.heap.size w w':=by
 have hB:=hb
 clear hb
 have al:=ha.low
 have ah:=ha.high
 have bl:=hB.low
 have bh:=hB.high
 have lf:=Qt (a%256) (b%256) c
 have rl:=QL (a%256) (b%256) c
 have rh:=QL (a / 256) (b / 256) (isM (Xr (a%256) (b%256) c) 0)
 have hw:=Lib.hid (QHm a b c ha hB)
 have hf:=Lib.hid (QLb a b c ha hB)
 go_enter Tryz.func269,Tryz.ntmps269
 go_wp2_with fail
 go_region_held3 (fun w'=>w'.cell? ⟨w.heap.size,0,none⟩=some (.func (.func 247) #[] #[])) (first|go_keep|exact cell_kept (by assumption) hb)
  (first
  | (go_at_call 117;refine (ZS _ (W16.lo (by assumption)) (W16.hi (by assumption)) _).mono ?_;rintro e w' ⟨rfl,rfl⟩)
  | (go_at_call 296;refine (QGX _ _ _ (by assumption) (by assumption) _).mono ?_;rintro e w' ⟨O,L,rfl,hcell,hb⟩;have hsz:=hb.size))
 rename_i hh
 clear hh
 obtain⟨h1,h2⟩:=hcell
 go_wp2_with (first
  | (go_at_call 160;refine (jq _ (W16.lo (by assumption)) (W16.hi (by assumption)) _).mono ?_;rintro e w' ⟨rfl,rfl⟩)
  | (go_at_call 92;refine (JW _ _ (B8.lo (by assumption)) (B8.hi (by assumption)) (B8.lo (by assumption)) (B8.hi (by assumption)) _).mono ?_;rintro e w' ⟨rfl,rfl⟩)
  | (go_at_call 306;refine (QEb _ _ (Xr (a%256) (b%256) c) (by assumption) (by assumption) lf _ _ _ h1 h2).mono ?_;rintro e w2 ⟨rfl,hb2⟩;have hsz2:=hb2.size))
 go_ret2
 refine⟨by rw[←hw.out,←hf.out];rfl,?_⟩
 (try simp only[World.size_alloc] at hsz)
 exact (by repeat (first|exact Below.refl _ _|assumption|refine JF ?_ (by assumption)|refine Below.drew ?_|refine Below.alloc ?_ (by first|(simp;done)|(simp;omega)|omega) _|refine Below.setCell ?_ (by first|(simp;done)|(simp;omega)|omega) _))
theorem QEQ (a b low:Int)(ha:B8 a)(hb:B8 b)(hl:B8 low)(O L:Nat)(w:World)(hO:w.cell? ⟨O,0,none⟩=some (.func (.func 230) #[] #[]))(hL:w.cell? ⟨L,0,none⟩=some (.int .u8 low)) :
 Calls Tryz.prog 306 #[.int .u8 a,.int .u8 b,.pointer (some ⟨O,0,none⟩),.pointer (some ⟨L,0,none⟩)] w fun e w' =>
  e=.returned (two (QT a b (isM low 0)) (Ql (QX a b (isM low 0)) (bits .and .u8 (QX a b (isM low 0)) low) 64))∧Below w.heap.size w w':=by
 have hB:=hb
 clear hb
 have hf:=J6 a b (isM low 0)
 have hg:B8 (bits .and .u8 (QX a b (isM low 0)) low):=QBc _ _ hf.1 hf.2 hl.1 hl.2
 go_enter Tryz.func306,Tryz.ntmps306
 go_wp2_with fail
 go_region_held3 (fun w'=>w'.cell? ⟨O,0,none⟩=some (.func (.func 230) #[] #[])∧w'.cell? ⟨L,0,none⟩=some (.int .u8 low)) (first|go_keep|exact QSP hb (by assumption))
  (first
  | (go_at_call 270;refine (qv _ (by assumption) _).mono ?_;rintro e w' ⟨rfl,rfl⟩)
  | (go_at_call 230;refine (jR _ _ _ (by assumption) (by assumption) _).mono ?_;rintro e w' ⟨rfl,hb⟩;have hsz:=hb.size))
 rename_i hh
 obtain⟨h1,h2⟩:=hh
 have f0:=hf.1
 have f1:=hf.2
 have l0:=hl.1
 have l1:=hl.2
 go_wp2_with (first
  | (go_at_call 218;refine (XT _ _ _ (B8.lo (by assumption)) (B8.hi (by assumption)) (B8.lo (by assumption)) (B8.hi (by assumption)) (by omega) (by omega) _).mono ?_;rintro e w' ⟨rfl,rfl⟩))
 go_ret2
 exact⟨rfl,(by repeat (first|exact Below.refl _ _|assumption|refine JF ?_ (by assumption)|refine Below.drew ?_|refine Below.alloc ?_ (by first|(simp;done)|(simp;omega)|omega) _|refine Below.setCell ?_ (by first|(simp;done)|(simp;omega)|omega) _))⟩
theorem QGS (a b:Int)(c:Bool)(ha:B8 a)(hb:B8 b)(w:World) :
 Calls Tryz.prog 296 #[.agg #[.func (.func 230) #[] #[]],.int .u8 a,.int .u8 b,.bool c] w fun e w'=>∃ O L,
  e=.returned (.tuple #[.int .u8 (QT a b c),.func (.func 306) #[] #[.pointer (some ⟨O,0,none⟩),.pointer (some ⟨L,0,none⟩)]]) ∧
  (w'.cell? ⟨O,0,none⟩=some (.func (.func 230) #[] #[])∧w'.cell? ⟨L,0,none⟩=some (.int .u8 (QX a b c)))∧Below w.heap.size w w':=by
 have hB:=hb
 clear hb
 go_enter Tryz.func296,Tryz.ntmps296
 go_wp2_with (first
  | (go_at_call 230;refine (jR _ _ _ (by assumption) (by assumption) _).mono ?_;rintro e w' ⟨rfl,hb⟩;have hsz:=hb.size))
 go_ret2
 refine⟨w.heap.size,w'.heap.size,rfl,⟨cell_kept (jL w _ _) (Below.trans hb (Below.alloc (Below.refl _ _) hsz _)),jL _ _ _⟩,?_⟩
 (try simp only[World.size_alloc] at hsz)
 exact (by repeat (first|exact Below.refl _ _|assumption|refine JF ?_ (by assumption)|refine Below.drew ?_|refine Below.alloc ?_ (by first|(simp;done)|(simp;omega)|omega) _|refine Below.setCell ?_ (by first|(simp;done)|(simp;omega)|omega) _))
theorem QGK (a b:Int)(c:Bool)(ha:W16 a)(hb:W16 b)(w:World) :
 Calls Tryz.prog 269 #[.agg #[.func (.func 230) #[] #[]],.int .u16 a,.int .u16 b,.bool c] w fun e w' =>
  e=.returned (QPo (QAS a b c) (QA8 a b c))∧Below w.heap.size w w':=by
 have hB:=hb
 clear hb
 have al:=ha.low
 have ah:=ha.high
 have bl:=hB.low
 have bh:=hB.high
 have lf:=J6 (a%256) (b%256) c
 have rl:=J7 (a%256) (b%256) c
 have rh:=J7 (a / 256) (b / 256) (isM (QX (a%256) (b%256) c) 0)
 have hw:=Lib.hid (QHH a b c ha hB)
 have hf:=Lib.hid (QLJ a b c ha hB)
 go_enter Tryz.func269,Tryz.ntmps269
 go_wp2_with fail
 go_region_held3 (fun w'=>w'.cell? ⟨w.heap.size,0,none⟩=some (.func (.func 230) #[] #[])) (first|go_keep|exact cell_kept (by assumption) hb)
  (first
  | (go_at_call 117;refine (ZS _ (W16.lo (by assumption)) (W16.hi (by assumption)) _).mono ?_;rintro e w' ⟨rfl,rfl⟩)
  | (go_at_call 296;refine (QGS _ _ _ (by assumption) (by assumption) _).mono ?_;rintro e w' ⟨O,L,rfl,hcell,hb⟩;have hsz:=hb.size))
 rename_i hh
 clear hh
 obtain⟨h1,h2⟩:=hcell
 go_wp2_with (first
  | (go_at_call 160;refine (jq _ (W16.lo (by assumption)) (W16.hi (by assumption)) _).mono ?_;rintro e w' ⟨rfl,rfl⟩)
  | (go_at_call 92;refine (JW _ _ (B8.lo (by assumption)) (B8.hi (by assumption)) (B8.lo (by assumption)) (B8.hi (by assumption)) _).mono ?_;rintro e w' ⟨rfl,rfl⟩)
  | (go_at_call 306;refine (QEQ _ _ (QX (a%256) (b%256) c) (by assumption) (by assumption) lf _ _ _ h1 h2).mono ?_;rintro e w2 ⟨rfl,hb2⟩;have hsz2:=hb2.size))
 go_ret2
 refine⟨by rw[←hw.out,←hf.out];rfl,?_⟩
 (try simp only[World.size_alloc] at hsz)
 exact (by repeat (first|exact Below.refl _ _|assumption|refine JF ?_ (by assumption)|refine Below.drew ?_|refine Below.alloc ?_ (by first|(simp;done)|(simp;omega)|omega) _|refine Below.setCell ?_ (by first|(simp;done)|(simp;omega)|omega) _))
theorem QDH (w:World) :
 Calls Tryz.prog 271 #[] w fun e w'=>e=.returned (.agg #[.func (.func 247) #[] #[]])∧Below w.heap.size w w':=by
 go_enter Tryz.func271,Tryz.ntmps271
 go_wp2
 refine bodyPost_ret (v:=.agg #[.func (.func 247) #[] #[]]) (by simp[results,Tryz.f271,go_sem]) rfl ?_
 exact⟨rfl,(by repeat (first|exact Below.refl _ _|assumption|refine JF ?_ (by assumption)|refine Below.drew ?_|refine Below.alloc ?_ (by first|(simp;done)|(simp;omega)|omega) _|refine Below.setCell ?_ (by first|(simp;done)|(simp;omega)|omega) _))⟩
theorem QCh (w:World) :
 Calls Tryz.prog 268 #[] w fun e w'=>e=.returned (.agg #[.func (.func 230) #[] #[]])∧Below w.heap.size w w':=by
 go_enter Tryz.func268,Tryz.ntmps268
 go_wp2
 refine bodyPost_ret (v:=.agg #[.func (.func 230) #[] #[]]) (by simp[results,Tryz.f268,go_sem]) rfl ?_
 exact⟨rfl,(by repeat (first|exact Below.refl _ _|assumption|refine JF ?_ (by assumption)|refine Below.drew ?_|refine Below.alloc ?_ (by first|(simp;done)|(simp;omega)|omega) _|refine Below.setCell ?_ (by first|(simp;done)|(simp;omega)|omega) _))⟩
theorem QM9 (a b f:Int)(ha:W16 a)(hb:W16 b)(hf:B8 f)(w:World) :
 Calls Tryz.prog 243 #[.int .u16 a,.int .u16 b,.int .u8 f] w fun e w'=>e=.returned (QPo (jo a b false) (QFF a b f))∧Below w.heap.size w w':=by
 have hB:=hb
 clear hb
 have hm:=Lib.hid (QMF a b f)
 have hg:=QEw a b false
 go_enter Tryz.func243,Tryz.ntmps243
 go_wp2_with (first
  | (go_at_call 271;refine (QDH _).mono ?_;rintro e w' ⟨rfl,hb⟩;have hsz:=hb.size)
  | (go_at_call 269;refine (QA7 _ _ _ (by assumption) (by assumption) _).mono ?_;rintro e w' ⟨rfl,hb⟩;have hsz:=hb.size)
  | (go_at_call 218;refine (XT _ _ _ (B8.lo (by assumption)) (B8.hi (by assumption)) (B8.lo (by assumption)) (B8.hi (by assumption)) (by omega) (by omega) _).mono ?_;rintro e w' ⟨rfl,rfl⟩))
 go_ret2
 exact⟨by rw[←hm.out];rfl,(by repeat (first|exact Below.refl _ _|assumption|refine JF ?_ (by assumption)|refine Below.drew ?_|refine Below.alloc ?_ (by first|(simp;done)|(simp;omega)|omega) _|refine Below.setCell ?_ (by first|(simp;done)|(simp;omega)|omega) _))⟩
theorem QOC (a b f:Int)(ha:W16 a)(hb:W16 b)(hf:B8 f)(w:World) :
 Calls Tryz.prog 226 #[.int .u16 a,.int .u16 b,.int .u8 f] w fun e w'=>e=.returned (QPo (jo a b (isM f 0)) (QAO a b (isM f 0)))∧Below w.heap.size w w':=by
 have hB:=hb
 clear hb
 go_enter Tryz.func226,Tryz.ntmps226
 go_wp2_with (first
  | (go_at_call 271;refine (QDH _).mono ?_;rintro e w' ⟨rfl,hb⟩;have hsz:=hb.size)
  | (go_at_call 270;refine (qv _ (by assumption) _).mono ?_;rintro e w' ⟨rfl,rfl⟩)
  | (go_at_call 269;refine (QA7 _ _ _ (by assumption) (by assumption) _).mono ?_;rintro e w' ⟨rfl,hb⟩;have hsz:=hb.size))
 go_ret2
 exact⟨rfl,(by repeat (first|exact Below.refl _ _|assumption|refine JF ?_ (by assumption)|refine Below.drew ?_|refine Below.alloc ?_ (by first|(simp;done)|(simp;omega)|omega) _|refine Below.setCell ?_ (by first|(simp;done)|(simp;omega)|omega) _))⟩
theorem QOo (a b f:Int)(ha:W16 a)(hb:W16 b)(hf:B8 f)(w:World) :
 Calls Tryz.prog 224 #[.int .u16 a,.int .u16 b,.int .u8 f] w fun e w'=>e=.returned (QPo (QAS a b (isM f 0)) (QA8 a b (isM f 0)))∧Below w.heap.size w w':=by
 have hB:=hb
 clear hb
 go_enter Tryz.func224,Tryz.ntmps224
 go_wp2_with (first
  | (go_at_call 268;refine (QCh _).mono ?_;rintro e w' ⟨rfl,hb⟩;have hsz:=hb.size)
  | (go_at_call 270;refine (qv _ (by assumption) _).mono ?_;rintro e w' ⟨rfl,rfl⟩)
  | (go_at_call 269;refine (QGK _ _ _ (by assumption) (by assumption) _).mono ?_;rintro e w' ⟨rfl,hb⟩;have hsz:=hb.size))
 go_ret2
 exact⟨rfl,(by repeat (first|exact Below.refl _ _|assumption|refine JF ?_ (by assumption)|refine Below.drew ?_|refine Below.alloc ?_ (by first|(simp;done)|(simp;omega)|omega) _|refine Below.setCell ?_ (by first|(simp;done)|(simp;omega)|omega) _))⟩
theorem XV (x y:Int)(hx:W16 x)(w:World) :
 Calls Tryz.prog 234 #[.int .u16 x,.int .i64 y] w fun e w'=>e=.returned (.int .u16 (JG x y))∧w=w':=by
 have x0:=hx.1
 have x1:=hx.2
 go_enter Tryz.func234,Tryz.ntmps234
 go_wp2
 go_ret
 exact⟨Jr (by simp only[IntKind.wrap_u16];unfold JG;omega),rfl⟩
theorem QGn (x y:Int)(hx:W16 x)(hy:B8 y)(w:World) :
 Calls Tryz.prog 191 #[.int .u16 x,.int .u8 y] w fun e w'=>e=.returned (.int .u16 (JG x (JP y)))∧w=w':=by
 go_enter Tryz.func191,Tryz.ntmps191
 go_wp2_with (first
  | (go_at_call 119;refine (QAp _ (B8.lo (by assumption)) (B8.hi (by assumption)) _).mono ?_;rintro e w' ⟨rfl,rfl⟩)
  | (go_at_call 234;refine (XV _ _ (by assumption) _).mono ?_;rintro e w' ⟨rfl,rfl⟩))
 go_ret
 exact⟨rfl,rfl⟩
abbrev three (r q f:Int):Value:=.tuple #[.int .u8 r,.int .u8 q,.int .u8 f]
theorem QTD (k b f:Int)(hb:B8 b)(hf:B8 f)(w:World)(hd:Courses w) :
 Calls Tryz.prog 168 #[.int .i64 k,.int .u8 b,.int .u8 f] w fun e w'=>e=.returned (two (doR k b f) (doF k b f))∧Below w.heap.size w w':=by
 have hB:=hb
 clear hb
 by_cases h:0≤k∧k < 8
 · have er:doR k b f=shM k b f:=if_pos h
   have ef:doF k b f=QA0 (shM k b f) (Z5 k b):=if_pos h
   rw[er,ef,←QGQ]
   have hs:=QBV k b f hB
   obtain⟨h0,h1⟩:=h
   clear er ef
   generalize hR:shM k b f=R at hs ⊢
   generalize hO:Z5 k b=O at ⊢
   have hR:=Lib.hid hR
   have hO:=Lib.hid hO
   have hm:=fun w hd=>QIU k b f h0 h1 hB hf w hd
   rw[hR.out,hO.out] at hm
   clear h0 h1 hR hO
   go_enter Tryz.func168,Tryz.ntmps168
   go_wp2_with (first
    | (go_at_call 214;refine (hm _ hd).mono ?_;rintro e w' ⟨rfl,hb⟩;have hsz:=hb.size)
    | (go_at_call 215;refine (XW _ (B8.lo (by assumption)) (B8.hi (by assumption)) _).mono ?_;rintro e w' ⟨rfl,hb⟩;have hsz:=hb.size)
    | (go_at_call 216;refine (QDU _ _).mono ?_;rintro e w' ⟨rfl,rfl⟩))
   go_ret2
   exact⟨rfl,(by repeat (first|exact Below.refl _ _|assumption|refine JF ?_ (by assumption)|refine Below.drew ?_|refine Below.alloc ?_ (by first|(simp;done)|(simp;omega)|omega) _|refine Below.setCell ?_ (by first|(simp;done)|(simp;omega)|omega) _))⟩
 · have er:doR k b f=b:=if_neg h
   have ef:doF k b f=f:=if_neg h
   rw[er,ef]
   have h':k < 0∨8≤k:=by omega
   clear h er ef
   have hm:=fun w hd=>QKj k b f h' hB hf w hd
   clear h'
   go_enter Tryz.func168,Tryz.ntmps168
   go_wp2_with (first
    | (go_at_call 214;refine (hm _ hd).mono ?_;rintro e w' ⟨rfl,hb⟩;have hsz:=hb.size))
   go_ret2
   exact⟨rfl,(by repeat (first|exact Below.refl _ _|assumption|refine JF ?_ (by assumption)|refine Below.drew ?_|refine Below.alloc ?_ (by first|(simp;done)|(simp;omega)|omega) _|refine Below.setCell ?_ (by first|(simp;done)|(simp;omega)|omega) _))⟩
theorem QRo (k b f:Int)(hb:B8 b)(hf:B8 f)(w:World)(hd:Courses w) :
 Calls Tryz.prog 252 #[.int .i64 k,.int .u8 b,.int .u8 f] w fun e w'=>e=.returned (two (QFh k b f) (QFb k b f))∧Below w.heap.size w w':=by
 have hB:=hb
 clear hb
 by_cases h:0≤k∧k < 4
 · have er:QFh k b f=shM k b f:=if_pos h
   have ef:QFb k b f=Xd f (shM k b f) false false (Z5 k b):=if_pos h
   rw[er,ef,←QOt]
   have hs:=QBV k b f hB
   obtain⟨h0,h1⟩:=h
   clear er ef
   have hm:=fun w hd=>QIU k b f h0 (by omega) hB hf w hd
   generalize shM k b f=R at hs hm ⊢
   generalize Z5 k b=O at hm ⊢
   have hq:=QP R
   go_enter Tryz.func252,Tryz.ntmps252
   go_wp2_with (first
    | (go_at_call 214;refine (hm _ hd).mono ?_;rintro e w' ⟨rfl,hb⟩;have hsz:=hb.size)
    | (go_at_call 266;refine (ZM _ (B8.lo (by assumption)) (B8.hi (by assumption)) _).mono ?_;rintro e w' ⟨rfl,rfl⟩)
    | (go_at_call 218;refine (XT _ _ _ (B8.lo (by assumption)) (B8.hi (by assumption)) (B8.lo (by assumption)) (B8.hi (by assumption)) (by omega) (by omega) _).mono ?_;rintro e w' ⟨rfl,rfl⟩)
    | (go_at_call 216;refine (QDU _ _).mono ?_;rintro e w' ⟨rfl,rfl⟩))
   go_ret2
   exact⟨rfl,(by repeat (first|exact Below.refl _ _|assumption|refine JF ?_ (by assumption)|refine Below.drew ?_|refine Below.alloc ?_ (by first|(simp;done)|(simp;omega)|omega) _|refine Below.setCell ?_ (by first|(simp;done)|(simp;omega)|omega) _))⟩
 · have er:QFh k b f=b:=if_neg h
   have ef:QFb k b f=f:=if_neg h
   rw[er,ef]
   clear er ef
   by_cases h2:3 < k
   · clear h
     go_enter Tryz.func252,Tryz.ntmps252
     go_wp2_with fail
     go_ret2
     exact⟨rfl,(by repeat (first|exact Below.refl _ _|assumption|refine JF ?_ (by assumption)|refine Below.drew ?_|refine Below.alloc ?_ (by first|(simp;done)|(simp;omega)|omega) _|refine Below.setCell ?_ (by first|(simp;done)|(simp;omega)|omega) _))⟩
   · have h3:k < 0:=by omega
     have hm:=fun w hd=>QKj k b f (by omega) hB hf w hd
     clear h
     go_enter Tryz.func252,Tryz.ntmps252
     go_wp2_with (first
      | (go_at_call 214;refine (hm _ hd).mono ?_;rintro e w' ⟨rfl,hb⟩;have hsz:=hb.size))
     go_ret2
     exact⟨rfl,(by repeat (first|exact Below.refl _ _|assumption|refine JF ?_ (by assumption)|refine Below.drew ?_|refine Below.alloc ?_ (by first|(simp;done)|(simp;omega)|omega) _|refine Below.setCell ?_ (by first|(simp;done)|(simp;omega)|omega) _))⟩
theorem QME (right:Bool)(a b f:Int)(ha:B8 a)(hb:B8 b)(hf:B8 f)(w:World) :
 Calls Tryz.prog 274 #[.bool right,.int .u8 a,.int .u8 b,.int .u8 f] w fun e w'=>e=.returned (three (QAz right a b) (QJW right a b) (QA0 (QAz right a b) (isM f 0)))∧Below w.heap.size w w':=by
 have hB:=hb
 clear hb
 obtain⟨la,ua⟩:=QHi a ha
 obtain⟨lb,_⟩:=QHi b hB
 have lf:=qm f hf
 have a0:=ha.1
 have a1:=ha.2
 have b0:=hB.1
 have b1:=hB.2
 cases right
 · have j1:bits .or .u8 (a / 16*16) (b / 16)=QAz false a b:=QAB _ _ (by omega) (by omega) (by omega) (by omega)
   have j2:bits .or .u8 (b%16*16) (a%16)=QJW false a b:=QAB _ _ (by omega) (by omega) (by omega) (by omega)
   have hd:=qY false a b ha hB
   rw[←QGQ]
   go_enter Tryz.func274,Tryz.ntmps274
   go_wp2_with (first
    | (go_at_call 215;refine (XW _ (B8.lo (by assumption)) (B8.hi (by assumption)) _).mono ?_;rintro e w' ⟨rfl,hb⟩;have hsz:=hb.size))
   go_ret3
   exact⟨rfl,(by repeat (first|exact Below.refl _ _|assumption|refine JF ?_ (by assumption)|refine Below.drew ?_|refine Below.alloc ?_ (by first|(simp;done)|(simp;omega)|omega) _|refine Below.setCell ?_ (by first|(simp;done)|(simp;omega)|omega) _))⟩
 · have j1:bits .or .u8 (a / 16*16) (b%16)=QAz true a b:=QAB _ _ (by omega) (by omega) (by omega) (by omega)
   have j2:bits .or .u8 (a%16*16) (b / 16)=QJW true a b:=QAB _ _ (by omega) (by omega) (by omega) (by omega)
   have hd:=qY true a b ha hB
   rw[←QGQ]
   go_enter Tryz.func274,Tryz.ntmps274
   go_wp2_with (first
    | (go_at_call 215;refine (XW _ (B8.lo (by assumption)) (B8.hi (by assumption)) _).mono ?_;rintro e w' ⟨rfl,hb⟩;have hsz:=hb.size))
   go_ret3
   exact⟨rfl,(by repeat (first|exact Below.refl _ _|assumption|refine JF ?_ (by assumption)|refine Below.drew ?_|refine Below.alloc ?_ (by first|(simp;done)|(simp;omega)|omega) _|refine Below.setCell ?_ (by first|(simp;done)|(simp;omega)|omega) _))⟩
theorem QIW (n b lines f:Int)(hb:B8 b)(hl:B8 lines)(hf:B8 f)(w:World) :
 Calls Tryz.prog 174 #[.int .i64 n,.int .u8 b,.int .u8 lines,.int .u8 f] w fun e w'=>e=.returned (.int .u8 (QCk n b lines f))∧w=w':=by
 have lf:=qm f hf
 have km:=QOF lines f hf
 rw[lf] at km
 have ho:=QGJ 16 (one (isM f 0)) (by omega) (by omega) (Q4 _).1 (by have:=(Q4 (isM f 0)).2;omega)
 have hq:B8 (bits .or .u8 16 (one (isM f 0))):=ho
 clear ho
 cases hi:isM b n
 · have hm:=QT1 n b lines f hi
   go_enter Tryz.func174,Tryz.ntmps174
   go_wp2_with (first
    | (go_at_call 219;refine (Qi _ _ (B8.lo (by assumption)) (B8.hi (by assumption)) _).mono ?_;rintro e w' ⟨rfl,rfl⟩)
    | (go_at_call 218;refine (XT _ _ _ (B8.lo (by assumption)) (B8.hi (by assumption)) (B8.lo (by assumption)) (B8.hi (by assumption)) (by omega) (by omega) _).mono ?_;rintro e w' ⟨rfl,rfl⟩))
   go_ret
   exact⟨rfl,rfl⟩
 · by_cases h7:n=7
   · subst h7
     have hm:=QLj b lines f hi
     go_enter Tryz.func174,Tryz.ntmps174
     go_wp2_with (first
      | (go_at_call 219;refine (Qi _ _ (B8.lo (by assumption)) (B8.hi (by assumption)) _).mono ?_;rintro e w' ⟨rfl,rfl⟩)
      | (go_at_call 218;refine (XT _ _ _ (B8.lo (by assumption)) (B8.hi (by assumption)) (B8.lo (by assumption)) (B8.hi (by assumption)) (by omega) (by omega) _).mono ?_;rintro e w' ⟨rfl,rfl⟩))
     go_ret
     exact⟨rfl,rfl⟩
   · have hm:=QRc n b lines f hi h7
     have n7:(n==7)=false:=by simpa using h7
     clear h7
     go_enter Tryz.func174,Tryz.ntmps174
     go_wp2_with (first
      | (go_at_call 219;refine (Qi _ _ (B8.lo (by assumption)) (B8.hi (by assumption)) _).mono ?_;rintro e w' ⟨rfl,rfl⟩)
      | (go_at_call 218;refine (XT _ _ _ (B8.lo (by assumption)) (B8.hi (by assumption)) (B8.lo (by assumption)) (B8.hi (by assumption)) (by omega) (by omega) _).mono ?_;rintro e w' ⟨rfl,rfl⟩))
     go_ret
     exact⟨rfl,rfl⟩
theorem cells3 (w:World)(t:TypeId)(x0 x1 x2:Int)(n:Nat×Nat):∀ j,j < [x0,x1,x2].length→(w.alloc (.cells #[.int .u8 x0,.int .u8 x1,.int .u8 x2] t n)).cell? ⟨w.heap.size,0+j,none⟩=some (.int .u8 ([x0,x1,x2].getD j 0)):=by
 have e:∀ o:Obj,(w.alloc o).heap[w.heap.size]? = some o:=fun o=>by
  show (w.heap.push _)[w.heap.size]? = _
  simp
 intro j hj
 match j,hj with
 | 0,_=>simp only[World.cell?,Nat.zero_add,e];rfl
 | 1,_=>simp only[World.cell?,Nat.zero_add,e];rfl
 | 2,_=>simp only[World.cell?,Nat.zero_add,e];rfl
theorem cells5 (w:World)(t:TypeId)(x0 x1 x2 x3 x4:Int)(n:Nat×Nat):∀ j,j < [x0,x1,x2,x3,x4].length→(w.alloc (.cells #[.int .u8 x0,.int .u8 x1,.int .u8 x2,.int .u8 x3,.int .u8 x4] t n)).cell? ⟨w.heap.size,0+j,none⟩=some (.int .u8 ([x0,x1,x2,x3,x4].getD j 0)):=by
 have e:∀ o:Obj,(w.alloc o).heap[w.heap.size]? = some o:=fun o=>by
  show (w.heap.push _)[w.heap.size]? = _
  simp
 intro j hj
 match j,hj with
 | 0,_=>simp only[World.cell?,Nat.zero_add,e];rfl
 | 1,_=>simp only[World.cell?,Nat.zero_add,e];rfl
 | 2,_=>simp only[World.cell?,Nat.zero_add,e];rfl
 | 3,_=>simp only[World.cell?,Nat.zero_add,e];rfl
 | 4,_=>simp only[World.cell?,Nat.zero_add,e];rfl
theorem QB9 (h:Bool)(v:Int)(h0:0≤v)(h1:v≤255)(w:World) :
 Calls Tryz.prog 297 #[.bool h,.int .u8 v] w fun e w'=>e=.returned (.int .u8 (J2 h v))∧w=w':=by
 cases h
 all_goals
  go_enter Tryz.func297,Tryz.ntmps297
  go_wp2
  go_ret
  exact⟨rfl,rfl⟩
theorem jv (b off len cap:Nat)(zs:List Int)(w:World)(hz:len≤zs.length)(hbig:len≤100)(hc:∀ j,j < zs.length→w.cell? ⟨b,off+j,none⟩=some (.int .u8 (zs.getD j 0))) :
 Calls Tryz.prog 275 #[.slice (some ⟨b,off,none⟩) len cap] w fun e w'=>e=.returned (.int .u8 (J0 zs len))∧w=w':=by
 go_enter Tryz.func275,Tryz.ntmps275
 go_wp2
 go_loop [3,8] (fun t i=>∃ k:Nat,k≤len∧i=.int .i64 k∧t=.int .u8 (J0 zs k)) (fun _ i=>len-(intOf i).toNat)
 case atStart=>exact⟨0,Nat.zero_le _,rfl,rfl⟩
 case round =>
  obtain⟨k,hk,rfl,rfl⟩:=hrel
  by_cases hlt:k < len
  · have hk0:(0:Int)≤(k:Int):=by omega
    have hk1:(k:Int) < (len:Int):=by omega
    have hcell:=hc k (by omega)
    have hc:=Lib.hid hc
    go_wp2
    go_round
    case rel=>exact⟨k+1,by omega,by go_num,rfl⟩
    case measure=>simp[intOf];omega
  · obtain rfl:k=len:=by omega
    go_wp2
    go_ret
    exact⟨rfl,rfl⟩
theorem QD5 (bc:Int)(h0:0≤bc)(h1:bc≤65535)(w:World) :
 Calls Tryz.prog 276 #[.int .u16 bc] w fun e w'=>e=.returned (.int .u8 (J2 (bc != 0) 4))∧w=w':=by
 go_enter Tryz.func276,Tryz.ntmps276
 go_wp2_with (first
  | (go_at_call 297;refine (QB9 _ _ (by omega) (by omega) _).mono ?_;rintro e w' ⟨rfl,rfl⟩))
 go_ret
 exact⟨rfl,rfl⟩
def QB6 (n:Int):Int:=J0 [J2 (isM n 1) 32,J2 (isM n 3) 8] 2
theorem QCG (n:Int)(hn:B8 n)(w:World) :
 Calls Tryz.prog 277 #[.int .u8 n] w fun e w'=>e=.returned (.int .u8 (QB6 n))∧Below w.heap.size w w':=by
 go_enter Tryz.func277,Tryz.ntmps277
 go_wp2_with (first
  | (go_at_call 219;refine (Qi _ _ (B8.lo (by assumption)) (B8.hi (by assumption)) _).mono ?_;rintro e w' ⟨rfl,rfl⟩)
  | (go_at_call 297;refine (QB9 _ _ (by omega) (by omega) _).mono ?_;rintro e w' ⟨rfl,rfl⟩)
  | (go_at_call 275;refine (jv _ 0 2 2 [J2 (isM n 1) 32,J2 (isM n 3) 8] _ (by simp) (by omega) (QPN _ _ _ _ _)).mono ?_;rintro e w' ⟨rfl,rfl⟩))
 go_ret
 exact⟨rfl,(by repeat (first|exact Below.refl _ _|assumption|refine JF ?_ (by assumption)|refine Below.drew ?_|refine Below.alloc ?_ (by first|(simp;done)|(simp;omega)|omega) _|refine Below.setCell ?_ (by first|(simp;done)|(simp;omega)|omega) _))⟩
theorem QRH:∀ x:Fin 256,bits .and .u8 (x.val:Int) 193=mkM (isM (x.val:Int) 7) (isM (x.val:Int) 6) false false false false false (isM (x.val:Int) 0):=by decide +kernel
theorem QSC:∀ x:Fin 256,bits .and .u8 (x.val:Int) 208=mkM (isM (x.val:Int) 7) (isM (x.val:Int) 6) false (isM (x.val:Int) 4) false false false false:=by decide +kernel
theorem QTt:∀ x:Fin 256,(bits .and .u8 (x.val:Int) 16 != 0)=isM (x.val:Int) 4:=by decide +kernel
theorem QPT:∀ b7 b6 b0 p y x:Bool,J0 [mkM b7 b6 false false false false false b0,J2 p 4,J0 [J2 y 32,J2 x 8] 2] 3=mkM b7 b6 y false x p false b0:=by decide +kernel
theorem QPa:∀ b7 b6 b4 c p y x:Bool,J0 [mkM b7 b6 false b4 false false false false,2,one c,J2 p 4,J0 [J2 y 32,J2 x 8] 2] 5=mkM b7 b6 y b4 x p true c:=by decide +kernel
theorem QOP:∀ b7 z b5 b3 n k p:Bool,J0 [mkM b7 z b5 false b3 false false false,J2 n 2,J2 k 17,J2 p 4] 4=mkM b7 z b5 k b3 p n k:=by decide +kernel
theorem QMj (a b bc f:Int)(hf:B8 f):J0 [bits .and .u8 f 193,J2 (bc != 0) 4,QB6 (QEs a b)] 3=moveF a b bc f:=by
 rw[Je (P:=fun x=>bits .and .u8 x 193=mkM (isM x 7) (isM x 6) false false false false false (isM x 0)) QRH f hf.1 hf.2]
 exact QPT _ _ _ _ _ _
theorem QMa (a b bc f:Int)(hf:B8 f):J0 [bits .and .u8 (QX a b false) 208,2,bits .and .u8 f 1,J2 (bc != 0) 4,QB6 (lessM a b)] 5=QHr a b bc f:=by
 have hg:=J6 a b false
 rw[qm f hf,Je (P:=fun x=>bits .and .u8 x 208=mkM (isM x 7) (isM x 6) false (isM x 4) false false false false) QSC _ hg.1 hg.2]
 exact QPa _ _ _ _ _ _ _
theorem QLc (b k left:Int):J0 [JT left,J2 (isM b 7) 2,J2 (decide (255 < k)) 17,J2 (jV (zD (k%8) left)) 4] 4=QBZ b k left :=
 QOP _ _ _ _ _ _ _
theorem QNo (a b bc f:Int)(ha:B8 a)(hb:B8 b)(hf:B8 f)(h0:0≤bc)(h1:bc≤65535)(w:World) :
 Calls Tryz.prog 235 #[.int .u8 a,.int .u8 b,.int .u16 bc,.int .u8 f] w fun e w'=>e=.returned (.int .u8 (moveF a b bc f))∧Below w.heap.size w w':=by
 have hm:=Lib.hid (QMj a b bc f hf)
 have hn:=Lib.hid (QJq a b)
 have a0:=ha.1;have a1:=ha.2;have b0:=hb.1;have b1:=hb.2
 clear ha hb
 go_enter Tryz.func235,Tryz.ntmps235
 go_wp2_with (first
  | (go_at_call 276;refine (QD5 _ h0 h1 _).mono ?_;rintro e w' ⟨rfl,rfl⟩)
  | (go_at_call 277;refine (QCG _ hn.out _).mono ?_;rintro e w' ⟨rfl,hb⟩;have hsz:=hb.size)
  | (go_at_call 275;refine (jv _ 0 3 3 [bits .and .u8 f 193,J2 (bc != 0) 4,QB6 (QEs a b)] _ (by simp) (by omega) (cells3 _ _ _ _ _ _)).mono ?_;rintro e w' ⟨rfl,rfl⟩))
 go_ret
 exact⟨Jr hm.out,(by repeat (first|exact Below.refl _ _|assumption|refine JF ?_ (by assumption)|refine Below.drew ?_|refine Below.alloc ?_ (by first|(simp;done)|(simp;omega)|omega) _|refine Below.setCell ?_ (by first|(simp;done)|(simp;omega)|omega) _))⟩
theorem QPK (a b bc f:Int)(ha:B8 a)(hb:B8 b)(hf:B8 f)(h0:0≤bc)(h1:bc≤65535)(w:World) :
 Calls Tryz.prog 236 #[.int .u8 a,.int .u8 b,.int .u16 bc,.int .u8 f] w fun e w'=>e=.returned (.int .u8 (QHr a b bc f))∧Below w.heap.size w w':=by
 have hm:=Lib.hid (QMa a b bc f hf)
 have hn:=Lib.hid (QJI a b)
 have hs:=Lib.hid (fun w=>jR a b false ha hb w)
 have hg:=J6 a b false
 have k4:=Je (P:=fun x=>(bits .and .u8 x 16 != 0)=isM x 4) QTt _ hg.1 hg.2
 cases hc:isM (QX a b false) 4
 · have hl:=Lib.hid (QON a b hc)
   rw[hc] at k4
   clear hc ha hb hg
   generalize hR:QT a b false=R at *
   generalize hG:QX a b false=G at *
   clear hR hG
   have hl:=hl.out
   subst hl
   go_enter Tryz.func236,Tryz.ntmps236
   go_wp2_with (first
    | (go_at_call 230;refine (hs.out _).mono ?_;rintro e w' ⟨rfl,hb⟩;have hsz:=hb.size)
    | (go_at_call 276;refine (QD5 _ h0 h1 _).mono ?_;rintro e w' ⟨rfl,rfl⟩)
    | (go_at_call 277;refine (QCG _ hn.out _).mono ?_;rintro e w' ⟨rfl,hb⟩;have hsz:=hb.size)
    | (go_at_call 275;refine (jv _ 0 5 5 [bits .and .u8 G 208,2,bits .and .u8 f 1,J2 (bc != 0) 4,QB6 (lessM a b)] _ (by simp) (by omega) (cells5 _ _ _ _ _ _ _ _)).mono ?_;rintro e w' ⟨rfl,rfl⟩))
   go_ret
   exact⟨Jr hm.out,(by repeat (first|exact Below.refl _ _|assumption|refine JF ?_ (by assumption)|refine Below.drew ?_|refine Below.alloc ?_ (by first|(simp;done)|(simp;omega)|omega) _|refine Below.setCell ?_ (by first|(simp;done)|(simp;omega)|omega) _))⟩
 · have hl:=QJd a b hc
   have hr:=J7 a b false
   have r0:=hr.1
   have r1:=hr.2
   rw[hc] at k4
   clear hc ha hb hg hr
   generalize hR:QT a b false=R at *
   generalize hG:QX a b false=G at *
   clear hR hG
   go_enter Tryz.func236,Tryz.ntmps236
   go_wp2_with (first
    | (go_at_call 230;refine (hs.out _).mono ?_;rintro e w' ⟨rfl,hb⟩;have hsz:=hb.size)
    | (go_at_call 276;refine (QD5 _ h0 h1 _).mono ?_;rintro e w' ⟨rfl,rfl⟩)
    | (go_at_call 277;refine (QCG _ hn.out _).mono ?_;rintro e w' ⟨rfl,hb⟩;have hsz:=hb.size)
    | (go_at_call 275;refine (jv _ 0 5 5 [bits .and .u8 G 208,2,bits .and .u8 f 1,J2 (bc != 0) 4,QB6 (lessM a b)] _ (by simp) (by omega) (cells5 _ _ _ _ _ _ _ _)).mono ?_;rintro e w' ⟨rfl,rfl⟩))
   go_ret
   exact⟨Jr hm.out,(by repeat (first|exact Below.refl _ _|assumption|refine JF ?_ (by assumption)|refine Below.drew ?_|refine Below.alloc ?_ (by first|(simp;done)|(simp;omega)|omega) _|refine Below.setCell ?_ (by first|(simp;done)|(simp;omega)|omega) _))⟩
theorem QHN (b l left:Int)(hB:B8 b)(hl:B8 l)(hL:B8 left)(w:World) :
 Calls Tryz.prog 278 #[.int .u8 b,.int .u8 l,.int .u8 left] w fun e w'=>e=.returned (.int .u8 (QBZ b (b+l) left))∧Below w.heap.size w w':=by
 have hm:=Lib.hid (QLc b (b+l) left)
 have hx:=QMN ((b+l)%8) left ⟨by omega,by omega⟩ hL
 have hr:B8 (zD ((b+l)%8) left):=Jw ..
 have b0:=hB.1;have b1:=hB.2;have l0:=hl.1;have l1:=hl.2
 go_enter Tryz.func278,Tryz.ntmps278
 go_wp2_with (first
  | (go_at_call 266;refine (ZM _ (B8.lo (by assumption)) (B8.hi (by assumption)) _).mono ?_;rintro e w' ⟨rfl,rfl⟩)
  | (go_at_call 219;refine (Qi _ _ (B8.lo (by assumption)) (B8.hi (by assumption)) _).mono ?_;rintro e w' ⟨rfl,rfl⟩)
  | (go_at_call 297;refine (QB9 _ _ (by omega) (by omega) _).mono ?_;rintro e w' ⟨rfl,rfl⟩)
  | (go_at_call 267;refine (QIc _ (B8.lo (by assumption)) (B8.hi (by assumption)) _).mono ?_;rintro e w' ⟨rfl,hb⟩;have hsz:=hb.size)
  | (go_at_call 275;refine (jv _ 0 4 4 [JT left,J2 (isM b 7) 2,J2 (decide (255 < b+l)) 17,J2 (jV (zD ((b+l)%8) left)) 4] _ (by simp) (by omega) (QNW _ _ _ _ _ _ _)).mono ?_;rintro e w' ⟨rfl,rfl⟩))
 go_ret
 exact⟨Jr hm.out,(by repeat (first|exact Below.refl _ _|assumption|refine JF ?_ (by assumption)|refine Below.drew ?_|refine Below.alloc ?_ (by first|(simp;done)|(simp;omega)|omega) _|refine Below.setCell ?_ (by first|(simp;done)|(simp;omega)|omega) _))⟩
theorem QPF (b c left s:Int)(hB:B8 b)(hc:B8 c)(hL:B8 left)(w:World) :
 Calls Tryz.prog 238 #[.int .u8 b,.int .u8 c,.int .u8 left,.int .i64 s] w fun e w'=>e=.returned (.int .u8 (QBZ b (b+byC c s) left))∧Below w.heap.size w w':=by
 have hw:IntKind.u8.wrap s=s%256:=IntKind.wrap_u8 s
 have hq:(c+s%256)%256=byC c s:=by unfold byC;omega
 have hr:=QNL c s
 go_enter Tryz.func238,Tryz.ntmps238
 go_wp2_with (first
  | (go_at_call 278;refine (QHN _ _ _ (by assumption) (by assumption) (by assumption) _).mono ?_;rintro e w' ⟨rfl,hb⟩;have hsz:=hb.size))
 go_ret
 exact⟨rfl,(by repeat (first|exact Below.refl _ _|assumption|refine JF ?_ (by assumption)|refine Below.drew ?_|refine Below.alloc ?_ (by first|(simp;done)|(simp;omega)|omega) _|refine Below.setCell ?_ (by first|(simp;done)|(simp;omega)|omega) _))⟩
theorem QPp (b l left:Int)(hB:B8 b)(hl:B8 l)(hL:B8 left)(w:World) :
 Calls Tryz.prog 239 #[.int .u8 b,.int .u8 l,.int .u8 left] w fun e w'=>e=.returned (.int .u8 (QBZ b (b+l) left))∧Below w.heap.size w w':=by
 go_enter Tryz.func239,Tryz.ntmps239
 go_wp2_with (first
  | (go_at_call 278;refine (QHN _ _ _ (by assumption) (by assumption) (by assumption) _).mono ?_;rintro e w' ⟨rfl,hb⟩;have hsz:=hb.size))
 go_ret
 exact⟨rfl,(by repeat (first|exact Below.refl _ _|assumption|refine JF ?_ (by assumption)|refine Below.drew ?_|refine Below.alloc ?_ (by first|(simp;done)|(simp;omega)|omega) _|refine Below.setCell ?_ (by first|(simp;done)|(simp;omega)|omega) _))⟩
theorem XD (kind f:Int)(hf:B8 f)(w:World) :
 Calls Tryz.prog 189 #[.int .i64 kind,.int .u8 f] w fun e w'=>e=.returned (.bool (Jo kind f))∧w=w':=by
 obtain⟨k6,-,k2,-⟩:=QDR f hf.1 hf.2
 by_cases hc:kind < 0∨4≤kind
 · rw[QJg kind f hc]
   have n0:(kind==0)=false:=by simp;omega
   have n1:(kind==1)=false:=by simp;omega
   have n2:(kind==2)=false:=by simp;omega
   have n3:(kind==3)=false:=by simp;omega
   clear hc
   cases hz:isM f 6
   all_goals
    rw[hz] at k6
    go_enter Tryz.func189,Tryz.ntmps189
    go_wp2
    go_ret
    exact⟨rfl,rfl⟩
 · obtain rfl|rfl|rfl|rfl:kind=0∨kind=1∨kind=2∨kind=3:=by omega
   all_goals
    clear hc
    cases hz:isM f 6<;>cases hp:isM f 2
    all_goals
     rw[hz] at k6
     rw[hp] at k2
     go_enter Tryz.func189,Tryz.ntmps189
     go_wp2
     go_ret
     exact⟨Qp (by simp[Jo,hz,hp]),rfl⟩
abbrev five (c:Int):Value:=.tuple #[.int .i64 (fx c),.int .i64 (fy c),.int .i64 (fz c),.int .i64 (fp c),.int .i64 (fq c)]
theorem QFe {fn:Func} {t u v x y:Tmp}(h:fn.results=#[.tmp t,.tmp u,.tmp v,.tmp x,.tmp y])(tmps:Array Value)(P:Program)(w:World) :
 (results fn tmps).run P w=.ok (.tuple #[tmps.getD t undef,tmps.getD u undef,tmps.getD v undef,tmps.getD x undef,tmps.getD y undef]) w:=by simp[results,h]
theorem qt (c:Int)(hc:B8 c)(w:World) :
 Calls Tryz.prog 53 #[.int .u8 c] w fun e w'=>e=.returned (five c)∧w=w':=by
 obtain⟨h0,h1⟩:=hc
 go_enter Tryz.func53,Tryz.ntmps53
 go_wp2
 refine bodyPost_ret (QFe rfl _ _ _) rfl ?_
 refine⟨?_,rfl⟩
 have e1:c / 8%8 / 2=c / 16%4:=by omega
 have e2:c / 8%8%2=c / 8%2:=by omega
 show Ending.returned (.tuple #[.int .i64 (c / 64),.int .i64 (c / 8%8),.int .i64 (c%8),.int .i64 (c / 8%8 / 2),.int .i64 (c / 8%8%2)])=_
 rw[e1,e2]
 rfl
theorem QQ0 (c:Int)(hc:B8 c):0≤fx c∧fx c≤3:=by obtain⟨h0,h1⟩:=hc;unfold fx;omega
theorem QP7 (c:Int)(hc:B8 c):0≤fy c∧fy c≤7:=by obtain⟨h0,h1⟩:=hc;unfold fy;omega
theorem QR8 (c:Int)(hc:B8 c):0≤fz c∧fz c≤7:=by obtain⟨h0,h1⟩:=hc;unfold fz;omega
theorem zz (p:Int)(w:World) :
 Calls Tryz.prog 59 #[.int .i64 p] w fun e w'=>e=.returned (.bool (QAg p))∧w=w':=by
 have h:QAg p=(p==5||p==6):=rfl
 cases h5:(p==5)<;>cases h6:(p==6)
 all_goals
  rw[h5,h6] at h
  have H:=Lib.hid h
  clear h
  go_enter Tryz.func59,Tryz.ntmps59
  go_wp2
  go_ret
  exact⟨Qp (by rw[H.out];rfl),rfl⟩
theorem QAl (p:Int)(w:World) :
 Calls Tryz.prog 58 #[.int .i64 p] w fun e w'=>e=.returned (.int .i64 (QC1 p))∧w=w':=by
 by_cases h3:p=3
 · subst h3
   go_enter Tryz.func58,Tryz.ntmps58
   go_wp2
   go_ret
   exact⟨rfl,rfl⟩
 · by_cases h4:p=4
   · subst h4
     go_enter Tryz.func58,Tryz.ntmps58
     go_wp2
     go_ret
     exact⟨rfl,rfl⟩
   · have H:=Lib.hid (show QC1 p=1 by unfold QC1;rw[if_neg h3,if_neg h4])
     have e3:(p==3)=false:=by simpa using h3
     have e4:(p==4)=false:=by simpa using h4
     clear h3 h4
     go_enter Tryz.func58,Tryz.ntmps58
     go_wp2
     go_ret
     exact⟨Jr H.out.symm,rfl⟩
theorem QJP (c:Int)(hc:B8 c)(w:World) :
 Calls Tryz.prog 91 #[.int .u8 c] w fun e w'=>e=.returned (.bool (QGP c))∧w=w':=by
 have bx:=QQ0 c hc
 have bY:=QP7 c hc
 have bz:=QR8 c hc
 have hf:=Lib.hid (qt c hc)
 cases hy6:(fy c==6)<;>cases hz6:(fz c==6)
 all_goals
  go_enter Tryz.func91,Tryz.ntmps91
  go_wp2_with (first
   | (go_at_call 53;refine (hf.out _).mono ?_;rintro e w' ⟨rfl,rfl⟩))
  all_goals
   go_ret
   refine⟨Qp ?_,rfl⟩
   (try unfold QGP)
   (try simp[*])
   (try simp_all)
   (try omega)
theorem ZL (p c:Int)(hc:B8 c)(w:World) :
 Calls Tryz.prog 60 #[.int .i64 p,.int .u8 c] w fun e w'=>e=.returned (.bool (Jp p c))∧w=w':=by
 have hp:=Lib.hid (QJP c hc)
 have ha:=Lib.hid (zz p)
 by_cases h3:p=3
 · subst h3
   go_enter Tryz.func60,Tryz.ntmps60
   go_wp2_with (first
    | (go_at_call 91;refine (hp.out _).mono ?_;rintro e w' ⟨rfl,rfl⟩))
   go_ret
   exact⟨rfl,rfl⟩
 · by_cases h4:p=4
   · subst h4
     go_enter Tryz.func60,Tryz.ntmps60
     go_wp2_with (first
      | (go_at_call 91;refine (hp.out _).mono ?_;rintro e w' ⟨rfl,rfl⟩))
     go_ret
     exact⟨rfl,rfl⟩
   · have H:=Lib.hid (show Jp p c=QAg p by unfold Jp;rw[if_neg (by omega)])
     have e3:(p==3)=false:=by simpa using h3
     have e4:(p==4)=false:=by simpa using h4
     clear h3 h4
     go_enter Tryz.func60,Tryz.ntmps60
     go_wp2_with (first
      | (go_at_call 59;refine (ha.out _).mono ?_;rintro e w' ⟨rfl,rfl⟩))
     go_ret
     exact⟨Qp H.out.symm,rfl⟩
abbrev opV (a b c d e f:Int):Value:=.agg #[.int .i64 a,.int .u8 b,.int .u8 c,.int .u16 d,.int .i64 e,.int .i64 f]
theorem QFq (b c d e f:Int)(w:World) :
 Calls Tryz.prog 57 #[opV 0 b c d e f] w fun E w'=>E=.returned (opV 0 b c d e f)∧Below w.heap.size w w':=by
 go_enter Tryz.func57,Tryz.ntmps57
 go_wp2
 refine bodyPost_ret (v:=opV 0 b c d e f) (by simp[results,Tryz.f57,go_sem]) rfl ?_
 exact⟨rfl,(by repeat (first|exact Below.refl _ _|assumption|refine JF ?_ (by assumption)|refine Below.drew ?_|refine Below.alloc ?_ (by first|(simp;done)|(simp;omega)|omega) _|refine Below.setCell ?_ (by first|(simp;done)|(simp;omega)|omega) _))⟩
theorem j6 (a b c d e f:Int)(h:(a != 0)=true)(hf:0≤f∧f≤4611686018427387904)(w:World) :
 Calls Tryz.prog 57 #[opV a b c d e f] w fun E w'=>E=.returned (opV a b c d e (f+1))∧Below w.heap.size w w':=by
 go_enter Tryz.func57,Tryz.ntmps57
 go_wp2
 refine bodyPost_ret (v:=opV a b c d e (f+1)) (by simp[results,Tryz.f57,go_sem]) rfl ?_
 exact⟨rfl,(by repeat (first|exact Below.refl _ _|assumption|refine JF ?_ (by assumption)|refine Below.drew ?_|refine Below.alloc ?_ (by first|(simp;done)|(simp;omega)|omega) _|refine Below.setCell ?_ (by first|(simp;done)|(simp;omega)|omega) _))⟩
theorem fpB (c:Int)(hc:B8 c):0≤fp c∧fp c≤3:=by obtain⟨h0,h1⟩:=hc;unfold fp;omega
theorem fqB (c:Int)(hc:B8 c):0≤fq c∧fq c≤1:=by obtain⟨h0,h1⟩:=hc;unfold fq;omega
theorem B8.not {a:Int}(h:B8 a):B8 (255-a):=by obtain⟨h0,h1⟩:=h;exact⟨by omega,by omega⟩
theorem ZB {s:Ms}(h:MsB s):B8 s.a:=h.r.af.hi
theorem QF {s:Ms}(h:MsB s):B8 s.f:=h.r.af.lo8
theorem zn {s:Ms}(h:MsB s):Wd16 s.hl:=h.r.pair _ _
theorem Qx {s:Ms}(h:MsB s):Wd16 s.pair:=h.r.pair _ _
theorem QOO:∀ x:Fin 256,bits .and .u8 (x.val:Int) 1=one (isM (x.val:Int) 0):=by decide +kernel
theorem QTG (f:Int)(hf:B8 f)(w:World):(binOp .and 5 (.int .u8 f) (.int .u8 1)).run Tryz.prog w=.ok (.int .u8 (one (isM f 0))) w:=by
 rw[←Je (P:=fun f=>bits .and .u8 f 1=one (isM f 0)) QOO f hf.1 hf.2]
 exact QUL f 1 w
theorem QKO:∀ b0 b1 b2 b3 b4 c:Bool,bits .or .u8 (mkM b0 b1 b2 false b3 b4 false false) (one c)=JR (mkM b0 b1 b2 false b3 b4 false false) 0 c:=by decide +kernel
theorem QRP (b:Int)(c:Bool)(w:World):(binOp .or 5 (.int .u8 (Jq b)) (.int .u8 (one c))).run Tryz.prog w=.ok (.int .u8 (JR (Jq b) 0 c)) w:=by
 rw[QSz]
 unfold Jq
 rw[QKO]
theorem QLz (b:Int)(c:Bool)(w:World):(binOp .or 5 (.int .u8 (JT b)) (.int .u8 (one c))).run Tryz.prog w=.ok (.int .u8 (JR (JT b) 0 c)) w:=by
 rw[QSz]
 unfold JT
 rw[QKO]
theorem QQi:∀ x:Fin 256,bits .or .u8 (x.val:Int) 4=JR (x.val:Int) 2 true:=by decide +kernel
theorem bOrP (f:Int)(hf:B8 f)(w:World):(binOp .or 5 (.int .u8 f) (.int .u8 4)).run Tryz.prog w=.ok (.int .u8 (JR f 2 true)) w:=by
 rw[←Je (P:=fun f=>bits .or .u8 f 4=JR f 2 true) QQi f hf.1 hf.2]
 exact QSz f 4 w
theorem QLO:∀ b0 b1 b2 b3 c:Bool,JR (JR (mkM b0 b1 b2 false b3 false false false) 0 c) 2 false=JR (mkM b0 b1 b2 false b3 false false false) 0 c:=by decide +kernel
theorem QLm (b:Int)(c:Bool):JR (JR (JT b) 0 c) 2 false=JR (JT b) 0 c:=by
 unfold JT
 rw[QLO]
theorem mod4 (y:Int):y%4=0∨y%4=1∨y%4=2∨y%4=3:=by omega
theorem QJ8 {x k:Int}(h0:0≤x)(h:x%4=k)(w:World):(binOp .rem 3 (.int .i64 x) (.int .i64 4)).run Tryz.prog w=.ok (.int .i64 k) w:=by
 have e:x.tmod 4=k:=by rw[Int.tmod_eq_emod_of_nonneg h0];exact h
 have e2:IntKind.i64.wrap k=k:=by rw[IntKind.wrap_i64];omega
 simp[go_sem,e,e2]
theorem QTy (w:World):(Instr.indexAt 206 (pT 24 0) (.int .i64 0)).run Tryz.prog w=.ok (pT 24 0) w:=by simp[go_sem,Addr.add]
theorem QTq (w:World):(Instr.indexAt 206 (pT 24 0) (.int .i64 1)).run Tryz.prog w=.ok (pT 24 1) w:=by simp[go_sem,Addr.add]
theorem QTY (w:World):(Instr.indexAt 206 (pT 24 0) (.int .i64 2)).run Tryz.prog w=.ok (pT 24 2) w:=by simp[go_sem,Addr.add]
theorem QTN (w:World):(Instr.indexAt 206 (pT 24 0) (.int .i64 3)).run Tryz.prog w=.ok (pT 24 3) w:=by simp[go_sem,Addr.add]
section
variable {ops:Array Oper} {Q:Exit→Act→World→Prop} {a:Act} {w w0:World} {o:Oper} {rest:List Oper} {p B:Nat} {s:Ms} {xs:List Int} {x y:Operand}
theorem zH (hn:NowN w0 p B s xs w)(i:Nat)(V:Value)(s':Ms){t:TypeId}(hd:o.dst=none)(hg:o.guard=none)(ho:o.op=.store t x y)(hx:a.eval x=pT p i)(hy:a.eval y=V)
 (hl:(Instr.storeAt t (pT p i) V).run Tryz.prog w=.ok () (w.setCell ⟨p,i,none⟩ V))(hs:∀ A n cap,(mC s A n cap).setIfInBounds i V=mC s' A n cap)(hb:MsB s')
 (h:∀ w',NowN w0 p B s' xs w'→WL Tryz.prog ops Q rest (a.put none undef) w'):WL Tryz.prog ops Q (o :: rest) a w:=QM4 _ _ hd hg ho hx hy hl (h _ (hn.set i V s' hs hb))
end
theorem AtN.nil {w:World} {p B:Nat} {s:Ms}(h:AtN w p B s []):∃ A cap,w.cell? ⟨p,20,none⟩=some (.slice A 0 cap):=by
 obtain⟨A,cap,hc,hr,hb⟩:=h.row
 exact⟨A,cap,hr.cell 20⟩
theorem AtN.cons {w:World} {p B:Nat} {s:Ms} {b:Int} {bs:List Int}(h:AtN w p B s (b :: bs)):∃ ad cap,bs.length+1≤cap∧w.cell? ⟨p,20,none⟩=some (.slice (some ad) (bs.length+1) cap)∧w.cell? ad=some (.int .u8 b) ∧
 AtN (w.setCell ⟨p,20,none⟩ (.slice (some (if cap=1 then ad else ad.add 1)) bs.length (cap-1))) p B s bs:=by
 have hp:=h.lt
 obtain⟨⟨A,cap,hc,hr,hby⟩,hl,h8,hm,ht⟩:=h
 obtain⟨ad,rfl,hlt,hcell⟩:=hby 0 b rfl
 have hd:=hby.drop (k:=1) (cap:=cap) (by simp) hc
 have k:∀ v c,c < B→(w.setCell ⟨p,20,none⟩ v).heap[c]? = w.heap[c]?:=fun v c hlt=>Below.heap_setCell w _ v c (by show c≠p;omega)
 refine⟨ad,cap,by simpa using hc,by simpa using hr.cell 20,by simpa [Addr.add] using hcell,⟨⟨some (if cap=1 then ad else ad.add 1),cap-1,by simp at hc;omega,?_,?_⟩,hl,h8.tail,hm,ht.keep (k _)⟩⟩
 · have:=hr.set 20 (.slice (some (if cap=1 then ad else ad.add 1)) bs.length (cap-1))
   exact this
 · refine BytesIn.keep ?_ (k _)
   simp only[List.drop_succ_cons,List.drop_zero] at hd
   have e:(if cap=1 then some ad else (some ad).map (·.add 1))=some (if cap=1 then ad else ad.add 1):=by split<;>rfl
   rwa [e] at hd
theorem QFP (c:Cy)(hc:Wd16 c.addr∧B8 c.data){s:Ms} {xs:List Int} {w:World} {p B:Nat}(h:AtN w p B s xs) :
 Calls Tryz.prog 124 #[pT p 0,cyV c] w (OutI w p B .u8 ((QGz c s).run xs)):=by
 obtain⟨ck,ca,cd,ct⟩:=c
 cases xs with
 | nil =>
   obtain⟨A,cap,h20⟩:=h.nil
   have hp:=h.lt
   have bel:Besides p p w (w.alloc (.cells #[.int .i64 ck,.int .u16 ca,.int .u8 cd,.int .i64 ct] 40)):=(Besides.refl p p w).alloc _
   have h20':(w.alloc (.cells #[.int .i64 ck,.int .u16 ca,.int .u8 cd,.int .i64 ct] 40)).cell? ⟨p,20,none⟩=some (.slice A 0 cap):=JH w _ h20
   clear h20
   have f0:∀ b w,(Instr.fieldAt 150 (pT b 0) 1).run Tryz.prog w=.ok (pT b 20) w:=fM1
   go_enter Tryz.func124,Tryz.ntmps124
   go_wp2
   exact⟨rfl,rfl,⟨bel,hc⟩⟩
 | cons b bs =>
   have hb0:B8 b:=h.bytes.head
   have hp:=h.lt
   have h':AtN (w.alloc (.cells #[.int .i64 ck,.int .u16 ca,.int .u8 cd,.int .i64 ct] 40)) p B s (b :: bs):=h.below (Below.alloc (Below.refl _ _) (Nat.le_refl _) _)
   have bel:Besides p p w (w.alloc (.cells #[.int .i64 ck,.int .u16 ca,.int .u8 cd,.int .i64 ct] 40)):=(Besides.refl p p w).alloc _
   clear h
   obtain⟨ad,cap,hcap,h20,hcell,hnext⟩:=h'.cons
   have hz:=h'.frozen 20
   have f0:∀ b w,(Instr.fieldAt 150 (pT b 0) 1).run Tryz.prog w=.ok (pT b 20) w:=fM1
   have hne:((bs.length:Int)+1==0)=false:=by simp;omega
   have hl0:¬((bs.length:Int)+1 < 1):=by omega
   have hl1:(0:Int) < (bs.length:Int)+1:=by omega
   have hl2:¬((cap:Int) < (bs.length:Int)+1):=by omega
   have hrun:(QGz ⟨ck,ca,cd,ct⟩ s).run (b :: bs)=.ok ((b,s),bs):=Tr.run_done _ _
   have e:∀ v,(w.alloc (.cells #[.int .i64 ck,.int .u16 ca,.int .u8 cd,.int .i64 ct] 40)).setCell ⟨p,20,none⟩ v=(w.setCell ⟨p,20,none⟩ v).alloc (.cells #[.int .i64 ck,.int .u16 ca,.int .u8 cd,.int .i64 ct] 40):=fun v=>World.setCell_alloc_past _ _ _ v hp
   have bel2:∀ v,Besides p p w ((w.setCell ⟨p,20,none⟩ v).alloc (.cells #[.int .i64 ck,.int .u16 ca,.int .u8 cd,.int .i64 ct] 40)):=fun v=>((Besides.refl p p w).setCell (.inl rfl) v).alloc _
   rw[e] at hnext
   by_cases h1:cap=1
   · subst h1
     obtain rfl:bs=[]:=List.length_eq_zero_iff.1 (by omega)
     rw[if_pos rfl] at hnext
     go_enter Tryz.func124,Tryz.ntmps124
     go_wp2
     exact retI 4 (.int .u8 b) rfl (by kernel_rfl) rfl (OutI.ok (k:=.u8) hrun hb0 ⟨hnext,bel2 _⟩)
   · rw[if_neg h1] at hnext
     simp only[Addr.add,Nat.one_ne_zero,if_false] at hnext
     go_enter Tryz.func124,Tryz.ntmps124
     go_wp2
     exact retI 4 (.int .u8 b) rfl (by kernel_rfl) rfl (OutI.ok (k:=.u8) hrun hb0 ⟨hnext,bel2 _⟩)
end Go.Proofs.YtbhaojlikgdgjaaGreatDoor
