/- Contracts and facts that the claim's proof wants (several texts in one). -/
import Derived.StillTailTactics
import Derived.Test.YtmgcgiecimnncaaGreatDoorTlG7
namespace Go.Proofs.YtmgcgiecimnncaaGreatDoor
open Go.RowKit
set_option linter.unusedVariables false
set_option linter.unusedSimpArgs false
set_option maxRecDepth 20000
set_option maxHeartbeats 20000000
theorem QOu (g:Rg)(w:World) :
 Calls Tryz.prog 275 #[JM g] w fun e w'=>e=.returned (JM (QLx g))∧Below w.heap.size w w':=by
 go_enter Tryz.func275,Tryz.ntmps275
 refine JA<|qQ [] (Many.begin w) fun w hm=>qQ [0,0,0,0] hm fun w hm=>qQ [0,1] hm fun w hm=>JE<|eoC 1 (JO (QLx g)).toList hm ⟨rfl,hm.touch.below⟩
theorem QRT (g:Rg)(w:World) :
 Calls Tryz.prog 294 #[JM g] w fun e w'=>e=.returned (JM (QSs g))∧Below w.heap.size w w':=by
 go_enter Tryz.func294,Tryz.ntmps294
 refine JA<|qQ [] (Many.begin w) fun w hm=>qQ [0,0,0,0] hm fun w hm=>qQ [0,0,0,0] hm fun w hm=>qQ [0,0,0,0] hm fun w hm=>qQ [0,1] hm fun w hm=>JE<|eoC 1 (JO (QSs g)).toList hm ⟨rfl,hm.touch.below⟩
theorem Zv (g g':Rg)(p k v:Int)(F:FuncId)(o:Nat)(x:Int)
 (hlk:∀ {w:World} {M:Nat},w.heap[M]? = some (.map (Jl p) 4)→(Instr.lookup 267 (.map (some M)) (.int .i64 k) true).run Tryz.prog w=.ok (.tuple #[.func (.func F) #[] #[],.bool true]) w)
 (hF:∀ (b:Nat) (w:World),Calls Tryz.prog F #[.pointer (some ⟨b,0,none⟩)] w fun e w'=>e=.returned (.pointer (some ⟨b,o,none⟩))∧w=w')(hold:(JO g)[o]? = some (.int .u16 x))(hnew:(JO g).setIfInBounds o (.int .u16 v)=JO g')(hcall:∀ (args:Array Value) (w:World),(callFunc F args).run Tryz.prog w=.ok (.enter F args) w)(w:World) :
 Calls Tryz.prog 306 #[JM g,.int .i64 p,.int .i64 k,.int .u16 v] w fun e w'=>e=.returned (JM g')∧Below w.heap.size w w':=by
 have kh:=Lib.hid (fun w=>QAv p w)
 obtain⟨cs,hcs⟩:∃ cs,cs=(JO g):=⟨_,rfl⟩
 have HE:=Lib.hid hcs
 show Calls _ _ #[.agg (JO g),.int .i64 p,.int .i64 k,.int .u16 v] _ _
 rw[←hcs]
 clear hcs
 go_enter Tryz.func306,Tryz.ntmps306
 go_upto_region 1 with (fail)
 have rA:=(Row.new w 24 cs).alloc (.cells zL 24)
 have rZ:=Row.new (w.alloc (.cells cs 24)) 24 zL
 rw[show (w.alloc (.cells cs 24)).heap.size=w.heap.size+1 by simp] at rZ
 have rZ:=Lib.hid rZ
 have HB:=Lib.hid (((Below.refl w.heap.size w).alloc (Nat.le_refl _) (.cells cs 24)).alloc (by simp) (.cells zL 24))
 have HW:=Lib.hid (show ((w.alloc (.cells cs 24)).alloc (.cells zL 24)).heap.size=w.heap.size+2 by simp)
 generalize (w.alloc (.cells cs 24)).alloc (.cells zL 24)=W0 at *
 rw[HE.out] at rA
 have rA:=Lib.hid rA
 have hltA:=rA.out.lt
 have hltZ:=rZ.out.lt
 go_wp2_with fail
 refine (kh.out _).mono ?_
 rintro e w2 ⟨rfl,rfl⟩
 have hlk:=hlk (World.alloc_heap_new W0 (.map (Jl p) 4))
 have qA:=Lib.hid (rA.out.alloc (.map (Jl p) 4))
 have qZ:=Lib.hid (rZ.out.alloc (.map (Jl p) 4))
 have HB':=Lib.hid (HB.out.alloc HB.out.size (.map (Jl p) 4))
 have HW':=Lib.hid (show (W0.alloc (.map (Jl p) 4)).heap.size=w.heap.size+3 by rw[World.size_alloc,HW.out])
 clear HB HW rA rZ
 have HB:=HB'
 have HW:=HW'
 have rA:=qA
 have rZ:=qZ
 clear HB' HW' qA qZ
 generalize W0.alloc (.map (Jl p) 4)=W1 at *
 generalize W0.heap.size=M at *
 obtain⟨es,hes⟩:∃ es,es=(JO g):=⟨_,rfl⟩
 have HS:=Lib.hid hes
 have hA:=rA.out
 rw[←hes] at hA
 have hA:=Lib.hid hA
 have iR:Hid ((Tryz.prog.info? 24).map (·.size)=some es.size):=Lib.hid (by rw[hes];exact jX)
 have iE:Hid ((Tryz.prog.info? 269).map (·.size)=some es.size):=Lib.hid (by rw[hes];exact zo)
 have oE:Hid (es.toList.all (·.oneCell')=true):=Lib.hid (by rw[hes];rfl)
 have sE:Hid (es.size=20):=Lib.hid (by rw[hes];rfl)
 clear hes rA
 go_upto_region 5 with (first
  | (refine wpList_load_row rfl 24 _ rfl _ _ _ rfl hA.out _ Tryz.underlying24 rfl iR.out ?_)
  | (refine Qi rfl 269 _ _ rfl _ _ _ _ es rfl rfl (by simp) (by rw[sE.out];exact Eq.refl 20) iE.out oE.out ?_))
 have rF:=Row.new W1 269 es
 have qA:=hA.out.alloc (.cells es 269)
 have qZ:=rZ.out.alloc (.cells es 269)
 have HB':=Lib.hid (HB.out.alloc HB.out.size (.cells es 269))
 have HW':=Lib.hid (show (W1.alloc (.cells es 269)).heap.size=w.heap.size+4 by rw[World.size_alloc,HW.out])
 rw[HW.out] at rF
 rw[HW.out]
 clear HB HW hA rZ hlk
 have HB:=HB'
 have HW:=HW'
 clear HB' HW'
 generalize W1.alloc (.cells es 269)=W2 at *
 rw[HS.out] at rF qA
 have rF:=Lib.hid rF
 have rA:=Lib.hid qA
 have rZ:=Lib.hid qZ
 clear qA qZ
 have hltF:=rF.out.lt
 have lF1:W2.cell? ⟨w.heap.size+3,o,none⟩=some (.int .u16 x):=(rF.out.cell o).trans hold
 have fF1:=rF.out.frozen o
 have qA0:Row (W2.setCell ⟨w.heap.size+3,o,none⟩ (.int .u16 v)) (w.heap.size) 24 (JO g):=rA.out.far (p:=⟨w.heap.size+3,o,none⟩) (by simp) (.int .u16 v)
 have qZ0:Row (W2.setCell ⟨w.heap.size+3,o,none⟩ (.int .u16 v)) (w.heap.size+1) 24 zL:=rZ.out.far (p:=⟨w.heap.size+3,o,none⟩) (by simp) (.int .u16 v)
 have qF0:Row (W2.setCell ⟨w.heap.size+3,o,none⟩ (.int .u16 v)) (w.heap.size+3) 269 (JO g'):=hnew▸rF.out.set o (.int .u16 v)
 have qA:=qA0
 have qZ:=qZ0
 have qF:=qF0
 clear qA0 qZ0 qF0
 have HB':=Lib.hid (HB.out.setCell (p:=⟨w.heap.size+3,o,none⟩) (by first|exact Nat.le_refl _|exact Nat.le_add_right _ _) (.int .u16 v))
 go_upto_region 6 with (refine (hF _ _).mono ?_;rintro e w' ⟨rfl,rfl⟩)
 clear lF1 fF1 rA rZ rF HB
 have rA:=Lib.hid qA
 have rZ:=Lib.hid qZ
 have rF:=Lib.hid qF
 clear qA qZ qF
 have HB:=HB'
 clear HB'
 generalize W2.setCell ⟨w.heap.size+3,o,none⟩ (.int .u16 v)=W3 at *
 obtain⟨ds,hds⟩:∃ ds,ds=(JO g'):=⟨_,rfl⟩
 have i24:Hid ((Tryz.prog.info? 24).map (·.size)=some ds.size):=Lib.hid (by rw[hds];exact jX)
 have one:Hid (ds.toList.all (·.oneCell')=true):=Lib.hid (by rw[hds];rfl)
 have hsz:Hid (ds.size=20):=Lib.hid (by rw[hds];rfl)
 have HD:=Lib.hid hds
 have hR:=rF.out
 rw[←hds] at hR
 clear hds
 apply wp_region_lit
 have i42:Hid ((Tryz.prog.info? 269).map (·.size)=some ds.size):=Lib.hid (by rw[hsz.out];exact zo)
 refine wpList_load_row rfl 269 _ rfl _ _ _ rfl hR _ Tryz.underlying269 rfl i42.out ?_
 refine wpList_store_row rfl 24 _ _ rfl (w.heap.size+1) _ _ ds rfl rfl rZ.out (by rw[hsz.out];exact Eq.refl 20) i24.out one.out ?_
 have rE:=rZ.out.setAll (vs:=ds) (by rw[hsz.out];exact Eq.refl 20)
 have HE9:=Lib.hid (Below.setCellsAll HB.out (b:=w.heap.size+1) (Nat.le_add_right _ _) ds.toList 0)
 generalize W3.setCells (w.heap.size+1) 0 ds.toList=W9 at *
 apply wpList_nil
 rename_i hret
 refine hret _ _ (wp_ret ?_)
 try simp only[Exit.inBlock,Exit.then]
 refine bodyPost_ret (QM rfl rfl rE _ Tryz.underlying24 rfl i24.out) rfl ?_
 exact⟨(congrArg (fun q=>Ending.returned (Value.agg q)) HD.out).trans rfl,HE9.out⟩
theorem QHw (g:Rg)(p v:Int)(w:World) :
 Calls Tryz.prog 306 #[JM g,.int .i64 p,.int .i64 0,.int .u16 v] w fun e w'=>e=.returned (JM ({ g with bc:=v }))∧Below w.heap.size w w' :=
 Zv g _ p 0 v _ 1 g.bc QUJ (fun b w=>QAm b w) rfl rfl (fun _ _=>by kernel_rfl) w
theorem QIr (g:Rg)(p v:Int)(w:World) :
 Calls Tryz.prog 306 #[JM g,.int .i64 p,.int .i64 1,.int .u16 v] w fun e w'=>e=.returned (JM ({ g with de:=v }))∧Below w.heap.size w w' :=
 Zv g _ p 1 v _ 2 g.de QUB (fun b w=>QAi b w) rfl rfl (fun _ _=>by kernel_rfl) w
theorem QIh (g:Rg)(p v:Int)(hF:QH p=341)(w:World) :
 Calls Tryz.prog 306 #[JM g,.int .i64 p,.int .i64 2,.int .u16 v] w fun e w'=>e=.returned (JM ({ g with ix:=v }))∧Below w.heap.size w w' :=
 Zv g _ p 2 v _ 8 g.ix (QGX hF) (fun b w=>QAt b w) rfl rfl (fun _ _=>by kernel_rfl) w
theorem QIp (g:Rg)(p v:Int)(hF:QH p=342)(w:World) :
 Calls Tryz.prog 306 #[JM g,.int .i64 p,.int .i64 2,.int .u16 v] w fun e w'=>e=.returned (JM ({ g with iy:=v }))∧Below w.heap.size w w' :=
 Zv g _ p 2 v _ 9 g.iy (QGX hF) (fun b w=>QA2 b w) rfl rfl (fun _ _=>by kernel_rfl) w
theorem QIN (g:Rg)(p v:Int)(hF:QH p=343)(w:World) :
 Calls Tryz.prog 306 #[JM g,.int .i64 p,.int .i64 2,.int .u16 v] w fun e w'=>e=.returned (JM ({ g with hl:=v }))∧Below w.heap.size w w' :=
 Zv g _ p 2 v _ 3 g.hl (QGX hF) (fun b w=>QAx b w) rfl rfl (fun _ _=>by kernel_rfl) w
theorem QH3 (g:Rg)(p v:Int)(w:World) :
 Calls Tryz.prog 306 #[JM g,.int .i64 p,.int .i64 3,.int .u16 v] w fun e w'=>e=.returned (JM ({ g with sp:=v }))∧Below w.heap.size w w' :=
 Zv g _ p 3 v _ 10 g.sp QTz (fun b w=>QLW b w) rfl rfl (fun _ _=>by kernel_rfl) w
theorem QKw (g:Rg)(p k v:Int)(hk:k < 0∨3 < k)(w:World) :
 Calls Tryz.prog 306 #[JM g,.int .i64 p,.int .i64 k,.int .u16 v] w fun e w'=>e=.returned (JM (g))∧Below w.heap.size w w':=by
 obtain⟨af,bc,de,hl,af2,bc2,de2,hl2,ix,iy,sp,pc,wz,i,r,iff1,iff2,halted,late,mode⟩:=g
 have kh:=Lib.hid (fun w=>QAv p w)
 have hk:=Lib.hid hk
 obtain⟨cs,hcs⟩:∃ cs,cs=(#[.int .u16 af,.int .u16 bc,.int .u16 de,.int .u16 hl,.int .u16 af2,.int .u16 bc2,.int .u16 de2,.int .u16 hl2,.int .u16 ix,.int .u16 iy,.int .u16 sp,.int .u16 pc,.int .u16 wz,.int .u8 i,.int .u8 r,.bool iff1,.bool iff2,.bool halted,.bool late,.int .i64 mode]:Array Value):=⟨_,rfl⟩
 have HE:=Lib.hid hcs
 show Calls _ _ #[.agg (#[.int .u16 af,.int .u16 bc,.int .u16 de,.int .u16 hl,.int .u16 af2,.int .u16 bc2,.int .u16 de2,.int .u16 hl2,.int .u16 ix,.int .u16 iy,.int .u16 sp,.int .u16 pc,.int .u16 wz,.int .u8 i,.int .u8 r,.bool iff1,.bool iff2,.bool halted,.bool late,.int .i64 mode]:Array Value),.int .i64 p,.int .i64 k,.int .u16 v] _ _
 rw[←hcs]
 clear hcs
 go_enter Tryz.func306,Tryz.ntmps306
 go_upto_region 1 with (fail)
 have rA:=(Row.new w 24 cs).alloc (.cells zL 24)
 have rZ:=Row.new (w.alloc (.cells cs 24)) 24 zL
 rw[show (w.alloc (.cells cs 24)).heap.size=w.heap.size+1 by simp] at rZ
 have rZ:=Lib.hid rZ
 have HB:=Lib.hid (((Below.refl w.heap.size w).alloc (Nat.le_refl _) (.cells cs 24)).alloc (by simp) (.cells zL 24))
 have HW:=Lib.hid (show ((w.alloc (.cells cs 24)).alloc (.cells zL 24)).heap.size=w.heap.size+2 by simp)
 generalize (w.alloc (.cells cs 24)).alloc (.cells zL 24)=W0 at *
 rw[HE.out] at rA
 have rA:=Lib.hid rA
 have hltA:=rA.out.lt
 have hltZ:=rZ.out.lt
 go_wp2_with fail
 refine (kh.out _).mono ?_
 rintro e w2 ⟨rfl,rfl⟩
 have hlk:=QOX (p:=p) hk.out (World.alloc_heap_new W0 (.map (Jl p) 4))
 have qA:=Lib.hid (rA.out.alloc (.map (Jl p) 4))
 have qZ:=Lib.hid (rZ.out.alloc (.map (Jl p) 4))
 have HB':=Lib.hid (HB.out.alloc HB.out.size (.map (Jl p) 4))
 have HW':=Lib.hid (show (W0.alloc (.map (Jl p) 4)).heap.size=w.heap.size+3 by rw[World.size_alloc,HW.out])
 clear HB HW rA rZ
 have HB:=HB'
 have HW:=HW'
 have rA:=qA
 have rZ:=qZ
 clear HB' HW' qA qZ
 generalize W0.alloc (.map (Jl p) 4)=W1 at *
 generalize W0.heap.size=M at *
 go_upto_region 3 with (fail)
 obtain⟨ds,hds⟩:∃ ds,ds=(#[.int .u16 af,.int .u16 bc,.int .u16 de,.int .u16 hl,.int .u16 af2,.int .u16 bc2,.int .u16 de2,.int .u16 hl2,.int .u16 ix,.int .u16 iy,.int .u16 sp,.int .u16 pc,.int .u16 wz,.int .u8 i,.int .u8 r,.bool iff1,.bool iff2,.bool halted,.bool late,.int .i64 mode]:Array Value):=⟨_,rfl⟩
 have i24:Hid ((Tryz.prog.info? 24).map (·.size)=some ds.size):=Lib.hid (by rw[hds];exact jX)
 have one:Hid (ds.toList.all (·.oneCell')=true):=Lib.hid (by rw[hds];rfl)
 have hsz:Hid (ds.size=20):=Lib.hid (by rw[hds];rfl)
 have HD:=Lib.hid hds
 have hR:=rA.out
 rw[←hds] at hR
 clear hds
 apply wp_region_lit
 refine wpList_load_row rfl 24 _ rfl _ _ _ rfl hR _ Tryz.underlying24 rfl i24.out ?_
 refine wpList_store_row rfl 24 _ _ rfl (w.heap.size+1) _ _ ds rfl rfl rZ.out (by rw[hsz.out];exact Eq.refl 20) i24.out one.out ?_
 have rE:=rZ.out.setAll (vs:=ds) (by rw[hsz.out];exact Eq.refl 20)
 have HE9:=Lib.hid (Below.setCellsAll HB.out (b:=w.heap.size+1) (Nat.le_add_right _ _) ds.toList 0)
 generalize W1.setCells (w.heap.size+1) 0 ds.toList=W9 at *
 apply wpList_nil
 rename_i hret
 refine hret _ _ (wp_ret ?_)
 try simp only[Exit.inBlock,Exit.then]
 refine bodyPost_ret (QM rfl rfl rE _ Tryz.underlying24 rfl i24.out) rfl ?_
 exact⟨(congrArg (fun q=>Ending.returned (Value.agg q)) HD.out).trans rfl,HE9.out⟩
theorem QJN (g:Rg)(p k v:Int)(h:k < 0∨3 < k):XO g p k v=g:=by
 unfold XO
 rw[if_neg (by omega),if_neg (by omega),if_neg (by omega),if_neg (by omega)]
theorem QBY (g:Rg)(p v:Int):XO g p 2 v=if p=3 then { g with ix:=v } else if p=4 then { g with iy:=v } else { g with hl:=v }:=rfl
theorem QDS (g:Rg)(p k v:Int)(w:World) :
 Calls Tryz.prog 306 #[JM g,.int .i64 p,.int .i64 k,.int .u16 v] w fun e w'=>e=.returned (JM (XO g p k v))∧Below w.heap.size w w':=by
 by_cases hn:k < 0∨3 < k
 · rw[QJN g p k v hn]
   exact QKw g p k v hn w
 obtain rfl|rfl|rfl|rfl:k=0∨k=1∨k=2∨k=3:=by omega
 · exact QHw g p v w
 · exact QIr g p v w
 · rw[QBY]
   by_cases h3:p=3
   · rw[if_pos h3]
     exact QIh g p v (jJ h3) w
   by_cases h4:p=4
   · rw[if_neg h3,if_pos h4]
     exact QIp g p v (jG h3 h4) w
   · rw[if_neg h3,if_neg h4]
     exact QIN g p v (jH h3 h4) w
 · exact QH3 g p v w
theorem QNW (q:Option Addr)(w:World):Calls Tryz.prog 319 #[.pointer q,.bool true] w fun e w'=>e=.returned (.func (.func 337) #[] #[.pointer (some ⟨w.heap.size,0,none⟩)])∧w'=w.alloc (.cells #[.pointer q] 270):=by
 go_enter Tryz.func319,Tryz.ntmps319
 go_wp2
 go_ret
 exact⟨rfl,rfl⟩
theorem QNR (q:Option Addr)(w:World):Calls Tryz.prog 319 #[.pointer q,.bool false] w fun e w'=>e=.returned (.func (.func 338) #[] #[.pointer (some ⟨w.heap.size,0,none⟩)])∧w'=w.alloc (.cells #[.pointer q] 270):=by
 go_enter Tryz.func319,Tryz.ntmps319
 go_wp2
 go_ret
 exact⟨rfl,rfl⟩
theorem QM5 (B b o:Nat)(x v:Int)(hx:Wd16 x)(hv:B8 v)(w:World)(h0:w.cell? ⟨B,0,none⟩=some (.pointer (some ⟨b,o,none⟩)))(h1:w.cell? ⟨b,o,none⟩=some (.int .u16 x))(h2:w.frozen? ⟨b,o,none⟩=false) :
 Calls Tryz.prog 337 #[.int .u8 v,.pointer (some ⟨B,0,none⟩)] w fun e w'=>e=.returned (.tuple #[])∧w'=(w.setCell ⟨b,o,none⟩ (.int .u16 (256*v+x%256))).drew:=by
 have k1:=Lib.hid (fun w=>Zx x hx.1 hx.2 w)
 have k2:=Lib.hid (fun w=>Ja v (x%256) hv.1 hv.2 (by omega) (by omega) w)
 clear hx hv
 go_enter Tryz.func337,Tryz.ntmps337
 go_still_tail 8,(by kernel_rfl)
 still_call ((k1.out _).mono fun e w' h=>⟨h.1,h.2.symm⟩)
 repeat still_step
 still_call ((k2.out _).mono fun e w' h=>⟨h.1,h.2.symm⟩)
 repeat still_step
 refine wpStill_nil ?_
 change wpList _ _ _ _ _ w.drew
 go_wp2
 go_end0
 exact⟨rfl,rfl⟩
theorem QM2 (B b o:Nat)(x v:Int)(hx:Wd16 x)(hv:B8 v)(w:World)(h0:w.cell? ⟨B,0,none⟩=some (.pointer (some ⟨b,o,none⟩)))(h1:w.cell? ⟨b,o,none⟩=some (.int .u16 x))(h2:w.frozen? ⟨b,o,none⟩=false) :
 Calls Tryz.prog 338 #[.int .u8 v,.pointer (some ⟨B,0,none⟩)] w fun e w'=>e=.returned (.tuple #[])∧w'=(w.setCell ⟨b,o,none⟩ (.int .u16 (256*(x / 256)+v))).drew:=by
 have k1:=Lib.hid (fun w=>qX x hx.1 hx.2 w)
 have k2:=Lib.hid (fun w=>Ja (x / 256) v (by have:=hx.1;omega) (by have:=hx.2;omega) hv.1 hv.2 w)
 clear hx hv
 go_enter Tryz.func338,Tryz.ntmps338
 go_still_tail 8,(by kernel_rfl)
 still_call ((k1.out _).mono fun e w' h=>⟨h.1,h.2.symm⟩)
 repeat still_step
 still_call ((k2.out _).mono fun e w' h=>⟨h.1,h.2.symm⟩)
 repeat still_step
 refine wpStill_nil ?_
 change wpList _ _ _ _ _ w.drew
 go_wp2
 go_end0
 exact⟨rfl,rfl⟩
theorem QCq (g g':Rg)(p k v:Int)(F:FuncId)(o:Nat)(x:Int)
 (hlk:∀ {w:World} {M:Nat},w.heap[M]? = some (.map (JT p) 7)→(Instr.lookup 277 (.map (some M)) (.int .i64 k) true).run Tryz.prog w=.ok (.tuple #[Zd (.func (.func F) #[] #[]) true,.bool true]) w)
 (hF:∀ (b:Nat) (w:World),Calls Tryz.prog F #[.pointer (some ⟨b,0,none⟩)] w fun e w'=>e=.returned (.pointer (some ⟨b,o,none⟩))∧w=w')(hold:(JO g)[o]? = some (.int .u16 x))(hnew:(JO g).setIfInBounds o (.int .u16 (256*v+x%256))=JO g')(hx:Wd16 x)(hv:B8 v)(hcall:∀ (args:Array Value) (w:World),(callFunc F args).run Tryz.prog w=.ok (.enter F args) w)(w:World) :
 Calls Tryz.prog 287 #[JM g,.int .i64 p,.int .i64 k,.int .u8 v] w fun e w'=>e=.returned (JM g')∧Below w.heap.size w w':=by
 have kh:=Lib.hid (fun w=>Zu p w)
 have kx:=Lib.hid hx
 have kv:=Lib.hid hv
 clear hx hv
 obtain⟨cs,hcs⟩:∃ cs,cs=(JO g):=⟨_,rfl⟩
 have HE:=Lib.hid hcs
 show Calls _ _ #[.agg (JO g),.int .i64 p,.int .i64 k,.int .u8 v] _ _
 rw[←hcs]
 clear hcs
 go_enter Tryz.func287,Tryz.ntmps287
 go_upto_region 1 with (fail)
 have rA:=(Row.new w 24 cs).alloc (.cells zL 24)
 have rZ:=Row.new (w.alloc (.cells cs 24)) 24 zL
 rw[show (w.alloc (.cells cs 24)).heap.size=w.heap.size+1 by simp] at rZ
 have rZ:=Lib.hid rZ
 have HB:=Lib.hid (((Below.refl w.heap.size w).alloc (Nat.le_refl _) (.cells cs 24)).alloc (by simp) (.cells zL 24))
 have HW:=Lib.hid (show ((w.alloc (.cells cs 24)).alloc (.cells zL 24)).heap.size=w.heap.size+2 by simp)
 generalize (w.alloc (.cells cs 24)).alloc (.cells zL 24)=W0 at *
 rw[HE.out] at rA
 have rA:=Lib.hid rA
 have hltA:=rA.out.lt
 have hltZ:=rZ.out.lt
 go_wp2_with fail
 refine (kh.out _).mono ?_
 rintro e w2 ⟨rfl,rfl⟩
 have hlk:=hlk (World.alloc_heap_new W0 (.map (JT p) 7))
 have qA:=Lib.hid (rA.out.alloc (.map (JT p) 7))
 have qZ:=Lib.hid (rZ.out.alloc (.map (JT p) 7))
 have HB':=Lib.hid (HB.out.alloc HB.out.size (.map (JT p) 7))
 have HW':=Lib.hid (show (W0.alloc (.map (JT p) 7)).heap.size=w.heap.size+3 by rw[World.size_alloc,HW.out])
 clear HB HW rA rZ
 have HB:=HB'
 have HW:=HW'
 have rA:=qA
 have rZ:=qZ
 clear HB' HW' qA qZ
 generalize W0.alloc (.map (JT p) 7)=W1 at *
 generalize W0.heap.size=M at *
 go_upto_region 2 with (fail)
 have rH:=Row.new W1 275 (#[(.func (.func F) #[] #[]),.bool true]:Array Value)
 rw[HW.out] at rH
 rw[HW.out]
 have rH:=Lib.hid rH
 have qA:=Lib.hid (rA.out.alloc (.cells (#[(.func (.func F) #[] #[]),.bool true]:Array Value) 275))
 have qZ:=Lib.hid (rZ.out.alloc (.cells (#[(.func (.func F) #[] #[]),.bool true]:Array Value) 275))
 have HB':=Lib.hid (HB.out.alloc HB.out.size (.cells (#[(.func (.func F) #[] #[]),.bool true]:Array Value) 275))
 have HW':=Lib.hid (show (W1.alloc (.cells (#[(.func (.func F) #[] #[]),.bool true]:Array Value) 275)).heap.size=w.heap.size+4 by rw[World.size_alloc,HW.out])
 clear HB HW rA rZ
 have HB:=HB'
 have HW:=HW'
 have rA:=qA
 have rZ:=qZ
 clear HB' HW' qA qZ
 generalize W1.alloc (.cells (#[(.func (.func F) #[] #[]),.bool true]:Array Value) 275)=W2 at *
 obtain⟨es,hes⟩:∃ es,es=(JO g):=⟨_,rfl⟩
 have HS:=Lib.hid hes
 have hA:=rA.out
 rw[←hes] at hA
 have hA:=Lib.hid hA
 have iR:Hid ((Tryz.prog.info? 24).map (·.size)=some es.size):=Lib.hid (by rw[hes];exact jX)
 have iE:Hid ((Tryz.prog.info? 269).map (·.size)=some es.size):=Lib.hid (by rw[hes];exact zo)
 have oE:Hid (es.toList.all (·.oneCell')=true):=Lib.hid (by rw[hes];rfl)
 have sE:Hid (es.size=20):=Lib.hid (by rw[hes];rfl)
 clear hes rA
 go_upto_region 5 with (first
  | (refine wpList_load_row rfl 24 _ rfl _ _ _ rfl hA.out _ Tryz.underlying24 rfl iR.out ?_)
  | (refine Qi rfl 269 _ _ rfl _ _ _ _ es rfl rfl (by simp) (by rw[sE.out];exact Eq.refl 20) iE.out oE.out ?_))
 have rF:=Row.new W2 269 es
 have qA:=hA.out.alloc (.cells es 269)
 have qZ:=rZ.out.alloc (.cells es 269)
 have qH:=rH.out.alloc (.cells es 269)
 have HB':=Lib.hid (HB.out.alloc HB.out.size (.cells es 269))
 have HW':=Lib.hid (show (W2.alloc (.cells es 269)).heap.size=w.heap.size+5 by rw[World.size_alloc,HW.out])
 rw[HW.out] at rF
 rw[HW.out]
 clear HB HW hA rZ rH hlk
 have HB:=HB'
 have HW:=HW'
 clear HB' HW'
 generalize W2.alloc (.cells es 269)=W3 at *
 rw[HS.out] at rF qA
 have rF:=Lib.hid rF
 have rA:=Lib.hid qA
 have rZ:=Lib.hid qZ
 have rH:=Lib.hid qH
 clear qA qZ qH
 have hltF:=rF.out.lt
 have l0:=rH.out.cell 0
 have l1:=rH.out.cell 1
 go_upto_region 5 with (fail)
 have q0:=Row.new W3.drew 270 #[.pointer (some ⟨w.heap.size+4,o,none⟩)]
 have qF:Row (W3.drew.alloc (.cells #[.pointer (some ⟨w.heap.size+4,o,none⟩)] 270)) (w.heap.size+4) 269 (JO g):=Row.alloc (w:=W3.drew) rF.out (.cells #[.pointer (some ⟨w.heap.size+4,o,none⟩)] 270)
 have qZ:Row (W3.drew.alloc (.cells #[.pointer (some ⟨w.heap.size+4,o,none⟩)] 270)) (w.heap.size+1) 24 zL:=Row.alloc (w:=W3.drew) rZ.out (.cells #[.pointer (some ⟨w.heap.size+4,o,none⟩)] 270)
 have h0:=q0.cell 0
 have h1:(W3.drew.alloc (.cells #[.pointer (some ⟨w.heap.size+4,o,none⟩)] 270)).cell? ⟨w.heap.size+4,o,none⟩=some (.int .u16 x):=(qF.cell o).trans hold
 have h2:=qF.frozen o
 have kk:=Lib.hid (QM5 W3.drew.heap.size (w.heap.size+4) o x v kx.out kv.out (W3.drew.alloc (.cells #[.pointer (some ⟨w.heap.size+4,o,none⟩)] 270)) h0 h1 h2)
 have uF:Row ((W3.setCell ⟨w.heap.size+4,o,none⟩ (.int .u16 (256*v+x%256))).alloc (.cells #[.pointer (some ⟨w.heap.size+4,o,none⟩)] 270)).drew.drew (w.heap.size+4) 269 (JO g'):=hnew▸Row.alloc (w:=W3.setCell ⟨w.heap.size+4,o,none⟩ (.int .u16 (256*v+x%256))) (rF.out.set o (.int .u16 (256*v+x%256))) (.cells #[.pointer (some ⟨w.heap.size+4,o,none⟩)] 270)
 have uF:=Lib.hid uF
 have uZ:Row ((W3.setCell ⟨w.heap.size+4,o,none⟩ (.int .u16 (256*v+x%256))).alloc (.cells #[.pointer (some ⟨w.heap.size+4,o,none⟩)] 270)).drew.drew (w.heap.size+1) 24 zL:=Row.alloc (w:=W3.setCell ⟨w.heap.size+4,o,none⟩ (.int .u16 (256*v+x%256))) (rZ.out.far (p:=⟨w.heap.size+4,o,none⟩) (by simp) (.int .u16 (256*v+x%256))) (.cells #[.pointer (some ⟨w.heap.size+4,o,none⟩)] 270)
 have uZ:=Lib.hid uZ
 have HB1:=HB.out.setCell (p:=⟨w.heap.size+4,o,none⟩) (Nat.le_add_right _ _) (.int .u16 (256*v+x%256))
 have HB':Hid (Below w.heap.size w ((W3.setCell ⟨w.heap.size+4,o,none⟩ (.int .u16 (256*v+x%256))).alloc (.cells #[.pointer (some ⟨w.heap.size+4,o,none⟩)] 270)).drew.drew):=Lib.hid ((HB1.alloc HB1.size (.cells #[.pointer (some ⟨w.heap.size+4,o,none⟩)] 270)).drew.drew)
 clear HB1
 clear q0 h0 h1 h2 qF qZ rF rZ rA rH HB HW
 go_region_with (first
  | (go_at_call 319;refine (QNW _ _).mono ?_;rintro e w' ⟨rfl,rfl⟩)
  | (go_at_call 337;refine kk.out.mono ?_;rintro e w' ⟨rfl,rfl⟩)
  | (refine (hF _ _).mono ?_;rintro e w' ⟨rfl,rfl⟩))
 all_goals clear kk
 all_goals
  have rF:=uF
  have rZ:=uZ
  have HB:=HB'
  clear uF uZ HB' l0 l1
  generalize ((W3.setCell ⟨w.heap.size+4,o,none⟩ (.int .u16 (256*v+x%256))).alloc (.cells #[.pointer (some ⟨w.heap.size+4,o,none⟩)] 270)).drew.drew=W9' at *
  go_upto_region 6 with (fail)
  obtain⟨ds,hds⟩:∃ ds,ds=JO g':=⟨_,rfl⟩
  have i24:Hid ((Tryz.prog.info? 24).map (·.size)=some ds.size):=Lib.hid (by rw[hds];exact jX)
  have one:Hid (ds.toList.all (·.oneCell')=true):=Lib.hid (by rw[hds];rfl)
  have hsz:Hid (ds.size=20):=Lib.hid (by rw[hds];rfl)
  have HD:=Lib.hid hds
  have hR:=rF.out
  rw[←hds] at hR
  clear hds
  apply wp_region_lit
  have i42:Hid ((Tryz.prog.info? 269).map (·.size)=some ds.size):=Lib.hid (by rw[hsz.out];exact zo)
  refine wpList_load_row rfl 269 _ rfl _ _ _ rfl hR _ Tryz.underlying269 rfl i42.out ?_
  refine wpList_store_row rfl 24 _ _ rfl (w.heap.size+1) _ _ ds rfl rfl rZ.out (by rw[hsz.out];exact Eq.refl 20) i24.out one.out ?_
  have rE:=rZ.out.setAll (vs:=ds) (by rw[hsz.out];exact Eq.refl 20)
  have HE9:=Lib.hid (Below.setCellsAll HB.out (b:=w.heap.size+1) (Nat.le_add_right _ _) ds.toList 0)
  generalize W9'.setCells (w.heap.size+1) 0 ds.toList=W9 at *
  apply wpList_nil
  rename_i hret
  refine hret _ _ (wp_ret ?_)
  try simp only[Exit.inBlock,Exit.then]
  refine bodyPost_ret (QM rfl rfl rE _ Tryz.underlying24 rfl i24.out) rfl ?_
  exact⟨(congrArg (fun q=>Ending.returned (Value.agg q)) HD.out).trans rfl,HE9.out⟩
theorem QFO (g g':Rg)(p k v:Int)(F:FuncId)(o:Nat)(x:Int)
 (hlk:∀ {w:World} {M:Nat},w.heap[M]? = some (.map (JT p) 7)→(Instr.lookup 277 (.map (some M)) (.int .i64 k) true).run Tryz.prog w=.ok (.tuple #[Zd (.func (.func F) #[] #[]) false,.bool true]) w)
 (hF:∀ (b:Nat) (w:World),Calls Tryz.prog F #[.pointer (some ⟨b,0,none⟩)] w fun e w'=>e=.returned (.pointer (some ⟨b,o,none⟩))∧w=w')(hold:(JO g)[o]? = some (.int .u16 x))(hnew:(JO g).setIfInBounds o (.int .u16 (256*(x / 256)+v))=JO g')(hx:Wd16 x)(hv:B8 v)(hcall:∀ (args:Array Value) (w:World),(callFunc F args).run Tryz.prog w=.ok (.enter F args) w)(w:World) :
 Calls Tryz.prog 287 #[JM g,.int .i64 p,.int .i64 k,.int .u8 v] w fun e w'=>e=.returned (JM g')∧Below w.heap.size w w':=by
 have kh:=Lib.hid (fun w=>Zu p w)
 have kx:=Lib.hid hx
 have kv:=Lib.hid hv
 clear hx hv
 obtain⟨cs,hcs⟩:∃ cs,cs=(JO g):=⟨_,rfl⟩
 have HE:=Lib.hid hcs
 show Calls _ _ #[.agg (JO g),.int .i64 p,.int .i64 k,.int .u8 v] _ _
 rw[←hcs]
 clear hcs
 go_enter Tryz.func287,Tryz.ntmps287
 go_upto_region 1 with (fail)
 have rA:=(Row.new w 24 cs).alloc (.cells zL 24)
 have rZ:=Row.new (w.alloc (.cells cs 24)) 24 zL
 rw[show (w.alloc (.cells cs 24)).heap.size=w.heap.size+1 by simp] at rZ
 have rZ:=Lib.hid rZ
 have HB:=Lib.hid (((Below.refl w.heap.size w).alloc (Nat.le_refl _) (.cells cs 24)).alloc (by simp) (.cells zL 24))
 have HW:=Lib.hid (show ((w.alloc (.cells cs 24)).alloc (.cells zL 24)).heap.size=w.heap.size+2 by simp)
 generalize (w.alloc (.cells cs 24)).alloc (.cells zL 24)=W0 at *
 rw[HE.out] at rA
 have rA:=Lib.hid rA
 have hltA:=rA.out.lt
 have hltZ:=rZ.out.lt
 go_wp2_with fail
 refine (kh.out _).mono ?_
 rintro e w2 ⟨rfl,rfl⟩
 have hlk:=hlk (World.alloc_heap_new W0 (.map (JT p) 7))
 have qA:=Lib.hid (rA.out.alloc (.map (JT p) 7))
 have qZ:=Lib.hid (rZ.out.alloc (.map (JT p) 7))
 have HB':=Lib.hid (HB.out.alloc HB.out.size (.map (JT p) 7))
 have HW':=Lib.hid (show (W0.alloc (.map (JT p) 7)).heap.size=w.heap.size+3 by rw[World.size_alloc,HW.out])
 clear HB HW rA rZ
 have HB:=HB'
 have HW:=HW'
 have rA:=qA
 have rZ:=qZ
 clear HB' HW' qA qZ
 generalize W0.alloc (.map (JT p) 7)=W1 at *
 generalize W0.heap.size=M at *
 go_upto_region 2 with (fail)
 have rH:=Row.new W1 275 (#[(.func (.func F) #[] #[]),.bool false]:Array Value)
 rw[HW.out] at rH
 rw[HW.out]
 have rH:=Lib.hid rH
 have qA:=Lib.hid (rA.out.alloc (.cells (#[(.func (.func F) #[] #[]),.bool false]:Array Value) 275))
 have qZ:=Lib.hid (rZ.out.alloc (.cells (#[(.func (.func F) #[] #[]),.bool false]:Array Value) 275))
 have HB':=Lib.hid (HB.out.alloc HB.out.size (.cells (#[(.func (.func F) #[] #[]),.bool false]:Array Value) 275))
 have HW':=Lib.hid (show (W1.alloc (.cells (#[(.func (.func F) #[] #[]),.bool false]:Array Value) 275)).heap.size=w.heap.size+4 by rw[World.size_alloc,HW.out])
 clear HB HW rA rZ
 have HB:=HB'
 have HW:=HW'
 have rA:=qA
 have rZ:=qZ
 clear HB' HW' qA qZ
 generalize W1.alloc (.cells (#[(.func (.func F) #[] #[]),.bool false]:Array Value) 275)=W2 at *
 obtain⟨es,hes⟩:∃ es,es=(JO g):=⟨_,rfl⟩
 have HS:=Lib.hid hes
 have hA:=rA.out
 rw[←hes] at hA
 have hA:=Lib.hid hA
 have iR:Hid ((Tryz.prog.info? 24).map (·.size)=some es.size):=Lib.hid (by rw[hes];exact jX)
 have iE:Hid ((Tryz.prog.info? 269).map (·.size)=some es.size):=Lib.hid (by rw[hes];exact zo)
 have oE:Hid (es.toList.all (·.oneCell')=true):=Lib.hid (by rw[hes];rfl)
 have sE:Hid (es.size=20):=Lib.hid (by rw[hes];rfl)
 clear hes rA
 go_upto_region 5 with (first
  | (refine wpList_load_row rfl 24 _ rfl _ _ _ rfl hA.out _ Tryz.underlying24 rfl iR.out ?_)
  | (refine Qi rfl 269 _ _ rfl _ _ _ _ es rfl rfl (by simp) (by rw[sE.out];exact Eq.refl 20) iE.out oE.out ?_))
 have rF:=Row.new W2 269 es
 have qA:=hA.out.alloc (.cells es 269)
 have qZ:=rZ.out.alloc (.cells es 269)
 have qH:=rH.out.alloc (.cells es 269)
 have HB':=Lib.hid (HB.out.alloc HB.out.size (.cells es 269))
 have HW':=Lib.hid (show (W2.alloc (.cells es 269)).heap.size=w.heap.size+5 by rw[World.size_alloc,HW.out])
 rw[HW.out] at rF
 rw[HW.out]
 clear HB HW hA rZ rH hlk
 have HB:=HB'
 have HW:=HW'
 clear HB' HW'
 generalize W2.alloc (.cells es 269)=W3 at *
 rw[HS.out] at rF qA
 have rF:=Lib.hid rF
 have rA:=Lib.hid qA
 have rZ:=Lib.hid qZ
 have rH:=Lib.hid qH
 clear qA qZ qH
 have hltF:=rF.out.lt
 have l0:=rH.out.cell 0
 have l1:=rH.out.cell 1
 go_upto_region 5 with (fail)
 have q0:=Row.new W3.drew 270 #[.pointer (some ⟨w.heap.size+4,o,none⟩)]
 have qF:Row (W3.drew.alloc (.cells #[.pointer (some ⟨w.heap.size+4,o,none⟩)] 270)) (w.heap.size+4) 269 (JO g):=Row.alloc (w:=W3.drew) rF.out (.cells #[.pointer (some ⟨w.heap.size+4,o,none⟩)] 270)
 have qZ:Row (W3.drew.alloc (.cells #[.pointer (some ⟨w.heap.size+4,o,none⟩)] 270)) (w.heap.size+1) 24 zL:=Row.alloc (w:=W3.drew) rZ.out (.cells #[.pointer (some ⟨w.heap.size+4,o,none⟩)] 270)
 have h0:=q0.cell 0
 have h1:(W3.drew.alloc (.cells #[.pointer (some ⟨w.heap.size+4,o,none⟩)] 270)).cell? ⟨w.heap.size+4,o,none⟩=some (.int .u16 x):=(qF.cell o).trans hold
 have h2:=qF.frozen o
 have kk:=Lib.hid (QM2 W3.drew.heap.size (w.heap.size+4) o x v kx.out kv.out (W3.drew.alloc (.cells #[.pointer (some ⟨w.heap.size+4,o,none⟩)] 270)) h0 h1 h2)
 have uF:Row ((W3.setCell ⟨w.heap.size+4,o,none⟩ (.int .u16 (256*(x / 256)+v))).alloc (.cells #[.pointer (some ⟨w.heap.size+4,o,none⟩)] 270)).drew.drew (w.heap.size+4) 269 (JO g'):=hnew▸Row.alloc (w:=W3.setCell ⟨w.heap.size+4,o,none⟩ (.int .u16 (256*(x / 256)+v))) (rF.out.set o (.int .u16 (256*(x / 256)+v))) (.cells #[.pointer (some ⟨w.heap.size+4,o,none⟩)] 270)
 have uF:=Lib.hid uF
 have uZ:Row ((W3.setCell ⟨w.heap.size+4,o,none⟩ (.int .u16 (256*(x / 256)+v))).alloc (.cells #[.pointer (some ⟨w.heap.size+4,o,none⟩)] 270)).drew.drew (w.heap.size+1) 24 zL:=Row.alloc (w:=W3.setCell ⟨w.heap.size+4,o,none⟩ (.int .u16 (256*(x / 256)+v))) (rZ.out.far (p:=⟨w.heap.size+4,o,none⟩) (by simp) (.int .u16 (256*(x / 256)+v))) (.cells #[.pointer (some ⟨w.heap.size+4,o,none⟩)] 270)
 have uZ:=Lib.hid uZ
 have HB1:=HB.out.setCell (p:=⟨w.heap.size+4,o,none⟩) (Nat.le_add_right _ _) (.int .u16 (256*(x / 256)+v))
 have HB':Hid (Below w.heap.size w ((W3.setCell ⟨w.heap.size+4,o,none⟩ (.int .u16 (256*(x / 256)+v))).alloc (.cells #[.pointer (some ⟨w.heap.size+4,o,none⟩)] 270)).drew.drew):=Lib.hid ((HB1.alloc HB1.size (.cells #[.pointer (some ⟨w.heap.size+4,o,none⟩)] 270)).drew.drew)
 clear HB1
 clear q0 h0 h1 h2 qF qZ rF rZ rA rH HB HW
 go_region_with (first
  | (go_at_call 319;refine (QNR _ _).mono ?_;rintro e w' ⟨rfl,rfl⟩)
  | (go_at_call 338;refine kk.out.mono ?_;rintro e w' ⟨rfl,rfl⟩)
  | (refine (hF _ _).mono ?_;rintro e w' ⟨rfl,rfl⟩))
 all_goals clear kk
 all_goals
  have rF:=uF
  have rZ:=uZ
  have HB:=HB'
  clear uF uZ HB' l0 l1
  generalize ((W3.setCell ⟨w.heap.size+4,o,none⟩ (.int .u16 (256*(x / 256)+v))).alloc (.cells #[.pointer (some ⟨w.heap.size+4,o,none⟩)] 270)).drew.drew=W9' at *
  go_upto_region 6 with (fail)
  obtain⟨ds,hds⟩:∃ ds,ds=JO g':=⟨_,rfl⟩
  have i24:Hid ((Tryz.prog.info? 24).map (·.size)=some ds.size):=Lib.hid (by rw[hds];exact jX)
  have one:Hid (ds.toList.all (·.oneCell')=true):=Lib.hid (by rw[hds];rfl)
  have hsz:Hid (ds.size=20):=Lib.hid (by rw[hds];rfl)
  have HD:=Lib.hid hds
  have hR:=rF.out
  rw[←hds] at hR
  clear hds
  apply wp_region_lit
  have i42:Hid ((Tryz.prog.info? 269).map (·.size)=some ds.size):=Lib.hid (by rw[hsz.out];exact zo)
  refine wpList_load_row rfl 269 _ rfl _ _ _ rfl hR _ Tryz.underlying269 rfl i42.out ?_
  refine wpList_store_row rfl 24 _ _ rfl (w.heap.size+1) _ _ ds rfl rfl rZ.out (by rw[hsz.out];exact Eq.refl 20) i24.out one.out ?_
  have rE:=rZ.out.setAll (vs:=ds) (by rw[hsz.out];exact Eq.refl 20)
  have HE9:=Lib.hid (Below.setCellsAll HB.out (b:=w.heap.size+1) (Nat.le_add_right _ _) ds.toList 0)
  generalize W9'.setCells (w.heap.size+1) 0 ds.toList=W9 at *
  apply wpList_nil
  rename_i hret
  refine hret _ _ (wp_ret ?_)
  try simp only[Exit.inBlock,Exit.then]
  refine bodyPost_ret (QM rfl rfl rE _ Tryz.underlying24 rfl i24.out) rfl ?_
  exact⟨(congrArg (fun q=>Ending.returned (Value.agg q)) HD.out).trans rfl,HE9.out⟩
theorem QRa (g:Rg)(p v:Int)(hx:Wd16 g.bc)(hv:B8 v)(w:World) :
 Calls Tryz.prog 287 #[JM g,.int .i64 p,.int .i64 0,.int .u8 v] w fun e w'=>e=.returned (JM ({ g with bc:=256*v+g.bc%256 }))∧Below w.heap.size w w' :=
 QCq g _ p 0 v _ 1 g.bc QUD (fun b w=>QAm b w) rfl rfl hx hv (fun _ _=>by kernel_rfl) w
theorem QRi (g:Rg)(p v:Int)(hx:Wd16 g.bc)(hv:B8 v)(w:World) :
 Calls Tryz.prog 287 #[JM g,.int .i64 p,.int .i64 1,.int .u8 v] w fun e w'=>e=.returned (JM ({ g with bc:=256*(g.bc / 256)+v }))∧Below w.heap.size w w' :=
 QFO g _ p 1 v _ 1 g.bc QUG (fun b w=>QAm b w) rfl rfl hx hv (fun _ _=>by kernel_rfl) w
theorem QR5 (g:Rg)(p v:Int)(hx:Wd16 g.de)(hv:B8 v)(w:World) :
 Calls Tryz.prog 287 #[JM g,.int .i64 p,.int .i64 2,.int .u8 v] w fun e w'=>e=.returned (JM ({ g with de:=256*v+g.de%256 }))∧Below w.heap.size w w' :=
 QCq g _ p 2 v _ 2 g.de QUX (fun b w=>QAi b w) rfl rfl hx hv (fun _ _=>by kernel_rfl) w
theorem QSm (g:Rg)(p v:Int)(hx:Wd16 g.de)(hv:B8 v)(w:World) :
 Calls Tryz.prog 287 #[JM g,.int .i64 p,.int .i64 3,.int .u8 v] w fun e w'=>e=.returned (JM ({ g with de:=256*(g.de / 256)+v }))∧Below w.heap.size w w' :=
 QFO g _ p 3 v _ 2 g.de QUA (fun b w=>QAi b w) rfl rfl hx hv (fun _ _=>by kernel_rfl) w
theorem QRb (g:Rg)(p v:Int)(hF:QH p=341)(hx:Wd16 g.ix)(hv:B8 v)(w:World) :
 Calls Tryz.prog 287 #[JM g,.int .i64 p,.int .i64 4,.int .u8 v] w fun e w'=>e=.returned (JM ({ g with ix:=256*v+g.ix%256 }))∧Below w.heap.size w w' :=
 QCq g _ p 4 v _ 8 g.ix (QGG hF) (fun b w=>QAt b w) rfl rfl hx hv (fun _ _=>by kernel_rfl) w
theorem QRy (g:Rg)(p v:Int)(hF:QH p=342)(hx:Wd16 g.iy)(hv:B8 v)(w:World) :
 Calls Tryz.prog 287 #[JM g,.int .i64 p,.int .i64 4,.int .u8 v] w fun e w'=>e=.returned (JM ({ g with iy:=256*v+g.iy%256 }))∧Below w.heap.size w w' :=
 QCq g _ p 4 v _ 9 g.iy (QGG hF) (fun b w=>QA2 b w) rfl rfl hx hv (fun _ _=>by kernel_rfl) w
theorem QSc (g:Rg)(p v:Int)(hF:QH p=343)(hx:Wd16 g.hl)(hv:B8 v)(w:World) :
 Calls Tryz.prog 287 #[JM g,.int .i64 p,.int .i64 4,.int .u8 v] w fun e w'=>e=.returned (JM ({ g with hl:=256*v+g.hl%256 }))∧Below w.heap.size w w' :=
 QCq g _ p 4 v _ 3 g.hl (QGG hF) (fun b w=>QAx b w) rfl rfl hx hv (fun _ _=>by kernel_rfl) w
theorem QSZ (g:Rg)(p v:Int)(hF:QH p=341)(hx:Wd16 g.ix)(hv:B8 v)(w:World) :
 Calls Tryz.prog 287 #[JM g,.int .i64 p,.int .i64 5,.int .u8 v] w fun e w'=>e=.returned (JM ({ g with ix:=256*(g.ix / 256)+v }))∧Below w.heap.size w w' :=
 QFO g _ p 5 v _ 8 g.ix (QFx hF) (fun b w=>QAt b w) rfl rfl hx hv (fun _ _=>by kernel_rfl) w
theorem QTe (g:Rg)(p v:Int)(hF:QH p=342)(hx:Wd16 g.iy)(hv:B8 v)(w:World) :
 Calls Tryz.prog 287 #[JM g,.int .i64 p,.int .i64 5,.int .u8 v] w fun e w'=>e=.returned (JM ({ g with iy:=256*(g.iy / 256)+v }))∧Below w.heap.size w w' :=
 QFO g _ p 5 v _ 9 g.iy (QFx hF) (fun b w=>QA2 b w) rfl rfl hx hv (fun _ _=>by kernel_rfl) w
theorem QSR (g:Rg)(p v:Int)(hF:QH p=343)(hx:Wd16 g.hl)(hv:B8 v)(w:World) :
 Calls Tryz.prog 287 #[JM g,.int .i64 p,.int .i64 5,.int .u8 v] w fun e w'=>e=.returned (JM ({ g with hl:=256*(g.hl / 256)+v }))∧Below w.heap.size w w' :=
 QFO g _ p 5 v _ 3 g.hl (QFx hF) (fun b w=>QAx b w) rfl rfl hx hv (fun _ _=>by kernel_rfl) w
theorem QTP (g:Rg)(p v:Int)(hx:Wd16 g.af)(hv:B8 v)(w:World) :
 Calls Tryz.prog 287 #[JM g,.int .i64 p,.int .i64 7,.int .u8 v] w fun e w'=>e=.returned (JM ({ g with af:=256*v+g.af%256 }))∧Below w.heap.size w w' :=
 QCq g _ p 7 v _ 0 g.af QTw (fun b w=>QL7 b w) rfl rfl hx hv (fun _ _=>by kernel_rfl) w
theorem QVB (g:Rg)(p k v:Int)(hk:k < 0∨k=6∨7 < k)(w:World) :
 Calls Tryz.prog 287 #[JM g,.int .i64 p,.int .i64 k,.int .u8 v] w fun e w'=>e=.returned (JM (g))∧Below w.heap.size w w':=by
 obtain⟨af,bc,de,hl,af2,bc2,de2,hl2,ix,iy,sp,pc,wz,i,r,iff1,iff2,halted,late,mode⟩:=g
 have kh:=Lib.hid (fun w=>Zu p w)
 have hk:=Lib.hid hk
 obtain⟨cs,hcs⟩:∃ cs,cs=(#[.int .u16 af,.int .u16 bc,.int .u16 de,.int .u16 hl,.int .u16 af2,.int .u16 bc2,.int .u16 de2,.int .u16 hl2,.int .u16 ix,.int .u16 iy,.int .u16 sp,.int .u16 pc,.int .u16 wz,.int .u8 i,.int .u8 r,.bool iff1,.bool iff2,.bool halted,.bool late,.int .i64 mode]:Array Value):=⟨_,rfl⟩
 have HE:=Lib.hid hcs
 show Calls _ _ #[.agg (#[.int .u16 af,.int .u16 bc,.int .u16 de,.int .u16 hl,.int .u16 af2,.int .u16 bc2,.int .u16 de2,.int .u16 hl2,.int .u16 ix,.int .u16 iy,.int .u16 sp,.int .u16 pc,.int .u16 wz,.int .u8 i,.int .u8 r,.bool iff1,.bool iff2,.bool halted,.bool late,.int .i64 mode]:Array Value),.int .i64 p,.int .i64 k,.int .u8 v] _ _
 rw[←hcs]
 clear hcs
 go_enter Tryz.func287,Tryz.ntmps287
 go_upto_region 1 with (fail)
 have rA:=(Row.new w 24 cs).alloc (.cells zL 24)
 have rZ:=Row.new (w.alloc (.cells cs 24)) 24 zL
 rw[show (w.alloc (.cells cs 24)).heap.size=w.heap.size+1 by simp] at rZ
 have rZ:=Lib.hid rZ
 have HB:=Lib.hid (((Below.refl w.heap.size w).alloc (Nat.le_refl _) (.cells cs 24)).alloc (by simp) (.cells zL 24))
 have HW:=Lib.hid (show ((w.alloc (.cells cs 24)).alloc (.cells zL 24)).heap.size=w.heap.size+2 by simp)
 generalize (w.alloc (.cells cs 24)).alloc (.cells zL 24)=W0 at *
 rw[HE.out] at rA
 have rA:=Lib.hid rA
 have hltA:=rA.out.lt
 have hltZ:=rZ.out.lt
 go_wp2_with fail
 refine (kh.out _).mono ?_
 rintro e w2 ⟨rfl,rfl⟩
 have hlk:=QO8 (p:=p) hk.out (World.alloc_heap_new W0 (.map (JT p) 7))
 have qA:=Lib.hid (rA.out.alloc (.map (JT p) 7))
 have qZ:=Lib.hid (rZ.out.alloc (.map (JT p) 7))
 have HB':=Lib.hid (HB.out.alloc HB.out.size (.map (JT p) 7))
 have HW':=Lib.hid (show (W0.alloc (.map (JT p) 7)).heap.size=w.heap.size+3 by rw[World.size_alloc,HW.out])
 clear HB HW rA rZ
 have HB:=HB'
 have HW:=HW'
 have rA:=qA
 have rZ:=qZ
 clear HB' HW' qA qZ
 generalize W0.alloc (.map (JT p) 7)=W1 at *
 generalize W0.heap.size=M at *
 go_upto_region 2 with (fail)
 have rH:=Row.new W1 275 (#[.nilFunc,.bool false]:Array Value)
 rw[HW.out] at rH
 rw[HW.out]
 have rH:=Lib.hid rH
 have qA:=Lib.hid (rA.out.alloc (.cells (#[.nilFunc,.bool false]:Array Value) 275))
 have qZ:=Lib.hid (rZ.out.alloc (.cells (#[.nilFunc,.bool false]:Array Value) 275))
 have HB':=Lib.hid (HB.out.alloc HB.out.size (.cells (#[.nilFunc,.bool false]:Array Value) 275))
 have HW':=Lib.hid (show (W1.alloc (.cells (#[.nilFunc,.bool false]:Array Value) 275)).heap.size=w.heap.size+4 by rw[World.size_alloc,HW.out])
 clear HB HW rA rZ
 have HB:=HB'
 have HW:=HW'
 have rA:=qA
 have rZ:=qZ
 clear HB' HW' qA qZ
 generalize W1.alloc (.cells (#[.nilFunc,.bool false]:Array Value) 275)=W2 at *
 go_upto_region 3 with (fail)
 obtain⟨ds,hds⟩:∃ ds,ds=(#[.int .u16 af,.int .u16 bc,.int .u16 de,.int .u16 hl,.int .u16 af2,.int .u16 bc2,.int .u16 de2,.int .u16 hl2,.int .u16 ix,.int .u16 iy,.int .u16 sp,.int .u16 pc,.int .u16 wz,.int .u8 i,.int .u8 r,.bool iff1,.bool iff2,.bool halted,.bool late,.int .i64 mode]:Array Value):=⟨_,rfl⟩
 have i24:Hid ((Tryz.prog.info? 24).map (·.size)=some ds.size):=Lib.hid (by rw[hds];exact jX)
 have one:Hid (ds.toList.all (·.oneCell')=true):=Lib.hid (by rw[hds];rfl)
 have hsz:Hid (ds.size=20):=Lib.hid (by rw[hds];rfl)
 have HD:=Lib.hid hds
 have hR:=rA.out
 rw[←hds] at hR
 clear hds
 apply wp_region_lit
 refine wpList_load_row rfl 24 _ rfl _ _ _ rfl hR _ Tryz.underlying24 rfl i24.out ?_
 refine wpList_store_row rfl 24 _ _ rfl (w.heap.size+1) _ _ ds rfl rfl rZ.out (by rw[hsz.out];exact Eq.refl 20) i24.out one.out ?_
 have rE:=rZ.out.setAll (vs:=ds) (by rw[hsz.out];exact Eq.refl 20)
 have HE9:=Lib.hid (Below.setCellsAll HB.out (b:=w.heap.size+1) (Nat.le_add_right _ _) ds.toList 0)
 generalize W2.setCells (w.heap.size+1) 0 ds.toList=W9 at *
 apply wpList_nil
 rename_i hret
 refine hret _ _ (wp_ret ?_)
 try simp only[Exit.inBlock,Exit.then]
 refine bodyPost_ret (QM rfl rfl rE _ Tryz.underlying24 rfl i24.out) rfl ?_
 exact⟨(congrArg (fun q=>Ending.returned (Value.agg q)) HD.out).trans rfl,HE9.out⟩
theorem QR8 (g:Rg)(hg:RgB g)(p k v:Int)(hv:B8 v)(w:World) :
 Calls Tryz.prog 287 #[JM g,.int .i64 p,.int .i64 k,.int .u8 v] w fun e w'=>e=.returned (JM (QHn g p k v))∧Below w.heap.size w w':=by
 by_cases hn:k < 0∨k=6∨7 < k
 · rw[QSw g p k v hn]
   exact QVB g p k v hn w
 obtain rfl|rfl|rfl|rfl|rfl|rfl|rfl:k=0∨k=1∨k=2∨k=3∨k=4∨k=5∨k=7:=by omega
 · exact QRa g p v hg.bc hv w
 · exact QRi g p v hg.bc hv w
 · exact QR5 g p v hg.de hv w
 · exact QSm g p v hg.de hv w
 · show Calls _ _ _ _ fun e w'=>e=.returned (JM (XO g p 2 (256*v+ZY g p 2%256)))∧_
   rw[QBY,QBp]
   by_cases h3:p=3
   · rw[if_pos h3,if_pos h3]
     exact QRb g p v (jJ h3) hg.ix hv w
   by_cases h4:p=4
   · rw[if_neg h3,if_pos h4,if_neg h3,if_pos h4]
     exact QRy g p v (jG h3 h4) hg.iy hv w
   · rw[if_neg h3,if_neg h4,if_neg h3,if_neg h4]
     exact QSc g p v (jH h3 h4) hg.hl hv w
 · show Calls _ _ _ _ fun e w'=>e=.returned (JM (XO g p 2 (256*(ZY g p 2 / 256)+v)))∧_
   rw[QBY,QBp]
   by_cases h3:p=3
   · rw[if_pos h3,if_pos h3]
     exact QSZ g p v (jJ h3) hg.ix hv w
   by_cases h4:p=4
   · rw[if_neg h3,if_pos h4,if_neg h3,if_pos h4]
     exact QTe g p v (jG h3 h4) hg.iy hv w
   · rw[if_neg h3,if_neg h4,if_neg h3,if_neg h4]
     exact QSR g p v (jH h3 h4) hg.hl hv w
 · exact QTP g p v hg.af hv w
theorem QGn:∀ b0 b1 b2 b3 b4 b5 b7:Bool,J8 [bits .xor .u8 (mkM b0 b1 b2 b3 b4 b5 false b7) 17,2] 2=mkM b0 b1 b2 (!b3) b4 b5 true (!b7):=by decide +kernel
theorem QIL (a b:Int)(c:Bool):Xx a (255-b) (!c)=Qj a b c:=by
 unfold Xx Qj one
 cases c<;>simp<;>omega
theorem QP7 (a b:Int)(c:Bool)(ha:B8 a)(hb:B8 b):J8 [bits .xor .u8 (ZF a (255-b) (!c)) 17,2] 2=Qm a b c:=by
 obtain⟨a0,a1⟩:=ha
 obtain⟨b0,b1⟩:=hb
 unfold ZF Qm
 rw[QIL,QGn]
 have key:=XL c
 have e:one (!c)=1-one c:=by cases c<;>rfl
 rw[e]
 have n4:(!decide (15 < a%16+(255-b)%16+(1-one c)))=decide (a%16-b%16-one c < 0):=by
  rw[Bool.eq_iff_iff];simp;omega
 have n8:(!decide (255 < a+(255-b)+(1-one c)))=decide (a-b-one c < 0):=by
  rw[Bool.eq_iff_iff];simp;omega
 have n7:QCK (JL a+JL (255-b)+(1-one c))=QCK (JL a-JL b-one c):=by
  congr 1
  unfold JL
  split<;>split<;>split<;>omega
 rw[n4,n8,n7]
theorem QPj:∀ x:Fin 256,bits .xor .u8 IntKind.u8.max (x.val:Int)=255-(x.val:Int):=by decide +kernel
theorem not8 (b:Int)(hb:B8 b):bits .xor .u8 IntKind.u8.max b=255-b :=
 Ji (P:=fun b=>bits .xor .u8 IntKind.u8.max b=255-b) QPj b hb.1 hb.2
theorem qK (a b:Int)(c:Bool)(ha:B8 a)(hb:B8 b)(w:World) :
 Calls Tryz.prog 264 #[.int .u8 a,.int .u8 b,.bool c] w fun e w'=>e=.returned (two (Qj a b c) (Qm a b c))∧Below w.heap.size w w':=by
 have hm:=Lib.hid (QP7 a b c ha hb)
 have hr:=Lib.hid (QIL a b c)
 have ha:=Lib.hid ha
 have hn:Hid (B8 (255-b)):=Lib.hid ⟨by have:=hb.2;omega,by have:=hb.1;omega⟩
 have b0:=hb.1
 have b1:=hb.2
 have hx:=not8 b hb
 clear hb
 go_enter Tryz.func264,Tryz.ntmps264
 go_wp2_with fail
 refine (QAf _ _ _ ha.out hn.out _).mono ?_
 rintro e w' ⟨rfl,hb⟩
 have hsz:=hb.size
 go_wp2_with fail
 refine (QIP _ 0 2 2 [bits .xor .u8 (ZF a (255-b) (!c)) 17,2] _ (by simp) (by omega) (QP0 _ _ _ _ _)).mono ?_
 rintro e w' ⟨rfl,rfl⟩
 go_wp2_with fail
 go_ret2
 exact⟨by rw[hm.out,hr.out];rfl,(by repeat (first|exact Below.refl _ _|assumption|refine JF ?_ (by assumption)|refine Below.drew ?_|refine Below.alloc ?_ (by first|(simp;done)|(simp;omega)|omega) _|refine Below.setCell ?_ (by first|(simp;done)|(simp;omega)|omega) _))⟩
theorem QQ8 (a b:Int):Q1 (Qm a b false) b 40=QJp a b:=by
 unfold Q1 Qm QJp
 generalize isM (Qj a b false) 7=x0
 generalize (Qj a b false==0)=x1
 generalize isM (Qj a b false) 5=x2
 generalize decide (a%16-b%16-one false < 0)=x3
 generalize isM (Qj a b false) 3=x4
 generalize QCK (JL a-JL b-one false)=x5
 generalize decide (a-b-one false < 0)=x7
 obtain⟨h0,h1,h2,h3,h4,h5,h6,h7⟩:=Zw x0 x1 x2 x3 x4 x5 true x7
 obtain⟨z0,z1,z2,z3,z4,z5,z6,z7⟩:isM 40 0=false∧isM 40 1=false∧isM 40 2=false∧isM 40 3=true∧isM 40 4=false∧isM 40 5=true∧isM 40 6=false∧isM 40 7=false:=by decide +kernel
 rw[h0,h1,h2,h3,h4,h5,h6,h7,z0,z1,z2,z3,z4,z5,z6,z7]
 rfl
theorem QUL (x0 x1 x2 x3 x4 x5 x6 x7:Bool)(f:Int):Q1 (mkM x0 x1 x2 x3 x4 x5 x6 x7) f 1=mkM x0 x1 x2 x3 x4 x5 x6 (isM f 0):=by
 unfold Q1
 obtain⟨h0,h1,h2,h3,h4,h5,h6,h7⟩:=Zw x0 x1 x2 x3 x4 x5 x6 x7
 obtain⟨z0,z1,z2,z3,z4,z5,z6,z7⟩:isM 1 0=true∧isM 1 1=false∧isM 1 2=false∧isM 1 3=false∧isM 1 4=false∧isM 1 5=false∧isM 1 6=false∧isM 1 7=false:=by decide +kernel
 rw[h0,h1,h2,h3,h4,h5,h6,h7,z0,z1,z2,z3,z4,z5,z6,z7]
 rfl
theorem QRe (a b:Int)(ha:B8 a)(hb:B8 b)(w:World) :
 Calls Tryz.prog 292 #[.int .u8 a,.int .u8 b] w fun e w'=>e=.returned (.int .u8 (QJp a b))∧Below w.heap.size w w':=by
 have hm:=Lib.hid (QQ8 a b)
 have hf:=Lib.hid (QB a b false)
 have ha:=Lib.hid ha
 have hB:=Lib.hid hb
 clear hb
 go_enter Tryz.func292,Tryz.ntmps292
 go_wp2_with (first
  | (go_at_call 264;refine (qK _ _ _ ha.out hB.out _).mono ?_;rintro e w' ⟨rfl,hb⟩;have hsz:=hb.size)
  | (go_at_call 252;refine (Xc _ _ _ hf.out.1 hf.out.2 hB.out.1 hB.out.2 (by omega) (by omega) _).mono ?_;rintro e w' ⟨rfl,rfl⟩))
 go_ret
 exact⟨by rw[hm.out];rfl,(by repeat (first|exact Below.refl _ _|assumption|refine JF ?_ (by assumption)|refine Below.drew ?_|refine Below.alloc ?_ (by first|(simp;done)|(simp;omega)|omega) _|refine Below.setCell ?_ (by first|(simp;done)|(simp;omega)|omega) _))⟩
theorem QMF (a f:Int)(ha:B8 a)(hf:B8 f)(w:World) :
 Calls Tryz.prog 232 #[.int .u8 a,.int .u8 f] w fun e w'=>e=.returned (two (Xx a 1 false) (QIy a f))∧Below w.heap.size w w':=by
 have hm:Hid (Q1 (ZF a 1 false) f 1=QIy a f):=Lib.hid (QUL _ _ _ _ _ _ _ _ f)
 have hg:=Lib.hid (Q8 a 1 false)
 have ha:=Lib.hid ha
 have hf:=Lib.hid hf
 go_enter Tryz.func232,Tryz.ntmps232
 go_wp2_with (first
  | (go_at_call 281;refine (QAf _ _ _ ha.out ⟨by omega,by omega⟩ _).mono ?_;rintro e w' ⟨rfl,hb⟩;have hsz:=hb.size)
  | (go_at_call 252;refine (Xc _ _ _ hg.out.1 hg.out.2 hf.out.1 hf.out.2 (by omega) (by omega) _).mono ?_;rintro e w' ⟨rfl,rfl⟩))
 go_ret2
 exact⟨by rw[hm.out];rfl,(by repeat (first|exact Below.refl _ _|assumption|refine JF ?_ (by assumption)|refine Below.drew ?_|refine Below.alloc ?_ (by first|(simp;done)|(simp;omega)|omega) _|refine Below.setCell ?_ (by first|(simp;done)|(simp;omega)|omega) _))⟩
theorem QL5 (a f:Int)(ha:B8 a)(hf:B8 f)(w:World) :
 Calls Tryz.prog 233 #[.int .u8 a,.int .u8 f] w fun e w'=>e=.returned (two (Qj a 1 false) (QJQ a f))∧Below w.heap.size w w':=by
 have hm:Hid (Q1 (Qm a 1 false) f 1=QJQ a f):=Lib.hid (QUL _ _ _ _ _ _ _ _ f)
 have hg:=Lib.hid (QB a 1 false)
 have ha:=Lib.hid ha
 have hf:=Lib.hid hf
 go_enter Tryz.func233,Tryz.ntmps233
 go_wp2_with (first
  | (go_at_call 264;refine (qK _ _ _ ha.out ⟨by omega,by omega⟩ _).mono ?_;rintro e w' ⟨rfl,hb⟩;have hsz:=hb.size)
  | (go_at_call 252;refine (Xc _ _ _ hg.out.1 hg.out.2 hf.out.1 hf.out.2 (by omega) (by omega) _).mono ?_;rintro e w' ⟨rfl,rfl⟩))
 go_ret2
 exact⟨by rw[hm.out];rfl,(by repeat (first|exact Below.refl _ _|assumption|refine JF ?_ (by assumption)|refine Below.drew ?_|refine Below.alloc ?_ (by first|(simp;done)|(simp;omega)|omega) _|refine Below.setCell ?_ (by first|(simp;done)|(simp;omega)|omega) _))⟩
theorem QSH (a:Int)(ha:B8 a)(w:World) :
 Calls Tryz.prog 214 #[.int .u8 a] w fun e w'=>e=.returned (two (Qj 0 a false) (Qm 0 a false))∧Below w.heap.size w w':=by
 have ha:=Lib.hid ha
 go_enter Tryz.func214,Tryz.ntmps214
 go_wp2_with (first
  | (go_at_call 264;refine (qK _ _ _ ⟨by omega,by omega⟩ ha.out _).mono ?_;rintro e w' ⟨rfl,hb⟩;have hsz:=hb.size))
 go_ret2
 exact⟨rfl,(by repeat (first|exact Below.refl _ _|assumption|refine JF ?_ (by assumption)|refine Below.drew ?_|refine Below.alloc ?_ (by first|(simp;done)|(simp;omega)|omega) _|refine Below.setCell ?_ (by first|(simp;done)|(simp;omega)|omega) _))⟩
end Go.Proofs.YtmgcgiecimnncaaGreatDoor
