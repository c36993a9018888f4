/- Contracts and facts that the claim's proof wants (several texts in one). -/
import Derived.StillTailTactics
import Derived.Test.YtkenebbjodcbcaaGreatDoorCoH7
namespace Go.Proofs.YtkenebbjodcbcaaGreatDoor
open Go.RowKit
set_option linter.unusedVariables false
set_option linter.unusedSimpArgs false
set_option maxRecDepth 20000
set_option maxHeartbeats 20000000
theorem QHK (y:Int):-127≤y.tmod 128∧y.tmod 128≤127∧(y.tmod 128)%128=y%128:=by
 rcases Int.lt_or_le y 0 with h|h
 · obtain⟨z,rfl⟩:∃ z,y=-z:=⟨-y,by omega⟩
   rw[Int.neg_tmod,Int.tmod_eq_emod_of_nonneg (by omega)]
   omega
 · rw[Int.tmod_eq_emod_of_nonneg h]
   omega
theorem QEB:∀ x:Fin 256,bits .and .u8 (x.val:Int) 127=(x.val:Int)%128∧bits .andNot .u8 (x.val:Int) 127=(x.val:Int) / 128*128:=by decide +kernel
theorem QLy:∀ h:Fin 2,∀ l:Fin 128,bits .or .u8 ((h.val:Int)*128) (l.val:Int)=(h.val:Int)*128+(l.val:Int):=by decide +kernel
theorem QP5 (r n:Int)(hr:B8 r):bits BinOp.or IntKind.u8 (bits BinOp.andNot IntKind.u8 r 127) (bits BinOp.and IntKind.u8 ((r+n)%256) 127)=QEU r n:=by
 have h1:=(QB (P:=fun x=>bits .and .u8 x 127=x%128∧bits .andNot .u8 x 127=x / 128*128) QEB r hr.1 hr.2).2
 have h2:=(QB (P:=fun x=>bits .and .u8 x 127=x%128∧bits .andNot .u8 x 127=x / 128*128) QEB ((r+n)%256) (by omega) (by omega)).1
 obtain⟨r0,r1⟩:=hr
 have h3:=QLy ⟨(r / 128).toNat,by omega⟩ ⟨((r+n)%128).toNat,by omega⟩
 rw[show ((⟨(r / 128).toNat,by omega⟩:Fin 2).val:Int)=r / 128 by show ((r / 128).toNat:Int)=_;omega,show ((⟨((r+n)%128).toNat,by omega⟩:Fin 128).val:Int)=(r+n)%128 by show (((r+n)%128).toNat:Int)=_;omega] at h3
 rw[h1,h2,show (r+n)%256%128=(r+n)%128 by omega,h3]
 rfl
theorem QPa (r n:Int)(hr:B8 r):wrap64 (r / 128*128+(wrap64 ((r%128+n.tmod 128).tmod 128+128)).tmod 128)%256=QEU r n:=by
 obtain⟨r0,r1⟩:=hr
 obtain⟨a0,a1,a2⟩:=QHK n
 obtain⟨b0,b1,b2⟩:=QHK (r%128+n.tmod 128)
 rw[IntWalk.wrap64_in ((r%128+n.tmod 128).tmod 128+128) ⟨by omega,by omega⟩,Int.tmod_eq_emod_of_nonneg (a:=(r%128+n.tmod 128).tmod 128+128) (by omega),IntWalk.wrap64_in _ ⟨by omega,by omega⟩]
 unfold QEU
 omega
theorem QPP (r n:Int)(hr:B8 r):(IntKind.i64.wrap (IntKind.i64.wrap (IntKind.i64.wrap ((IntKind.i64.wrap r).tdiv 128)*128)+(IntKind.i64.wrap ((IntKind.i64.wrap ((IntKind.i64.wrap r).tmod 128+n.tmod 128)).tmod 128+128)).tmod 128))%256=QEU r n:=by
 simp only[IntWalk.i64_left]
 rw[←QPa r n hr]
 obtain⟨r0,r1⟩:=hr
 obtain⟨a0,a1,a2⟩:=QHK n
 rw[IntWalk.wrap64_in r ⟨by omega,by omega⟩,Int.tdiv_eq_ediv_of_nonneg r0,Int.tmod_eq_emod_of_nonneg r0,IntWalk.wrap64_in (r / 128) ⟨by omega,by omega⟩,IntWalk.wrap64_in (r / 128*128) ⟨by omega,by omega⟩,IntWalk.wrap64_in (r%128+n.tmod 128) ⟨by omega,by omega⟩]
theorem QIJ (g:Rg)(n:Int)(hr:B8 g.r)(w:World) :
 Calls Tryz.prog 76 #[JH g,.int .i64 n] w fun e w'=>e=.returned (JH (ZI g n))∧Below w.heap.size w w':=by
 go_enter Tryz.func76,Tryz.ntmps76
 refine JB<|qQ [] (Many.begin w) fun w hm=>qQ [0,0,0] hm fun w hm=>qQ [0,1] hm fun w hm=>JF<|eoC 1 (JJ { g with r:=bits BinOp.or IntKind.u8 (bits BinOp.andNot IntKind.u8 g.r 127) (bits BinOp.and IntKind.u8 ((g.r+n%256)%256) 127) }).toList hm ⟨?_,hm.touch.below⟩
 exact congrArg (fun x=>Ending.returned (JH { g with r:=x })) (by rw[Int.add_emod_emod];exact QP5 g.r n hr)
theorem QCm (g:Rg)(n:Int)(hr:B8 g.r)(w:World) :
 Calls Tryz.prog 49 #[JH g,.int .i64 n] w fun e w'=>e=.returned (JH (ZI g n))∧Below w.heap.size w w':=by
 go_enter Tryz.func49,Tryz.ntmps49
 refine JB<|qQ [] (Many.begin w) fun w hm=>qQ [0] hm fun w hm=>qQ [0,0] hm fun w hm=>qQ [0,1] hm fun w hm=>JF<|eoC 1 (JJ { g with r:=(IntKind.i64.wrap (IntKind.i64.wrap (IntKind.i64.wrap ((IntKind.i64.wrap g.r).tdiv 128)*128)+(IntKind.i64.wrap ((IntKind.i64.wrap ((IntKind.i64.wrap g.r).tmod 128+n.tmod 128)).tmod 128+128)).tmod 128))%256 }).toList hm ⟨?_,hm.touch.below⟩
 exact congrArg (fun x=>Ending.returned (JH { g with r:=x })) (QPP g.r n hr)
theorem QPC (g:Rg)(w:World) :
 Calls Tryz.prog 281 #[JH g] w fun e w'=>e=.returned (JH (QEp g))∧Below w.heap.size w w':=by
 go_enter Tryz.func281,Tryz.ntmps281
 refine JB<|qQ [] (Many.begin w) fun w hm=>qQ [0,0,0,0] hm fun w hm=>qQ [0,1] hm fun w hm=>JF<|eoC 1 (JJ (QEp g)).toList hm ⟨rfl,hm.touch.below⟩
theorem QQK (g:Rg)(w:World) :
 Calls Tryz.prog 300 #[JH g] w fun e w'=>e=.returned (JH (QKR g))∧Below w.heap.size w w':=by
 go_enter Tryz.func300,Tryz.ntmps300
 refine JB<|qQ [] (Many.begin w) fun w hm=>qQ [0,0,0,0] hm fun w hm=>qQ [0,0,0,0] hm fun w hm=>qQ [0,0,0,0] hm fun w hm=>qQ [0,1] hm fun w hm=>JF<|eoC 1 (JJ (QKR g)).toList hm ⟨rfl,hm.touch.below⟩
theorem jV (g g':Rg)(p k v:Int)(F:FuncId)(o:Nat)(x:Int)
 (hlk:∀ {w:World} {M:Nat},w.heap[M]? = some (.map (J6 p) 4)→(Instr.lookup 210 (.map (some M)) (.int .i64 k) true).run Tryz.prog w=.ok (.tuple #[.func (.func F) #[] #[],.bool true]) w)
 (hF:∀ (b:Nat) (w:World),Calls Tryz.prog F #[.pointer (some ⟨b,0,none⟩)] w fun e w'=>e=.returned (.pointer (some ⟨b,o,none⟩))∧w=w')(hold:(JJ g)[o]? = some (.int .u16 x))(hnew:(JJ g).setIfInBounds o (.int .u16 v)=JJ g')(hcall:∀ (args:Array Value) (w:World),(callFunc F args).run Tryz.prog w=.ok (.enter F args) w)(w:World) :
 Calls Tryz.prog 313 #[JH g,.int .i64 p,.int .i64 k,.int .u16 v] w fun e w'=>e=.returned (JH g')∧Below w.heap.size w w':=by
 have kh:=Lib.hid (fun w=>QAv p w)
 obtain⟨cs,hcs⟩:∃ cs,cs=(JJ g):=⟨_,rfl⟩
 have HE:=Lib.hid hcs
 show Calls _ _ #[.agg (JJ g),.int .i64 p,.int .i64 k,.int .u16 v] _ _
 rw[←hcs]
 clear hcs
 go_enter Tryz.func313,Tryz.ntmps313
 go_upto_region 1 with (fail)
 have rA:=(Row.new w 24 cs).alloc (.cells zL 24)
 have rZ:=Row.new (w.alloc (.cells cs 24)) 24 zL
 rw[show (w.alloc (.cells cs 24)).heap.size=w.heap.size+1 by simp] at rZ
 have rZ:=Lib.hid rZ
 have HB:=Lib.hid (((Below.refl w.heap.size w).alloc (Nat.le_refl _) (.cells cs 24)).alloc (by simp) (.cells zL 24))
 have HW:=Lib.hid (show ((w.alloc (.cells cs 24)).alloc (.cells zL 24)).heap.size=w.heap.size+2 by simp)
 generalize (w.alloc (.cells cs 24)).alloc (.cells zL 24)=W0 at *
 rw[HE.out] at rA
 have rA:=Lib.hid rA
 have hltA:=rA.out.lt
 have hltZ:=rZ.out.lt
 go_wp2_with fail
 refine (kh.out _).mono ?_
 rintro e w2 ⟨rfl,rfl⟩
 have hlk:=hlk (World.alloc_heap_new W0 (.map (J6 p) 4))
 have qA:=Lib.hid (rA.out.alloc (.map (J6 p) 4))
 have qZ:=Lib.hid (rZ.out.alloc (.map (J6 p) 4))
 have HB':=Lib.hid (HB.out.alloc HB.out.size (.map (J6 p) 4))
 have HW':=Lib.hid (show (W0.alloc (.map (J6 p) 4)).heap.size=w.heap.size+3 by rw[World.size_alloc,HW.out])
 clear HB HW rA rZ
 have HB:=HB'
 have HW:=HW'
 have rA:=qA
 have rZ:=qZ
 clear HB' HW' qA qZ
 generalize W0.alloc (.map (J6 p) 4)=W1 at *
 generalize W0.heap.size=M at *
 obtain⟨es,hes⟩:∃ es,es=(JJ g):=⟨_,rfl⟩
 have HS:=Lib.hid hes
 have hA:=rA.out
 rw[←hes] at hA
 have hA:=Lib.hid hA
 have iR:Hid ((Tryz.prog.info? 24).map (·.size)=some es.size):=Lib.hid (by rw[hes];exact ZF)
 have iE:Hid ((Tryz.prog.info? 212).map (·.size)=some es.size):=Lib.hid (by rw[hes];exact zl)
 have oE:Hid (es.toList.all (·.oneCell')=true):=Lib.hid (by rw[hes];rfl)
 have sE:Hid (es.size=20):=Lib.hid (by rw[hes];rfl)
 clear hes rA
 go_upto_region 5 with (first
  | (refine wpList_load_row rfl 24 _ rfl _ _ _ rfl hA.out _ Tryz.underlying24 rfl iR.out ?_)
  | (refine XC rfl 212 _ _ rfl _ _ _ _ es rfl rfl (by simp) (by rw[sE.out];exact Eq.refl 20) iE.out oE.out ?_))
 have rF:=Row.new W1 212 es
 have qA:=hA.out.alloc (.cells es 212)
 have qZ:=rZ.out.alloc (.cells es 212)
 have HB':=Lib.hid (HB.out.alloc HB.out.size (.cells es 212))
 have HW':=Lib.hid (show (W1.alloc (.cells es 212)).heap.size=w.heap.size+4 by rw[World.size_alloc,HW.out])
 rw[HW.out] at rF
 rw[HW.out]
 clear HB HW hA rZ hlk
 have HB:=HB'
 have HW:=HW'
 clear HB' HW'
 generalize W1.alloc (.cells es 212)=W2 at *
 rw[HS.out] at rF qA
 have rF:=Lib.hid rF
 have rA:=Lib.hid qA
 have rZ:=Lib.hid qZ
 clear qA qZ
 have hltF:=rF.out.lt
 have lF1:W2.cell? ⟨w.heap.size+3,o,none⟩=some (.int .u16 x):=(rF.out.cell o).trans hold
 have fF1:=rF.out.frozen o
 have qA0:Row (W2.setCell ⟨w.heap.size+3,o,none⟩ (.int .u16 v)) (w.heap.size) 24 (JJ g):=rA.out.far (p:=⟨w.heap.size+3,o,none⟩) (by simp) (.int .u16 v)
 have qZ0:Row (W2.setCell ⟨w.heap.size+3,o,none⟩ (.int .u16 v)) (w.heap.size+1) 24 zL:=rZ.out.far (p:=⟨w.heap.size+3,o,none⟩) (by simp) (.int .u16 v)
 have qF0:Row (W2.setCell ⟨w.heap.size+3,o,none⟩ (.int .u16 v)) (w.heap.size+3) 212 (JJ g'):=hnew▸rF.out.set o (.int .u16 v)
 have qA:=qA0
 have qZ:=qZ0
 have qF:=qF0
 clear qA0 qZ0 qF0
 have HB':=Lib.hid (HB.out.setCell (p:=⟨w.heap.size+3,o,none⟩) (by first|exact Nat.le_refl _|exact Nat.le_add_right _ _) (.int .u16 v))
 go_upto_region 6 with (refine (hF _ _).mono ?_;rintro e w' ⟨rfl,rfl⟩)
 clear lF1 fF1 rA rZ rF HB
 have rA:=Lib.hid qA
 have rZ:=Lib.hid qZ
 have rF:=Lib.hid qF
 clear qA qZ qF
 have HB:=HB'
 clear HB'
 generalize W2.setCell ⟨w.heap.size+3,o,none⟩ (.int .u16 v)=W3 at *
 obtain⟨ds,hds⟩:∃ ds,ds=(JJ g'):=⟨_,rfl⟩
 have i24:Hid ((Tryz.prog.info? 24).map (·.size)=some ds.size):=Lib.hid (by rw[hds];exact ZF)
 have one:Hid (ds.toList.all (·.oneCell')=true):=Lib.hid (by rw[hds];rfl)
 have hsz:Hid (ds.size=20):=Lib.hid (by rw[hds];rfl)
 have HD:=Lib.hid hds
 have hR:=rF.out
 rw[←hds] at hR
 clear hds
 apply wp_region_lit
 have i42:Hid ((Tryz.prog.info? 212).map (·.size)=some ds.size):=Lib.hid (by rw[hsz.out];exact zl)
 refine wpList_load_row rfl 212 _ rfl _ _ _ rfl hR _ Tryz.underlying212 rfl i42.out ?_
 refine wpList_store_row rfl 24 _ _ rfl (w.heap.size+1) _ _ ds rfl rfl rZ.out (by rw[hsz.out];exact Eq.refl 20) i24.out one.out ?_
 have rE:=rZ.out.setAll (vs:=ds) (by rw[hsz.out];exact Eq.refl 20)
 have HE9:=Lib.hid (Below.setCellsAll HB.out (b:=w.heap.size+1) (Nat.le_add_right _ _) ds.toList 0)
 generalize W3.setCells (w.heap.size+1) 0 ds.toList=W9 at *
 apply wpList_nil
 rename_i hret
 refine hret _ _ (wp_ret ?_)
 try simp only[Exit.inBlock,Exit.then]
 refine bodyPost_ret (Qk rfl rfl rE _ Tryz.underlying24 rfl i24.out) rfl ?_
 exact⟨(congrArg (fun q=>Ending.returned (Value.agg q)) HD.out).trans rfl,HE9.out⟩
theorem QJY (g:Rg)(p v:Int)(w:World) :
 Calls Tryz.prog 313 #[JH g,.int .i64 p,.int .i64 0,.int .u16 v] w fun e w'=>e=.returned (JH ({ g with bc:=v }))∧Below w.heap.size w w' :=
 jV g _ p 0 v _ 1 g.bc QRg (fun b w=>QAd b w) rfl rfl (fun _ _=>by kernel_rfl) w
theorem QH5 (g:Rg)(p v:Int)(w:World) :
 Calls Tryz.prog 313 #[JH g,.int .i64 p,.int .i64 1,.int .u16 v] w fun e w'=>e=.returned (JH ({ g with de:=v }))∧Below w.heap.size w w' :=
 jV g _ p 1 v _ 2 g.de QRm (fun b w=>QAy b w) rfl rfl (fun _ _=>by kernel_rfl) w
theorem QH7 (g:Rg)(p v:Int)(hF:Qh p=348)(w:World) :
 Calls Tryz.prog 313 #[JH g,.int .i64 p,.int .i64 2,.int .u16 v] w fun e w'=>e=.returned (JH ({ g with ix:=v }))∧Below w.heap.size w w' :=
 jV g _ p 2 v _ 8 g.ix (QGU hF) (fun b w=>QA8 b w) rfl rfl (fun _ _=>by kernel_rfl) w
theorem QH1 (g:Rg)(p v:Int)(hF:Qh p=349)(w:World) :
 Calls Tryz.prog 313 #[JH g,.int .i64 p,.int .i64 2,.int .u16 v] w fun e w'=>e=.returned (JH ({ g with iy:=v }))∧Below w.heap.size w w' :=
 jV g _ p 2 v _ 9 g.iy (QGU hF) (fun b w=>QAp b w) rfl rfl (fun _ _=>by kernel_rfl) w
theorem QId (g:Rg)(p v:Int)(hF:Qh p=350)(w:World) :
 Calls Tryz.prog 313 #[JH g,.int .i64 p,.int .i64 2,.int .u16 v] w fun e w'=>e=.returned (JH ({ g with hl:=v }))∧Below w.heap.size w w' :=
 jV g _ p 2 v _ 3 g.hl (QGU hF) (fun b w=>QA7 b w) rfl rfl (fun _ _=>by kernel_rfl) w
theorem QH8 (g:Rg)(p v:Int)(w:World) :
 Calls Tryz.prog 313 #[JH g,.int .i64 p,.int .i64 3,.int .u16 v] w fun e w'=>e=.returned (JH ({ g with sp:=v }))∧Below w.heap.size w w' :=
 jV g _ p 3 v _ 10 g.sp QRl (fun b w=>QLC b w) rfl rfl (fun _ _=>by kernel_rfl) w
theorem QKB (g:Rg)(p k v:Int)(hk:k < 0∨3 < k)(w:World) :
 Calls Tryz.prog 313 #[JH g,.int .i64 p,.int .i64 k,.int .u16 v] w fun e w'=>e=.returned (JH (g))∧Below w.heap.size w w':=by
 obtain⟨af,bc,de,hl,af2,bc2,de2,hl2,ix,iy,sp,pc,wz,i,r,iff1,iff2,halted,late,mode⟩:=g
 have kh:=Lib.hid (fun w=>QAv p w)
 have hk:=Lib.hid hk
 obtain⟨cs,hcs⟩:∃ cs,cs=(#[.int .u16 af,.int .u16 bc,.int .u16 de,.int .u16 hl,.int .u16 af2,.int .u16 bc2,.int .u16 de2,.int .u16 hl2,.int .u16 ix,.int .u16 iy,.int .u16 sp,.int .u16 pc,.int .u16 wz,.int .u8 i,.int .u8 r,.bool iff1,.bool iff2,.bool halted,.bool late,.int .i64 mode]:Array Value):=⟨_,rfl⟩
 have HE:=Lib.hid hcs
 show Calls _ _ #[.agg (#[.int .u16 af,.int .u16 bc,.int .u16 de,.int .u16 hl,.int .u16 af2,.int .u16 bc2,.int .u16 de2,.int .u16 hl2,.int .u16 ix,.int .u16 iy,.int .u16 sp,.int .u16 pc,.int .u16 wz,.int .u8 i,.int .u8 r,.bool iff1,.bool iff2,.bool halted,.bool late,.int .i64 mode]:Array Value),.int .i64 p,.int .i64 k,.int .u16 v] _ _
 rw[←hcs]
 clear hcs
 go_enter Tryz.func313,Tryz.ntmps313
 go_upto_region 1 with (fail)
 have rA:=(Row.new w 24 cs).alloc (.cells zL 24)
 have rZ:=Row.new (w.alloc (.cells cs 24)) 24 zL
 rw[show (w.alloc (.cells cs 24)).heap.size=w.heap.size+1 by simp] at rZ
 have rZ:=Lib.hid rZ
 have HB:=Lib.hid (((Below.refl w.heap.size w).alloc (Nat.le_refl _) (.cells cs 24)).alloc (by simp) (.cells zL 24))
 have HW:=Lib.hid (show ((w.alloc (.cells cs 24)).alloc (.cells zL 24)).heap.size=w.heap.size+2 by simp)
 generalize (w.alloc (.cells cs 24)).alloc (.cells zL 24)=W0 at *
 rw[HE.out] at rA
 have rA:=Lib.hid rA
 have hltA:=rA.out.lt
 have hltZ:=rZ.out.lt
 go_wp2_with fail
 refine (kh.out _).mono ?_
 rintro e w2 ⟨rfl,rfl⟩
 have hlk:=QOo (p:=p) hk.out (World.alloc_heap_new W0 (.map (J6 p) 4))
 have qA:=Lib.hid (rA.out.alloc (.map (J6 p) 4))
 have qZ:=Lib.hid (rZ.out.alloc (.map (J6 p) 4))
 have HB':=Lib.hid (HB.out.alloc HB.out.size (.map (J6 p) 4))
 have HW':=Lib.hid (show (W0.alloc (.map (J6 p) 4)).heap.size=w.heap.size+3 by rw[World.size_alloc,HW.out])
 clear HB HW rA rZ
 have HB:=HB'
 have HW:=HW'
 have rA:=qA
 have rZ:=qZ
 clear HB' HW' qA qZ
 generalize W0.alloc (.map (J6 p) 4)=W1 at *
 generalize W0.heap.size=M at *
 go_upto_region 3 with (fail)
 obtain⟨ds,hds⟩:∃ ds,ds=(#[.int .u16 af,.int .u16 bc,.int .u16 de,.int .u16 hl,.int .u16 af2,.int .u16 bc2,.int .u16 de2,.int .u16 hl2,.int .u16 ix,.int .u16 iy,.int .u16 sp,.int .u16 pc,.int .u16 wz,.int .u8 i,.int .u8 r,.bool iff1,.bool iff2,.bool halted,.bool late,.int .i64 mode]:Array Value):=⟨_,rfl⟩
 have i24:Hid ((Tryz.prog.info? 24).map (·.size)=some ds.size):=Lib.hid (by rw[hds];exact ZF)
 have one:Hid (ds.toList.all (·.oneCell')=true):=Lib.hid (by rw[hds];rfl)
 have hsz:Hid (ds.size=20):=Lib.hid (by rw[hds];rfl)
 have HD:=Lib.hid hds
 have hR:=rA.out
 rw[←hds] at hR
 clear hds
 apply wp_region_lit
 refine wpList_load_row rfl 24 _ rfl _ _ _ rfl hR _ Tryz.underlying24 rfl i24.out ?_
 refine wpList_store_row rfl 24 _ _ rfl (w.heap.size+1) _ _ ds rfl rfl rZ.out (by rw[hsz.out];exact Eq.refl 20) i24.out one.out ?_
 have rE:=rZ.out.setAll (vs:=ds) (by rw[hsz.out];exact Eq.refl 20)
 have HE9:=Lib.hid (Below.setCellsAll HB.out (b:=w.heap.size+1) (Nat.le_add_right _ _) ds.toList 0)
 generalize W1.setCells (w.heap.size+1) 0 ds.toList=W9 at *
 apply wpList_nil
 rename_i hret
 refine hret _ _ (wp_ret ?_)
 try simp only[Exit.inBlock,Exit.then]
 refine bodyPost_ret (Qk rfl rfl rE _ Tryz.underlying24 rfl i24.out) rfl ?_
 exact⟨(congrArg (fun q=>Ending.returned (Value.agg q)) HD.out).trans rfl,HE9.out⟩
theorem QC3 (g:Rg)(p k v:Int)(h:k < 0∨3 < k):J8 g p k v=g:=by
 unfold J8
 rw[if_neg (by omega),if_neg (by omega),if_neg (by omega),if_neg (by omega)]
theorem zp (g:Rg)(p v:Int):J8 g p 2 v=if p=3 then { g with ix:=v } else if p=4 then { g with iy:=v } else { g with hl:=v }:=rfl
theorem QDA (g:Rg)(p k v:Int)(w:World) :
 Calls Tryz.prog 313 #[JH g,.int .i64 p,.int .i64 k,.int .u16 v] w fun e w'=>e=.returned (JH (J8 g p k v))∧Below w.heap.size w w':=by
 by_cases hn:k < 0∨3 < k
 · rw[QC3 g p k v hn]
   exact QKB g p k v hn w
 obtain rfl|rfl|rfl|rfl:k=0∨k=1∨k=2∨k=3:=by omega
 · exact QJY g p v w
 · exact QH5 g p v w
 · rw[zp]
   by_cases h3:p=3
   · rw[if_pos h3]
     exact QH7 g p v (qG h3) w
   by_cases h4:p=4
   · rw[if_neg h3,if_pos h4]
     exact QH1 g p v (qI h3 h4) w
   · rw[if_neg h3,if_neg h4]
     exact QId g p v (qB h3 h4) w
 · exact QH8 g p v w
theorem QL3 (q:Option Addr)(w:World):Calls Tryz.prog 326 #[.pointer q,.bool true] w fun e w'=>e=.returned (.func (.func 344) #[] #[.pointer (some ⟨w.heap.size,0,none⟩)])∧w'=w.alloc (.cells #[.pointer q] 213):=by
 go_enter Tryz.func326,Tryz.ntmps326
 go_wp2
 go_ret
 exact⟨rfl,rfl⟩
theorem QMC (q:Option Addr)(w:World):Calls Tryz.prog 326 #[.pointer q,.bool false] w fun e w'=>e=.returned (.func (.func 345) #[] #[.pointer (some ⟨w.heap.size,0,none⟩)])∧w'=w.alloc (.cells #[.pointer q] 213):=by
 go_enter Tryz.func326,Tryz.ntmps326
 go_wp2
 go_ret
 exact⟨rfl,rfl⟩
theorem QLk (B b o:Nat)(x v:Int)(hx:Wd16 x)(hv:B8 v)(w:World)(h0:w.cell? ⟨B,0,none⟩=some (.pointer (some ⟨b,o,none⟩)))(h1:w.cell? ⟨b,o,none⟩=some (.int .u16 x))(h2:w.frozen? ⟨b,o,none⟩=false) :
 Calls Tryz.prog 344 #[.int .u8 v,.pointer (some ⟨B,0,none⟩)] w fun e w'=>e=.returned (.tuple #[])∧w'=(w.setCell ⟨b,o,none⟩ (.int .u16 (256*v+x%256))).drew:=by
 have k1:=Lib.hid (fun w=>qK x hx.1 hx.2 w)
 have k2:=Lib.hid (fun w=>J1 v (x%256) hv.1 hv.2 (by omega) (by omega) w)
 clear hx hv
 go_enter Tryz.func344,Tryz.ntmps344
 go_still_tail 8,(by kernel_rfl)
 still_call ((k1.out _).mono fun e w' h=>⟨h.1,h.2.symm⟩)
 repeat still_step
 still_call ((k2.out _).mono fun e w' h=>⟨h.1,h.2.symm⟩)
 repeat still_step
 refine wpStill_nil ?_
 change wpList _ _ _ _ _ w.drew
 go_wp2
 go_end0
 exact⟨rfl,rfl⟩
theorem QML (B b o:Nat)(x v:Int)(hx:Wd16 x)(hv:B8 v)(w:World)(h0:w.cell? ⟨B,0,none⟩=some (.pointer (some ⟨b,o,none⟩)))(h1:w.cell? ⟨b,o,none⟩=some (.int .u16 x))(h2:w.frozen? ⟨b,o,none⟩=false) :
 Calls Tryz.prog 345 #[.int .u8 v,.pointer (some ⟨B,0,none⟩)] w fun e w'=>e=.returned (.tuple #[])∧w'=(w.setCell ⟨b,o,none⟩ (.int .u16 (256*(x / 256)+v))).drew:=by
 have k1:=Lib.hid (fun w=>qy x hx.1 hx.2 w)
 have k2:=Lib.hid (fun w=>J1 (x / 256) v (by have:=hx.1;omega) (by have:=hx.2;omega) hv.1 hv.2 w)
 clear hx hv
 go_enter Tryz.func345,Tryz.ntmps345
 go_still_tail 8,(by kernel_rfl)
 still_call ((k1.out _).mono fun e w' h=>⟨h.1,h.2.symm⟩)
 repeat still_step
 still_call ((k2.out _).mono fun e w' h=>⟨h.1,h.2.symm⟩)
 repeat still_step
 refine wpStill_nil ?_
 change wpList _ _ _ _ _ w.drew
 go_wp2
 go_end0
 exact⟨rfl,rfl⟩
theorem QCc (g g':Rg)(p k v:Int)(F:FuncId)(o:Nat)(x:Int)
 (hlk:∀ {w:World} {M:Nat},w.heap[M]? = some (.map (Jg p) 7)→(Instr.lookup 220 (.map (some M)) (.int .i64 k) true).run Tryz.prog w=.ok (.tuple #[Z9 (.func (.func F) #[] #[]) true,.bool true]) w)
 (hF:∀ (b:Nat) (w:World),Calls Tryz.prog F #[.pointer (some ⟨b,0,none⟩)] w fun e w'=>e=.returned (.pointer (some ⟨b,o,none⟩))∧w=w')(hold:(JJ g)[o]? = some (.int .u16 x))(hnew:(JJ g).setIfInBounds o (.int .u16 (256*v+x%256))=JJ g')(hx:Wd16 x)(hv:B8 v)(hcall:∀ (args:Array Value) (w:World),(callFunc F args).run Tryz.prog w=.ok (.enter F args) w)(w:World) :
 Calls Tryz.prog 293 #[JH g,.int .i64 p,.int .i64 k,.int .u8 v] w fun e w'=>e=.returned (JH g')∧Below w.heap.size w w':=by
 have kh:=Lib.hid (fun w=>jN p w)
 have kx:=Lib.hid hx
 have kv:=Lib.hid hv
 clear hx hv
 obtain⟨cs,hcs⟩:∃ cs,cs=(JJ g):=⟨_,rfl⟩
 have HE:=Lib.hid hcs
 show Calls _ _ #[.agg (JJ g),.int .i64 p,.int .i64 k,.int .u8 v] _ _
 rw[←hcs]
 clear hcs
 go_enter Tryz.func293,Tryz.ntmps293
 go_upto_region 1 with (fail)
 have rA:=(Row.new w 24 cs).alloc (.cells zL 24)
 have rZ:=Row.new (w.alloc (.cells cs 24)) 24 zL
 rw[show (w.alloc (.cells cs 24)).heap.size=w.heap.size+1 by simp] at rZ
 have rZ:=Lib.hid rZ
 have HB:=Lib.hid (((Below.refl w.heap.size w).alloc (Nat.le_refl _) (.cells cs 24)).alloc (by simp) (.cells zL 24))
 have HW:=Lib.hid (show ((w.alloc (.cells cs 24)).alloc (.cells zL 24)).heap.size=w.heap.size+2 by simp)
 generalize (w.alloc (.cells cs 24)).alloc (.cells zL 24)=W0 at *
 rw[HE.out] at rA
 have rA:=Lib.hid rA
 have hltA:=rA.out.lt
 have hltZ:=rZ.out.lt
 go_wp2_with fail
 refine (kh.out _).mono ?_
 rintro e w2 ⟨rfl,rfl⟩
 have hlk:=hlk (World.alloc_heap_new W0 (.map (Jg p) 7))
 have qA:=Lib.hid (rA.out.alloc (.map (Jg p) 7))
 have qZ:=Lib.hid (rZ.out.alloc (.map (Jg p) 7))
 have HB':=Lib.hid (HB.out.alloc HB.out.size (.map (Jg p) 7))
 have HW':=Lib.hid (show (W0.alloc (.map (Jg p) 7)).heap.size=w.heap.size+3 by rw[World.size_alloc,HW.out])
 clear HB HW rA rZ
 have HB:=HB'
 have HW:=HW'
 have rA:=qA
 have rZ:=qZ
 clear HB' HW' qA qZ
 generalize W0.alloc (.map (Jg p) 7)=W1 at *
 generalize W0.heap.size=M at *
 go_upto_region 2 with (fail)
 have rH:=Row.new W1 218 (#[(.func (.func F) #[] #[]),.bool true]:Array Value)
 rw[HW.out] at rH
 rw[HW.out]
 have rH:=Lib.hid rH
 have qA:=Lib.hid (rA.out.alloc (.cells (#[(.func (.func F) #[] #[]),.bool true]:Array Value) 218))
 have qZ:=Lib.hid (rZ.out.alloc (.cells (#[(.func (.func F) #[] #[]),.bool true]:Array Value) 218))
 have HB':=Lib.hid (HB.out.alloc HB.out.size (.cells (#[(.func (.func F) #[] #[]),.bool true]:Array Value) 218))
 have HW':=Lib.hid (show (W1.alloc (.cells (#[(.func (.func F) #[] #[]),.bool true]:Array Value) 218)).heap.size=w.heap.size+4 by rw[World.size_alloc,HW.out])
 clear HB HW rA rZ
 have HB:=HB'
 have HW:=HW'
 have rA:=qA
 have rZ:=qZ
 clear HB' HW' qA qZ
 generalize W1.alloc (.cells (#[(.func (.func F) #[] #[]),.bool true]:Array Value) 218)=W2 at *
 obtain⟨es,hes⟩:∃ es,es=(JJ g):=⟨_,rfl⟩
 have HS:=Lib.hid hes
 have hA:=rA.out
 rw[←hes] at hA
 have hA:=Lib.hid hA
 have iR:Hid ((Tryz.prog.info? 24).map (·.size)=some es.size):=Lib.hid (by rw[hes];exact ZF)
 have iE:Hid ((Tryz.prog.info? 212).map (·.size)=some es.size):=Lib.hid (by rw[hes];exact zl)
 have oE:Hid (es.toList.all (·.oneCell')=true):=Lib.hid (by rw[hes];rfl)
 have sE:Hid (es.size=20):=Lib.hid (by rw[hes];rfl)
 clear hes rA
 go_upto_region 5 with (first
  | (refine wpList_load_row rfl 24 _ rfl _ _ _ rfl hA.out _ Tryz.underlying24 rfl iR.out ?_)
  | (refine XC rfl 212 _ _ rfl _ _ _ _ es rfl rfl (by simp) (by rw[sE.out];exact Eq.refl 20) iE.out oE.out ?_))
 have rF:=Row.new W2 212 es
 have qA:=hA.out.alloc (.cells es 212)
 have qZ:=rZ.out.alloc (.cells es 212)
 have qH:=rH.out.alloc (.cells es 212)
 have HB':=Lib.hid (HB.out.alloc HB.out.size (.cells es 212))
 have HW':=Lib.hid (show (W2.alloc (.cells es 212)).heap.size=w.heap.size+5 by rw[World.size_alloc,HW.out])
 rw[HW.out] at rF
 rw[HW.out]
 clear HB HW hA rZ rH hlk
 have HB:=HB'
 have HW:=HW'
 clear HB' HW'
 generalize W2.alloc (.cells es 212)=W3 at *
 rw[HS.out] at rF qA
 have rF:=Lib.hid rF
 have rA:=Lib.hid qA
 have rZ:=Lib.hid qZ
 have rH:=Lib.hid qH
 clear qA qZ qH
 have hltF:=rF.out.lt
 have l0:=rH.out.cell 0
 have l1:=rH.out.cell 1
 go_upto_region 5 with (fail)
 have q0:=Row.new W3.drew 213 #[.pointer (some ⟨w.heap.size+4,o,none⟩)]
 have qF:Row (W3.drew.alloc (.cells #[.pointer (some ⟨w.heap.size+4,o,none⟩)] 213)) (w.heap.size+4) 212 (JJ g):=Row.alloc (w:=W3.drew) rF.out (.cells #[.pointer (some ⟨w.heap.size+4,o,none⟩)] 213)
 have qZ:Row (W3.drew.alloc (.cells #[.pointer (some ⟨w.heap.size+4,o,none⟩)] 213)) (w.heap.size+1) 24 zL:=Row.alloc (w:=W3.drew) rZ.out (.cells #[.pointer (some ⟨w.heap.size+4,o,none⟩)] 213)
 have h0:=q0.cell 0
 have h1:(W3.drew.alloc (.cells #[.pointer (some ⟨w.heap.size+4,o,none⟩)] 213)).cell? ⟨w.heap.size+4,o,none⟩=some (.int .u16 x):=(qF.cell o).trans hold
 have h2:=qF.frozen o
 have kk:=Lib.hid (QLk W3.drew.heap.size (w.heap.size+4) o x v kx.out kv.out (W3.drew.alloc (.cells #[.pointer (some ⟨w.heap.size+4,o,none⟩)] 213)) h0 h1 h2)
 have uF:Row ((W3.setCell ⟨w.heap.size+4,o,none⟩ (.int .u16 (256*v+x%256))).alloc (.cells #[.pointer (some ⟨w.heap.size+4,o,none⟩)] 213)).drew.drew (w.heap.size+4) 212 (JJ g'):=hnew▸Row.alloc (w:=W3.setCell ⟨w.heap.size+4,o,none⟩ (.int .u16 (256*v+x%256))) (rF.out.set o (.int .u16 (256*v+x%256))) (.cells #[.pointer (some ⟨w.heap.size+4,o,none⟩)] 213)
 have uF:=Lib.hid uF
 have uZ:Row ((W3.setCell ⟨w.heap.size+4,o,none⟩ (.int .u16 (256*v+x%256))).alloc (.cells #[.pointer (some ⟨w.heap.size+4,o,none⟩)] 213)).drew.drew (w.heap.size+1) 24 zL:=Row.alloc (w:=W3.setCell ⟨w.heap.size+4,o,none⟩ (.int .u16 (256*v+x%256))) (rZ.out.far (p:=⟨w.heap.size+4,o,none⟩) (by simp) (.int .u16 (256*v+x%256))) (.cells #[.pointer (some ⟨w.heap.size+4,o,none⟩)] 213)
 have uZ:=Lib.hid uZ
 have HB1:=HB.out.setCell (p:=⟨w.heap.size+4,o,none⟩) (Nat.le_add_right _ _) (.int .u16 (256*v+x%256))
 have HB':Hid (Below w.heap.size w ((W3.setCell ⟨w.heap.size+4,o,none⟩ (.int .u16 (256*v+x%256))).alloc (.cells #[.pointer (some ⟨w.heap.size+4,o,none⟩)] 213)).drew.drew):=Lib.hid ((HB1.alloc HB1.size (.cells #[.pointer (some ⟨w.heap.size+4,o,none⟩)] 213)).drew.drew)
 clear HB1
 clear q0 h0 h1 h2 qF qZ rF rZ rA rH HB HW
 go_region_with (first
  | (go_at_call 326;refine (QL3 _ _).mono ?_;rintro e w' ⟨rfl,rfl⟩)
  | (go_at_call 344;refine kk.out.mono ?_;rintro e w' ⟨rfl,rfl⟩)
  | (refine (hF _ _).mono ?_;rintro e w' ⟨rfl,rfl⟩))
 all_goals clear kk
 all_goals
  have rF:=uF
  have rZ:=uZ
  have HB:=HB'
  clear uF uZ HB' l0 l1
  generalize ((W3.setCell ⟨w.heap.size+4,o,none⟩ (.int .u16 (256*v+x%256))).alloc (.cells #[.pointer (some ⟨w.heap.size+4,o,none⟩)] 213)).drew.drew=W9' at *
  go_upto_region 6 with (fail)
  obtain⟨ds,hds⟩:∃ ds,ds=JJ g':=⟨_,rfl⟩
  have i24:Hid ((Tryz.prog.info? 24).map (·.size)=some ds.size):=Lib.hid (by rw[hds];exact ZF)
  have one:Hid (ds.toList.all (·.oneCell')=true):=Lib.hid (by rw[hds];rfl)
  have hsz:Hid (ds.size=20):=Lib.hid (by rw[hds];rfl)
  have HD:=Lib.hid hds
  have hR:=rF.out
  rw[←hds] at hR
  clear hds
  apply wp_region_lit
  have i42:Hid ((Tryz.prog.info? 212).map (·.size)=some ds.size):=Lib.hid (by rw[hsz.out];exact zl)
  refine wpList_load_row rfl 212 _ rfl _ _ _ rfl hR _ Tryz.underlying212 rfl i42.out ?_
  refine wpList_store_row rfl 24 _ _ rfl (w.heap.size+1) _ _ ds rfl rfl rZ.out (by rw[hsz.out];exact Eq.refl 20) i24.out one.out ?_
  have rE:=rZ.out.setAll (vs:=ds) (by rw[hsz.out];exact Eq.refl 20)
  have HE9:=Lib.hid (Below.setCellsAll HB.out (b:=w.heap.size+1) (Nat.le_add_right _ _) ds.toList 0)
  generalize W9'.setCells (w.heap.size+1) 0 ds.toList=W9 at *
  apply wpList_nil
  rename_i hret
  refine hret _ _ (wp_ret ?_)
  try simp only[Exit.inBlock,Exit.then]
  refine bodyPost_ret (Qk rfl rfl rE _ Tryz.underlying24 rfl i24.out) rfl ?_
  exact⟨(congrArg (fun q=>Ending.returned (Value.agg q)) HD.out).trans rfl,HE9.out⟩
theorem QD8 (g g':Rg)(p k v:Int)(F:FuncId)(o:Nat)(x:Int)
 (hlk:∀ {w:World} {M:Nat},w.heap[M]? = some (.map (Jg p) 7)→(Instr.lookup 220 (.map (some M)) (.int .i64 k) true).run Tryz.prog w=.ok (.tuple #[Z9 (.func (.func F) #[] #[]) false,.bool true]) w)
 (hF:∀ (b:Nat) (w:World),Calls Tryz.prog F #[.pointer (some ⟨b,0,none⟩)] w fun e w'=>e=.returned (.pointer (some ⟨b,o,none⟩))∧w=w')(hold:(JJ g)[o]? = some (.int .u16 x))(hnew:(JJ g).setIfInBounds o (.int .u16 (256*(x / 256)+v))=JJ g')(hx:Wd16 x)(hv:B8 v)(hcall:∀ (args:Array Value) (w:World),(callFunc F args).run Tryz.prog w=.ok (.enter F args) w)(w:World) :
 Calls Tryz.prog 293 #[JH g,.int .i64 p,.int .i64 k,.int .u8 v] w fun e w'=>e=.returned (JH g')∧Below w.heap.size w w':=by
 have kh:=Lib.hid (fun w=>jN p w)
 have kx:=Lib.hid hx
 have kv:=Lib.hid hv
 clear hx hv
 obtain⟨cs,hcs⟩:∃ cs,cs=(JJ g):=⟨_,rfl⟩
 have HE:=Lib.hid hcs
 show Calls _ _ #[.agg (JJ g),.int .i64 p,.int .i64 k,.int .u8 v] _ _
 rw[←hcs]
 clear hcs
 go_enter Tryz.func293,Tryz.ntmps293
 go_upto_region 1 with (fail)
 have rA:=(Row.new w 24 cs).alloc (.cells zL 24)
 have rZ:=Row.new (w.alloc (.cells cs 24)) 24 zL
 rw[show (w.alloc (.cells cs 24)).heap.size=w.heap.size+1 by simp] at rZ
 have rZ:=Lib.hid rZ
 have HB:=Lib.hid (((Below.refl w.heap.size w).alloc (Nat.le_refl _) (.cells cs 24)).alloc (by simp) (.cells zL 24))
 have HW:=Lib.hid (show ((w.alloc (.cells cs 24)).alloc (.cells zL 24)).heap.size=w.heap.size+2 by simp)
 generalize (w.alloc (.cells cs 24)).alloc (.cells zL 24)=W0 at *
 rw[HE.out] at rA
 have rA:=Lib.hid rA
 have hltA:=rA.out.lt
 have hltZ:=rZ.out.lt
 go_wp2_with fail
 refine (kh.out _).mono ?_
 rintro e w2 ⟨rfl,rfl⟩
 have hlk:=hlk (World.alloc_heap_new W0 (.map (Jg p) 7))
 have qA:=Lib.hid (rA.out.alloc (.map (Jg p) 7))
 have qZ:=Lib.hid (rZ.out.alloc (.map (Jg p) 7))
 have HB':=Lib.hid (HB.out.alloc HB.out.size (.map (Jg p) 7))
 have HW':=Lib.hid (show (W0.alloc (.map (Jg p) 7)).heap.size=w.heap.size+3 by rw[World.size_alloc,HW.out])
 clear HB HW rA rZ
 have HB:=HB'
 have HW:=HW'
 have rA:=qA
 have rZ:=qZ
 clear HB' HW' qA qZ
 generalize W0.alloc (.map (Jg p) 7)=W1 at *
 generalize W0.heap.size=M at *
 go_upto_region 2 with (fail)
 have rH:=Row.new W1 218 (#[(.func (.func F) #[] #[]),.bool false]:Array Value)
 rw[HW.out] at rH
 rw[HW.out]
 have rH:=Lib.hid rH
 have qA:=Lib.hid (rA.out.alloc (.cells (#[(.func (.func F) #[] #[]),.bool false]:Array Value) 218))
 have qZ:=Lib.hid (rZ.out.alloc (.cells (#[(.func (.func F) #[] #[]),.bool false]:Array Value) 218))
 have HB':=Lib.hid (HB.out.alloc HB.out.size (.cells (#[(.func (.func F) #[] #[]),.bool false]:Array Value) 218))
 have HW':=Lib.hid (show (W1.alloc (.cells (#[(.func (.func F) #[] #[]),.bool false]:Array Value) 218)).heap.size=w.heap.size+4 by rw[World.size_alloc,HW.out])
 clear HB HW rA rZ
 have HB:=HB'
 have HW:=HW'
 have rA:=qA
 have rZ:=qZ
 clear HB' HW' qA qZ
 generalize W1.alloc (.cells (#[(.func (.func F) #[] #[]),.bool false]:Array Value) 218)=W2 at *
 obtain⟨es,hes⟩:∃ es,es=(JJ g):=⟨_,rfl⟩
 have HS:=Lib.hid hes
 have hA:=rA.out
 rw[←hes] at hA
 have hA:=Lib.hid hA
 have iR:Hid ((Tryz.prog.info? 24).map (·.size)=some es.size):=Lib.hid (by rw[hes];exact ZF)
 have iE:Hid ((Tryz.prog.info? 212).map (·.size)=some es.size):=Lib.hid (by rw[hes];exact zl)
 have oE:Hid (es.toList.all (·.oneCell')=true):=Lib.hid (by rw[hes];rfl)
 have sE:Hid (es.size=20):=Lib.hid (by rw[hes];rfl)
 clear hes rA
 go_upto_region 5 with (first
  | (refine wpList_load_row rfl 24 _ rfl _ _ _ rfl hA.out _ Tryz.underlying24 rfl iR.out ?_)
  | (refine XC rfl 212 _ _ rfl _ _ _ _ es rfl rfl (by simp) (by rw[sE.out];exact Eq.refl 20) iE.out oE.out ?_))
 have rF:=Row.new W2 212 es
 have qA:=hA.out.alloc (.cells es 212)
 have qZ:=rZ.out.alloc (.cells es 212)
 have qH:=rH.out.alloc (.cells es 212)
 have HB':=Lib.hid (HB.out.alloc HB.out.size (.cells es 212))
 have HW':=Lib.hid (show (W2.alloc (.cells es 212)).heap.size=w.heap.size+5 by rw[World.size_alloc,HW.out])
 rw[HW.out] at rF
 rw[HW.out]
 clear HB HW hA rZ rH hlk
 have HB:=HB'
 have HW:=HW'
 clear HB' HW'
 generalize W2.alloc (.cells es 212)=W3 at *
 rw[HS.out] at rF qA
 have rF:=Lib.hid rF
 have rA:=Lib.hid qA
 have rZ:=Lib.hid qZ
 have rH:=Lib.hid qH
 clear qA qZ qH
 have hltF:=rF.out.lt
 have l0:=rH.out.cell 0
 have l1:=rH.out.cell 1
 go_upto_region 5 with (fail)
 have q0:=Row.new W3.drew 213 #[.pointer (some ⟨w.heap.size+4,o,none⟩)]
 have qF:Row (W3.drew.alloc (.cells #[.pointer (some ⟨w.heap.size+4,o,none⟩)] 213)) (w.heap.size+4) 212 (JJ g):=Row.alloc (w:=W3.drew) rF.out (.cells #[.pointer (some ⟨w.heap.size+4,o,none⟩)] 213)
 have qZ:Row (W3.drew.alloc (.cells #[.pointer (some ⟨w.heap.size+4,o,none⟩)] 213)) (w.heap.size+1) 24 zL:=Row.alloc (w:=W3.drew) rZ.out (.cells #[.pointer (some ⟨w.heap.size+4,o,none⟩)] 213)
 have h0:=q0.cell 0
 have h1:(W3.drew.alloc (.cells #[.pointer (some ⟨w.heap.size+4,o,none⟩)] 213)).cell? ⟨w.heap.size+4,o,none⟩=some (.int .u16 x):=(qF.cell o).trans hold
 have h2:=qF.frozen o
 have kk:=Lib.hid (QML W3.drew.heap.size (w.heap.size+4) o x v kx.out kv.out (W3.drew.alloc (.cells #[.pointer (some ⟨w.heap.size+4,o,none⟩)] 213)) h0 h1 h2)
 have uF:Row ((W3.setCell ⟨w.heap.size+4,o,none⟩ (.int .u16 (256*(x / 256)+v))).alloc (.cells #[.pointer (some ⟨w.heap.size+4,o,none⟩)] 213)).drew.drew (w.heap.size+4) 212 (JJ g'):=hnew▸Row.alloc (w:=W3.setCell ⟨w.heap.size+4,o,none⟩ (.int .u16 (256*(x / 256)+v))) (rF.out.set o (.int .u16 (256*(x / 256)+v))) (.cells #[.pointer (some ⟨w.heap.size+4,o,none⟩)] 213)
 have uF:=Lib.hid uF
 have uZ:Row ((W3.setCell ⟨w.heap.size+4,o,none⟩ (.int .u16 (256*(x / 256)+v))).alloc (.cells #[.pointer (some ⟨w.heap.size+4,o,none⟩)] 213)).drew.drew (w.heap.size+1) 24 zL:=Row.alloc (w:=W3.setCell ⟨w.heap.size+4,o,none⟩ (.int .u16 (256*(x / 256)+v))) (rZ.out.far (p:=⟨w.heap.size+4,o,none⟩) (by simp) (.int .u16 (256*(x / 256)+v))) (.cells #[.pointer (some ⟨w.heap.size+4,o,none⟩)] 213)
 have uZ:=Lib.hid uZ
 have HB1:=HB.out.setCell (p:=⟨w.heap.size+4,o,none⟩) (Nat.le_add_right _ _) (.int .u16 (256*(x / 256)+v))
 have HB':Hid (Below w.heap.size w ((W3.setCell ⟨w.heap.size+4,o,none⟩ (.int .u16 (256*(x / 256)+v))).alloc (.cells #[.pointer (some ⟨w.heap.size+4,o,none⟩)] 213)).drew.drew):=Lib.hid ((HB1.alloc HB1.size (.cells #[.pointer (some ⟨w.heap.size+4,o,none⟩)] 213)).drew.drew)
 clear HB1
 clear q0 h0 h1 h2 qF qZ rF rZ rA rH HB HW
 go_region_with (first
  | (go_at_call 326;refine (QMC _ _).mono ?_;rintro e w' ⟨rfl,rfl⟩)
  | (go_at_call 345;refine kk.out.mono ?_;rintro e w' ⟨rfl,rfl⟩)
  | (refine (hF _ _).mono ?_;rintro e w' ⟨rfl,rfl⟩))
 all_goals clear kk
 all_goals
  have rF:=uF
  have rZ:=uZ
  have HB:=HB'
  clear uF uZ HB' l0 l1
  generalize ((W3.setCell ⟨w.heap.size+4,o,none⟩ (.int .u16 (256*(x / 256)+v))).alloc (.cells #[.pointer (some ⟨w.heap.size+4,o,none⟩)] 213)).drew.drew=W9' at *
  go_upto_region 6 with (fail)
  obtain⟨ds,hds⟩:∃ ds,ds=JJ g':=⟨_,rfl⟩
  have i24:Hid ((Tryz.prog.info? 24).map (·.size)=some ds.size):=Lib.hid (by rw[hds];exact ZF)
  have one:Hid (ds.toList.all (·.oneCell')=true):=Lib.hid (by rw[hds];rfl)
  have hsz:Hid (ds.size=20):=Lib.hid (by rw[hds];rfl)
  have HD:=Lib.hid hds
  have hR:=rF.out
  rw[←hds] at hR
  clear hds
  apply wp_region_lit
  have i42:Hid ((Tryz.prog.info? 212).map (·.size)=some ds.size):=Lib.hid (by rw[hsz.out];exact zl)
  refine wpList_load_row rfl 212 _ rfl _ _ _ rfl hR _ Tryz.underlying212 rfl i42.out ?_
  refine wpList_store_row rfl 24 _ _ rfl (w.heap.size+1) _ _ ds rfl rfl rZ.out (by rw[hsz.out];exact Eq.refl 20) i24.out one.out ?_
  have rE:=rZ.out.setAll (vs:=ds) (by rw[hsz.out];exact Eq.refl 20)
  have HE9:=Lib.hid (Below.setCellsAll HB.out (b:=w.heap.size+1) (Nat.le_add_right _ _) ds.toList 0)
  generalize W9'.setCells (w.heap.size+1) 0 ds.toList=W9 at *
  apply wpList_nil
  rename_i hret
  refine hret _ _ (wp_ret ?_)
  try simp only[Exit.inBlock,Exit.then]
  refine bodyPost_ret (Qk rfl rfl rE _ Tryz.underlying24 rfl i24.out) rfl ?_
  exact⟨(congrArg (fun q=>Ending.returned (Value.agg q)) HD.out).trans rfl,HE9.out⟩
theorem QRH (g:Rg)(p v:Int)(hx:Wd16 g.bc)(hv:B8 v)(w:World) :
 Calls Tryz.prog 293 #[JH g,.int .i64 p,.int .i64 0,.int .u8 v] w fun e w'=>e=.returned (JH ({ g with bc:=256*v+g.bc%256 }))∧Below w.heap.size w w' :=
 QCc g _ p 0 v _ 1 g.bc QRk (fun b w=>QAd b w) rfl rfl hx hv (fun _ _=>by kernel_rfl) w
theorem QQz (g:Rg)(p v:Int)(hx:Wd16 g.bc)(hv:B8 v)(w:World) :
 Calls Tryz.prog 293 #[JH g,.int .i64 p,.int .i64 1,.int .u8 v] w fun e w'=>e=.returned (JH ({ g with bc:=256*(g.bc / 256)+v }))∧Below w.heap.size w w' :=
 QD8 g _ p 1 v _ 1 g.bc QRv (fun b w=>QAd b w) rfl rfl hx hv (fun _ _=>by kernel_rfl) w
theorem QQb (g:Rg)(p v:Int)(hx:Wd16 g.de)(hv:B8 v)(w:World) :
 Calls Tryz.prog 293 #[JH g,.int .i64 p,.int .i64 2,.int .u8 v] w fun e w'=>e=.returned (JH ({ g with de:=256*v+g.de%256 }))∧Below w.heap.size w w' :=
 QCc g _ p 2 v _ 2 g.de QRy (fun b w=>QAy b w) rfl rfl hx hv (fun _ _=>by kernel_rfl) w
theorem QPp (g:Rg)(p v:Int)(hx:Wd16 g.de)(hv:B8 v)(w:World) :
 Calls Tryz.prog 293 #[JH g,.int .i64 p,.int .i64 3,.int .u8 v] w fun e w'=>e=.returned (JH ({ g with de:=256*(g.de / 256)+v }))∧Below w.heap.size w w' :=
 QD8 g _ p 3 v _ 2 g.de QRx (fun b w=>QAy b w) rfl rfl hx hv (fun _ _=>by kernel_rfl) w
theorem QQi (g:Rg)(p v:Int)(hF:Qh p=348)(hx:Wd16 g.ix)(hv:B8 v)(w:World) :
 Calls Tryz.prog 293 #[JH g,.int .i64 p,.int .i64 4,.int .u8 v] w fun e w'=>e=.returned (JH ({ g with ix:=256*v+g.ix%256 }))∧Below w.heap.size w w' :=
 QCc g _ p 4 v _ 8 g.ix (QGQ hF) (fun b w=>QA8 b w) rfl rfl hx hv (fun _ _=>by kernel_rfl) w
theorem QQ9 (g:Rg)(p v:Int)(hF:Qh p=349)(hx:Wd16 g.iy)(hv:B8 v)(w:World) :
 Calls Tryz.prog 293 #[JH g,.int .i64 p,.int .i64 4,.int .u8 v] w fun e w'=>e=.returned (JH ({ g with iy:=256*v+g.iy%256 }))∧Below w.heap.size w w' :=
 QCc g _ p 4 v _ 9 g.iy (QGQ hF) (fun b w=>QAp b w) rfl rfl hx hv (fun _ _=>by kernel_rfl) w
theorem QP2 (g:Rg)(p v:Int)(hF:Qh p=350)(hx:Wd16 g.hl)(hv:B8 v)(w:World) :
 Calls Tryz.prog 293 #[JH g,.int .i64 p,.int .i64 4,.int .u8 v] w fun e w'=>e=.returned (JH ({ g with hl:=256*v+g.hl%256 }))∧Below w.heap.size w w' :=
 QCc g _ p 4 v _ 3 g.hl (QGQ hF) (fun b w=>QA7 b w) rfl rfl hx hv (fun _ _=>by kernel_rfl) w
theorem QPy (g:Rg)(p v:Int)(hF:Qh p=348)(hx:Wd16 g.ix)(hv:B8 v)(w:World) :
 Calls Tryz.prog 293 #[JH g,.int .i64 p,.int .i64 5,.int .u8 v] w fun e w'=>e=.returned (JH ({ g with ix:=256*(g.ix / 256)+v }))∧Below w.heap.size w w' :=
 QD8 g _ p 5 v _ 8 g.ix (QF5 hF) (fun b w=>QA8 b w) rfl rfl hx hv (fun _ _=>by kernel_rfl) w
theorem QP6 (g:Rg)(p v:Int)(hF:Qh p=349)(hx:Wd16 g.iy)(hv:B8 v)(w:World) :
 Calls Tryz.prog 293 #[JH g,.int .i64 p,.int .i64 5,.int .u8 v] w fun e w'=>e=.returned (JH ({ g with iy:=256*(g.iy / 256)+v }))∧Below w.heap.size w w' :=
 QD8 g _ p 5 v _ 9 g.iy (QF5 hF) (fun b w=>QAp b w) rfl rfl hx hv (fun _ _=>by kernel_rfl) w
theorem QQT (g:Rg)(p v:Int)(hF:Qh p=350)(hx:Wd16 g.hl)(hv:B8 v)(w:World) :
 Calls Tryz.prog 293 #[JH g,.int .i64 p,.int .i64 5,.int .u8 v] w fun e w'=>e=.returned (JH ({ g with hl:=256*(g.hl / 256)+v }))∧Below w.heap.size w w' :=
 QD8 g _ p 5 v _ 3 g.hl (QF5 hF) (fun b w=>QA7 b w) rfl rfl hx hv (fun _ _=>by kernel_rfl) w
theorem QRO (g:Rg)(p v:Int)(hx:Wd16 g.af)(hv:B8 v)(w:World) :
 Calls Tryz.prog 293 #[JH g,.int .i64 p,.int .i64 7,.int .u8 v] w fun e w'=>e=.returned (JH ({ g with af:=256*v+g.af%256 }))∧Below w.heap.size w w' :=
 QCc g _ p 7 v _ 0 g.af QRt (fun b w=>QKs b w) rfl rfl hx hv (fun _ _=>by kernel_rfl) w
theorem QSh (g:Rg)(p k v:Int)(hk:k < 0∨k=6∨7 < k)(w:World) :
 Calls Tryz.prog 293 #[JH g,.int .i64 p,.int .i64 k,.int .u8 v] w fun e w'=>e=.returned (JH (g))∧Below w.heap.size w w':=by
 obtain⟨af,bc,de,hl,af2,bc2,de2,hl2,ix,iy,sp,pc,wz,i,r,iff1,iff2,halted,late,mode⟩:=g
 have kh:=Lib.hid (fun w=>jN p w)
 have hk:=Lib.hid hk
 obtain⟨cs,hcs⟩:∃ cs,cs=(#[.int .u16 af,.int .u16 bc,.int .u16 de,.int .u16 hl,.int .u16 af2,.int .u16 bc2,.int .u16 de2,.int .u16 hl2,.int .u16 ix,.int .u16 iy,.int .u16 sp,.int .u16 pc,.int .u16 wz,.int .u8 i,.int .u8 r,.bool iff1,.bool iff2,.bool halted,.bool late,.int .i64 mode]:Array Value):=⟨_,rfl⟩
 have HE:=Lib.hid hcs
 show Calls _ _ #[.agg (#[.int .u16 af,.int .u16 bc,.int .u16 de,.int .u16 hl,.int .u16 af2,.int .u16 bc2,.int .u16 de2,.int .u16 hl2,.int .u16 ix,.int .u16 iy,.int .u16 sp,.int .u16 pc,.int .u16 wz,.int .u8 i,.int .u8 r,.bool iff1,.bool iff2,.bool halted,.bool late,.int .i64 mode]:Array Value),.int .i64 p,.int .i64 k,.int .u8 v] _ _
 rw[←hcs]
 clear hcs
 go_enter Tryz.func293,Tryz.ntmps293
 go_upto_region 1 with (fail)
 have rA:=(Row.new w 24 cs).alloc (.cells zL 24)
 have rZ:=Row.new (w.alloc (.cells cs 24)) 24 zL
 rw[show (w.alloc (.cells cs 24)).heap.size=w.heap.size+1 by simp] at rZ
 have rZ:=Lib.hid rZ
 have HB:=Lib.hid (((Below.refl w.heap.size w).alloc (Nat.le_refl _) (.cells cs 24)).alloc (by simp) (.cells zL 24))
 have HW:=Lib.hid (show ((w.alloc (.cells cs 24)).alloc (.cells zL 24)).heap.size=w.heap.size+2 by simp)
 generalize (w.alloc (.cells cs 24)).alloc (.cells zL 24)=W0 at *
 rw[HE.out] at rA
 have rA:=Lib.hid rA
 have hltA:=rA.out.lt
 have hltZ:=rZ.out.lt
 go_wp2_with fail
 refine (kh.out _).mono ?_
 rintro e w2 ⟨rfl,rfl⟩
 have hlk:=QNW (p:=p) hk.out (World.alloc_heap_new W0 (.map (Jg p) 7))
 have qA:=Lib.hid (rA.out.alloc (.map (Jg p) 7))
 have qZ:=Lib.hid (rZ.out.alloc (.map (Jg p) 7))
 have HB':=Lib.hid (HB.out.alloc HB.out.size (.map (Jg p) 7))
 have HW':=Lib.hid (show (W0.alloc (.map (Jg p) 7)).heap.size=w.heap.size+3 by rw[World.size_alloc,HW.out])
 clear HB HW rA rZ
 have HB:=HB'
 have HW:=HW'
 have rA:=qA
 have rZ:=qZ
 clear HB' HW' qA qZ
 generalize W0.alloc (.map (Jg p) 7)=W1 at *
 generalize W0.heap.size=M at *
 go_upto_region 2 with (fail)
 have rH:=Row.new W1 218 (#[.nilFunc,.bool false]:Array Value)
 rw[HW.out] at rH
 rw[HW.out]
 have rH:=Lib.hid rH
 have qA:=Lib.hid (rA.out.alloc (.cells (#[.nilFunc,.bool false]:Array Value) 218))
 have qZ:=Lib.hid (rZ.out.alloc (.cells (#[.nilFunc,.bool false]:Array Value) 218))
 have HB':=Lib.hid (HB.out.alloc HB.out.size (.cells (#[.nilFunc,.bool false]:Array Value) 218))
 have HW':=Lib.hid (show (W1.alloc (.cells (#[.nilFunc,.bool false]:Array Value) 218)).heap.size=w.heap.size+4 by rw[World.size_alloc,HW.out])
 clear HB HW rA rZ
 have HB:=HB'
 have HW:=HW'
 have rA:=qA
 have rZ:=qZ
 clear HB' HW' qA qZ
 generalize W1.alloc (.cells (#[.nilFunc,.bool false]:Array Value) 218)=W2 at *
 go_upto_region 3 with (fail)
 obtain⟨ds,hds⟩:∃ ds,ds=(#[.int .u16 af,.int .u16 bc,.int .u16 de,.int .u16 hl,.int .u16 af2,.int .u16 bc2,.int .u16 de2,.int .u16 hl2,.int .u16 ix,.int .u16 iy,.int .u16 sp,.int .u16 pc,.int .u16 wz,.int .u8 i,.int .u8 r,.bool iff1,.bool iff2,.bool halted,.bool late,.int .i64 mode]:Array Value):=⟨_,rfl⟩
 have i24:Hid ((Tryz.prog.info? 24).map (·.size)=some ds.size):=Lib.hid (by rw[hds];exact ZF)
 have one:Hid (ds.toList.all (·.oneCell')=true):=Lib.hid (by rw[hds];rfl)
 have hsz:Hid (ds.size=20):=Lib.hid (by rw[hds];rfl)
 have HD:=Lib.hid hds
 have hR:=rA.out
 rw[←hds] at hR
 clear hds
 apply wp_region_lit
 refine wpList_load_row rfl 24 _ rfl _ _ _ rfl hR _ Tryz.underlying24 rfl i24.out ?_
 refine wpList_store_row rfl 24 _ _ rfl (w.heap.size+1) _ _ ds rfl rfl rZ.out (by rw[hsz.out];exact Eq.refl 20) i24.out one.out ?_
 have rE:=rZ.out.setAll (vs:=ds) (by rw[hsz.out];exact Eq.refl 20)
 have HE9:=Lib.hid (Below.setCellsAll HB.out (b:=w.heap.size+1) (Nat.le_add_right _ _) ds.toList 0)
 generalize W2.setCells (w.heap.size+1) 0 ds.toList=W9 at *
 apply wpList_nil
 rename_i hret
 refine hret _ _ (wp_ret ?_)
 try simp only[Exit.inBlock,Exit.then]
 refine bodyPost_ret (Qk rfl rfl rE _ Tryz.underlying24 rfl i24.out) rfl ?_
 exact⟨(congrArg (fun q=>Ending.returned (Value.agg q)) HD.out).trans rfl,HE9.out⟩
theorem QQx (g:Rg)(hg:RgB g)(p k v:Int)(hv:B8 v)(w:World) :
 Calls Tryz.prog 293 #[JH g,.int .i64 p,.int .i64 k,.int .u8 v] w fun e w'=>e=.returned (JH (QCF g p k v))∧Below w.heap.size w w':=by
 by_cases hn:k < 0∨k=6∨7 < k
 · rw[QKv g p k v hn]
   exact QSh g p k v hn w
 obtain rfl|rfl|rfl|rfl|rfl|rfl|rfl:k=0∨k=1∨k=2∨k=3∨k=4∨k=5∨k=7:=by omega
 · exact QRH g p v hg.bc hv w
 · exact QQz g p v hg.bc hv w
 · exact QQb g p v hg.de hv w
 · exact QPp g p v hg.de hv w
 · show Calls _ _ _ _ fun e w'=>e=.returned (JH (J8 g p 2 (256*v+Jk g p 2%256)))∧_
   rw[zp,QA2]
   by_cases h3:p=3
   · rw[if_pos h3,if_pos h3]
     exact QQi g p v (qG h3) hg.ix hv w
   by_cases h4:p=4
   · rw[if_neg h3,if_pos h4,if_neg h3,if_pos h4]
     exact QQ9 g p v (qI h3 h4) hg.iy hv w
   · rw[if_neg h3,if_neg h4,if_neg h3,if_neg h4]
     exact QP2 g p v (qB h3 h4) hg.hl hv w
 · show Calls _ _ _ _ fun e w'=>e=.returned (JH (J8 g p 2 (256*(Jk g p 2 / 256)+v)))∧_
   rw[zp,QA2]
   by_cases h3:p=3
   · rw[if_pos h3,if_pos h3]
     exact QPy g p v (qG h3) hg.ix hv w
   by_cases h4:p=4
   · rw[if_neg h3,if_pos h4,if_neg h3,if_pos h4]
     exact QP6 g p v (qI h3 h4) hg.iy hv w
   · rw[if_neg h3,if_neg h4,if_neg h3,if_neg h4]
     exact QQT g p v (qB h3 h4) hg.hl hv w
 · exact QRO g p v hg.af hv w
theorem QHD:∀ b0 b1 b2 b3 b4 b5 b7:Bool,QZ [bits .xor .u8 (mkM b0 b1 b2 b3 b4 b5 false b7) 17,2] 2=mkM b0 b1 b2 (!b3) b4 b5 true (!b7):=by decide +kernel
theorem QIv (a b:Int)(c:Bool):XJ a (255-b) (!c)=QQ a b c:=by
 unfold XJ QQ one
 cases c<;>simp<;>omega
theorem QPE (a b:Int)(c:Bool)(ha:B8 a)(hb:B8 b):QZ [bits .xor .u8 (XI a (255-b) (!c)) 17,2] 2=QE a b c:=by
 obtain⟨a0,a1⟩:=ha
 obtain⟨b0,b1⟩:=hb
 unfold XI QE
 rw[QIv,QHD]
 have key:=Qq c
 have e:one (!c)=1-one c:=by cases c<;>rfl
 rw[e]
 have n4:(!decide (15 < a%16+(255-b)%16+(1-one c)))=decide (a%16-b%16-one c < 0):=by
  rw[Bool.eq_iff_iff];simp;omega
 have n8:(!decide (255 < a+(255-b)+(1-one c)))=decide (a-b-one c < 0):=by
  rw[Bool.eq_iff_iff];simp;omega
 have n7:QAO (JR a+JR (255-b)+(1-one c))=QAO (JR a-JR b-one c):=by
  congr 1
  unfold JR
  split<;>split<;>split<;>omega
 rw[n4,n8,n7]
theorem QPW:∀ x:Fin 256,bits .xor .u8 IntKind.u8.max (x.val:Int)=255-(x.val:Int):=by decide +kernel
theorem not8 (b:Int)(hb:B8 b):bits .xor .u8 IntKind.u8.max b=255-b :=
 QB (P:=fun b=>bits .xor .u8 IntKind.u8.max b=255-b) QPW b hb.1 hb.2
theorem qn (a b:Int)(c:Bool)(ha:B8 a)(hb:B8 b)(w:World) :
 Calls Tryz.prog 269 #[.int .u8 a,.int .u8 b,.bool c] w fun e w'=>e=.returned (two (QQ a b c) (QE a b c))∧Below w.heap.size w w':=by
 have hm:=Lib.hid (QPE a b c ha hb)
 have hr:=Lib.hid (QIv a b c)
 have ha:=Lib.hid ha
 have hn:Hid (B8 (255-b)):=Lib.hid ⟨by have:=hb.2;omega,by have:=hb.1;omega⟩
 have b0:=hb.1
 have b1:=hb.2
 have hx:=not8 b hb
 clear hb
 go_enter Tryz.func269,Tryz.ntmps269
 go_wp2_with fail
 refine (QAi _ _ _ ha.out hn.out _).mono ?_
 rintro e w' ⟨rfl,hb⟩
 have hsz:=hb.size
 go_wp2_with fail
 refine (QJX _ 0 2 2 [bits .xor .u8 (XI a (255-b) (!c)) 17,2] _ (by simp) (by omega) (QOw _ _ _ _ _)).mono ?_
 rintro e w' ⟨rfl,rfl⟩
 go_wp2_with fail
 go_ret2
 exact⟨by rw[hm.out,hr.out];rfl,(by repeat (first|exact Below.refl _ _|assumption|refine JZ ?_ (by assumption)|refine Below.drew ?_|refine Below.alloc ?_ (by first|(simp;done)|(simp;omega)|omega) _|refine Below.setCell ?_ (by first|(simp;done)|(simp;omega)|omega) _))⟩
theorem QNS (a b:Int):Xc (QE a b false) b 40=QDa a b:=by
 unfold Xc QE QDa
 generalize isM (QQ a b false) 7=x0
 generalize (QQ a b false==0)=x1
 generalize isM (QQ a b false) 5=x2
 generalize decide (a%16-b%16-one false < 0)=x3
 generalize isM (QQ a b false) 3=x4
 generalize QAO (JR a-JR b-one false)=x5
 generalize decide (a-b-one false < 0)=x7
 obtain⟨h0,h1,h2,h3,h4,h5,h6,h7⟩:=Xv x0 x1 x2 x3 x4 x5 true x7
 obtain⟨z0,z1,z2,z3,z4,z5,z6,z7⟩:isM 40 0=false∧isM 40 1=false∧isM 40 2=false∧isM 40 3=true∧isM 40 4=false∧isM 40 5=true∧isM 40 6=false∧isM 40 7=false:=by decide +kernel
 rw[h0,h1,h2,h3,h4,h5,h6,h7,z0,z1,z2,z3,z4,z5,z6,z7]
 rfl
theorem QRe (x0 x1 x2 x3 x4 x5 x6 x7:Bool)(f:Int):Xc (mkM x0 x1 x2 x3 x4 x5 x6 x7) f 1=mkM x0 x1 x2 x3 x4 x5 x6 (isM f 0):=by
 unfold Xc
 obtain⟨h0,h1,h2,h3,h4,h5,h6,h7⟩:=Xv x0 x1 x2 x3 x4 x5 x6 x7
 obtain⟨z0,z1,z2,z3,z4,z5,z6,z7⟩:isM 1 0=true∧isM 1 1=false∧isM 1 2=false∧isM 1 3=false∧isM 1 4=false∧isM 1 5=false∧isM 1 6=false∧isM 1 7=false:=by decide +kernel
 rw[h0,h1,h2,h3,h4,h5,h6,h7,z0,z1,z2,z3,z4,z5,z6,z7]
 rfl
theorem QQP (a b:Int)(ha:B8 a)(hb:B8 b)(w:World) :
 Calls Tryz.prog 298 #[.int .u8 a,.int .u8 b] w fun e w'=>e=.returned (.int .u8 (QDa a b))∧Below w.heap.size w w':=by
 have hm:=Lib.hid (QNS a b)
 have hf:=Lib.hid (J9 a b false)
 have ha:=Lib.hid ha
 have hB:=Lib.hid hb
 clear hb
 go_enter Tryz.func298,Tryz.ntmps298
 go_wp2_with (first
  | (go_at_call 269;refine (qn _ _ _ ha.out hB.out _).mono ?_;rintro e w' ⟨rfl,hb⟩;have hsz:=hb.size)
  | (go_at_call 257;refine (X1 _ _ _ hf.out.1 hf.out.2 hB.out.1 hB.out.2 (by omega) (by omega) _).mono ?_;rintro e w' ⟨rfl,rfl⟩))
 go_ret
 exact⟨by rw[hm.out];rfl,(by repeat (first|exact Below.refl _ _|assumption|refine JZ ?_ (by assumption)|refine Below.drew ?_|refine Below.alloc ?_ (by first|(simp;done)|(simp;omega)|omega) _|refine Below.setCell ?_ (by first|(simp;done)|(simp;omega)|omega) _))⟩
theorem QK7 (a f:Int)(ha:B8 a)(hf:B8 f)(w:World) :
 Calls Tryz.prog 220 #[.int .u8 a,.int .u8 f] w fun e w'=>e=.returned (two (XJ a 1 false) (QDc a f))∧Below w.heap.size w w':=by
 have hm:Hid (Xc (XI a 1 false) f 1=QDc a f):=Lib.hid (QRe _ _ _ _ _ _ _ _ f)
 have hg:=Lib.hid (Qw a 1 false)
 have ha:=Lib.hid ha
 have hf:=Lib.hid hf
 go_enter Tryz.func220,Tryz.ntmps220
 go_wp2_with (first
  | (go_at_call 287;refine (QAi _ _ _ ha.out ⟨by omega,by omega⟩ _).mono ?_;rintro e w' ⟨rfl,hb⟩;have hsz:=hb.size)
  | (go_at_call 257;refine (X1 _ _ _ hg.out.1 hg.out.2 hf.out.1 hf.out.2 (by omega) (by omega) _).mono ?_;rintro e w' ⟨rfl,rfl⟩))
 go_ret2
 exact⟨by rw[hm.out];rfl,(by repeat (first|exact Below.refl _ _|assumption|refine JZ ?_ (by assumption)|refine Below.drew ?_|refine Below.alloc ?_ (by first|(simp;done)|(simp;omega)|omega) _|refine Below.setCell ?_ (by first|(simp;done)|(simp;omega)|omega) _))⟩
theorem QK4 (a f:Int)(ha:B8 a)(hf:B8 f)(w:World) :
 Calls Tryz.prog 221 #[.int .u8 a,.int .u8 f] w fun e w'=>e=.returned (two (QQ a 1 false) (QDW a f))∧Below w.heap.size w w':=by
 have hm:Hid (Xc (QE a 1 false) f 1=QDW a f):=Lib.hid (QRe _ _ _ _ _ _ _ _ f)
 have hg:=Lib.hid (J9 a 1 false)
 have ha:=Lib.hid ha
 have hf:=Lib.hid hf
 go_enter Tryz.func221,Tryz.ntmps221
 go_wp2_with (first
  | (go_at_call 269;refine (qn _ _ _ ha.out ⟨by omega,by omega⟩ _).mono ?_;rintro e w' ⟨rfl,hb⟩;have hsz:=hb.size)
  | (go_at_call 257;refine (X1 _ _ _ hg.out.1 hg.out.2 hf.out.1 hf.out.2 (by omega) (by omega) _).mono ?_;rintro e w' ⟨rfl,rfl⟩))
 go_ret2
 exact⟨by rw[hm.out];rfl,(by repeat (first|exact Below.refl _ _|assumption|refine JZ ?_ (by assumption)|refine Below.drew ?_|refine Below.alloc ?_ (by first|(simp;done)|(simp;omega)|omega) _|refine Below.setCell ?_ (by first|(simp;done)|(simp;omega)|omega) _))⟩
theorem QQ2 (a:Int)(ha:B8 a)(w:World) :
 Calls Tryz.prog 200 #[.int .u8 a] w fun e w'=>e=.returned (two (QQ 0 a false) (QE 0 a false))∧Below w.heap.size w w':=by
 have ha:=Lib.hid ha
 go_enter Tryz.func200,Tryz.ntmps200
 go_wp2_with (first
  | (go_at_call 269;refine (qn _ _ _ ⟨by omega,by omega⟩ ha.out _).mono ?_;rintro e w' ⟨rfl,hb⟩;have hsz:=hb.size))
 go_ret2
 exact⟨rfl,(by repeat (first|exact Below.refl _ _|assumption|refine JZ ?_ (by assumption)|refine Below.drew ?_|refine Below.alloc ?_ (by first|(simp;done)|(simp;omega)|omega) _|refine Below.setCell ?_ (by first|(simp;done)|(simp;omega)|omega) _))⟩
end Go.Proofs.YtkenebbjodcbcaaGreatDoor
