/- Contracts and facts that the claim's proof wants (several texts in one). -/
import Derived.ProofKit
import Derived.OpenShut
import Derived.ChangeArms
import Derived.Deep.Fields
import Derived.ChangeSlices
import Derived.Lib.SmallJoins
import Derived.Deep.Grids
import Derived.Deep.Slices
import Derived.LaidLaws
import Derived.FnData
import Derived.Test.YtkenebbjodcbcaaGreatDoorCoH29
namespace Go.Proofs.YtkenebbjodcbcaaGreatDoor
open Go.RowKit
set_option linter.unusedVariables false
set_option linter.unusedSimpArgs false
set_option maxRecDepth 20000
set_option maxHeartbeats 20000000
theorem QHq (c:CoT)(A:Option Addr)(cap:Nat)(l:LnT)(b:Int)(hb0:0≤b)(hb1:b≤255)(hg:RgB c.r)(hcb:B8 c.b)(w:World)(hl:c.got.length≤cap)(hm:cap≤maxLen)(h8:Bytes8 c.got)(hin:BytesIn w w.heap.size A c.got)(hn:A=none→cap=0)(hS:Samps w)(hM:Masks w)(hD:Digits w)(hC:Courses w)(hO:QBl w) :
 Calls Tryz.prog 4 #[coV c (.slice A c.got.length cap),lnV l,.int .u8 b] w fun e w'=>e=.returned (.bool true)∧Below w.heap.size w w':=by
 have ht:Tabs w w.heap.size:=(NextTabs.mk hM hC hD hO).tabs
 have hA:jJ:=QKj ht
 have hc:OkC c:=⟨hg,h8,hcb⟩
 have hgi:GotIn w w.heap.size (.slice A c.got.length cap) c.got:=⟨A,cap,rfl,hl,hin,hn⟩
 go_enter Tryz.func4,Tryz.ntmps4
 refine JB<|qQ [] (Many.begin w) fun w1 k1=>coR<|qC (QAE hA w1 (ht.below k1.touch.below) (hS.below k1.touch.below)) k1 fun w2 k2=>qE [] k2 fun w3 k3=>coS<|qQ [] k3 fun w4 k4=>coF<|JC<|eoT<|coS<|qQ [0] k4 fun w5 k5=>coI (decide ((c.got.length:Int) > 30)) (fun h1=>qQ [] k5 fun w6 k6=>JF<|Jp<|Jj (.bool true) ⟨rfl,k6.touch.below⟩) fun h1=>JC<|eoT ?_
 have h30:c.got.length≤30:=by
  have:¬(c.got.length:Int) > 30:=by simpa using h1
  omega
 obtain⟨D,hDd⟩:∃ D,D=Xr c l b:=⟨_,rfl⟩
 obtain⟨x,hx⟩:∃ x,x=ju c l:=⟨_,rfl⟩
 obtain⟨q,hq⟩:∃ q,q=Xh c l:=⟨_,rfl⟩
 obtain⟨E,hE⟩:∃ E,E=QF4 c l b:=⟨_,rfl⟩
 have hDo:OkC D:=by rw[hDd];exact hc.tick hA l ⟨hb0,hb1⟩
 have KT:=fun (W:World) (h:Below w.heap.size w W)=>jl hA c hc l b ⟨hb0,hb1⟩ (.slice A c.got.length cap) (by omega) W (hgi.on h) (ht.below h) (hS.below h)
 have KR:=fun (W:World) (h:Below w.heap.size w W)=>QAG hA c hc l b ⟨hb0,hb1⟩ (.slice A c.got.length cap) (by omega) W (hgi.on h)
 have KA:=fun (W:World) (h:Below w.heap.size w W)=>QAs c A c.got.length cap l W (hS.below h)
 have KB:=fun (W:World)=>QDN c A c.got.length cap l W
 have KE:=fun (W:World) (h:Below w.heap.size w W)=>QF3 hA c hc l b ⟨hb0,hb1⟩ (.slice A c.got.length cap) (by omega) W (hgi.on h) (ht.below h) (hS.below h)
 have KF:=fun (W:World) (h:Below w.heap.size w W)=>QDO hA c hc l b ⟨hb0,hb1⟩ (.slice A c.got.length cap) (by omega) W (hgi.on h)
 rw[←hDd] at KT KR
 rw[←hx,←hq] at KA KB
 rw[←hE] at KE KF
 refine coR<|qR 2 [0,1] k5 fun w6 k6=>qC (KA w6 k6.touch.below) k6 fun w7 k7=>qE [2] k7 fun w8 k8=>?_
 have r0:Row w8 w.heap.size 33 (coC c (.slice A c.got.length cap)):=k8.row 0 (coC c (.slice A c.got.length cap)).toList (by kernel_rfl)
 have r1:Row w8 (w.heap.size+1) 40 (lnC l):=k8.row 1 (lnC l).toList (by kernel_rfl)
 refine QRs [(some 26,.val (coV c (.slice A c.got.length cap))),(some 27,.call (coV c (.slice A c.got.length cap))),(some 28,.val (lnV l)),(some 29,.call (lnV l)),(some 30,.call (.tuple #[cyV x,.bool q])),(some 25,.val (.tuple #[cyV x,.bool q])),(some 31,.val (cyV x)),(some 32,.val (.bool q)),(some 10,.box 29 (cyC JL) (some (9,cyC x)) none),(none,.put 8),(some 11,.val (.bool q))] ⟨fun p l a w I hd=>jC rfl (by kernel_rfl) (QLB (r0.below I.below r0.lt)),fun p l a w I hd=>⟨_,_,(by kernel_rfl),Zt c A c.got.length cap w⟩,fun p l a w I hd=>jC rfl (by kernel_rfl) (QLB (r1.below I.below r1.lt)),fun p _ a w I hd=>⟨_,_,(by kernel_rfl),Zq l w⟩,fun p l a w I hd=>⟨_,_,(by kernel_rfl),KB w⟩,fun p l a w I hd=>XZ (.inl rfl) (by kernel_rfl) w,fun p l a w I hd=>XB (vs:=#[cyV x,.bool q]) rfl (by kernel_rfl) (by kernel_rfl) w,fun p l a w I hd=>XB (vs:=#[cyV x,.bool q]) rfl (by kernel_rfl) (by kernel_rfl) w,⟨fun k vs e=>(by cases e;rfl),fun p l a w I hd=>Qg rfl (jc w)⟩,fun p l a w I hd d t z s vs hj hr=>(by cases hj;exact Qy rfl (by kernel_rfl) (by kernel_rfl) (QBY hr)),fun p l a w I hd=>XZ (.inr rfl) (by kernel_rfl) w,trivial⟩ fun p wb hE=>?_
 have hCb:=hE.2.1 8 _ _ _ _ _ rfl
 have kb:=k8.fresh hE.1 hCb.2 hCb.1
 have kb:=kb.take 4 [⟨w.heap.size,33,(coC c (.slice A c.got.length cap)).toList.map some⟩,⟨w.heap.size+1,40,(lnC l).toList.map some⟩,⟨w7.heap.size,29,(cyC x).toList.map some⟩,⟨p 8,29,(cyC x).toList.map some⟩]
 clear k1 k2 k3 k4 k5 k6 k7 k8 r0 r1 hE hCb
 refine qP 32 kb fun wc kc=>qD 0 [0] kc<|qD 1 [1] kc<|qM [2] kc<|qD 0 [5] kc<|qD 1 [7] kc<|qM [9] kc<|jn 3 (soC (KT wc kc.touch.below) fun e wd ⟨v',he,hgo,_,hb⟩=>⟨_,he,kc.below hb,?_⟩)
 have kd:=kc.below hb
 have hgo':=hgo
 obtain⟨A1,cap1,rfl,-⟩:=hgo'
 refine jn 4 (soC (Zt D A1 D.got.length cap1 wd) fun e we ⟨he,hb4⟩=>⟨_,he,kd.below hb4,?_⟩)
 have ke:=kd.below hb4
 refine jn 6 (soC (Zt c A c.got.length cap we) fun e wf ⟨he,hb6⟩=>⟨_,he,ke.below hb6,?_⟩)
 have kf:=ke.below hb6
 refine jn 8 (soC (Zq l wf) fun e wg ⟨he,hb8⟩=>⟨_,he,kf.below hb8,?_⟩)
 have kg:=kf.below hb8
 refine jn 10 (soC (KR wg kg.touch.below) fun e wh ⟨v2,he,hgo2,_,hbA⟩=>⟨_,he,kg.below hbA,?_⟩)
 have kh:=kg.below hbA
 have hgo1:=(((hgo.on hb4).on hb6).on hb8).on hbA
 refine qDc 11 (QBZ D hDo.got (.slice A1 D.got.length cap1) v2 wh hgo1 hgo2) kh fun wi ki=>qM [12] ki<|qD 2 [13] ki<|qD 3 [14] ki<|qT 15 ki (fun w' _=>ZD (QCI _ _ _ _ _ _) (QSD x _))<|qM [16,17,18,19] ki<|qT 20 ki (fun w' _=>ZD (QJb _ _ _ _ _ _) (QPV q _))<|qM [21,22] ki<|qD 0 [23] ki<|qD 1 [24] ki<|qM [25] ki<|qD 0 [27] ki<|qD 1 [29] ki<|qM [31] ki<|qDc 26 (KE wi ki.touch.below) ki fun wj kj=>qDc 28 (Zt c A c.got.length cap wj) kj fun wk kk=>qDc 30 (Zq l wk) kk fun wl kl=>poE<|qC (KF wl kl.touch.below) kl fun wm km=>kBj 66 (.bool E) (.bool E) (.bool true) (QJb _ _ _ _ _) (QPV E)<|qE [] km fun wn kn=>JF<|Jj (.bool true) ⟨rfl,kn.touch.below⟩
section
open Go.ChangeShapes Go.WideShapes Go.ChangeAt Go.RowKit Go.Deep
theorem QSY {α:Type}(l:List α)(h:l.length=20):∃ a0 a1 a2 a3 a4 a5 a6 a7 a8 a9 a10 a11 a12 a13 a14 a15 a16 a17 a18 a19,l=[a0,a1,a2,a3,a4,a5,a6,a7,a8,a9,a10,a11,a12,a13,a14,a15,a16,a17,a18,a19]:=by
 match l,h with
 | [a0,a1,a2,a3,a4,a5,a6,a7,a8,a9,a10,a11,a12,a13,a14,a15,a16,a17,a18,a19],_=>exact⟨a0,a1,a2,a3,a4,a5,a6,a7,a8,a9,a10,a11,a12,a13,a14,a15,a16,a17,a18,a19,rfl⟩
theorem QD5 {H:Type} {enc:TypeId×Value→H} {P:Program} {w:World} {base:Nat} {sp:Nat→Bool} {held:Bool} {t:TypeId} {f0 f1 f2 f3 f4 f5 f6 f7 f8 f9 f10 f11 f12 f13 f14 f15 f16 f17 f18 f19:Field} {l:List Value} {fuel:Nat} {x:DataW H×List MemPlace}
 (hs:P.underlying t=some (.struct #[f0,f1,f2,f3,f4,f5,f6,f7,f8,f9,f10,f11,f12,f13,f14,f15,f16,f17,f18,f19]))(hone:oneCellFields P #[f0,f1,f2,f3,f4,f5,f6,f7,f8,f9,f10,f11,f12,f13,f14,f15,f16,f17,f18,f19]=true)(hC:P.cellsOf t=20)
 (u0:P.underlying f0.type=some (.int .u16))(u1:P.underlying f1.type=some (.int .u16))(u2:P.underlying f2.type=some (.int .u16))(u3:P.underlying f3.type=some (.int .u16))(u4:P.underlying f4.type=some (.int .u16))(u5:P.underlying f5.type=some (.int .u16))(u6:P.underlying f6.type=some (.int .u16))(u7:P.underlying f7.type=some (.int .u16))(u8:P.underlying f8.type=some (.int .u16))(u9:P.underlying f9.type=some (.int .u16))(u10:P.underlying f10.type=some (.int .u16))(u11:P.underlying f11.type=some (.int .u16))(u12:P.underlying f12.type=some (.int .u16))(u13:P.underlying f13.type=some (.int .u8))(u14:P.underlying f14.type=some (.int .u8))(u15:P.underlying f15.type=some .bool)(u16:P.underlying f16.type=some .bool)(u17:P.underlying f17.type=some .bool)(u18:P.underlying f18.type=some .bool)(u19:P.underlying f19.type=some (.int .i64))
 (hf:DataW.trod enc P w base sp held fuel t l=some x):∃ g:Rg,l=(JJ g).toList∧RgB g:=by
 obtain⟨xs,n,-,-,hsz,hlen,hg⟩:=DataW.trod_struct hs hf
 rw[hC] at hsz
 have hlen:xs.length=20:=hlen
 have cell:∀ (k:Nat) (f:Field),#[f0,f1,f2,f3,f4,f5,f6,f7,f8,f9,f10,f11,f12,f13,f14,f15,f16,f17,f18,f19][k]? = some f→∃ u z,l[k]? = some u∧DataW.trod enc P w base sp held n f.type [u]=some z:=by
  intro k f hk
  obtain⟨ho,h1⟩:=hone_of hone k f hk
  have hkl:k < 20:=(Array.getElem?_eq_some_iff.1 hk).1
  have h2:=hg k f hk
  rw[ho,h1] at h2
  have e1:(l.drop k).take 1=[l[k]'(by omega)]:=by
   rw[List.drop_eq_getElem_cons (by omega)]
   rfl
  rw[e1,List.getElem?_eq_getElem (by omega)] at h2
  exact⟨_,_,List.getElem?_eq_getElem (by omega),h2⟩
 have one:∀ (k:Nat) (f:Field) (K:IntKind),#[f0,f1,f2,f3,f4,f5,f6,f7,f8,f9,f10,f11,f12,f13,f14,f15,f16,f17,f18,f19][k]? = some f→P.underlying f.type=some (.int K)→∃ z,l[k]? = some (.int K z)∧(Lit.int K z).wf=true:=by
  intro k f K hk hu
  obtain⟨u,z,hc,h2⟩:=cell k f hk
  obtain⟨z,e2,-,hw⟩:=DataW.trod_int hu h2
  injection e2 with e3
  exact⟨z,by rw[hc,e3],hw⟩
 have QKU:∀ (k:Nat) (f:Field),#[f0,f1,f2,f3,f4,f5,f6,f7,f8,f9,f10,f11,f12,f13,f14,f15,f16,f17,f18,f19][k]? = some f→P.underlying f.type=some .bool→∃ z,l[k]? = some (.bool z):=by
  intro k f hk hu
  obtain⟨u,z,hc,h2⟩:=cell k f hk
  obtain⟨z,e2,-⟩:=DataW.trod_bool hu h2
  injection e2 with e3
  exact⟨z,by rw[hc,e3]⟩
 clear hg hlen hf hone
 obtain⟨z0,e0,w0⟩:=one 0 f0 .u16 rfl u0
 have b0:=bounds_u16 w0
 obtain⟨z1,e1,w1⟩:=one 1 f1 .u16 rfl u1
 have b1:=bounds_u16 w1
 obtain⟨z2,e2,w2⟩:=one 2 f2 .u16 rfl u2
 have b2:=bounds_u16 w2
 obtain⟨z3,e3,w3⟩:=one 3 f3 .u16 rfl u3
 have b3:=bounds_u16 w3
 obtain⟨z4,e4,w4⟩:=one 4 f4 .u16 rfl u4
 have b4:=bounds_u16 w4
 obtain⟨z5,e5,w5⟩:=one 5 f5 .u16 rfl u5
 have b5:=bounds_u16 w5
 obtain⟨z6,e6,w6⟩:=one 6 f6 .u16 rfl u6
 have b6:=bounds_u16 w6
 obtain⟨z7,e7,w7⟩:=one 7 f7 .u16 rfl u7
 have b7:=bounds_u16 w7
 obtain⟨z8,e8,w8⟩:=one 8 f8 .u16 rfl u8
 have b8:=bounds_u16 w8
 obtain⟨z9,e9,w9⟩:=one 9 f9 .u16 rfl u9
 have b9:=bounds_u16 w9
 obtain⟨z10,e10,w10⟩:=one 10 f10 .u16 rfl u10
 have b10:=bounds_u16 w10
 obtain⟨z11,e11,w11⟩:=one 11 f11 .u16 rfl u11
 have b11:=bounds_u16 w11
 obtain⟨z12,e12,w12⟩:=one 12 f12 .u16 rfl u12
 have b12:=bounds_u16 w12
 obtain⟨z13,e13,w13⟩:=one 13 f13 .u8 rfl u13
 have b13:=bounds_u8 w13
 obtain⟨z14,e14,w14⟩:=one 14 f14 .u8 rfl u14
 have b14:=bounds_u8 w14
 obtain⟨z15,e15⟩:=QKU 15 f15 rfl u15
 obtain⟨z16,e16⟩:=QKU 16 f16 rfl u16
 obtain⟨z17,e17⟩:=QKU 17 f17 rfl u17
 obtain⟨z18,e18⟩:=QKU 18 f18 rfl u18
 obtain⟨z19,e19,w19⟩:=one 19 f19 .i64 rfl u19
 have b19:=bounds_i64 w19
 clear one QKU cell
 refine⟨⟨z0,z1,z2,z3,z4,z5,z6,z7,z8,z9,z10,z11,z12,z13,z14,z15,z16,z17,z18,z19⟩,?_,⟨b0,b1,b2,b3,b4,b5,b6,b7,b8,b9,b10,b11,b12,b13,b14,b19⟩⟩
 obtain⟨a0,a1,a2,a3,a4,a5,a6,a7,a8,a9,a10,a11,a12,a13,a14,a15,a16,a17,a18,a19,rfl⟩:=QSY l hsz
 simp only[List.getElem?_cons_zero,List.getElem?_cons_succ,Option.some.injEq] at e0 e1 e2 e3 e4 e5 e6 e7 e8 e9 e10 e11 e12 e13 e14 e15 e16 e17 e18 e19
 rw[e0,e1,e2,e3,e4,e5,e6,e7,e8,e9,e10,e11,e12,e13,e14,e15,e16,e17,e18,e19]
theorem QGE {H:Type} {enc:TypeId×Value→H} {P:Program} {w:World} {r:Reach} {b0 base:Nat} {sp:Nat→Bool} {held:Bool} {t:TypeId} {f0 f1 f2 f3 f4 f5 f6 f7 f8 f9 f10 f11 f12 f13 f14 f15 f16 f17 f18 f19:Field} {v:Value} {d:DataW H} {ps:List MemPlace}
 (hs:P.underlying t=some (.struct #[f0,f1,f2,f3,f4,f5,f6,f7,f8,f9,f10,f11,f12,f13,f14,f15,f16,f17,f18,f19]))(hone:oneCellFields P #[f0,f1,f2,f3,f4,f5,f6,f7,f8,f9,f10,f11,f12,f13,f14,f15,f16,f17,f18,f19]=true)(hC:P.cellsOf t=20)
 (u0:P.underlying f0.type=some (.int .u16))(u1:P.underlying f1.type=some (.int .u16))(u2:P.underlying f2.type=some (.int .u16))(u3:P.underlying f3.type=some (.int .u16))(u4:P.underlying f4.type=some (.int .u16))(u5:P.underlying f5.type=some (.int .u16))(u6:P.underlying f6.type=some (.int .u16))(u7:P.underlying f7.type=some (.int .u16))(u8:P.underlying f8.type=some (.int .u16))(u9:P.underlying f9.type=some (.int .u16))(u10:P.underlying f10.type=some (.int .u16))(u11:P.underlying f11.type=some (.int .u16))(u12:P.underlying f12.type=some (.int .u16))(u13:P.underlying f13.type=some (.int .u8))(u14:P.underlying f14.type=some (.int .u8))(u15:P.underlying f15.type=some .bool)(u16:P.underlying f16.type=some .bool)(u17:P.underlying f17.type=some .bool)(u18:P.underlying f18.type=some .bool)(u19:P.underlying f19.type=some (.int .i64))
 (hv:Value.okWide P w r b0 t v)(h:DataW.Trod enc P w base sp held t v d ps):∃ g:Rg,v=JH g∧RgB g:=by
 obtain⟨cs,rfl,hsz⟩:=okWide_struct hs hv
 obtain⟨fuel,hf⟩:=h
 obtain⟨g,h1,h2⟩:=QD5 hs hone hC u0 u1 u2 u3 u4 u5 u6 u7 u8 u9 u10 u11 u12 u13 u14 u15 u16 u17 u18 u19 hf
 refine⟨g,?_,h2⟩
 have e:cs.toList=(JJ g).toList:=h1
 show Value.agg cs=.agg (JJ g)
 rw[←Array.toArray_toList (xs:=cs),e]
end
section
open Go.ChangeShapes Go.WideShapes Go.ChangeAt Go.RowKit
theorem QC7 {H:Type} {enc:TypeId×Value→H} {P:Program} {w:World} {base:Nat} {sp:Nat→Bool} {held:Bool} {t e:TypeId} {u:Value} {fuel:Nat} {x:DataW H×List MemPlace}
 (ht:P.underlying t=some (.slice e))(he:P.underlying e=some (.int .u8))(hc:P.cellsOf e=1)(hf:DataW.trod enc P w base sp held fuel t [u]=some x) :
 ∃ (A:Option Addr) (cap:Nat) (xs:List Int),u=.slice A xs.length cap∧xs.length≤cap∧cap≤maxLen∧Bytes8 xs∧BytesIn w w.heap.size A xs∧(A=none→cap=0):=by
 rcases open_ints ht he hc hf with ⟨e1,-⟩|⟨ad,len',cap',zs,e1,hb,hle,hm,hz,-,hcell,hwf⟩
 · have e2:u=.slice none 0 0:=by simpa using e1
   refine⟨none,0,[],e2,Nat.le_refl _,Nat.zero_le _,fun x hx=>by simp at hx,BytesIn.nil _ _ _,fun _=>rfl⟩
 · have e2:u=.slice (some ad) len' cap':=by simpa using e1
   have hzl:len'≤zs.length:=by rw[hz];split<;>omega
   have htl:(zs.take len').length=len':=by rw[List.length_take];omega
   refine⟨some ad,cap',zs.take len',by rw[htl];exact e2,by omega,hm,fun x hx=>?_,fun j x hx=>?_,fun h=>by cases h⟩
   · have hw:=hwf x (List.mem_of_mem_take hx)
     have:=bounds_u8 hw
     exact⟨by omega,by omega⟩
   · rw[List.getElem?_take] at hx
     split at hx
     · rename_i hj
       have hj2:j < zs.length:=by omega
       have hce:=hcell j hj2
       rw[List.getD_eq_getElem?_getD,hx] at hce
       refine⟨ad,rfl,?_,hce⟩
       have:=World.block_lt_of_cell? _ _ hce
       rw[add_block] at this
       exact this
     · cases hx
theorem QFE {H:Type} {enc:TypeId×Value→H} {P:Program} {w:World} {r:Reach} {b0 base:Nat} {sp:Nat→Bool} {held:Bool} {t e:TypeId} {v:Value} {d:DataW H} {ps:List MemPlace}
 (ht:P.underlying t=some (.slice e))(he:P.underlying e=some (.int .u8))(hc:P.cellsOf e=1)(hv:Value.okWide P w r b0 t v)(h:DataW.Trod enc P w base sp held t v d ps) :
 ∃ (A:Option Addr) (cap:Nat) (xs:List Int),v=.slice A xs.length cap∧xs.length≤cap∧cap≤maxLen∧Bytes8 xs∧BytesIn w w.heap.size A xs∧(A=none→cap=0):=by
 obtain⟨a,len,cap,rfl⟩:=okWide_slice ht hv
 obtain⟨fuel,hf⟩:=h
 exact QC7 ht he hc hf
end
section
open Go.ChangeShapes Go.WideShapes Go.ChangeAt Go.RowKit Go.Deep
theorem QJ0 {H:Type} {enc:TypeId×Value→H} {P:Program} {w:World} {r:Reach} {b0 base:Nat} {held:Bool} {t e:TypeId} {v:Value} {d:DataW H} {ps:List MemPlace}
 (ht:P.underlying t=some (.slice e))(he:P.underlying e=some .bool)(hc:P.cellsOf e=1)(hv:Value.okWide P w r b0 t v)(h:DataW.Trod enc P w base (fun _=>true) held t v d ps) :
 ∃ (A:Option Addr) (cap:Nat) (xs:List Bool),v=.slice A xs.length cap∧xs.length≤cap∧cap≤maxLen∧ValsIn w w.heap.size A (blv xs)∧(A=none→cap=0):=by
 obtain⟨a,len,cap,rfl⟩:=okWide_slice ht hv
 obtain⟨fuel,hf⟩:=h
 rcases Go.Deep.open_bools ht he hc hf with ⟨e1,-⟩|⟨ad,len',cap',B,e1,hb,hle,hm,-,hcell⟩
 · have e2:Value.slice a len cap=.slice none 0 0:=by
    have h:[Value.slice a len cap]=[.slice none 0 0]:=e1
    injection h
   exact⟨none,0,[],e2,Nat.le_refl _,Nat.zero_le _,ValsIn.nil _ _ _,fun _=>rfl⟩
 · have e2:Value.slice a len cap=.slice (some ad) len' cap':=by
    have h:[Value.slice a len cap]=[.slice (some ad) len' cap']:=e1
    injection h
   refine⟨some ad,cap',(List.range len').map B,by rw[List.length_map,List.length_range];exact e2,by rw[List.length_map,List.length_range];exact hle,hm,fun j u hu=>?_,fun h=>by cases h⟩
   obtain⟨hj,rfl⟩:j < len'∧u=.bool (B j):=by
    rw[blv,List.getElem?_map,List.getElem?_map] at hu
    by_cases hj:j < len'
    · rw[List.getElem?_range hj] at hu
      injection hu with hu
      exact⟨hj,hu.symm⟩
    · rw[List.getElem?_eq_none (by simpa using hj)] at hu
      cases hu
   have hce:=hcell j (by omega)
   refine⟨ad,rfl,?_,hce⟩
   have:=World.block_lt_of_cell? _ _ hce
   rwa [add_block] at this
theorem QIU {H:Type} {enc:TypeId×Value→H} {P:Program} {w:World} {base:Nat} {sp:Nat→Bool} {held:Bool} {t:TypeId} {f0 f1 f2 f3:Field} {l:List Value} {fuel:Nat} {x:DataW H×List MemPlace}
 (hs:P.underlying t=some (.struct #[f0,f1,f2,f3]))(hone:oneCellFields P #[f0,f1,f2,f3]=true)(hC:P.cellsOf t=4)
 (u0:P.underlying f0.type=some (.int .i64))(u1:P.underlying f1.type=some (.int .u16))(u2:P.underlying f2.type=some (.int .u8))(u3:P.underlying f3.type=some (.int .i64))
 (hf:DataW.trod enc P w base sp held fuel t l=some x):∃ c:Cy,l=(cyC c).toList:=by
 obtain⟨xs,n,-,-,hsz,hlen,hg⟩:=DataW.trod_struct hs hf
 rw[hC] at hsz
 have hlen:xs.length=4:=hlen
 have one:∀ (k:Nat) (f:Field) (K:IntKind),#[f0,f1,f2,f3][k]? = some f→P.underlying f.type=some (.int K)→∃ z,l[k]? = some (.int K z):=by
  intro k f K hk hu
  obtain⟨ho,h1⟩:=hone_of hone k f hk
  have hkl:k < 4:=(Array.getElem?_eq_some_iff.1 hk).1
  have h2:=hg k f hk
  rw[ho,h1] at h2
  have e1:(l.drop k).take 1=[l[k]'(by omega)]:=by
   rw[List.drop_eq_getElem_cons (by omega)]
   rfl
  rw[e1,List.getElem?_eq_getElem (by omega)] at h2
  obtain⟨z,e2,-,hw⟩:=DataW.trod_int hu h2
  injection e2 with e3
  exact⟨z,by rw[List.getElem?_eq_getElem (by omega),e3]⟩
 obtain⟨z0,e0⟩:=one 0 f0 .i64 rfl u0
 obtain⟨z1,e1⟩:=one 1 f1 .u16 rfl u1
 obtain⟨z2,e2⟩:=one 2 f2 .u8 rfl u2
 obtain⟨z3,e3⟩:=one 3 f3 .i64 rfl u3
 refine⟨⟨z0,z1,z2,z3⟩,?_⟩
 match l,hsz with
 | [a0,a1,a2,a3],_ =>
   simp at e0 e1 e2 e3
   rw[e0,e1,e2,e3]
end
section
open Go.ChangeShapes Go.WideShapes Go.ChangeAt Go.RowKit Go.Deep
theorem one_cell {l:List Value} {k:Nat}(h:k < l.length):(l.drop k).take 1=[l[k]]:=by rw[List.drop_eq_getElem_cons h];rfl
theorem QC4 {H:Type} {enc:TypeId×Value→H} {P:Program} {w:World} {base:Nat} {sp:Nat→Bool} {held:Bool} {t:TypeId} {f0 f1 f2 f3 f4:Field} {l:List Value} {fuel:Nat} {x:DataW H×List MemPlace}
 (hs:P.underlying t=some (.struct #[f0,f1,f2,f3,f4]))(hone:oneCellFields P #[f0,f1,f2,f3,f4]=true)(hC:P.cellsOf t=5)
 (u0:P.underlying f0.type=some .bool)(u1:P.underlying f1.type=some .bool)(u2:P.underlying f2.type=some .bool)(u3:P.underlying f3.type=some .bool)(u4:P.underlying f4.type=some .bool)
 (hf:DataW.trod enc P w base sp held fuel t l=some x):∃ c:LnT,l=(lnC c).toList:=by
 obtain⟨xs,n,-,-,hsz,hlen,hg⟩:=DataW.trod_struct hs hf
 rw[hC] at hsz
 have hlen:xs.length=5:=hlen
 have one:∀ (k:Nat) (f:Field),#[f0,f1,f2,f3,f4][k]? = some f→P.underlying f.type=some .bool→∃ z,l[k]? = some (.bool z):=by
  intro k f hk hu
  obtain⟨ho,h1⟩:=hone_of hone k f hk
  have hkl:k < 5:=(Array.getElem?_eq_some_iff.1 hk).1
  have h2:=hg k f hk
  rw[ho,h1,one_cell (by omega),List.getElem?_eq_getElem (by omega)] at h2
  obtain⟨z,e2,-⟩:=DataW.trod_bool hu h2
  injection e2 with e3
  exact⟨z,by rw[List.getElem?_eq_getElem (by omega),e3]⟩
 obtain⟨z0,e0⟩:=one 0 f0 rfl u0
 obtain⟨z1,e1⟩:=one 1 f1 rfl u1
 obtain⟨z2,e2⟩:=one 2 f2 rfl u2
 obtain⟨z3,e3⟩:=one 3 f3 rfl u3
 obtain⟨z4,e4⟩:=one 4 f4 rfl u4
 refine⟨⟨z0,z1,z2,z3,z4⟩,?_⟩
 match l,hsz with
 | [a0,a1,a2,a3,a4],_ =>
   simp at e0 e1 e2 e3 e4
   rw[e0,e1,e2,e3,e4]
theorem QJ5 {H:Type} {enc:TypeId×Value→H} {P:Program} {w:World} {r:Reach} {b0 base:Nat} {sp:Nat→Bool} {held:Bool} {t:TypeId} {f0 f1 f2 f3 f4:Field} {v:Value} {d:DataW H} {ps:List MemPlace}
 (hs:P.underlying t=some (.struct #[f0,f1,f2,f3,f4]))(hone:oneCellFields P #[f0,f1,f2,f3,f4]=true)(hC:P.cellsOf t=5)
 (u0:P.underlying f0.type=some .bool)(u1:P.underlying f1.type=some .bool)(u2:P.underlying f2.type=some .bool)(u3:P.underlying f3.type=some .bool)(u4:P.underlying f4.type=some .bool)
 (hv:Value.okWide P w r b0 t v)(h:DataW.Trod enc P w base sp held t v d ps):∃ c:LnT,v=lnV c:=by
 obtain⟨cs,rfl,hsz⟩:=okWide_struct hs hv
 obtain⟨fuel,hf⟩:=h
 obtain⟨c,e⟩:=QC4 hs hone hC u0 u1 u2 u3 u4 hf
 refine⟨c,?_⟩
 have e:cs.toList=(lnC c).toList:=e
 show Value.agg cs=.agg _
 rw[←Array.toArray_toList (xs:=cs),e]
theorem QI5 {H:Type} {enc:TypeId×Value→H} {P:Program} {w:World} {r:Reach} {b0 base:Nat} {held:Bool} {t e:TypeId} {f0 f1 f2 f3 f4:Field} {v:Value} {d:DataW H} {ps:List MemPlace}
 (ht:P.underlying t=some (.slice e))(hs:P.underlying e=some (.struct #[f0,f1,f2,f3,f4]))(hone:oneCellFields P #[f0,f1,f2,f3,f4]=true)(hC:P.cellsOf e=5)
 (u0:P.underlying f0.type=some .bool)(u1:P.underlying f1.type=some .bool)(u2:P.underlying f2.type=some .bool)(u3:P.underlying f3.type=some .bool)(u4:P.underlying f4.type=some .bool)
 (hv:Value.okWide P w r b0 t v)(h:DataW.Trod enc P w base (fun _=>true) held t v d ps) :
 ∃ (A:Option Addr) (cap:Nat) (xs:List LnT),v=.slice A xs.length cap∧xs.length≤cap∧cap≤maxLen∧LnsIn w w.heap.size A xs∧(A=none→cap=0):=by
 obtain⟨a,len,cap,rfl⟩:=okWide_slice ht hv
 obtain⟨fuel,hf⟩:=h
 rcases open_slice ht hf with ⟨e1,-⟩|⟨ad,len',cap',m,n,D,Pl,e1,hb,hle,hm,hmm,-,hx⟩
 · have e2:Value.slice a len cap=.slice none 0 0:=by
    have h:[Value.slice a len cap]=[.slice none 0 0]:=e1
    injection h
   exact⟨none,0,[],e2,Nat.le_refl _,Nat.zero_le _,fun k hk=>by simp at hk,fun _=>rfl⟩
 · have e2:Value.slice a len cap=.slice (some ad) len' cap':=by
    have h:[Value.slice a len cap]=[.slice (some ad) len' cap']:=e1
    injection h
   have hlm:len'≤m:=by rw[hmm];split<;>omega
   have each:∀ i,i < m→∃ q:LnT,w.cell? (ad.add (i*5))=some (.bool q.wait)∧w.cell? (ad.add (i*5+1))=some (.bool q.bus)∧w.cell? (ad.add (i*5+2))=some (.bool q.irq)∧w.cell? (ad.add (i*5+3))=some (.bool q.nmi)∧w.cell? (ad.add (i*5+4))=some (.bool q.reset):=by
    intro i hi
    obtain⟨cs',h1,h2⟩:=hx i hi
    rw[hC] at h1
    obtain⟨_,hlen,hcell⟩:=World.cells?_some h1
    obtain⟨q,rfl⟩:=QC4 hs hone hC u0 u1 u2 u3 u4 h2
    have g:=fun j hj=>hcell j hj
    have a0:(ad.add (i*5)).add 0=ad.add (i*5):=by unfold Addr.add;simp
    refine⟨q,?_,?_,?_,?_,?_⟩
    · have:=g 0 (by omega);rw[a0] at this;exact this
    · have:=g 1 (by omega);rw[ZG _ _ _ (by omega)] at this;exact this
    · have:=g 2 (by omega);rw[ZG _ _ _ (by omega)] at this;exact this
    · have:=g 3 (by omega);rw[ZG _ _ _ (by omega)] at this;exact this
    · have:=g 4 (by omega);rw[ZG _ _ _ (by omega)] at this;exact this
   haveI:Inhabited LnT:=⟨Qr⟩
   obtain⟨q,hq⟩:=choose_lt each
   refine⟨some ad,cap',(List.range len').map q,by rw[List.length_map,List.length_range];exact e2,by simpa using hle,hm,fun j hj=>?_,fun h=>by cases h⟩
   have hj':j < len':=by simpa using hj
   have e3:((List.range len').map q)[j]=q j:=by simp
   rw[e3]
   have h5:=hq j (by omega)
   refine⟨ad,rfl,?_,h5⟩
   have:=World.block_lt_of_cell? _ _ h5.1
   rwa [add_block] at this
theorem QNL {H:Type} {enc:TypeId×Value→H} {P:Program} {w:World} {base:Nat} {sp:Nat→Bool} {held:Bool} {t:TypeId} {q0 q1 q2 f0 f1 f2 f3:Field} {l:List Value} {fuel:Nat} {x:DataW H×List MemPlace}
 (hs:P.underlying t=some (.struct #[q0,q1,q2]))(hq:(P.cellsOf t,q0.offset,q1.offset,q2.offset,P.cellsOf q0.type,P.cellsOf q1.type,P.cellsOf q2.type)=(6,0,4,5,4,1,1))
 (hr:P.underlying q0.type=some (.struct #[f0,f1,f2,f3]))(hone:oneCellFields P #[f0,f1,f2,f3]=true)
 (u0:P.underlying f0.type=some (.int .i64))(u1:P.underlying f1.type=some (.int .u16))(u2:P.underlying f2.type=some (.int .u8))(u3:P.underlying f3.type=some (.int .i64))(k1:P.underlying q1.type=some (.int .i64))(k2:P.underlying q2.type=some (.int .i64))
 (hf:DataW.trod enc P w base sp held fuel t l=some x):∃ a:AtT,l=(atC a).toList:=by
 simp only[Prod.mk.injEq] at hq
 obtain⟨hC,o0,o1,o2,c0,c1,c2⟩:=hq
 obtain⟨xs,n,-,-,hl,hlen,hg⟩:=DataW.trod_struct hs hf
 rw[hC] at hl
 have hlen:xs.length=3:=hlen
 have t0:=hg 0 q0 rfl
 have t1:=hg 1 q1 rfl
 have t2:=hg 2 q2 rfl
 rw[o0,c0,List.getElem?_eq_getElem (by omega)] at t0
 rw[o1,c1,List.getElem?_eq_getElem (by omega),one_cell (by omega)] at t1
 rw[o2,c2,List.getElem?_eq_getElem (by omega),one_cell (by omega)] at t2
 obtain⟨c,e0⟩:=QIU hr hone c0 u0 u1 u2 u3 t0
 obtain⟨z1,e1,-,-⟩:=DataW.trod_int k1 t1
 obtain⟨z2,e2,-,-⟩:=DataW.trod_int k2 t2
 injection e1 with e1
 injection e2 with e2
 refine⟨⟨c,z1,z2⟩,?_⟩
 have e3:l=l.take 4++[l[4]'(by omega),l[5]'(by omega)]:=by
  conv=>lhs;rw[←List.take_append_drop 4 l]
  rw[List.drop_eq_getElem_cons (by omega),List.drop_eq_getElem_cons (by omega),List.drop_of_length_le (by omega)]
 have e4:l.take 4=(cyC c).toList:=by simpa using e0
 rw[e4,e1,e2] at e3
 rw[e3]
 rfl
theorem QLt {H:Type} {enc:TypeId×Value→H} {P:Program} {w:World} {r:Reach} {b0 base:Nat} {held:Bool} {t eb:TypeId} {p0 p1 p2 p3 p4 p5 p6 p7 q0 q1 q2 c0 c1 c2 c3 f0 f1 f2 f3 f4 f5 f6 f7 f8 f9 f10 f11 f12 f13 f14 f15 f16 f17 f18 f19:Field} {v:Value} {d:DataW H} {ps:List MemPlace}
 (hs:P.underlying t=some (.struct #[p0,p1,p2,p3,p4,p5,p6,p7]))
 (hp:(P.cellsOf t,p0.offset,p1.offset,p2.offset,p3.offset,p4.offset,p5.offset,p6.offset,p7.offset)=(32,0,20,21,22,28,29,30,31))
 (hp':(P.cellsOf p0.type,P.cellsOf p1.type,P.cellsOf p2.type,P.cellsOf p3.type,P.cellsOf p4.type,P.cellsOf p5.type,P.cellsOf p6.type,P.cellsOf p7.type)=(20,1,1,6,1,1,1,1))
 (hr:P.underlying p0.type=some (.struct #[f0,f1,f2,f3,f4,f5,f6,f7,f8,f9,f10,f11,f12,f13,f14,f15,f16,f17,f18,f19]))(hone:oneCellFields P #[f0,f1,f2,f3,f4,f5,f6,f7,f8,f9,f10,f11,f12,f13,f14,f15,f16,f17,f18,f19]=true)
 (u0:P.underlying f0.type=some (.int .u16))(u1:P.underlying f1.type=some (.int .u16))(u2:P.underlying f2.type=some (.int .u16))(u3:P.underlying f3.type=some (.int .u16))(u4:P.underlying f4.type=some (.int .u16))(u5:P.underlying f5.type=some (.int .u16))(u6:P.underlying f6.type=some (.int .u16))(u7:P.underlying f7.type=some (.int .u16))(u8:P.underlying f8.type=some (.int .u16))(u9:P.underlying f9.type=some (.int .u16))(u10:P.underlying f10.type=some (.int .u16))(u11:P.underlying f11.type=some (.int .u16))(u12:P.underlying f12.type=some (.int .u16))(u13:P.underlying f13.type=some (.int .u8))(u14:P.underlying f14.type=some (.int .u8))(u15:P.underlying f15.type=some .bool)(u16:P.underlying f16.type=some .bool)(u17:P.underlying f17.type=some .bool)(u18:P.underlying f18.type=some .bool)(u19:P.underlying f19.type=some (.int .i64))
 (m1:P.underlying p1.type=some (.int .i64))(m2:P.underlying p2.type=some (.slice eb))(heb:P.underlying eb=some (.int .u8))(cb:P.cellsOf eb=1)
 (ha:P.underlying p3.type=some (.struct #[q0,q1,q2]))(haq:(P.cellsOf p3.type,q0.offset,q1.offset,q2.offset,P.cellsOf q0.type,P.cellsOf q1.type,P.cellsOf q2.type)=(6,0,4,5,4,1,1))
 (har:P.underlying q0.type=some (.struct #[c0,c1,c2,c3]))(haone:oneCellFields P #[c0,c1,c2,c3]=true)
 (y0:P.underlying c0.type=some (.int .i64))(y1:P.underlying c1.type=some (.int .u16))(y2:P.underlying c2.type=some (.int .u8))(y3:P.underlying c3.type=some (.int .i64))(k1:P.underlying q1.type=some (.int .i64))(k2:P.underlying q2.type=some (.int .i64))
 (m4:P.underlying p4.type=some (.int .u8))(m5:P.underlying p5.type=some .bool)(m6:P.underlying p6.type=some .bool)(m7:P.underlying p7.type=some .bool)
 (hv:Value.okWide P w r b0 t v)(h:DataW.Trod enc P w base (fun _=>true) held t v d ps) :
 ∃ (c:CoT) (A:Option Addr) (cap:Nat),v=coV c (.slice A c.got.length cap)∧RgB c.r∧B8 c.b∧c.got.length≤cap∧cap≤maxLen∧Bytes8 c.got∧BytesIn w w.heap.size A c.got∧(A=none→cap=0):=by
 simp only[Prod.mk.injEq] at hp hp'
 obtain⟨hC,o0,o1,o2,o3,o4,o5,o6,o7⟩:=hp
 obtain⟨s0,s1,s2,s3,s4,s5,s6,s7⟩:=hp'
 obtain⟨cs,rfl,hsz⟩:=okWide_struct hs hv
 obtain⟨fuel,hf⟩:=h
 obtain⟨xs,n,-,-,hl,hlen,hg⟩:=DataW.trod_struct hs hf
 rw[hC] at hsz hl
 have hlen:xs.length=8:=hlen
 obtain⟨l,hcs⟩:∃ l,l=cs.toList:=⟨_,rfl⟩
 have hcl:(Value.agg cs).cells.toList=l:=by rw[hcs];rfl
 rw[hcl] at hg hl
 have t0:=hg 0 p0 rfl
 have t1:=hg 1 p1 rfl
 have t2:=hg 2 p2 rfl
 have t3:=hg 3 p3 rfl
 have t4:=hg 4 p4 rfl
 have t5:=hg 5 p5 rfl
 have t6:=hg 6 p6 rfl
 have t7:=hg 7 p7 rfl
 rw[o0,s0,List.getElem?_eq_getElem (by omega)] at t0
 rw[o1,s1,List.getElem?_eq_getElem (by omega),one_cell (by omega)] at t1
 rw[o2,s2,List.getElem?_eq_getElem (by omega),one_cell (by omega)] at t2
 rw[o3,s3,List.getElem?_eq_getElem (by omega)] at t3
 rw[o4,s4,List.getElem?_eq_getElem (by omega),one_cell (by omega)] at t4
 rw[o5,s5,List.getElem?_eq_getElem (by omega),one_cell (by omega)] at t5
 rw[o6,s6,List.getElem?_eq_getElem (by omega),one_cell (by omega)] at t6
 rw[o7,s7,List.getElem?_eq_getElem (by omega),one_cell (by omega)] at t7
 obtain⟨g,e0,hgB⟩:=QD5 hr hone s0 u0 u1 u2 u3 u4 u5 u6 u7 u8 u9 u10 u11 u12 u13 u14 u15 u16 u17 u18 u19 t0
 obtain⟨wh,e1,-,-⟩:=DataW.trod_int m1 t1
 obtain⟨A,cap,got,e2,hy1,hy2,hy3,hy4,hy5⟩:=QC7 m2 heb cb t2
 obtain⟨a,e3⟩:=QNL ha haq har haone y0 y1 y2 y3 k1 k2 t3
 obtain⟨b,e4,-,hbw⟩:=DataW.trod_int m4 t4
 obtain⟨z5,e5,-⟩:=DataW.trod_bool m5 t5
 obtain⟨z6,e6,-⟩:=DataW.trod_bool m6 t6
 obtain⟨z7,e7,-⟩:=DataW.trod_bool m7 t7
 injection e1 with e1
 injection e4 with e4
 injection e5 with e5
 injection e6 with e6
 injection e7 with e7
 have hbb:=bounds_u8 hbw
 have hb8:B8 b:=⟨by omega,by omega⟩
 refine⟨⟨g,wh,got,a,b,z5,z6,z7⟩,A,cap,?_,hgB,hb8,hy1,hy2,hy3,hy4,hy5⟩
 have f2:l.drop 28=[l[28]'(by omega),l[29]'(by omega),l[30]'(by omega),l[31]'(by omega)]:=by
  rw[List.drop_eq_getElem_cons (by omega),List.drop_eq_getElem_cons (by omega),List.drop_eq_getElem_cons (by omega),List.drop_eq_getElem_cons (by omega),List.drop_of_length_le (by omega)]
 have f1:l.drop 22=(l.drop 22).take 6++l.drop 28:=by
  rw[show l.drop 28=(l.drop 22).drop 6 by rw[List.drop_drop]]
  exact (List.take_append_drop 6 _).symm
 have f:l=l.take 20++(l[20]'(by omega) :: l[21]'(by omega) :: l.drop 22):=by
  conv=>lhs;rw[←List.take_append_drop 20 l]
  rw[List.drop_eq_getElem_cons (by omega),List.drop_eq_getElem_cons (by omega)]
 rw[f1,f2] at f
 have e0:l.take 20=(JJ g).toList:=by simpa using e0
 rw[e0,e1,e2,e3,e4,e5,e6,e7] at f
 show Value.agg cs=.agg _
 rw[←Array.toArray_toList (xs:=cs),←hcs,f]
 rfl
end
def QGO {H:Type}(F:TypeId→DataW H→Option (List Value)):List (TypeId×Nat)→List (DataW H)→Nat→Option (List Value)
 | [],[],_=>some []
 | (e,o) :: L,d :: ds,cur=>if o=cur then (F e d).bind fun a=>(QGO F L ds (cur+a.length)).map fun b=>a++b else none
 | _,_,_=>none
def flat {H:Type}(P:Program):Nat→TypeId→DataW H→Option (List Value)
 | 0,_,_=>none
 | k+1,t,d=>match P.underlying t,d with
   | some (.int q),.lit (.int q' n)=>if q=q' then some [.int q n] else none
   | some .bool,.lit (.bool b)=>some [.bool b]
   | some .string,.lit (.string bs)=>some [.string ⟨bs.toArray⟩]
   | some (.array n e),.agg ds=>(QGO (flat P k) ((List.range n).map fun i=>(e,i*P.cellsOf e)) ds 0).bind fun out=>if out.length=P.cellsOf t then some out else none
   | some (.struct fs),.agg ds=>(QGO (flat P k) (fs.toList.map fun f=>(f.type,f.offset)) ds 0).bind fun out=>if out.length=P.cellsOf t then some out else none
   | _,_=>none
section
variable {H:Type} {enc:TypeId×Value→H} {P:Program} {w:World} {base:Nat} {sp:Nat→Bool} {held:Bool}
theorem QFR (F:TypeId→DataW H→Option (List Value))(m:Nat)(cs:List Value)
 (hF:∀ e d cs' p a,DataW.trod enc P w base sp held m e cs'=some (d,p)→F e d=some a→cs'=a) :
 ∀ (L:List (TypeId×Nat)) (xs:List (DataW H×List MemPlace)) (cur:Nat) (out:List Value),L.length=xs.length →
  (∀ (i:Nat) (e:TypeId) (o:Nat),L[i]? = some (e,o)→DataW.trod enc P w base sp held m e ((cs.drop o).take (P.cellsOf e))=xs[i]?)→QGO F L (xs.map (·.1)) cur=some out→(cs.drop cur).take out.length=out
 | [],[],cur,out,_,_,h=>by
   simp only[List.map_nil,QGO,Option.some.injEq] at h
   subst h;simp
 | (e,o) :: L,(d,p) :: xs,cur,out,hl,hx,h=>by
   simp only[List.map_cons,QGO] at h
   split at h
   · rename_i ho
     subst ho
     obtain⟨a,ha,h⟩:=Option.bind_eq_some_iff.1 h
     obtain⟨b,hb,rfl⟩:=Option.map_eq_some_iff.1 h
     have h0:=hx 0 e o rfl
     have e1:=hF e d _ p a (by simpa using h0) ha
     have ih:=QFR F m cs hF L xs (o+a.length) b (by simpa using hl) (fun i e' o' hi=>by simpa using hx (i+1) e' o' (by simpa using hi)) hb
     have e2:(cs.drop o).take a.length=a:=by
      conv=>rhs;rw[←e1]
      rw[←e1,List.length_take]
      rcases Nat.le_total (P.cellsOf e) (cs.drop o).length with hq|hq
      · rw[Nat.min_eq_left hq]
      · rw[Nat.min_eq_right hq,List.take_length,List.take_of_length_le hq]
     have e3:cs.drop o=a++cs.drop (o+a.length):=by
      conv=>lhs;rw[←List.take_append_drop a.length (cs.drop o),e2,List.drop_drop]
     rw[e3,List.length_append,List.take_length_add_append,ih]
   · cases h
 | [],_ :: _,_,_,hl,_,_=>by simp at hl
 | _ :: _,[],_,_,hl,_,_=>by simp at hl
theorem QHQ:∀ (k:Nat) (t:TypeId) (d:DataW H) (cs:List Value) (fuel:Nat) (p:List MemPlace) (out:List Value),DataW.trod enc P w base sp held fuel t cs=some (d,p)→flat P k t d=some out→cs=out
 | 0,_,_,_,_,_,_,_,h=>by simp[flat] at h
 | k+1,t,d,cs,fuel,p,out,ht,h=>by
   unfold flat at h
   split at h
   · rename_i hu
     split at h
     · rename_i hq
       subst hq
       obtain⟨n,rfl,e,_⟩:=DataW.trod_int hu ht
       simp only[Prod.mk.injEq,DataW.lit.injEq,Lit.int.injEq,true_and] at e
       obtain⟨rfl,_⟩:=e
       exact Option.some.inj h
     · cases h
   · rename_i hu
     obtain⟨b,rfl,e⟩:=DataW.trod_bool hu ht
     simp only[Prod.mk.injEq,DataW.lit.injEq,Lit.bool.injEq] at e
     obtain⟨rfl,_⟩:=e
     exact Option.some.inj h
   · rename_i hu
     obtain⟨s,rfl,e,_⟩:=DataW.trod_string hu ht
     simp only[Prod.mk.injEq,DataW.lit.injEq,Lit.string.injEq] at e
     obtain⟨rfl,_⟩:=e
     exact Option.some.inj h
   · rename_i n e ds hu
     obtain⟨xs,m,rfl,hx,hlen,hxl,hi⟩:=DataW.trod_array hu ht
     simp only[Prod.mk.injEq,DataW.agg.injEq] at hx
     obtain⟨rfl,rfl⟩:=hx
     obtain⟨o,ho,h⟩:=Option.bind_eq_some_iff.1 h
     split at h
     · rename_i hol
       obtain rfl:=Option.some.inj h
       have:=QFR (flat P k) m cs (fun e d cs' p a h1 h2=>QHQ k e d cs' m p a h1 h2) _ xs 0 o (by simp[hxl]) (fun i e' o' hq=>by
        simp only[List.getElem?_map,Option.map_eq_some_iff,Prod.mk.injEq] at hq
        obtain⟨j,hj,rfl,rfl⟩:=hq
        obtain⟨hj1,hj2⟩:=List.getElem?_eq_some_iff.1 hj
        simp only[List.getElem_range] at hj2
        subst hj2
        exact hi _ (by simpa using hj1)) ho
       rwa [List.drop_zero,hol,←hlen,List.take_length] at this
     · cases h
   · rename_i fs ds hu
     obtain⟨xs,m,rfl,hx,hlen,hxl,hi⟩:=DataW.trod_struct hu ht
     simp only[Prod.mk.injEq,DataW.agg.injEq] at hx
     obtain⟨rfl,rfl⟩:=hx
     obtain⟨o,ho,h⟩:=Option.bind_eq_some_iff.1 h
     split at h
     · rename_i hol
       obtain rfl:=Option.some.inj h
       have:=QFR (flat P k) m cs (fun e d cs' p a h1 h2=>QHQ k e d cs' m p a h1 h2) _ xs 0 o (by simp[hxl]) (fun i e' o' hq=>by
        simp only[List.getElem?_map,Option.map_eq_some_iff,Prod.mk.injEq] at hq
        obtain⟨f,hf,rfl,rfl⟩:=hq
        exact hi i f (by simpa using hf)) ho
       rwa [List.drop_zero,hol,←hlen,List.take_length] at this
     · cases h
   · cases h
end
theorem QDG {P:Program} {W:World} {name:String} {d:DataW Unit}:∀ (laid:List (String×DataW Unit)) (ps:List MemPlace),DataW.LaidVars P W laid ps→∀ (i:Nat),laid[i]? = some (name,d) →
 ∃ g t cs fuel p,P.globalNamed name=some g∧(P.globals[g]?).map (·.type)=some t∧W.var? P name=some cs∧DataW.trod (fun _=>()) P W 0 (fun _=>true) false fuel t cs.toList=some (d,p)
 | [],_,_,i,hi=>by simp at hi
 | (n,d') :: r,ps,h,0,hi=>by
   obtain⟨g,t,cs,fuel,p,q,h1,h2,h3,h4,_,_⟩:=h
   simp only[List.getElem?_cons_zero,Option.some.injEq,Prod.mk.injEq] at hi
   obtain⟨rfl,rfl⟩:=hi
   exact⟨g,t,cs,fuel,p,h1,h2,h3,h4⟩
 | (n,d') :: r,ps,h,i+1,hi=>by
   obtain⟨g,t,cs,fuel,p,q,_,_,_,_,h5,_⟩:=h
   exact QDG r q h5 i (by simpa using hi)
theorem XF {P:Program} {W:World} {name:String} {d:DataW Unit} {laid:List (String×DataW Unit)} {g:Nat} {t:TypeId} {k:Nat} {out:List Value}(i:Nat)(hi:laid[i]? = some (name,d))(hg:P.globalNamed name=some g)(hty:(P.globals[g]?).map (·.type)=some t)
 (hf:flat P k t d=some out)(h:laidMet P laid W):W.var? P name=some out.toArray:=by
 obtain⟨ps,h1,_⟩:=h
 obtain⟨g',t',cs,fuel,p,hg',ht',hvar,hd⟩:=QDG laid ps h1 i hi
 obtain rfl:=Option.some.inj (hg.symm.trans hg')
 obtain rfl:=Option.some.inj (hty.symm.trans ht')
 rw[hvar,←QHQ k t d _ _ _ _ hd hf]
theorem JI {P:Program} {W:World} {name:String} {g:Nat} {out:List Value}(h:W.var? P name=some out.toArray)(hg:P.globalNamed name=some g)(i:Nat)(v:Value)(hv:out[i]? = some v):W.cell? ⟨g,i,none⟩=some v:=by
 rw[World.var?_cell hg h i]
 simpa using hv
theorem QPR {w:World} {B:Nat} {A:Option Addr} {c n:Nat} {xs:List Int}(hin:BytesIn w B A xs)(hne:xs≠[]):∀ z,(Value.slice A n c).ownBlock=some z→z < B:=fun z e=>by
 cases xs with
 | nil=>exact absurd rfl hne
 | cons x r =>
   obtain⟨ad,rfl,hb,-⟩:=hin 0 x rfl
   injection e with e
   omega
end Go.Proofs.YtkenebbjodcbcaaGreatDoor
