/- Contracts and facts that the claim's proof wants (several texts in one). -/
import Derived.Test.YtkenebbjodcbcaaGreatDoorCoH9
namespace Go.Proofs.YtkenebbjodcbcaaGreatDoor
open Go.RowKit
set_option linter.unusedVariables false
set_option linter.unusedSimpArgs false
set_option maxRecDepth 20000
set_option maxHeartbeats 20000000
section
variable {ops:Array Oper} {Q:Exit→Act→World→Prop} {w w0:World} {o:Oper} {rest:List Oper} {base:List Value} {l:J0} {p B:Nat} {s:Ms} {xs:List Int}
theorem QDU {l:List Value} {k:Nat} {v:Value}(h:(l.map some)[k]? = some (some v)):l[k]? = some v:=by
 rw[List.getElem?_map] at h
 cases hl:l[k]? with
 | none=>rw[hl] at h;cases h
 | some u=>rw[hl] at h;injection h with h
def mK (s:Ms):Xf:=(((mC s none 0 0).toList.map some).set 20 none)
theorem QGV (s:Ms)(A:Option Addr)(n cap:Nat):Kn (mK s) (mC s A n cap):=by
 refine⟨by simp[mK],fun k v hk=>?_⟩
 by_cases e:k=20
 · subst e;simp[mK] at hk
 · rw[mK,List.getElem?_set_ne (Ne.symm e)] at hk
   have h0:(mC s none 0 0)[k]? = some v:=by
    rw[←Array.getElem?_toList]
    exact QDU hk
   have h1:mC s A n cap=(mC s none 0 0).setIfInBounds 20 (.slice A n cap):=rfl
   rw[h1,Array.getElem?_setIfInBounds_ne (Ne.symm e)]
   exact h0
theorem QLJ {s s':Ms} {A:Option Addr} {n cap:Nat} {full:Array Value}(hk:Kn (mK s') full)(hs:Same (mK s) (mC s A n cap) (mK s') full):full=mC s' A n cap:=by
 apply Array.ext_getElem?
 intro k
 by_cases e:k=20
 · subst e
   have:=(hs 20 (by simp[mK])).2
   rw[this];rfl
 · have hkn:=QGV s' A n cap
   by_cases hl:k < 29
   · have hsome:∃ v,(mK s')[k]? = some (some v):=by
      rw[mK,List.getElem?_set_ne (Ne.symm e),List.getElem?_map]
      have:k < (mC s' none 0 0).toList.length:=hl
      rw[List.getElem?_eq_getElem this]
      exact⟨_,rfl⟩
     obtain⟨v,hv⟩:=hsome
     rw[hk.at_ k v hv,hkn.at_ k v hv]
   · rw[Array.getElem?_eq_none (by rw[hk.size];simp[mK];omega),Array.getElem?_eq_none (by simp;omega)]
abbrev eN (P:Program)(ops:Array Oper)(w:World)(p:Nat)(base:List Value)(os:List Oper)(l:J0)(s:Ms):Ev:=evs P ops w p base.length base os l (mK s) [] []
theorem NowN.put {w':World} {A:Option Addr} {cap:Nat} {s':Ms}(hn:NowN w0 p B s xs w)(hc:xs.length≤cap)(hby:BytesIn w B A xs)(hm:MsB s')(hr:Row w' p 118 (mC s' A xs.length cap))(hb:Besides p p w w'):NowN w0 p B s' xs w':=by
 have k:∀ b,b < B→w'.heap[b]? = w.heap[b]?:=fun b hlt=>hb.block b (by have:=hn.at_.lt;have:=hn.at_.low;omega) (by have:=hn.at_.low;omega) (by have:=hn.at_.low;omega)
 exact⟨⟨⟨A,cap,hc,hr,hby.keep k⟩,hn.at_.low,hn.at_.bytes,hm,hn.at_.tabs.keep k⟩,hn.bes.trans hb⟩
theorem nRs (n:Nat)(hn:NowN w0 p B s xs w)(s':Ms)(hm:MsB s')(h:∀ w',NowN w0 p B s' xs w'→WO Tryz.prog ops Q base (rest.drop n) (eN Tryz.prog ops w p base (rest.take n) l s).l w')
 (hk:okE (eN Tryz.prog ops w p base (rest.take n) l s) (mK s'):=by unfold okE;kernel_rfl):WO Tryz.prog ops Q base rest l w:=by
 obtain⟨A,cap,hc,hr,hby⟩:=hn.at_.row
 exact QGu n hr (QGV ..) hk fun w' full' _ hr' hK hs hb=>h w' (hn.put hc hby hm (by rw[←QLJ hK hs];exact hr') hb)
theorem nR (n:Nat)(hn:NowN w0 p B s xs w)(h:WO Tryz.prog ops Q base (rest.drop n) (eN Tryz.prog ops w p base (rest.take n) l s).l w)(ha:(rest.take n).all zC=true:=by kernel_rfl)
 (hk:okE (eN Tryz.prog ops w p base (rest.take n) l s) (mK s):=by unfold okE;kernel_rfl):WO Tryz.prog ops Q base rest l w:=by
 obtain⟨A,cap,hc,hr,hby⟩:=hn.at_.row
 exact QGu n hr (QGV ..) hk fun w' _ e _ _ _ _=>by rw[e ha];exact h
theorem nFs (hn:NowN w0 p B s xs w)(s':Ms)(hm:MsB s')(h:∀ w',NowN w0 p B s' xs w'→EO Q .normal base (eN Tryz.prog ops w p base rest l s).l w')
 (hk:okE (eN Tryz.prog ops w p base rest l s) (mK s'):=by unfold okE;kernel_rfl):WO Tryz.prog ops Q base rest l w:=by
 obtain⟨A,cap,hc,hr,hby⟩:=hn.at_.row
 exact QDs hr (QGV ..) hk fun w' full' _ hr' hK hs hb=>woE (h w' (hn.put hc hby hm (by rw[←QLJ hK hs];exact hr') hb))
theorem nF (hn:NowN w0 p B s xs w)(h:EO Q .normal base (eN Tryz.prog ops w p base rest l s).l w)(ha:rest.all zC=true:=by kernel_rfl)
 (hk:okE (eN Tryz.prog ops w p base rest l s) (mK s):=by unfold okE;kernel_rfl):WO Tryz.prog ops Q base rest l w:=by
 obtain⟨A,cap,hc,hr,hby⟩:=hn.at_.row
 exact QDs hr (QGV ..) hk fun w' _ e _ _ _ _=>by rw[e ha];exact woE h
theorem nEs {y:Code}(hn:NowN w0 p B s xs w)(s':Ms)(hm:MsB s')(h:∀ w',NowN w0 p B s' xs w'→CO Tryz.prog y Q base (eN Tryz.prog ops w p base rest l s).l w')
 (hk:okE (eN Tryz.prog ops w p base rest l s) (mK s'):=by unfold okE;kernel_rfl):WO Tryz.prog ops (Exit.then (y.wp Tryz.prog Q) Q) base rest l w:=nFs hn s' hm (fun w' k=>eoT (h w' k)) hk
theorem nE {y:Code}(hn:NowN w0 p B s xs w)(h:CO Tryz.prog y Q base (eN Tryz.prog ops w p base rest l s).l w)(ha:rest.all zC=true:=by kernel_rfl)
 (hk:okE (eN Tryz.prog ops w p base rest l s) (mK s):=by unfold okE;kernel_rfl):WO Tryz.prog ops (Exit.then (y.wp Tryz.prog Q) Q) base rest l w:=nF hn (eoT h) ha hk
theorem nQs {y:Code} {id:Nat}(hn:NowN w0 p B s xs w)(s':Ms)(hm:MsB s')(h:∀ w',NowN w0 p B s' xs w'→CO Tryz.prog y Q base (eN Tryz.prog rest.toArray w p base rest l s).l w')
 (hk:okE (eN Tryz.prog rest.toArray w p base rest l s) (mK s'):=by unfold okE;kernel_rfl):CO Tryz.prog (.seq (.region id rest.toArray false) y) Q base l w:=coR (nEs hn s' hm h hk)
theorem nQ {y:Code} {id:Nat}(hn:NowN w0 p B s xs w)(h:CO Tryz.prog y Q base (eN Tryz.prog rest.toArray w p base rest l s).l w)(ha:rest.all zC=true:=by kernel_rfl)
 (hk:okE (eN Tryz.prog rest.toArray w p base rest l s) (mK s):=by unfold okE;kernel_rfl):CO Tryz.prog (.seq (.region id rest.toArray false) y) Q base l w:=coR (nE hn h ha hk)
def SN (w0:World)(p B:Nat)(s:Ms)(w:World):Prop:=∃ xs,NowN w0 p B s xs w
theorem nP (n:Nat){id:Nat} {y:Code}(hn:NowN w0 p B s xs w)(h:∀ w',NowN w0 p B s xs w'→PO Tryz.prog ops (Exit.then (y.wp Tryz.prog Q) Q) (SN w0 p B s) n base n (Array.replicate ops.size false) l w')
 (hB:Q0 ops n=true:=by kernel_rfl)(hm:(Tryz.prog).follows .mixedOrders=true:=by kernel_rfl):CO Tryz.prog (.seq (.region id ops true) y) Q base l w:=coP n ⟨_,hn.drew⟩ (h _ hn.drew) hB hm
theorem nPz (n:Nat){id:Nat}(hn:NowN w0 p B s xs w)(h:∀ w',NowN w0 p B s xs w'→PO Tryz.prog ops Q (SN w0 p B s) n base n (Array.replicate ops.size false) l w')
 (hB:Q0 ops n=true:=by kernel_rfl)(hm:(Tryz.prog).follows .mixedOrders=true:=by kernel_rfl):CO Tryz.prog (.region id ops true) Q base l w:=QRT n ⟨_,hn.drew⟩ (h _ hn.drew) hB hm
theorem nD {n f:Nat} {listed:Array Bool}(is:List Nat)(hn:NowN w0 p B s xs w)(h:PO Tryz.prog ops Q (SN w0 p B s) n base (f-is.length) (QKm is listed) (eN Tryz.prog ops w p base (atO ops is) l s).l w)
 (hk:okE (eN Tryz.prog ops w p base (atO ops is) l s) (mK s):=by unfold okE;kernel_rfl)(ha:((atO ops is).all zC&&(QEE ops n is listed&&(Q0 ops n&&Nat.ble is.length f)))=true:=by kernel_rfl)
 (hQ:∀ d v c a w,Q (.panic c) (a.put d v) w→Q (.panic c) a w:=by intro d _ _ _ _ h;cases d<;>exact h):PO Tryz.prog ops Q (SN w0 p B s) n base f listed l w:=by
 simp only[Bool.and_eq_true] at ha
 obtain⟨a1,a2,a3,a4⟩:=ha
 simp only[okE,Prod.mk.injEq] at hk
 obtain⟨h1,_,h3,h4⟩:=hk
 have hle:is.length≤f:=by simpa using a4
 have:=QAK (cs:=mK s) (ty:=118) (base:=base) (W:=w) a3 hQ (fun w' hs=>by
  obtain⟨ys,hs⟩:=hs
  obtain⟨A,cap,hc,hr,hby⟩:=hs.at_.row
  exact⟨_,hr,QGV ..⟩) is (f-is.length) listed l [] [] w h1 (Q1 h3) (Q1 h4) a1 a2 ⟨_,hn⟩ h
 rwa [Nat.sub_add_cancel hle] at this
theorem nDo' {n f:Nat} {listed:Array Bool} {V:Value} {N:World→Prop} {g:FuncId} {args:Array Value}(i:Nat)(hc:Calls Tryz.prog g args w fun e w'=>e=.returned V∧N w'∧SN w0 p B s w')(h:∀ w',N w'→SN w0 p B s w'→PO Tryz.prog ops Q (SN w0 p B s) n base (f-1) (listed.setIfInBounds i true) (XL o.dst V l) w')
 (ho:ops[i]? = some o:=by exact rfl)(hr:(Region.ready .any ops listed,decide (i < n),Nat.blt 0 f,QA ops base.length base l o,XH o.dst base.length)=([i],true,true,some true,true):=by kernel_rfl)
 (he:(execOp (evO base l) o).run Tryz.prog w=.ok (.enter g args) w:=by kernel_rfl):PO Tryz.prog ops Q (SN w0 p B s) n base f listed l w:=by
 simp only[Prod.mk.injEq] at hr
 obtain⟨h1,h2,h3,h4,h5⟩:=hr
 have hf:f=(f-1)+1:=by have:0 < f:=by simpa [Nat.blt_eq] using h3
                       omega
 rw[hf]
 exact QHP ho h1 h2 h4 he h5 hc fun e w' ⟨e1,e2,e3⟩=>by subst e1;exact⟨e3,h w' e2 e3⟩
theorem nDo {n f:Nat} {listed:Array Bool} {V:Value} {ys:List Int} {g:FuncId} {args:Array Value}(i:Nat)(hc:Calls Tryz.prog g args w fun e w'=>e=.returned V∧NowN w0 p B s ys w')(h:∀ w',NowN w0 p B s ys w'→PO Tryz.prog ops Q (SN w0 p B s) n base (f-1) (listed.setIfInBounds i true) (XL o.dst V l) w')
 (ho:ops[i]? = some o:=by exact rfl)(hr:(Region.ready .any ops listed,decide (i < n),Nat.blt 0 f,QA ops base.length base l o,XH o.dst base.length)=([i],true,true,some true,true):=by kernel_rfl)
 (he:(execOp (evO base l) o).run Tryz.prog w=.ok (.enter g args) w:=by kernel_rfl):PO Tryz.prog ops Q (SN w0 p B s) n base f listed l w :=
 nDo' i (hc.mono fun e w' k=>⟨k.1,k.2,_,k.2⟩) (fun w' k _=>h w' k) ho hr he
theorem nDe {n f:Nat} {listed:Array Bool} {V:Value} {g:FuncId} {args:Array Value}(i:Nat)(hc:Calls Tryz.prog g args w fun e w'=>e=.returned V∧w=w')(hn:NowN w0 p B s xs w)(h:PO Tryz.prog ops Q (SN w0 p B s) n base (f-1) (listed.setIfInBounds i true) (XL o.dst V l) w)
 (ho:ops[i]? = some o:=by exact rfl)(hr:(Region.ready .any ops listed,decide (i < n),Nat.blt 0 f,QA ops base.length base l o,XH o.dst base.length)=([i],true,true,some true,true):=by kernel_rfl)
 (he:(execOp (evO base l) o).run Tryz.prog w=.ok (.enter g args) w:=by kernel_rfl):PO Tryz.prog ops Q (SN w0 p B s) n base f listed l w :=
 nDo' i (hc.mono fun e w' k=>⟨k.1,k.2,by rw[←k.2];exact⟨_,hn⟩⟩) (fun w' e _=>by rw[←e];exact h) ho hr he
theorem nDb {n f:Nat} {listed:Array Bool} {V:Value} {g:FuncId} {args:Array Value}(i:Nat)(hc:Calls Tryz.prog g args w fun e w'=>e=.returned V∧Below w.heap.size w w')(hn:NowN w0 p B s xs w)(h:∀ w',NowN w0 p B s xs w'→PO Tryz.prog ops Q (SN w0 p B s) n base (f-1) (listed.setIfInBounds i true) (XL o.dst V l) w')
 (ho:ops[i]? = some o:=by exact rfl)(hr:(Region.ready .any ops listed,decide (i < n),Nat.blt 0 f,QA ops base.length base l o,XH o.dst base.length)=([i],true,true,some true,true):=by kernel_rfl)
 (he:(execOp (evO base l) o).run Tryz.prog w=.ok (.enter g args) w:=by kernel_rfl):PO Tryz.prog ops Q (SN w0 p B s) n base f listed l w :=
 nDo i (hc.mono fun e w' k=>⟨k.1,hn.below k.2⟩) h ho hr he
theorem nDa {n f:Nat} {listed:Array Bool} {V:Value} {ys:List Int} {g:FuncId} {args:Array Value}(i:Nat)(hc:Calls Tryz.prog g args w fun e w'=>e=.returned V∧NowN w p B s ys w')(hn:NowN w0 p B s xs w)(h:∀ w',NowN w0 p B s ys w'→PO Tryz.prog ops Q (SN w0 p B s) n base (f-1) (listed.setIfInBounds i true) (XL o.dst V l) w')
 (ho:ops[i]? = some o:=by exact rfl)(hr:(Region.ready .any ops listed,decide (i < n),Nat.blt 0 f,QA ops base.length base l o,XH o.dst base.length)=([i],true,true,some true,true):=by kernel_rfl)
 (he:(execOp (evO base l) o).run Tryz.prog w=.ok (.enter g args) w:=by kernel_rfl):PO Tryz.prog ops Q (SN w0 p B s) n base f listed l w :=
 nDo i (hc.mono fun e w' k=>⟨k.1,hn.after k.2⟩) h ho hr he
theorem nI0 {k:IntKind} {X:Except Cy ((Int×Ms)×List Int)} {g:FuncId} {args:Array Value}(hc:Calls Tryz.prog g args w (OutI w p B k X))(hn:NowN w0 p B s xs w)
 (hP:∀ c w',X=.error c→BesC p c w0 w'→EO Q (.panic [{ v:=.iface 29 (cyV c),recovered:=false }]) base l w')
 (hK:∀ v s ys w',X=.ok ((v,s),ys)→kB k v→NowN w0 p B s ys w'→WO Tryz.prog ops Q base rest (XL o.dst (.int k v) l) w')
 (hg:QA ops base.length base l o=some true:=by kernel_rfl)(he:(execOp (evO base l) o).run Tryz.prog w=.ok (.enter g args) w:=by kernel_rfl)(hd:XH o.dst base.length=true:=by kernel_rfl):WO Tryz.prog ops Q base (o :: rest) l w :=
 QCd hg he hd hc fun e w' ho=>by
  rcases X with c|⟨⟨v,s⟩,ys⟩
  · obtain⟨rfl,hb⟩:=ho
    exact hP c w' rfl (hb.after hn.bes)
  · obtain⟨rfl,hk,hN⟩:=ho
    exact hK v s ys w' rfl hk (hn.after hN)
theorem nV0 {X:Except Cy (Ms×List Int)} {g:FuncId} {args:Array Value}(hc:Calls Tryz.prog g args w (OutV w p B X))(hn:NowN w0 p B s xs w)
 (hP:∀ c w',X=.error c→BesC p c w0 w'→EO Q (.panic [{ v:=.iface 29 (cyV c),recovered:=false }]) base l w')
 (hK:∀ s ys w',X=.ok (s,ys)→NowN w0 p B s ys w'→WO Tryz.prog ops Q base rest (XL o.dst (.tuple #[]) l) w')
 (hg:QA ops base.length base l o=some true:=by kernel_rfl)(he:(execOp (evO base l) o).run Tryz.prog w=.ok (.enter g args) w:=by kernel_rfl)(hd:XH o.dst base.length=true:=by kernel_rfl):WO Tryz.prog ops Q base (o :: rest) l w :=
 QCd hg he hd hc fun e w' ho=>by
  rcases X with c|⟨s,ys⟩
  · obtain⟨rfl,hb⟩:=ho
    exact hP c w' rfl (hb.after hn.bes)
  · obtain⟨rfl,hN⟩:=ho
    exact hK s ys w' rfl (hn.after hN)
def Goes {β:Type}(Q:Exit→Act→World→Prop)(w0:World)(p:Nat)(G:Except Cy β):Prop:=∀ a c w',a.defers=[]→G=.error c→BesC p c w0 w'→Q (.panic [{ v:=.iface 29 (cyV c),recovered:=false }]) a w'
theorem nI {β:Type} {k:IntKind} {T:Tr (Int×Ms)} {f:Int×Ms→Tr β} {G:Except Cy (β×List Int)} {g:FuncId} {args:Array Value}(hc:Calls Tryz.prog g args w (OutI w p B k (T.run xs)))(hn:NowN w0 p B s xs w)(hr:G=(T.bind f).run xs)
 (hK:∀ v s ys w',kB k v→NowN w0 p B s ys w'→G=(f (v,s)).run ys→WO Tryz.prog ops Q base rest (XL o.dst (.int k v) l) w')
 (hP:Goes Q w0 p G:=by first|exact fun _ _ _ d e b=>And.intro d (OutV.err e b)|exact fun _ _ _ d e b=>And.intro d (OutI.err e b))
 (hg:QA ops base.length base l o=some true:=by kernel_rfl)(he:(execOp (evO base l) o).run Tryz.prog w=.ok (.enter g args) w:=by kernel_rfl)(hd:XH o.dst base.length=true:=by kernel_rfl):WO Tryz.prog ops Q base (o :: rest) l w :=
 nI0 hc hn (fun c w' hX hb=>⟨fun _=>hP _ c w' rfl (hr.trans (Tr.run_bind_error hX _)) hb⟩) (fun v s ys w' hX hk hN=>hK v s ys w' hk hN (hr.trans (Tr.run_bind_ok hX _))) hg he hd
theorem nV {β:Type} {T:Tr Ms} {f:Ms→Tr β} {G:Except Cy (β×List Int)} {g:FuncId} {args:Array Value}(hc:Calls Tryz.prog g args w (OutV w p B (T.run xs)))(hn:NowN w0 p B s xs w)(hr:G=(T.bind f).run xs)
 (hK:∀ s ys w',NowN w0 p B s ys w'→G=(f s).run ys→WO Tryz.prog ops Q base rest (XL o.dst (.tuple #[]) l) w')
 (hP:Goes Q w0 p G:=by first|exact fun _ _ _ d e b=>And.intro d (OutV.err e b)|exact fun _ _ _ d e b=>And.intro d (OutI.err e b))
 (hg:QA ops base.length base l o=some true:=by kernel_rfl)(he:(execOp (evO base l) o).run Tryz.prog w=.ok (.enter g args) w:=by kernel_rfl)(hd:XH o.dst base.length=true:=by kernel_rfl):WO Tryz.prog ops Q base (o :: rest) l w :=
 nV0 hc hn (fun c w' hX hb=>⟨fun _=>hP _ c w' rfl (hr.trans (Tr.run_bind_error hX _)) hb⟩) (fun s ys w' hX hN=>hK s ys w' hN (hr.trans (Tr.run_bind_ok hX _))) hg he hd
theorem nIt {k:IntKind} {T:Tr (Int×Ms)} {G:Except Cy ((Int×Ms)×List Int)} {g:FuncId} {args:Array Value}(hc:Calls Tryz.prog g args w (OutI w p B k (T.run xs)))(hn:NowN w0 p B s xs w)(hr:G=T.run xs)
 (hK:∀ v s ys w',kB k v→NowN w0 p B s ys w'→G=.ok ((v,s),ys)→WO Tryz.prog ops Q base rest (XL o.dst (.int k v) l) w')
 (hP:Goes Q w0 p G:=by exact fun _ _ _ d e b=>And.intro d (OutI.err e b))
 (hg:QA ops base.length base l o=some true:=by kernel_rfl)(he:(execOp (evO base l) o).run Tryz.prog w=.ok (.enter g args) w:=by kernel_rfl)(hd:XH o.dst base.length=true:=by kernel_rfl):WO Tryz.prog ops Q base (o :: rest) l w :=
 nI0 hc hn (fun c w' hX hb=>⟨fun _=>hP _ c w' rfl (hr.trans hX) hb⟩) (fun v s ys w' hX hk hN=>hK v s ys w' hk hN (hr.trans hX)) hg he hd
theorem nVt {T:Tr Ms} {G:Except Cy (Ms×List Int)} {g:FuncId} {args:Array Value}(hc:Calls Tryz.prog g args w (OutV w p B (T.run xs)))(hn:NowN w0 p B s xs w)(hr:G=T.run xs)
 (hK:∀ s ys w',NowN w0 p B s ys w'→G=.ok (s,ys)→WO Tryz.prog ops Q base rest (XL o.dst (.tuple #[]) l) w')
 (hP:Goes Q w0 p G:=by exact fun _ _ _ d e b=>And.intro d (OutV.err e b))
 (hg:QA ops base.length base l o=some true:=by kernel_rfl)(he:(execOp (evO base l) o).run Tryz.prog w=.ok (.enter g args) w:=by kernel_rfl)(hd:XH o.dst base.length=true:=by kernel_rfl):WO Tryz.prog ops Q base (o :: rest) l w :=
 nV0 hc hn (fun c w' hX hb=>⟨fun _=>hP _ c w' rfl (hr.trans hX) hb⟩) (fun s ys w' hX hN=>hK s ys w' hN (hr.trans hX)) hg he hd
theorem nDi {β:Type} {n f:Nat} {listed:Array Bool} {k:IntKind} {T:Tr (Int×Ms)} {F:Int×Ms→Tr β} {G:Except Cy (β×List Int)} {g:FuncId} {args:Array Value}(i:Nat)(hX:∀ {v s' ys},T.run xs=.ok ((v,s'),ys)→s=s')(hc:Calls Tryz.prog g args w (OutI w p B k (T.run xs)))(hn:NowN w0 p B s xs w)(hr:G=(T.bind F).run xs)
 (hK:∀ v ys w',kB k v→NowN w0 p B s ys w'→G=(F (v,s)).run ys→PO Tryz.prog ops Q (SN w0 p B s) n base (f-1) (listed.setIfInBounds i true) (XL o.dst (.int k v) l) w')
 (ho:ops[i]? = some o:=by exact rfl)(hrd:(Region.ready .any ops listed,decide (i < n),Nat.blt 0 f,QA ops base.length base l o,XH o.dst base.length)=([i],true,true,some true,true):=by kernel_rfl)
 (he:(execOp (evO base l) o).run Tryz.prog w=.ok (.enter g args) w:=by kernel_rfl)
 (hP:Goes Q w0 p G:=by first|exact fun _ _ _ d e b=>And.intro d (OutV.err e b)|exact fun _ _ _ d e b=>And.intro d (OutI.err e b)):PO Tryz.prog ops Q (SN w0 p B s) n base f listed l w:=by
 simp only[Prod.mk.injEq] at hrd
 obtain⟨h1,h2,h3,h4,h5⟩:=hrd
 have hf:f=(f-1)+1:=by have:0 < f:=by simpa [Nat.blt_eq] using h3
                       omega
 rw[hf]
 refine QHP ho h1 h2 h4 he h5 hc fun e w' hO=>?_
 rcases hT:T.run xs with c|⟨⟨v,s'⟩,ys⟩
 · rw[hT] at hO
   obtain⟨rfl,hb⟩:=hO
   exact⟨fun _=>hP _ c w' rfl (hr.trans (Tr.run_bind_error hT _)) (hb.after hn.bes)⟩
 · rw[hT] at hO
   obtain⟨rfl,hk,hN⟩:=hO
   obtain rfl:=hX hT
   exact⟨⟨_,hn.after hN⟩,hK v ys w' hk (hn.after hN) (hr.trans (Tr.run_bind_ok hT _))⟩
theorem nB {V:Value} {g:FuncId} {args:Array Value}(hc:Calls Tryz.prog g args w fun e w'=>e=.returned V∧Below w.heap.size w w')(hn:NowN w0 p B s xs w)(h:∀ w',NowN w0 p B s xs w'→WO Tryz.prog ops Q base rest (XL o.dst V l) w')
 (hg:QA ops base.length base l o=some true:=by kernel_rfl)(he:(execOp (evO base l) o).run Tryz.prog w=.ok (.enter g args) w:=by kernel_rfl)(hd:XH o.dst base.length=true:=by kernel_rfl):WO Tryz.prog ops Q base (o :: rest) l w :=
 kO hc (fun w' hb=>h w' (hn.below hb)) hg he hd
theorem nA {V:Value} {s':Ms} {ys:List Int} {g:FuncId} {args:Array Value}(hc:Calls Tryz.prog g args w fun e w'=>e=.returned V∧NowN w p B s' ys w')(hn:NowN w0 p B s xs w)(h:∀ w',NowN w0 p B s' ys w'→WO Tryz.prog ops Q base rest (XL o.dst V l) w')
 (hg:QA ops base.length base l o=some true:=by kernel_rfl)(he:(execOp (evO base l) o).run Tryz.prog w=.ok (.enter g args) w:=by kernel_rfl)(hd:XH o.dst base.length=true:=by kernel_rfl):WO Tryz.prog ops Q base (o :: rest) l w :=
 kO hc (fun w' hk=>h w' (hn.after hk)) hg he hd
end
section
variable {α β:Type} {xs:List Int} {G:Except Cy (β×List Int)} {c:Prop} [Decidable c]
theorem dN {a:β}(h:G=(Tr.done a).run xs):G=.ok (a,xs):=h.trans (Tr.run_done _ _)
theorem pN {t e:Tr β}(h:G=(if c then t else e).run xs)(hc:c:=by first|assumption|omega):G=t.run xs:=h.trans (JK hc)
theorem qN {t e:Tr β}(h:G=(if c then t else e).run xs)(hc:¬c:=by first|assumption|omega):G=e.run xs:=h.trans (JG hc)
theorem pbN {t e:Tr α} {f:α→Tr β}(h:G=((if c then t else e).bind f).run xs)(hc:c:=by first|assumption|omega):G=(t.bind f).run xs:=h.trans (qj hc)
theorem qbN {t e:Tr α} {f:α→Tr β}(h:G=((if c then t else e).bind f).run xs)(hc:¬c:=by first|assumption|omega):G=(e.bind f).run xs:=h.trans (qh hc)
variable {P:Program} {Q:Exit→Act→World→Prop} {base:List Value} {l:J0} {w:World}
theorem nIf {t e:Tr β} {o:Operand} {x y:Code}(h:G=(if c then t else e).run xs)(h1:c→G=t.run xs→CO P x Q base l w)(h2:¬c→G=e.run xs→CO P y Q base l w)(hc:evO base l o=.bool (decide c):=by kernel_rfl):CO P (.cond o x y) Q base l w :=
 coI (decide c) (fun k=>h1 (of_decide_eq_true k) (pN h (of_decide_eq_true k))) (fun k=>h2 (of_decide_eq_false k) (qN h (of_decide_eq_false k))) hc
theorem QFn {t e:Tr α} {f:α→Tr β} {o:Operand} {x y:Code}(h:G=((if c then t else e).bind f).run xs)(h1:c→G=(t.bind f).run xs→CO P x Q base l w)(h2:¬c→G=(e.bind f).run xs→CO P y Q base l w)(hc:evO base l o=.bool (decide c):=by kernel_rfl):CO P (.cond o x y) Q base l w :=
 coI (decide c) (fun k=>h1 (of_decide_eq_true k) (pbN h (of_decide_eq_true k))) (fun k=>h2 (of_decide_eq_false k) (qbN h (of_decide_eq_false k))) hc
end
theorem qu (a:Int)(hAa:Wd16 a){s:Ms} {xs:List Int} {w:World} {p B:Nat}(h:AtN w p B s xs) :
 Calls Tryz.prog 252 #[pT p 0,.int .u16 (a)] w (OutI w p B .u8 ((Jq a s).run xs)):=by
 have hn:=NowN.begin h
 have hr:(Jq a s).run xs=(Jq a s).run xs:=rfl
 go_enter Tryz.func252,Tryz.ntmps252
 exact JB<|nQ hn<|coR<|nR 3 hn<|nI (QF6 ⟨2,a,0,3⟩ ⟨hAa,B8.zero⟩ hn.at_) hn hr<|fun v3 s3 xs3 w3 hk3 hn hr=>nE hn<|JF<|Jj (.int .u8 (v3)) (OutI.ok (dN hr) (hk3) hn)
theorem Ze (a:Int)(hAa:Wd16 a)(b:Int)(hAb:B8 b){s:Ms} {xs:List Int} {w:World} {p B:Nat}(h:AtN w p B s xs) :
 Calls Tryz.prog 256 #[pT p 0,.int .u16 (a),.int .u8 (b)] w (OutV w p B ((Jc a b s).run xs)):=by
 have hn:=NowN.begin h
 have hr:(Jc a b s).run xs=(Jc a b s).run xs:=rfl
 go_enter Tryz.func256,Tryz.ntmps256
 exact JB<|coZ<|nR 4 hn<|nI (QF6 ⟨3,a,b,3⟩ ⟨hAa,hAb⟩ hn.at_) hn hr<|fun v1 s1 xs1 w1 hk1 hn hr=>woE<|eoV (OutV.ok (dN hr) hn)
theorem QR7 (a:Int)(hAa:Wd16 a){s:Ms} {xs:List Int} {w:World} {p B:Nat}(h:AtN w p B s xs) :
 Calls Tryz.prog 260 #[pT p 0,.int .u16 (a)] w (OutI w p B .u8 ((inN a s).run xs)):=by
 have hn:=NowN.begin h
 have hr:(inN a s).run xs=(inN a s).run xs:=rfl
 go_enter Tryz.func260,Tryz.ntmps260
 exact JB<|nQ hn<|coR<|nR 3 hn<|nI (QF6 ⟨4,a,0,4⟩ ⟨hAa,B8.zero⟩ hn.at_) hn hr<|fun v3 s3 xs3 w3 hk3 hn hr=>nE hn<|JF<|Jj (.int .u8 (v3)) (OutI.ok (dN hr) (hk3) hn)
theorem QLE (a:Int)(hAa:Wd16 a)(b:Int)(hAb:B8 b){s:Ms} {xs:List Int} {w:World} {p B:Nat}(h:AtN w p B s xs) :
 Calls Tryz.prog 262 #[pT p 0,.int .u16 (a),.int .u8 (b)] w (OutV w p B ((QM a b s).run xs)):=by
 have hn:=NowN.begin h
 have hr:(QM a b s).run xs=(QM a b s).run xs:=rfl
 go_enter Tryz.func262,Tryz.ntmps262
 exact JB<|coZ<|nR 4 hn<|nI (QF6 ⟨5,a,b,4⟩ ⟨hAa,hAb⟩ hn.at_) hn hr<|fun v1 s1 xs1 w1 hk1 hn hr=>woE<|eoV (OutV.ok (dN hr) hn)
theorem QK (n:Int){s:Ms} {xs:List Int} {w:World} {p B:Nat}(h:AtN w p B s xs) :
 Calls Tryz.prog 135 #[pT p 0,.int .i64 (n)] w (OutV w p B ((JT n s).run xs)):=by
 have hn:=NowN.begin h
 have hr:(JT n s).run xs=(JT n s).run xs:=rfl
 go_enter Tryz.func135,Tryz.ntmps135
 exact JB<|coZ<|nR 3 hn<|nI (QF6 ⟨7,0,0,n⟩ ⟨Wd16.zero,B8.zero⟩ hn.at_) hn hr<|fun v1 s1 xs1 w1 hk1 hn hr=>woE<|eoV (OutV.ok (dN hr) hn)
theorem QJF  {s:Ms} {xs:List Int} {w:World} {p B:Nat}(h:AtN w p B s xs) :
 Calls Tryz.prog 72 #[pT p 0] w (OutI w p B .u8 ((JW s).run xs)):=by
 have hn:=NowN.begin h
 have hr:(JW s).run xs=(JW s).run xs:=rfl
 go_enter Tryz.func72,Tryz.ntmps72
 exact JB<|nQ hn<|have b3:=hn.at_.ms.r.pc;coR<|nR 7 hn<|nI (QF6 ⟨1,s.r.pc,0,4⟩ ⟨b3,B8.zero⟩ hn.at_) hn hr<|fun v4 s4 xs4 w4 hk4 hn hr=>nE hn<|have b6:=hn.at_.ms.r;coR<|nR 5 hn<|nB (QIJ s4.r 1 (b6).r _) hn<|fun w7 hn=>nEs hn _ (hn.at_.ms.u_rg ((b6).tick _))<|fun w8 hn=>nQ hn<|JF<|Jj (.int .u8 (v4)) (OutI.ok (dN hr) (hk4) hn)
theorem QAx  {s:Ms} {xs:List Int} {w:World} {p B:Nat}(h:AtN w p B s xs) :
 Calls Tryz.prog 75 #[pT p 0] w (OutI w p B .u8 ((Jd s).run xs)):=by
 have hn:=NowN.begin h
 have hr:(Jd s).run xs=(Jd s).run xs:=rfl
 go_enter Tryz.func75,Tryz.ntmps75
 exact JB<|nQ hn<|coR<|nR 1 hn<|nI (QJF hn.at_) hn hr<|fun v3 s3 xs3 w3 hk3 hn hr=>nE hn<|have b5:=hn.at_.ms.r.pc;nQs hn (.u_pc _ ((s3.r.pc+1)%65536)) (hn.at_.ms.u_pc (Wd16.mod _))<|fun w6 hn=>nQ hn<|JF<|Jj (.int .u8 (v3)) (OutI.ok (dN hr) (hk3) hn)
theorem Z7  {s:Ms} {xs:List Int} {w:World} {p B:Nat}(h:AtN w p B s xs) :
 Calls Tryz.prog 187 #[pT p 0] w (OutI w p B .u8 ((JV s).run xs)):=by
 have hn:=NowN.begin h
 have hr:(JV s).run xs=(JV s).run xs:=rfl
 go_enter Tryz.func187,Tryz.ntmps187
 exact JB<|nQ hn<|have b3:=hn.at_.ms.r.pc;coR<|nR 6 hn<|nI (qu s.r.pc (b3) hn.at_) hn hr<|fun v4 s4 xs4 w4 hk4 hn hr=>nE hn<|have b6:=hn.at_.ms.r.pc;nQs hn (.u_pc _ ((s4.r.pc+1)%65536)) (hn.at_.ms.u_pc (Wd16.mod _))<|fun w7 hn=>nQ hn<|JF<|Jj (.int .u8 (v4)) (OutI.ok (dN hr) (hk4) hn)
theorem zo  {s:Ms} {xs:List Int} {w:World} {p B:Nat}(h:AtN w p B s xs) :
 Calls Tryz.prog 229 #[pT p 0] w (OutI w p B .u16 ((Jt s).run xs)):=by
 have hn:=NowN.begin h
 have hr:(Jt s).run xs=(Jt s).run xs:=rfl
 go_enter Tryz.func229,Tryz.ntmps229
 exact JB<|nQ hn<|coR<|nR 1 hn<|nI (Z7 hn.at_) hn hr<|fun v3 s3 xs3 w3 hk3 hn hr=>nE hn<|coR<|nR 1 hn<|nI (Z7 hn.at_) hn hr<|fun v5 s5 xs5 w5 hk5 hn hr=>nE hn<|coR<|nR 2 hn<|kE (J1 v5 v3 (hk5).1 (hk5).2 (hk3).1 (hk3).2 _)<|nE hn<|JF<|Jj (.int .u16 (256*v5+v3)) (OutI.ok (dN hr) (Wd16.mk8 (hk5) (hk3)) hn)
theorem QEC (a:Int)(hAa:Wd16 a){s:Ms} {xs:List Int} {w:World} {p B:Nat}(h:AtN w p B s xs) :
 Calls Tryz.prog 270 #[pT p 0,.int .u16 (a)] w (OutI w p B .u16 ((JY a s).run xs)):=by
 have hn:=NowN.begin h
 have hr:(JY a s).run xs=(JY a s).run xs:=rfl
 go_enter Tryz.func270,Tryz.ntmps270
 exact JB<|nQ hn<|coR<|nR 2 hn<|nI (qu a (hAa) hn.at_) hn hr<|fun v3 s3 xs3 w3 hk3 hn hr=>nE hn<|coR<|nR 3 hn<|nI (qu ((a+1)%65536) (Wd16.mod _) hn.at_) hn hr<|fun v5 s5 xs5 w5 hk5 hn hr=>nE hn<|coR<|nR 2 hn<|kE (J1 v5 v3 (hk5).1 (hk5).2 (hk3).1 (hk3).2 _)<|nE hn<|JF<|Jj (.int .u16 (256*v5+v3)) (OutI.ok (dN hr) (Wd16.mk8 (hk5) (hk3)) hn)
theorem QHo (x:Int)(hAx:Wd16 x){s:Ms} {xs:List Int} {w:World} {p B:Nat}(h:AtN w p B s xs) :
 Calls Tryz.prog 233 #[pT p 0,.int .u16 (x)] w (OutV w p B ((Jv x s).run xs)):=by
 have hn:=NowN.begin h
 have hr:(Jv x s).run xs=(Jv x s).run xs:=rfl
 go_enter Tryz.func233,Tryz.ntmps233
 exact JB<|have b2:=hn.at_.ms.r.sp;nQs hn (.u_sp _ ((s.r.sp-1)%65536)) (hn.at_.ms.u_sp (Wd16.mod _))<|fun w3 hn=>nP 8 hn<|fun w5 hn=>have b6:=hn.at_.ms.r.sp;nD [0,1,2,3,4,5,6] hn<|nDe 7 (qy x (hAx).1 (hAx).2 _) hn<|poE<|nV (Ze ((s.u_sp ((s.r.sp-1)%65536)).r.sp) (b6) (x / 256) ((hAx).hi) hn.at_) hn hr<|fun s8 xs8 w8 hn hr=>wT<|have b10:=hn.at_.ms.r.sp;nQs hn (.u_sp _ ((s8.r.sp-1)%65536)) (hn.at_.ms.u_sp (Wd16.mod _))<|fun w11 hn=>nPz 8 hn<|fun w12 hn=>have b13:=hn.at_.ms.r.sp;nD [0,1,2,3,4,5,6] hn<|nDe 7 (qK x (hAx).1 (hAx).2 _) hn<|poE<|nV (Ze ((s8.u_sp ((s8.r.sp-1)%65536)).r.sp) (b13) (x%256) ((hAx).lo8) hn.at_) hn hr<|fun s15 xs15 w15 hn hr=>woE<|eoV (OutV.ok (dN hr) hn)
theorem QJZ  {s:Ms} {xs:List Int} {w:World} {p B:Nat}(h:AtN w p B s xs) :
 Calls Tryz.prog 203 #[pT p 0] w (OutI w p B .u16 ((QS s).run xs)):=by
 have hn:=NowN.begin h
 have hr:(QS s).run xs=(QS s).run xs:=rfl
 go_enter Tryz.func203,Tryz.ntmps203
 exact JB<|nQ hn<|have b3:=hn.at_.ms.r.sp;coR<|nR 6 hn<|nI (QEC s.r.sp (b3) hn.at_) hn hr<|fun v4 s4 xs4 w4 hk4 hn hr=>nE hn<|have b6:=hn.at_.ms.r.sp;nQs hn (.u_sp _ ((s4.r.sp+2)%65536)) (hn.at_.ms.u_sp (Wd16.mod _))<|fun w7 hn=>nQ hn<|JF<|Jj (.int .u16 (v4)) (OutI.ok (dN hr) (hk4) hn)
theorem QCo (x:Int)(hAx:Wd16 x){s:Ms} {xs:List Int} {w:World} {p B:Nat}(h:AtN w p B s xs) :
 Calls Tryz.prog 202 #[pT p 0,.int .u16 (x)] w (fun e w'=>e=.returned (.tuple #[])∧NowN w p B (s.goTo x) xs w'):=by
 have hn:=NowN.begin h
 go_enter Tryz.func202,Tryz.ntmps202
 exact JB<|coZ<|nRs 8 hn (.u_pc _ (x)) (hn.at_.ms.u_pc (hAx))<|fun w1 hn=>nFs hn (.u_wz _ (x)) (hn.at_.ms.u_wz (hAx))<|fun w2 hn=>eoV (⟨rfl,hn⟩)
theorem m_a  {s:Ms} {xs:List Int} {w:World} {p B:Nat}(h:AtN w p B s xs) :
 Calls Tryz.prog 201 #[pT p 0] w (fun e w'=>e=.returned (.int .u8 (s.a))∧NowN w p B (s) xs w'):=by
 have hn:=NowN.begin h
 go_enter Tryz.func201,Tryz.ntmps201
 exact JB<|nQ hn<|have b3:=hn.at_.ms.r.af;coR<|nR 5 hn<|kE (qy s.r.af (b3).1 (b3).2 _)<|nE hn<|JF<|Jj (.int .u8 (s.r.af / 256)) (⟨rfl,hn⟩)
theorem m_f  {s:Ms} {xs:List Int} {w:World} {p B:Nat}(h:AtN w p B s xs) :
 Calls Tryz.prog 190 #[pT p 0] w (fun e w'=>e=.returned (.int .u8 (s.f))∧NowN w p B (s) xs w'):=by
 have hn:=NowN.begin h
 go_enter Tryz.func190,Tryz.ntmps190
 exact JB<|nQ hn<|have b3:=hn.at_.ms.r.af;coR<|nR 5 hn<|kE (qK s.r.af (b3).1 (b3).2 _)<|nE hn<|JF<|Jj (.int .u8 (s.r.af%256)) (⟨rfl,hn⟩)
theorem QPU (x:Int)(hAx:B8 x){s:Ms} {xs:List Int} {w:World} {p B:Nat}(h:AtN w p B s xs) :
 Calls Tryz.prog 302 #[pT p 0,.int .u8 (x)] w (fun e w'=>e=.returned (.tuple #[])∧NowN w p B (s.setA x) xs w'):=by
 have hn:=NowN.begin h
 go_enter Tryz.func302,Tryz.ntmps302
 exact JB<|have b1:=Ql hn.at_.ms;coZ<|nR 3 hn<|nA (m_f hn.at_) hn<|fun w2 hn=>kE (J1 x s.f (hAx).1 (hAx).2 (b1).1 (b1).2 _)<|nFs hn (.u_af _ (256*x+s.f)) (hn.at_.ms.u_af (Wd16.mk8 (hAx) (b1)))<|fun w4 hn=>eoV (⟨rfl,hn⟩)
theorem Zh (x:Int)(hAx:B8 x){s:Ms} {xs:List Int} {w:World} {p B:Nat}(h:AtN w p B s xs) :
 Calls Tryz.prog 191 #[pT p 0,.int .u8 (x)] w (fun e w'=>e=.returned (.tuple #[])∧NowN w p B (s.setF x) xs w'):=by
 have hn:=NowN.begin h
 go_enter Tryz.func191,Tryz.ntmps191
 exact JB<|have b1:=jD hn.at_.ms;coZ<|nR 2 hn<|nA (m_a hn.at_) hn<|fun w2 hn=>nR 1 hn<|kE (J1 s.a x (b1).1 (b1).2 (hAx).1 (hAx).2 _)<|nFs hn (.u_af _ (256*s.a+x)) (hn.at_.ms.u_af (Wd16.mk8 (b1) (hAx)))<|fun w4 hn=>eoV (⟨rfl,hn⟩)
theorem QGy  {s:Ms} {xs:List Int} {w:World} {p B:Nat}(h:AtN w p B s xs) :
 Calls Tryz.prog 261 #[pT p 0] w (fun e w'=>e=.returned (.int .u8 (s.carry))∧NowN w p B (s) xs w'):=by
 have hn:=NowN.begin h
 go_enter Tryz.func261,Tryz.ntmps261
 exact JB<|nQ hn<|have b3:=Ql hn.at_.ms;coR<|nR 1 hn<|nA (m_f hn.at_) hn<|fun w4 hn=>QKZ 5 (eg8 _ _ _ _ _) (QR2 s.f b3)<|nE hn<|JF<|Jj (.int .u8 (one (isM s.f 0))) (⟨rfl,hn⟩)
theorem QL2  {s:Ms} {xs:List Int} {w:World} {p B:Nat}(h:AtN w p B s xs) :
 Calls Tryz.prog 214 #[pT p 0] w (fun e w'=>e=.returned (.int .u16 (s.hl))∧NowN w p B (s) xs w'):=by
 have hn:=NowN.begin h
 go_enter Tryz.func214,Tryz.ntmps214
 exact JB<|nQ hn<|nP 9 hn<|fun w3 hn=>have b4:=hn.at_.ms.r;nD [0,1,2,3,4,5,6,7] hn<|nDb 8 (QIo s.r s.plane 2 _) hn<|fun w5 hn=>poE<|nE hn<|JF<|Jj (.int .u16 (Jk s.r s.plane 2)) (⟨rfl,hn⟩)
theorem QHh (x:Int)(hAx:Wd16 x){s:Ms} {xs:List Int} {w:World} {p B:Nat}(h:AtN w p B s xs) :
 Calls Tryz.prog 284 #[pT p 0,.int .u16 (x)] w (fun e w'=>e=.returned (.tuple #[])∧NowN w p B (s.setHL x) xs w'):=by
 have hn:=NowN.begin h
 go_enter Tryz.func284,Tryz.ntmps284
 exact JB<|nPz 13 hn<|fun w1 hn=>have b2:=hn.at_.ms.r;nD [0,1,2,3,4,5,6,7,8,9] hn<|nDb 10 (QDA s.r s.plane 2 x _) hn<|fun w3 hn=>nD [11,12] hn<|poE<|nFs hn _ (hn.at_.ms.u_rg ((b2).setPair _ _ (hAx)))<|fun w4 hn=>eoV (⟨rfl,hn⟩)
theorem qJ  {s:Ms} {xs:List Int} {w:World} {p B:Nat}(h:AtN w p B s xs) :
 Calls Tryz.prog 264 #[pT p 0] w (fun e w'=>e=.returned (.int .u16 (s.pair))∧NowN w p B (s) xs w'):=by
 have hn:=NowN.begin h
 go_enter Tryz.func264,Tryz.ntmps264
 exact JB<|nQ hn<|nP 13 hn<|fun w3 hn=>have b4:=hn.at_.ms.r;nD [0,1,2,3,4,5,6,7,8,9,10,11] hn<|nDb 12 (QIo s.r s.plane s.p _) hn<|fun w5 hn=>poE<|nE hn<|JF<|Jj (.int .u16 (Jk s.r s.plane s.p)) (⟨rfl,hn⟩)
theorem q8 (x:Int)(hAx:Wd16 x){s:Ms} {xs:List Int} {w:World} {p B:Nat}(h:AtN w p B s xs) :
 Calls Tryz.prog 267 #[pT p 0,.int .u16 (x)] w (fun e w'=>e=.returned (.tuple #[])∧NowN w p B (s.setPair x) xs w'):=by
 have hn:=NowN.begin h
 go_enter Tryz.func267,Tryz.ntmps267
 exact JB<|nPz 17 hn<|fun w1 hn=>have b2:=hn.at_.ms.r;nD [0,1,2,3,4,5,6,7,8,9,10,11,12,13] hn<|nDb 14 (QDA s.r s.plane s.p x _) hn<|fun w3 hn=>nD [15,16] hn<|poE<|nFs hn _ (hn.at_.ms.u_rg ((b2).setPair _ _ (hAx)))<|fun w4 hn=>eoV (⟨rfl,hn⟩)
theorem QDT (k:Int){s:Ms} {xs:List Int} {w:World} {p B:Nat}(h:AtN w p B s xs) :
 Calls Tryz.prog 225 #[pT p 0,.int .i64 (k)] w (OutI w p B .u8 ((ZN k s).run xs)):=by
 have hn:=NowN.begin h
 have hr:(ZN k s).run xs=(ZN k s).run xs:=rfl
 go_enter Tryz.func225,Tryz.ntmps225
 refine JB<|nQ hn<|coS<|nQ hn<|nIf hr (fun g4 hr=>?_) fun g4 hr=>?_
 · exact have b6:=hn.at_.ms.spot;coR<|nR 5 hn<|nI (qu s.spot (b6) hn.at_) hn hr<|fun v7 s7 xs7 w7 hk7 hn hr=>nE hn<|JF<|Jp<|Jj (.int .u8 (v7)) (OutI.ok (dN hr) (hk7) hn)
 exact JC<|eoT<|nP 10 hn<|fun w9 hn=>have b10:=hn.at_.ms.r;nD [0,1,2,3,4,5,6,7,8] hn<|nDb 9 (QQ8 s.r (b10) s.plane k _) hn<|fun w11 hn=>poE<|nE hn<|JF<|Jj (.int .u8 (qd s.r s.plane k)) (OutI.ok (dN hr) ((b10).get _ _) hn)
theorem zx (k:Int)(b:Int)(hAb:B8 b){s:Ms} {xs:List Int} {w:World} {p B:Nat}(h:AtN w p B s xs) :
 Calls Tryz.prog 224 #[pT p 0,.int .i64 (k),.int .u8 (b)] w (OutV w p B ((ZW k b s).run xs)):=by
 have hn:=NowN.begin h
 have hr:(ZW k b s).run xs=(ZW k b s).run xs:=rfl
 go_enter Tryz.func224,Tryz.ntmps224
 refine JB<|coS<|nQ hn<|nIf hr (fun g3 hr=>?_) fun g3 hr=>?_
 · exact have b5:=hn.at_.ms.spot;coR<|nR 6 hn<|nV (Ze s.spot (b5) b (hAb) hn.at_) hn hr<|fun s6 xs6 w6 hn hr=>wT<|JF<|Jp<|qx (OutV.ok (dN hr) hn)
 exact JC<|eoT<|nPz 14 hn<|fun w7 hn=>have b8:=hn.at_.ms.r;nD [0,1,2,3,4,5,6,7,8,9,10] hn<|nDb 11 (QQx s.r (b8) s.plane k b (hAb) _) hn<|fun w9 hn=>nD [12,13] hn<|poE<|nFs hn _ (hn.at_.ms.u_rg ((b8).set _ _ (hAb)))<|fun w10 hn=>eoV (OutV.ok (dN hr) hn)
theorem QHZ (c:Int)(hAc:B8 c){s:Ms} {xs:List Int} {w:World} {p B:Nat}(h:AtN w p B s xs) :
 Calls Tryz.prog 124 #[pT p 0,.int .u8 (c)] w (fun e w'=>e=.returned (.tuple #[])∧NowN w p B (s.split c) xs w'):=by
 have hn:=NowN.begin h
 go_enter Tryz.func124,Tryz.ntmps124
 exact JB<|coZ<|nR 6 hn<|kE (QFP c (hAc) _)<|nRs 9 hn (.u_x _ (fx c)) (hn.at_.ms.u_x (QSn c (hAc)))<|fun w2 hn=>nRs 3 hn (.u_y _ (fy c)) (hn.at_.ms.u_y (QFJ c (hAc)))<|fun w3 hn=>nRs 3 hn (.u_z _ (fz c)) (hn.at_.ms.u_z (QTH c (hAc)))<|fun w4 hn=>nRs 3 hn (.u_p _ (fp c)) (hn.at_.ms.u_p (fpB c (hAc)))<|fun w5 hn=>nFs hn (.u_q _ (fq c)) (hn.at_.ms.u_q (fqB c (hAc)))<|fun w6 hn=>eoV (⟨rfl,hn⟩)
theorem QDt (c:Int){s:Ms} {xs:List Int} {w:World} {p B:Nat}(h:AtN w p B s xs) :
 Calls Tryz.prog 227 #[pT p 0,.int .i64 (c)] w (fun e w'=>e=.returned (.bool (s.holds c))∧NowN w p B (s) xs w'):=by
 have hn:=NowN.begin h
 go_enter Tryz.func227,Tryz.ntmps227
 exact JB<|nQ hn<|have b3:=Ql hn.at_.ms;coR<|nR 1 hn<|nA (m_f hn.at_) hn<|fun w4 hn=>nR 1 hn<|kE (QOg s.f c (b3).1 (b3).2 _ hn.at_.tabs.masks)<|nE hn<|JF<|Jj (.bool (Z4 s.f c)) (⟨rfl,hn⟩)
theorem QPN (k:Int)(hk:k≠6){s:Ms} {xs:List Int} {w:World} {p B:Nat}(h:AtN w p B s xs) :
 Calls Tryz.prog 225 #[pT p 0,.int .i64 k] w (fun e w'=>e=.returned (.int .u8 (qd s.r s.plane k))∧NowN w p B s xs w'):=by
 refine (QDT k h).mono ?_
 intro e w' ho
 have hr:(ZN k s).run xs=.ok ((qd s.r s.plane k,s),xs):=by rw[ZN,if_neg hk,Tr.run_done]
 rw[hr] at ho
 exact⟨ho.1,ho.2.2⟩
theorem QSy (k:Int)(b:Int)(hb:B8 b)(hk:k≠6){s:Ms} {xs:List Int} {w:World} {p B:Nat}(h:AtN w p B s xs) :
 Calls Tryz.prog 224 #[pT p 0,.int .i64 k,.int .u8 b] w (fun e w'=>e=.returned (.tuple #[])∧NowN w p B (s.u_rg (QCF s.r s.plane k b)) xs w'):=by
 refine (zx k b hb h).mono ?_
 intro e w' ho
 have hr:(ZW k b s).run xs=.ok (s.u_rg (QCF s.r s.plane k b),xs):=by rw[ZW,if_neg hk,Tr.run_done];rfl
 rw[hr] at ho
 exact ho
theorem QDR {a:Int} {s s':Ms} {xs ys:List Int} {v:Int}(h:(Jq a s).run xs=.ok ((v,s'),ys)):s=s':=by
 cases xs with
 | nil=>cases h
 | cons b bs =>
   have e:(Jq a s).run (b :: bs)=.ok ((b,s),bs):=Tr.run_done _ _
   rw[e] at h
   cases h
   rfl
theorem QHH {a:Int} {s s':Ms} {xs ys:List Int}(h:(JT a s).run xs=.ok (s',ys)):s=s':=by
 cases xs with
 | nil=>cases h
 | cons b bs =>
   have e:(JT a s).run (b :: bs)=.ok (s,bs):=Tr.run_done _ _
   rw[e] at h
   cases h
   rfl
theorem QCk {k:Int} {s s':Ms} {xs ys:List Int} {v:Int}(h:(ZN k s).run xs=.ok ((v,s'),ys)):s=s':=by
 unfold ZN at h
 split at h
 · exact QDR h
 · rw[Tr.run_done] at h
   cases h
   rfl
theorem qt {s s':Ms} {xs ys:List Int} {v:Int}(h:(XO s).run xs=.ok ((v,s'),ys)):s=s':=by
 unfold XO at h
 split at h
 · rw[Tr.run_bind] at h
   cases e:(Jq s.spot s).run xs with
   | error c=>rw[e] at h;cases h
   | ok r =>
     obtain⟨⟨b,t⟩,zs⟩:=r
     rw[e] at h
     obtain rfl:=QDR e
     simp only[Tr.run_bind] at h
     cases e2:(JT 1 s).run zs with
     | error c=>rw[e2] at h;cases h
     | ok r =>
       obtain⟨t,us⟩:=r
       rw[e2] at h
       obtain rfl:=QHH e2
       simp only[Tr.run_done] at h
       cases h
       rfl
 · exact QCk h
end Go.Proofs.YtkenebbjodcbcaaGreatDoor
