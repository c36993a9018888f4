/- Contracts and facts that the claim's proof wants (several texts in one). -/
import Derived.LaidLaws
import Derived.ChangeArms
import Derived.OpenShut
import Derived.FnData
namespace Go.Proofs.YtkgaeamdhhceiaaGreatDoor
open Go.RowKit
set_option linter.unusedVariables false
set_option linter.unusedSimpArgs false
set_option maxRecDepth 20000
set_option maxHeartbeats 20000000
def QHS {H:Type}(F:TypeId→DataW H→Option (List Value)):List (TypeId×Nat)→List (DataW H)→Nat→Option (List Value)
 | [],[],_=>some []
 | (e,o) :: L,d :: ds,cur=>if o=cur then (F e d).bind fun a=>(QHS F L ds (cur+a.length)).map fun b=>a++b else none
 | _,_,_=>none
def flat {H:Type}(P:Program):Nat→TypeId→DataW H→Option (List Value)
 | 0,_,_=>none
 | k+1,t,d=>match P.underlying t,d with
   | some (.int q),.lit (.int q' n)=>if q=q' then some [.int q n] else none
   | some .bool,.lit (.bool b)=>some [.bool b]
   | some .string,.lit (.string bs)=>some [.string ⟨bs.toArray⟩]
   | some (.array n e),.agg ds=>(QHS (flat P k) ((List.range n).map fun i=>(e,i*P.cellsOf e)) ds 0).bind fun out=>if out.length=P.cellsOf t then some out else none
   | some (.struct fs),.agg ds=>(QHS (flat P k) (fs.toList.map fun f=>(f.type,f.offset)) ds 0).bind fun out=>if out.length=P.cellsOf t then some out else none
   | _,_=>none
section
variable {H:Type} {enc:TypeId×Value→H} {P:Program} {w:World} {base:Nat} {sp:Nat→Bool} {held:Bool}
theorem QFM (F:TypeId→DataW H→Option (List Value))(m:Nat)(cs:List Value)
 (hF:∀ e d cs' p a,DataW.trod enc P w base sp held m e cs'=some (d,p)→F e d=some a→cs'=a) :
 ∀ (L:List (TypeId×Nat)) (xs:List (DataW H×List MemPlace)) (cur:Nat) (out:List Value),L.length=xs.length →
  (∀ (i:Nat) (e:TypeId) (o:Nat),L[i]?=some (e,o)→DataW.trod enc P w base sp held m e ((cs.drop o).take (P.cellsOf e))=xs[i]?)→QHS F L (xs.map (·.1)) cur=some out→(cs.drop cur).take out.length=out
 | [],[],cur,out,_,_,h=>by
   simp only[List.map_nil,QHS,Option.some.injEq] at h
   subst h;simp
 | (e,o) :: L,(d,p) :: xs,cur,out,hl,hx,h=>by
   simp only[List.map_cons,QHS] at h
   split at h
   · rename_i ho
     subst ho
     obtain⟨a,ha,h⟩:=Option.bind_eq_some_iff.1 h
     obtain⟨b,hb,rfl⟩:=Option.map_eq_some_iff.1 h
     have h0:=hx 0 e o rfl
     have e1:=hF e d _ p a (by simpa using h0) ha
     have ih:=QFM F m cs hF L xs (o+a.length) b (by simpa using hl) (fun i e' o' hi=>by simpa using hx (i+1) e' o' (by simpa using hi)) hb
     have e2:(cs.drop o).take a.length=a:=by
      conv=>rhs;rw[←e1]
      rw[←e1,List.length_take]
      rcases Nat.le_total (P.cellsOf e) (cs.drop o).length with hq|hq
      · rw[Nat.min_eq_left hq]
      · rw[Nat.min_eq_right hq,List.take_length,List.take_of_length_le hq]
     have e3:cs.drop o=a++cs.drop (o+a.length):=by
      conv=>lhs;rw[←List.take_append_drop a.length (cs.drop o),e2,List.drop_drop]
     rw[e3,List.length_append,List.take_length_add_append,ih]
   · cases h
 | [],_ :: _,_,_,hl,_,_=>by simp at hl
 | _ :: _,[],_,_,hl,_,_=>by simp at hl
theorem QIO:∀ (k:Nat) (t:TypeId) (d:DataW H) (cs:List Value) (fuel:Nat) (p:List MemPlace) (out:List Value),DataW.trod enc P w base sp held fuel t cs=some (d,p)→flat P k t d=some out→cs=out
 | 0,_,_,_,_,_,_,_,h=>by simp[flat] at h
 | k+1,t,d,cs,fuel,p,out,ht,h=>by
   unfold flat at h
   split at h
   · rename_i hu
     split at h
     · rename_i hq
       subst hq
       obtain⟨n,rfl,e,_⟩:=DataW.trod_int hu ht
       simp only[Prod.mk.injEq,DataW.lit.injEq,Lit.int.injEq,true_and] at e
       obtain⟨rfl,_⟩:=e
       exact Option.some.inj h
     · cases h
   · rename_i hu
     obtain⟨b,rfl,e⟩:=DataW.trod_bool hu ht
     simp only[Prod.mk.injEq,DataW.lit.injEq,Lit.bool.injEq] at e
     obtain⟨rfl,_⟩:=e
     exact Option.some.inj h
   · rename_i hu
     obtain⟨s,rfl,e,_⟩:=DataW.trod_string hu ht
     simp only[Prod.mk.injEq,DataW.lit.injEq,Lit.string.injEq] at e
     obtain⟨rfl,_⟩:=e
     exact Option.some.inj h
   · rename_i n e ds hu
     obtain⟨xs,m,rfl,hx,hlen,hxl,hi⟩:=DataW.trod_array hu ht
     simp only[Prod.mk.injEq,DataW.agg.injEq] at hx
     obtain⟨rfl,rfl⟩:=hx
     obtain⟨o,ho,h⟩:=Option.bind_eq_some_iff.1 h
     split at h
     · rename_i hol
       obtain rfl:=Option.some.inj h
       have:=QFM (flat P k) m cs (fun e d cs' p a h1 h2=>QIO k e d cs' m p a h1 h2) _ xs 0 o (by simp[hxl]) (fun i e' o' hq=>by
        simp only[List.getElem?_map,Option.map_eq_some_iff,Prod.mk.injEq] at hq
        obtain⟨j,hj,rfl,rfl⟩:=hq
        obtain⟨hj1,hj2⟩:=List.getElem?_eq_some_iff.1 hj
        simp only[List.getElem_range] at hj2
        subst hj2
        exact hi _ (by simpa using hj1)) ho
       rwa [List.drop_zero,hol,←hlen,List.take_length] at this
     · cases h
   · rename_i fs ds hu
     obtain⟨xs,m,rfl,hx,hlen,hxl,hi⟩:=DataW.trod_struct hu ht
     simp only[Prod.mk.injEq,DataW.agg.injEq] at hx
     obtain⟨rfl,rfl⟩:=hx
     obtain⟨o,ho,h⟩:=Option.bind_eq_some_iff.1 h
     split at h
     · rename_i hol
       obtain rfl:=Option.some.inj h
       have:=QFM (flat P k) m cs (fun e d cs' p a h1 h2=>QIO k e d cs' m p a h1 h2) _ xs 0 o (by simp[hxl]) (fun i e' o' hq=>by
        simp only[List.getElem?_map,Option.map_eq_some_iff,Prod.mk.injEq] at hq
        obtain⟨f,hf,rfl,rfl⟩:=hq
        exact hi i f (by simpa using hf)) ho
       rwa [List.drop_zero,hol,←hlen,List.take_length] at this
     · cases h
   · cases h
end
theorem QDq {P:Program} {W:World} {name:String} {d:DataW Unit}:∀ (laid:List (String×DataW Unit)) (ps:List MemPlace),DataW.LaidVars P W laid ps→∀ (i:Nat),laid[i]?=some (name,d) →
 ∃ g t cs fuel p,P.globalNamed name=some g∧(P.globals[g]?).map (·.type)=some t∧W.var? P name=some cs∧DataW.trod (fun _=>()) P W 0 (fun _=>true) false fuel t cs.toList=some (d,p)
 | [],_,_,i,hi=>by simp at hi
 | (n,d') :: r,ps,h,0,hi=>by
   obtain⟨g,t,cs,fuel,p,q,h1,h2,h3,h4,_,_⟩:=h
   simp only[List.getElem?_cons_zero,Option.some.injEq,Prod.mk.injEq] at hi
   obtain⟨rfl,rfl⟩:=hi
   exact⟨g,t,cs,fuel,p,h1,h2,h3,h4⟩
 | (n,d') :: r,ps,h,i+1,hi=>by
   obtain⟨g,t,cs,fuel,p,q,_,_,_,_,h5,_⟩:=h
   exact QDq r q h5 i (by simpa using hi)
theorem qB {P:Program} {W:World} {name:String} {d:DataW Unit} {laid:List (String×DataW Unit)} {g:Nat} {t:TypeId} {k:Nat} {out:List Value}(i:Nat)(hi:laid[i]?=some (name,d))(hg:P.globalNamed name=some g)(hty:(P.globals[g]?).map (·.type)=some t)
 (hf:flat P k t d=some out)(h:laidMet P laid W):W.var? P name=some out.toArray:=by
 obtain⟨ps,h1,_⟩:=h
 obtain⟨g',t',cs,fuel,p,hg',ht',hvar,hd⟩:=QDq laid ps h1 i hi
 obtain rfl:=Option.some.inj (hg.symm.trans hg')
 obtain rfl:=Option.some.inj (hty.symm.trans ht')
 rw[hvar,←QIO k t d _ _ _ _ hd hf]
theorem Jd {P:Program} {W:World} {name:String} {g:Nat} {out:List Value}(h:W.var? P name=some out.toArray)(hg:P.globalNamed name=some g)(i:Nat)(v:Value)(hv:out[i]?=some v):W.cell? ⟨g,i,none⟩=some v:=by
 rw[World.var?_cell hg h i]
 simpa using hv
end Go.Proofs.YtkgaeamdhhceiaaGreatDoor
