/- Contracts and facts that the claim's proof wants (several texts in one). -/
import Derived.Deep.LoopGhost
import Derived.Maps.AppendAt
import Derived.Laws.OwnMore
import Derived.KernelRfl
import Derived.Laws.AppendOwn
import Derived.Laws.AppendOwnNone
import Derived.OwnWalk
import Derived.Test.YtkenebbjodcbcaaGreatDoorCoH7
namespace Go.Proofs.YtkenebbjodcbcaaGreatDoor
open Go.RowKit
set_option linter.unusedVariables false
set_option linter.unusedSimpArgs false
set_option maxRecDepth 20000
set_option maxHeartbeats 20000000
inductive Pl where
 | val (v:Value)
 | call (v:Value)
 | box (t:TypeId) (z:Array Value) (st:Option (Nat×Array Value)) (sl:Option Nat)
 | put (j:Nat)
def Pl.value (x:Pl)(p:Nat→Nat)(k:Nat):Value:=match x with
 | .val v=>v
 | .call v=>v
 | .box _ _ _ none=>.pointer (some ⟨p k,0,none⟩)
 | .box _ _ _ (some n)=>.slice (some ⟨p k,0,none⟩) n n
 | .put _=>undef
def QCM (listed:Array Bool)(z:Array Value):Option (Nat×Array Value)→Array Value
 | none=>z
 | some (s,vs)=>if listed.getD s false=true then vs else z
def endC (z:Array Value):Option (Nat×Array Value)→Array Value
 | none=>z
 | some (_,vs)=>vs
abbrev ZZ:=List (Option Tmp×Pl)
def ze (p:Nat→Nat):ZZ→Nat→Array Value→Array Value
 | [],_,t=>t
 | (some d,x) :: r,k,t=>ze p r (k+1) (t.setIfInBounds d (x.value p k))
 | (none,_) :: r,k,t=>ze p r (k+1) t
def XA:List (Option Tmp)→Bool
 | []=>true
 | none :: l=>XA l
 | some d :: l=>!l.contains (some d)&&XA l
theorem Zo {d:Tmp}:∀ {D:List (Option Tmp)} {k:Nat},D.contains (some d)=false→D[k]? = some (some d)→False
 | [],_,_,h=>by simp at h
 | e :: D,0,h,hk=>by
   simp at hk
   subst hk
   simp at h
 | e :: D,k+1,h,hk=>by
   simp only[List.contains_cons,Bool.or_eq_false_iff] at h
   exact Zo (D:=D) (k:=k) h.2 (by simpa using hk)
theorem QC2 {d:Tmp}:∀ {D:List (Option Tmp)} {k l:Nat},XA D=true→D[k]? = some (some d)→D[l]? = some (some d)→k=l
 | [],_,_,_,h,_=>by simp at h
 | e :: D,0,0,_,_,_=>rfl
 | e :: D,0,l+1,h,hk,hl=>by
   simp at hk
   subst hk
   simp only[XA,Bool.and_eq_true,Bool.not_eq_true'] at h
   exact (Zo h.1 (by simpa using hl)).elim
 | e :: D,k+1,0,h,hk,hl=>by
   simp at hl
   subst hl
   simp only[XA,Bool.and_eq_true,Bool.not_eq_true'] at h
   exact (Zo h.1 (by simpa using hk)).elim
 | e :: D,k+1,l+1,h,hk,hl=>by
   have h':XA D=true:=by
    cases e with
    | none=>exact h
    | some e=>simp only[XA,Bool.and_eq_true] at h;exact h.2
   exact congrArg (·+1) (QC2 (D:=D) (k:=k) (l:=l) h' (by simpa using hk) (by simpa using hl))
theorem zS (p:Nat→Nat)(s:Nat):∀ (L:ZZ) (k:Nat) (t:Array Value),(∀ (j:Nat) (x:Pl),L[j]?≠some (some s,x))→(ze p L k t)[s]? = t[s]?
 | [],_,_,_=>rfl
 | (some d,x) :: r,k,t,h=>by
   rw[ze,zS p s r _ _ fun j y=>by simpa using h (j+1) y]
   have hd:d≠s:=fun e=>h 0 x (by simp[e])
   exact Array.getElem?_setIfInBounds_ne hd
 | (none,_) :: r,k,t,h=>by rw[ze,zS p s r _ _ fun j y=>by simpa using h (j+1) y]
theorem QAu (p:Nat→Nat)(s:Tmp)(x:Pl):∀ (L:ZZ) (k:Nat) (t:Array Value) (j:Nat),XA (L.map (·.1))=true→L[j]? = some (some s,x)→s < t.size→(ze p L k t)[s]? = some (x.value p (k+j))
 | [],_,_,j,_,h,_=>by simp at h
 | (some d,y) :: r,k,t,0,hD,h,hs=>by
   simp at h
   obtain⟨rfl,rfl⟩:=h
   simp only[List.map_cons,XA,Bool.and_eq_true,Bool.not_eq_true'] at hD
   rw[ze,zS p d r _ _ fun j z e=>Zo (D:=r.map (·.1)) (k:=j) hD.1 (by rw[List.getElem?_map,e];rfl)]
   simp[hs]
 | (some d,y) :: r,k,t,j+1,hD,h,hs=>by
   simp only[List.map_cons,XA,Bool.and_eq_true,Bool.not_eq_true'] at hD
   rw[ze,QAu p s x r (k+1) _ j hD.2 (by simpa using h) (by simpa using hs),show k+1+j=k+(j+1) by omega]
 | (none,y) :: r,k,t,0,hD,h,hs=>by simp at h
 | (none,y) :: r,k,t,j+1,hD,h,hs=>by
   rw[ze,QAu p s x r (k+1) _ j hD (by simpa using h) hs,show k+1+j=k+(j+1) by omega]
section
variable {P:Program} {ops:Array Oper} {Q:Exit→Act→World→Prop}
structure BoxI (L:ZZ)(a0:Act)(w0:World)(p:Nat→Nat)(listed:Array Bool)(a:Act)(w:World):Prop where
 size:listed.size=L.length
 df:a.defers=a0.defers
 len:a.tmps.size=a0.tmps.size
 slot:∀ (k:Nat) (d:Tmp) (x:Pl),L[k]? = some (some d,x)→listed.getD k false=true→a.tmps[d]? = some (x.value p k)
 rest:∀ (s:Nat),(∀ (k:Nat) (x:Pl),L[k]?≠some (some s,x))→a.tmps[s]? = a0.tmps[s]?
 below:Below w0.heap.size w0 w
 boxed:∀ (k:Nat) (d:Option Tmp) (t:TypeId) (z:Array Value) (s:Option (Nat×Array Value)) (vs:Option Nat),L[k]? = some (d,.box t z s vs)→listed.getD k false=true→w0.heap.size≤p k∧Row w (p k) t (QCM listed z s)
 apart:∀ (k l:Nat) (d:Option Tmp) (t:TypeId) (z:Array Value) (s:Option (Nat×Array Value)) (vs:Option Nat) (d':Option Tmp) (t':TypeId) (z':Array Value) (s':Option (Nat×Array Value)) (vs':Option Nat),L[k]? = some (d,.box t z s vs)→L[l]? = some (d',.box t' z' s' vs')→listed.getD k false=true→listed.getD l false=true→k≠l→p k≠p l
def Zv (ops:Array Oper)(k j:Nat):Bool:=match ops[k]? with
 | some o=>o.after.toList.any fun e=>Region.binds .any e&&e.on==j
 | none=>false
def boxB (L:ZZ):Bool:=(List.range L.length).all fun k=>match L[k]? with
 | some (d,.box _ _ (some (s,_)) _)=>d.isSome&&(match L[s]? with
   | some (none,.put j)=>j==k
   | _=>false)
 | some (d,.put j)=>d.isNone&&(match L[j]? with
   | some (_,.box _ _ (some (s,_)) _)=>s==k&&Zv ops k j
   | _=>false)
 | _=>true
def QTp (ops:Array Oper)(L:ZZ):Bool:=(List.range ops.size).all fun k=>match ops[k]? with
 | some o=>o.op.operands.toList.all fun
   | .tmp s=>!(L.map (·.1)).contains (some s)||(List.range L.length).any fun j=>(L[j]?).map (·.1)==some (some s)&&Zv ops k j
   | _=>true
 | none=>true
def QLG (ops:Array Oper)(L:ZZ)(N:Nat):Bool :=
 (ops.toList.map (·.dst)==L.map (·.1))&&(ops.toList.all (fun o=>o.guard.isNone)&&(XA (L.map (·.1))&&(L.all (fun x=>match x.1 with|some d=>decide (d < N)|none=>true) &&
   ((List.range ops.size).all (fun k=>match ops[k]? with|some o=>o.after.all (fun e=>!Region.binds .any e||decide (e.on < k))|none=>true)&&(boxB (ops:=ops) L&&(Region.noSelect ops&&QTp ops L))))))
def QIy (L:ZZ)(a0:Act)(p:Nat→Nat):Act:={ a0 with tmps:=ze p L 0 a0.tmps }
def Ob (P:Program)(ops:Array Oper)(L:ZZ)(a0:Act)(w0:World)(k:Nat)(o:Oper):Pl→Prop
 | .val v=>∀ p listed a w,BoxI L a0 w0 p listed a w→(∀ j,Zv ops k j=true→listed.getD j false=true)→(execOp (QIy L a0 p).eval o).run P w=.ok (.value v) w
 | .call v=>∀ p listed a w,BoxI L a0 w0 p listed a w→(∀ j,Zv ops k j=true→listed.getD j false=true)→∃ f args,(execOp (QIy L a0 p).eval o).run P w=.ok (.enter f args) w∧Calls P f args w fun e w'=>e=.returned v∧Below w.heap.size w w'
 | .box t z s n=>(∀ k vs,s=some (k,vs)→z.size=vs.size)∧∀ p listed a w,BoxI L a0 w0 p listed a w→(∀ j,Zv ops k j=true→listed.getD j false=true)→(execOp (QIy L a0 p).eval o).run P w=.ok (.value ((Pl.box t z s n).value (fun _=>w.heap.size) k)) (w.alloc (.cells z t))
 | .put j=>∀ p listed a w,BoxI L a0 w0 p listed a w→(∀ j,Zv ops k j=true→listed.getD j false=true)→∀ (d:Option Tmp) (t:TypeId) (z:Array Value) (s:Option (Nat×Array Value)) (vs:Option Nat),L[j]? = some (d,.box t z s vs)→Row w (p j) t z→(execOp (QIy L a0 p).eval o).run P w=.ok .skip (w.setCells (p j) 0 (endC z s).toList)
theorem QQu {o:Oper} {f:Nat→Option Bool}(hg:o.guard=none):Region.wanted o f=true:=by simp only[Region.wanted,hg]
theorem getD_at {α:Type} {xs:Array α} {k:Nat} {d v:α}(h:xs[k]? = some v):xs.getD k d=v:=by
 rw[Array.getD_eq_getD_getElem?,h];rfl
theorem BoxI.tmp {L:ZZ} {a0:Act} {w0:World} {p:Nat→Nat} {listed:Array Bool} {a:Act} {w:World}(h:BoxI L a0 w0 p listed a w){k:Nat}(hd:∀ j,Zv ops k j=true→listed.getD j false=true)(j:Nat)(hn:Zv ops k j=true){d:Tmp} {x:Pl}(hL:L[j]? = some (some d,x)) :
 a.eval (.tmp d)=x.value p j:=getD_at (h.slot j d x hL (hd j hn))
theorem BoxI.old {L:ZZ} {a0:Act} {w0:World} {p:Nat→Nat} {listed:Array Bool} {a:Act} {w:World}(h:BoxI L a0 w0 p listed a w)(s:Tmp){v:Value}(hv:a0.tmps[s]? = some v)(hn:((L.map (·.1)).contains (some s))=false):a.eval (.tmp s)=v :=
 getD_at ((h.rest s fun k x e=>Zo (D:=L.map (·.1)) (k:=k) hn (by rw[List.getElem?_map,e];rfl)).trans hv)
theorem QFd {listed:Array Bool} {i:Nat}(hi:i < listed.size)(h:listed.getD i true=false):∀ n,((List.range n).countP fun k=>!(listed.setIfInBounds i true).getD k true)+(if i < n then 1 else 0)=(List.range n).countP fun k=>!listed.getD k true:=by
 intro n
 induction n with
 | zero=>simp
 | succ n ih =>
   rw[List.range_succ,List.countP_append,List.countP_append]
   by_cases hin:i=n
   · subst hin
     have e1:(listed.setIfInBounds i true).getD i true=true:=getD_at (by simp[hi])
     simp only[List.countP_cons,List.countP_nil,e1,h]
     simp at ih ⊢
     omega
   · have e1:(listed.setIfInBounds i true).getD n true=listed.getD n true:=getD_set_ne true hin
     simp only[List.countP_cons,List.countP_nil,e1]
     have:(i < n+1)↔(i < n):=by omega
     simp only[this]
     omega
theorem QIT {listed:Array Bool} {i:Nat}(hi:i < listed.size):(listed.setIfInBounds i true).getD i false=true:=getD_at (by simp[hi])
theorem QPn {listed:Array Bool} {i:Nat}(h:listed.getD i true=false):listed.getD i false=false:=by
 rw[Array.getD_eq_getD_getElem?] at h ⊢
 cases hx:listed[i]? with
 | none=>rfl
 | some b=>rw[hx] at h;exact h
theorem QLT {listed:Array Bool} {i:Nat}(hi:i < listed.size)(h:listed.getD i true=true):listed.getD i false=true:=by
 rw[Array.getD_eq_getD_getElem?] at h ⊢
 rw[Array.getElem?_eq_getElem hi] at h ⊢
 exact h
theorem BoxI.step {L:ZZ} {a0:Act} {w0:World} {p q:Nat→Nat} {listed:Array Bool} {a:Act} {w w':World}(h:BoxI L a0 w0 p listed a w){i:Nat} {dst:Option Tmp} {x:Pl}(hL:L[i]? = some (dst,x))(hD:XA (L.map (·.1))=true)(hfit:∀ d,dst=some d→d < a0.tmps.size)
 (hu:listed.getD i true=false)(hq:∀ k,k≠i→q k=p k)(hpos:∀ k,x.value p k=x.value p k)(hb:Below w0.heap.size w0 w')
 (hbox:∀ (k:Nat) (d:Option Tmp) (t:TypeId) (z:Array Value) (s:Option (Nat×Array Value)) (vs:Option Nat),L[k]? = some (d,.box t z s vs)→(listed.setIfInBounds i true).getD k false=true→w0.heap.size≤q k∧Row w' (q k) t (QCM (listed.setIfInBounds i true) z s))
 (hap:∀ (k l:Nat) (d:Option Tmp) (t:TypeId) (z:Array Value) (s:Option (Nat×Array Value)) (vs:Option Nat) (d':Option Tmp) (t':TypeId) (z':Array Value) (s':Option (Nat×Array Value)) (vs':Option Nat),L[k]? = some (d,.box t z s vs)→L[l]? = some (d',.box t' z' s' vs')→(listed.setIfInBounds i true).getD k false=true→(listed.setIfInBounds i true).getD l false=true→k≠l→q k≠q l) :
 BoxI L a0 w0 q (listed.setIfInBounds i true) (a.put dst (x.value q i)) w':=by
 have hv:∀ k y,k≠i→Pl.value y q k=Pl.value y p k:=fun k y hk=>by
  cases y<;>simp only[Pl.value,hq k hk]
 have hun:∀ k,k≠i→(listed.setIfInBounds i true).getD k false=listed.getD k false:=fun k hk=>getD_set_ne false (Ne.symm hk)
 refine⟨by rw[Array.size_setIfInBounds];exact h.size,?_,?_,?_,?_,hb,hbox,hap⟩
 · cases dst<;>exact h.df
 · cases dst with
   | none=>exact h.len
   | some d=>simp only[Act.put,Array.size_setIfInBounds];exact h.len
 · intro k d y hk hl
   by_cases hki:k=i
   · subst hki
     rw[hL] at hk
     injection hk with hk;injection hk with e1 e2
     subst e1;subst e2
     simp only[Act.put]
     rw[Array.getElem?_setIfInBounds,if_pos rfl,if_pos (by rw[h.len];exact hfit d rfl)]
   · rw[hun k hki] at hl
     have h0:=h.slot k d y hk hl
     rw[hv k y hki]
     cases dst with
     | none=>exact h0
     | some d' =>
       have hne:d'≠d:=fun e=>hki (QC2 (D:=L.map (·.1)) (d:=d) hD (by rw[List.getElem?_map,hk];rfl) (by rw[List.getElem?_map,hL,e];rfl))
       simp only[Act.put]
       rw[Array.getElem?_setIfInBounds_ne hne]
       exact h0
 · intro s hs
   have h0:=h.rest s hs
   cases dst with
   | none=>exact h0
   | some d' =>
     have hne:d'≠s:=fun e=>hs i x (by rw[hL,e])
     simp only[Act.put]
     rw[Array.getElem?_setIfInBounds_ne hne]
     exact h0
structure QCU (ops:Array Oper)(L:ZZ)(N:Nat):Prop where
 len:L.length=ops.size
 get:∀ (k:Nat) (o:Oper),ops[k]? = some o→∃ x,L[k]? = some (o.dst,x)
 fit:∀ (k:Nat) (d:Tmp) (x:Pl),L[k]? = some (some d,x)→d < N
 guard:∀ (k:Nat) (o:Oper),ops[k]? = some o→o.guard=none
 dist:XA (L.map (·.1))=true
 store:∀ (k:Nat) (d:Option Tmp) (t:TypeId) (z:Array Value) (s:Nat) (vs:Array Value) (n:Option Nat),L[k]? = some (d,.box t z (some (s,vs)) n)→L[s]? = some (none,.put k)
 put:∀ (k:Nat) (d:Option Tmp) (j:Nat),L[k]? = some (d,.put j)→d=none∧Zv ops k j=true∧∃ d' t z vs n,L[j]? = some (d',.box t z (some (k,vs)) n)
 ord:∀ (k:Nat) (hk:k < ops.size),∀ e∈ops[k].after,Region.binds .any e=true→e.on < k
 sel:∀ (k:Nat) (o:Oper) cs b,ops[k]? = some o→o.op≠.select cs b
 uses:∀ (k:Nat) (o:Oper) (s:Tmp),ops[k]? = some o→Operand.tmp s∈o.op.operands→(L.map (·.1)).contains (some s)=false∨∃ j x,L[j]? = some (some s,x)∧Zv ops k j=true
theorem QSk {L:ZZ} {N:Nat}(hB:QLG ops L N=true):QCU ops L N:=by
 simp only[QLG,Bool.and_eq_true] at hB
 obtain⟨hdst,hgd,hD,hfit0,hord,hbox,hsel,huses⟩:=hB
 have hdst':ops.toList.map (·.dst)=L.map (·.1):=by simpa using hdst
 have hlen:L.length=ops.size:=by
  have:=congrArg List.length hdst'
  simpa using this.symm
 have hlt:∀ (k:Nat) (x:Option Tmp×Pl),L[k]? = some x→k < L.length:=fun k x h=>(List.getElem?_eq_some_iff.1 h).1
 refine⟨hlen,fun k o hk=>?_,fun k d x hk=>?_,fun k o hk=>?_,hD,fun k d t z s vs n hk=>?_,fun k d j hk=>?_,fun k hk e he hb=>?_,Region.noSelect_spec hsel,fun k o s ho hs=>?_⟩
 · have e:(ops.toList.map (·.dst))[k]? = some o.dst:=by rw[List.getElem?_map];simp[hk]
   rw[hdst',List.getElem?_map] at e
   cases hx:L[k]? with
   | none=>rw[hx] at e;cases e
   | some y =>
     rw[hx] at e
     injection e with e
     exact⟨y.2,by rw[←e]⟩
 · have:=List.all_eq_true.1 hfit0 _ (List.mem_of_getElem? hk)
   simpa using this
 · have:=List.all_eq_true.1 hgd o (by simpa using Array.mem_of_getElem? hk)
   simpa using this
 · have h:=List.all_eq_true.1 hbox k (List.mem_range.2 (hlt k _ hk))
   rw[hk] at h
   simp only[Bool.and_eq_true] at h
   rcases hs:L[s]? with _|⟨_|d',y⟩
   · rw[hs] at h;cases h.2
   · rw[hs] at h
     cases y with
     | put j=>have:=h.2;simp at this;rw[this]
     | val v=>cases h.2
     | call v=>cases h.2
     | box _ _ _ _=>cases h.2
   · rw[hs] at h;cases y<;>cases h.2
 · have h:=List.all_eq_true.1 hbox k (List.mem_range.2 (hlt k _ hk))
   rw[hk] at h
   simp only[Bool.and_eq_true] at h
   refine⟨by simpa using h.1,?_⟩
   rcases hs:L[j]? with _|⟨d',y⟩
   · rw[hs] at h;cases h.2
   · rw[hs] at h
     cases y with
     | box t z s n =>
       cases s with
       | none=>cases h.2
       | some sv =>
         have:=h.2
         simp only[Bool.and_eq_true,beq_iff_eq] at this
         obtain⟨h1,h2⟩:=this
         subst h1
         exact⟨h2,_,_,_,_,_,rfl⟩
     | val v=>cases h.2
     | call v=>cases h.2
     | put _=>cases h.2
 · have h1:=List.all_eq_true.1 hord k (List.mem_range.2 hk)
   rw[Array.getElem?_eq_getElem hk] at h1
   have h2:=Array.all_eq_true_iff_forall_mem.1 h1 e he
   simpa only[hb,Bool.not_true,Bool.false_or,decide_eq_true_eq] using h2
 · have h1:=List.all_eq_true.1 huses k (List.mem_range.2 (Array.getElem?_eq_some_iff.1 ho).1)
   rw[ho] at h1
   have h2:=List.all_eq_true.1 h1 (.tmp s) (by simpa using hs)
   simp only[Bool.or_eq_true,Bool.not_eq_true'] at h2
   rcases h2 with h2|h2
   · exact .inl h2
   · obtain⟨j,-,h3⟩:=List.any_eq_true.1 h2
     simp only[Bool.and_eq_true,beq_iff_eq] at h3
     obtain⟨h3,h4⟩:=h3
     cases hj:L[j]? with
     | none=>rw[hj] at h3;cases h3
     | some y =>
       rw[hj] at h3
       simp only[Option.map_some,Option.some.injEq] at h3
       exact .inr ⟨j,y.2,by rw[hj,←h3],h4⟩
theorem QMm {L:ZZ} {a0:Act} {w0:World}(H:QCU ops L a0.tmps.size){p:Nat→Nat} {listed:Array Bool} {a:Act} {w:World}(I:BoxI L a0 w0 p listed a w){k:Nat} {o:Oper}(ho:ops[k]? = some o)(hneed:∀ j,Zv ops k j=true→listed.getD j false=true) :
 execOp a.eval o=execOp (QIy L a0 p).eval o:=by
 refine execOp_congr o (fun cs b=>H.sel k o cs b ho) fun x hx=>?_
 cases x with
 | tmp s =>
   show a.tmps.getD s undef=(ze p L 0 a0.tmps).getD s undef
   rw[Array.getD_eq_getD_getElem?,Array.getD_eq_getD_getElem?]
   rcases H.uses k o s ho hx with h|⟨j,x,hj,hn⟩
   · have hs:∀ (k:Nat) (x:Pl),L[k]?≠some (some s,x):=fun k x e=>Zo (D:=L.map (·.1)) (k:=k) h (by rw[List.getElem?_map,e];rfl)
     rw[I.rest s hs,zS p s L 0 a0.tmps hs]
   · rw[I.slot j s x hj (hneed j hn),QAu p s x L 0 a0.tmps j H.dist hj (H.fit j s x hj),Nat.zero_add]
 | _=>rfl
theorem QHx {listed:Array Bool} {i:Nat} {z:Array Value} {s:Option (Nat×Array Value)}(h:∀ s' vs,s=some (s',vs)→s'≠i):QCM (listed.setIfInBounds i true) z s=QCM listed z s:=by
 rcases s with _|⟨s,vs⟩
 · rfl
 · simp only[QCM,getD_set_ne false (Ne.symm (h s vs rfl))]
theorem QKY {L:ZZ} {a0:Act} {w0:World}(H:QCU ops L a0.tmps.size)(hob:∀ (k:Nat) (o:Oper) (x:Pl),ops[k]? = some o→L[k]? = some (o.dst,x)→Ob P ops L a0 w0 k o x)
 {p:Nat→Nat} {listed:Array Bool} {a:Act} {w:World}(I:BoxI L a0 w0 p listed a w)(hO0:∀ k j,Zv ops k j=true→listed.getD k false=true→listed.getD j false=true)
 {i:Nat}(his:i < ops.size)(hu:listed.getD i true=false)(hneed:∀ j,Zv ops i j=true→listed.getD j false=true){K:Act→World→Prop}
 (hK:∀ p' a' w',BoxI L a0 w0 p' (listed.setIfInBounds i true) a' w'→K a' w'):wpOp P ops Q i K a w:=by
 have H0:=H
 obtain⟨hlen,hget,hfit,hguard,hD,hstore,hput,hord,-,-⟩:=H
 have hlt:∀ (k:Nat) (x:Option Tmp×Pl),L[k]? = some x→k < L.length:=fun k x h=>(List.getElem?_eq_some_iff.1 h).1
 obtain⟨o,ho⟩:∃ o,ops[i]? = some o:=⟨_,Array.getElem?_eq_getElem his⟩
 have hil:i < listed.size:=by rw[I.size,hlen];exact his
 obtain⟨x,hx⟩:=hget i o ho
 have hO:=hob i o x ho hx
 have hev:=QMm H0 I ho hneed
 have hgo:=hguard i o ho
 have huf:=QPn hu
 unfold wpOp
 simp only[ho,QQu hgo,if_true]
 refine .inl ?_
 unfold Oper.wp
 rw[hev]
 have old:∀ k,k≠i→(listed.setIfInBounds i true).getD k false=listed.getD k false:=fun k hk=>getD_set_ne false (Ne.symm hk)
 -- no store is operation i,unless it is one
 have nost:(∀ j,x≠.put j)→∀ (k:Nat) (d:Option Tmp) (t:TypeId) (z:Array Value) (s:Option (Nat×Array Value)) (n:Option Nat),L[k]? = some (d,.box t z s n)→QCM (listed.setIfInBounds i true) z s=QCM listed z s:=fun hnx k d t z s n hk =>
  QHx fun s' vs e hs=>by
   subst e;subst hs
   have:=hstore k d t z s' vs n hk
   rw[hx] at this
   injection this with this
   exact hnx k (congrArg (·.2) this)
 have same:(∀ t z s n,x≠.box t z s n)→∀ (k:Nat) (d:Option Tmp) (t:TypeId) (z:Array Value) (s:Option (Nat×Array Value)) (n:Option Nat),L[k]? = some (d,.box t z s n)→k≠i:=fun hnx k d t z s n hk e=>by
  subst e
  rw[hx] at hk
  injection hk with hk
  exact hnx t z s n (congrArg (·.2) hk)
 have aprt:(∀ t z s n,x≠.box t z s n)→∀ (k l:Nat) (d:Option Tmp) (t:TypeId) (z:Array Value) (s:Option (Nat×Array Value)) (vs:Option Nat) (d':Option Tmp) (t':TypeId) (z':Array Value) (s':Option (Nat×Array Value)) (vs':Option Nat),L[k]? = some (d,.box t z s vs)→L[l]? = some (d',.box t' z' s' vs')→(listed.setIfInBounds i true).getD k false=true→(listed.setIfInBounds i true).getD l false=true→k≠l→p k≠p l :=
  fun hnx k l d t z s vs d' t' z' s' vs' hk hl h1 h2 hne=>by
   rw[old k (same hnx k d t z s vs hk)] at h1
   rw[old l (same hnx l d' t' z' s' vs' hl)] at h2
   exact I.apart k l d t z s vs d' t' z' s' vs' hk hl h1 h2 hne
 cases x with
 | val v =>
   rw[hO p listed a w I hneed,Oper.upon_value]
   refine hK p _ _ (I.step (q:=p) hx hD (fun d e=>hfit i d (.val v) (by rw[hx,e])) hu (fun _ _=>rfl) (fun _=>rfl) I.below ?_ (aprt (by intros;simp)))
   intro k d t z s vs hk hl
   rw[old k (same (by intros;simp) k d t z s vs hk)] at hl
   rw[nost (by intros;simp) k d t z s vs hk]
   exact I.boxed k d t z s vs hk hl
 | call v =>
   obtain⟨f,args,he,hC⟩:=hO p listed a w I hneed
   rw[he,Oper.upon_enter]
   refine hC.mono ?_
   rintro e w' ⟨rfl,hb⟩
   refine hK p _ _ (I.step (q:=p) hx hD (fun d e=>hfit i d (.call v) (by rw[hx,e])) hu (fun _ _=>rfl) (fun _=>rfl) (I.below.trans (hb.mono I.below.size)) ?_ (aprt (by intros;simp)))
   intro k d t z s vs hk hl
   rw[old k (same (by intros;simp) k d t z s vs hk)] at hl
   rw[nost (by intros;simp) k d t z s vs hk]
   have h0:=I.boxed k d t z s vs hk hl
   exact⟨h0.1,h0.2.below hb h0.2.lt⟩
 | box t0 z0 s0 n0 =>
   obtain⟨hz,he⟩:=hO
   rw[he p listed a w I hneed,Oper.upon_value]
   have hqk:∀ k,k≠i→(fun k=>if k=i then w.heap.size else p k) k=p k:=fun k hk=>if_neg hk
   have hsz:=I.below.size
   have st:=I.step (q:=fun k=>if k=i then w.heap.size else p k) (w':=w.alloc (.cells z0 t0)) hx hD (fun d e=>hfit i d (.box t0 z0 s0 n0) (by rw[hx,e])) hu hqk (fun _=>rfl) (I.below.alloc hsz _) ?_ ?_
   · have ev:(Pl.box t0 z0 s0 n0).value (fun k=>if k=i then w.heap.size else p k) i=(Pl.box t0 z0 s0 n0).value (fun _=>w.heap.size) i:=by
      cases n0<;>simp only[Pl.value,if_pos]
     rw[ev] at st
     exact hK _ _ _ st
   · intro k d t z s vs hk hl
     rw[nost (by intros;simp) k d t z s vs hk]
     show w0.heap.size≤(if k=i then w.heap.size else p k)∧Row _ (if k=i then w.heap.size else p k) _ _
     by_cases hki:k=i
     · subst hki
       rw[hx] at hk
       injection hk with hk;injection hk with e1 e2;injection e2 with e3 e4 e5 e6
       subst e3;subst e4;subst e5;subst e6
       have e2:QCM listed z0 s0=z0:=by
        rcases s0 with _|⟨s0,vs0⟩
        · rfl
        · cases hc2:listed.getD s0 false with
          | false=>simp only[QCM,hc2];rfl
          | true =>
            have hp:=hput s0 none k (hstore k _ _ _ _ _ _ hx)
            exact absurd (huf.symm.trans (hO0 s0 k hp.2.1 hc2)) (by simp)
       rw[e2,if_pos rfl]
       exact⟨hsz,Row.new w t0 z0⟩
     · rw[old k hki] at hl
       have h0:=I.boxed k d t z s vs hk hl
       rw[if_neg hki]
       exact⟨h0.1,h0.2.alloc _⟩
   · intro k l d t z s vs d' t' z' s' vs' hk hl h1 h2 hne
     show (if k=i then w.heap.size else p k)≠(if l=i then w.heap.size else p l)
     by_cases hki:k=i
     · have hli:l≠i:=fun e=>hne (hki.trans e.symm)
       rw[if_pos hki,if_neg hli]
       rw[old l hli] at h2
       have:=(I.boxed l d' t' z' s' vs' hl h2).2.lt
       omega
     · rw[if_neg hki]
       rw[old k hki] at h1
       have:=(I.boxed k d t z s vs hk h1).2.lt
       by_cases hli:l=i
       · rw[if_pos hli];omega
       · rw[if_neg hli]
         rw[old l hli] at h2
         exact I.apart k l d t z s vs d' t' z' s' vs' hk hl h1 h2 hne
 | put j =>
   obtain⟨hnd,hn,d1,t1,z1,vs1,n1,hj⟩:=hput i _ j hx
   have hjl:=hneed j hn
   have hrow:=I.boxed j d1 t1 z1 (some (i,vs1)) n1 hj hjl
   simp only[QCM,huf,Bool.false_eq_true,if_false] at hrow
   have hz:z1.size=vs1.size:=by
    have hjs:j < ops.size:=by rw[←hlen];exact hlt j _ hj
    obtain⟨y,hy⟩:=hget j ops[j] (Array.getElem?_eq_getElem hjs)
    have hyj:=hy
    rw[hj] at hyj
    injection hyj with hyj;injection hyj with e1 e2
    have:=hob j ops[j] y (Array.getElem?_eq_getElem hjs) hy
    rw[←e2] at this
    exact this.1 i vs1 rfl
   rw[hO p listed a w I hneed d1 t1 z1 (some (i,vs1)) n1 hj hrow.2,Oper.upon_skip]
   have st:=I.step (q:=p) (w':=w.setCells (p j) 0 vs1.toList) hx hD (fun d e=>hfit i d (.put j) (by rw[hx,e])) hu (fun _ _=>rfl) (fun _=>rfl) (Below.setCellsAll I.below hrow.1 _ _) ?_ (aprt (by intros;simp))
   · exact hK p _ _ st
   · intro k d t z s vs hk hl
     rw[old k (same (by intros;simp) k d t z s vs hk)] at hl
     by_cases hkj:k=j
     · subst hkj
       rw[hj] at hk
       injection hk with hk;injection hk with e1 e2;injection e2 with e3 e4 e5 e6
       subst e3;subst e4;subst e5;subst e6
       simp only[QCM,QIT hil,if_true]
       exact⟨hrow.1,hrow.2.setAll hz⟩
     · have e2:QCM (listed.setIfInBounds i true) z s=QCM listed z s:=QHx fun s' vs' e hs=>by
        subst e;subst hs
        have h1:=hstore k d t z s' vs' vs hk
        rw[hx] at h1
        injection h1 with h1;injection h1 with _ h1;injection h1 with h1
        exact hkj h1.symm
       rw[e2]
       have h0:=I.boxed k d t z s vs hk hl
       exact⟨h0.1,h0.2.setFar (I.apart k j d t z s vs d1 t1 z1 _ n1 hk hj hl hjl hkj) _ _⟩
theorem QMy {L:ZZ} {a0:Act} {w0:World}(H:QCU ops L a0.tmps.size){R:Act→World→Prop}
 (hend:∀ p w,BoxI L a0 w0 p (Array.replicate ops.size true) { a0 with tmps:=ze p L 0 a0.tmps } w→R { a0 with tmps:=ze p L 0 a0.tmps } w) :
 ∀ p listed a w,BoxI L a0 w0 p listed a w→(∀ k,k < ops.size→listed.getD k true=true)→R a w:=by
 obtain⟨hlen,hget,hfit,hguard,hD,hstore,hput,hord,-,-⟩:=H
 have hlt:∀ (k:Nat) (x:Option Tmp×Pl),L[k]? = some x→k < L.length:=fun k x h=>(List.getElem?_eq_some_iff.1 h).1
 intro p listed a w I hall
 have hl:listed=Array.replicate ops.size true:=by
  apply Array.ext
  · rw[I.size,hlen];simp
  · intro k h1 h2
    have h3:=hall k (by simpa using h2)
    rw[Array.getD_eq_getD_getElem?,Array.getElem?_eq_getElem h1] at h3
    simpa using h3
 have hlk:∀ k,k < ops.size→listed.getD k false=true:=fun k hk=>QLT (by rw[I.size,hlen];exact hk) (hall k hk)
 have ht:a.tmps=ze p L 0 a0.tmps:=by
  apply Array.ext_getElem?
  intro s
  by_cases hs:∃ (k:Nat) (x:Pl),L[k]? = some (some s,x)
  · obtain⟨k,x,hk⟩:=hs
    rw[I.slot k s x hk (hlk k (by rw[←hlen];exact hlt k _ hk)),QAu p s x L 0 a0.tmps k hD hk (hfit k s x hk),Nat.zero_add]
  · have hs':∀ (k:Nat) (x:Pl),L[k]?≠some (some s,x):=fun k x e=>hs ⟨k,x,e⟩
    rw[I.rest s hs',zS p s L 0 a0.tmps hs']
 have ha:a={ a0 with tmps:=ze p L 0 a0.tmps }:=by
  have hd:=I.df
  cases a
  simp only at ht hd
  rw[ht,hd]
 subst hl
 rw[ha] at I ⊢
 exact hend p w I
theorem QSW {i:Nat} {o:Oper} {listed:Array Bool}(ho:ops[i]? = some o)(hdep:∀ e∈o.after,Region.binds .any e=true→listed.getD e.on false=true):∀ j,Zv ops i j=true→listed.getD j false=true:=fun j hj=>by
 unfold Zv at hj
 rw[ho] at hj
 simp only at hj
 obtain⟨e,he,h2⟩:=List.any_eq_true.1 hj
 simp only[Bool.and_eq_true,beq_iff_eq] at h2
 rw[←h2.2]
 exact hdep e (by simpa using he) h2.1
theorem QM6 {i:Nat} {listed:Array Bool}(hneed:∀ j,Zv ops i j=true→listed.getD j false=true)(hO0:∀ k j,Zv ops k j=true→listed.getD k false=true→listed.getD j false=true) :
 ∀ k j,Zv ops k j=true→(listed.setIfInBounds i true).getD k false=true→(listed.setIfInBounds i true).getD j false=true:=fun k j hkj hl=>by
 by_cases hki:k=i
 · subst hki;exact getD_set_true (hneed j hkj)
 · rw[getD_set_ne false (Ne.symm hki)] at hl;exact getD_set_true (hO0 k j hkj hl)
theorem QL4 {L:ZZ} {a0:Act} {w0:World}(H:QCU ops L a0.tmps.size)(hob:∀ (k:Nat) (o:Oper) (x:Pl),ops[k]? = some o→L[k]? = some (o.dst,x)→Ob P ops L a0 w0 k o x)
 (hend:∀ p w,BoxI L a0 w0 p (Array.replicate ops.size true) { a0 with tmps:=ze p L 0 a0.tmps } w→Q .normal { a0 with tmps:=ze p L 0 a0.tmps } w) :
 ∀ (fuel:Nat) (p:Nat→Nat) (listed:Array Bool) (a:Act) (w:World),BoxI L a0 w0 p listed a w→(∀ k j,Zv ops k j=true→listed.getD k false=true→listed.getD j false=true)→((List.range ops.size).countP fun k=>!listed.getD k true)≤fuel→wpAny P .any ops Q fuel listed a w:=by
 have hfin:=QMy (R:=Q .normal) H hend
 have hlen:=H.len
 have hord:=H.ord
 -- the first that has not can
 have hprog:∀ listed:Array Bool,Region.ready .any ops listed=[]→∀ k,k < ops.size→listed.getD k true=true:=fun listed hr=>by
  have key:∀ n k,k < n→k < ops.size→listed.getD k true=true:=by
   intro n
   induction n with
   | zero=>intro k h;omega
   | succ n ih =>
     intro k hk hks
     by_cases hkn:k < n
     · exact ih k hkn hks
     · obtain rfl:k=n:=by omega
       cases hc:listed.getD k true with
       | true=>rfl
       | false =>
         have hsz:k < listed.size:=by
          rcases Nat.lt_or_ge k listed.size with h'|h'
          · exact h'
          · rw[Array.getD_eq_getD_getElem?,Array.getElem?_eq_none h'] at hc;cases hc
         have:k∈Region.ready .any ops listed:=mem_ready.2 ⟨hc,ops[k],Array.getElem?_eq_getElem hks,fun e he hb=>by
          have h2:=hord k hks e he hb
          exact QLT (by omega) (ih e.on (by omega) (by omega))⟩
         rw[hr] at this
         cases this
  exact fun k hk=>key (k+1) k (by omega) hk
 intro fuel
 induction fuel with
 | zero =>
   intro p listed a w I hO0 hc
   have hall:∀ k,k < ops.size→listed.getD k true=true:=fun k hk=>by
    have h0:((List.range ops.size).countP fun k=>!listed.getD k true)=0:=by omega
    rw[List.countP_eq_zero] at h0
    simpa using h0 k (List.mem_range.2 hk)
   refine⟨?_,hfin p listed a w I hall⟩
   apply List.eq_nil_iff_forall_not_mem.2
   intro j hj
   obtain⟨h1,o,ho,-⟩:=mem_ready.1 hj
   rw[hall j (Array.getElem?_eq_some_iff.1 ho).1] at h1
   cases h1
 | succ fuel ih =>
   intro p listed a w I hO0 hc
   refine⟨fun hr=>hfin p listed a w I (hprog listed hr),fun i hi=>?_⟩
   obtain⟨hu,o,ho,hdep⟩:=mem_ready.1 hi
   have his:i < ops.size:=(Array.getElem?_eq_some_iff.1 ho).1
   have hil:i < listed.size:=by rw[I.size,hlen];exact his
   have hneed:=QSW ho hdep
   have hcnt:((List.range ops.size).countP fun k=>!(listed.setIfInBounds i true).getD k true)≤fuel:=by
    have:=QFd hil hu ops.size
    rw[if_pos his] at this
    omega
   exact QKY H hob I hO0 his hu hneed fun p' a' w' I'=>ih p' _ a' w' I' (QM6 hneed hO0) hcnt
def Obs (P:Program)(ops:Array Oper)(L:ZZ)(a0:Act)(w0:World):Nat→List Oper→ZZ→Prop
 | k,o :: os,(_,x) :: r=>Ob P ops L a0 w0 k o x∧Obs P ops L a0 w0 (k+1) os r
 | _,[],[]=>True
 | _,_,_=>False
theorem QOQ {L:ZZ} {a0:Act} {w0:World}:∀ {os:List Oper} {r:ZZ} {n:Nat},Obs P ops L a0 w0 n os r→∀ (k:Nat) (o:Oper) (d:Option Tmp) (x:Pl),os[k]? = some o→r[k]? = some (d,x)→Ob P ops L a0 w0 (n+k) o x
 | o :: os,(d,x) :: r,n,h,0,o',d',x',ho,hx=>by
   simp at ho hx
   subst ho
   rw[←hx.2]
   exact h.1
 | o :: os,(d,x) :: r,n,h,k+1,o',d',x',ho,hx=>by
   rw[show n+(k+1)=(n+1)+k by omega]
   exact QOQ h.2 k o' d' x' (by simpa using ho) (by simpa using hx)
 | [],_,_,_,k,_,_,_,ho,_=>by simp at ho
 | _ :: _,[],_,_,k,_,_,_,_,hx=>by simp at hx
theorem QKO {L:ZZ} {a0:Act} {w0 w:World}(hlen:L.length=ops.size)(hb:Below w0.heap.size w0 w):BoxI L a0 w0 (fun _=>0) (Array.replicate ops.size false) a0 w∧∀ k j,Zv ops k j=true→(Array.replicate ops.size false).getD k false=true→(Array.replicate ops.size false).getD j false=true:=by
 have fa:∀ k,(Array.replicate ops.size false).getD k false=false:=fun k=>by
  rw[Array.getD_eq_getD_getElem?]
  cases h:(Array.replicate ops.size false)[k]? with
  | none=>rfl
  | some b =>
    have:=Array.mem_of_getElem? h
    simp at this
    exact this.2
 refine⟨⟨by simp[hlen],rfl,rfl,fun k d x hk hl=>?_,fun s _=>rfl,hb,fun k d t z s vs hk hl=>?_,fun k l d t z s vs d' t' z' s' vs' hk hl h1=>?_⟩,fun k j _ hl=>?_⟩
 · rw[fa] at hl;cases hl
 · rw[fa] at hl;cases hl
 · rw[fa] at h1;cases h1
 · rw[fa] at hl;cases hl
def QKl (L:ZZ)(w0:World)(p:Nat→Nat)(w:World):Prop:=Below w0.heap.size w0 w ∧
 (∀ (k:Nat) (d:Option Tmp) (t:TypeId) (z:Array Value) (s:Option (Nat×Array Value)) (vs:Option Nat),L[k]? = some (d,.box t z s vs)→w0.heap.size≤p k∧Row w (p k) t (endC z s)) ∧
 (∀ (k l:Nat) (d:Option Tmp) (t:TypeId) (z:Array Value) (s:Option (Nat×Array Value)) (vs:Option Nat) (d':Option Tmp) (t':TypeId) (z':Array Value) (s':Option (Nat×Array Value)) (vs':Option Nat),L[k]? = some (d,.box t z s vs)→L[l]? = some (d',.box t' z' s' vs')→k≠l→p k≠p l)
theorem BoxI.fin {L:ZZ} {a0:Act} {w0:World} {N:Nat}(H:QCU ops L N){p:Nat→Nat} {a:Act} {w:World}(I:BoxI L a0 w0 p (Array.replicate ops.size true) a w):QKl L w0 p w:=by
 have hlt:∀ (k:Nat) (x:Option Tmp×Pl),L[k]? = some x→k < ops.size:=fun k x h=>by rw[←H.len];exact (List.getElem?_eq_some_iff.1 h).1
 have tr:∀ k,k < ops.size→(Array.replicate ops.size true).getD k false=true:=fun k hk=>getD_at (by simp[hk])
 refine⟨I.below,fun k d t z s vs hk=>?_,fun k l d t z s vs d' t' z' s' vs' hk hl hne=>I.apart k l d t z s vs d' t' z' s' vs' hk hl (tr k (hlt k _ hk)) (tr l (hlt l _ hl)) hne⟩
 have h:=I.boxed k d t z s vs hk (tr k (hlt k _ hk))
 rcases s with _|⟨s,u⟩
 · exact h
 · simp only[QCM,tr s (hlt s _ (H.store k d t z s u vs hk)),if_true] at h
   exact h
theorem QTk {L:ZZ} {a0:Act} {w0:World}(hobs:Obs P ops L a0 w0 0 ops.toList L)(k:Nat)(o:Oper)(x:Pl)(ho:ops[k]? = some o)(hx:L[k]? = some (o.dst,x)):Ob P ops L a0 w0 k o x:=by
 have:=QOQ hobs k o o.dst x (by simpa using ho) hx
 rwa [Nat.zero_add] at this
theorem QHg {id:Nat} {a0:Act} {w0:World}(L:ZZ)(hm:P.follows .mixedOrders=true)(hB:QLG ops L a0.tmps.size=true)(hobs:Obs P ops L a0 w0 0 ops.toList L)
 (hend:∀ (p:Nat→Nat) w,QKl L w0 p w→Q .normal (QIy L a0 p) w):(Code.region id ops true).wp P Q a0 w0:=by
 have H:=QSk hB
 obtain⟨I,h0⟩:=QKO (a0:=a0) (ops:=ops) H.len (Below.refl w0.heap.size w0).drew
 refine wp_region_any hm (QL4 H (QTk hobs) (fun p w I=>hend p w (I.fin H)) ops.size _ _ a0 _ I h0 ?_)
 have:=List.countP_le_length (p:=fun k=>!(Array.replicate ops.size false).getD k true) (l:=List.range ops.size)
 simpa using this
end
section
variable {P:Program} {ops:Array Oper} {Q:Exit→Act→World→Prop} {base:List Value} {rest:List Oper} {l:J0} {w w0:World} {rs:List RowK} {L:List Nat}
def QJz (p:Nat→Nat):ZZ→Nat→J0→J0
 | [],_,l=>l
 | (some d,x) :: r,k,l=>QJz p r (k+1) ((d,x.value p k) :: l)
 | (none,_) :: r,k,l=>QJz p r (k+1) l
theorem QG8 (base:List Value)(p:Nat→Nat):∀ (M:ZZ) (k:Nat) (l:J0),ze p M k (X7 base l).tmps=(X7 base (QJz p M k l)).tmps
 | [],_,_=>rfl
 | (some d,x) :: r,k,l=>by
   have:=QG8 base p r (k+1) ((d,x.value p k) :: l)
   rw[QJz,←this,ze]
   congr 1
   exact congrArg Act.tmps (Qa base l (some d) (x.value p k))
 | (none,_) :: r,k,l=>QG8 base p r (k+1) l
theorem QG6 {n:Nat}(p:Nat→Nat):∀ (M:ZZ) (k:Nat) (l:J0),M.all (fun x=>XH x.1 n)=true→inO n l→inO n (QJz p M k l)
 | [],_,_,_,h=>h
 | (some d,x) :: r,k,l,ha,h=>by
   simp only[List.all_cons,Bool.and_eq_true] at ha
   exact QG6 p r (k+1) _ ha.2 (jZ (d:=some d) (v:=x.value p k) ha.1 h)
 | (none,_) :: r,k,l,ha,h=>by
   simp only[List.all_cons,Bool.and_eq_true] at ha
   exact QG6 p r (k+1) l ha.2 h
theorem QQ5 (M:ZZ)(p:Nat→Nat):QIy M (X7 base l) p=X7 base (QJz p M 0 l):=by
 unfold QIy
 rw[QG8]
 rfl
theorem QLx:(X7 base l).tmps.size=base.length:=by
 show (ovO base l).toArray.size=_
 rw[List.size_toArray,jX]
theorem QRs {id:Nat} {y:Code}(M:ZZ)(hobs:Obs P ops M (X7 base l) w 0 ops.toList M)(hend:∀ (p:Nat→Nat) w',QKl M w p w'→CO P y Q base (QJz p M 0 l) w')
 (hm:P.follows .mixedOrders=true:=by kernel_rfl)(hB:QLG ops M base.length=true:=by kernel_rfl)(hd:M.all (fun x=>XH x.1 base.length)=true:=by kernel_rfl):CO P (.seq (.region id ops true) y) Q base l w :=
 ⟨fun hi=>wp_seq (QHg M hm (by rw[QLx];exact hB) hobs fun p w' hb=>by rw[QQ5];exact (hend p w' hb).h (QG6 p M 0 l hd hi))⟩
theorem Many.add {b:Nat} {t:TypeId} {cells:Array Value}(h:Many w0 L rs w)(hr:Row w b t cells)(hb:w0.heap.size≤b)(hne:∀ (i:Nat) (r:RowK),rs[i]? = some r→r.b≠b):Many w0 L (rs++[⟨b,t,cells.toList.map some⟩]) w:=by
 have at_:∀ (i:Nat) (r:RowK),(rs++[⟨b,t,cells.toList.map some⟩])[i]? = some r→rs[i]? = some r∨(i=rs.length∧r=⟨b,t,cells.toList.map some⟩):=fun i r hr=>by
  by_cases hi:i < rs.length
  · rw[List.getElem?_append_left hi] at hr;exact .inl hr
  · rw[List.getElem?_append_right (by omega)] at hr
    cases hk:i-rs.length with
    | zero=>rw[hk] at hr;injection hr with hr;exact .inr ⟨by omega,hr.symm⟩
    | succ n=>rw[hk] at hr;cases hr
 refine⟨fun i r hi=>?_,fun i j r q hi hj hij=>?_,fun i r hi=>?_,h.touch⟩
 · rcases at_ i r hi with h1|⟨_,rfl⟩
   · exact h.rows i r h1
   · exact⟨cells,hr,by simp,fun k v hv=>by
      have:cells.toList[k]? = some v:=by
       rw[List.getElem?_map] at hv
       cases hl:cells.toList[k]? with
       | none=>rw[hl] at hv;cases hv
       | some u=>rw[hl] at hv;injection hv with hv
      simpa using this⟩
 · rcases at_ i r hi with h1|⟨e1,rfl⟩<;>rcases at_ j q hj with h2|⟨e2,rfl⟩
   · exact h.dis i j r q h1 h2 hij
   · exact hne i r h1
   · exact (hne j q h2).symm
   · omega
 · rcases at_ i r hi with h1|⟨_,rfl⟩
   · exact h.own i r h1
   · exact .inr hb
theorem Many.lt (h:Many w0 L rs w)(i:Nat)(r:RowK)(hr:rs[i]? = some r):r.b < w.heap.size:=by obtain⟨full,h1,_⟩:=h.rows i r hr;exact h1.lt
theorem Many.fresh {w':World} {b:Nat} {t:TypeId} {cells:Array Value}(h:Many w0 L rs w)(k:Below w.heap.size w w')(hr:Row w' b t cells)(hb:w.heap.size≤b):Many w0 L (rs++[⟨b,t,cells.toList.map some⟩]) w' :=
 (h.below k).add hr (Nat.le_trans h.touch.size hb) fun i r hi=>Nat.ne_of_lt (Nat.lt_of_lt_of_le (h.lt i r hi) hb)
theorem Many.row (h:Many w0 L rs w)(i:Nat){b:Nat} {t:TypeId}(vs:List Value)(e:rs[i]? = some ⟨b,t,vs.map some⟩):Row w b t vs.toArray:=by
 obtain⟨full,h1,h2⟩:=h.rows i _ e
 have hfull:full=vs.toArray:=by
  apply Array.ext_getElem?
  intro k
  by_cases hk:k < vs.length
  · have:(vs.map some)[k]? = some (some vs[k]):=by rw[List.getElem?_map,List.getElem?_eq_getElem hk];rfl
    rw[h2.at_ k _ this]
    simp[hk]
  · have hs:=h2.size
    rw[List.length_map] at hs
    rw[Array.getElem?_eq_none (by omega)]
    simp[hk]
 rw[←hfull];exact h1
theorem Many.take (h:Many w0 L rs w)(n:Nat)(rs':List RowK)(e:rs.take n=rs':=by kernel_rfl):Many w0 L rs' w:=by
 have at_:∀ (i:Nat) (r:RowK),rs'[i]? = some r→rs[i]? = some r:=fun i r hr=>by
  rw[←e,List.getElem?_take] at hr
  split at hr
  · exact hr
  · cases hr
 exact⟨fun i r hi=>h.rows i r (at_ i r hi),fun i j r q hi hj hij=>h.dis i j r q (at_ i r hi) (at_ j q hj) hij,fun i r hi=>h.own i r (at_ i r hi),h.touch⟩
theorem Many.start {b:Nat} {t:TypeId} {cells:Array Value}(hr:Row w b t cells):Many w [b] [⟨b,t,cells.toList.map some⟩] w:=by
 have at_:∀ (i:Nat) (r:RowK),([⟨b,t,cells.toList.map some⟩]:List RowK)[i]? = some r→i=0∧r=⟨b,t,cells.toList.map some⟩:=fun i r hi=>by
  cases i with
  | zero=>simp at hi;exact⟨rfl,hi.symm⟩
  | succ i=>simp at hi
 refine⟨fun i r hi=>?_,fun i j r q hi hj hij=>?_,fun i r hi=>?_,.refl ..⟩
 · obtain⟨-,rfl⟩:=at_ i r hi
   exact⟨cells,hr,by simp,fun k v hv=>by
    have:cells.toList[k]? = some v:=by
     rw[List.getElem?_map] at hv
     cases hl:cells.toList[k]? with
     | none=>rw[hl] at hv;cases hv
     | some u=>rw[hl] at hv;injection hv with hv
    simpa using this⟩
 · have h1:=(at_ i r hi).1
   have h2:=(at_ j q hj).1
   omega
 · obtain⟨-,rfl⟩:=at_ i r hi
   exact .inl (by simp)
abbrev jQ (base:List Value)(l:J0):Nat→Value:=fun i=>(ovO base l).getD i undef
theorem QSX {c:Code}(base':List Value)(h:CO P c Q base' [] w)(e:ovO base l=base':=by kernel_rfl):CO P c Q base l w:=⟨fun hi=>by
 have:=h.h trivial
 have e2:X7 base' []=X7 base l:=by rw[←e];rfl
 rwa [e2] at this⟩
def QRb {α:Type}(B:α→List Value)(I:α→World→Prop)(μ:α→Nat)(x:α)(a:Act)(w:World):Prop:=∃ x',a=X7 (B x') []∧I x' w∧μ x' < μ x
theorem QHB {α:Type} {c:Code}(B:α→List Value)(I:α→World→Prop)(μ:α→Nat)(x0:(Nat→Value)→α)(h0:I (x0 (jQ base l)) w)(round:∀ x w,I x w→CO P c (Exit.then (QRb B I μ x) Q) (B x) [] w)(e:ovO base l=B (x0 (jQ base l)):=by kernel_rfl):CO P (.loop c) Q base l w:=⟨fun hi=>by
 have e2:X7 base l=X7 (B (x0 (jQ base l))) []:=by rw[←e];rfl
 refine wp_loop_ghost (fun n a w=>∃ x,μ x=n∧a=X7 (B x) []∧I x w) (μ (x0 (jQ base l))) ⟨_,rfl,e2,h0⟩ ?_
 rintro n a w1 ⟨x,rfl,rfl,hx⟩
 refine wp_mono ((round x w1 hx).h trivial) ?_
 intro e a' w' hq
 cases e with
 | normal =>
   obtain⟨x',h1,h2,h3⟩:=hq
   exact⟨μ x',h3,x',rfl,h1,h2⟩
 | _=>exact hq⟩
theorem j6 {α:Type} {B:α→List Value} {I:α→World→Prop} {μ:α→Nat} {x:α}(x':(Nat→Value)→α)(hI:I (x' (jQ base l)) w)(hμ:μ (x' (jQ base l)) < μ x)(e:ovO base l=B (x' (jQ base l)):=by kernel_rfl):EO (Exit.then (QRb B I μ x) Q) .normal base l w :=
 ⟨fun hi=>⟨x' (jQ base l),by rw[←e];rfl,hI,hμ⟩⟩
end
theorem QDd (w:World)(cs:List Value)(t:TypeId):∀ j u,cs[j]? = some u→(w.alloc (.cells cs.toArray t)).cell? ((⟨w.heap.size,0,none⟩:Addr).add j)=some u:=by
 intro j u hj
 have h:=(Row.new w t cs.toArray).cell j
 have e:(⟨w.heap.size,0,none⟩:Addr).add j=⟨w.heap.size,j,none⟩:=by
  unfold Addr.add
  split
  · rename_i h0;rw[h0]
  · simp
 rw[e,h]
 simpa using hj
theorem own_below {w w':World} {b:Nat} {e:TypeId} {s:Nat} {v:Value} {n:Nat} {xs:List Value}(h:w.ownsRow b e s v n xs)(k:Below w.heap.size w w'):w'.ownsRow b e s v n xs:=by
 refine h.kept (row:=none) ⟨k.os,k.tape,k.output,k.size,fun i hi _=>k.block i hi⟩ ?_
 cases e2:v.ownBlock with
 | none=>exact .inl rfl
 | some g=>exact .inr (by simp)
theorem QH9 {w W w1:World} {base:Nat} {e:TypeId} {size:Nat} {v:Value} {n:Nat} {xs:List Value}(h:Below w.heap.size w W)(hg:W.grownBy w1 v.ownBlock)(ho:W.ownsRow base e size v n xs)(hb:w.heap.size≤base):Below w.heap.size w w1 :=
 h.grown hg h.size (fun k e=>Nat.le_trans hb (ho.lt k e).1)
def bvs (l:List Int):List Value:=l.map fun x=>.int .u8 x
theorem QQX:(Tryz.prog.info? 5).map (fun i=>(i.zero,i.size,i.bytes))=some (some (.int .u8 0),1,1):=by kernel_rfl
theorem QPo (l:List Int):∀ u∈bvs l,u.oneCell'=true:=by
 intro u hu
 unfold bvs at hu
 rw[List.mem_map] at hu
 obtain⟨x,-,rfl⟩:=hu
 rfl
theorem QBT (l m:List Int):bvs l++bvs m=bvs (l++m):=by simp[bvs]
theorem QE3 (l:List Int):(bvs l).length=l.length:=by simp[bvs]
theorem jP {w:World} {b n c:Nat} {Av:Option Addr} {l:List Int}(h:w.ownsRow b 5 1 (.slice Av n c) n (bvs l)):BytesIn w w.heap.size Av l:=by
 rcases h.2 with ⟨e1,e2⟩|⟨g,cap,cur,e1,-,hh,-⟩
 · have h1:=h.1
   rw[QE3,e2] at h1
   obtain rfl:l=[]:=List.eq_nil_of_length_eq_zero (by omega)
   exact BytesIn.nil _ _ _
 · injection e1 with e3 e4 e5
   subst e3
   intro j x hx
   refine⟨_,rfl,(Array.getElem?_eq_some_iff.1 hh).1,h.cells (g:=g) rfl j _ ?_⟩
   unfold bvs
   rw[List.getElem?_map,hx]
   rfl
theorem jv {ops:Array Oper} {rest:List Oper} {o:Oper} {a:Act} {w:World} {Q:Exit→Act→World→Prop}(hgd:o.guard=none)(s x:Operand)
 (ho:o.op=.call { callee:=.builtin .append,args:=#[s,x],argTypes:=#[26,26] })
 (w0:World)(base B:Nat)(hB:Below w0.heap.size w0 w)(hb0:w0.heap.size≤base)(hbase:base≤w.heap.size)
 (v:Value)(n:Nat)(l:List Int)(hs:a.eval s=v)(hown:w.ownsRow base 5 1 v n (bvs l))
 (A:Option Addr)(c:Nat)(ys:List Int)(hx:a.eval x=.slice A ys.length c)(hy:BytesIn w B A ys)(hn:A=none→c=0)(hmax:n+ys.length≤140737488355328)
 (h:∀ v' w',w'.ownsRow base 5 1 v' (n+ys.length) (bvs (l++ys))→Below w0.heap.size w0 w'→base≤w'.heap.size→wpList Tryz.prog ops Q rest (a.put o.dst v') w') :
 wpList Tryz.prog ops Q (o :: rest) a w:=by
 obtain⟨i0,hi0,hz0,hz1,hz2⟩:=info_parts QQX
 rcases A with _|p
 · obtain rfl:=hn rfl
   have hy0:ys=[]:=by
    cases ys with
    | nil=>rfl
    | cons y ys' =>
      obtain⟨ad,e,-⟩:=hy 0 y rfl
      cases e
   subst hy0
   refine wpList_append_own_none hgd s x _ ho base 5 i0 1 Tryz.underlying26 hi0 v n (bvs l) hs hown hx ?_
   exact h v w (by simpa using hown) hB hbase
 · refine wpList_append_own_at _ hgd s x _ ho base 5 i0 _ 1 1 Tryz.underlying26 hi0 hz0 hz1 hz2 rfl (by omega) v n (bvs l) hs hown p ys.length c (bvs ys) hx (by rw[QE3];omega) (fun j u hj=>?_) (QPo ys) (by simp only[maxLen];omega) (by omega) hbase ?_
   · unfold bvs at hj
     rw[List.getElem?_map] at hj
     obtain⟨y,hy1,hy2⟩:=Option.map_eq_some_iff.1 hj
     obtain⟨ad,e1,-,e2⟩:=hy j y hy1
     cases e1
     rw[e2,←hy2]
   · intro v' w' own' hg _ _
     rw[QBT] at own'
     exact h v' w' own' (QH9 hB hg hown hb0) (Nat.le_trans hbase hg.size)
theorem Zx {W:World} {b n:Nat} {v:Value} {l:List Int}(h:W.ownsRow b 5 1 v n (bvs l)):∃ A c,v=.slice A n c∧n≤c∧BytesIn W W.heap.size A l∧(A=none→c=0):=by
 rcases h.2 with ⟨e1,e2⟩|⟨g,c,cur,e1,-,-,hle,-⟩
 · subst e1 e2
   exact⟨none,0,rfl,Nat.le_refl _,jP h,fun _=>rfl⟩
 · subst e1
   exact⟨_,c,rfl,hle,jP h,fun e=>by cases e⟩
section
variable {ops:Array Oper} {Q:Exit→Act→World→Prop} {base:List Value} {rest:List Oper} {l:J0} {w:World} {o:Oper}
theorem qA {o:Oper}(s x:Operand)(w0:World)(bs B:Nat)(v:Value)(n:Nat)(got:List Int)(A:Option Addr)(c:Nat)(ys:List Int)(hB:Below w0.heap.size w0 w)(hb0:w0.heap.size≤bs)(hbs:bs≤w.heap.size)
 (hown:w.ownsRow bs 5 1 v n (bvs got))(hy:BytesIn w B A ys)(hn:A=none→c=0)(hmax:n+ys.length≤140737488355328)
 (h:∀ v' w',w'.ownsRow bs 5 1 v' (n+ys.length) (bvs (got++ys))→Below w0.heap.size w0 w'→bs≤w'.heap.size→WO Tryz.prog ops Q base rest (XL o.dst v' l) w')
 (ho:o.op=.call { callee:=.builtin .append,args:=#[s,x],argTypes:=#[26,26] }:=by exact rfl)(hg:o.guard=none:=by exact rfl)(hs:evO base l s=v:=by kernel_rfl)(hx:evO base l x=.slice A ys.length c:=by kernel_rfl)(hd:XH o.dst base.length=true:=by kernel_rfl):WO Tryz.prog ops Q base (o :: rest) l w :=
 ⟨fun hi=>⟨jv hg s x ho w0 bs B hB hb0 hbs v n got (by rw[QH hi];exact hs) hown A c ys (by rw[QH hi];exact hx) hy hn hmax fun v' w' h1 h2 h3=>by rw[Qa];exact ((h v' w' h1 h2 h3).h (jZ hd hi)).h⟩⟩
end
section
variable {P:Program} {ops:Array Oper} {Q:Exit→Act→World→Prop} {base:List Value} {rest:List Oper} {l:J0} {w:World} {o:Oper}
theorem QMr {rest:List Oper} {o:Oper} {a:Act} {w w':World}(v:Value)(hw:Region.wanted o (yielded ops a.tmps)=true)(he:(execOp a.eval o).run P w=.ok (.value v) w')
 (h:WL P ops Q rest (a.put o.dst v) w'):WL P ops Q (o :: rest) a w :=
 ⟨wpList_step fun K hK=>by
  rw[if_pos hw]
  unfold Oper.wp
  rw[he,Oper.upon_value]
  exact hK _ _ h.h⟩
theorem wM {V:Value} {w':World}(he:(execOp (evO base l) o).run P w=.ok (.value V) w')(h:WO P ops Q base rest (XL o.dst V l) w')(hg:QA ops base.length base l o=some true:=by kernel_rfl)(hd:XH o.dst base.length=true:=by kernel_rfl):WO P ops Q base (o :: rest) l w :=
 ⟨fun hi=>QMr V (J2 hg hi) (by rw[QH hi];exact he) (by rw[Qa];exact h.h (jZ hd hi))⟩
theorem wD {w':World}(he:(execOp (evO base l) o).run P w=.ok .skip w')(h:WO P ops Q base rest l w')(hd:o.dst=none:=by exact rfl)(hg:QA ops base.length base l o=some true:=by kernel_rfl):WO P ops Q base (o :: rest) l w :=
 ⟨fun hi=>Xo hd (J2 hg hi) (by rw[QH hi];exact he) (h.h hi)⟩
theorem kX {g:FuncId} {args:Array Value} {R:Ending→World→Prop}(hc:Calls P g args w R)(h:∀ e w',R e w'→∃ V,e=.returned V∧WO P ops Q base rest (XL o.dst V l) w')
 (hg:QA ops base.length base l o=some true:=by kernel_rfl)(he:(execOp (evO base l) o).run P w=.ok (.enter g args) w:=by kernel_rfl)(hd:XH o.dst base.length=true:=by kernel_rfl):WO P ops Q base (o :: rest) l w :=
 QCd hg he hd hc fun e w' hR=>by
  obtain⟨V,rfl,hV⟩:=h e w' hR
  exact hV
end
theorem Many.byte {w0 w:World} {L:List Nat} {b:Nat} {t:TypeId} {x:Int} {rs:List RowK}(h:Many w0 L rs w)(i:Nat)(e:rs[i]? = some ⟨b,t,[some (.int .u8 x)]⟩):BytesIn w w.heap.size (some ⟨b,0,none⟩) [x]:=by
 obtain⟨full,h1,h2⟩:=h.rows i _ e
 intro j y hy
 obtain⟨rfl,rfl⟩:j=0∧y=x:=by
  cases j with
  | zero=>simp at hy;exact⟨rfl,hy.symm⟩
  | succ j=>simp at hy
 refine⟨_,rfl,h1.lt,?_⟩
 show w.cell? ⟨b,0,none⟩=_
 rw[h1.cell 0]
 exact h2.at_ 0 _ rfl
theorem q5 {a b c x:Nat} {t u v:TypeId} {cs ds es:Xf}(h:a≠x)(k:b≠x)(m:c≠x):∀ (i:Nat) (r:RowK),([⟨a,t,cs⟩,⟨b,u,ds⟩,⟨c,v,es⟩]:List RowK)[i]? = some r→r.b≠x:=fun i r hi=>by
 match i with
 | 0=>cases hi;exact h
 | 1=>cases hi;exact k
 | 2=>cases hi;exact m
 | i+3=>cases hi
theorem QMY {w:World} {b:Nat} {t:TypeId} {xs:List Int}(h:Row w b t (bvs xs).toArray):BytesIn w w.heap.size (some ⟨b,0,none⟩) xs:=fun j x hx=>by
 refine⟨_,rfl,h.lt,?_⟩
 rw[show (⟨b,0,none⟩:Addr).add j=⟨b,j,none⟩ by simp[Addr.add];omega,h.cell j]
 simp[bvs,hx]
end Go.Proofs.YtkenebbjodcbcaaGreatDoor
