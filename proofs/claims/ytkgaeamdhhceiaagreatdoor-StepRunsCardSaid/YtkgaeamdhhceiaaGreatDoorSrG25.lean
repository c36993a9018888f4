/- Contracts and facts that the claim's proof wants (several texts in one). -/
import Derived.Maps.RangeWalk
import Derived.Test.YtkgaeamdhhceiaaGreatDoorSrG24
namespace Go.Proofs.YtkgaeamdhhceiaaGreatDoor
open Go.RowKit
set_option linter.unusedVariables false
set_option linter.unusedSimpArgs false
set_option maxRecDepth 20000
set_option maxHeartbeats 20000000
structure EvQ where
 ok:Bool
 l:Jy
 fs:List ((World→Result Next)×(World→Result Next))
def evq (P:Program)(ops:Array Oper)(W:World)(n:Nat)(base:List Value):List Oper→Jy→List ((World→Result Next)×(World→Result Next))→EvQ
 | [],l,fs=>⟨true,l,fs⟩
 | o :: r,l,fs=>match QC ops n base l o with
   | some true=>match evP P W n base l o with
     | some (l',gs)=>evq P ops W n base r l' (gs++fs)
     | none=>⟨false,l,fs⟩
   | some false=>match o.dst with
     | some d=>bif Nat.blt d n then evq P ops W n base r ((d,undef) :: l) fs else ⟨false,l,fs⟩
     | none=>⟨false,l,fs⟩
   | none=>⟨false,l,fs⟩
def okQ (E:EvQ):Prop:=(E.ok,E.fs.map (·.1))=(true,E.fs.map (·.2))
section
variable {P:Program} {ops:Array Oper} {Q:Exit→Act→World→Prop} {S:World→Prop} {base:List Value} {l:Jy} {w w0:World} {o:Oper}
theorem QH4 {W:World}:∀ (os:List Oper) (l:Jy) (fs),(evq P ops W base.length base os l fs).ok=true→∀ x∈fs,x∈(evq P ops W base.length base os l fs).fs
 | [],_,_,_=>fun _ h=>h
 | o :: r,l,fs,hok=>by
   unfold evq at hok ⊢
   split at hok
   · split at hok
     · rename_i l' gs he
       exact fun x hx=>QH4 r l' (gs++fs) hok x (List.mem_append_right _ hx)
     · cases hok
   · split at hok
     · rename_i d hd
       cases hn:Nat.blt d base.length<;>rw[hn] at hok
       · cases hok
       · exact QH4 r _ fs hok
     · cases hok
   · cases hok
theorem QFJ {W:World} {n:Nat}(hB:Q4 ops n=true)(hQ:∀ d v c a w,Q (.panic c) (a.put d v) w→Q (.panic c) a w) :
 ∀ (is:List Nat) (f:Nat) (listed:Array Bool) (l:Jy) (fs) (w:World),(evq P ops W base.length base (atO ops is) l fs).ok=true→(∀ x∈(evq P ops W base.length base (atO ops is) l fs).fs,x.1=x.2) →
 QFp ops n is listed=true→S w→PO P ops Q S n base f (QLJ is listed) (evq P ops W base.length base (atO ops is) l fs).l w→PO P ops Q S n base (f+is.length) listed l w
 | [],f,listed,l,fs,w,_,_,_,_,h=>h
 | i :: r,f,listed,l,fs,w,hok,hf,ho,hS,h=>by
   simp only[QFp,Bool.and_eq_true] at ho
   obtain⟨h1,h2,h3,h4,h5⟩:=ho
   obtain⟨o,hoi⟩:=Option.isSome_iff_exists.1 h1
   have hat:atO ops (i :: r)=o :: atO ops r:=by rw[atO,hoi]
   rw[hat] at hok hf h
   unfold evq at hok hf h
   split at hok
   case h_2 hw =>
    simp only[hw] at hf h
    split at hok
    · rename_i d hd
      simp only[hd] at hf h
      cases hn:Nat.blt d base.length<;>rw[hn] at hok
      · cases hok
      · simp only[hn,cond_true] at hf h
        have:=QFJ hB hQ r f (listed.setIfInBounds i true) _ fs w hok hf h5 hS h
        refine⟨fun hi=>QGy d hd hoi hB h2 h3 h4 (by rw[hd];exact hQ (some d) undef) (J5 hw hi) hS ?_⟩
        rw[QZ]
        exact this.h ⟨by simpa [Nat.blt_eq] using hn,hi⟩
    · cases hok
   case h_3=>cases hok
   case h_1 hw =>
   simp only[hw] at hf h
   split at hok
   · rename_i l' gs he
     simp only[he] at hf h
     have hm:=QH4 (atO ops r) l' (gs++fs) hok
     have key:∃ d v,o.dst=some d∧Nat.blt d base.length=true∧l'=(d,v) :: l∧∀ w',(execOp (evO base l) o).run P w'=.ok (.value v) w':=by
      unfold evP at he
      split at he
      · rename_i d x hd hop
        cases hlt:Nat.blt d base.length<;>rw[hlt] at he
        · cases he
        · injection he with he;injection he with e1 e2
          exact⟨d,_,hd,hlt,e1.symm,fun w'=>QDQ (.inl hop) w'⟩
      · rename_i d x hd hop
        cases hlt:Nat.blt d base.length<;>rw[hlt] at he
        · cases he
        · injection he with he;injection he with e1 e2
          exact⟨d,_,hd,hlt,e1.symm,fun w'=>QDQ (.inr hop) w'⟩
      · rename_i d hd n1 n2
        split at he
        · rename_i v w1 hv
          cases hlt:Nat.blt d base.length<;>rw[hlt] at he
          · cases he
          · injection he with he;injection he with e1 e2
            exact⟨d,v,hd,hlt,e1.symm,fun w'=>congrFun (hf _ (hm _ (List.mem_append_left _ (by rw[←e2];exact List.mem_cons_self)))) w'⟩
        · cases he
      · cases he
     obtain⟨d,v,hd,hn,el,hv⟩:=key
     have:=QFJ hB hQ r f (listed.setIfInBounds i true) l' (gs++fs) w hok hf h5 hS h
     rw[el] at this
     refine⟨fun hi=>jF d v hd hoi hB h2 h3 h4 (by rw[hd];exact hQ (some d) v) (J5 hw hi) (fun w' hs=>by rw[J9 hi];exact hv w') hS ?_⟩
     rw[QZ]
     exact this.h ⟨by simpa [Nat.blt_eq] using hn,hi⟩
   · cases hok
theorem qM {n f:Nat} {listed:Array Bool}(is:List Nat)(hS:S w)(h:PO P ops Q S n base (f-is.length) (QLJ is listed) (evq P ops w base.length base (atO ops is) l []).l w)
 (hk:okQ (evq P ops w base.length base (atO ops is) l []):=by unfold okQ;kernel_rfl)(ha:(QFp ops n is listed&&(Q4 ops n&&Nat.ble is.length f))=true:=by kernel_rfl)
 (hQ:∀ d v c a w,Q (.panic c) (a.put d v) w→Q (.panic c) a w:=by intro d _ _ _ _ h;cases d<;>exact h):PO P ops Q S n base f listed l w:=by
 simp only[Bool.and_eq_true] at ha
 obtain⟨a2,a3,a4⟩:=ha
 simp only[okQ,Prod.mk.injEq] at hk
 obtain⟨h1,h3⟩:=hk
 have hle:is.length≤f:=by simpa using a4
 have:=QFJ (S:=S) (base:=base) (W:=w) a3 hQ is (f-is.length) listed l [] w h1 (XI h3) a2 hS h
 rwa [Nat.sub_add_cancel hle] at this
def jV (ops:Array Oper)(i:Nat):Oper:=(ops[i]?).getD { dst:=none,op:=.move (.const undef),type:=0,pos := "",after:=#[],guard:=none }
theorem QCW {ops:Array Oper} {i:Nat}(h:(ops[i]?).isSome=true):ops[i]?=some (jV ops i):=by
 unfold jV
 cases e:ops[i]? with
 | none=>rw[e] at h;cases h
 | some o=>rfl
theorem qT {n f:Nat} {listed:Array Bool} {V:Value}(i:Nat)(hS:S w)(he:∀ w',S w'→(execOp (evO base l) (jV ops i)).run P w'=.ok (.value V) w')(h:PO P ops Q S n base (f-1) (listed.setIfInBounds i true) (Q7 (jV ops i).dst V l) w)
 (hd:((jV ops i).dst.isSome,Q9 (jV ops i).dst base.length,QC ops base.length base l (jV ops i))=(true,true,some true):=by kernel_rfl)(ha:(QFp ops n [i] listed&&(Q4 ops n&&Nat.blt 0 f))=true:=by kernel_rfl)
 (hQ:∀ d v c a w,Q (.panic c) (a.put d v) w→Q (.panic c) a w:=by intro d _ _ _ _ h;cases d<;>exact h):PO P ops Q S n base f listed l w:=by
 simp only[Prod.mk.injEq] at hd
 obtain⟨d1,d2,d3⟩:=hd
 simp only[QFp,Bool.and_eq_true] at ha
 obtain⟨⟨a1,a2,a3,a4,-⟩,a5,a6⟩:=ha
 have ho:=QCW a1
 obtain⟨d,hd⟩:=Option.isSome_iff_exists.1 d1
 have hf:f=(f-1)+1:=by have:0 < f:=by simpa [Nat.blt_eq] using a6
                       omega
 rw[hf]
 refine⟨fun hi=>jF d V hd ho a5 a2 a3 a4 (by rw[hd];exact hQ (some d) V) (J5 d3 hi) (fun w' hs=>by rw[J9 hi];exact he w' hs) hS ?_⟩
 rw[←hd,QZ]
 exact h.h (ZJ d2 hi)
structure SO (P:Program)(ops:Array Oper)(Q:Exit→Act→World→Prop)(S:World→Prop)(n:Nat)(base:List Value)(f:Nat)(listed:Array Bool)(i:Nat)(l:Jy)(w:World):Prop where
 h:inO base.length l→i∈Region.ready .any ops listed→HeadInv .any ops n listed→i < n∧wpOp P ops Q i (fun a' w'=>S w'∧QDi P .any ops Q S n (QQk P ops Q n) f (listed.setIfInBounds i true) a' w') (ZL base l) w
theorem ZZ {n f:Nat} {listed:Array Bool}(i:Nat)(h:SO P ops Q S n base (f-1) listed i l w)(hr:(Region.ready .any ops listed,Nat.blt 0 f)=([i],true):=by kernel_rfl):PO P ops Q S n base f listed l w:=by
 simp only[Prod.mk.injEq] at hr
 have hf:f=(f-1)+1:=by have:0 < f:=by simpa [Nat.blt_eq] using hr.2
                       omega
 rw[hf]
 refine⟨fun hi inv=>⟨by rw[hr.1];simp,fun k hk=>?_⟩⟩
 have hk':=hk
 rw[hr.1] at hk
 obtain rfl:k=i:=by simpa using hk
 exact h.h hi hk' inv
theorem soC {n f i:Nat} {listed:Array Bool} {g:FuncId} {args:Array Value} {R:Ending→World→Prop}(hc:Calls P g args w R)(h:∀ e w',R e w'→∃ V,e=.returned V∧S w'∧PO P ops Q S n base f (listed.setIfInBounds i true) (Q7 (jV ops i).dst V l) w')
 (hd:(Q9 (jV ops i).dst base.length,decide (i < n),QC ops base.length base l (jV ops i),(ops[i]?).isSome)=(true,true,some true,true):=by kernel_rfl)(he:(execOp (evO base l) (jV ops i)).run P w=.ok (.enter g args) w:=by kernel_rfl):SO P ops Q S n base f listed i l w:=by
 simp only[Prod.mk.injEq] at hd
 obtain⟨d1,d2,d3,d4⟩:=hd
 have ho:=QCW d4
 refine⟨fun hi hr inv=>⟨of_decide_eq_true d2,?_⟩⟩
 unfold wpOp
 simp only[ho,J5 d3 hi,if_true]
 refine .inl ?_
 unfold Oper.wp
 rw[J9 hi,he,Oper.upon_enter]
 refine hc.mono fun e w' hR=>?_
 obtain⟨V,rfl,hS,hp⟩:=h e w' hR
 dsimp only
 rw[QZ]
 exact⟨hS,hp.h (ZJ d1 hi) (inv.set hr (of_decide_eq_true d2))⟩
theorem coD {id:Nat} {y:Code}(n:Nat)(hB:Below w0.heap.size w0 w)(h:∀ w',Below w.heap.size w w'→Below w0.heap.size w0 w'→PO P ops (Exit.then (y.wp P Q) Q) (fun w=>Below w0.heap.size w0 w) n base n (Array.replicate ops.size false) l w')
 (hP:Q4 ops n=true:=by kernel_rfl)(hm:P.follows .mixedOrders=true:=by kernel_rfl):CO P (.seq (.region id ops true) y) Q base l w :=
 coP n (hB.trans (((Below.refl w.heap.size w).drew).mono hB.size)) (h _ (Below.refl ..).drew (hB.trans (((Below.refl w.heap.size w).drew).mono hB.size))) hP hm
theorem coDz {id:Nat}(n:Nat)(hB:Below w0.heap.size w0 w)(h:∀ w',Below w.heap.size w w'→Below w0.heap.size w0 w'→PO P ops Q (fun w=>Below w0.heap.size w0 w) n base n (Array.replicate ops.size false) l w')
 (hP:Q4 ops n=true:=by kernel_rfl)(hm:P.follows .mixedOrders=true:=by kernel_rfl):CO P (.region id ops true) Q base l w :=
 QUl n (hB.trans (((Below.refl w.heap.size w).drew).mono hB.size)) (h _ (Below.refl ..).drew (hB.trans (((Below.refl w.heap.size w).drew).mono hB.size))) hP hm
end
def T3.v (T:T3):Value:=.tuple #[cyV T.c,JG T.g,.bool T.b]
def QH:List Cy→List Value
 | []=>[]
 | c :: r=>.int .i64 c.kind :: .int .u16 c.addr :: .int .u8 c.data :: .int .i64 c.t :: QH r
theorem jH:∀ l:List Cy,(QH l).length=l.length*4
 | []=>rfl
 | c :: r=>by simp only[QH,List.length_cons,jH r];omega
theorem zg:∀ l m:List Cy,QH l++QH m=QH (l++m)
 | [],_=>rfl
 | c :: r,m=>by simp only[QH,List.cons_append,zg r m]
theorem QCx:∀ l:List Cy,∀ u∈QH l,u.oneCell'=true
 | [],_,h=>by cases h
 | c :: r,u,h=>by
   simp only[QH,List.mem_cons] at h
   rcases h with rfl|rfl|rfl|rfl|h
   · rfl
   · rfl
   · rfl
   · rfl
   · exact QCx r u h
theorem QEg:∀ (l:List Cy) (k:Nat) (hk:k < l.length),(QH l)[k*4]?=some (.int .i64 l[k].kind)∧(QH l)[k*4+1]?=some (.int .u16 l[k].addr)∧(QH l)[k*4+2]?=some (.int .u8 l[k].data)∧(QH l)[k*4+3]?=some (.int .i64 l[k].t)
 | [],k,h=>by simp at h
 | c :: r,0,_=>⟨rfl,rfl,rfl,rfl⟩
 | c :: r,k+1,h=>by
   have:=QEg r k (by simpa using h)
   rw[show (k+1)*4=k*4+1+1+1+1 by omega,show k*4+1+1+1+1+1=k*4+1+1+1+1+1 from rfl,show k*4+1+1+1+1+2=k*4+2+1+1+1+1 by omega,show k*4+1+1+1+1+3=k*4+3+1+1+1+1 by omega]
   simp only[QH,List.getElem?_cons_succ,List.getElem_cons_succ]
   exact this
def CysIn (w:World)(B:Nat)(A:Option Addr)(l:List Cy):Prop:=∀ (j:Nat) (u:Value),(QH l)[j]?=some u→∃ p,A=some p∧p.block < B∧w.cell? (p.add j)=some u
theorem CysIn.keep {w w':World} {B:Nat} {A:Option Addr} {l:List Cy}(h:CysIn w B A l)(k:∀ b,b < B→w'.heap[b]?=w.heap[b]?):CysIn w' B A l:=fun j c hc=>by
 obtain⟨p,e,hb,h1⟩:=h j c hc
 exact⟨p,e,hb,(World.cell?_of_block (by rw[add_block];exact k _ hb)).trans h1⟩
theorem CysIn.more {w:World} {B B':Nat} {A:Option Addr} {l:List Cy}(h:CysIn w B A l)(k:B≤B'):CysIn w B' A l:=fun j c hc=>by
 obtain⟨p,e,hb,h1⟩:=h j c hc
 exact⟨p,e,Nat.lt_of_lt_of_le hb k,h1⟩
theorem CysIn.below {w w':World} {B:Nat} {A:Option Addr} {l:List Cy}(h:CysIn w B A l)(k:Below B w w'):CysIn w' B A l:=h.keep fun b hb=>k.block b hb
theorem CysIn.addr {w:World} {B:Nat} {A:Option Addr} {l:List Cy}(h:CysIn w B A l){k:Nat}(hk:k < l.length):∃ p,A=some p:=by
 obtain⟨p,e,-⟩:=h _ _ (QEg l k hk).1
 exact⟨p,e⟩
theorem CysIn.values {w:World} {B:Nat} {p:Addr} {l:List Cy}(h:CysIn w B (some p) l):∀ j u,(QH l)[j]?=some u→w.cell? (p.add j)=some u:=fun j u hu=>by
 obtain⟨q,e,-,h1⟩:=h j u hu
 cases e
 exact h1
theorem CysIn.of_values {w:World} {B:Nat} {p:Addr} {l:List Cy}(hb:p.block < B)(h:∀ j u,(QH l)[j]?=some u→w.cell? (p.add j)=some u):CysIn w B (some p) l:=fun j c hc=>⟨p,rfl,hb,h j c hc⟩
theorem QTF {w:World} {p:Addr} {a b c d:Int}(h0:w.cell? p=some (.int .i64 a))(h1:w.cell? (p.add 1)=some (.int .u16 b))(h2:w.cell? (p.add 2)=some (.int .u8 c))(h3:w.cell? (p.add 3)=some (.int .i64 d)):(Instr.loadAt 54 (.pointer (some p))).run Tryz.prog w=.ok (cyV ⟨a,b,c,d⟩) w:=by
 have e1:w.cell? { block:=p.block,off:=p.off+1 }=some (.int .u16 b):=by simpa [Addr.add] using h1
 have e2:w.cell? { block:=p.block,off:=p.off+2 }=some (.int .u8 c):=by simpa [Addr.add] using h2
 have e3:w.cell? { block:=p.block,off:=p.off+3 }=some (.int .i64 d):=by simpa [Addr.add] using h3
 simp[go_sem,h0,e1,e2,e3]
theorem QAa (p:Addr)(a b:Nat)(hb:b≠0):(p.add a).add b=p.add (a+b):=by
 cases p
 unfold Addr.add
 split<;>split<;>simp_all<;>omega
theorem CysIn.ld {w:World} {B:Nat} {p:Addr} {l:List Cy}(h:CysIn w B (some p) l){k:Nat}(hk:k < l.length):(Instr.loadAt 54 (.pointer (some (p.add (k*4))))).run Tryz.prog w=.ok (cyV l[k]) w:=by
 obtain⟨h0,h1,h2,h3⟩:=QEg l k hk
 exact QTF (h.values _ _ h0) (by rw[QAa _ _ _ (by omega)];exact h.values _ _ h1) (by rw[QAa _ _ _ (by omega)];exact h.values _ _ h2) (by rw[QAa _ _ _ (by omega)];exact h.values _ _ h3)
theorem QGV (p:Addr)(n c k:Nat)(h:k < n)(w:World):(Instr.indexAt 31 (.slice (some p) n c) (.int .i64 (k:Int))).run Tryz.prog w=.ok (.pointer (some (p.add (k*4)))) w:=by
 have h1:(k:Int) < n:=by omega
 simp[go_sem,h]
theorem QQZ:(Tryz.prog.info? 54).map (fun i=>(i.zero,i.size,i.bytes))=some (some (cyV JM),4,24):=by kernel_rfl
theorem qV {W:World} {b n:Nat} {v:Value} {l:List Cy}(h:W.ownsRow b 54 4 v n (QH l)):∃ A c,v=.slice A n c∧n≤c∧CysIn W W.heap.size A l∧(A=none→c=0):=by
 rcases h.2 with ⟨e1,e2⟩|⟨g,c,cur,e1,-,hh,hle,-⟩
 · subst e1 e2
   have h1:=h.1
   rw[jH] at h1
   obtain rfl:l=[]:=List.eq_nil_of_length_eq_zero (by omega)
   exact⟨none,0,rfl,Nat.le_refl _,fun j u h=>by simp[QH] at h,fun _=>rfl⟩
 · subst e1
   exact⟨_,c,rfl,hle,CysIn.of_values (Array.getElem?_eq_some_iff.1 hh).1 (h.cells (g:=g) rfl),fun e=>by cases e⟩
section
variable {ops:Array Oper} {Q:Exit→Act→World→Prop} {base:List Value} {rest:List Oper} {l:Jy} {w:World} {o:Oper}
theorem qAy (s x:Operand)(bs B:Nat)(v:Value)(n:Nat)(got:List Cy)(p:Addr)(c m:Nat)(ys:List Cy)(hbs:bs≤w.heap.size)
 (hown:w.ownsRow bs 54 4 v n (QH got))(hy:CysIn w B (some p) ys)(hm:m=ys.length)(hmax:n+m≤1000000)
 (h:∀ v' w',w'.ownsRow bs 54 4 v' (n+m) (QH (got++ys))→w.grownBy w' v.ownBlock→WO Tryz.prog ops Q base rest (Q7 o.dst v' l) w')
 (ho:o.op=.call { callee:=.builtin .append,args:=#[s,x],argTypes:=#[31,31] }:=by exact rfl)(hg:o.guard=none:=by exact rfl)(hs:evO base l s=v:=by kernel_rfl)(hx:evO base l x=.slice (some p) m c:=by kernel_rfl)(hd:Q9 o.dst base.length=true:=by kernel_rfl):WO Tryz.prog ops Q base (o :: rest) l w :=
 ⟨fun hi=>⟨by
  obtain⟨i0,hi0,hz0,hz1,hz2⟩:=info_parts QQZ
  subst hm
  refine wpList_append_own_at _ hg s x _ ho bs 54 i0 _ 4 24 Tryz.underlying31 hi0 hz0 hz1 hz2 rfl (by omega) v n (QH got) (by rw[J9 hi];exact hs) hown p ys.length c (QH ys) (by rw[J9 hi];exact hx) (jH ys) hy.values (QCx ys) (by simp only[maxLen];omega) (by omega) hbs ?_
  intro v' w' own' hgr _ _
  rw[zg] at own'
  rw[QZ]
  exact ((h v' w' own' hgr).h (ZJ hd hi)).h⟩⟩
end
theorem QAo (w:World)(l:List Cy)(t:TypeId):CysIn (w.alloc (.cells (QH l).toArray t)) (w.heap.size+1) (some ⟨w.heap.size,0,none⟩) l:=CysIn.of_values (by simp) (QA1 w (QH l) t)
theorem QBl {w:World} {b:Nat} {t:TypeId} {l:List Cy}(h:Row w b t (QH l).toArray):CysIn w w.heap.size (some ⟨b,0,none⟩) l:=CysIn.of_values h.lt fun j u hu=>by
 rw[show (⟨b,0,none⟩:Addr).add j=⟨b,j,none⟩ by simp[Addr.add];omega,h.cell j]
 simpa using hu
theorem QEd {w:World} {b:Nat} {t:TypeId} {cur:List Value} {l:List Cy}(n:Nat)(h:Row w b t cur.toArray)(e:cur.take n=QH l):CysIn w w.heap.size (some ⟨b,0,none⟩) l:=CysIn.of_values h.lt fun j u hu=>by
 rw[show (⟨b,0,none⟩:Addr).add j=⟨b,j,none⟩ by simp[Addr.add];omega,h.cell j]
 rw[←e,List.getElem?_take] at hu
 split at hu
 · simpa using hu
 · cases hu
theorem QEu {w:World} {b base:Nat} {l:List Cy}(n:Nat)(h:Row w b 54 (QH l).toArray)(hb:base≤b)(hn:n=l.length)(hm:n≤1000):w.ownsRow base 54 4 (.slice (some ⟨b,0,none⟩) n n) n (QH l) :=
 ⟨by rw[jH,hn],.inr ⟨b,n,_,rfl,hb,h,Nat.le_refl _,by simp only[maxLen];omega,by simp[jH,hn],by simp only[];exact List.take_of_length_le (by rw[jH,hn];exact Nat.le_refl _)⟩⟩
section
variable {ops:Array Oper} {Q:Exit→Act→World→Prop} {base:List Value} {l:Jy} {w w0:World} {L:List Nat} {rs:List RowK}
theorem soZ {n f i:Nat} {listed:Array Bool} {x y:Operand}(j b:Nat)(hm:Many w0 L rs w)(h:∀ w',Many w0 L rs w'→PO Tryz.prog ops Q (Many w0 L rs) n base f (listed.setIfInBounds i true) l w')
 (hj:rs[j]?=some ⟨b,54,(cyC JM).toList.map some⟩:=by kernel_rfl)(ho:(jV ops i).op=.store 54 x y:=by exact rfl)(hx:evO base l x=pT b 0:=by kernel_rfl)(hy:evO base l y=cyV JM:=by kernel_rfl)
 (hd:((jV ops i).dst.isNone,decide (i < n),QC ops base.length base l (jV ops i),(ops[i]?).isSome)=(true,true,some true,true):=by kernel_rfl):SO Tryz.prog ops Q (Many w0 L rs) n base f listed i l w:=by
 simp only[Prod.mk.injEq] at hd
 obtain⟨d1,d2,d3,d4⟩:=hd
 have ho':=QCW d4
 have hdn:(jV ops i).dst=none:=Option.isNone_iff_eq_none.1 d1
 have r:=hm.row j (cyC JM).toList hj
 have hs:=QCi (c:=JM) r
 have he:∀ l',(execOp (evO base l) (jV ops i)).run Tryz.prog w=.ok .skip l'↔l'=w.setCells b 0 (cyC JM).toList:=fun l'=>by
  rw[QPd hs ho hx hy]
  constructor
  · intro e;injection e with _ e;exact e.symm
  · rintro rfl;rfl
 have e1:=(he _).2 rfl
 have hm':Many w0 L rs (w.setCells b 0 (cyC JM).toList):=by
  have k:=hm.turn (cs:=(cyC JM).toList.map some) hj (r.setAll rfl) ⟨by simp,fun k v e=>by rw[List.getElem?_map] at e;obtain⟨u,h1,h2⟩:=Option.map_eq_some_iff.1 e;injection h2 with h2;rw[←h2,←Array.getElem?_toList];exact h1⟩ (QFX b _ 0 (Besides.refl ..))
  have:rs.set j ⟨b,54,(cyC JM).toList.map some⟩=rs:=by
   apply List.ext_getElem?
   intro q
   rw[List.getElem?_set]
   split
   · rename_i e;subst e;split
     · exact hj.symm
     · rename_i e;rw[List.getElem?_eq_none (by omega)]
   · rfl
  rwa [this] at k
 refine⟨fun hi hr inv=>⟨of_decide_eq_true d2,?_⟩⟩
 unfold wpOp
 simp only[ho',J5 d3 hi,if_true]
 refine .inl ?_
 unfold Oper.wp
 rw[J9 hi,e1,Oper.upon_skip,hdn]
 exact⟨hm',(h _ hm').h hi (inv.set hr (of_decide_eq_true d2))⟩
end
section
variable {base:List Value} {l:Jy} {w w0:World} {L:List Nat} {rs:List RowK}
theorem Many.rowK (h:Many w0 L rs w)(i:Nat)(vs:List Value){b:Nat}(e:(rs[i]?).map (fun r=>(pT r.b 0,r.cs))=some (pT b 0,vs.map some)):∃ t,Row w b t vs.toArray:=by
 cases hr:rs[i]? with
 | none=>rw[hr] at e;cases e
 | some r =>
   obtain⟨rb,rt,rc⟩:=r
   rw[hr] at e
   injection e with e;injection e with e1 e2
   injection e1 with e1;injection e1 with e1;injection e1 with e1
   dsimp only at e1 e2
   subst e1 e2
   exact⟨rt,h.row i vs hr⟩
theorem jI {fn:Func} {R:Ending→World→Prop} {s1 s2 s3:Tmp}(i j:Nat)(c:Cy)(g:Rg)(b:Bool)(b1 b2:Nat)(hm:Many w0 L rs w)(hR:R (.returned (.tuple #[cyV c,JG g,.bool b])) w)
 (hres:fn.results=#[.cell s1 54,.cell s2 24,.tmp s3]:=by exact rfl)
 (h1:(rs[i]?).map (fun r=>(pT r.b 0,r.cs))=some (pT b1 0,(cyC c).toList.map some):=by kernel_rfl)(h2:(rs[j]?).map (fun r=>(pT r.b 0,r.cs))=some (pT b2 0,(JH g).toList.map some):=by kernel_rfl)
 (k1:lkO base s1 l=pT b1 0:=by kernel_rfl)(k2:lkO base s2 l=pT b2 0:=by kernel_rfl)(k3:lkO base s3 l=.bool b:=by kernel_rfl):EO (bodyPost Tryz.prog fn R) .ret base l w:=by
 obtain⟨t1,r1⟩:=hm.rowK i _ h1
 obtain⟨t2,r2⟩:=hm.rowK j _ h2
 exact⟨fun hin=>bodyPost_ret (Qp hres ((congrFun (J9 hin) (.tmp s1)).trans k1) ((congrFun (J9 hin) (.tmp s2)).trans k2) ((congrFun (J9 hin) (.tmp s3)).trans k3) r1 r2) rfl hR⟩
theorem QKU {fn:Func} {t1 t3:Tmp} {u:TypeId}(h:fn.results=#[.cell t1 54,.tmp t3]){tmps:Array Value} {w:World} {L:Nat} {c:Cy} {b:Bool}
 (h1:tmps.getD t1 undef=pT L 0)(h3:tmps.getD t3 undef=.bool b)(hL:Row w L u (cyC c)):(results fn tmps).run Tryz.prog w=.ok (.tuple #[cyV c,.bool b]) w:=by
 have h1':tmps[t1]?.getD undef=pT L 0:=by simpa using h1
 have h3':tmps[t3]?.getD undef=.bool b:=by simpa using h3
 have e1:=ZM (P:=Tryz.prog) hL Tryz.underlying54 rfl QFv
 simp[results,h,h1',h3',asAddr,e1]
theorem QUn {fn:Func} {R:Ending→World→Prop} {s1 s3:Tmp}(i:Nat)(c:Cy)(b:Bool)(b1:Nat)(hm:Many w0 L rs w)(hR:R (.returned (.tuple #[cyV c,.bool b])) w)
 (hres:fn.results=#[.cell s1 54,.tmp s3]:=by exact rfl)
 (h1:(rs[i]?).map (fun r=>(pT r.b 0,r.cs))=some (pT b1 0,(cyC c).toList.map some):=by kernel_rfl)
 (k1:lkO base s1 l=pT b1 0:=by kernel_rfl)(k3:lkO base s3 l=.bool b:=by kernel_rfl):EO (bodyPost Tryz.prog fn R) .ret base l w:=by
 obtain⟨t1,r1⟩:=hm.rowK i _ h1
 exact⟨fun hin=>bodyPost_ret (QKU hres ((congrFun (J9 hin) (.tmp s1)).trans k1) ((congrFun (J9 hin) (.tmp s3)).trans k3) r1) rfl hR⟩
end
def Ql (l:List (Int×Int))(a:Int):Int:=l.foldl (fun b c=>if c.1=a then c.2 else b) 0
def QES (x:Int×Int):List (Int×Int)→List (Int×Int)
 | []=>[x]
 | y :: r=>if x.1 < y.1 then x :: y :: r else y :: QES x r
def QFz (a:Int)(m:List (Int×Int)):List (Int×Int):=m.filter fun p=>!decide (p.1=a)
def QJ7 (a b:Int)(m:List (Int×Int)):List (Int×Int):=QES (a,b) (QFz a m)
def jW (m:List (Int×Int))(c:Int×Int):List (Int×Int):=if c.2=0 then QFz c.1 m else QJ7 c.1 c.2 m
def mkS (l:List (Int×Int)):List (Int×Int):=l.foldl jW []
def Srt (m:List (Int×Int)):Prop:=m.Pairwise fun x y=>x.1 < y.1
def QL (l:List (Int×Int)):Prop:=∀ c∈l,0≤c.1∧c.1≤65535∧0≤c.2∧c.2≤255
def QDg (m:List (Int×Int)):Prop:=∀ c∈m,c.2≠0
theorem QEy {x p:Int×Int}:∀ {m:List (Int×Int)},p∈QES x m↔p=x∨p∈m
 | []=>by simp[QES]
 | y :: r=>by
   unfold QES
   split
   · simp
   · simp only[List.mem_cons,QEy (m:=r)]
     constructor
     · rintro (h|h|h)
       · exact .inr (.inl h)
       · exact .inl h
       · exact .inr (.inr h)
     · rintro (h|h|h)
       · exact .inr (.inl h)
       · exact .inl h
       · exact .inr (.inr h)
theorem QAH {a:Int} {m:List (Int×Int)} {p:Int×Int}:p∈QFz a m↔p∈m∧p.1≠a:=by
 unfold QFz
 rw[List.mem_filter]
 simp
theorem QCr {a b:Int} {m:List (Int×Int)} {p:Int×Int}:p∈QJ7 a b m↔p=(a,b)∨(p∈m∧p.1≠a):=by
 unfold QJ7
 rw[QEy,QAH]
theorem QJb {x:Int×Int}:∀ {m:List (Int×Int)},Srt m→(∀ p∈m,p.1≠x.1)→Srt (QES x m)
 | [],_,_=>by simp[QES,Srt]
 | y :: r,h,hn=>by
   obtain⟨h1,h2⟩:=List.pairwise_cons.1 h
   unfold QES
   split
   · rename_i hb
     refine List.pairwise_cons.2 ⟨fun q hq=>?_,h⟩
     rcases List.mem_cons.1 hq with rfl|hq
     · exact hb
     · exact Int.lt_trans hb (h1 q hq)
   · rename_i hb
     have hyx:y.1 < x.1:=by have:=hn y (by simp);omega
     refine List.pairwise_cons.2 ⟨fun q hq=>?_,QJb h2 fun p hp=>hn p (by simp[hp])⟩
     rcases QEy.1 hq with rfl|hq
     · exact hyx
     · exact h1 q hq
theorem QJm {a:Int} {m:List (Int×Int)}(h:Srt m):Srt (QFz a m):=h.filter _
theorem QPs {a b:Int} {m:List (Int×Int)}(h:Srt m):Srt (QJ7 a b m):=QJb (QJm h) fun p hp=>(QAH.1 hp).2
theorem QNI {m:List (Int×Int)}(h:Srt m)(c:Int×Int):Srt (jW m c):=by
 unfold jW
 split
 · exact QJm h
 · exact QPs h
theorem QHg:∀ (l:List (Int×Int)) {m:List (Int×Int)},Srt m→Srt (l.foldl jW m)
 | [],_,h=>h
 | c :: r,_,h=>QHg r (QNI h c)
theorem QBw (l:List (Int×Int)):Srt (mkS l):=QHg l List.Pairwise.nil
theorem QOk {m:List (Int×Int)}(h:QDg m)(c:Int×Int):QDg (jW m c):=by
 unfold jW
 split
 · exact fun p hp=>h p (QAH.1 hp).1
 · rename_i hc
   intro p hp
   rcases QCr.1 hp with rfl|hp
   · exact hc
   · exact h p hp.1
theorem QJS:∀ (l:List (Int×Int)) {m:List (Int×Int)},QDg m→QDg (l.foldl jW m)
 | [],_,h=>h
 | c :: r,_,h=>QJS r (QOk h c)
theorem QQ3 (l:List (Int×Int)):QDg (mkS l):=QJS l fun _ h=>by cases h
theorem QQU {m:List (Int×Int)}(h:QL m){c:Int×Int}(hc:0≤c.1∧c.1≤65535∧0≤c.2∧c.2≤255):QL (jW m c):=by
 unfold jW
 split
 · exact fun p hp=>h p (QAH.1 hp).1
 · intro p hp
   rcases QCr.1 hp with rfl|hp
   · exact hc
   · exact h p hp.1
theorem QHL:∀ (l:List (Int×Int)) {m:List (Int×Int)},QL l→QL m→QL (l.foldl jW m)
 | [],_,_,h=>h
 | c :: r,_,hl,h=>QHL r (fun p hp=>hl p (by simp[hp])) (QQU h (hl c (by simp)))
theorem QBt {l:List (Int×Int)}(h:QL l):QL (mkS l):=QHL l h fun _ h=>by cases h
theorem QJl (a:Int)(m:List (Int×Int)):(QFz a m).length≤m.length:=List.length_filter_le _ _
theorem QJu (x:Int×Int):∀ m:List (Int×Int),(QES x m).length=m.length+1
 | []=>rfl
 | y :: r=>by
   unfold QES
   split
   · rfl
   · simp[QJu x r]
theorem QM1 (m:List (Int×Int))(c:Int×Int):(jW m c).length≤m.length+1:=by
 unfold jW
 split
 · have:=QJl c.1 m;omega
 · unfold QJ7
   rw[QJu]
   have:=QJl c.1 m
   omega
theorem QGw:∀ (l m:List (Int×Int)),(l.foldl jW m).length≤m.length+l.length
 | [],m=>by simp
 | c :: r,m=>by
   have h1:=QGw r (jW m c)
   have h2:=QM1 m c
   simp only[List.foldl_cons,List.length_cons]
   omega
theorem QB7 (l:List (Int×Int)):(mkS l).length≤l.length:=by have:=QGw l [];unfold mkS;simpa using this
theorem QDe:∀ {l m:List (Int×Int)},Srt l→Srt m→(∀ p,p∈l↔p∈m)→l=m
 | [],[],_,_,_=>rfl
 | [],b :: s,_,_,h=>by have:=(h b).2 (by simp);simp at this
 | a :: r,[],_,_,h=>by have:=(h a).1 (by simp);simp at this
 | a :: r,b :: s,h1,h2,h=>by
   obtain⟨a1,a2⟩:=List.pairwise_cons.1 h1
   obtain⟨b1,b2⟩:=List.pairwise_cons.1 h2
   have hab:a=b:=by
    rcases List.mem_cons.1 ((h a).1 (by simp)) with e|ha
    · exact e
    · rcases List.mem_cons.1 ((h b).2 (by simp)) with e|hb
      · exact e.symm
      · have:=a1 b hb;have:=b1 a ha;omega
   subst hab
   rw[QDe a2 b2 fun p=>⟨fun hp=>by
    rcases List.mem_cons.1 ((h p).1 (by simp[hp])) with e|hp'
    · have:=a1 p hp;rw[e] at this;omega
    · exact hp',fun hp=>by
    rcases List.mem_cons.1 ((h p).2 (by simp[hp])) with e|hp'
    · have:=b1 p hp;rw[e] at this;omega
    · exact hp'⟩]
theorem QME {m:List (Int×Int)}(h:Srt m):∀ {p q:Int×Int},p∈m→q∈m→p.1=q.1→p=q:=by
 induction m with
 | nil=>intro p q hp;cases hp
 | cons a r ih =>
   obtain⟨a1,a2⟩:=List.pairwise_cons.1 h
   intro p q hp hq e
   rcases List.mem_cons.1 hp with e1|hp'<;>rcases List.mem_cons.1 hq with e2|hq'
   · rw[e1,e2]
   · have:=a1 q hq';rw[e1] at e;omega
   · have:=a1 p hp';rw[e2] at e;omega
   · exact ih a2 hp' hq' e
theorem qt (l:List (Int×Int))(c:Int×Int)(a:Int):Ql (l++[c]) a=if c.1=a then c.2 else Ql l a:=by unfold Ql;rw[List.foldl_append];rfl
theorem QIy (l:List (Int×Int))(c:Int×Int):mkS (l++[c])=jW (mkS l) c:=by unfold mkS;rw[List.foldl_append];rfl
theorem QBv (l:List (Int×Int)):∀ p:Int×Int,p∈mkS l↔Ql l p.1=p.2∧p.2≠0:=by
 have key:∀ (n:Nat) (l:List (Int×Int)),l.length=n→∀ p:Int×Int,p∈mkS l↔Ql l p.1=p.2∧p.2≠0:=by
  intro n
  induction n with
  | zero =>
    intro l hl p
    obtain rfl:=List.eq_nil_of_length_eq_zero hl
    constructor
    · intro h;cases h
    · rintro ⟨h1,h2⟩;exact absurd h1.symm h2
  | succ n ih =>
    intro l hl p
    obtain⟨l',c,rfl⟩:∃ l' c,l=l'++[c]:=⟨l.dropLast,l.getLast (by intro h;rw[h] at hl;cases hl),(List.dropLast_concat_getLast _).symm⟩
    have ih:=ih l' (by simpa using hl)
    rw[QIy,qt]
    unfold jW
    by_cases hc:c.1=p.1
    · rw[if_pos hc]
      split
      · rename_i h0
        rw[QAH]
        constructor
        · rintro ⟨-,h⟩;exact absurd hc.symm h
        · rintro ⟨h1,h2⟩;exact absurd (h1.symm.trans h0) h2
      · rename_i h0
        rw[QCr]
        constructor
        · rintro (rfl|⟨-,h⟩)
          · exact⟨rfl,h0⟩
          · exact absurd hc.symm h
        · rintro ⟨h1,h2⟩
          exact .inl (Prod.ext hc.symm h1.symm)
    · rw[if_neg hc]
      have hne:p.1≠c.1:=fun e=>hc e.symm
      split
      · rw[QAH,ih]
        exact⟨fun h=>h.1,fun h=>⟨h,hne⟩⟩
      · rw[QCr,ih]
        constructor
        · rintro (rfl|h)
          · exact absurd rfl hc
          · exact h.1
        · exact fun h=>.inr ⟨h,hne⟩
 exact key _ l rfl
theorem QC1 (l:List (Int×Int))(a:Int)(h:Ql l a≠0):∃ c∈l,c.1=a:=by
 have key:∀ (n:Nat) (l:List (Int×Int)),l.length=n→Ql l a≠0→∃ c∈l,c.1=a:=by
  intro n
  induction n with
  | zero =>
    intro l hl h
    obtain rfl:=List.eq_nil_of_length_eq_zero hl
    exact absurd rfl h
  | succ n ih =>
    intro l hl h
    obtain⟨l',c,rfl⟩:∃ l' c,l=l'++[c]:=⟨l.dropLast,l.getLast (by intro h;rw[h] at hl;cases hl),(List.dropLast_concat_getLast _).symm⟩
    rw[qt] at h
    split at h
    · rename_i e;exact⟨c,by simp,e⟩
    · obtain⟨d,hd,e⟩:=ih l' (by simpa using hl) h
      exact⟨d,by simp[hd],e⟩
 exact key _ l rfl h
theorem QFH {m:List (Int×Int)}(h:Srt m){p:Int×Int}(hp:p∈m):Ql m p.1=p.2:=by
 have key:∀ (n:Nat) (m:List (Int×Int)),m.length=n→Srt m→p∈m→Ql m p.1=p.2:=by
  intro n
  induction n with
  | zero =>
    intro m hm _ hp
    obtain rfl:=List.eq_nil_of_length_eq_zero hm
    cases hp
  | succ n ih =>
    intro m hm hs hp
    obtain⟨l',c,rfl⟩:∃ l' c,m=l'++[c]:=⟨m.dropLast,m.getLast (by intro h;rw[h] at hm;cases hm),(List.dropLast_concat_getLast _).symm⟩
    rw[qt]
    have hs':=List.pairwise_append.1 hs
    by_cases hc:c.1=p.1
    · rw[if_pos hc,QME hs (p:=c) (q:=p) (by simp) hp hc]
    · rw[if_neg hc]
      refine ih l' (by simpa using hm) hs'.1 ?_
      rcases List.mem_append.1 hp with h|h
      · exact h
      · simp at h;exact absurd (congrArg Prod.fst h).symm hc
 exact key _ m rfl h hp
theorem QS0 {l:List (Int×Int)} {m:List (Int×Int)}(h:Srt m)(hn:QDg m)(hg:∀ a,Ql m a=Ql l a):mkS l=m :=
 QDe (QBw l) h fun p=>by
  rw[QBv,←hg]
  constructor
  · rintro ⟨h1,h2⟩
    obtain⟨c,hc,e⟩:=QC1 m p.1 (by rw[h1];exact h2)
    have:=QFH h hc
    rw[e,h1] at this
    have:c=p:=Prod.ext e this.symm
    exact this▸hc
  · exact fun hp=>⟨QFH h hp,hn p hp⟩
theorem QCZ (l:List (Int×Int))(a:Int):Ql (mkS l) a=Ql l a:=by
 by_cases h:Ql l a=0
 · rw[h]
   by_cases h2:Ql (mkS l) a=0
   · exact h2
   · obtain⟨c,hc,rfl⟩:=QC1 _ _ h2
     exact absurd ((QBv l c).1 hc).1 (by rw[h];exact fun e=>(QQ3 l c hc) e.symm)
 · exact QFH (QBw l) (p:=(a,Ql l a)) ((QBv l _).2 ⟨rfl,h⟩)
theorem QNV {l l':List (Int×Int)}(h:∀ a,Ql l a=Ql l' a):mkS l=mkS l':=QS0 (QBw l') (QQ3 l') fun a=>by rw[QCZ,h]
theorem QSj {l:List (Int×Int)}(h:QL l)(a:Int):0≤Ql l a∧Ql l a≤255:=by
 have key:∀ (l:List (Int×Int)) (b:Int),QL l→0≤b∧b≤255→0≤l.foldl (fun b c=>if c.1=a then c.2 else b) b∧l.foldl (fun b c=>if c.1=a then c.2 else b) b≤255:=by
  intro l
  induction l with
  | nil=>intro b _ hb;exact hb
  | cons c r ih =>
    intro b hl hb
    refine ih _ (fun p hp=>hl p (by simp[hp])) ?_
    have:=hl c (by simp)
    show 0≤(if c.1=a then c.2 else b)∧(if c.1=a then c.2 else b)≤255
    by_cases e:c.1=a
    · rw[if_pos e];exact⟨this.2.2.1,this.2.2.2⟩
    · rw[if_neg e];exact hb
 exact key l 0 h ⟨by omega,by omega⟩
def QAT (l0:List (Int×Int))(last best:Int)(c:Int×Int):Int:=if decide (c.1 > last)&&decide (c.1 < best)&&(Ql l0 c.1 != 0) then c.1 else best
def QD9 (l0:List (Int×Int))(last:Int)(l:List (Int×Int)):Int:=l.foldl (QAT l0 last) 65536
theorem QFe (l0:List (Int×Int))(last:Int):∀ (l:List (Int×Int)) (b:Int),l.foldl (QAT l0 last) b≤b∧(l.foldl (QAT l0 last) b=b∨∃ c∈l,c.1=l.foldl (QAT l0 last) b∧c.1 > last∧Ql l0 c.1≠0)∧∀ c∈l,c.1 > last→Ql l0 c.1≠0→l.foldl (QAT l0 last) b≤c.1
 | [],b=>⟨Int.le_refl _,.inl rfl,fun _ h=>by cases h⟩
 | c :: r,b=>by
   obtain⟨h1,h2,h3⟩:=QFe l0 last r (QAT l0 last b c)
   simp only[List.foldl_cons]
   generalize hg:r.foldl (QAT l0 last) (QAT l0 last b c)=g at h1 h2 h3 ⊢
   by_cases hc:(decide (c.1 > last)&&decide (c.1 < b)&&(Ql l0 c.1 != 0))=true
   · have e:QAT l0 last b c=c.1:=if_pos hc
     simp only[Bool.and_eq_true,decide_eq_true_eq,bne_iff_ne] at hc
     rw[e] at h1 h2
     refine⟨by omega,.inr ?_,fun d hd a1 a2=>?_⟩
     · rcases h2 with h2|⟨d,hd,e1,e2⟩
       · exact⟨c,by simp,h2.symm,hc.1.1,hc.2⟩
       · exact⟨d,by simp[hd],e1,e2⟩
     · rcases List.mem_cons.1 hd with rfl|hd
       · exact h1
       · exact h3 d hd a1 a2
   · have e:QAT l0 last b c=b:=if_neg hc
     rw[e] at h1 h2
     refine⟨h1,?_,fun d hd a1 a2=>?_⟩
     · rcases h2 with h2|⟨d,hd,e1,e2⟩
       · exact .inl h2
       · exact .inr ⟨d,by simp[hd],e1,e2⟩
     · rcases List.mem_cons.1 hd with rfl|hd
       · have:¬(d.1 < b):=fun hlt=>hc (by simp[a1,a2,hlt])
         omega
       · exact h3 d hd a1 a2
theorem QKn (l0:List (Int×Int))(last:Int)(l:List (Int×Int))(k:Nat)(h:k < l.length):QD9 l0 last (l.take (k+1))=QAT l0 last (QD9 l0 last (l.take k)) l[k]:=by
 unfold QD9
 rw[←List.take_append_getElem h,List.foldl_append]
 rfl
theorem QNt {l out rest:List (Int×Int)} {last:Int}(h16:QL l)(hm:mkS l=out++rest)(ho:∀ p∈out,p.1≤last)(hr:∀ p∈rest,last < p.1) :
 QD9 l last l=(match rest with|[]=>65536|c :: _=>c.1):=by
 obtain⟨h1,h2,h3⟩:=QFe l last l 65536
 unfold QD9
 generalize l.foldl (QAT l last) 65536=b at h1 h2 h3 ⊢
 have inM:∀ a,Ql l a≠0→(a,Ql l a)∈out++rest:=fun a ha=>by rw[←hm];exact (QBv l _).2 ⟨rfl,ha⟩
 have hs:Srt (out++rest):=by rw[←hm];exact QBw l
 cases rest with
 | nil =>
   rcases h2 with h2|⟨c,hc,e1,e2,e3⟩
   · exact h2
   · have:=inM _ e3
     rw[List.append_nil] at this
     have:=ho _ this
     simp at this
     omega
 | cons d r =>
   show b=d.1
   have hd:d∈mkS l:=by rw[hm];simp
   obtain⟨g1,g2⟩:=(QBv l d).1 hd
   have hb:b≤d.1:=by
    obtain⟨c,hc,e⟩:=QC1 l d.1 (by rw[g1];exact g2)
    have:=h3 c hc (by rw[e];exact hr d (by simp)) (by rw[e,g1];exact g2)
    rw[e] at this
    exact this
   have h65:=(QBt h16 d hd).2.1
   rcases h2 with h2|⟨c,hc,e1,e2,e3⟩
   · omega
   · have hin:=inM _ e3
     rcases List.mem_append.1 hin with hin|hin
     · have:=ho _ hin
       simp at this
       omega
     · rcases List.mem_cons.1 hin with e|hin
       · rw[←e1,←e]
       · have:=(List.pairwise_cons.1 (List.pairwise_append.1 hs).2.1).1 _ hin
         simp at this
         omega
def X7 (a:Int):List Int→List (Int×Int)
 | []=>[]
 | b :: r=>(a,b) :: X7 ((a+1)%65536) r
theorem QCu:∀ (bs cs:List Int) (a:Int),0≤a∧a≤65535→X7 a (bs++cs)=X7 a bs++X7 ((a+(bs.length:Int))%65536) cs
 | [],cs,a,h=>by simp only[List.nil_append,X7,List.length_nil];congr 1;omega
 | b :: r,cs,a,h=>by
   simp only[List.cons_append,X7]
   have e:((a+1)%65536+(r.length:Int))%65536=(a+((b :: r).length:Int))%65536:=by rw[List.length_cons];omega
   rw[QCu r cs _ (by omega),e]
theorem QKo (bs:List Int)(a:Int)(h:0≤a∧a≤65535)(k:Nat)(hk:k < bs.length):X7 a (bs.take (k+1))=X7 a (bs.take k)++[((a+(k:Int))%65536,bs[k])]:=by
 rw[←List.take_append_getElem hk,QCu _ _ _ h,List.length_take,Nat.min_eq_left (by omega)]
 rfl
theorem QCX:∀ (bs:List Int) (a:Int),(X7 a bs).length=bs.length
 | [],_=>rfl
 | b :: r,a=>by simp only[X7,List.length_cons,QCX r]
theorem QHX:∀ (bs:List Int) (a:Int),(∀ b∈bs,0≤b∧b≤255)→0≤a∧a≤65535→QL (X7 a bs)
 | [],_,_,_=>fun _ h=>by cases h
 | b :: r,a,hb,ha=>by
   intro c hc
   rcases List.mem_cons.1 hc with rfl|hc
   · have:=hb b (by simp)
     exact⟨ha.1,ha.2,this.1,this.2⟩
   · exact QHX r _ (fun x hx=>hb x (by simp[hx])) (by omega) c hc
theorem QCR {l m:List (Int×Int)}(h:QL l)(k:QL m):QL (l++m):=fun c hc=>(List.mem_append.1 hc).elim (h c) (k c)
def dm (m:List (Int×Int)):DataW Unit:=.map (m.map fun c=>(Lit.int .u16 c.1,.lit (.int .u8 c.2)))
theorem QIB (a b:Int):(Lit.int .u16 a).sameKey (.int .u16 b)=decide (a=b):=by simp[Lit.sameKey]
theorem QHJ (x:Int×Int):∀ m:List (Int×Int),DataW.insert (Lit.int .u16 x.1,(DataW.lit (.int .u8 x.2):DataW Unit)) (m.map fun c=>(Lit.int .u16 c.1,.lit (.int .u8 c.2)))=(QES x m).map fun c=>(Lit.int .u16 c.1,.lit (.int .u8 c.2))
 | []=>rfl
 | y :: r=>by
   unfold QES
   rw[List.map_cons,DataW.insert]
   by_cases h:x.1 < y.1
   · rw[if_pos h]
     exact if_pos (decide_eq_true h)
   · rw[if_neg h,List.map_cons,←QHJ x r]
     exact if_neg (fun e=>h (of_decide_eq_true e))
theorem QDV (a:Int):∀ m:List (Int×Int),((m.map fun c=>(Lit.int .u16 c.1,(DataW.lit (.int .u8 c.2):DataW Unit))).filter fun p=>!p.1.sameKey (.int .u16 a))=(QFz a m).map fun c=>(Lit.int .u16 c.1,.lit (.int .u8 c.2))
 | []=>rfl
 | y :: r=>by
   have ih:=QDV a r
   unfold QFz at ih ⊢
   simp only[List.map_cons,List.filter_cons,QIB]
   split
   · rw[List.map_cons,ih]
   · exact ih
theorem QUI (m:List (Int×Int))(a b:Int):(dm m).put (.int .u16 a) (.lit (.int .u8 b))=dm (QJ7 a b m):=by
 unfold dm QJ7
 show DataW.map _=DataW.map _
 rw[QDV]
 exact congrArg DataW.map (QHJ (a,b) (QFz a m))
theorem QU1 (m:List (Int×Int))(a:Int):(dm m).del (.int .u16 a)=dm (QFz a m):=by
 unfold dm
 show DataW.map _=DataW.map _
 rw[QDV]
theorem QUO (m:List (Int×Int))(a:Int):Maps.has (dm m) (.int .u16 a)=m.any fun p=>decide (p.1=a):=by
 unfold dm
 rw[Maps.has_eq,List.any_map]
 congr 1
 funext p
 exact QIB _ _
theorem QMk (m:List (Int×Int)):Maps.size (dm m)=m.length:=by unfold dm;rw[Maps.size_eq,List.length_map]
theorem QT2 {m:List (Int×Int)} {x c:Int}(h:∀ zd,(dm m).atKey (.int .u16 x) zd=.lit (.int .u8 c)):(x,c)∈m:=by
 have h1:=h (.lit (.bool true))
 unfold dm DataW.atKey at h1
 simp only at h1
 split at h1
 · rename_i p hp
   obtain⟨d,hd,e⟩:=List.mem_map.1 (List.mem_of_find?_eq_some hp)
   subst e
   have hk:=List.find?_some hp
   simp only[QIB,decide_eq_true_eq] at hk
   simp at h1
   have:d=(x,c):=Prod.ext hk h1
   exact this▸hd
 · cases h1
structure Sx where
 got:List Int
 m:List (Int×Int)
 p:List Int
 l:List Cy
 n:Int
structure Wd where
 g:Rg
 m:List (Int×Int)
 p:List Int
def ZD (c:Cy)(v:Int)(m:List (Int×Int))(p:List Int):Int :=
 if c.kind=1∨c.kind=2 then Ql m c.addr else if c.kind=4 then p.headD 255 else if c.kind=6 then v else 0
def X3 (c:Cy)(m:List (Int×Int)):List (Int×Int):=if c.kind=3 then m++[(c.addr,c.data)] else m
def Zy (c:Cy)(p:List Int):List Int:=if c.kind=4 then p.tail else p
def Zp (c:Cy)(b:Int):Cy:=if c.kind=3∨c.kind=5 then c else { c with data:=b }
def QCA (c:Cy)(b:Int)(l:List Cy):List Cy:=if c.kind=7 then l else l++[Zp c b]
def QT (c:Cy)(v:Int)(x:Sx):Sx:=⟨x.got++[ZD c v x.m x.p],X3 c x.m,Zy c x.p,QCA c (ZD c v x.m x.p) x.l,x.n+c.t⟩
def goS (g:Rg)(which v:Int):Nat→Sx→Sx
 | 0,x=>x
 | k+1,x=>if (Jp g which x.got).b=true then x else goS g which v k (QT (Jp g which x.got).c v x)
def Qz (w:Wd):Sx:=⟨[],w.m,w.p,[],0⟩
def Jj (w:Wd)(which v:Int):Sx:=goS w.g which v 200 (Qz w)
def qn (g:Rg)(which:Int)(x:Sx):Rg:=if (Jp g which x.got).b=true then (Jp g which x.got).g else g
def QLR (g:Rg)(which:Int)(x:Sx):Rg:=if x.got.length < 200 then (Jp g which x.got).g else g
def Jk (w:Wd)(which v:Int):Wd:=⟨qn w.g which (Jj w which v),(Jj w which v).m,(Jj w which v).p⟩
def QG8 (w:Wd)(which v:Int):Wd:=⟨QLR w.g which (Jj w which v),(Jj w which v).m,(Jj w which v).p⟩
def X1:Nat→Wd→Wd×Int
 | 0,w=>(w,0)
 | k+1,w=>((X1 k (Jk w 0 0)).1,(Jj w 0 0).n+(X1 k (Jk w 0 0)).2)
def qI (pc:Int)(w:Wd):Bool:=decide (w.g.pc=pc)||w.g.halted
def Xw (pc:Int):Nat→Wd→Wd×Nat
 | 0,w=>(w,0)
 | k+1,w=>if qI pc w=true then (w,0) else ((Xw pc k (Jk w 0 0)).1,(Xw pc k (Jk w 0 0)).2+1)
def XJ (l:List Cy):List (Int×Int):=(l.filter fun c=>decide (c.kind=5)).map fun c=>(c.addr,c.data)
theorem QNP (l:List Cy)(c:Cy):XJ (l++[c])=if c.kind=5 then XJ l++[(c.addr,c.data)] else XJ l:=by
 unfold XJ
 rw[List.filter_append,List.map_append]
 by_cases h:c.kind=5<;>simp[h]
def SameM (m m':List (Int×Int)):Prop:=∀ a,Ql m a=Ql m' a
theorem SameM.refl (m:List (Int×Int)):SameM m m:=fun _=>rfl
theorem SameM.symm {m m':List (Int×Int)}(h:SameM m m'):SameM m' m:=fun a=>(h a).symm
theorem SameM.trans {a b c:List (Int×Int)}(h:SameM a b)(k:SameM b c):SameM a c:=fun x=>(h x).trans (k x)
theorem QHM (m:List (Int×Int)):SameM (mkS m) m:=fun a=>QCZ m a
theorem SameM.snoc {m m':List (Int×Int)}(h:SameM m m')(c:Int×Int):SameM (m++[c]) (m'++[c]):=fun a=>by rw[qt,qt,h a]
theorem SameM.mk {m m':List (Int×Int)}(h:SameM m m'):mkS m=mkS m':=QNV h
structure QQ4 (x y:Sx):Prop where
 got:x.got=y.got
 m:SameM x.m y.m
 p:x.p=y.p
 l:x.l=y.l
 n:x.n=y.n
theorem QQ5 {m m':List (Int×Int)}(h:SameM m m')(c:Cy)(v:Int)(p:List Int):ZD c v m p=ZD c v m' p:=by unfold ZD;rw[h]
theorem QOG {x y:Sx}(h:QQ4 x y)(c:Cy)(v:Int):QQ4 (QT c v x) (QT c v y):=by
 obtain⟨h1,h2,h3,h4,h5⟩:=h
 have e:ZD c v x.m x.p=ZD c v y.m y.p:=by rw[h3];exact QQ5 h2 c v _
 refine⟨by simp only[QT,e,h1],?_,by simp only[QT,h3],by simp only[QT,e,h4],by simp only[QT,h5]⟩
 simp only[QT,X3]
 split
 · exact h2.snoc _
 · exact h2
theorem QL2 (g:Rg)(which v:Int):∀ (k:Nat) {x y:Sx},QQ4 x y→QQ4 (goS g which v k x) (goS g which v k y)
 | 0,x,y,h=>h
 | k+1,x,y,h=>by
   unfold goS
   rw[h.got]
   split
   · exact h
   · exact QL2 g which v k (QOG h _ v)
structure SimW (w u:Wd):Prop where
 g:w.g=u.g
 m:SameM w.m u.m
 p:w.p=u.p
theorem SimW.refl (w:Wd):SimW w w:=⟨rfl,.refl _,rfl⟩
theorem QDb {w u:Wd}(h:SimW w u)(which v:Int):QQ4 (Jj w which v) (Jj u which v):=by
 unfold Jj
 rw[h.g]
 exact QL2 _ _ _ _ ⟨rfl,h.m,h.p,rfl,rfl⟩
theorem QOH {w u:Wd}(h:SimW w u)(which v:Int):SimW (Jk w which v) (Jk u which v):=by
 have k:=QDb h which v
 exact⟨by simp only[Jk,qn,h.g,k.got],k.m,k.p⟩
def itS (g:Rg)(which v:Int):Nat→Sx→Sx
 | 0,x=>x
 | j+1,x=>QT (Jp g which (itS g which v j x).got).c v (itS g which v j x)
theorem QBT (g:Rg)(which v:Int):∀ (j:Nat) (x:Sx),itS g which v (j+1) x=itS g which v j (QT (Jp g which x.got).c v x)
 | 0,x=>rfl
 | j+1,x=>by
   have ih:=QBT g which v j x
   rw[itS,ih,itS]
theorem QPF (g:Rg)(which v:Int):∀ (k:Nat) (x:Sx),∃ N,N≤k∧goS g which v k x=itS g which v N x∧(∀ j,j < N→(Jp g which (itS g which v j x).got).b=false)∧(N < k→(Jp g which (itS g which v N x).got).b=true)
 | 0,x=>⟨0,Nat.le_refl _,rfl,fun j h=>by omega,fun h=>by omega⟩
 | k+1,x=>by
   by_cases hb:(Jp g which x.got).b=true
   · exact⟨0,by omega,by rw[goS,if_pos hb];rfl,fun j h=>by omega,fun _=>hb⟩
   · obtain⟨N,h1,h2,h3,h4⟩:=QPF g which v k (QT (Jp g which x.got).c v x)
     refine⟨N+1,by omega,by rw[goS,if_neg hb,h2,QBT],fun j hj=>?_,fun h=>?_⟩
     · cases j with
       | zero=>show (Jp g which x.got).b=false;simpa using hb
       | succ j=>rw[QBT];exact h3 j (by omega)
     · rw[QBT];exact h4 (by omega)
theorem zW (g:Rg)(which v:Int)(x:Sx):∀ j,(itS g which v j x).got.length=x.got.length+j
 | 0=>rfl
 | j+1=>by
   have:=zW g which v x j
   simp only[itS,QT,List.length_append,List.length_singleton,this]
   omega
theorem QEi (g:Rg)(which v:Int)(x:Sx):∀ (k j:Nat),j≤k→∃ r,(itS g which v k x).got=(itS g which v j x).got++r
 | 0,j,h=>by obtain rfl:j=0:=by omega
             exact⟨[],(List.append_nil _).symm⟩
 | k+1,j,h=>by
   by_cases e:j=k+1
   · subst e;exact⟨[],(List.append_nil _).symm⟩
   · obtain⟨r,hr⟩:=QEi g which v x k j (by omega)
     refine⟨r++[ZD (Jp g which (itS g which v k x).got).c v (itS g which v k x).m (itS g which v k x).p],?_⟩
     rw[←List.append_assoc,←hr]
     rfl
theorem QE8 (w:Wd)(which v:Int):∃ N,N≤200∧Jj w which v=itS w.g which v N (Qz w)∧(∀ j,j < N→(Jp w.g which (itS w.g which v j (Qz w)).got).b=false)∧(N < 200→(Jp w.g which (itS w.g which v N (Qz w)).got).b=true):=QPF _ _ _ _ _
theorem QTZ (g:Rg)(which v:Int)(x:Sx):∀ (N:Nat),(∀ j,j < N→(Jp g which (itS g which v j x).got).b=false)→x.n+N≤(itS g which v N x).n∧(itS g which v N x).n≤x.n+7*N
 | 0,_=>by simp[itS]
 | N+1,h=>by
   have ih:=QTZ g which v x N fun j hj=>h j (by omega)
   have ht:=QPE g which _ (h N (by omega))
   simp only[itS,QT]
   omega
theorem QEe (w:Wd)(which v:Int):0≤(Jj w which v).n∧(Jj w which v).n≤1400:=by
 obtain⟨N,h1,h2,h3,-⟩:=QE8 w which v
 have:=QTZ w.g which v (Qz w) N h3
 rw[h2]
 have e:(Qz w).n=0:=rfl
 omega
theorem QGL (c:Cy)(m:List (Int×Int)):(X3 c m).length≤m.length+1:=by
 unfold X3
 split
 · simp
 · omega
theorem QCk (g:Rg)(which v:Int)(x:Sx)(j:Nat):∀ k,(itS g which v (j+k) x).m.length≤(itS g which v j x).m.length+k
 | 0=>Nat.le_refl _
 | k+1=>by
   have ih:=QCk g which v x j k
   have:=QGL (Jp g which (itS g which v (j+k) x).got).c (itS g which v (j+k) x).m
   show (X3 (Jp g which (itS g which v (j+k) x).got).c (itS g which v (j+k) x).m).length≤_
   omega
theorem zI (w:Wd)(which v:Int):(Jj w which v).m.length≤w.m.length+200:=by
 obtain⟨N,h1,h2,-,-⟩:=QE8 w which v
 rw[h2]
 have:=QCk w.g which v (Qz w) 0 N
 rw[Nat.zero_add] at this
 simp only[itS,Qz] at this ⊢
 omega
theorem QKF (c:Cy)(p:List Int):(Zy c p).length≤p.length:=by
 unfold Zy
 split
 · simp
 · omega
theorem QJf (g:Rg)(which v:Int):∀ (k:Nat) (x:Sx),(goS g which v k x).p.length≤x.p.length
 | 0,x=>Nat.le_refl _
 | k+1,x=>by
   unfold goS
   split
   · exact Nat.le_refl _
   · exact Nat.le_trans (QJf g which v k _) (QKF _ _)
theorem QAs (w:Wd)(which v:Int):(Jj w which v).p.length≤w.p.length:=QJf _ _ _ _ _
end Go.Proofs.YtkgaeamdhhceiaaGreatDoor
