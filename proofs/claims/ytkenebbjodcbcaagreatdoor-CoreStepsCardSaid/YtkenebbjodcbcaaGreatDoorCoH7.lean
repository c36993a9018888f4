/- Contracts and facts that the claim's proof wants (several texts in one). -/
import Derived.Deep.DeepHandedRow
import Derived.BigQuiet
import Derived.Deep.DeepCutAuto
import Derived.Deep.QuietTactic
import Derived.Test.YtkenebbjodcbcaaGreatDoorCoH4
import Derived.Test.YtkenebbjodcbcaaGreatDoorCoH6
namespace Go.Proofs.YtkenebbjodcbcaaGreatDoor
open Go.RowKit
set_option linter.unusedVariables false
set_option linter.unusedSimpArgs false
set_option maxRecDepth 20000
set_option maxHeartbeats 20000000
structure RowK where
 b:Nat
 t:TypeId
 cs:Xf
def QOu (w:World)(rs:List RowK):Prop:=∀ (i:Nat) (r:RowK),rs[i]? = some r→∃ full,Row w r.b r.t full∧Kn r.cs full
def Dis (rs:List RowK):Prop:=∀ (i j:Nat) (r q:RowK),rs[i]? = some r→rs[j]? = some q→i≠j→r.b≠q.b
structure Touch (L:List Nat)(w w':World):Prop where
 os:w'.os=w.os
 tape:w'.tape=w.tape
 output:w'.output=w.output
 size:w.heap.size≤w'.heap.size
 block:∀ b,b < w.heap.size→b ∉ L→w'.heap[b]? = w.heap[b]?
theorem Touch.refl (L:List Nat)(w:World):Touch L w w:=⟨rfl,rfl,rfl,Nat.le_refl _,fun _ _ _=>rfl⟩
theorem Touch.trans {L:List Nat} {a b c:World}(h:Touch L a b)(k:Touch L b c):Touch L a c :=
 ⟨k.os.trans h.os,k.tape.trans h.tape,k.output.trans h.output,Nat.le_trans h.size k.size,fun i hi n=>(k.block i (Nat.lt_of_lt_of_le hi h.size) n).trans (h.block i hi n)⟩
theorem Touch.below {w w':World}(h:Touch [] w w'):Below w.heap.size w w':=⟨h.os,h.tape,h.output,h.size,fun b hb=>h.block b hb (by simp)⟩
theorem Touch.of_below {L:List Nat} {w w':World}(h:Below w.heap.size w w'):Touch L w w':=⟨h.os,h.tape,h.output,h.size,fun b hb _=>h.block b hb⟩
structure Many (w0:World)(L:List Nat)(rs:List RowK)(w:World):Prop where
 rows:QOu w rs
 dis:Dis rs
 own:∀ (i:Nat) (r:RowK),rs[i]? = some r→r.b∈L∨w0.heap.size≤r.b
 touch:Touch L w0 w
theorem Many.begin (w:World):Many w [] [] w:=⟨fun i r h=>by simp at h,fun i j r q h=>by simp at h,fun i r h=>by simp at h,.refl ..⟩
theorem Many.below {w0 w w':World} {L:List Nat} {rs:List RowK}(h:Many w0 L rs w)(k:Below w.heap.size w w'):Many w0 L rs w' :=
 ⟨fun i r hr=>by obtain⟨full,h1,h2⟩:=h.rows i r hr;exact⟨full,h1.below k h1.lt,h2⟩,h.dis,h.own,h.touch.trans (.of_below k)⟩
theorem Many.alloc {w0 w:World} {L:List Nat} {rs:List RowK}(h:Many w0 L rs w)(t:TypeId)(cells:Array Value):Many w0 L (rs++[⟨w.heap.size,t,cells.toList.map some⟩]) (w.alloc (.cells cells t)):=by
 have lt:∀ (i:Nat) (r:RowK),rs[i]? = some r→r.b < w.heap.size:=fun i r hr=>by obtain⟨full,h1,_⟩:=h.rows i r hr;exact h1.lt
 have at_:∀ (i:Nat) (r:RowK),(rs++[⟨w.heap.size,t,cells.toList.map some⟩])[i]? = some r→rs[i]? = some r∨(i=rs.length∧r=⟨w.heap.size,t,cells.toList.map some⟩):=fun i r hr=>by
  by_cases hi:i < rs.length
  · rw[List.getElem?_append_left hi] at hr;exact .inl hr
  · rw[List.getElem?_append_right (by omega)] at hr
    cases hk:i-rs.length with
    | zero=>rw[hk] at hr;injection hr with hr;exact .inr ⟨by omega,hr.symm⟩
    | succ n=>rw[hk] at hr;cases hr
 refine⟨fun i r hr=>?_,fun i j r q hr hq hij=>?_,fun i r hr=>?_,h.touch.trans (.of_below (Below.alloc (Below.refl _ _) (Nat.le_refl _) _))⟩
 · rcases at_ i r hr with h1|⟨_,rfl⟩
   · obtain⟨full,h1,h2⟩:=h.rows i r h1
     exact⟨full,h1.alloc _,h2⟩
   · exact⟨cells,Row.new w t cells,by simp,fun k v hv=>by
      have:cells.toList[k]? = some v:=by
       rw[List.getElem?_map] at hv
       cases hl:cells.toList[k]? with
       | none=>rw[hl] at hv;cases hv
       | some u=>rw[hl] at hv;injection hv with hv
      simpa using this⟩
 · rcases at_ i r hr with h1|⟨e1,rfl⟩<;>rcases at_ j q hq with h2|⟨e2,rfl⟩
   · exact h.dis i j r q h1 h2 hij
   · exact Nat.ne_of_lt (lt i r h1)
   · exact (Nat.ne_of_lt (lt j q h2)).symm
   · omega
 · rcases at_ i r hr with h1|⟨_,rfl⟩
   · exact h.own i r h1
   · exact .inr h.touch.size
theorem Many.turn {w0 w w':World} {L:List Nat} {rs:List RowK} {i:Nat} {r:RowK} {cs:Xf} {full:Array Value}(h:Many w0 L rs w)(hr:rs[i]? = some r)(hrow:Row w' r.b r.t full)(hk:Kn cs full)(hb:Besides r.b r.b w w'):Many w0 L (rs.set i ⟨r.b,r.t,cs⟩) w':=by
 have hi:i < rs.length:=(List.getElem?_eq_some_iff.1 hr).1
 have at_:∀ (j:Nat) (q:RowK),(rs.set i ⟨r.b,r.t,cs⟩)[j]? = some q→(i=j∧q=⟨r.b,r.t,cs⟩)∨(i≠j∧rs[j]? = some q):=fun j q hq=>by
  by_cases e:i=j
  · subst e
    rw[List.getElem?_set_self hi] at hq
    injection hq with hq
    exact .inl ⟨rfl,hq.symm⟩
  · rw[List.getElem?_set_ne e] at hq
    exact .inr ⟨e,hq⟩
 refine⟨fun j q hq=>?_,fun j k q s hq hs hjk=>?_,fun j q hq=>?_,⟨hb.os.trans h.touch.os,hb.tape.trans h.touch.tape,hb.output.trans h.touch.output,Nat.le_trans h.touch.size hb.size,fun c hc hn=>?_⟩⟩
 · rcases at_ j q hq with ⟨e,rfl⟩|⟨e,h1⟩
   · exact⟨full,hrow,hk⟩
   · obtain⟨f2,h2,h3⟩:=h.rows j q h1
     have hne:=h.dis i j r q hr h1 e
     exact⟨f2,h2.of (hb.block q.b h2.lt (Ne.symm hne) (Ne.symm hne)),h3⟩
 · rcases at_ j q hq with ⟨e1,rfl⟩|⟨e1,h1⟩<;>rcases at_ k s hs with ⟨e2,rfl⟩|⟨e2,h2⟩
   · omega
   · exact h.dis i k r s hr h2 e2
   · exact h.dis j i q r h1 hr (Ne.symm e1)
   · exact h.dis j k q s h1 h2 hjk
 · rcases at_ j q hq with ⟨e,rfl⟩|⟨e,h1⟩
   · exact h.own i r hr
   · exact h.own j q h1
 · have hne:c≠r.b:=by
    rcases h.own i r hr with e|e
    · exact fun x=>hn (x▸e)
    · omega
   exact (hb.block c (Nat.lt_of_lt_of_le hc h.touch.size) hne hne).trans (h.touch.block c hc hn)
def QTf (P:Program)(ρ:Operand→Value):Op→Option ((Nat→Value)×TypeId×Array Value)
 | .alloc t=>match P.info? t with
   | some i=>match i.zero with|some z=>some (fun h=>.pointer (some ⟨h,0,none⟩),t,z.cells)|none=>none
   | none=>none
 | .box t x=>some (fun h=>.pointer (some ⟨h,0,none⟩),t,(ρ x).cells)
 | .buildSlice t len parts=>match P.underlying t with
   | some (.slice e)=>some (fun h=>.slice (some ⟨h,0,none⟩) len len,e,(parts.toList.map fun q=>ρ q.2).toArray)
   | _=>none
 | _=>none
def memO:Op→Bool
 | .load ..|.store ..=>true
 | _=>false
structure EvM1 where
 hs:List Nat
 l:J0
 rs:List RowK
 k:Nat
 fs:List ((World→Result Next)×(World→Result Next))
 bs:List (Nat×Nat)
def evP (P:Program)(W:World)(n:Nat)(base:List Value)(l:J0)(o:Oper):Option (J0×List ((World→Result Next)×(World→Result Next))) :=
 match o.dst,o.op with
 | some d,.move x=>bif Nat.blt d n then some ((d,evO base l x) :: l,[]) else none
 | some d,.assign x=>bif Nat.blt d n then some ((d,evO base l x) :: l,[]) else none
 | some d,op=>match (execOp (evO base l) o).run P W with
   | .ok (.value v) _=>bif Nat.blt d n then some ((d,v) :: l,[(fun w=>(execOp (evO base l) o).run P w,fun w=>.ok (.value v) w)]) else none
   | _=>none
 | _,_=>none
def em1 (P:Program)(W:World)(h0 n:Nat)(base:List Value)(l:J0)(rs:List RowK)(k:Nat)(hs:List Nat)(o:Oper):Option EvM1 :=
 match QTf P (evO base l) o.op,o.dst with
 | some (mk,t,cells),some d=>bif Nat.blt d n then some ⟨hs,(d,mk (h0+k)) :: l,rs++[⟨h0+k,t,cells.toList.map some⟩],k+1,[(fun w=>(execOp (evO base l) o).run P w,fun w=>.ok (.value (mk w.heap.size)) (w.alloc (.cells cells t)))],[]⟩ else none
 | some _,none=>none
 | none,_=>match memO o.op,hs with
   | true,i :: r=>match rs[i]? with
     | some q=>match ev1 P W q.b n base l q.cs o with
       | some e=>some ⟨r,e.l,rs.set i ⟨q.b,q.t,e.cs⟩,k,e.fs,e.bs⟩
       | none=>none
     | none=>none
   | true,[]=>none
   | false,_=>match evP P W n base l o with
     | some (l',fs)=>some ⟨hs,l',rs,k,fs,[]⟩
     | none=>none
structure EvM where
 ok:Bool
 l:J0
 rs:List RowK
 k:Nat
 fs:List ((World→Result Next)×(World→Result Next))
 bs:List (Nat×Nat)
def evm (P:Program)(ops:Array Oper)(W:World)(h0 n:Nat)(base:List Value):List Oper→List Nat→J0→List RowK→Nat→List ((World→Result Next)×(World→Result Next))→List (Nat×Nat)→EvM
 | [],_,l,rs,k,fs,bs=>⟨true,l,rs,k,fs,bs⟩
 | o :: r,hs,l,rs,k,fs,bs=>match QA ops n base l o with
   | some true=>match em1 P W h0 n base l rs k hs o with
     | some e=>evm P ops W h0 n base r e.hs e.l e.rs e.k (e.fs++fs) (e.bs++bs)
     | none=>⟨false,l,rs,k,fs,bs⟩
   | some false=>match o.dst with
     | some d=>bif Nat.blt d n then evm P ops W h0 n base r hs ((d,undef) :: l) rs k fs bs else ⟨false,l,rs,k,fs,bs⟩
     | none=>⟨false,l,rs,k,fs,bs⟩
   | none=>⟨false,l,rs,k,fs,bs⟩
section
variable {P:Program} {ops:Array Oper} {Q:Exit→Act→World→Prop} {base:List Value} {rest:List Oper} {l:J0} {w w0:World} {o:Oper} {rs:List RowK} {k h0:Nat} {hs:List Nat} {L:List Nat}
theorem QLh {W:World} {e:EvM1}(hg:QA ops base.length base l o=some true)(he:em1 P W h0 base.length base l rs k hs o=some e)(hf:∀ x∈e.fs,x.1=x.2)(hb:∀ x∈e.bs,x.1=x.2)(hm:Many w0 L rs w)(hz:w.heap.size=h0+k)
 (h:∀ w',Many w0 L e.rs w'→w'.heap.size=h0+e.k→WO P ops Q base rest e.l w'):WO P ops Q base (o :: rest) l w:=by
 unfold em1 at he
 split at he
 · rename_i mk t cells d hn hd
   cases hlt:Nat.blt d base.length<;>rw[hlt] at he
   · cases he
   · injection he with he;subst he
     have hrun:=congrFun (hf _ List.mem_cons_self) w
     have hk:=h (w.alloc (.cells cells t)) (by have:=hm.alloc t cells;rw[hz] at this;exact this) (by show _=h0+(k+1);rw[World.size_alloc,hz];omega)
     refine⟨fun hi=>Jw d (mk w.heap.size) hd (J2 hg hi) (w':=w.alloc (.cells cells t)) (by rw[QH hi];exact hrun) ?_⟩
     rw[Qa,hz]
     exact hk.h ⟨by simpa [Nat.blt_eq] using hlt,hi⟩
 · cases he
 · split at he
   · rename_i i r hmo
     split at he
     · rename_i q hq
       split at he
       · rename_i e1 he1
         injection he with he;subst he
         obtain⟨full,hr,hK⟩:=hm.rows i q hq
         exact QFz hg he1 hf hb hr hK fun w' full' _ hs' hr' hK' _ hbe=>h w' (hm.turn hq hr' hK' hbe) (hs'.trans hz)
       · cases he
     · cases he
   · cases he
   · rename_i hmo
     split at he
     · rename_i l' fs hp
       injection he with he;subst he
       have hk:=h w hm hz
       unfold evP at hp
       split at hp
       · rename_i d x hd ho
         cases hlt:Nat.blt d base.length<;>rw[hlt] at hp
         · cases hp
         · injection hp with hp;injection hp with h1 h2;subst h1
           exact step1 hd hg hlt (QCY (.inl ho) w) hk
       · rename_i d x hd ho
         cases hlt:Nat.blt d base.length<;>rw[hlt] at hp
         · cases hp
         · injection hp with hp;injection hp with h1 h2;subst h1
           exact step1 hd hg hlt (QCY (.inr ho) w) hk
       · rename_i d hd n1 n2
         split at hp
         · rename_i v w1 hv
           cases hlt:Nat.blt d base.length<;>rw[hlt] at hp
           · cases hp
           · injection hp with hp;injection hp with h1 h2;subst h1;subst h2
             exact step1 hd hg hlt (congrFun (hf _ List.mem_cons_self) w) hk
         · cases hp
       · cases hp
     · cases he
theorem QG1 {W:World}:∀ (os:List Oper) (hs:List Nat) (l:J0) (rs:List RowK) (k:Nat) (fs bs),(evm P ops W h0 base.length base os hs l rs k fs bs).ok=true →
 (∀ x∈fs,x∈(evm P ops W h0 base.length base os hs l rs k fs bs).fs)∧(∀ x∈bs,x∈(evm P ops W h0 base.length base os hs l rs k fs bs).bs)
 | [],_,_,_,_,_,_,_=>⟨fun _ h=>h,fun _ h=>h⟩
 | o :: r,hs,l,rs,k,fs,bs,hok=>by
   unfold evm at hok ⊢
   split at hok
   · split at hok
     · rename_i e he
       have ih:=QG1 r e.hs e.l e.rs e.k (e.fs++fs) (e.bs++bs) hok
       exact⟨fun x hx=>ih.1 x (List.mem_append_right _ hx),fun x hx=>ih.2 x (List.mem_append_right _ hx)⟩
     · cases hok
   · split at hok
     · rename_i d hd
       cases hn:Nat.blt d base.length<;>rw[hn] at hok
       · cases hok
       · exact QG1 r hs _ rs k fs bs hok
     · cases hok
   · cases hok
theorem QA6 {W:World}:∀ (os:List Oper) (hs:List Nat) (l:J0) (rs:List RowK) (k:Nat) (fs bs) (w:World),(evm P ops W h0 base.length base os hs l rs k fs bs).ok=true →
 (∀ x∈(evm P ops W h0 base.length base os hs l rs k fs bs).fs,x.1=x.2)→(∀ x∈(evm P ops W h0 base.length base os hs l rs k fs bs).bs,x.1=x.2)→Many w0 L rs w→w.heap.size=h0+k →
 (∀ w',Many w0 L (evm P ops W h0 base.length base os hs l rs k fs bs).rs w'→WO P ops Q base rest (evm P ops W h0 base.length base os hs l rs k fs bs).l w')→WO P ops Q base (os++rest) l w
 | [],_,_,_,_,_,_,w,_,_,_,hm,_,h=>h w hm
 | o :: r,hs,l,rs,k,fs,bs,w,hok,hf,hb,hm,hz,h=>by
   unfold evm at hok hf hb h
   split at hok
   case h_2 hw =>
    simp only[hw] at hf hb h
    split at hok
    · rename_i d hd
      simp only[hd] at hf hb h
      cases hn:Nat.blt d base.length<;>rw[hn] at hok
      · cases hok
      · simp only[hn,cond_true] at hf hb h
        have:=QA6 r hs _ rs k fs bs w hok hf hb hm hz h
        exact⟨fun hi=>QCO d hd (J2 hw hi) (by rw[Qa];exact this.h ⟨by simpa [Nat.blt_eq] using hn,hi⟩)⟩
    · cases hok
   case h_3=>cases hok
   case h_1 hw =>
   simp only[hw] at hf hb h
   split at hok
   · rename_i e he
     simp only[he] at hf hb h
     have hmm:=QG1 r e.hs e.l e.rs e.k (e.fs++fs) (e.bs++bs) hok
     exact QLh hw he (fun x hx=>hf x (hmm.1 x (List.mem_append_left _ hx))) (fun x hx=>hb x (hmm.2 x (List.mem_append_left _ hx))) hm hz fun w1 hm1 hz1=>QA6 r e.hs e.l e.rs e.k (e.fs++fs) (e.bs++bs) w1 hok hf hb hm1 hz1 h
   · cases hok
def QFh (E:EvM):Prop:=(E.ok,E.fs.map (·.1),E.bs.map (·.1))=(true,E.fs.map (·.2),E.bs.map (·.2))
abbrev eM (P:Program)(ops:Array Oper)(w:World)(base:List Value)(os:List Oper)(hs:List Nat)(l:J0)(rs:List RowK):EvM:=evm P ops w w.heap.size base.length base os hs l rs 0 [] []
theorem qR (n:Nat)(hs:List Nat)(hm:Many w0 L rs w)(h:∀ w',Many w0 L (eM P ops w base (rest.take n) hs l rs).rs w'→WO P ops Q base (rest.drop n) (eM P ops w base (rest.take n) hs l rs).l w')
 (hk:QFh (eM P ops w base (rest.take n) hs l rs):=by unfold QFh;kernel_rfl):WO P ops Q base rest l w:=by
 simp only[QFh,Prod.mk.injEq] at hk
 obtain⟨h1,h3,h4⟩:=hk
 have:=QA6 (ops:=ops) (Q:=Q) (rest:=rest.drop n) (rest.take n) hs l rs 0 [] [] w h1 (Q1 h3) (Q1 h4) hm rfl h
 rwa [List.take_append_drop] at this
theorem qF (hs:List Nat)(hm:Many w0 L rs w)(h:∀ w',Many w0 L (eM P ops w base rest hs l rs).rs w'→EO Q .normal base (eM P ops w base rest hs l rs).l w')
 (hk:QFh (eM P ops w base rest hs l rs):=by unfold QFh;kernel_rfl):WO P ops Q base rest l w:=by
 simp only[QFh,Prod.mk.injEq] at hk
 obtain⟨h1,h3,h4⟩:=hk
 have:=QA6 (ops:=ops) (Q:=Q) (rest:=[]) rest hs l rs 0 [] [] w h1 (Q1 h3) (Q1 h4) hm rfl fun w' k=>woE (h w' k)
 rwa [List.append_nil] at this
theorem qE {y:Code}(hs:List Nat)(hm:Many w0 L rs w)(h:∀ w',Many w0 L (eM P ops w base rest hs l rs).rs w'→CO P y Q base (eM P ops w base rest hs l rs).l w')
 (hk:QFh (eM P ops w base rest hs l rs):=by unfold QFh;kernel_rfl):WO P ops (Exit.then (y.wp P Q) Q) base rest l w:=qF hs hm (fun w' k=>eoT (h w' k)) hk
theorem qQ {y:Code} {id:Nat}(hs:List Nat)(hm:Many w0 L rs w)(h:∀ w',Many w0 L (eM P rest.toArray w base rest hs l rs).rs w'→CO P y Q base (eM P rest.toArray w base rest hs l rs).l w')
 (hk:QFh (eM P rest.toArray w base rest hs l rs):=by unfold QFh;kernel_rfl):CO P (.seq (.region id rest.toArray false) y) Q base l w:=coR (qE hs hm h hk)
theorem eoC {fn:Func} {R:Ending→World→Prop} {s:Tmp} {t:TypeId}(i:Nat)(vs:List Value)(hm:Many w0 L rs w)(hR:R (.returned (.agg vs.toArray)) w)(hres:fn.results=#[.cell s t]:=by exact rfl)(hrow:(P.underlying t).map (·.isRow)=some true:=by kernel_rfl)
 (hi:(P.info? t).map (·.size)=some vs.length:=by kernel_rfl)
 (hv:(rs[i]?).map (fun r=>(Value.pointer (some ⟨r.b,0,none⟩),r.cs))=some (lkO base s l,vs.map some):=by kernel_rfl):EO (bodyPost P fn R) .ret base l w:=by
 cases hr:rs[i]? with
 | none=>rw[hr] at hv;cases hv
 | some r =>
   rw[hr] at hv
   injection hv with hv;injection hv with hv hc
   obtain⟨full,h1,h2⟩:=hm.rows i r hr
   have hfull:full=vs.toArray:=by
    apply Array.ext_getElem?
    intro k
    by_cases hk:k < vs.length
    · have:r.cs[k]? = some (some vs[k]):=by rw[hc,List.getElem?_map,List.getElem?_eq_getElem hk];rfl
      rw[h2.at_ k _ this]
      simp[hk]
    · have hs:=h2.size
      rw[hc,List.length_map] at hs
      rw[Array.getElem?_eq_none (by omega)]
      simp[hk]
   subst hfull
   obtain⟨d,hu,hd⟩:∃ d,P.underlying t=some d∧d.isRow=true:=by
    cases hp:P.underlying t with
    | none=>rw[hp] at hrow;cases hrow
    | some d=>rw[hp] at hrow;injection hrow with hrow;exact⟨d,rfl,hrow⟩
   exact⟨fun hin=>bodyPost_ret (Qk hres ((congrFun (QH hin) (.tmp s)).trans hv.symm) h1 d hu hd (by rw[hi];simp)) rfl hR⟩
theorem Many.drew (h:Many w0 L rs w):Many w0 L rs w.drew:=h.below (Below.refl ..).drew
theorem qP (n:Nat){id:Nat} {y:Code}(hm:Many w0 L rs w)(h:∀ w',Many w0 L rs w'→PO P ops (Exit.then (y.wp P Q) Q) (Many w0 L rs) n base n (Array.replicate ops.size false) l w')
 (hB:Q0 ops n=true:=by kernel_rfl)(hx:P.follows .mixedOrders=true:=by kernel_rfl):CO P (.seq (.region id ops true) y) Q base l w:=coP n hm.drew (h _ hm.drew) hB hx
theorem qPz (n:Nat){id:Nat}(hm:Many w0 L rs w)(h:∀ w',Many w0 L rs w'→PO P ops Q (Many w0 L rs) n base n (Array.replicate ops.size false) l w')
 (hB:Q0 ops n=true:=by kernel_rfl)(hx:P.follows .mixedOrders=true:=by kernel_rfl):CO P (.region id ops true) Q base l w:=QRT n hm.drew (h _ hm.drew) hB hx
abbrev rowAt (rs:List RowK)(i:Nat):RowK:=(rs[i]?).getD ⟨0,0,[]⟩
theorem qD {n f:Nat} {listed:Array Bool}(i:Nat)(is:List Nat)(hm:Many w0 L rs w)(h:PO P ops Q (Many w0 L rs) n base (f-is.length) (QKm is listed) (evs P ops w (rowAt rs i).b base.length base (atO ops is) l (rowAt rs i).cs [] []).l w)
 (hq:(rs[i]?).isSome=true:=by kernel_rfl)(hk:okE (evs P ops w (rowAt rs i).b base.length base (atO ops is) l (rowAt rs i).cs [] []) (rowAt rs i).cs:=by unfold okE;kernel_rfl)(ha:((atO ops is).all zC&&(QEE ops n is listed&&(Q0 ops n&&Nat.ble is.length f)))=true:=by kernel_rfl)
 (hQ:∀ d v c a w,Q (.panic c) (a.put d v) w→Q (.panic c) a w:=by intro d _ _ _ _ h;cases d<;>exact h):PO P ops Q (Many w0 L rs) n base f listed l w:=by
 simp only[Bool.and_eq_true] at ha
 obtain⟨a1,a2,a3,a4⟩:=ha
 simp only[okE,Prod.mk.injEq] at hk
 obtain⟨h1,_,h3,h4⟩:=hk
 have hle:is.length≤f:=by simpa using a4
 obtain⟨q,hq⟩:=Option.isSome_iff_exists.1 hq
 have e:rowAt rs i=q:=by unfold rowAt;rw[hq];rfl
 have:=QAK (cs:=(rowAt rs i).cs) (ty:=q.t) (base:=base) (W:=w) a3 hQ (fun w' hs=>by rw[e];exact hs.rows i q hq) is (f-is.length) listed l [] [] w h1 (Q1 h3) (Q1 h4) a1 a2 hm h
 rwa [Nat.sub_add_cancel hle] at this
theorem qDc {n f:Nat} {listed:Array Bool} {V:Value} {g:FuncId} {args:Array Value}(i:Nat)(hc:Calls P g args w fun e w'=>e=.returned V∧Below w.heap.size w w')(hm:Many w0 L rs w)(h:∀ w',Many w0 L rs w'→PO P ops Q (Many w0 L rs) n base (f-1) (listed.setIfInBounds i true) (XL o.dst V l) w')
 (ho:ops[i]? = some o:=by exact rfl)(hr:(Region.ready .any ops listed,decide (i < n),Nat.blt 0 f,QA ops base.length base l o,XH o.dst base.length)=([i],true,true,some true,true):=by kernel_rfl)
 (he:(execOp (evO base l) o).run P w=.ok (.enter g args) w:=by kernel_rfl):PO P ops Q (Many w0 L rs) n base f listed l w:=by
 simp only[Prod.mk.injEq] at hr
 obtain⟨h1,h2,h3,h4,h5⟩:=hr
 have hf:f=(f-1)+1:=by have:0 < f:=by simpa [Nat.blt_eq] using h3
                       omega
 rw[hf]
 exact QHP ho h1 h2 h4 he h5 hc fun e w' ⟨e1,e2⟩=>by subst e1;exact⟨hm.below e2,h w' (hm.below e2)⟩
theorem qDe {n f:Nat} {listed:Array Bool} {V:Value} {g:FuncId} {args:Array Value}(i:Nat)(hc:Calls P g args w fun e w'=>e=.returned V∧w=w')(hm:Many w0 L rs w)(h:∀ w',Many w0 L rs w'→PO P ops Q (Many w0 L rs) n base (f-1) (listed.setIfInBounds i true) (XL o.dst V l) w')
 (ho:ops[i]? = some o:=by exact rfl)(hr:(Region.ready .any ops listed,decide (i < n),Nat.blt 0 f,QA ops base.length base l o,XH o.dst base.length)=([i],true,true,some true,true):=by kernel_rfl)
 (he:(execOp (evO base l) o).run P w=.ok (.enter g args) w:=by kernel_rfl):PO P ops Q (Many w0 L rs) n base f listed l w :=
 qDc i (hc.mono fun e w' k=>⟨k.1,k.2▸Below.refl ..⟩) hm h ho hr he
theorem qC {V:Value} {g:FuncId} {args:Array Value}(hc:Calls P g args w fun e w'=>e=.returned V∧Below w.heap.size w w')(hm:Many w0 L rs w)(h:∀ w',Many w0 L rs w'→WO P ops Q base rest (XL o.dst V l) w')
 (hg:QA ops base.length base l o=some true:=by kernel_rfl)(he:(execOp (evO base l) o).run P w=.ok (.enter g args) w:=by kernel_rfl)(hd:XH o.dst base.length=true:=by kernel_rfl):WO P ops Q base (o :: rest) l w :=
 kO hc (fun w' e=>h w' (hm.below e)) hg he hd
theorem qCe {V:Value} {g:FuncId} {args:Array Value}(hc:Calls P g args w fun e w'=>e=.returned V∧w=w')(h:WO P ops Q base rest (XL o.dst V l) w)
 (hg:QA ops base.length base l o=some true:=by kernel_rfl)(he:(execOp (evO base l) o).run P w=.ok (.enter g args) w:=by kernel_rfl)(hd:XH o.dst base.length=true:=by kernel_rfl):WO P ops Q base (o :: rest) l w:=kE hc h hg he hd
end
section
theorem QAd (b:Nat)(w:World):Calls Tryz.prog 339 #[.pointer (some ⟨b,0,none⟩)] w fun e w'=>e=.returned (.pointer (some ⟨b,1,none⟩))∧w=w':=by
 go_enter Tryz.func339,Tryz.ntmps339
 go_wp2
 go_ret
 exact⟨rfl,rfl⟩
theorem QAy (b:Nat)(w:World):Calls Tryz.prog 340 #[.pointer (some ⟨b,0,none⟩)] w fun e w'=>e=.returned (.pointer (some ⟨b,2,none⟩))∧w=w':=by
 go_enter Tryz.func340,Tryz.ntmps340
 go_wp2
 go_ret
 exact⟨rfl,rfl⟩
theorem QA7 (b:Nat)(w:World):Calls Tryz.prog 350 #[.pointer (some ⟨b,0,none⟩)] w fun e w'=>e=.returned (.pointer (some ⟨b,3,none⟩))∧w=w':=by
 go_enter Tryz.func350,Tryz.ntmps350
 go_wp2
 go_ret
 exact⟨rfl,rfl⟩
theorem QA8 (b:Nat)(w:World):Calls Tryz.prog 348 #[.pointer (some ⟨b,0,none⟩)] w fun e w'=>e=.returned (.pointer (some ⟨b,8,none⟩))∧w=w':=by
 go_enter Tryz.func348,Tryz.ntmps348
 go_wp2
 go_ret
 exact⟨rfl,rfl⟩
theorem QAp (b:Nat)(w:World):Calls Tryz.prog 349 #[.pointer (some ⟨b,0,none⟩)] w fun e w'=>e=.returned (.pointer (some ⟨b,9,none⟩))∧w=w':=by
 go_enter Tryz.func349,Tryz.ntmps349
 go_wp2
 go_ret
 exact⟨rfl,rfl⟩
theorem QLC (b:Nat)(w:World):Calls Tryz.prog 342 #[.pointer (some ⟨b,0,none⟩)] w fun e w'=>e=.returned (.pointer (some ⟨b,10,none⟩))∧w=w':=by
 go_enter Tryz.func342,Tryz.ntmps342
 go_wp2
 go_ret
 exact⟨rfl,rfl⟩
theorem QKs (b:Nat)(w:World):Calls Tryz.prog 343 #[.pointer (some ⟨b,0,none⟩)] w fun e w'=>e=.returned (.pointer (some ⟨b,0,none⟩))∧w=w':=by
 go_enter Tryz.func343,Tryz.ntmps343
 go_wp2
 go_ret
 exact⟨rfl,rfl⟩
abbrev vBC:Value:=.func (.func 339) #[] #[]
abbrev vDE:Value:=.func (.func 340) #[] #[]
abbrev vSP:Value:=.func (.func 342) #[] #[]
abbrev vAF:Value:=.func (.func 343) #[] #[]
def Qh (plane:Int):FuncId:=if plane=3 then 348 else if plane=4 then 349 else 350
abbrev QEM (plane:Int):Value:=.func (.func (Qh plane)) #[] #[]
theorem QGX (p:Int)(w:World):Calls Tryz.prog 341 #[.int .i64 p] w fun e w'=>e=.returned (QEM p)∧w=w':=by
 unfold QEM Qh
 by_cases h3:p=3
 · subst h3
   go_enter Tryz.func341,Tryz.ntmps341
   go_wp2
   go_ret
   exact⟨rfl,rfl⟩
 by_cases h4:p=4
 · subst h4
   go_enter Tryz.func341,Tryz.ntmps341
   go_wp2
   go_ret
   exact⟨rfl,rfl⟩
 rw[if_neg h3,if_neg h4]
 have e3:(p==3)=false:=by simpa using h3
 have e4:(p==4)=false:=by simpa using h4
 go_enter Tryz.func341,Tryz.ntmps341
 go_wp2
 go_ret
 exact⟨rfl,rfl⟩
theorem QTi (v0:Value)(W:World)(b:Nat)(hb:b=W.heap.size) :
 (Instr.mapUpdate 210 (.map (some b)) (.int .i64 0) v0).run Tryz.prog (W.alloc (.map #[] 0))=.ok () (W.alloc (.map #[⟨.int .i64 0,v0,0⟩] 1)) :=
 Jl W _ _ _ Tryz.underlying210 Tryz.underlying3 _ _ _ _ b hb rfl
theorem QT2 (v0 v1:Value)(W:World)(b:Nat)(hb:b=W.heap.size) :
 (Instr.mapUpdate 210 (.map (some b)) (.int .i64 1) v1).run Tryz.prog (W.alloc (.map #[⟨.int .i64 0,v0,0⟩] 1))=.ok () (W.alloc (.map #[⟨.int .i64 0,v0,0⟩,⟨.int .i64 1,v1,1⟩] 2)) :=
 Jl W _ _ _ Tryz.underlying210 Tryz.underlying3 _ _ _ _ b hb rfl
theorem QTV (v0 v1 v2:Value)(W:World)(b:Nat)(hb:b=W.heap.size) :
 (Instr.mapUpdate 210 (.map (some b)) (.int .i64 2) v2).run Tryz.prog (W.alloc (.map #[⟨.int .i64 0,v0,0⟩,⟨.int .i64 1,v1,1⟩] 2))=.ok () (W.alloc (.map #[⟨.int .i64 0,v0,0⟩,⟨.int .i64 1,v1,1⟩,⟨.int .i64 2,v2,2⟩] 3)) :=
 Jl W _ _ _ Tryz.underlying210 Tryz.underlying3 _ _ _ _ b hb rfl
theorem QUB (v0 v1 v2 v3:Value)(W:World)(b:Nat)(hb:b=W.heap.size) :
 (Instr.mapUpdate 210 (.map (some b)) (.int .i64 3) v3).run Tryz.prog (W.alloc (.map #[⟨.int .i64 0,v0,0⟩,⟨.int .i64 1,v1,1⟩,⟨.int .i64 2,v2,2⟩] 3))=.ok () (W.alloc (.map #[⟨.int .i64 0,v0,0⟩,⟨.int .i64 1,v1,1⟩,⟨.int .i64 2,v2,2⟩,⟨.int .i64 3,v3,3⟩] 4)) :=
 Jl W _ _ _ Tryz.underlying210 Tryz.underlying3 _ _ _ _ b hb rfl
attribute [local go_sem] QTi QT2 QTV QUB
def J6 (p:Int):Array MapEntry:=#[⟨.int .i64 0,vBC,0⟩,⟨.int .i64 1,vDE,1⟩,⟨.int .i64 2,QEM p,2⟩,⟨.int .i64 3,vSP,3⟩]
theorem QAv (p:Int)(w:World):Calls Tryz.prog 320 #[.int .i64 p] w fun e w'=>e=.returned (.map (some w.heap.size))∧w'=w.alloc (.map (J6 p) 4):=by
 have hmm:=@run_makeMap Tryz.prog
 have ht:=Lib.hid (fun w=>QGX p w)
 go_enter Tryz.func320,Tryz.ntmps320
 go_wp2_with (first
  | (go_at_call 341;refine (ht.out _).mono ?_;rintro e w' ⟨rfl,rfl⟩))
 go_ret
 exact⟨rfl,rfl⟩
theorem QTu (v0:Value)(W:World)(b:Nat)(hb:b=W.heap.size) :
 (Instr.mapUpdate 220 (.map (some b)) (.int .i64 0) v0).run Tryz.prog (W.alloc (.map #[] 0))=.ok () (W.alloc (.map #[⟨.int .i64 0,v0,0⟩] 1)) :=
 Jl W _ _ _ Tryz.underlying220 Tryz.underlying3 _ _ _ _ b hb rfl
theorem QUD (v0 v1:Value)(W:World)(b:Nat)(hb:b=W.heap.size) :
 (Instr.mapUpdate 220 (.map (some b)) (.int .i64 1) v1).run Tryz.prog (W.alloc (.map #[⟨.int .i64 0,v0,0⟩] 1))=.ok () (W.alloc (.map #[⟨.int .i64 0,v0,0⟩,⟨.int .i64 1,v1,1⟩] 2)) :=
 Jl W _ _ _ Tryz.underlying220 Tryz.underlying3 _ _ _ _ b hb rfl
theorem QTd (v0 v1 v2:Value)(W:World)(b:Nat)(hb:b=W.heap.size) :
 (Instr.mapUpdate 220 (.map (some b)) (.int .i64 2) v2).run Tryz.prog (W.alloc (.map #[⟨.int .i64 0,v0,0⟩,⟨.int .i64 1,v1,1⟩] 2))=.ok () (W.alloc (.map #[⟨.int .i64 0,v0,0⟩,⟨.int .i64 1,v1,1⟩,⟨.int .i64 2,v2,2⟩] 3)) :=
 Jl W _ _ _ Tryz.underlying220 Tryz.underlying3 _ _ _ _ b hb rfl
theorem QTt (v0 v1 v2 v3:Value)(W:World)(b:Nat)(hb:b=W.heap.size) :
 (Instr.mapUpdate 220 (.map (some b)) (.int .i64 3) v3).run Tryz.prog (W.alloc (.map #[⟨.int .i64 0,v0,0⟩,⟨.int .i64 1,v1,1⟩,⟨.int .i64 2,v2,2⟩] 3))=.ok () (W.alloc (.map #[⟨.int .i64 0,v0,0⟩,⟨.int .i64 1,v1,1⟩,⟨.int .i64 2,v2,2⟩,⟨.int .i64 3,v3,3⟩] 4)) :=
 Jl W _ _ _ Tryz.underlying220 Tryz.underlying3 _ _ _ _ b hb rfl
theorem QTs (v0 v1 v2 v3 v4:Value)(W:World)(b:Nat)(hb:b=W.heap.size) :
 (Instr.mapUpdate 220 (.map (some b)) (.int .i64 4) v4).run Tryz.prog (W.alloc (.map #[⟨.int .i64 0,v0,0⟩,⟨.int .i64 1,v1,1⟩,⟨.int .i64 2,v2,2⟩,⟨.int .i64 3,v3,3⟩] 4))=.ok () (W.alloc (.map #[⟨.int .i64 0,v0,0⟩,⟨.int .i64 1,v1,1⟩,⟨.int .i64 2,v2,2⟩,⟨.int .i64 3,v3,3⟩,⟨.int .i64 4,v4,4⟩] 5)) :=
 Jl W _ _ _ Tryz.underlying220 Tryz.underlying3 _ _ _ _ b hb rfl
theorem QTa (v0 v1 v2 v3 v4 v5:Value)(W:World)(b:Nat)(hb:b=W.heap.size) :
 (Instr.mapUpdate 220 (.map (some b)) (.int .i64 5) v5).run Tryz.prog (W.alloc (.map #[⟨.int .i64 0,v0,0⟩,⟨.int .i64 1,v1,1⟩,⟨.int .i64 2,v2,2⟩,⟨.int .i64 3,v3,3⟩,⟨.int .i64 4,v4,4⟩] 5))=.ok () (W.alloc (.map #[⟨.int .i64 0,v0,0⟩,⟨.int .i64 1,v1,1⟩,⟨.int .i64 2,v2,2⟩,⟨.int .i64 3,v3,3⟩,⟨.int .i64 4,v4,4⟩,⟨.int .i64 5,v5,5⟩] 6)) :=
 Jl W _ _ _ Tryz.underlying220 Tryz.underlying3 _ _ _ _ b hb rfl
theorem QTn (v0 v1 v2 v3 v4 v5 v6:Value)(W:World)(b:Nat)(hb:b=W.heap.size) :
 (Instr.mapUpdate 220 (.map (some b)) (.int .i64 7) v6).run Tryz.prog (W.alloc (.map #[⟨.int .i64 0,v0,0⟩,⟨.int .i64 1,v1,1⟩,⟨.int .i64 2,v2,2⟩,⟨.int .i64 3,v3,3⟩,⟨.int .i64 4,v4,4⟩,⟨.int .i64 5,v5,5⟩] 6))=.ok () (W.alloc (.map #[⟨.int .i64 0,v0,0⟩,⟨.int .i64 1,v1,1⟩,⟨.int .i64 2,v2,2⟩,⟨.int .i64 3,v3,3⟩,⟨.int .i64 4,v4,4⟩,⟨.int .i64 5,v5,5⟩,⟨.int .i64 7,v6,6⟩] 7)) :=
 Jl W _ _ _ Tryz.underlying220 Tryz.underlying3 _ _ _ _ b hb rfl
attribute [local go_sem] QTu QUD QTd QTt QTs QTa QTn
abbrev Z9 (v:Value)(high:Bool):Value:=.agg #[v,.bool high]
def Jg (p:Int):Array MapEntry:=#[⟨.int .i64 0,Z9 vBC true,0⟩,⟨.int .i64 1,Z9 vBC false,1⟩,⟨.int .i64 2,Z9 vDE true,2⟩,⟨.int .i64 3,Z9 vDE false,3⟩,⟨.int .i64 4,Z9 (QEM p) true,4⟩,⟨.int .i64 5,Z9 (QEM p) false,5⟩,⟨.int .i64 7,Z9 vAF true,6⟩]
theorem jN (p:Int)(w:World):Calls Tryz.prog 325 #[.int .i64 p] w fun e w'=>e=.returned (.map (some w.heap.size))∧w'=w.alloc (.map (Jg p) 7):=by
 have hmm:=@run_makeMap Tryz.prog
 have ht:=Lib.hid (fun w=>QGX p w)
 go_enter Tryz.func325,Tryz.ntmps325
 go_wp2_with (first
  | (go_at_call 341;refine (ht.out _).mono ?_;rintro e w' ⟨rfl,rfl⟩))
 go_ret
 exact⟨rfl,rfl⟩
theorem QRg {w:World} {M:Nat} {p:Int}(h:w.heap[M]? = some (.map (J6 p) 4)):(Instr.lookup 210 (.map (some M)) (.int .i64 0) true).run Tryz.prog w=.ok (.tuple #[vBC,.bool true]) w :=
 QR Tryz.underlying210 Tryz.underlying3 h rfl
theorem QRm {w:World} {M:Nat} {p:Int}(h:w.heap[M]? = some (.map (J6 p) 4)):(Instr.lookup 210 (.map (some M)) (.int .i64 1) true).run Tryz.prog w=.ok (.tuple #[vDE,.bool true]) w :=
 QR Tryz.underlying210 Tryz.underlying3 h rfl
theorem QGU {w:World} {M:Nat} {p:Int} {F:FuncId}(hF:Qh p=F)(h:w.heap[M]? = some (.map (J6 p) 4)):(Instr.lookup 210 (.map (some M)) (.int .i64 2) true).run Tryz.prog w=.ok (.tuple #[.func (.func F) #[] #[],.bool true]) w :=
 hF▸QR Tryz.underlying210 Tryz.underlying3 h rfl
theorem QRl {w:World} {M:Nat} {p:Int}(h:w.heap[M]? = some (.map (J6 p) 4)):(Instr.lookup 210 (.map (some M)) (.int .i64 3) true).run Tryz.prog w=.ok (.tuple #[vSP,.bool true]) w :=
 QR Tryz.underlying210 Tryz.underlying3 h rfl
theorem QOo {w:World} {M:Nat} {p k:Int}(hk:k < 0∨3 < k)(h:w.heap[M]? = some (.map (J6 p) 4)):(Instr.lookup 210 (.map (some M)) (.int .i64 k) true).run Tryz.prog w=.ok (.tuple #[.nilFunc,.bool false]) w :=
 qr Tryz.underlying210 Tryz.underlying3 h (by
  have n0:(k==0)=false:=by simp;omega
  have n1:(k==1)=false:=by simp;omega
  have n2:(k==2)=false:=by simp;omega
  have n3:(k==3)=false:=by simp;omega
  simp only[J6,Instr.findNow,Instr.sameNow,if_true,n0,n1,n2,n3]) (by kernel_rfl)
theorem QRk {w:World} {M:Nat} {p:Int}(h:w.heap[M]? = some (.map (Jg p) 7)):(Instr.lookup 220 (.map (some M)) (.int .i64 0) true).run Tryz.prog w=.ok (.tuple #[Z9 vBC true,.bool true]) w :=
 QR Tryz.underlying220 Tryz.underlying3 h rfl
theorem QRv {w:World} {M:Nat} {p:Int}(h:w.heap[M]? = some (.map (Jg p) 7)):(Instr.lookup 220 (.map (some M)) (.int .i64 1) true).run Tryz.prog w=.ok (.tuple #[Z9 vBC false,.bool true]) w :=
 QR Tryz.underlying220 Tryz.underlying3 h rfl
theorem QRy {w:World} {M:Nat} {p:Int}(h:w.heap[M]? = some (.map (Jg p) 7)):(Instr.lookup 220 (.map (some M)) (.int .i64 2) true).run Tryz.prog w=.ok (.tuple #[Z9 vDE true,.bool true]) w :=
 QR Tryz.underlying220 Tryz.underlying3 h rfl
theorem QRx {w:World} {M:Nat} {p:Int}(h:w.heap[M]? = some (.map (Jg p) 7)):(Instr.lookup 220 (.map (some M)) (.int .i64 3) true).run Tryz.prog w=.ok (.tuple #[Z9 vDE false,.bool true]) w :=
 QR Tryz.underlying220 Tryz.underlying3 h rfl
theorem QGQ {w:World} {M:Nat} {p:Int} {F:FuncId}(hF:Qh p=F)(h:w.heap[M]? = some (.map (Jg p) 7)):(Instr.lookup 220 (.map (some M)) (.int .i64 4) true).run Tryz.prog w=.ok (.tuple #[Z9 (.func (.func F) #[] #[]) true,.bool true]) w :=
 hF▸QR Tryz.underlying220 Tryz.underlying3 h rfl
theorem QF5 {w:World} {M:Nat} {p:Int} {F:FuncId}(hF:Qh p=F)(h:w.heap[M]? = some (.map (Jg p) 7)):(Instr.lookup 220 (.map (some M)) (.int .i64 5) true).run Tryz.prog w=.ok (.tuple #[Z9 (.func (.func F) #[] #[]) false,.bool true]) w :=
 hF▸QR Tryz.underlying220 Tryz.underlying3 h rfl
theorem QRt {w:World} {M:Nat} {p:Int}(h:w.heap[M]? = some (.map (Jg p) 7)):(Instr.lookup 220 (.map (some M)) (.int .i64 7) true).run Tryz.prog w=.ok (.tuple #[Z9 vAF true,.bool true]) w :=
 QR Tryz.underlying220 Tryz.underlying3 h rfl
theorem QNW {w:World} {M:Nat} {p k:Int}(hk:k < 0∨k=6∨7 < k)(h:w.heap[M]? = some (.map (Jg p) 7)):(Instr.lookup 220 (.map (some M)) (.int .i64 k) true).run Tryz.prog w=.ok (.tuple #[Z9 .nilFunc false,.bool false]) w :=
 qr Tryz.underlying220 Tryz.underlying3 h (by
  have n0:(k==0)=false:=by simp;omega
  have n1:(k==1)=false:=by simp;omega
  have n2:(k==2)=false:=by simp;omega
  have n3:(k==3)=false:=by simp;omega
  have n4:(k==4)=false:=by simp;omega
  have n5:(k==5)=false:=by simp;omega
  have n7:(k==7)=false:=by simp;omega
  simp only[Jg,Instr.findNow,Instr.sameNow,if_true,n0,n1,n2,n3,n4,n5,n7]) (by kernel_rfl)
end
theorem ZF:(Tryz.prog.info? 24).map (·.size)=some 20:=by kernel_rfl
theorem zl:(Tryz.prog.info? 212).map (·.size)=some 20:=by kernel_rfl
theorem QCX (p:Int)(k:Int)(F o:Nat)(hlk:∀ {w:World} {M:Nat},w.heap[M]? = some (.map (Jg p) 7)→(Instr.lookup 220 (.map (some M)) (.int .i64 k) true).run Tryz.prog w=.ok (.tuple #[Z9 (.func (.func F) #[] #[]) true,.bool true]) w)(hF:∀ (b:Nat) (w:World),Calls Tryz.prog F #[.pointer (some ⟨b,0,none⟩)] w fun e w'=>e=.returned (.pointer (some ⟨b,o,none⟩))∧w=w')(hcall:∀ (args:Array Value) (w:World),(callFunc F args).run Tryz.prog w=.ok (.enter F args) w)(cs:Array Value)(hs:cs.size=20)(ho:cs.toList.all (·.oneCell')=true)(x:Int)(hx:Wd16 x)(hc:cs[o]? = some (.int .u16 x))(w:World) :
 Calls Tryz.prog 294 #[.agg cs,.int .i64 p,.int .i64 k] w fun e w'=>e=.returned (.int .u8 (x / 256))∧Below w.heap.size w w':=by
 have kh:=Lib.hid (fun w=>jN p w)
 have kb:=Lib.hid (qy x hx.1 hx.2)
 have hl:=hlk (World.alloc_heap_new (w.alloc (.cells cs 24)) (.map (Jg p) 7))
 have r0:=(Row.new w 24 cs).alloc (.map (Jg p) 7)
 have HB0:Below w.heap.size w ((w.alloc (.cells cs 24)).alloc (.map (Jg p) 7)):=(by repeat (first|exact Below.refl _ _|assumption|refine JZ ?_ (by assumption)|refine Below.drew ?_|refine Below.alloc ?_ (by first|(simp;done)|(simp;omega)|omega) _|refine Below.setCell ?_ (by first|(simp;done)|(simp;omega)|omega) _))
 have i24:Hid ((Tryz.prog.info? 24).map (·.size)=some cs.size):=Lib.hid (by rw[hs];exact ZF)
 have i42:Hid ((Tryz.prog.info? 212).map (·.size)=some cs.size):=Lib.hid (by rw[hs];exact zl)
 have ho':=Lib.hid ho
 have hs':=Lib.hid hs
 clear hs ho hx
 go_enter Tryz.func294,Tryz.ntmps294
 go_wp2_with fail
 refine (kh.out _).mono ?_
 rintro e w2 ⟨rfl,rfl⟩
 generalize (w.alloc (.cells cs 24)).alloc (.map (Jg p) 7)=W at *
 generalize (w.alloc (.cells cs 24)).heap.size=M at *
 have HB:=Lib.hid HB0
 have hg:=HB0.size
 clear HB0
 have hW:w.heap.size < W.heap.size:=r0.lt
 go_upto_region 5 with (first
  | (refine wpList_load_row rfl 24 _ rfl _ _ _ rfl (r0.alloc _) _ Tryz.underlying24 rfl i24.out ?_)
  | (refine XC rfl 212 _ _ rfl _ _ _ _ cs rfl rfl (by simp) (by rw[hs'.out];exact Eq.refl 20) i42.out ho'.out ?_))
 have r1:=(Row.new W 218 #[.func (.func F) #[] #[],.bool true]).alloc (.cells cs 212)
 have r2:=Row.new (W.alloc (.cells #[.func (.func F) #[] #[],.bool true] 218)) 212 cs
 have HB2:=Lib.hid ((HB.out.alloc HB.out.size (.cells #[.func (.func F) #[] #[],.bool true] 218)).alloc (by simp;omega) (.cells cs 212))
 rw[show (W.alloc (.cells #[.func (.func F) #[] #[],.bool true] 218)).heap.size=W.heap.size+1 by simp] at r2
 have l0:=r1.cell 0
 have l1:=r1.cell 1
 have c1:=(r2.cell o).trans hc
 clear r1 r2 hl r0 hc
 generalize (W.alloc (.cells #[.func (.func F) #[] #[],.bool true] 218)).alloc (.cells cs 212)=W2 at *
 go_wp2_with (first
  | (go_at_call 141;refine (kb.out _).mono ?_;rintro e w' ⟨rfl,rfl⟩)
  | (refine (hF _ _).mono ?_;rintro e w' ⟨rfl,rfl⟩))
 go_ret
 exact⟨rfl,HB2.out⟩
theorem QRG (p:Int)(cs:Array Value)(hs:cs.size=20)(ho:cs.toList.all (·.oneCell')=true)(x:Int)(hx:Wd16 x)(hc:cs[1]? = some (.int .u16 x))(w:World) :
 Calls Tryz.prog 294 #[.agg cs,.int .i64 p,.int .i64 0] w fun e w'=>e=.returned (.int .u8 (x / 256))∧Below w.heap.size w w' :=
 QCX p 0 _ 1 QRk (fun b w=>QAd b w) (fun _ _=>by kernel_rfl) cs hs ho x hx hc w
theorem QEO (p:Int)(k:Int)(F o:Nat)(hlk:∀ {w:World} {M:Nat},w.heap[M]? = some (.map (Jg p) 7)→(Instr.lookup 220 (.map (some M)) (.int .i64 k) true).run Tryz.prog w=.ok (.tuple #[Z9 (.func (.func F) #[] #[]) false,.bool true]) w)(hF:∀ (b:Nat) (w:World),Calls Tryz.prog F #[.pointer (some ⟨b,0,none⟩)] w fun e w'=>e=.returned (.pointer (some ⟨b,o,none⟩))∧w=w')(hcall:∀ (args:Array Value) (w:World),(callFunc F args).run Tryz.prog w=.ok (.enter F args) w)(cs:Array Value)(hs:cs.size=20)(ho:cs.toList.all (·.oneCell')=true)(x:Int)(hx:Wd16 x)(hc:cs[o]? = some (.int .u16 x))(w:World) :
 Calls Tryz.prog 294 #[.agg cs,.int .i64 p,.int .i64 k] w fun e w'=>e=.returned (.int .u8 (x%256))∧Below w.heap.size w w':=by
 have kh:=Lib.hid (fun w=>jN p w)
 have kb:=Lib.hid (qK x hx.1 hx.2)
 have hl:=hlk (World.alloc_heap_new (w.alloc (.cells cs 24)) (.map (Jg p) 7))
 have r0:=(Row.new w 24 cs).alloc (.map (Jg p) 7)
 have HB0:Below w.heap.size w ((w.alloc (.cells cs 24)).alloc (.map (Jg p) 7)):=(by repeat (first|exact Below.refl _ _|assumption|refine JZ ?_ (by assumption)|refine Below.drew ?_|refine Below.alloc ?_ (by first|(simp;done)|(simp;omega)|omega) _|refine Below.setCell ?_ (by first|(simp;done)|(simp;omega)|omega) _))
 have i24:Hid ((Tryz.prog.info? 24).map (·.size)=some cs.size):=Lib.hid (by rw[hs];exact ZF)
 have i42:Hid ((Tryz.prog.info? 212).map (·.size)=some cs.size):=Lib.hid (by rw[hs];exact zl)
 have ho':=Lib.hid ho
 have hs':=Lib.hid hs
 clear hs ho hx
 go_enter Tryz.func294,Tryz.ntmps294
 go_wp2_with fail
 refine (kh.out _).mono ?_
 rintro e w2 ⟨rfl,rfl⟩
 generalize (w.alloc (.cells cs 24)).alloc (.map (Jg p) 7)=W at *
 generalize (w.alloc (.cells cs 24)).heap.size=M at *
 have HB:=Lib.hid HB0
 have hg:=HB0.size
 clear HB0
 have hW:w.heap.size < W.heap.size:=r0.lt
 go_upto_region 5 with (first
  | (refine wpList_load_row rfl 24 _ rfl _ _ _ rfl (r0.alloc _) _ Tryz.underlying24 rfl i24.out ?_)
  | (refine XC rfl 212 _ _ rfl _ _ _ _ cs rfl rfl (by simp) (by rw[hs'.out];exact Eq.refl 20) i42.out ho'.out ?_))
 have r1:=(Row.new W 218 #[.func (.func F) #[] #[],.bool false]).alloc (.cells cs 212)
 have r2:=Row.new (W.alloc (.cells #[.func (.func F) #[] #[],.bool false] 218)) 212 cs
 have HB2:=Lib.hid ((HB.out.alloc HB.out.size (.cells #[.func (.func F) #[] #[],.bool false] 218)).alloc (by simp;omega) (.cells cs 212))
 rw[show (W.alloc (.cells #[.func (.func F) #[] #[],.bool false] 218)).heap.size=W.heap.size+1 by simp] at r2
 have l0:=r1.cell 0
 have l1:=r1.cell 1
 have c1:=(r2.cell o).trans hc
 clear r1 r2 hl r0 hc
 generalize (W.alloc (.cells #[.func (.func F) #[] #[],.bool false] 218)).alloc (.cells cs 212)=W2 at *
 go_wp2_with (first
  | (go_at_call 142;refine (kb.out _).mono ?_;rintro e w' ⟨rfl,rfl⟩)
  | (refine (hF _ _).mono ?_;rintro e w' ⟨rfl,rfl⟩))
 go_ret
 exact⟨rfl,HB2.out⟩
theorem QP8 (p:Int)(cs:Array Value)(hs:cs.size=20)(ho:cs.toList.all (·.oneCell')=true)(x:Int)(hx:Wd16 x)(hc:cs[1]? = some (.int .u16 x))(w:World) :
 Calls Tryz.prog 294 #[.agg cs,.int .i64 p,.int .i64 1] w fun e w'=>e=.returned (.int .u8 (x%256))∧Below w.heap.size w w' :=
 QEO p 1 _ 1 QRv (fun b w=>QAd b w) (fun _ _=>by kernel_rfl) cs hs ho x hx hc w
theorem QP1 (p:Int)(cs:Array Value)(hs:cs.size=20)(ho:cs.toList.all (·.oneCell')=true)(x:Int)(hx:Wd16 x)(hc:cs[2]? = some (.int .u16 x))(w:World) :
 Calls Tryz.prog 294 #[.agg cs,.int .i64 p,.int .i64 2] w fun e w'=>e=.returned (.int .u8 (x / 256))∧Below w.heap.size w w' :=
 QCX p 2 _ 2 QRy (fun b w=>QAy b w) (fun _ _=>by kernel_rfl) cs hs ho x hx hc w
theorem QQt (p:Int)(cs:Array Value)(hs:cs.size=20)(ho:cs.toList.all (·.oneCell')=true)(x:Int)(hx:Wd16 x)(hc:cs[2]? = some (.int .u16 x))(w:World) :
 Calls Tryz.prog 294 #[.agg cs,.int .i64 p,.int .i64 3] w fun e w'=>e=.returned (.int .u8 (x%256))∧Below w.heap.size w w' :=
 QEO p 3 _ 2 QRx (fun b w=>QAy b w) (fun _ _=>by kernel_rfl) cs hs ho x hx hc w
theorem QQd (p:Int)(cs:Array Value)(hs:cs.size=20)(ho:cs.toList.all (·.oneCell')=true)(hF:Qh p=348)(x:Int)(hx:Wd16 x)(hc:cs[8]? = some (.int .u16 x))(w:World) :
 Calls Tryz.prog 294 #[.agg cs,.int .i64 p,.int .i64 4] w fun e w'=>e=.returned (.int .u8 (x / 256))∧Below w.heap.size w w' :=
 QCX p 4 _ 8 (QGQ hF) (fun b w=>QA8 b w) (fun _ _=>by kernel_rfl) cs hs ho x hx hc w
theorem QRQ (p:Int)(cs:Array Value)(hs:cs.size=20)(ho:cs.toList.all (·.oneCell')=true)(hF:Qh p=349)(x:Int)(hx:Wd16 x)(hc:cs[9]? = some (.int .u16 x))(w:World) :
 Calls Tryz.prog 294 #[.agg cs,.int .i64 p,.int .i64 4] w fun e w'=>e=.returned (.int .u8 (x / 256))∧Below w.heap.size w w' :=
 QCX p 4 _ 9 (QGQ hF) (fun b w=>QAp b w) (fun _ _=>by kernel_rfl) cs hs ho x hx hc w
theorem QQq (p:Int)(cs:Array Value)(hs:cs.size=20)(ho:cs.toList.all (·.oneCell')=true)(hF:Qh p=350)(x:Int)(hx:Wd16 x)(hc:cs[3]? = some (.int .u16 x))(w:World) :
 Calls Tryz.prog 294 #[.agg cs,.int .i64 p,.int .i64 4] w fun e w'=>e=.returned (.int .u8 (x / 256))∧Below w.heap.size w w' :=
 QCX p 4 _ 3 (QGQ hF) (fun b w=>QA7 b w) (fun _ _=>by kernel_rfl) cs hs ho x hx hc w
theorem QQW (p:Int)(cs:Array Value)(hs:cs.size=20)(ho:cs.toList.all (·.oneCell')=true)(hF:Qh p=348)(x:Int)(hx:Wd16 x)(hc:cs[8]? = some (.int .u16 x))(w:World) :
 Calls Tryz.prog 294 #[.agg cs,.int .i64 p,.int .i64 5] w fun e w'=>e=.returned (.int .u8 (x%256))∧Below w.heap.size w w' :=
 QEO p 5 _ 8 (QF5 hF) (fun b w=>QA8 b w) (fun _ _=>by kernel_rfl) cs hs ho x hx hc w
theorem QQN (p:Int)(cs:Array Value)(hs:cs.size=20)(ho:cs.toList.all (·.oneCell')=true)(hF:Qh p=349)(x:Int)(hx:Wd16 x)(hc:cs[9]? = some (.int .u16 x))(w:World) :
 Calls Tryz.prog 294 #[.agg cs,.int .i64 p,.int .i64 5] w fun e w'=>e=.returned (.int .u8 (x%256))∧Below w.heap.size w w' :=
 QEO p 5 _ 9 (QF5 hF) (fun b w=>QAp b w) (fun _ _=>by kernel_rfl) cs hs ho x hx hc w
theorem QQc (p:Int)(cs:Array Value)(hs:cs.size=20)(ho:cs.toList.all (·.oneCell')=true)(hF:Qh p=350)(x:Int)(hx:Wd16 x)(hc:cs[3]? = some (.int .u16 x))(w:World) :
 Calls Tryz.prog 294 #[.agg cs,.int .i64 p,.int .i64 5] w fun e w'=>e=.returned (.int .u8 (x%256))∧Below w.heap.size w w' :=
 QEO p 5 _ 3 (QF5 hF) (fun b w=>QA7 b w) (fun _ _=>by kernel_rfl) cs hs ho x hx hc w
theorem QQG (p:Int)(cs:Array Value)(hs:cs.size=20)(ho:cs.toList.all (·.oneCell')=true)(x:Int)(hx:Wd16 x)(hc:cs[0]? = some (.int .u16 x))(w:World) :
 Calls Tryz.prog 294 #[.agg cs,.int .i64 p,.int .i64 7] w fun e w'=>e=.returned (.int .u8 (x / 256))∧Below w.heap.size w w' :=
 QCX p 7 _ 0 QRt (fun b w=>QKs b w) (fun _ _=>by kernel_rfl) cs hs ho x hx hc w
theorem QTQ (p k:Int)(hk:k < 0∨k=6∨7 < k)(cs:Array Value)(w:World) :
 Calls Tryz.prog 294 #[.agg cs,.int .i64 p,.int .i64 k] w fun e w'=>e=.returned (.int .u8 0)∧Below w.heap.size w w':=by
 have kh:=Lib.hid (fun w=>jN p w)
 have hl:=QNW (p:=p) hk (World.alloc_heap_new (w.alloc (.cells cs 24)) (.map (Jg p) 7))
 have HB0:Below w.heap.size w ((w.alloc (.cells cs 24)).alloc (.map (Jg p) 7)):=(by repeat (first|exact Below.refl _ _|assumption|refine JZ ?_ (by assumption)|refine Below.drew ?_|refine Below.alloc ?_ (by first|(simp;done)|(simp;omega)|omega) _|refine Below.setCell ?_ (by first|(simp;done)|(simp;omega)|omega) _))
 clear hk
 go_enter Tryz.func294,Tryz.ntmps294
 go_wp2_with fail
 refine (kh.out _).mono ?_
 rintro e w2 ⟨rfl,rfl⟩
 generalize (w.alloc (.cells cs 24)).alloc (.map (Jg p) 7)=W at *
 generalize (w.alloc (.cells cs 24)).heap.size=M at *
 have HB:=Lib.hid HB0
 clear HB0
 go_wp2
 go_ret
 exact⟨rfl,HB.out.alloc HB.out.size _⟩
theorem QGZ (g:Rg):(JJ g).toList.all (·.oneCell')=true:=rfl
theorem qG {p:Int}(h:p=3):Qh p=348:=by unfold Qh;rw[if_pos h]
theorem qI {p:Int}(h:p≠3)(h4:p=4):Qh p=349:=by unfold Qh;rw[if_neg h,if_pos h4]
theorem qB {p:Int}(h:p≠3)(h4:p≠4):Qh p=350:=by unfold Qh;rw[if_neg h,if_neg h4]
theorem QA2 (g:Rg)(p:Int):Jk g p 2=if p=3 then g.ix else if p=4 then g.iy else g.hl:=rfl
theorem QQ8 (g:Rg)(hg:RgB g)(p k:Int)(w:World) :
 Calls Tryz.prog 294 #[JH g,.int .i64 p,.int .i64 k] w fun e w'=>e=.returned (.int .u8 (qd g p k))∧Below w.heap.size w w':=by
 by_cases hn:k < 0∨k=6∨7 < k
 · rw[QLb g p k hn]
   exact QTQ p k hn _ w
 have h1:=QGZ g
 obtain rfl|rfl|rfl|rfl|rfl|rfl|rfl:k=0∨k=1∨k=2∨k=3∨k=4∨k=5∨k=7:=by omega
 · exact QRG p _ rfl h1 g.bc hg.bc rfl w
 · exact QP8 p _ rfl h1 g.bc hg.bc rfl w
 · exact QP1 p _ rfl h1 g.de hg.de rfl w
 · exact QQt p _ rfl h1 g.de hg.de rfl w
 · show Calls _ _ _ _ fun e w'=>e=.returned (.int .u8 (Jk g p 2 / 256))∧_
   rw[QA2]
   by_cases h3:p=3
   · rw[if_pos h3]
     exact QQd p _ rfl h1 (qG h3) g.ix hg.ix rfl w
   by_cases h4:p=4
   · rw[if_neg h3,if_pos h4]
     exact QRQ p _ rfl h1 (qI h3 h4) g.iy hg.iy rfl w
   · rw[if_neg h3,if_neg h4]
     exact QQq p _ rfl h1 (qB h3 h4) g.hl hg.hl rfl w
 · show Calls _ _ _ _ fun e w'=>e=.returned (.int .u8 (Jk g p 2%256))∧_
   rw[QA2]
   by_cases h3:p=3
   · rw[if_pos h3]
     exact QQW p _ rfl h1 (qG h3) g.ix hg.ix rfl w
   by_cases h4:p=4
   · rw[if_neg h3,if_pos h4]
     exact QQN p _ rfl h1 (qI h3 h4) g.iy hg.iy rfl w
   · rw[if_neg h3,if_neg h4]
     exact QQc p _ rfl h1 (qB h3 h4) g.hl hg.hl rfl w
 · exact QQG p _ rfl h1 g.af hg.af rfl w
theorem QBB (p:Int)(k:Int)(F o:Nat)(hlk:∀ {w:World} {M:Nat},w.heap[M]? = some (.map (J6 p) 4)→(Instr.lookup 210 (.map (some M)) (.int .i64 k) true).run Tryz.prog w=.ok (.tuple #[.func (.func F) #[] #[],.bool true]) w)(hF:∀ (b:Nat) (w:World),Calls Tryz.prog F #[.pointer (some ⟨b,0,none⟩)] w fun e w'=>e=.returned (.pointer (some ⟨b,o,none⟩))∧w=w')(hcall:∀ (args:Array Value) (w:World),(callFunc F args).run Tryz.prog w=.ok (.enter F args) w)(cs:Array Value)(hs:cs.size=20)(ho:cs.toList.all (·.oneCell')=true)(x:Int)(hc:cs[o]? = some (.int .u16 x))(w:World) :
 Calls Tryz.prog 280 #[.agg cs,.int .i64 p,.int .i64 k] w fun e w'=>e=.returned (.int .u16 x)∧Below w.heap.size w w':=by
 have kh:=Lib.hid (fun w=>QAv p w)
 have hl:=hlk (World.alloc_heap_new (w.alloc (.cells cs 24)) (.map (J6 p) 4))
 have r0:=(Row.new w 24 cs).alloc (.map (J6 p) 4)
 have HB0:Below w.heap.size w ((w.alloc (.cells cs 24)).alloc (.map (J6 p) 4)):=(by repeat (first|exact Below.refl _ _|assumption|refine JZ ?_ (by assumption)|refine Below.drew ?_|refine Below.alloc ?_ (by first|(simp;done)|(simp;omega)|omega) _|refine Below.setCell ?_ (by first|(simp;done)|(simp;omega)|omega) _))
 have i24:Hid ((Tryz.prog.info? 24).map (·.size)=some cs.size):=Lib.hid (by rw[hs];exact ZF)
 have i42:Hid ((Tryz.prog.info? 212).map (·.size)=some cs.size):=Lib.hid (by rw[hs];exact zl)
 have ho':=Lib.hid ho
 have hs':=Lib.hid hs
 clear hs ho
 go_enter Tryz.func280,Tryz.ntmps280
 go_wp2_with fail
 refine (kh.out _).mono ?_
 rintro e w2 ⟨rfl,rfl⟩
 generalize (w.alloc (.cells cs 24)).alloc (.map (J6 p) 4)=W at *
 generalize (w.alloc (.cells cs 24)).heap.size=M at *
 have HB:=Lib.hid HB0
 have hg:=HB0.size
 clear HB0
 have hW:w.heap.size < W.heap.size:=r0.lt
 go_upto_region 5 with (first
  | (refine wpList_load_row rfl 24 _ rfl _ _ _ rfl r0 _ Tryz.underlying24 rfl i24.out ?_)
  | (refine XC rfl 212 _ _ rfl _ _ _ _ cs rfl rfl (by simp) (by rw[hs'.out];exact Eq.refl 20) i42.out ho'.out ?_))
 have r2:=Row.new W 212 cs
 have HB2:=Lib.hid (HB.out.alloc HB.out.size (.cells cs 212))
 have c1:=(r2.cell o).trans hc
 clear r2 hl r0 hc
 generalize W.alloc (.cells cs 212)=W2 at *
 go_wp2_with (refine (hF _ _).mono ?_;rintro e w' ⟨rfl,rfl⟩)
 go_ret
 exact⟨rfl,HB2.out⟩
theorem QOk (p:Int)(cs:Array Value)(hs:cs.size=20)(ho:cs.toList.all (·.oneCell')=true)(x:Int)(hc:cs[1]? = some (.int .u16 x))(w:World) :
 Calls Tryz.prog 280 #[.agg cs,.int .i64 p,.int .i64 0] w fun e w'=>e=.returned (.int .u16 x)∧Below w.heap.size w w' :=
 QBB p 0 _ 1 QRg (fun b w=>QAd b w) (fun _ _=>by kernel_rfl) cs hs ho x hc w
theorem QPb (p:Int)(cs:Array Value)(hs:cs.size=20)(ho:cs.toList.all (·.oneCell')=true)(x:Int)(hc:cs[2]? = some (.int .u16 x))(w:World) :
 Calls Tryz.prog 280 #[.agg cs,.int .i64 p,.int .i64 1] w fun e w'=>e=.returned (.int .u16 x)∧Below w.heap.size w w' :=
 QBB p 1 _ 2 QRm (fun b w=>QAy b w) (fun _ _=>by kernel_rfl) cs hs ho x hc w
theorem QNp (p:Int)(cs:Array Value)(hs:cs.size=20)(ho:cs.toList.all (·.oneCell')=true)(hF:Qh p=348)(x:Int)(hc:cs[8]? = some (.int .u16 x))(w:World) :
 Calls Tryz.prog 280 #[.agg cs,.int .i64 p,.int .i64 2] w fun e w'=>e=.returned (.int .u16 x)∧Below w.heap.size w w' :=
 QBB p 2 _ 8 (QGU hF) (fun b w=>QA8 b w) (fun _ _=>by kernel_rfl) cs hs ho x hc w
theorem QPB (p:Int)(cs:Array Value)(hs:cs.size=20)(ho:cs.toList.all (·.oneCell')=true)(hF:Qh p=349)(x:Int)(hc:cs[9]? = some (.int .u16 x))(w:World) :
 Calls Tryz.prog 280 #[.agg cs,.int .i64 p,.int .i64 2] w fun e w'=>e=.returned (.int .u16 x)∧Below w.heap.size w w' :=
 QBB p 2 _ 9 (QGU hF) (fun b w=>QAp b w) (fun _ _=>by kernel_rfl) cs hs ho x hc w
theorem QOj (p:Int)(cs:Array Value)(hs:cs.size=20)(ho:cs.toList.all (·.oneCell')=true)(hF:Qh p=350)(x:Int)(hc:cs[3]? = some (.int .u16 x))(w:World) :
 Calls Tryz.prog 280 #[.agg cs,.int .i64 p,.int .i64 2] w fun e w'=>e=.returned (.int .u16 x)∧Below w.heap.size w w' :=
 QBB p 2 _ 3 (QGU hF) (fun b w=>QA7 b w) (fun _ _=>by kernel_rfl) cs hs ho x hc w
theorem QOs (p:Int)(cs:Array Value)(hs:cs.size=20)(ho:cs.toList.all (·.oneCell')=true)(x:Int)(hc:cs[10]? = some (.int .u16 x))(w:World) :
 Calls Tryz.prog 280 #[.agg cs,.int .i64 p,.int .i64 3] w fun e w'=>e=.returned (.int .u16 x)∧Below w.heap.size w w' :=
 QBB p 3 _ 10 QRl (fun b w=>QLC b w) (fun _ _=>by kernel_rfl) cs hs ho x hc w
theorem QP3 (p k:Int)(hk:k < 0∨3 < k)(cs:Array Value)(w:World) :
 Calls Tryz.prog 280 #[.agg cs,.int .i64 p,.int .i64 k] w fun e w'=>e=.returned (.int .u16 0)∧Below w.heap.size w w':=by
 have kh:=Lib.hid (fun w=>QAv p w)
 have hl:=QOo (p:=p) hk (World.alloc_heap_new (w.alloc (.cells cs 24)) (.map (J6 p) 4))
 have HB0:Below w.heap.size w ((w.alloc (.cells cs 24)).alloc (.map (J6 p) 4)):=(by repeat (first|exact Below.refl _ _|assumption|refine JZ ?_ (by assumption)|refine Below.drew ?_|refine Below.alloc ?_ (by first|(simp;done)|(simp;omega)|omega) _|refine Below.setCell ?_ (by first|(simp;done)|(simp;omega)|omega) _))
 clear hk
 go_enter Tryz.func280,Tryz.ntmps280
 go_wp2_with fail
 refine (kh.out _).mono ?_
 rintro e w2 ⟨rfl,rfl⟩
 generalize (w.alloc (.cells cs 24)).alloc (.map (J6 p) 4)=W at *
 generalize (w.alloc (.cells cs 24)).heap.size=M at *
 have HB:=Lib.hid HB0
 clear HB0
 go_wp2
 go_ret
 exact⟨rfl,HB.out⟩
theorem QJL (g:Rg)(p k:Int)(h:k < 0∨3 < k):Jk g p k=0:=by
 unfold Jk
 rw[if_neg (by omega),if_neg (by omega),if_neg (by omega),if_neg (by omega)]
theorem QIo (g:Rg)(p k:Int)(w:World) :
 Calls Tryz.prog 280 #[JH g,.int .i64 p,.int .i64 k] w fun e w'=>e=.returned (.int .u16 (Jk g p k))∧Below w.heap.size w w':=by
 by_cases hn:k < 0∨3 < k
 · rw[QJL g p k hn]
   exact QP3 p k hn _ w
 have h1:=QGZ g
 obtain rfl|rfl|rfl|rfl:k=0∨k=1∨k=2∨k=3:=by omega
 · exact QOk p _ rfl h1 g.bc rfl w
 · exact QPb p _ rfl h1 g.de rfl w
 · rw[QA2]
   by_cases h3:p=3
   · rw[if_pos h3]
     exact QNp p _ rfl h1 (qG h3) g.ix rfl w
   by_cases h4:p=4
   · rw[if_neg h3,if_pos h4]
     exact QPB p _ rfl h1 (qI h3 h4) g.iy rfl w
   · rw[if_neg h3,if_neg h4]
     exact QOj p _ rfl h1 (qB h3 h4) g.hl rfl w
 · exact QOs p _ rfl h1 g.sp rfl w
end Go.Proofs.YtkenebbjodcbcaaGreatDoor
