/- Contracts and facts that the claim's proof wants (several texts in one). -/
import Derived.Test.YtkenebbjodcbcaaGreatDoorCoH3
namespace Go.Proofs.YtkenebbjodcbcaaGreatDoor
open Go.RowKit
set_option linter.unusedVariables false
set_option linter.unusedSimpArgs false
set_option maxRecDepth 20000
set_option maxHeartbeats 20000000
abbrev J0:=List (Nat×Value)
def lkO (base:List Value)(t:Nat):J0→Value
 | []=>base.getD t undef
 | e :: r=>bif Nat.beq e.1 t then e.2 else lkO base t r
def ovO (base:List Value):J0→List Value
 | []=>base
 | e :: r=>(ovO base r).set e.1 e.2
def X7 (base:List Value)(l:J0):Act:=⟨(ovO base l).toArray,[]⟩
def inO (n:Nat):J0→Prop
 | []=>True
 | e :: r=>e.1 < n∧inO n r
def evO (base:List Value)(l:J0):Operand→Value
 | .tmp t=>lkO base t l
 | .const v=>v
 | .global g=>.pointer (some ⟨g,0,none⟩)
 | .func f=>.func (.func f) #[] #[]
def XL (d:Option Nat)(v:Value)(l:J0):J0:=match d with|some d=>(d,v) :: l|none=>l
def XH (d:Option Nat)(n:Nat):Bool:=match d with|some d=>Nat.blt d n|none=>true
theorem jX (base:List Value):∀ l,(ovO base l).length=base.length
 | []=>rfl
 | e :: r=>by rw[ovO,List.length_set];exact jX base r
theorem QD6 {base:List Value}(t:Nat):∀ {l:J0},inO base.length l→(ovO base l).getD t undef=lkO base t l
 | [],_=>rfl
 | e :: r,h=>by
   rw[ovO,lkO]
   by_cases he:e.1=t
   · subst he
     rw[show Nat.beq e.1 e.1=true from Nat.beq_refl _,cond_true,List.getD_eq_getElem?_getD,List.getElem?_set_self (by rw[jX];exact h.1)]
     rfl
   · rw[show Nat.beq e.1 t=false from Bool.eq_false_iff.2 fun h=>he (Nat.eq_of_beq_eq_true h),cond_false,List.getD_eq_getElem?_getD,List.getElem?_set_ne he,←List.getD_eq_getElem?_getD]
     exact QD6 t h.2
theorem QH {base:List Value} {l:J0}(h:inO base.length l):(X7 base l).eval=evO base l:=by
 funext x
 cases x with
 | tmp t =>
   show (ovO base l).toArray.getD t undef=lkO base t l
   rw[←QD6 t h]
   simp[Array.getD_eq_getD_getElem?,List.getD_eq_getElem?_getD]
 | _=>rfl
theorem Qa (base:List Value)(l:J0)(d:Option Nat)(v:Value):(X7 base l).put d v=X7 base (XL d v l):=by
 cases d with
 | none=>rfl
 | some d=>simp[Act.put,X7,XL,ovO]
theorem jZ {n:Nat} {d:Option Nat} {v:Value} {l:J0}(hd:XH d n=true)(h:inO n l):inO n (XL d v l):=by
 cases d with
 | none=>exact h
 | some d=>exact⟨by simpa [XH,Nat.blt_eq] using hd,h⟩
structure WO (P:Program)(ops:Array Oper)(Q:Exit→Act→World→Prop)(base:List Value)(rest:List Oper)(l:J0)(w:World):Prop where
 h:inO base.length l→WL P ops Q rest (X7 base l) w
structure CO (P:Program)(c:Code)(Q:Exit→Act→World→Prop)(base:List Value)(l:J0)(w:World):Prop where
 h:inO base.length l→c.wp P Q (X7 base l) w
structure EO (Q:Exit→Act→World→Prop)(e:Exit)(base:List Value)(l:J0)(w:World):Prop where
 h:inO base.length l→Q e (X7 base l) w
abbrev Xf:=List (Option Value)
structure Ev where
 ok:Bool
 l:J0
 cs:Xf
 fs:List ((World→Result Next)×(World→Result Next))
 bs:List (Nat×Nat)
structure Ev1 where
 l:J0
 cs:Xf
 fs:List ((World→Result Next)×(World→Result Next))
 bs:List (Nat×Nat)
def ovL:Xf→Nat→List Value→Xf
 | cs,_,[]=>cs
 | cs,k,v :: r=>ovL (cs.set k (some v)) (k+1) r
def QRX:Nat→Xf→Option (List Value)
 | 0,_=>some []
 | n+1,some v :: r=>match QRX n r with|some vs=>some (v :: vs)|none=>none
 | _+1,_=>none
structure Kn (cs:Xf)(full:Array Value):Prop where
 size:full.size=cs.length
 at_:∀ (k:Nat) (v:Value),cs[k]? = some (some v)→full[k]? = some v
def Same (cs:Xf)(full:Array Value)(cs':Xf)(full':Array Value):Prop:=∀ k:Nat,cs'[k]? = some none→cs[k]? = some none∧full'[k]? = full[k]?
theorem Same.refl (cs:Xf)(full:Array Value):Same cs full cs full:=fun _ h=>⟨h,rfl⟩
theorem Same.trans {a b c:Xf} {x y z:Array Value}(h:Same a x b y)(k:Same b y c z):Same a x c z:=fun i hi=>⟨(h i (k i hi).1).1,(k i hi).2.trans (h i (k i hi).1).2⟩
theorem Kn.set {cs:Xf} {full:Array Value}(h:Kn cs full)(k:Nat)(v:Value):Kn (cs.set k (some v)) (full.setIfInBounds k v)∧Same cs full (cs.set k (some v)) (full.setIfInBounds k v):=by
 have hs:=h.size
 refine⟨⟨by simp[hs],fun i u hu=>?_⟩,fun i hi=>?_⟩
 · by_cases e:k=i
   · subst e
     have hlt:k < cs.length:=by simpa using (List.getElem?_eq_some_iff.1 hu).1
     rw[List.getElem?_set_self hlt] at hu
     injection hu with hu;injection hu with hu;subst hu
     simp[hs,hlt]
   · rw[List.getElem?_set_ne e] at hu
     rw[Array.getElem?_setIfInBounds_ne e]
     exact h.at_ i u hu
 · by_cases e:k=i
   · subst e
     have hlt:k < cs.length:=by simpa using (List.getElem?_eq_some_iff.1 hi).1
     rw[List.getElem?_set_self hlt] at hi
     cases hi
   · rw[List.getElem?_set_ne e] at hi
     exact⟨hi,Array.getElem?_setIfInBounds_ne e⟩
theorem Kn.over:∀ (vs:List Value) (cs:Xf) (full:Array Value) (k:Nat),Kn cs full→Kn (ovL cs k vs) (ovr full k vs)∧Same cs full (ovL cs k vs) (ovr full k vs)
 | [],_,_,_,h=>⟨h,.refl _ _⟩
 | v :: r,cs,full,k,h=>by
   have h1:=h.set k v
   have h2:=Kn.over r _ _ (k+1) h1.1
   exact⟨h2.1,h1.2.trans h2.2⟩
theorem QLN:∀ (n:Nat) (cs:Xf) (vs:List Value),QRX n cs=some vs→vs.length=n∧∀ (j:Nat) (v:Value),vs[j]? = some v→cs[j]? = some (some v)
 | 0,cs,vs,h=>by
   injection h with h;subst h
   exact⟨rfl,fun j v hv=>by simp at hv⟩
 | n+1,[],vs,h=>by cases h
 | n+1,none :: r,vs,h=>by cases h
 | n+1,some u :: r,vs,h=>by
   simp only[QRX] at h
   split at h
   · rename_i us hus
     injection h with h;subst h
     have ih:=QLN n r us hus
     refine⟨by simp[ih.1],fun j v hv=>?_⟩
     cases j with
     | zero=>simpa using hv
     | succ j=>exact ih.2 j v (by simpa using hv)
   · cases h
def QTC (P:Program)(t:TypeId):Option Nat:=match P.underlying t with
 | some d=>bif d.isRow then (match (P.info? t).map (·.size) with|some (m+1)=>some (m+1)|_=>none) else some 0
 | none=>none
def QA (ops:Array Oper)(n:Nat)(base:List Value)(l:J0)(o:Oper):Option Bool :=
 match o.guard with
 | none=>some true
 | some (j,b)=>match ops[j]? with
   | some q=>match q.dst with
     | some d=>bif Nat.blt d n then (match lkO base d l with|.bool c=>some (some c==some b)|_=>some false) else none
     | none=>some false
   | none=>some false
def ev1 (P:Program)(W:World)(b n:Nat)(base:List Value)(l:J0)(cs:Xf)(o:Oper):Option Ev1 :=
 match o.dst,o.op with
 | some d,.move x=>bif Nat.blt d n then some ⟨(d,evO base l x) :: l,cs,[],[]⟩ else none
 | some d,.assign x=>bif Nat.blt d n then some ⟨(d,evO base l x) :: l,cs,[],[]⟩ else none
 | some d,.load t x=>match evO base l x,QTC P t with
   | .pointer (some ⟨c,k,none⟩),some 0=>match cs[k]? with
     | some (some v)=>bif Nat.blt d n then some ⟨(d,v) :: l,cs,[],[(c,b)]⟩ else none
     | _=>none
   | .pointer (some ⟨c,k,none⟩),some (m+1)=>match QRX (m+1) (cs.drop k) with
     | some vs=>bif Nat.blt d n then some ⟨(d,.agg vs.toArray) :: l,cs,[],[(c,b)]⟩ else none
     | none=>none
   | _,_=>none
 | none,.store t x y=>match evO base l x,(P.info? t).map (·.size) with
   | .pointer (some ⟨c,k,none⟩),some 1=>bif (evO base l y).oneCell'&&Nat.blt k cs.length then some ⟨l,cs.set k (some (evO base l y)),[],[(c,b)]⟩ else none
   | .pointer (some ⟨c,k,none⟩),some m=>match evO base l y with
     | .agg vs=>bif (Nat.beq vs.size m&&vs.all (·.oneCell'))&&Nat.ble (k+vs.size) cs.length then some ⟨l,ovL cs k vs.toList,[],[(c,b)]⟩ else none
     | _=>none
   | _,_=>none
 | some d,op=>match (execOp (evO base l) o).run P W with
   | .ok (.value v) _=>bif Nat.blt d n then some ⟨(d,v) :: l,cs,[(fun w=>(execOp (evO base l) o).run P w,fun w=>.ok (.value v) w)],[]⟩ else none
   | _=>none
 | _,_=>none
def evs (P:Program)(ops:Array Oper)(W:World)(b n:Nat)(base:List Value):List Oper→J0→Xf→List ((World→Result Next)×(World→Result Next))→List (Nat×Nat)→Ev
 | [],l,cs,fs,bs=>⟨true,l,cs,fs,bs⟩
 | o :: r,l,cs,fs,bs=>match QA ops n base l o with
   | some true=>match ev1 P W b n base l cs o with
     | some e=>evs P ops W b n base r e.l e.cs (e.fs++fs) (e.bs++bs)
     | none=>⟨false,l,cs,fs,bs⟩
   | some false=>match o.dst with
     | some d=>bif Nat.blt d n then evs P ops W b n base r ((d,undef) :: l) cs fs bs else ⟨false,l,cs,fs,bs⟩
     | none=>⟨false,l,cs,fs,bs⟩
   | none=>⟨false,l,cs,fs,bs⟩
theorem QLZ {P:Program} {w:World} {ad:Addr} {V:Value} {t:TypeId} {d:TypeDesc}(hu:P.underlying t=some d)(hd:d.isRow=false)(hc:w.cell? ad=some V):(Instr.loadAt t (.pointer (some ad))).run P w=.ok V w:=by
 have hagg:(isAgg t).run P w=.ok false w:=by
  unfold isAgg
  rw[Sem.run_bind,run_underlying hu w]
  cases d<;>simp_all [TypeDesc.isRow]
 simp[Instr.loadAt,Instr.sureAddr,loadVar,Sem.run_bind,hagg,hc]
theorem QNR {P:Program} {w:World} {ad:Addr} {V v:Value} {t:TypeId}(hi:(P.info? t).map (·.size)=some 1)(hc:w.cell? ad=some V)(hz:w.frozen? ad=false)(hv:v.oneCell'=true):(Instr.storeAt t (.pointer (some ad)) v).run P w=.ok () (w.setCell ad v):=by
 cases hq:P.info? t with
 | none=>simp[hq] at hi
 | some i =>
   have hs:i.size=1:=by simpa [hq] using hi
   have hcs:v.cells=#[v]:=by cases v<;>simp_all [Value.cells,Value.oneCell']
   simp[Instr.storeAt,Instr.sureAddr,storeVar,sizeOf,typeInfo,hq,hs,hcs,storeCells,Sem.run_bind,run_store,hv,hc,hz,Addr.add]
theorem QCY {P:Program} {ρ:Operand→Value} {o:Oper} {x:Operand}(ho:o.op=.move x∨o.op=.assign x)(w:World):(execOp ρ o).run P w=.ok (.value (ρ x)) w:=by
 unfold execOp
 rcases ho with ho|ho<;>simp only[ho,Sem.run_pure]
theorem size_setCells (b:Nat):∀ (vs:List Value) (o:Nat) (w:World),(w.setCells b o vs).heap.size=w.heap.size
 | [],_,_=>rfl
 | v :: r,o,w=>(size_setCells b r (o+1) _).trans (by simp[World.setCell])
theorem QJW (b:Nat){w0:World}:∀ (vs:List Value) (o:Nat) {w:World},Besides b b w0 w→Besides b b w0 (w.setCells b o vs)
 | [],_,_,h=>h
 | v :: r,o,_,h=>QJW b r (o+1) (h.setCell (p:=⟨b,o,none⟩) (.inl rfl) v)
section
variable {P:Program} {ops:Array Oper} {Q:Exit→Act→World→Prop} {base:List Value} {rest:List Oper} {l:J0} {w:World} {o:Oper} {b:Nat} {ty:TypeId} {cs:Xf}
theorem J2 {c:Bool}(h:QA ops base.length base l o=some c)(hi:inO base.length l):Region.wanted o (yielded ops (X7 base l).tmps)=c:=by
 unfold QA at h
 unfold Region.wanted
 split at h
 · rename_i hg
   injection h with h
   simp only[hg,h]
 · rename_i j b hg
   simp only[hg]
   unfold yielded
   split at h
   · rename_i q hq
     simp only[hq,Option.bind_some]
     split at h
     · rename_i d hd
       simp only[hd,Option.bind_some]
       cases hn:Nat.blt d base.length<;>rw[hn] at h
       · cases h
       · have hlt:d < base.length:=by simpa [Nat.blt_eq] using hn
         have hv:(X7 base l).tmps[d]? = some (lkO base d l):=by
          rw[←QD6 d hi]
          show (ovO base l).toArray[d]? = _
          rw[List.getElem?_toArray,List.getD_eq_getElem?_getD,List.getElem?_eq_getElem (by rw[jX];exact hlt)]
          rfl
         rw[hv]
         simp only[cond_true] at h
         split at h
         · rename_i x hx
           injection h with h
           simp only[hx,h]
         · rename_i hx
           injection h with h
           subst h
           cases hl:lkO base d l<;>simp_all
     · rename_i hd
       injection h with h
       simp[hd,←h]
   · rename_i hq
     injection h with h
     simp[hq,←h]
theorem step1 {d:Nat} {V:Value}(hd:o.dst=some d)(hw:QA ops base.length base l o=some true)(hn:Nat.blt d base.length=true)(he:(execOp (evO base l) o).run P w=.ok (.value V) w)
 (h:WO P ops Q base rest ((d,V) :: l) w):WO P ops Q base (o :: rest) l w :=
 ⟨fun hi=>Jf d V hd (J2 hw hi) (by rw[QH hi];exact he) (by rw[Qa];exact h.h ⟨by simpa [Nat.blt_eq] using hn,hi⟩)⟩
def zC (o:Oper):Bool:=match o.op with|.store ..=>false|_=>true
theorem QLI {W:World} {e:Ev1}(he:ev1 P W b base.length base l cs o=some e)(hs:zC o=true)(hf:∀ x∈e.fs,x.1=x.2)(hb:∀ x∈e.bs,x.1=x.2) :
 ∃ d v,o.dst=some d∧Nat.blt d base.length=true∧e.l=(d,v) :: l∧e.cs=cs∧∀ w full,Row w b ty full→Kn cs full→(execOp (evO base l) o).run P w=.ok (.value v) w:=by
 unfold ev1 at he
 split at he
 · rename_i d x hd ho
   cases hn:Nat.blt d base.length<;>rw[hn] at he
   · cases he
   · injection he with he;subst he
     exact⟨d,_,hd,hn,rfl,rfl,fun w _ _ _=>QCY (.inl ho) w⟩
 · rename_i d x hd ho
   cases hn:Nat.blt d base.length<;>rw[hn] at he
   · cases he
   · injection he with he;subst he
     exact⟨d,_,hd,hn,rfl,rfl,fun w _ _ _=>QCY (.inr ho) w⟩
 · rename_i d t x hd ho
   split at he
   · rename_i c k hx ht
     split at he
     · rename_i v hv
       cases hn:Nat.blt d base.length<;>rw[hn] at he
       · cases he
       · injection he with he;subst he
         obtain rfl:c=b:=hb (c,b) (by simp)
         obtain⟨D,hu,hD⟩:∃ D,P.underlying t=some D∧D.isRow=false:=by
          unfold QTC at ht
          cases hu:P.underlying t with
          | none=>simp[hu] at ht
          | some D =>
            refine⟨D,rfl,?_⟩
            cases hD:D.isRow with
            | false=>rfl
            | true =>
              simp only[hu,hD,cond_true] at ht
              split at ht<;>simp at ht
         refine⟨d,v,hd,hn,rfl,rfl,fun w full hr hk=>?_⟩
         unfold execOp
         simp only[ho,hx,Sem.run_bind,Sem.run_pure,QLZ hu hD ((hr.cell k).trans (hk.at_ k v hv)),Result.andThen_ok]
     · cases he
   · rename_i c k m hx ht
     split at he
     · rename_i vs hvs
       cases hn:Nat.blt d base.length<;>rw[hn] at he
       · cases he
       · injection he with he;subst he
         obtain rfl:c=b:=hb (c,b) (by simp)
         obtain⟨hlen,hat⟩:=QLN _ _ _ hvs
         obtain⟨D,hu,hD,hs⟩:∃ D,P.underlying t=some D∧D.isRow=true∧(P.info? t).map (·.size)=some (m+1):=by
          unfold QTC at ht
          cases hu:P.underlying t with
          | none=>simp[hu] at ht
          | some D =>
            cases hD:D.isRow with
            | false=>simp[hu,hD] at ht
            | true =>
              simp only[hu,hD,cond_true] at ht
              split at ht
              · rename_i j hj
                injection ht with ht
                exact⟨D,rfl,hD,hj.trans (congrArg some ht)⟩
              · cases ht
         refine⟨d,_,hd,hn,rfl,rfl,fun w full hr hk=>?_⟩
         have hl:=run_loadAt_mid (P:=P) w c k t vs D (fun j v hv=>by
          rw[hr.cell (k+j)]
          have:=hat j v hv
          rw[List.getElem?_drop] at this
          exact hk.at_ _ _ this) hu hD (by rw[hs,hlen])
         unfold execOp
         simp only[ho,hx,Sem.run_bind,Sem.run_pure,hl,Result.andThen_ok]
     · cases he
   · cases he
 · rename_i t x y hd ho
   simp[zC,ho] at hs
 · rename_i d hd n1 n2 n3
   split at he
   · rename_i v w1 hv
     cases hn:Nat.blt d base.length<;>rw[hn] at he
     · cases he
     · injection he with he;subst he
       exact⟨d,v,hd,hn,rfl,rfl,fun w _ _ _=>congrFun (hf _ List.mem_cons_self) w⟩
   · cases he
 · cases he
theorem QFz {W:World} {e:Ev1} {full:Array Value}(hg:QA ops base.length base l o=some true)(he:ev1 P W b base.length base l cs o=some e)(hf:∀ x∈e.fs,x.1=x.2)(hb:∀ x∈e.bs,x.1=x.2)(hr:Row w b ty full)(hK:Kn cs full)
 (h:∀ w' full',(zC o=true→w'=w)→w'.heap.size=w.heap.size→Row w' b ty full'→Kn e.cs full'→Same cs full e.cs full'→Besides b b w w'→WO P ops Q base rest e.l w'):WO P ops Q base (o :: rest) l w:=by
 cases hs:zC o with
 | true =>
   obtain⟨d,v,hd,hn,el,ec,hv⟩:=QLI (ty:=ty) he hs hf hb
   have:=h w full (fun _=>rfl) rfl hr (by rw[ec];exact hK) (by rw[ec];exact .refl _ _) (.refl ..)
   rw[el] at this
   exact step1 hd hg hn (hv w full hr hK) this
 | false =>
   have ho:∃ t x y,o.op=.store t x y:=by
    unfold zC at hs
    split at hs
    · rename_i t x y ho;exact⟨t,x,y,ho⟩
    · cases hs
   obtain⟨t,x,y,ho⟩:=ho
   unfold ev1 at he
   rw[ho] at he
   cases hd:o.dst with
   | some d =>
     rw[hd] at he
     dsimp only at he
     split at he
     · rename_i v w1 hv
       cases hn:Nat.blt d base.length<;>rw[hn] at he
       · cases he
       · injection he with he;subst he
         exact step1 hd hg hn (congrFun (hf _ List.mem_cons_self) w) (h w full (fun e=>absurd (hs.symm.trans e) (by decide)) rfl hr hK (.refl _ _) (.refl ..))
     · cases he
   | none =>
   rw[hd] at he
   dsimp only at he
   split at he
   · rename_i c k hx hi
     cases hn:((evO base l y).oneCell'&&Nat.blt k cs.length)<;>rw[hn] at he
     · cases he
     · injection he with he;subst he
       simp only[Bool.and_eq_true,Nat.blt_eq] at hn
       obtain rfl:c=b:=hb (c,b) (by simp)
       have h2:=hK.set k (evO base l y)
       have hk:=h (w.setCell ⟨c,k,none⟩ (evO base l y)) _ (fun e=>absurd (hs.symm.trans e) (by decide)) (by simp[World.setCell]) (hr.set k _) h2.1 h2.2 ((Besides.refl c c w).setCell (.inl rfl) _)
       refine⟨fun hin=>Xo hd (J2 hg hin) (w':=w.setCell ⟨c,k,none⟩ (evO base l y)) ?_ (by rw[Qa];exact hk.h hin)⟩
       rw[QH hin]
       unfold execOp
       have hsz:=hK.size
       have hcell:w.cell? ⟨c,k,none⟩=some (full[k]'(by omega)):=by rw[hr.cell k];simp[hsz,hn.2]
       simp only[ho,hx,Sem.run_bind,Sem.run_pure,QNR hi hcell (hr.frozen k) hn.1,Result.andThen_ok]
   · rename_i c k m hm hx hi
     split at he
     · rename_i vs hy
       cases hn:((Nat.beq vs.size m&&vs.all (·.oneCell'))&&Nat.ble (k+vs.size) cs.length)<;>rw[hn] at he
       · cases he
       · injection he with he;subst he
         simp only[Bool.and_eq_true] at hn
         obtain⟨⟨hn1,hn2⟩,hn3⟩:=hn
         obtain rfl:c=b:=hb (c,b) (by simp)
         have hle:k+vs.size≤cs.length:=by simpa using hn3
         have hsz:vs.size=m:=Nat.eq_of_beq_eq_true hn1
         have hfs:=hK.size
         have h2:=Kn.over vs.toList cs full k hK
         have hk:=h (w.setCells c k vs.toList) _ (fun e=>absurd (hs.symm.trans e) (by decide)) (size_setCells _ _ _ _) (Row.setOver (w:=w) vs.toList k hr) h2.1 h2.2 (QJW c vs.toList k (.refl ..))
         refine⟨fun hin=>Xo hd (J2 hg hin) (w':=w.setCells c k vs.toList) ?_ (by rw[Qa];exact hk.h hin)⟩
         rw[QH hin]
         unfold execOp
         have hl:=run_storeAt_mid (P:=P) w c k t vs (fun j hj=>⟨by rw[hr.cell];simp;omega,hr.frozen _⟩) (by rw[hi,hsz]) hn2
         simp only[ho,hx,hy,Sem.run_bind,Sem.run_pure,hl,Result.andThen_ok]
     · cases he
   · cases he
theorem QDq {W:World}:∀ (os:List Oper) (l:J0) (cs:Xf) (fs bs),(evs P ops W b base.length base os l cs fs bs).ok=true →
 (∀ x∈fs,x∈(evs P ops W b base.length base os l cs fs bs).fs)∧(∀ x∈bs,x∈(evs P ops W b base.length base os l cs fs bs).bs)
 | [],_,_,_,_,_=>⟨fun _ h=>h,fun _ h=>h⟩
 | o :: r,l,cs,fs,bs,hok=>by
   unfold evs at hok ⊢
   split at hok
   · split at hok
     · rename_i e he
       have ih:=QDq r e.l e.cs (e.fs++fs) (e.bs++bs) hok
       exact⟨fun x hx=>ih.1 x (List.mem_append_right _ hx),fun x hx=>ih.2 x (List.mem_append_right _ hx)⟩
     · cases hok
   · split at hok
     · rename_i d hd
       cases hn:Nat.blt d base.length<;>rw[hn] at hok
       · cases hok
       · exact QDq r _ cs fs bs hok
     · cases hok
   · cases hok
theorem QBA {W:World}:∀ (os:List Oper) (l:J0) (cs:Xf) (fs bs) (w:World) (full:Array Value),(evs P ops W b base.length base os l cs fs bs).ok=true →
 (∀ x∈(evs P ops W b base.length base os l cs fs bs).fs,x.1=x.2)→(∀ x∈(evs P ops W b base.length base os l cs fs bs).bs,x.1=x.2)→Row w b ty full→Kn cs full →
 (∀ w' full',(os.all zC=true→w'=w)→Row w' b ty full'→Kn (evs P ops W b base.length base os l cs fs bs).cs full'→Same cs full (evs P ops W b base.length base os l cs fs bs).cs full'→Besides b b w w'→WO P ops Q base rest (evs P ops W b base.length base os l cs fs bs).l w') →
 WO P ops Q base (os++rest) l w
 | [],_,_,_,_,w,full,_,_,_,hr,hK,h=>h w full (fun _=>rfl) hr hK (.refl _ _) (.refl ..)
 | o :: r,l,cs,fs,bs,w,full,hok,hf,hb,hr,hK,h=>by
   unfold evs at hok hf hb h
   split at hok
   case h_2 hw =>
    simp only[hw] at hf hb h
    split at hok
    · rename_i d hd
      simp only[hd] at hf hb h
      cases hn:Nat.blt d base.length<;>rw[hn] at hok
      · cases hok
      · simp only[hn,cond_true] at hf hb h
        have:=QBA r _ cs fs bs w full hok hf hb hr hK fun w' full' ha=>h w' full' fun hx=>ha (by simp only[List.all_cons,Bool.and_eq_true] at hx;exact hx.2)
        exact⟨fun hi=>QCO d hd (J2 hw hi) (by rw[Qa];exact this.h ⟨by simpa [Nat.blt_eq] using hn,hi⟩)⟩
    · cases hok
   case h_3=>cases hok
   case h_1 hw =>
   simp only[hw] at hf hb h
   split at hok
   · rename_i e he
     simp only[he] at hf hb h
     have hm:=QDq r e.l e.cs (e.fs++fs) (e.bs++bs) hok
     refine QFz hw he (fun x hx=>hf x (hm.1 x (List.mem_append_left _ hx))) (fun x hx=>hb x (hm.2 x (List.mem_append_left _ hx))) hr hK fun w1 full1 h1 _ hr1 hK1 hs1 hb1=>?_
     refine QBA r e.l e.cs (e.fs++fs) (e.bs++bs) w1 full1 hok hf hb hr1 hK1 fun w2 full2 h2 hr2 hK2 hs2 hb2=>h w2 full2 (fun ha=>?_) hr2 hK2 (hs1.trans hs2) (hb1.trans hb2)
     simp only[List.all_cons,Bool.and_eq_true] at ha
     rw[h2 ha.2,h1 ha.1]
   · cases hok
theorem Q1 {α:Type}:∀ {l:List (α×α)},l.map (·.1)=l.map (·.2)→∀ x∈l,x.1=x.2
 | y :: r,h,x,hx=>by
   simp only[List.map_cons,List.cons.injEq] at h
   rcases List.mem_cons.1 hx with e|e
   · subst e;exact h.1
   · exact Q1 h.2 x e
def okE (E:Ev)(cs:Xf):Prop:=(E.ok,E.cs,E.fs.map (·.1),E.bs.map (·.1))=(true,cs,E.fs.map (·.2),E.bs.map (·.2))
theorem QGu {W:World}(n:Nat){cs':Xf} {full:Array Value}(hr:Row w b ty full)(hK:Kn cs full)(hk:okE (evs P ops W b base.length base (rest.take n) l cs [] []) cs')
 (h:∀ w' full',((rest.take n).all zC=true→w'=w)→Row w' b ty full'→Kn cs' full'→Same cs full cs' full'→Besides b b w w'→WO P ops Q base (rest.drop n) (evs P ops W b base.length base (rest.take n) l cs [] []).l w'):WO P ops Q base rest l w:=by
 simp only[okE,Prod.mk.injEq] at hk
 obtain⟨h1,h2,h3,h4⟩:=hk
 have:=QBA (ops:=ops) (Q:=Q) (rest:=rest.drop n) (ty:=ty) (rest.take n) l cs [] [] w full h1 (Q1 h3) (Q1 h4) hr hK (fun w' f a b c d=>h w' f a b (by rw[←h2];exact c) (by rw[←h2];exact d))
 rwa [List.take_append_drop] at this
theorem QDs {W:World} {cs':Xf} {full:Array Value}(hr:Row w b ty full)(hK:Kn cs full)(hk:okE (evs P ops W b base.length base rest l cs [] []) cs')
 (h:∀ w' full',(rest.all zC=true→w'=w)→Row w' b ty full'→Kn cs' full'→Same cs full cs' full'→Besides b b w w'→WO P ops Q base [] (evs P ops W b base.length base rest l cs [] []).l w'):WO P ops Q base rest l w:=by
 simp only[okE,Prod.mk.injEq] at hk
 obtain⟨h1,h2,h3,h4⟩:=hk
 have:=QBA (ops:=ops) (Q:=Q) (rest:=[]) (ty:=ty) rest l cs [] [] w full h1 (Q1 h3) (Q1 h4) hr hK (fun w' f a b c d=>h w' f a b (by rw[←h2];exact c) (by rw[←h2];exact d))
 rwa [List.append_nil] at this
theorem JB {c:Code}(h:CO P c Q base [] w):c.wp P Q { tmps:=base.toArray,defers:=[] } w:=h.h trivial
theorem coR {id:Nat} {l0:List Oper} {y:Code}(h:WO P l0.toArray (Exit.then (y.wp P Q) Q) base l0 l w):CO P (.seq (.region id l0.toArray false) y) Q base l w:=⟨fun hi=>wp_seq (JD (h.h hi))⟩
theorem coZ {id:Nat} {l0:List Oper}(h:WO P l0.toArray Q base l0 l w):CO P (.region id l0.toArray false) Q base l w:=⟨fun hi=>JD (h.h hi)⟩
theorem coS {x y:Code}(h:CO P x (Exit.then (y.wp P Q) Q) base l w):CO P (.seq x y) Q base l w:=⟨fun hi=>wp_seq (h.h hi)⟩
theorem woE (h:EO Q .normal base l w):WO P ops Q base [] l w:=⟨fun hi=>JS (h.h hi)⟩
theorem JC (h:EO Q .normal base l w):CO P .skip Q base l w:=⟨fun hi=>wp_skip (h.h hi)⟩
theorem JF (h:EO Q .ret base l w):CO P .ret Q base l w:=⟨fun hi=>wp_ret (h.h hi)⟩
theorem coX {id:Nat}(h:EO Q (.exit id) base l w):CO P (.exit id) Q base l w:=⟨fun hi=>wp_exit (h.h hi)⟩
theorem coB {id:Nat} {c:Code}(h:CO P c (Exit.inBlock id Q) base l w):CO P (.block id c) Q base l w:=⟨fun hi=>wp_block (h.h hi)⟩
theorem coI (t:Bool){c:Operand} {x y:Code}(ht:t=true→CO P x Q base l w)(hf:t=false→CO P y Q base l w)(hc:evO base l c=.bool t:=by kernel_rfl):CO P (.cond c x y) Q base l w :=
 ⟨fun hi=>wp_cond_split (by rw[QH hi];exact hc) (fun e=>(ht e).h hi) fun e=>(hf e).h hi⟩
theorem coT {c:Operand} {x y:Code}(ht:CO P x Q base l w)(hc:evO base l c=.bool true:=by kernel_rfl):CO P (.cond c x y) Q base l w:=⟨fun hi=>wp_cond_true (by rw[QH hi];exact hc) (ht.h hi)⟩
theorem coF {c:Operand} {x y:Code}(ht:CO P y Q base l w)(hc:evO base l c=.bool false:=by kernel_rfl):CO P (.cond c x y) Q base l w:=⟨fun hi=>wp_cond_false (by rw[QH hi];exact hc) (ht.h hi)⟩
theorem coJ (t:Bool){c:Operand} {x y:Code}(hf:t=false→False)(ht:t=true→CO P x Q base l w)(hc:evO base l c=.bool t:=by kernel_rfl):CO P (.cond c x y) Q base l w:=coI t ht (fun e=>(hf e).elim) hc
theorem coK (t:Bool){c:Operand} {x y:Code}(ht:t=true→False)(hf:t=false→CO P y Q base l w)(hc:evO base l c=.bool t:=by kernel_rfl):CO P (.cond c x y) Q base l w:=coI t (fun e=>(ht e).elim) hf hc
theorem eoT {y:Code}(h:CO P y Q base l w):EO (Exit.then (y.wp P Q) Q) .normal base l w:=⟨fun hi=>h.h hi⟩
theorem QTF {K:Act→World→Prop} {y:Code}(hK:∀ a w,y.wp P Q a w→K a w)(h:CO P y Q base l w):EO (Exit.then K Q) .normal base l w:=⟨fun hi=>hK _ _ (h.h hi)⟩
theorem Jp {N:Act→World→Prop}(h:EO Q .ret base l w):EO (Exit.then N Q) .ret base l w:=⟨fun hi=>h.h hi⟩
theorem QMP {N:Act→World→Prop} {i:Nat}(h:EO Q (.exit i) base l w):EO (Exit.then N Q) (.exit i) base l w:=⟨fun hi=>h.h hi⟩
theorem eoB {i:Nat}(h:EO Q .normal base l w):EO (Exit.inBlock i Q) .normal base l w:=⟨fun hi=>h.h hi⟩
theorem Z3 {i:Nat}(h:EO Q .ret base l w):EO (Exit.inBlock i Q) .ret base l w:=⟨fun hi=>h.h hi⟩
theorem QR3 {i:Nat}(h:EO Q .normal base l w):EO (Exit.inBlock i Q) (.exit i) base l w:=⟨fun hi=>by simp only[Exit.inBlock,if_true];exact h.h hi⟩
theorem eoV {fn:Func} {R:Ending→World→Prop}(hR:R (.returned (.tuple #[])) w)(h:fn.results=#[]:=by exact rfl):EO (bodyPost P fn R) .normal base l w:=⟨fun hi=>bodyPost_end (results_none h _ _ _) rfl hR⟩
theorem qx {fn:Func} {R:Ending→World→Prop}(hR:R (.returned (.tuple #[])) w)(h:fn.results=#[]:=by exact rfl):EO (bodyPost P fn R) .ret base l w:=⟨fun hi=>bodyPost_ret (results_none h _ _ _) rfl hR⟩
theorem Jj {fn:Func} {R:Ending→World→Prop} {t:Tmp}(V:Value)(hR:R (.returned V) w)(h:fn.results=#[.tmp t]:=by exact rfl)(hv:lkO base t l=V:=by kernel_rfl):EO (bodyPost P fn R) .ret base l w :=
 ⟨fun hi=>bodyPost_ret (by rw[results_tmp h,show (X7 base l).tmps.getD t undef=V from (congrFun (QH hi) (.tmp t)).trans hv]) rfl hR⟩
theorem QCd {g:FuncId} {args:Array Value} {R:Ending→World→Prop}(hg:QA ops base.length base l o=some true)(he:(execOp (evO base l) o).run P w=.ok (.enter g args) w)(hd:XH o.dst base.length=true)(hc:Calls P g args w R)
 (h:∀ e w',R e w'→match e with
   | .returned v=>WO P ops Q base rest (XL o.dst v l) w'
   | .panicked c=>EO Q (.panic c) base l w'
   | .outgrown=>False):WO P ops Q base (o :: rest) l w :=
 ⟨fun hi=>Q9 (J2 hg hi) (by rw[QH hi];exact he) hc fun e w' hR=>by
  have:=h e w' hR
  cases e with
  | returned v=>dsimp only;rw[Qa];exact this.h (jZ hd hi)
  | panicked c=>exact this.h hi
  | outgrown=>exact this⟩
theorem kO {V:Value} {g:FuncId} {args:Array Value} {N:World→Prop}(hc:Calls P g args w fun e w'=>e=.returned V∧N w')(h:∀ w',N w'→WO P ops Q base rest (XL o.dst V l) w')
 (hg:QA ops base.length base l o=some true:=by kernel_rfl)(he:(execOp (evO base l) o).run P w=.ok (.enter g args) w:=by kernel_rfl)(hd:XH o.dst base.length=true:=by kernel_rfl):WO P ops Q base (o :: rest) l w :=
 QCd hg he hd hc fun e w' ⟨h1,h2⟩=>by subst h1;exact h w' h2
theorem kE {V:Value} {g:FuncId} {args:Array Value}(hc:Calls P g args w fun e w'=>e=.returned V∧w=w')(h:WO P ops Q base rest (XL o.dst V l) w)
 (hg:QA ops base.length base l o=some true:=by kernel_rfl)(he:(execOp (evO base l) o).run P w=.ok (.enter g args) w:=by kernel_rfl)(hd:XH o.dst base.length=true:=by kernel_rfl):WO P ops Q base (o :: rest) l w :=
 kO hc (fun w' e=>by rw[←e];exact h) hg he hd
theorem w1 (d:Nat)(V:Value)(he:(execOp (evO base l) o).run P w=.ok (.value V) w)(h:WO P ops Q base rest ((d,V) :: l) w)(hd:o.dst=some d:=by exact rfl)(hg:QA ops base.length base l o=some true:=by kernel_rfl)(hn:Nat.blt d base.length=true:=by kernel_rfl):WO P ops Q base (o :: rest) l w :=
 step1 hd hg hn he h
theorem QRa {ρ:Operand→Value} {x y:Operand} {V W R:Value} {op:BinOp} {t r:TypeId}(ho:o.op=.binOp op t x y r)(hx:ρ x=V)(hy:ρ y=W)(hg:∀ w,(eqGuard op t x y V W).run P w=.ok () w)(hb:∀ w,(binOp op t V W).run P w=.ok R w)(w:World):(execOp ρ o).run P w=.ok (.value R) w:=by
 unfold execOp
 simp only[ho,hx,hy,Sem.run_bind,Sem.run_pure,hg,hb,Result.andThen_ok]
theorem QKZ (d:Nat){x y:Operand} {V W R:Value} {op:BinOp} {t r:TypeId}(hgd:∀ w,(eqGuard op t x y V W).run P w=.ok () w)(hb:∀ w,(binOp op t V W).run P w=.ok R w)(h:WO P ops Q base rest ((d,R) :: l) w)
 (ho:o.op=.binOp op t x y r:=by exact rfl)(hx:evO base l x=V:=by kernel_rfl)(hy:evO base l y=W:=by kernel_rfl)(hd:o.dst=some d:=by exact rfl)(hg:QA ops base.length base l o=some true:=by kernel_rfl)(hn:Nat.blt d base.length=true:=by kernel_rfl):WO P ops Q base (o :: rest) l w :=
 step1 hd hg hn (QRa ho hx hy hgd hb w) h
theorem kBj (d:Nat){x y:Operand}(V W R:Value){op:BinOp} {t r:TypeId}(hgd:∀ w,(eqGuard op t x y V W).run P w=.ok () w)(hb:∀ w,(binOp op t V W).run P w=.ok R w)(h:WO P ops Q base rest ((d,R) :: l) w)
 (ho:o.op=.binOp op t x y r:=by exact rfl)(hx:evO base l x=V:=by kernel_rfl)(hy:evO base l y=W:=by kernel_rfl)(hd:o.dst=some d:=by exact rfl)(hg:QA ops base.length base l o=some true:=by kernel_rfl)(hn:Nat.blt d base.length=true:=by kernel_rfl):WO P ops Q base (o :: rest) l w :=
 step1 hd hg hn (QRa ho hx hy hgd hb w) h
theorem tell (d:Nat){c b:Bool}(e:c=b)(h:WO P ops Q base rest ((d,.bool b) :: l) w)(hv:lkO base d l=.bool c:=by kernel_rfl)(hn:Nat.blt d base.length=true:=by kernel_rfl):WO P ops Q base rest l w :=
 ⟨fun hi=>by
  have hlt:d < base.length:=by simpa [Nat.blt_eq] using hn
  have:=h.h ⟨hlt,hi⟩
  have e2:X7 base ((d,.bool b) :: l)=X7 base l:=by
   have e3:(ovO base l).set d (.bool b)=ovO base l:=by
    rw[←e,←hv,←QD6 d hi,List.getD_eq_getElem?_getD,List.getElem?_eq_getElem (by rw[jX];exact hlt)]
    exact List.set_getElem_self _
   show (⟨((ovO base l).set d (.bool b)).toArray,[]⟩:Act)=⟨(ovO base l).toArray,[]⟩
   rw[e3]
  rwa [e2] at this⟩
theorem wT {y:Code}(h:CO P y Q base l w):WO P ops (Exit.then (y.wp P Q) Q) base [] l w:=woE (eoT h)
structure PO (P:Program)(ops:Array Oper)(Q:Exit→Act→World→Prop)(S:World→Prop)(n:Nat)(base:List Value)(f:Nat)(listed:Array Bool)(l:J0)(w:World):Prop where
 h:inO base.length l→Zc P ops Q S n f listed (X7 base l) w
variable {S:World→Prop}
theorem coP (n:Nat){id:Nat} {y:Code}(hS:S w.drew)(h:PO P ops (Exit.then (y.wp P Q) Q) S n base n (Array.replicate ops.size false) l w.drew)
 (hB:Q0 ops n=true:=by kernel_rfl)(hm:P.follows .mixedOrders=true:=by kernel_rfl):CO P (.seq (.region id ops true) y) Q base l w :=
 ⟨fun hi=>wp_seq (qW n S hm hB hS fun w' e _=>by subst e;exact h.h hi)⟩
theorem QRT (n:Nat){id:Nat}(hS:S w.drew)(h:PO P ops Q S n base n (Array.replicate ops.size false) l w.drew)
 (hB:Q0 ops n=true:=by kernel_rfl)(hm:P.follows .mixedOrders=true:=by kernel_rfl):CO P (.region id ops true) Q base l w :=
 ⟨fun hi=>qW n S hm hB hS fun w' e _=>by subst e;exact h.h hi⟩
def atO (ops:Array Oper):List Nat→List Oper
 | []=>[]
 | i :: r=>match ops[i]? with|some o=>o :: atO ops r|none=>[]
def QEE (ops:Array Oper)(n:Nat):List Nat→Array Bool→Bool
 | [],_=>true
 | i :: r,listed=>(ops[i]?).isSome&&(decide (i < n)&&(Region.free .any ops listed i&&((Region.ready .any ops listed).contains i&&QEE ops n r (listed.setIfInBounds i true))))
def QKm:List Nat→Array Bool→Array Bool
 | [],listed=>listed
 | i :: r,listed=>QKm r (listed.setIfInBounds i true)
theorem QAK {W:World} {n:Nat}(hB:Q0 ops n=true)(hQ:∀ d v c a w,Q (.panic c) (a.put d v) w→Q (.panic c) a w)(hRow:∀ w,S w→∃ full,Row w b ty full∧Kn cs full) :
 ∀ (is:List Nat) (f:Nat) (listed:Array Bool) (l:J0) (fs bs) (w:World),(evs P ops W b base.length base (atO ops is) l cs fs bs).ok=true →
 (∀ x∈(evs P ops W b base.length base (atO ops is) l cs fs bs).fs,x.1=x.2)→(∀ x∈(evs P ops W b base.length base (atO ops is) l cs fs bs).bs,x.1=x.2) →
 (atO ops is).all zC=true→QEE ops n is listed=true→S w →
 PO P ops Q S n base f (QKm is listed) (evs P ops W b base.length base (atO ops is) l cs fs bs).l w→PO P ops Q S n base (f+is.length) listed l w
 | [],f,listed,l,fs,bs,w,_,_,_,_,_,_,h=>h
 | i :: r,f,listed,l,fs,bs,w,hok,hf,hb,ha,ho,hS,h=>by
   simp only[QEE,Bool.and_eq_true] at ho
   obtain⟨h1,h2,h3,h4,h5⟩:=ho
   obtain⟨o,hoi⟩:=Option.isSome_iff_exists.1 h1
   have hat:atO ops (i :: r)=o :: atO ops r:=by rw[atO,hoi]
   rw[hat] at hok hf hb ha h
   simp only[List.all_cons,Bool.and_eq_true] at ha
   unfold evs at hok hf hb h
   split at hok
   case h_2 hw =>
    simp only[hw] at hf hb h
    split at hok
    · rename_i d hd
      simp only[hd] at hf hb h
      cases hn:Nat.blt d base.length<;>rw[hn] at hok
      · cases hok
      · simp only[hn,cond_true] at hf hb h
        have:=QAK hB hQ hRow r f (listed.setIfInBounds i true) _ fs bs w hok hf hb ha.2 h5 hS h
        refine⟨fun hi=>QGT d hd hoi hB h2 h3 h4 (by rw[hd];exact hQ (some d) undef) (J2 hw hi) hS ?_⟩
        rw[Qa]
        exact this.h ⟨by simpa [Nat.blt_eq] using hn,hi⟩
    · cases hok
   case h_3=>cases hok
   case h_1 hw =>
   simp only[hw] at hf hb h
   split at hok
   · rename_i e he
     simp only[he] at hf hb h
     have hm:=QDq (atO ops r) e.l e.cs (e.fs++fs) (e.bs++bs) hok
     obtain⟨d,v,hd,hn,el,ec,hv⟩:=QLI (ty:=ty) he ha.1 (fun x hx=>hf x (hm.1 x (List.mem_append_left _ hx))) (fun x hx=>hb x (hm.2 x (List.mem_append_left _ hx)))
     rw[ec] at hok hf hb h
     have:=QAK hB hQ hRow r f (listed.setIfInBounds i true) e.l (e.fs++fs) (e.bs++bs) w hok hf hb ha.2 h5 hS h
     rw[el] at this
     refine⟨fun hi=>Zy d v hd hoi hB h2 h3 h4 (by rw[hd];exact hQ (some d) v) (J2 hw hi) (fun w' hs=>?_) hS ?_⟩
     · obtain⟨full,hr,hk⟩:=hRow w' hs
       rw[QH hi]
       exact hv w' full hr hk
     · rw[Qa]
       exact this.h ⟨by simpa [Nat.blt_eq] using hn,hi⟩
   · cases hok
theorem QHP {n i f:Nat} {listed:Array Bool} {g:FuncId} {args:Array Value} {R:Ending→World→Prop}(ho:ops[i]? = some o)(hr:Region.ready .any ops listed=[i])(hin:decide (i < n)=true)
 (hw:QA ops base.length base l o=some true)(he:(execOp (evO base l) o).run P w=.ok (.enter g args) w)(hd:XH o.dst base.length=true)(hc:Calls P g args w R)
 (h:∀ e w',R e w'→match e with
   | .returned v=>S w'∧PO P ops Q S n base f (listed.setIfInBounds i true) (XL o.dst v l) w'
   | .panicked c=>EO Q (.panic c) base l w'
   | .outgrown=>False):PO P ops Q S n base (f+1) listed l w :=
 ⟨fun hi=>QMX ho hr hin (J2 hw hi) (by rw[QH hi];exact he) hc fun e w' hR=>by
  have:=h e w' hR
  cases e with
  | returned v=>dsimp only;rw[Qa];exact⟨this.1,this.2.h (jZ hd hi)⟩
  | panicked c=>exact this.h hi
  | outgrown=>exact this⟩
theorem poE {n:Nat} {listed:Array Bool}(h:WO P ops Q base (ops.toList.drop n) l w)(hB:Region.seqB .any ops (ops.size-n) n listed=true:=by kernel_rfl):PO P ops Q S n base 0 listed l w:=⟨fun hi=>QB4 hB (h.h hi)⟩
theorem QT6 {d:Nat} {c b:Bool}(e:c=b)(hv:lkO base d l=.bool c)(hn:Nat.blt d base.length=true)(hi:inO base.length l):X7 base ((d,.bool b) :: l)=X7 base l:=by
 have hlt:d < base.length:=by simpa [Nat.blt_eq] using hn
 have e3:(ovO base l).set d (.bool b)=ovO base l:=by
  rw[←e,←hv,←QD6 d hi,List.getD_eq_getElem?_getD,List.getElem?_eq_getElem (by rw[jX];exact hlt)]
  exact List.set_getElem_self _
 show (⟨((ovO base l).set d (.bool b)).toArray,[]⟩:Act)=⟨(ovO base l).toArray,[]⟩
 rw[e3]
theorem Zw {n f:Nat} {listed:Array Bool}(d:Nat){c b:Bool}(e:c=b)(h:PO P ops Q S n base f listed ((d,.bool b) :: l) w)(hv:lkO base d l=.bool c:=by kernel_rfl)(hn:Nat.blt d base.length=true:=by kernel_rfl):PO P ops Q S n base f listed l w :=
 ⟨fun hi=>by
  have:=h.h ⟨by simpa [Nat.blt_eq] using hn,hi⟩
  rwa [QT6 e hv hn hi] at this⟩
end
end Go.Proofs.YtkenebbjodcbcaaGreatDoor
