/- Contracts and facts that the claim's proof wants (several texts in one). -/
import Derived.WalkKit
import Derived.Test.YtkenebbjodcbcaaGreatDoorChecked
import Derived.WalkLawsBesides
import Derived.WalkSpells
import Derived.Outline
import Derived.Laws.BitsAllLaws
import Derived.Laws.BitsLemmas
import Derived.LoopTactic
import Derived.Lib.Hide
import Derived.RangeFuncNested
import Derived.RangeFuncBound
import Derived.RangeFuncCalls
import Derived.RangeFuncLeaves
import Derived.Shelf.Abstract
import Derived.Shelf.RegionOpen
import Derived.OwnWalkIn
import Derived.TacticsInMore
import Derived.LoopNIn
import Derived.LoopIn
import Derived.RangeFuncBox
import Derived.Handy
import Derived.ChangeKeysEq
namespace Go.Proofs.YtkenebbjodcbcaaGreatDoor
open Go.RowKit
set_option linter.unusedVariables false
set_option linter.unusedSimpArgs false
set_option maxRecDepth 20000
set_option maxHeartbeats 20000000
def isM (b n:Int):Bool:=decide (0≤n)&&(decide (n < 8)&&decide (b / 2 ^ n.toNat%2=1))
def JQ (b n:Int)(on:Bool):Int:=if 0≤n∧n < 8 then (if isM b n then (if on then b else b-2 ^ n.toNat) else (if on then b+2 ^ n.toNat else b)) else b
def Qp (b:Int):Nat→Int
 | 0=>0
 | k+1=>Qp b k+if isM b k then 1 else 0
def jj (b:Int):Bool:=Qp b 8%2==0
def JR (b:Int):Int:=if b < 128 then b else b-256
def QAV (b by_:Int):Nat→Int
 | 0=>0
 | k+1=>QAV b by_ k+if isM b k then 2 ^ (((k:Int)+by_)%8).toNat else 0
def Xk (b by_:Int):Int:=QAV b by_ 8
def Qd (b:Int)(k:Nat):List (Fin 8):=((List.finRange 8).take k).filter (fun n=>isM b (n.val:Int))
theorem QGg (b:Int)(k:Nat)(h:k < 8)(y:isM b (k:Int)=true):Qd b (k+1)=Qd b k++[⟨k,h⟩]:=by
 unfold Qd
 rw[List.take_succ_eq_append_getElem (by simpa using h),List.filter_append]
 simp[y]
theorem QIl (b:Int)(k:Nat)(h:k < 8)(y:isM b (k:Int)=false):Qd b (k+1)=Qd b k:=by
 unfold Qd
 rw[List.take_succ_eq_append_getElem (by simpa using h),List.filter_append]
 simp[y]
theorem QDi (b:Int)(k:Nat):(Qd b k).length≤k:=by
 unfold Qd
 exact Nat.le_trans (List.length_filter_le _ _) (List.length_take_le _ _)
theorem QB {P:Int→Prop}(h:∀ x:Fin 256,P (x.val:Int))(b:Int)(h0:0≤b)(h1:b≤255):P b:=by
 have:=h ⟨b.toNat,by omega⟩
 simpa [Int.toNat_of_nonneg h0] using this
theorem QA4 {P:Int→Prop}(h:∀ x:Fin 8,P (x.val:Int))(n:Int)(h0:0≤n)(h1:n < 8):P n:=by
 have:=h ⟨n.toNat,by omega⟩
 simpa [Int.toNat_of_nonneg h0] using this
def zV (l:List (Fin 8)):Bool:=l.foldl (fun e _=>!e) true
def X9 (left:Int)(l:List (Fin 8)):Int:=l.foldl (fun t n=>JQ t (((n.val:Int)+left)%8) true) 0
theorem QG0 (b:Int)(h0:0≤b)(h1:b≤255):zV (Qd b 8)=jj b :=
 QB (P:=fun b=>zV (Qd b 8)=jj b) (by decide +kernel) b h0 h1
theorem QEd (b by_:Int):∀ k,QAV b by_ k=QAV b (by_%8) k
 | 0=>rfl
 | k+1=>by
   have e:((k:Int)+by_%8)%8=((k:Int)+by_)%8:=by omega
   simp only[QAV,QEd b by_ k,e]
theorem QGw:∀ (x:Fin 256) (y:Fin 8),X9 (y.val:Int) (Qd (x.val:Int) 8)=Xk (x.val:Int) (y.val:Int):=by decide +kernel
theorem QHl (b by_:Int)(h0:0≤b)(h1:b≤255):X9 (by_%8) (Qd b 8)=Xk b by_:=by
 unfold Xk
 rw[QEd]
 exact QA4 (P:=fun y=>X9 y (Qd b 8)=Xk b y) (fun y=>QB (P:=fun b=>X9 (y.val:Int) (Qd b 8)=Xk b (y.val:Int)) (fun x=>QGw x y) b h0 h1) (by_%8) (by omega) (by omega)
theorem QMw:∀ (x:Fin 256) (y:Fin 8),0≤Xk (x.val:Int) (y.val:Int)∧Xk (x.val:Int) (y.val:Int)≤255:=by decide +kernel
theorem Xa (b by_:Int)(h0:0≤b)(h1:b≤255):0≤Xk b by_∧Xk b by_≤255:=by
 unfold Xk
 rw[QEd]
 exact QA4 (P:=fun y=>0≤Xk b y∧Xk b y≤255) (fun y=>QB (P:=fun b=>0≤Xk b (y.val:Int)∧Xk b (y.val:Int)≤255) (fun x=>QMw x y) b h0 h1) (by_%8) (by omega) (by omega)
theorem QMN:∀ (x:Fin 256) (y:Fin 8) (on:Bool),0≤JQ (x.val:Int) (y.val:Int) on∧JQ (x.val:Int) (y.val:Int) on≤255:=by decide +kernel
theorem QBR (b n:Int)(on:Bool)(h0:0≤b)(h1:b≤255):0≤JQ b n on∧JQ b n on≤255:=by
 by_cases h:0≤n∧n < 8
 · exact QA4 (P:=fun y=>0≤JQ b y on∧JQ b y on≤255) (fun y=>QB (P:=fun b=>0≤JQ b (y.val:Int) on∧JQ b (y.val:Int) on≤255) (fun x=>QMN x y on) b h0 h1) n h.1 h.2
 · unfold JQ;rw[if_neg h];exact⟨h0,h1⟩
def B8 (x:Int):Prop:=0≤x∧x≤255
theorem B8.lo {b:Int}(h:B8 b):0≤b:=h.1
theorem B8.hi {b:Int}(h:B8 b):b≤255:=h.2
theorem B8.with {b:Int}(h:B8 b)(n:Int)(on:Bool):B8 (JQ b n on):=QBR b n on h.1 h.2
theorem B8.zero:B8 0:=⟨by omega,by omega⟩
def mkM (b0 b1 b2 b3 b4 b5 b6 b7:Bool):Int :=
 JQ (JQ (JQ (JQ (JQ (JQ (JQ (JQ 0 7 b0) 6 b1) 5 b2) 4 b3) 3 b4) 2 b5) 1 b6) 0 b7
theorem QW (b0 b1 b2 b3 b4 b5 b6 b7:Bool):B8 (mkM b0 b1 b2 b3 b4 b5 b6 b7) :=
 (((((((B8.zero.with 7 b0).with 6 b1).with 5 b2).with 4 b3).with 3 b4).with 2 b5).with 1 b6).with 0 b7
theorem Xv:∀ b0 b1 b2 b3 b4 b5 b6 b7:Bool,isM (mkM b0 b1 b2 b3 b4 b5 b6 b7) 7=b0∧isM (mkM b0 b1 b2 b3 b4 b5 b6 b7) 6=b1∧isM (mkM b0 b1 b2 b3 b4 b5 b6 b7) 5=b2∧isM (mkM b0 b1 b2 b3 b4 b5 b6 b7) 4=b3 ∧
 isM (mkM b0 b1 b2 b3 b4 b5 b6 b7) 3=b4∧isM (mkM b0 b1 b2 b3 b4 b5 b6 b7) 2=b5∧isM (mkM b0 b1 b2 b3 b4 b5 b6 b7) 1=b6∧isM (mkM b0 b1 b2 b3 b4 b5 b6 b7) 0=b7:=by decide +kernel
def Z4 (f cond:Int):Bool :=
 if cond=0 then !isM f 6 else if cond=1 then isM f 6 else if cond=2 then !isM f 0 else if cond=3 then isM f 0 else
 if cond=4 then !isM f 2 else if cond=5 then isM f 2 else if cond=6 then !isM f 7 else if cond=7 then isM f 7 else false
def JE (r:Int):Int:=mkM (isM r 7) (r==0) (isM r 5) false (isM r 3) false false false
def Jn (r:Int):Int:=mkM (isM r 7) (r==0) (isM r 5) false (isM r 3) (jj r) false false
def sel (m a b:Bool):Bool:=if m then b else a
def Xc (f old mask:Int):Int :=
 mkM (sel (isM mask 7) (isM f 7) (isM old 7)) (sel (isM mask 6) (isM f 6) (isM old 6)) (sel (isM mask 5) (isM f 5) (isM old 5)) (sel (isM mask 4) (isM f 4) (isM old 4))
  (sel (isM mask 3) (isM f 3) (isM old 3)) (sel (isM mask 2) (isM f 2) (isM old 2)) (sel (isM mask 1) (isM f 1) (isM old 1)) (sel (isM mask 0) (isM f 0) (isM old 0))
theorem J7 (r:Int):B8 (JE r):=QW ..
theorem Jz (r:Int):B8 (Jn r):=QW ..
theorem QKQ (f old mask:Int):B8 (Xc f old mask):=QW ..
def fx (c:Int):Int:=c / 64
def fy (c:Int):Int:=c / 8%8
def fz (c:Int):Int:=c%8
def fp (c:Int):Int:=c / 16%4
def fq (c:Int):Int:=c / 8%2
def QKU (x y z:Int):Bool:=if x=0 then z==6||(z==0&&decide (2≤y)) else x==3&&(z==6||(z==3&&(y==2||y==3)))
def twoB (x y z p q:Int):Bool:=if x=0 then (z==1&&q==0)||(z==2&&decide (4≤y)) else x==3&&(z==2||(z==3&&y==0)||z==4||(z==5&&q==1&&p==0))
def QLM (c:Int):Int:=if QKU (fx c) (fy c) (fz c) then 1 else if twoB (fx c) (fy c) (fz c) (fp c) (fq c) then 2 else 0
def QK6 (c:Int):Int:=if fx c=1∧fz c=3 then 2 else 0
def QGB (plane c:Int):Int:=if plane=0∨plane=3∨plane=4 then QLM c else if plane=2 then QK6 c else 0
def j0 (c:Int):Bool:=if fx c=0 then fy c==6&&(decide (4≤fz c)&&decide (fz c≤6)) else if fx c=1 then (fy c==6) != (fz c==6) else if fx c=2 then fz c==6 else false
def qv (plane:Int):Bool:=plane==5||plane==6
def XT (plane c:Int):Bool:=if plane=3∨plane=4 then j0 c else qv plane
theorem QNU (c:Int):0≤QLM c∧QLM c≤2:=by
 unfold QLM
 split
 · omega
 · split<;>omega
theorem QOz (c:Int):0≤QK6 c∧QK6 c≤2:=by
 unfold QK6
 split<;>omega
theorem QJS (plane c:Int):0≤QGB plane c∧QGB plane c≤2:=by
 have h1:=QNU c
 have h2:=QOz c
 unfold QGB
 split
 · exact h1
 · split
   · exact h2
   · omega
structure OpM where
 plane:Int
 code:Int
 disp:Int
 imm:Int
 len:Int
 skip:Int
def gb (xs:List Int)(i:Nat):Int:=xs.getD i 0
def QAN (c:Int):Bool:=c==221||c==253
def lead:List Int→Nat
 | []=>0
 | x :: xs=>if QAN x then lead xs+1 else 0
def QDj (xs:List Int)(m:Nat):Int:=if m=0 then 0 else if gb xs (m-1)=221 then 3 else 4
def QRV (p:Int):Int:=if p=3 then 5 else if p=4 then 6 else 1
def QAI (p c:Int):Int:=if c=203 then QRV p else if c=237 then 2 else p
def QIp (g:Nat→Int)(m:Nat)(p:Int):Int:=if qv (QAI p (g m)) then g (m+2) else if g m=203∨g m=237 then g (m+1) else g m
def QTb (g:Nat→Int)(m:Nat)(p:Int):Int:=if qv (QAI p (g m)) then g (m+1) else if g m=203∨g m=237 then 0 else if XT p (g m) then g (m+1) else 0
def QTZ (p s c:Int):Int:=if c=237∧p≠0 then s+1 else s
def QCN (g:Nat→Int)(m:Nat)(p:Int):Nat:=if qv (QAI p (g m)) then m+3 else if g m=203∨g m=237 then m+2 else if XT p (g m) then m+2 else m+1
def immM (g:Nat→Int)(r:Nat)(n:Int):Int:=if n=0 then 0 else if n=1 then g r else 256*g (r+1)+g r
def opAt (g:Nat→Int)(m:Nat)(p s:Int):OpM :=
 let q:=QAI p (g m)
 let c:=QIp g m p
 let r:=QCN g m p
 let n:=QGB q c
 ⟨q,c,QTb g m p,immM g r n,(r:Int)+n,QTZ p s (g m)⟩
def QQy (xs:List Int):OpM:=opAt (gb xs) (lead xs) (QDj xs (lead xs)) ((lead xs-1:Nat):Int)
def lenOf (xs:List Int):Nat:=(QQy xs).len.toNat
def okM (xs:List Int):Bool:=decide (lenOf xs≤xs.length)
def Bytes8 (xs:List Int):Prop:=∀ x∈xs,B8 x
theorem QND (g:Nat→Int)(m:Nat)(p:Int):m+1≤QCN g m p∧QCN g m p≤m+3:=by
 unfold QCN;split<;>(try split)<;>(try split)<;>omega
theorem QNc (xs:List Int):(QQy xs).len=(lenOf xs:Int):=by
 have k:=QJS (QAI (QDj xs (lead xs)) (gb xs (lead xs))) (QIp (gb xs) (lead xs) (QDj xs (lead xs)))
 have e:(QQy xs).len=(QCN (gb xs) (lead xs) (QDj xs (lead xs)):Int)+QGB (QAI (QDj xs (lead xs)) (gb xs (lead xs))) (QIp (gb xs) (lead xs) (QDj xs (lead xs))):=rfl
 unfold lenOf
 omega
theorem QIR (xs:List Int):lead xs < lenOf xs:=by
 have k:=QJS (QAI (QDj xs (lead xs)) (gb xs (lead xs))) (QIp (gb xs) (lead xs) (QDj xs (lead xs)))
 have e:(QQy xs).len=(QCN (gb xs) (lead xs) (QDj xs (lead xs)):Int)+QGB (QAI (QDj xs (lead xs)) (gb xs (lead xs))) (QIp (gb xs) (lead xs) (QDj xs (lead xs))):=rfl
 have h:=QND (gb xs) (lead xs) (QDj xs (lead xs))
 have:=QNc xs
 omega
theorem QFk (x:Int)(xs:List Int)(h:QAN x=true):lead (x :: xs)=lead xs+1:=by
 show (if QAN x then lead xs+1 else 0)=_
 rw[if_pos h]
theorem QHn (x:Int)(xs:List Int)(h:QAN x=false):lead (x :: xs)=0:=by
 show (if QAN x then lead xs+1 else 0)=_
 rw[h];rfl
structure Cy where
 kind:Int
 addr:Int
 data:Int
 t:Int
deriving DecidableEq
inductive Tr (α:Type) where
 | done (a:α):Tr α
 | ask (c:Cy) (k:Int→Tr α):Tr α
def Tr.bind {α β:Type}:Tr α→(α→Tr β)→Tr β
 | .done a,f=>f a
 | .ask c k,f=>.ask c (fun b=>(k b).bind f)
def Tr.run {α:Type}:Tr α→List Int→Except Cy (α×List Int)
 | .done a,xs=>.ok (a,xs)
 | .ask c _,[]=>.error c
 | .ask _ k,b :: bs=>(k b).run bs
theorem Tr.bind_done {α β:Type}(a:α)(f:α→Tr β):(Tr.done a).bind f=f a:=rfl
theorem Tr.run_done {α:Type}(a:α)(xs:List Int):(Tr.done a).run xs=.ok (a,xs):=by unfold Tr.run;rfl
theorem Tr.run_nil {α:Type}(c:Cy)(k:Int→Tr α):(Tr.ask c k).run []=.error c:=rfl
theorem Tr.run_cons {α:Type}(c:Cy)(k:Int→Tr α)(b:Int)(bs:List Int):(Tr.ask c k).run (b :: bs)=(k b).run bs:=rfl
theorem Tr.run_bind {α β:Type}(t:Tr α)(f:α→Tr β):∀ xs,(t.bind f).run xs=match t.run xs with|.ok (a,ys)=>(f a).run ys|.error c=>.error c:=by
 induction t with
 | done a=>intro xs;rw[Tr.run_done];rfl
 | ask c k ih =>
   intro xs
   cases xs with
   | nil=>rfl
   | cons b bs=>exact ih b bs
theorem Tr.run_bind_ok {α β:Type} {t:Tr α} {xs ys:List Int} {a:α}(h:t.run xs=.ok (a,ys))(f:α→Tr β):(t.bind f).run xs=(f a).run ys:=by rw[Tr.run_bind,h]
theorem Tr.run_bind_error {α β:Type} {t:Tr α} {xs:List Int} {c:Cy}(h:t.run xs=.error c)(f:α→Tr β):(t.bind f).run xs=.error c:=by rw[Tr.run_bind,h]
structure Zs where
 pos:Nat
 lacks:Bool
 asked:Cy
def Tr.runZ {α:Type}(xs:List Int):Tr α→Zs→α×Zs
 | .done a,z=>(a,z)
 | .ask c k,z=>if z.lacks then (k 0).runZ xs z else if xs.length≤z.pos then (k 0).runZ xs { z with lacks:=true,asked:=c } else (k (xs.getD z.pos 0)).runZ xs { z with pos:=z.pos+1 }
theorem Tr.runZ_bind {α β:Type}(xs:List Int)(t:Tr α)(f:α→Tr β):∀ z,(t.bind f).runZ xs z=(f (t.runZ xs z).1).runZ xs (t.runZ xs z).2:=by
 induction t with
 | done a=>intro z;rfl
 | ask c k ih =>
   intro z
   simp only[Tr.bind,Tr.runZ]
   split
   · exact ih _ _
   split
   · exact ih _ _
   · exact ih _ _
theorem Tr.runZ_lacks {α:Type}(xs:List Int)(t:Tr α):∀ z,z.lacks=true→(t.runZ xs z).2=z:=by
 induction t with
 | done a=>intro z _;rfl
 | ask c k ih =>
   intro z h
   simp only[Tr.runZ,h,if_true]
   exact ih _ _ h
theorem Tr.runZ_run {α:Type}(xs:List Int)(t:Tr α):∀ z,z.lacks=false→z.pos≤xs.length →
 match t.run (xs.drop z.pos) with
 | .ok (a,ys)=>(t.runZ xs z).1=a∧(t.runZ xs z).2.lacks=false∧(t.runZ xs z).2.asked=z.asked∧ys=xs.drop (t.runZ xs z).2.pos∧(t.runZ xs z).2.pos≤xs.length
 | .error c=>(t.runZ xs z).2.lacks=true∧(t.runZ xs z).2.asked=c:=by
 induction t with
 | done a=>intro z h hp;rw[Tr.run_done];exact⟨rfl,h,rfl,rfl,hp⟩
 | ask c k ih =>
   intro z h hp
   by_cases hl:xs.length≤z.pos
   · rw[show xs.drop z.pos=[] from List.drop_eq_nil_of_le hl,Tr.run_nil]
     simp only[Tr.runZ,h,hl,if_true,Bool.false_eq_true,if_false]
     rw[Tr.runZ_lacks _ _ _ rfl]
     exact⟨rfl,rfl⟩
   · have hlt:z.pos < xs.length:=by omega
     rw[List.drop_eq_getElem_cons hlt,Tr.run_cons]
     simp only[Tr.runZ,h,hl,if_false,Bool.false_eq_true]
     have e:xs.getD z.pos 0=xs[z.pos]:=by rw[List.getD_eq_getElem?_getD,List.getElem?_eq_getElem hlt];rfl
     rw[e]
     exact ih _ { z with pos:=z.pos+1,lacks:=false } rfl (by show z.pos+1≤xs.length;omega)
def Tr.All {α:Type}(C:Cy→Prop)(P:α→Prop):Tr α→Prop
 | .done a=>P a
 | .ask c k=>C c∧∀ b,B8 b→(k b).All C P
theorem Tr.All.bind {α β:Type} {C:Cy→Prop} {P:α→Prop} {Q:β→Prop} {t:Tr α} {f:α→Tr β}(h:t.All C P)(hf:∀ a,P a→(f a).All C Q):(t.bind f).All C Q:=by
 induction t with
 | done a=>exact hf a h
 | ask c k ih=>exact⟨h.1,fun b hb=>ih b (h.2 b hb)⟩
theorem Tr.All.mono {α:Type} {C:Cy→Prop} {P Q:α→Prop} {t:Tr α}(h:t.All C P)(hPQ:∀ a,P a→Q a):t.All C Q:=by
 induction t with
 | done a=>exact hPQ a h
 | ask c k ih=>exact⟨h.1,fun b hb=>ih b (h.2 b hb)⟩
theorem Bytes8.tail {b:Int} {bs:List Int}(h:Bytes8 (b :: bs)):Bytes8 bs:=fun x hx=>h x (List.mem_cons_of_mem _ hx)
theorem Bytes8.head {b:Int} {bs:List Int}(h:Bytes8 (b :: bs)):B8 b:=h b List.mem_cons_self
theorem Tr.All.ok {α:Type} {C:Cy→Prop} {P:α→Prop} {t:Tr α}(h:t.All C P):∀ {xs ys:List Int} {a:α},Bytes8 xs→t.run xs=.ok (a,ys)→P a∧Bytes8 ys:=by
 induction t with
 | done a =>
   intro xs ys a' hx e
   rw[Tr.run_done] at e
   injection e with e;injection e with e1 e2;subst e1;subst e2
   exact⟨h,hx⟩
 | ask c k ih =>
   intro xs ys a' hx e
   cases xs with
   | nil=>cases e
   | cons b bs=>exact ih b (h.2 b hx.head) hx.tail e
theorem Tr.All.error {α:Type} {C:Cy→Prop} {P:α→Prop} {t:Tr α}(h:t.All C P):∀ {xs:List Int} {c:Cy},Bytes8 xs→t.run xs=.error c→C c:=by
 induction t with
 | done a=>intro xs c hx e;rw[Tr.run_done] at e;cases e
 | ask c k ih =>
   intro xs c' hx e
   cases xs with
   | nil=>rw[Tr.run_nil] at e;injection e with e;exact e▸h.1
   | cons b bs=>exact ih b (h.2 b hx.head) hx.tail e
theorem Bytes8.getD {xs:List Int}(h:Bytes8 xs)(n:Nat):B8 (xs.getD n 0):=by
 by_cases hn:n < xs.length
 · rw[List.getD_eq_getElem?_getD,List.getElem?_eq_getElem hn]
   exact h _ (List.getElem_mem hn)
 · rw[List.getD_eq_getElem?_getD,List.getElem?_eq_none (by omega)]
   exact B8.zero
theorem Tr.All.z {α:Type} {C:Cy→Prop} {P:α→Prop} {t:Tr α}(h:t.All C P){xs:List Int}(hx:Bytes8 xs):∀ z,P (t.runZ xs z).1:=by
 induction t with
 | done a=>intro z;exact h
 | ask c k ih =>
   intro z
   simp only[Tr.runZ]
   split
   · exact ih _ (h.2 _ B8.zero) _
   split
   · exact ih _ (h.2 _ B8.zero) _
   · exact ih _ (h.2 _ (hx.getD _)) _
def Tr.Same {α:Type}:Tr α→Tr α→Prop
 | .done a,.done b=>a=b
 | .ask c k,.ask d l=>c=d∧∀ b,B8 b→(k b).Same (l b)
 | _,_=>False
theorem Tr.Same.refl {α:Type}(t:Tr α):t.Same t:=by
 induction t with
 | done a=>exact rfl
 | ask c k ih=>exact⟨rfl,fun b _=>ih b⟩
theorem Tr.Same.run {α:Type} {t:Tr α}:∀ {u:Tr α} {xs:List Int},t.Same u→Bytes8 xs→t.run xs=u.run xs:=by
 induction t with
 | done a =>
   intro u xs h hx
   cases u with
   | done b=>cases h;rfl
   | ask d l=>exact h.elim
 | ask c k ih =>
   intro u xs h hx
   cases u with
   | done b=>exact h.elim
   | ask d l =>
     cases xs with
     | nil=>rw[Tr.run_nil,Tr.run_nil,h.1]
     | cons b bs=>exact ih b (h.2 b hx.head) hx.tail
theorem Tr.Same.bind {α β:Type} {f g:α→Tr β} {C:Cy→Prop} {P:α→Prop} {t:Tr α}:∀ {u:Tr α},t.Same u→t.All C P→(∀ a,P a→(f a).Same (g a))→(t.bind f).Same (u.bind g):=by
 induction t with
 | done a =>
   intro u h hp hf
   cases u with
   | done b=>cases h;exact hf a hp
   | ask d l=>exact h.elim
 | ask c k ih =>
   intro u h hp hf
   cases u with
   | done b=>exact h.elim
   | ask d l=>exact⟨h.1,fun b hb=>ih b (h.2 b hb) (hp.2 b hb) hf⟩
@[reducible] def cyC (c:Cy):Array Value:=#[.int .i64 c.kind,.int .u16 c.addr,.int .u8 c.data,.int .i64 c.t]
@[reducible] def cyV (c:Cy):Value:=.agg (cyC c)
def JL:Cy:=⟨0,0,0,0⟩
structure Rg where
 af:Int
 bc:Int
 de:Int
 hl:Int
 af2:Int
 bc2:Int
 de2:Int
 hl2:Int
 ix:Int
 iy:Int
 sp:Int
 pc:Int
 wz:Int
 i:Int
 r:Int
 iff1:Bool
 iff2:Bool
 halted:Bool
 late:Bool
 mode:Int
deriving DecidableEq
@[reducible] def JJ (g:Rg):Array Value:=#[.int .u16 g.af,.int .u16 g.bc,.int .u16 g.de,.int .u16 g.hl,.int .u16 g.af2,.int .u16 g.bc2,.int .u16 g.de2,.int .u16 g.hl2,.int .u16 g.ix,.int .u16 g.iy,.int .u16 g.sp,.int .u16 g.pc,.int .u16 g.wz,
 .int .u8 g.i,.int .u8 g.r,.bool g.iff1,.bool g.iff2,.bool g.halted,.bool g.late,.int .i64 g.mode]
@[reducible] def zL:Array Value:=#[.int .u16 0,.int .u16 0,.int .u16 0,.int .u16 0,.int .u16 0,.int .u16 0,.int .u16 0,.int .u16 0,.int .u16 0,.int .u16 0,.int .u16 0,.int .u16 0,.int .u16 0,.int .u8 0,.int .u8 0,.bool false,.bool false,.bool false,.bool false,.int .i64 0]
@[reducible] def JH (g:Rg):Value:=.agg (JJ g)
def Wd16 (x:Int):Prop:=0≤x∧x≤65535
theorem Wd16.hi {x:Int}(h:Wd16 x):B8 (x / 256):=⟨by have:=h.1;omega,by have:=h.2;omega⟩
theorem Wd16.lo8 {x:Int}(h:Wd16 x):B8 (x%256):=⟨by omega,by omega⟩
theorem Wd16.mk8 {a b:Int}(ha:B8 a)(hb:B8 b):Wd16 (256*a+b):=⟨by have:=ha.1;have:=hb.1;omega,by have:=ha.2;have:=hb.2;omega⟩
theorem Wd16.zero:Wd16 0:=⟨by omega,by omega⟩
structure RgB (g:Rg):Prop where
 af:Wd16 g.af
 bc:Wd16 g.bc
 de:Wd16 g.de
 hl:Wd16 g.hl
 af2:Wd16 g.af2
 bc2:Wd16 g.bc2
 de2:Wd16 g.de2
 hl2:Wd16 g.hl2
 ix:Wd16 g.ix
 iy:Wd16 g.iy
 sp:Wd16 g.sp
 pc:Wd16 g.pc
 wz:Wd16 g.wz
 i:B8 g.i
 r:B8 g.r
 mode:-9223372036854775808≤g.mode∧g.mode≤9223372036854775807
def Jk (g:Rg)(plane p:Int):Int :=
 if p=0 then g.bc else if p=1 then g.de else if p=2 then (if plane=3 then g.ix else if plane=4 then g.iy else g.hl) else if p=3 then g.sp else 0
def J8 (g:Rg)(plane p w:Int):Rg :=
 if p=0 then { g with bc:=w } else if p=1 then { g with de:=w } else
 if p=2 then (if plane=3 then { g with ix:=w } else if plane=4 then { g with iy:=w } else { g with hl:=w }) else if p=3 then { g with sp:=w } else g
def qd (g:Rg)(plane k:Int):Int :=
 if k=7 then g.af / 256 else if k < 0∨5 < k then 0 else if k%2=0 then Jk g plane (k / 2) / 256 else Jk g plane (k / 2)%256
def QCF (g:Rg)(plane k b:Int):Rg :=
 if k=7 then { g with af:=256*b+g.af%256 } else if k < 0∨5 < k then g else
 if k%2=0 then J8 g plane (k / 2) (256*b+Jk g plane (k / 2)%256) else J8 g plane (k / 2) (256*(Jk g plane (k / 2) / 256)+b)
def QKR (g:Rg):Rg:={ g with bc:=g.bc2,de:=g.de2,hl:=g.hl2,bc2:=g.bc,de2:=g.de,hl2:=g.hl }
def QEp (g:Rg):Rg:={ g with af:=g.af2,af2:=g.af }
def QEU (r n:Int):Int:=r / 128*128+(r+n)%128
def ZI (g:Rg)(n:Int):Rg:={ g with r:=QEU g.r n }
def jt (g:Rg):Rg:={ g with pc:=0,i:=0,r:=0,mode:=0,iff1:=false,iff2:=false,halted:=false,late:=false }
theorem RgB.pair {g:Rg}(h:RgB g)(plane p:Int):Wd16 (Jk g plane p):=by
 unfold Jk
 repeat' split
 all_goals first|exact h.bc|exact h.de|exact h.ix|exact h.iy|exact h.hl|exact h.sp|exact Wd16.zero
theorem RgB.setPair {g:Rg}(h:RgB g)(plane p:Int){w:Int}(hw:Wd16 w):RgB (J8 g plane p w):=by
 obtain⟨h1,h2,h3,h4,h5,h6,h7,h8,h9,h10,h11,h12,h13,h14,h15,h16⟩:=h
 unfold J8
 repeat' split
 all_goals constructor<;>assumption
theorem QLb (g:Rg)(plane k:Int)(h:k < 0∨k=6∨7 < k):qd g plane k=0:=by
 unfold qd
 rw[if_neg (by omega),if_pos (by omega)]
theorem QKv (g:Rg)(plane k b:Int)(h:k < 0∨k=6∨7 < k):QCF g plane k b=g:=by
 unfold QCF
 rw[if_neg (by omega),if_pos (by omega)]
theorem RgB.get {g:Rg}(h:RgB g)(plane k:Int):B8 (qd g plane k):=by
 unfold qd
 repeat' split
 · exact h.af.hi
 · exact B8.zero
 · exact (h.pair ..).hi
 · exact (h.pair ..).lo8
theorem RgB.set {g:Rg}(h:RgB g)(plane k:Int){b:Int}(hb:B8 b):RgB (QCF g plane k b):=by
 unfold QCF
 split
 · have h':=Wd16.mk8 hb h.af.lo8
   obtain⟨h1,h2,h3,h4,h5,h6,h7,h8,h9,h10,h11,h12,h13,h14,h15,h16⟩:=h
   constructor<;>assumption
 split
 · exact h
 split
 · exact h.setPair _ _ (Wd16.mk8 hb (h.pair ..).lo8)
 · exact h.setPair _ _ (Wd16.mk8 (h.pair ..).hi hb)
theorem RgB.exx {g:Rg}(h:RgB g):RgB (QKR g):=by
 obtain⟨h1,h2,h3,h4,h5,h6,h7,h8,h9,h10,h11,h12,h13,h14,h15,h16⟩:=h
 constructor<;>assumption
theorem RgB.swap {g:Rg}(h:RgB g):RgB (QEp g):=by
 obtain⟨h1,h2,h3,h4,h5,h6,h7,h8,h9,h10,h11,h12,h13,h14,h15,h16⟩:=h
 constructor<;>assumption
theorem QQD {r:Int}(h:B8 r)(n:Int):B8 (QEU r n):=by
 obtain⟨h0,h1⟩:=h
 unfold QEU
 constructor<;>omega
theorem RgB.tick {g:Rg}(h:RgB g)(n:Int):RgB (ZI g n):=by
 have h':=QQD h.r n
 obtain⟨h1,h2,h3,h4,h5,h6,h7,h8,h9,h10,h11,h12,h13,h14,h15,h16⟩:=h
 constructor<;>assumption
theorem RgB.reset {g:Rg}(h:RgB g):RgB (jt g):=by
 have z:=Wd16.zero
 have z8:=B8.zero
 have zm:(-9223372036854775808:Int)≤0∧(0:Int)≤9223372036854775807:=by decide
 obtain⟨h1,h2,h3,h4,h5,h6,h7,h8,h9,h10,h11,h12,h13,h14,h15,h16⟩:=h
 constructor<;>assumption
theorem Qf {k:IntKind} {a b:Int}(h:a=b):Ending.returned (.int k a)=.returned (.int k b):=by rw[h]
theorem Qn {a b:Bool}(h:a=b):Ending.returned (.bool a)=.returned (.bool b):=by rw[h]
theorem JZ {a b c:World}(h:Below a.heap.size a b)(k:Below b.heap.size b c):Below a.heap.size a c:=h.trans (k.mono h.size)
theorem QQp (n:Int)(h₀:0≤n)(h₁:n < 2 ^ 16):IntKind.u16.wrap n=n:=by rw[IntKind.wrap_u16];omega
theorem QHs:∀ (x:Fin 256) (y:Fin 8),(bits BinOp.and IntKind.u8 (x.val:Int) (2 ^ (y.val:Int).toNat%256) != 0)=isM (x.val:Int) (y.val:Int):=by decide +kernel
theorem QGq (b n:Int)(h0:0≤b)(h1:b≤255)(h2:0≤n)(h3:n < 8):(bits BinOp.and IntKind.u8 b (2 ^ n.toNat%256) != 0)=isM b n :=
 QA4 (P:=fun n=>(bits BinOp.and IntKind.u8 b (2 ^ n.toNat%256) != 0)=isM b n) (fun y=>QB (P:=fun b=>(bits BinOp.and IntKind.u8 b (2 ^ (y.val:Int).toNat%256) != 0)=isM b (y.val:Int)) (fun x=>QHs x y) b h0 h1) n h2 h3
theorem QKX:∀ (x:Fin 256) (y:Fin 8),bits BinOp.or IntKind.u8 (x.val:Int) (2 ^ (y.val:Int).toNat%256)=JQ (x.val:Int) (y.val:Int) true:=by decide +kernel
theorem or_bit (b n:Int)(h0:0≤b)(h1:b≤255)(h2:0≤n)(h3:n < 8):bits BinOp.or IntKind.u8 b (2 ^ n.toNat%256)=JQ b n true :=
 QA4 (P:=fun n=>bits BinOp.or IntKind.u8 b (2 ^ n.toNat%256)=JQ b n true) (fun y=>QB (P:=fun b=>bits BinOp.or IntKind.u8 b (2 ^ (y.val:Int).toNat%256)=JQ b (y.val:Int) true) (fun x=>QKX x y) b h0 h1) n h2 h3
theorem QJQ:∀ (x:Fin 256) (y:Fin 8),bits BinOp.andNot IntKind.u8 (x.val:Int) (2 ^ (y.val:Int).toNat%256)=JQ (x.val:Int) (y.val:Int) false:=by decide +kernel
theorem QQh (b n:Int)(h0:0≤b)(h1:b≤255)(h2:0≤n)(h3:n < 8):bits BinOp.andNot IntKind.u8 b (2 ^ n.toNat%256)=JQ b n false :=
 QA4 (P:=fun n=>bits BinOp.andNot IntKind.u8 b (2 ^ n.toNat%256)=JQ b n false) (fun y=>QB (P:=fun b=>bits BinOp.andNot IntKind.u8 b (2 ^ (y.val:Int).toNat%256)=JQ b (y.val:Int) false) (fun x=>QJQ x y) b h0 h1) n h2 h3
theorem QJ8:∀ x:Fin 256,wrap64 (IntKind.i8.wrap (x.val:Int))=JR (x.val:Int):=by decide +kernel
theorem QHm (b n:Int)(h:n < 0∨8≤n):isM b n=false:=by
 unfold isM
 rcases h with h|h
 · rw[decide_eq_false (show ¬0≤n by omega)];rfl
 · rw[decide_eq_false (show ¬n < 8 by omega)];simp
theorem QTB (b n:Int)(h0:0≤n)(h1:n < 8):isM b n=decide (b / 2 ^ n.toNat%2=1):=by
 unfold isM
 rw[decide_eq_true h0,decide_eq_true h1];rfl
theorem qK (x:Int)(h0:0≤x)(h1:x≤65535)(w:World) :
 Calls Tryz.prog 142 #[.int .u16 x] w fun e w'=>e=.returned (.int .u8 (x%256))∧w=w':=by
 go_enter Tryz.func142,Tryz.ntmps142
 go_wp2
 go_ret
 exact⟨rfl,rfl⟩
theorem qy (x:Int)(h0:0≤x)(h1:x≤65535)(w:World) :
 Calls Tryz.prog 141 #[.int .u16 x] w fun e w'=>e=.returned (.int .u8 (x / 256))∧w=w':=by
 go_enter Tryz.func141,Tryz.ntmps141
 go_wp2
 go_ret
 exact⟨rfl,rfl⟩
theorem J1 (x y:Int)(h0:0≤x)(h1:x≤255)(h2:0≤y)(h3:y≤255)(w:World) :
 Calls Tryz.prog 97 #[.int .u8 x,.int .u8 y] w fun e w'=>e=.returned (.int .u16 (256*x+y))∧w=w':=by
 go_enter Tryz.func97,Tryz.ntmps97
 go_wp2
 go_ret
 exact⟨Qf (by rw[bits_join .u16 16 (by decide) QQp 8 (x*256) y (by omega) (by omega) (by omega) (by omega) (by omega) (by omega)];omega),rfl⟩
theorem QJj (x:Int)(h0:0≤x)(h1:x≤255)(w:World) :
 Calls Tryz.prog 279 #[.int .u8 x] w fun e w'=>e=.returned (.int .i64 (JR x))∧w=w':=by
 go_enter Tryz.func279,Tryz.ntmps279
 go_wp2
 go_ret
 exact⟨Qf (QB (P:=fun x=>wrap64 (IntKind.i8.wrap x)=JR x) QJ8 x h0 h1),rfl⟩
theorem QLF (n:Int)(w:World) :
 Calls Tryz.prog 259 #[.int .i64 n] w fun e w'=>e=.returned (.bool (decide (0≤n)&&decide (n < 8)))∧w=w':=by
 by_cases h:0≤n
 · go_enter Tryz.func259,Tryz.ntmps259
   go_wp2
   go_ret
   exact⟨Qn (by rw[decide_eq_true h];rfl),rfl⟩
 · go_enter Tryz.func259,Tryz.ntmps259
   go_wp2
   go_ret
   exact⟨Qn (by rw[decide_eq_false (by omega)];rfl),rfl⟩
theorem QGk (n:Int)(h0:0≤n)(h1:n < 8)(w:World) :
 Calls Tryz.prog 259 #[.int .i64 n] w fun e w'=>e=.returned (.bool true)∧w=w' :=
 (QLF n w).mono fun _ _ ⟨he,hw⟩=>⟨he.trans (Qn (by rw[decide_eq_true h0,decide_eq_true h1];rfl)),hw⟩
theorem QPM (n:Int)(h:n < 0∨8≤n)(w:World) :
 Calls Tryz.prog 259 #[.int .i64 n] w fun e w'=>e=.returned (.bool false)∧w=w' :=
 (QLF n w).mono fun _ _ ⟨he,hw⟩=>⟨he.trans (Qn (by
   rcases h with h|h
   · rw[decide_eq_false (by omega)];rfl
   · rw[decide_eq_false (show ¬n < 8 by omega)];simp)),hw⟩
theorem XY (b n:Int)(h0:0≤b)(h1:b≤255)(w:World) :
 Calls Tryz.prog 258 #[.int .u8 b,.int .i64 n] w fun e w'=>e=.returned (.bool (isM b n))∧w=w':=by
 by_cases h:0≤n∧n < 8
 · obtain⟨h2,h3⟩:=h
   go_enter Tryz.func258,Tryz.ntmps258
   go_wp2_with (go_at_call 259;refine (QGk _ (by omega) (by omega) _).mono ?_;rintro e w' ⟨rfl,rfl⟩)
   go_ret
   exact⟨Qn (QGq b n h0 h1 h2 h3),rfl⟩
 · have h':n < 0∨8≤n:=by omega
   clear h
   go_enter Tryz.func258,Tryz.ntmps258
   go_wp2_with (go_at_call 259;refine (QPM _ h' _).mono ?_;rintro e w' ⟨rfl,rfl⟩)
   go_ret
   exact⟨Qn (QHm b n h').symm,rfl⟩
theorem XS (b n:Int)(on:Bool)(h0:0≤b)(h1:b≤255)(w:World) :
 Calls Tryz.prog 195 #[.int .u8 b,.int .i64 n,.bool on] w fun e w'=>e=.returned (.int .u8 (JQ b n on))∧w=w':=by
 by_cases h:0≤n∧n < 8
 · obtain⟨h2,h3⟩:=h
   cases on
   · go_enter Tryz.func195,Tryz.ntmps195
     go_wp2_with (go_at_call 259;refine (QGk _ (by omega) (by omega) _).mono ?_;rintro e w' ⟨rfl,rfl⟩)
     go_ret
     exact⟨Qf (QQh b n h0 h1 h2 h3),rfl⟩
   · go_enter Tryz.func195,Tryz.ntmps195
     go_wp2_with (go_at_call 259;refine (QGk _ (by omega) (by omega) _).mono ?_;rintro e w' ⟨rfl,rfl⟩)
     go_ret
     exact⟨Qf (or_bit b n h0 h1 h2 h3),rfl⟩
 · have h':n < 0∨8≤n:=by omega
   have e:JQ b n on=b:=by unfold JQ;rw[if_neg h]
   rw[e]
   clear h e
   go_enter Tryz.func195,Tryz.ntmps195
   go_wp2_with (go_at_call 259;refine (QPM _ h' _).mono ?_;rintro e w' ⟨rfl,rfl⟩)
   go_ret
   exact⟨rfl,rfl⟩
theorem Q4 (x:Int)(h0:0≤x)(h1:x≤65535)(w:World) :
 Calls Tryz.prog 69 #[.int .u16 x] w fun e w'=>e=.returned (.int .u8 (x%256))∧w=w':=by
 go_enter Tryz.func69,Tryz.ntmps69
 go_wp2
 go_ret
 exact⟨rfl,rfl⟩
theorem Xd (x:Int)(h0:0≤x)(h1:x≤65535)(w:World) :
 Calls Tryz.prog 68 #[.int .u16 x] w fun e w'=>e=.returned (.int .u8 (x / 256))∧w=w':=by
 go_enter Tryz.func68,Tryz.ntmps68
 go_wp2
 go_ret
 exact⟨rfl,rfl⟩
theorem QV (x y:Int)(h0:0≤x)(h1:x≤255)(h2:0≤y)(h3:y≤255)(w:World) :
 Calls Tryz.prog 53 #[.int .u8 x,.int .u8 y] w fun e w'=>e=.returned (.int .u16 (256*x+y))∧w=w':=by
 go_enter Tryz.func53,Tryz.ntmps53
 go_wp2
 go_ret
 exact⟨rfl,rfl⟩
theorem QAQ (x:Int)(h0:0≤x)(h1:x≤255)(w:World) :
 Calls Tryz.prog 120 #[.int .u8 x] w fun e w'=>e=.returned (.int .i64 (JR x))∧w=w':=by
 by_cases h:x < 128
 · have e:JR x=x:=if_pos h
   rw[e];clear e
   go_enter Tryz.func120,Tryz.ntmps120
   go_wp2
   go_ret
   exact⟨rfl,rfl⟩
 · have e:JR x=x-256:=if_neg h
   rw[e];clear e
   go_enter Tryz.func120,Tryz.ntmps120
   go_wp2
   go_ret
   exact⟨rfl,rfl⟩
theorem QNT (k:Nat):(2:Int) ^ (k+1)=2 ^ k*2:=Int.pow_succ 2 k
theorem QCq (k:Nat)(h:k≤8):1≤(2:Int) ^ k∧(2:Int) ^ k≤256:=by
 have:∀ k:Fin 9,1≤(2:Int) ^ k.val∧(2:Int) ^ k.val≤256:=by decide +kernel
 exact this ⟨k,by omega⟩
theorem QEI (n:Int)(h0:0≤n)(h1:n≤8)(w:World) :
 Calls Tryz.prog 152 #[.int .i64 n] w fun e w'=>e=.returned (.int .i64 (2 ^ n.toNat))∧w=w':=by
 go_enter Tryz.func152,Tryz.ntmps152
 go_wp2
 go_loop [3,4] (fun x i=>∃ k:Nat,(k:Int)≤n∧i=.int .i64 k∧x=.int .i64 (2 ^ k)) (fun _ i=>n.toNat-(intOf i).toNat)
 case atStart=>exact⟨0,by omega,rfl,rfl⟩
 case round =>
  obtain⟨k,hk,rfl,rfl⟩:=hrel
  have hb:=QCq k (by omega)
  by_cases hlt:(k:Int) < n
  · go_wp2
    go_round
    case rel=>exact⟨k+1,by omega,by go_num,by rw[QNT]⟩
    case measure=>simp[intOf];omega
  · obtain rfl:n=k:=by omega
    go_wp2
    go_ret
    exact⟨rfl,rfl⟩
theorem QQS (b n:Int)(h0:0≤n)(h1:n < 8):(b / 2 ^ n.toNat%2==1)=isM b n:=by
 rw[QTB b n h0 h1];by_cases h:b / 2 ^ n.toNat%2=1<;>simp[h]
theorem QI (b n:Int)(h0:0≤b)(h1:b≤255)(w:World) :
 Calls Tryz.prog 151 #[.int .u8 b,.int .i64 n] w fun e w'=>e=.returned (.bool (isM b n))∧w=w':=by
 by_cases h:0≤n
 · by_cases h':n < 8
   · obtain⟨k,hk,hk8⟩:∃ k:Nat,n=k∧k≤7:=⟨n.toNat,by omega,by omega⟩
     have hb:=QCq k (by omega)
     have hq:isM b n=(b / 2 ^ n.toNat%2==1):=(QQS b n h h').symm
     rw[hq]
     subst hk
     clear hq
     have hp:0 < (2:Int) ^ k:=by omega
     have hd0:0≤b / 2 ^ k:=Int.ediv_nonneg h0 (by omega)
     have hd1:b / 2 ^ k≤255:=Int.le_trans (Int.ediv_le_self _ h0) h1
     go_enter Tryz.func151,Tryz.ntmps151
     go_wp2_with (go_at_call 152;refine (QEI _ (by omega) (by omega) _).mono ?_;rintro e w' ⟨rfl,rfl⟩)
     go_ret
     exact⟨rfl,rfl⟩
   · rw[QHm b n (by omega)]
     go_enter Tryz.func151,Tryz.ntmps151
     go_wp2
     go_ret
     exact⟨rfl,rfl⟩
 · rw[QHm b n (by omega)]
   go_enter Tryz.func151,Tryz.ntmps151
   go_wp2
   go_ret
   exact⟨rfl,rfl⟩
theorem QNf (b n:Int)(on:Bool)(h0:0≤n)(h1:n < 8):JQ b n on=(if isM b n then (if on then b else b-2 ^ n.toNat) else (if on then b+2 ^ n.toNat else b)):=by
 unfold JQ;rw[if_pos ⟨h0,h1⟩]
theorem QL (b n:Int)(on:Bool)(h0:0≤b)(h1:b≤255)(w:World) :
 Calls Tryz.prog 103 #[.int .u8 b,.int .i64 n,.bool on] w fun e w'=>e=.returned (.int .u8 (JQ b n on))∧w=w':=by
 by_cases h:0≤n
 · by_cases h':n < 8
   · have hw:=QBR b n on h0 h1
     rw[QNf b n on h h'] at hw ⊢
     obtain⟨k,hk,hk8⟩:∃ k:Nat,n=k∧k≤7:=⟨n.toNat,by omega,by omega⟩
     have hb:=QCq k (by omega)
     subst hk
     simp only[Int.toNat_natCast] at hw ⊢
     cases on<;>cases hm:isM b k<;>simp only[hm,if_true,if_false,Bool.false_eq_true] at hw ⊢
     all_goals
      go_enter Tryz.func103,Tryz.ntmps103
      go_wp2_with (first|(go_at_call 151;refine (QI _ _ h0 h1 _).mono ?_;rintro e w' ⟨rfl,rfl⟩)|(go_at_call 152;refine (QEI _ (by omega) (by omega) _).mono ?_;rintro e w' ⟨rfl,rfl⟩))
      go_ret
      exact⟨rfl,rfl⟩
   · rw[show JQ b n on=b from by unfold JQ;rw[if_neg (by omega)]]
     go_enter Tryz.func103,Tryz.ntmps103
     go_wp2
     go_ret
     exact⟨rfl,rfl⟩
 · rw[show JQ b n on=b from by unfold JQ;rw[if_neg (by omega)]]
   go_enter Tryz.func103,Tryz.ntmps103
   go_wp2
   go_ret
   exact⟨rfl,rfl⟩
theorem QAa (b:Int):∀ k:Nat,0≤Qp b k∧Qp b k≤k
 | 0=>⟨by simp[Qp],by simp[Qp]⟩
 | k+1=>by
   have:=QAa b k
   simp only[Qp]
   split<;>omega
theorem QMf (b:Int)(k:Nat)(h:isM b k=true):Qp b (k+1)=Qp b k+1:=by simp[Qp,h]
theorem QPK (b:Int)(k:Nat)(h:isM b k=false):Qp b (k+1)=Qp b k:=by simp[Qp,h]
theorem QKh (b:Int)(h0:0≤b)(h1:b≤255)(w:World) :
 Calls Tryz.prog 235 #[.int .u8 b] w fun e w'=>e=.returned (.int .i64 (Qp b 8))∧w=w':=by
 go_enter Tryz.func235,Tryz.ntmps235
 go_wp2
 go_loop [3,4] (fun x i=>∃ k:Nat,k≤8∧i=.int .i64 k∧x=.int .i64 (Qp b k)) (fun _ i=>8-(intOf i).toNat)
 case atStart=>exact⟨0,by omega,rfl,rfl⟩
 case round =>
  obtain⟨k,hk,rfl,rfl⟩:=hrel
  have hb:=QAa b k
  by_cases hlt:k < 8
  · cases hm:isM b k
    · have HS:=Lib.hid (QPK b k hm)
      go_wp2_with (go_at_call 151;refine (QI _ _ h0 h1 _).mono ?_;rintro e w' ⟨rfl,rfl⟩)
      go_round
      case rel=>exact⟨k+1,by omega,by go_num,by rw[HS.out]⟩
      case measure=>simp[intOf];omega
    · have HS:=Lib.hid (QMf b k hm)
      go_wp2_with (go_at_call 151;refine (QI _ _ h0 h1 _).mono ?_;rintro e w' ⟨rfl,rfl⟩)
      go_round
      case rel=>exact⟨k+1,by omega,by go_num,by rw[HS.out]⟩
      case measure=>simp[intOf];omega
  · obtain rfl:k=8:=by omega
    go_wp2
    go_ret
    exact⟨rfl,rfl⟩
theorem QGN (b:Int)(h0:0≤b)(h1:b≤255)(w:World) :
 Calls Tryz.prog 154 #[.int .u8 b] w fun e w'=>e=.returned (.bool (jj b))∧w=w':=by
 have hb:=QAa b 8
 go_enter Tryz.func154,Tryz.ntmps154
 go_wp2_with (go_at_call 235;refine (QKh _ h0 h1 _).mono ?_;rintro e w' ⟨rfl,rfl⟩)
 go_ret
 exact⟨rfl,rfl⟩
section
open Go.RowKit Go.Shelf
attribute [local go_sem] Oper.semAt_some
def KeepsBox (B:Nat)(W W':World):Prop:=W'.heap[B]? = W.heap[B]?
theorem QEr {B:Nat} {X Y Z:World}(h:KeepsBox B X Y)(k:KeepsBox B Y Z):KeepsBox B X Z:=Eq.trans k h
theorem QFY {B:Nat} {w:World}(hB:B < w.heap.size)(W:World)(l:Nat)(o o':Obj)(hl:w.heap.size≤l)(_:W.heap[l]? = some o)(_:o.isCells=false)(_:o.isWalk=false):KeepsBox B W (W.putObj l o') :=
 World.putObj_heap_other (by omega)
theorem zt {B b:Nat}(hB:B≠b)(W:World)(v:Value):KeepsBox B W (W.setCell ⟨b,0,none⟩ v):=Below.heap_setCell _ _ _ B hB
theorem KeepsBox.boxed {B:Nat} {W W':World} {t:TypeId} {v:Value}(k:KeepsBox B W W')(h:Boxed W B t v):Boxed W' B t v:=Eq.trans k h
theorem QNX (n:Nat)(hn:1≤n)(l Bs:Nat)(b:Int)(h0:0≤b)(h1:b≤255)(J Jx:List (Fin 8)→World→Prop)
 (hY:∀ pre x W,J pre W→pre.length < 8→YieldAt Fence.wide (n-1) Tryz.prog l #[.int .i64 (x.val:Int)] W fun e W' =>
   (e=.returned (.bool true)∧J (pre++[x]) W'∧KeepsBox Bs W W')∨(e=.returned (.bool false)∧Jx (pre++[x]) W'))
 (W:World)(hBs:Boxed W Bs 5 (.int .u8 b))(hJ0:J [] W) :
 CallsIn Fence.wide n Tryz.prog 346 #[.func (.yield l) #[] #[],.pointer (some ⟨Bs,0,none⟩)] W fun e W'=>(∃ v,e=.returned v) ∧
  ((∃ ys,ys=Qd b 8∧J ys W')∨(∃ pre,(∃ k:Nat,k < 8∧isM b (k:Int)=true∧pre=Qd b (k+1))∧Jx pre W')):=by
 refine callsIn_of_wp Tryz.func346 rfl trivial ?_ rfl
 simp only[Tryz.ntmps346,List.size_toArray,List.length_cons,List.length_nil,Nat.reduceAdd,Nat.reduceSub,Array.replicate_succ,Array.replicate_zero,List.push_toArray,List.append_toArray,List.nil_append,List.cons_append]
 gi_wp2
 gi_loopw [4] (fun i wr=>∃ k:Nat,k≤8∧i=.int .i64 k∧J (Qd b k) wr∧Boxed wr Bs 5 (.int .u8 b))
  (fun i _=>8-(intOf i).toNat)
 case atStart=>exact⟨0,Nat.zero_le _,rfl,hJ0,hBs⟩
 case round =>
  obtain⟨k,hk,rfl,hJs,hnx⟩:=hrel
  have hcx:=hnx.cell
  by_cases hlt:k < 8
  · cases hm:isM b k
    · have HS:=Lib.hid (QIl b k hlt hm)
      gi_wp2_with (refine⟨trivial,?_⟩;gi_at_call 258;refine (callsIn_wide.2 (XY _ _ h0 h1 _)).mono ?_;rintro e w' ⟨rfl,rfl⟩)
      refine⟨fun _ h=>(by cases h),?_⟩
      gi_wp2
      go_roundw
      case rel=>exact⟨k+1,by omega,by simp,by rw[HS.out];exact hJs,hnx⟩
      case measure=>simp[intOf];omega
    · have HS:=Lib.hid (QGg b k hlt hm)
      obtain⟨fn,tmps,assign,body,hy,hR⟩:=hY _ ⟨k,hlt⟩ wr hJs (Nat.lt_of_le_of_lt (QDi b k) hlt)
      gi_wp2_with (refine⟨trivial,?_⟩;gi_at_call 258;refine (callsIn_wide.2 (XY _ _ h0 h1 _)).mono ?_;rintro e w' ⟨rfl,rfl⟩)
      gi_wp2
      refine hR.mono ?_
      rintro e W3 (⟨rfl,hJ3,hk3⟩|⟨rfl,hJx3⟩)
      · gi_wp2
        go_roundw
        case rel=>exact⟨k+1,by omega,by simp,by rw[HS.out];exact hJ3,hk3.boxed hnx⟩
        case measure=>simp[intOf];omega
      · gi_wp2
        refine bodyPost_ret (results_none rfl _ _ _) rfl ?_
        exact⟨⟨_,rfl⟩,.inr ⟨_,⟨k,hlt,hm,HS.out.symm⟩,hJx3⟩⟩
  · obtain rfl:k=8:=by omega
    gi_wp2
    go_end0
    exact⟨⟨_,rfl⟩,.inl ⟨_,rfl,hJs⟩⟩
theorem QLg (n:Nat)(b:Int)(w:World) :
 CallsIn Fence.wide n Tryz.prog 336 #[.int .u8 b] w fun e w'=>e=.returned (.func (.func 346) #[] #[.pointer (some ⟨w.heap.size,0,none⟩)])∧w'=w.alloc (.cells #[.int .u8 b] 5):=by
 refine callsIn_of_wp Tryz.func336 rfl trivial ?_ rfl
 simp only[Tryz.ntmps336,List.size_toArray,List.length_cons,List.length_nil,Nat.reduceAdd,Nat.reduceSub,Array.replicate_succ,Array.replicate_zero,List.push_toArray,List.append_toArray,List.nil_append,List.cons_append]
 gi_wp2
 go_ret
 exact⟨rfl,rfl⟩
def partOf (b:Int)(pre:List (Fin 8)):Prop:=∃ k:Nat,k < 8∧isM b (k:Int)=true∧pre=Qd b (k+1)
theorem QEq (n:Nat)(hn:1≤n)(Bs:Nat)(b:Int)(h0:0≤b)(h1:b≤255)(w:World)(hc:Boxed w Bs 5 (.int .u8 b)) :
 SeqStopsK Fence.wide n Tryz.prog 346 #[.pointer (some ⟨Bs,0,none⟩)] (fun x:Fin 8=>#[Value.int .i64 (x.val:Int)]) (KeepsBox Bs) (fun ys=>ys=Qd b 8) (partOf b) 8 w:=fun l J Jx W hW _ _ hY hJ0 =>
 QNX n hn l Bs b h0 h1 J Jx hY W ((hW.block Bs hc.lt).trans hc) hJ0
theorem QFu (l:List (Fin 8))(x:Fin 8):zV (l++[x])=!zV l:=by simp[zV]
theorem QQZ (b:Int)(h0:0≤b)(h1:b≤255)(w:World) :
 CallsIn Fence.wide 4 Tryz.prog 308 #[.int .u8 b] w fun e W'=>e=.returned (.bool (jj b))∧Below w.heap.size w W':=by
 refine callsIn_of_wp_marks Tryz.func308 rfl trivial ?_ rfl
 simp only[Tryz.ntmps308,List.size_toArray,List.length_cons,List.length_nil,Nat.reduceAdd,Nat.reduceSub,Array.replicate_succ,Array.replicate_zero,List.push_toArray,List.append_toArray,List.nil_append,List.cons_append]
 gi_wp2_with (refine⟨trivial,?_⟩;gi_at_call 336;refine (QLg _ _ _).mono ?_;rintro e w' ⟨rfl,rfl⟩)
 have bS:=Boxed.new w 4 (.bool true)
 have bN:=Boxed.new (w.alloc (.cells #[.bool true] 4)) 5 (.int .u8 b)
 rw[World.size_alloc] at bN
 have hB0:Below w.heap.size w ((w.alloc (.cells #[.bool true] 4)).alloc (.cells #[.int .u8 b] 5)):=((Below.refl _ w).alloc (Nat.le_refl _) _).alloc (by simp) _
 refine wpIn_rangeFunc_ownG (F:=Fence.wide) rfl (by decide) (gf:=346) (lb:=#[.pointer (some ⟨w.heap.size+1,0,none⟩)]) rfl trivial (enters_of Tryz.func346 (by kernel_rfl) rfl)
  (QEq 3 (by omega) (w.heap.size+1) b h0 h1 _ bN) QEr (QFY (by simp)) (Below.refl _ _) (fun _=>rfl)
  (fun pre W=>(W.cell? ⟨w.heap.size,0,none⟩=some (.bool (zV pre))∧W.frozen? ⟨w.heap.size,0,none⟩=false)∧Below w.heap.size w W)
  (fun _ _ _=>False)
  (OwnFrom.and (Own.from (fun s A B row hs hg hr=>⟨cell_kept hs.1 hg hr,(frozen_kept hs.1 hg hr).trans hs.2⟩) _) (ownFrom_below (Nat.le_refl _) (by simp;omega)))
  (fun _ _ _ _ _ hs _ _=>hs)
  ⟨⟨(bS.alloc _).cell,(bS.alloc _).frozen⟩,hB0⟩
  (fun x=>{ tmps:=#[.int .u8 b,undef,.bool false,.pointer (some ⟨w.heap.size,0,none⟩),.int .u8 b,.func (.func 346) #[] #[.pointer (some ⟨w.heap.size+1,0,none⟩)],.int .i64 (x.val:Int),undef,undef,undef],defers:=[] }) ?assign ?body ?done ?stop
 case assign =>
  intro l x W K hK
  gi_wp2
  simpa using hK
 case body =>
  rintro l pre x W ⟨⟨hc,hf⟩,hB⟩ _
  gi_wp2
  exact⟨(KeepsOthers.setCell _ _ _).from _,zt (by omega) W _,⟨by rw[QFu];exact World.cell?_setCell_same' _ _ _ (by rw[hc];rfl),by rw[World.frozen?_setCell];exact hf⟩,hB.setCell (p:=⟨w.heap.size,0,none⟩) (Nat.le_refl _) _⟩
 case done =>
  rintro D ys W hD rfl ⟨⟨hc,_⟩,hB⟩ hK
  gi_wp2
  refine⟨by simp,.inl ⟨_,_,rfl,run_takeDeferred hK,?_⟩⟩
  exact⟨_,results_tmp rfl _ _ _,by rw[←QG0 b h0 h1];rfl,hB.trans (belowK_b (w:=w) (Nat.le_refl _) W D _ _ (by simp at hD;omega) hK rfl rfl)⟩
 case stop =>
  rintro D c pre W _ _ h _
  exact h.elim
theorem QIb (b:Int)(h0:0≤b)(h1:b≤255)(w:World) :
 Calls Tryz.prog 308 #[.int .u8 b] w fun e W'=>e=.returned (.bool (jj b))∧Below w.heap.size w W':=callsIn_wide.1 (QQZ b h0 h1 w)
theorem QFs (left:Int)(l:List (Fin 8))(x:Fin 8):X9 left (l++[x])=JQ (X9 left l) (((x.val:Int)+left)%8) true:=by simp[X9]
theorem QFl (left:Int)(l:List (Fin 8)):0≤X9 left l∧X9 left l≤255:=by
 unfold X9
 have:∀ (l:List (Fin 8)) (t:Int),0≤t→t≤255→0≤l.foldl (fun t n=>JQ t (((n.val:Int)+left)%8) true) t∧l.foldl (fun t n=>JQ t (((n.val:Int)+left)%8) true) t≤255:=by
  intro l
  induction l with
  | nil=>intro t a b;exact⟨a,b⟩
  | cons x l ih=>intro t a b;have:=QBR t (((x.val:Int)+left)%8) true a b;exact ih _ this.1 this.2
 exact this l 0 (by decide) (by decide)
theorem QOU (y:Int):bits BinOp.and IntKind.i64 y 7=y%8:=by
 have e:(BitVec.ofInt 64 y &&& BitVec.ofInt 64 7).toNat=(y%8).toNat:=by
  rw[BitVec.toNat_and,show (BitVec.ofInt 64 7).toNat=2 ^ 3-1 by decide,Nat.and_two_pow_sub_one_eq_mod,BitVec.toNat_ofInt]
  omega
 show IntKind.i64.wrap ((BitVec.ofInt 64 y &&& BitVec.ofInt 64 7).toNat:Int)=_
 rw[e,IntKind.wrap_i64]
 omega
theorem QQj (b y:Int)(h0:0≤b)(h1:b≤255)(w:World) :
 CallsIn Fence.wide 4 Tryz.prog 306 #[.int .u8 b,.int .i64 y] w fun e W'=>e=.returned (.int .u8 (Xk b y))∧Below w.heap.size w W':=by
 have hF:=QHl b y h0 h1
 have h7:=QOU y
 have t0:0≤y%8:=by omega
 have t1:y%8 < 8:=by omega
 generalize y%8=t at hF h7 t0 t1
 rw[←hF]
 clear hF
 refine callsIn_of_wp_marks Tryz.func306 rfl trivial ?_ rfl
 simp only[Tryz.ntmps306,List.size_toArray,List.length_cons,List.length_nil,Nat.reduceAdd,Nat.reduceSub,Array.replicate_succ,Array.replicate_zero,List.push_toArray,List.append_toArray,List.nil_append,List.cons_append]
 gi_wp2_with (refine⟨trivial,?_⟩;gi_at_call 336;refine (QLg _ _ _).mono ?_;rintro e w' ⟨rfl,rfl⟩)
 clear h7
 have bL:=Boxed.new w 3 (.int .i64 t)
 have bT:=Boxed.new (w.alloc (.cells #[.int .i64 t] 3)) 5 (.int .u8 0)
 have bN:=Boxed.new ((w.alloc (.cells #[.int .i64 t] 3)).alloc (.cells #[.int .u8 0] 5)) 5 (.int .u8 b)
 simp only[World.size_alloc] at bT bN
 have hB0:Below w.heap.size w (((w.alloc (.cells #[.int .i64 t] 3)).alloc (.cells #[.int .u8 0] 5)).alloc (.cells #[.int .u8 b] 5)):=(((Below.refl _ w).alloc (Nat.le_refl _) _).alloc (by simp) _).alloc (by simp;omega) _
 refine wpIn_rangeFunc_ownG (F:=Fence.wide) rfl (by decide) (gf:=346) (lb:=#[.pointer (some ⟨w.heap.size+1+1,0,none⟩)]) rfl trivial (enters_of Tryz.func346 (by kernel_rfl) rfl)
  (QEq 3 (by omega) (w.heap.size+1+1) b h0 h1 _ bN) QEr (QFY (by simp)) (Below.refl _ _) (fun _=>rfl)
  (fun pre W=>(W.cell? ⟨w.heap.size+1,0,none⟩=some (.int .u8 (X9 t pre))∧W.frozen? ⟨w.heap.size+1,0,none⟩=false∧Boxed W w.heap.size 3 (.int .i64 t))∧Below w.heap.size w W)
  (fun _ _ _=>False)
  (OwnFrom.and (Own.from (fun s A B row hs hg hr=>⟨cell_kept hs.1 hg hr,(frozen_kept hs.1 hg hr).trans hs.2.1,boxed_own w.heap.size 3 (fun _=>.int .i64 t) s A B row hs.2.2 hg hr⟩) _) (ownFrom_below (Nat.le_refl _) (by simp;omega)))
  (fun _ _ _ _ _ hs _ _=>hs)
  ⟨⟨(bT.alloc _).cell,(bT.alloc _).frozen,(bL.alloc _).alloc _⟩,hB0⟩
  (fun x=>{ tmps:=#[.int .u8 b,.int .i64 y,undef,undef,.int .u8 0,.pointer (some ⟨w.heap.size,0,none⟩),.pointer (some ⟨w.heap.size+1,0,none⟩),.int .i64 (x.val:Int),.int .i64 y,.int .i64 t,.int .u8 b,.func (.func 346) #[] #[.pointer (some ⟨w.heap.size+1+1,0,none⟩)],.int .i64 (x.val:Int),undef,undef,undef,undef,undef,undef,undef],defers:=[] }) ?assign ?body ?done ?stop
 case assign =>
  intro l x W K hK
  gi_wp2
  exact hK
 case body =>
  rintro l pre x W ⟨⟨hc,hf,hL⟩,hB⟩ _
  have hx:(x.val:Int) < 8:=by have:=x.isLt;omega
  have hx0:0≤(x.val:Int):=by omega
  have hcl:=hL.cell
  have hb:=QFl t pre
  gi_wp2_with (refine⟨trivial,?_⟩;gi_at_call 195;refine (CallsIn.inRound l (callsIn_wide.2 (XS _ _ true hb.1 hb.2 _))).mono ?_;rintro e w' ⟨rfl,rfl⟩)
  exact⟨(KeepsOthers.setCell _ _ _).from _,zt (by omega) W _,⟨by rw[QFs];exact World.cell?_setCell_same' _ _ _ (by rw[hc];rfl),by rw[World.frozen?_setCell];exact hf,zt (by omega) W _ |>.boxed hL⟩,hB.setCell (p:=⟨w.heap.size+1,0,none⟩) (by simp) _⟩
 case done =>
  rintro D ys W hD rfl ⟨⟨hc,_⟩,hB⟩ hK
  gi_wp2
  refine⟨by simp,.inl ⟨_,_,rfl,run_takeDeferred hK,?_⟩⟩
  exact⟨_,results_tmp rfl _ _ _,rfl,hB.trans (belowK_b (w:=w) (Nat.le_refl _) W D _ _ (by simp at hD;omega) hK rfl rfl)⟩
 case stop =>
  rintro D c pre W _ _ h _
  exact h.elim
theorem je (b y:Int)(h0:0≤b)(h1:b≤255)(w:World) :
 Calls Tryz.prog 306 #[.int .u8 b,.int .i64 y] w fun e W'=>e=.returned (.int .u8 (Xk b y))∧Below w.heap.size w W':=callsIn_wide.1 (QQj b y h0 h1 w)
end
section
theorem Q6 {P:Program} {t e:TypeId} {n:Nat} {cs:Array Value} {k:IntKind} {i:Int} {w:World} {v:Value}(h:P.underlying t=some (.array n e))(he:P.plainKey e=true)(hs:(sizeOf e).run P w=.ok 1 w)(hi:0≤i∧i < n)(hv:cs[i.toNat]? = some v) :
 (Instr.index t (.agg cs) (.int k i)).run P w=.ok v w:=by
 simp[Instr.index,asIntOf,run_underlying h,hi,hs,run_part_plain w he hv]
theorem QE6 (a0 a1 a2 a3 a4 a5 a6 a7:Value)(w:World):(Instr.index 163 (.agg #[a0,a1,a2,a3,a4,a5,a6,a7]) (.int .i64 0)).run Tryz.prog w=.ok a0 w :=
 Q6 Tryz.underlying163 (by kernel_rfl) (by kernel_rfl) (by decide) rfl
theorem QEx (a0 a1 a2 a3 a4 a5 a6 a7:Value)(w:World):(Instr.index 163 (.agg #[a0,a1,a2,a3,a4,a5,a6,a7]) (.int .i64 1)).run Tryz.prog w=.ok a1 w :=
 Q6 Tryz.underlying163 (by kernel_rfl) (by kernel_rfl) (by decide) rfl
theorem QEf (a0 a1 a2 a3 a4 a5 a6 a7:Value)(w:World):(Instr.index 163 (.agg #[a0,a1,a2,a3,a4,a5,a6,a7]) (.int .i64 2)).run Tryz.prog w=.ok a2 w :=
 Q6 Tryz.underlying163 (by kernel_rfl) (by kernel_rfl) (by decide) rfl
theorem QEi (a0 a1 a2 a3 a4 a5 a6 a7:Value)(w:World):(Instr.index 163 (.agg #[a0,a1,a2,a3,a4,a5,a6,a7]) (.int .i64 3)).run Tryz.prog w=.ok a3 w :=
 Q6 Tryz.underlying163 (by kernel_rfl) (by kernel_rfl) (by decide) rfl
theorem QEX (a0 a1 a2 a3 a4 a5 a6 a7:Value)(w:World):(Instr.index 163 (.agg #[a0,a1,a2,a3,a4,a5,a6,a7]) (.int .i64 4)).run Tryz.prog w=.ok a4 w :=
 Q6 Tryz.underlying163 (by kernel_rfl) (by kernel_rfl) (by decide) rfl
theorem QD7 (a0 a1 a2 a3 a4 a5 a6 a7:Value)(w:World):(Instr.index 163 (.agg #[a0,a1,a2,a3,a4,a5,a6,a7]) (.int .i64 5)).run Tryz.prog w=.ok a5 w :=
 Q6 Tryz.underlying163 (by kernel_rfl) (by kernel_rfl) (by decide) rfl
theorem QFI (a0 a1 a2 a3 a4 a5 a6 a7:Value)(w:World):(Instr.index 163 (.agg #[a0,a1,a2,a3,a4,a5,a6,a7]) (.int .i64 6)).run Tryz.prog w=.ok a6 w :=
 Q6 Tryz.underlying163 (by kernel_rfl) (by kernel_rfl) (by decide) rfl
theorem QE4 (a0 a1 a2 a3 a4 a5 a6 a7:Value)(w:World):(Instr.index 163 (.agg #[a0,a1,a2,a3,a4,a5,a6,a7]) (.int .i64 7)).run Tryz.prog w=.ok a7 w :=
 Q6 Tryz.underlying163 (by kernel_rfl) (by kernel_rfl) (by decide) rfl
attribute [local go_sem ↓] QE6 QEx QEf QEi QEX QD7 QFI QE4
abbrev v8 (b0 b1 b2 b3 b4 b5 b6 b7:Bool):Value:=.agg #[.bool b0,.bool b1,.bool b2,.bool b3,.bool b4,.bool b5,.bool b6,.bool b7]
abbrev of8 (f:Int):Value:=v8 (isM f 7) (isM f 6) (isM f 5) (isM f 4) (isM f 3) (isM f 2) (isM f 1) (isM f 0)
theorem QD (b0 b1 b2 b3 b4 b5 b6 b7:Bool)(w:World) :
 Calls Tryz.prog 155 #[v8 b0 b1 b2 b3 b4 b5 b6 b7] w fun e w'=>e=.returned (.int .u8 (mkM b0 b1 b2 b3 b4 b5 b6 b7))∧Below w.heap.size w w':=by
 go_enter Tryz.func155,Tryz.ntmps155
 go_wp2
 refine wp_loop_rounds 9 ?_
 iterate 9 (rw[rounds_succ];go_wp2_with (first
  | (go_at_call 103;refine (QL _ _ _ (B8.lo (by repeat (first|exact B8.zero|apply B8.with))) (B8.hi (by repeat (first|exact B8.zero|apply B8.with))) _).mono ?_;rintro e w' ⟨rfl,rfl⟩)))
 go_ret
 exact⟨rfl,(by repeat (first|exact Below.refl _ _|assumption|refine JZ ?_ (by assumption)|refine Below.drew ?_|refine Below.alloc ?_ (by first|(simp;done)|(simp;omega)|omega) _|refine Below.setCell ?_ (by first|(simp;done)|(simp;omega)|omega) _))⟩
theorem Qc (f:Int)(h0:0≤f)(h1:f≤255)(w:World) :
 Calls Tryz.prog 153 #[.int .u8 f] w fun e w'=>e=.returned (of8 f)∧Below w.heap.size w w':=by
 go_enter Tryz.func153,Tryz.ntmps153
 go_wp2
 refine wp_loop_rounds 9 ?_
 iterate 9 (rw[rounds_succ];go_wp2_with (first
  | (go_at_call 151;refine (QI _ _ h0 h1 _).mono ?_;rintro e w' ⟨rfl,rfl⟩)))
 refine bodyPost_ret (v:=of8 f) (by simp[results,Tryz.f153,go_sem]) rfl ?_
 exact⟨rfl,(by repeat (first|exact Below.refl _ _|assumption|refine JZ ?_ (by assumption)|refine Below.drew ?_|refine Below.alloc ?_ (by first|(simp;done)|(simp;omega)|omega) _|refine Below.setCell ?_ (by first|(simp;done)|(simp;omega)|omega) _))⟩
end
end Go.Proofs.YtkenebbjodcbcaaGreatDoor
